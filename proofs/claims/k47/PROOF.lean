import PyProof.Rows.All
import Wide.All
import OpenK.AllK
import Wide.FinOn
import Lean
import PyProof.EqAt
import PyProof.EqKinds
import PyProof.TupleCall
import PyProof.StrReplace2
import PyProof.DictItems
import PyProof.EnumStmt
import PyProof.EnumFor
import PyProof.DictItemsLoops
import PyProof.ZipIter
import PyProof.IsRules
import PyProof.Rows.SortRev
import KE.KIntText
import OpenK.KRaise
import KE.TryInHelper
import PyProof.RulesRaise
import PyProof.Rows.RaiseClass
import PyProof.RaisesMany
import PyProof.ExcClass3
import PyProof.ExcBaseAll.ValueError
import KE.KTryMore
import PyProof.InstStoreFacts
import OpenK.KMake
import PyProof.ExcAttrAll.ValueError
import KE.KIsAll
import OpenK.KWalk
import OpenK.KDescr
import PyProof.PureStr
import PyProof.ExcStr
import PyProof.CallStr
import KE.KCallOwn
import KE.KSortTup
import PyProof.Rows.StrCut
import PyProof.StrBlock
import KE.IntTextLaws
import PyProof.DictValues
import PyProof.DictWalks
import PyProof.Rows.Range3
import KE.KDictOf
import KE.KRevIter
import KE.KDictList
import PyProof.EqAt
import PySem.Challenge.RW_cabinet_k47_whole_apart_turns
set_option compiler.extract_closed false
set_option Elab.async false
set_option linter.all false
set_option maxRecDepth 100000
set_option maxHeartbeats 4000000
section
variable{t1 t2 t3 t4 t5:Type}{G:Prop}{p00 p01 p02 p03 p04 p05:Prop}{p11 p12 p13 p14 p15:t1→Prop}{p22 p23 p24 p25:t1→t2→Prop}{p33 p34 p35:t1→t2→t3→Prop}{p44 p45:t1→t2→t3→t4→Prop}{p55:t1→t2→t3→t4→t5→Prop}
theorem oA(h:p00∧p01)(k:p00→p01→G):G:=by obtain⟨a,b⟩:=h;exact k a b
theorem oAA(h:p00∧p01∧p02)(k:p00→p01→p02→G):G:=by obtain⟨a,b,c⟩:=h;exact k a b c
theorem xI(h:p00∧p01∧p02∧p03)(k:p00→p01→p02→p03→G):G:=by obtain⟨a,b,c,d⟩:=h;exact k a b c d
theorem vS(h:p00∧p01∧p02∧p03∧p04)(k:p00→p01→p02→p03→p04→G):G:=by obtain⟨a,b,c,d,e⟩:=h;exact k a b c d e
theorem zQ(h:p00∧p01∧p02∧p03∧p04∧p05)(k:p00→p01→p02→p03→p04→p05→G):G:=by obtain⟨a,b,c,d,e,f⟩:=h;exact k a b c d e f
theorem yAv(h:p00∧p01∧p02∧p03∧(∃e,p15 e))(k:p00→p01→p02→p03→∀e,p15 e→G):G:=by obtain⟨a,b,c,d,e,f⟩:=h;exact k a b c d e f
theorem zSd(h:p00∧p01∧p02∧(∃d,p14 d∧p15 d))(k:p00→p01→p02→∀d,p14 d→p15 d→G):G:=by obtain⟨a,b,c,d,e,f⟩:=h;exact k a b c d e f
theorem yAo(h:p00∧p01∧(∃c,p13 c∧p14 c))(k:p00→p01→∀c,p13 c→p14 c→G):G:=by obtain⟨a,b,c,d,e⟩:=h;exact k a b c d e
theorem yAt(h:p00∧(∃b,∃c,p23 b c∧p24 b c∧p25 b c))(k:p00→∀b,∀c,p23 b c→p24 b c→p25 b c→G):G:=by obtain⟨a,b,c,d,e,f⟩:=h;exact k a b c d e f
theorem oE(h:∃a,p11 a)(k:∀a,p11 a→G):G:=by obtain⟨a,b⟩:=h;exact k a b
theorem oEA(h:∃a,p11 a∧p12 a)(k:∀a,p11 a→p12 a→G):G:=by obtain⟨a,b,c⟩:=h;exact k a b c
theorem yX(h:∃a,p11 a∧p12 a∧p13 a)(k:∀a,p11 a→p12 a→p13 a→G):G:=by obtain⟨a,b,c,d⟩:=h;exact k a b c d
theorem qD(h:∃a,p11 a∧p12 a∧p13 a∧p14 a)(k:∀a,p11 a→p12 a→p13 a→p14 a→G):G:=by obtain⟨a,b,c,d,e⟩:=h;exact k a b c d e
theorem wS(h:∃a,p11 a∧p12 a∧p13 a∧p14 a∧p15 a)(k:∀a,p11 a→p12 a→p13 a→p14 a→p15 a→G):G:=by obtain⟨a,b,c,d,e,f⟩:=h;exact k a b c d e f
theorem oEE(h:∃a,∃b,p22 a b)(k:∀a,∀b,p22 a b→G):G:=by obtain⟨a,b,c⟩:=h;exact k a b c
theorem wB(h:∃a,∃b,p22 a b∧p23 a b)(k:∀a,∀b,p22 a b→p23 a b→G):G:=by obtain⟨a,b,c,d⟩:=h;exact k a b c d
theorem yM(h:∃a,∃b,p22 a b∧p23 a b∧p24 a b)(k:∀a,∀b,p22 a b→p23 a b→p24 a b→G):G:=by obtain⟨a,b,c,d,e⟩:=h;exact k a b c d e
theorem zX(h:∃a,∃b,p22 a b∧p23 a b∧p24 a b∧p25 a b)(k:∀a,∀b,p22 a b→p23 a b→p24 a b→p25 a b→G):G:=by obtain⟨a,b,c,d,e,f⟩:=h;exact k a b c d e f
theorem yDm(h:∃a,∃b,p22 a b∧(∃d,∃e,p45 a b d e))(k:∀a,∀b,p22 a b→∀d,∀e,p45 a b d e→G):G:=by obtain⟨a,b,c,d,e,f⟩:=h;exact k a b c d e f
theorem zSz(h:∃a,∃b,∃c,p33 a b c)(k:∀a,∀b,∀c,p33 a b c→G):G:=by obtain⟨a,b,c,d⟩:=h;exact k a b c d
theorem zAr(h:∃a,∃b,∃c,p33 a b c∧p34 a b c)(k:∀a,∀b,∀c,p33 a b c→p34 a b c→G):G:=by obtain⟨a,b,c,d,e⟩:=h;exact k a b c d e
theorem zZ(h:∃a,∃b,∃c,p33 a b c∧p34 a b c∧p35 a b c)(k:∀a,∀b,∀c,p33 a b c→p34 a b c→p35 a b c→G):G:=by obtain⟨a,b,c,d,e,f⟩:=h;exact k a b c d e f
theorem yK(h:∃a,∃b,∃c,∃d,p44 a b c d∧p45 a b c d)(k:∀a,∀b,∀c,∀d,p44 a b c d→p45 a b c d→G):G:=by obtain⟨a,b,c,d,e,f⟩:=h;exact k a b c d e f
theorem zY(h:∃a,∃b,∃c,∃d,∃e,p55 a b c d e)(k:∀a,∀b,∀c,∀d,∀e,p55 a b c d e→G):G:=by obtain⟨a,b,c,d,e,f⟩:=h;exact k a b c d e f

theorem nA(a:p00)(b:p01):p00∧p01:=⟨a,b⟩
theorem nAA(a:p00)(b:p01)(c:p02):p00∧p01∧p02:=⟨a,b,c⟩
theorem zYx(a:p00)(b:p01)(c:p02)(d:p03):p00∧p01∧p02∧p03:=⟨a,b,c,d⟩
theorem nAAEA(a:p00)(b:p01)(c:t1)(d:p13 c)(e:p14 c):p00∧p01∧(∃c,p13 c∧p14 c):=⟨a,b,c,d,e⟩
theorem yCz(a:p00)(b:p01)(c:t1)(d:t2)(e:p24 c d)(f:p25 c d):p00∧p01∧(∃c,∃d,p24 c d∧p25 c d):=⟨a,b,c,d,e,f⟩
theorem yAw(a:p00)(b:t1)(c:p12 b)(d:p13 b):p00∧(∃b,p12 b∧p13 b):=⟨a,b,c,d⟩
theorem zMy(a:p00)(b:t1)(c:p12 b)(d:p13 b)(e:p14 b)(f:p15 b):p00∧(∃b,p12 b∧p13 b∧p14 b∧p15 b):=⟨a,b,c,d,e,f⟩
theorem yEl(a:p00)(b:t1)(c:t2)(d:p23 b c)(e:p24 b c)(f:p25 b c):p00∧(∃b,∃c,p23 b c∧p24 b c∧p25 b c):=⟨a,b,c,d,e,f⟩
theorem nEA(a:t1)(b:p11 a)(c:p12 a):∃a,p11 a∧p12 a:=⟨a,b,c⟩
theorem zUs(a:t1)(b:p11 a)(c:p12 a)(d:p13 a):∃a,p11 a∧p12 a∧p13 a:=⟨a,b,c,d⟩
theorem zJx(a:t1)(b:p11 a)(c:p12 a)(d:p13 a)(e:p14 a):∃a,p11 a∧p12 a∧p13 a∧p14 a:=⟨a,b,c,d,e⟩
theorem yBy(a:t1)(b:p11 a)(c:p12 a)(d:p13 a)(e:p14 a)(f:p15 a):∃a,p11 a∧p12 a∧p13 a∧p14 a∧p15 a:=⟨a,b,c,d,e,f⟩
theorem yAz(a:t1)(b:p11 a)(c:p12 a)(d:p13 a)(e:t2)(f:p25 a e):∃a,p11 a∧p12 a∧p13 a∧(∃e,p25 a e):=⟨a,b,c,d,e,f⟩
theorem yBj(a:t1)(b:p11 a)(c:p12 a)(d:t2)(e:t3)(f:p35 a d e):∃a,p11 a∧p12 a∧(∃d,∃e,p35 a d e):=⟨a,b,c,d,e,f⟩
theorem nEAE(a:t1)(b:p11 a)(c:t2)(d:p23 a c):∃a,p11 a∧(∃c,p23 a c):=⟨a,b,c,d⟩
theorem kW(a:t1)(b:p11 a)(c:t2)(d:p23 a c)(e:p24 a c):∃a,p11 a∧(∃c,p23 a c∧p24 a c):=⟨a,b,c,d,e⟩
theorem zEw(a:t1)(b:p11 a)(c:t2)(d:p23 a c)(e:p24 a c)(f:p25 a c):∃a,p11 a∧(∃c,p23 a c∧p24 a c∧p25 a c):=⟨a,b,c,d,e,f⟩
theorem qW(a:t1)(b:p11 a)(c:t2)(d:p23 a c)(e:t3)(f:p35 a c e):∃a,p11 a∧(∃c,p23 a c∧(∃e,p35 a c e)):=⟨a,b,c,d,e,f⟩
theorem nEEA(a:t1)(b:t2)(c:p22 a b)(d:p23 a b):∃a,∃b,p22 a b∧p23 a b:=⟨a,b,c,d⟩
theorem zDt(a:t1)(b:t2)(c:p22 a b)(d:p23 a b)(e:p24 a b)(f:p25 a b):∃a,∃b,p22 a b∧p23 a b∧p24 a b∧p25 a b:=⟨a,b,c,d,e,f⟩
theorem yDs(a:t1)(b:t2)(c:p22 a b)(d:p23 a b)(e:t3)(f:p35 a b e):∃a,∃b,p22 a b∧p23 a b∧(∃e,p35 a b e):=⟨a,b,c,d,e,f⟩
theorem kE(a:t1)(b:t2)(c:t3)(d:p33 a b c)(e:p34 a b c)(f:p35 a b c):∃a,∃b,∃c,p33 a b c∧p34 a b c∧p35 a b c:=⟨a,b,c,d,e,f⟩
end

section
open PySem renaming Value→V0,Addr→V1,Shared→V2,Program→V3,World→V4,Heap→V5,Stmt→V6,FuncData→V7,wpAny→V8,sizeLine→V9,mainGlobals→A0,bootBuiltins→A1,starEach→A2,compareOp→A3,sysModules→A4,standAt→S0,swapsWith→S1,backTo→S2,model→S5,assignEach→S6,Env→S7
open PySem.Str renaming ofString→A5
open PySem.W renaming Frag→A6,keepIn→A7,nsIn→A8,codeIn→A9
open PySem.NameKind renaming free→S3
open PySem.Builtin.Range renaming rangeSize→S4
theorem O.{u}{α:Sort u}{a:α}:a=a:=rfl
section
open Option renaming some→Y
set_option hygiene false
local macro_rules|`(tactic|let $d:letDecl)=>`(tactic|have $d:letDecl)
local macro_rules|`(tactic|lk)=>`(tactic|walk_at "rd3")
local macro_rules|`(∅)=>`(by lia)
local macro_rules|`(∎)=>`(by decide)
local macro_rules|`(tb_g%)=>`(by walk_at "wu")
local macro_rules|`(↥$x)=>`(some $x)
local macro_rules|`($x...*)=>`(($x).length)
local macro_rules|`($x⁻¹)=>`(($x).heap.objs.size)
local macro_rules|`({$x:term,*})=>`(⟨$x,*⟩)
set_option hygiene true
local macro_rules|`(tactic|ext $x*)=>let a:Array Lean.Term:=x.map fun s=>⟨if s.raw[0].isOfKind `Lean.Parser.Tactic.rcasesPat.one then s.raw[0][0] else Lean.mkNode `Lean.Parser.Term.hole #[Lean.mkAtom "_"]⟩;let f:=a[0]!;let z:=a[1]!;let r:=a.extract 2 a.size;`(tactic|(revert $z;intro z_;refine $f z_ fun $r* =>?_;clear z_))
namespace L2
open PySem PySem.Spec PyProof.Rows
abbrev mC:=@wpAny_bind
abbrev mD:=@Nat.le_refl
abbrev mE:=@List.mem_cons_self
abbrev mF:=@List.mem_singleton
abbrev mG:=@List.mem_cons
abbrev mH:=@if_neg
abbrev mI:=@List.mem_cons_of_mem
abbrev mJ:=@if_pos
abbrev mK:=@List.length_append
abbrev mL:=@Heap.get?_push_of_some
abbrev mM:=@List.length_map
abbrev mN:=@List.getElem?_eq_some_iff
abbrev mO:=@List.mem_of_getElem?
abbrev mP:=@List.length_cons
abbrev mQ:=@Heap.lt_size
abbrev mS:=@True.intro
abbrev mT:=@List.size_toArray
abbrev mU:=@List.getElem?_eq_getElem
abbrev mV:=@sizeLine_eq
abbrev mW:=@Option.some.inj
abbrev mX:=@Bool.false_ne_true
abbrev mY:=@wpAny_pure
abbrev mZ:=@Heap.get?_update_other
abbrev nB:=@List.mem_append_right
abbrev nD:=@List.map_cons
abbrev nE:=@List.mem_append
abbrev nF:=@Nat.lt_of_lt_of_le
abbrev nG:=@List.getElem?_map
abbrev nH:=@List.map_append
abbrev nI:=@Heap.get?_push_size
abbrev nJ:=@decide_eq_false
abbrev nL:=@Nat.zero_le
abbrev nM:=@List.length_singleton
abbrev nN:=@Nat.ne_of_lt
abbrev nO:=@decide_eq_true
abbrev nP:=@Nat.le_trans
abbrev nQ:=@List.length_take
abbrev nR:=@Or.inl
abbrev nS:=@List.append_nil
abbrev nU:=@List.getElem?_append_right
abbrev nV:=@PySem.F.plainAttrs_list
abbrev nW:=@List.mem_append_left
abbrev nX:=@Bool.and_eq_true
abbrev nY:=@List.nodup_cons
abbrev nZ:=@List.mem_map
abbrev pA:=@Array.getElem?_eq_some_iff
abbrev pB:=@List.getElem?_append_left
abbrev pC:=@wpAny_mono
abbrev pG:=@List.not_mem_nil
abbrev pH:=@List.take_length
abbrev pJ:=@List.getElem?_cons_zero
abbrev pK:=@W.mg_none_of
abbrev pL:=@List.length_nil
abbrev pM:=@List.drop_eq_getElem_cons
abbrev pO:=@decide_eq_true_eq
abbrev pP:=@Nat.le_succ
abbrev pQ:=@Array.getElem?_setIfInBounds_ne
abbrev pU:=@PySem.F.slot_list_append
abbrev pV:=@List.filterMap_cons
abbrev pW:=@List.all_eq_true
abbrev pY:=@List.drop_of_length_le
abbrev pZ:=@List.length_drop
abbrev rA:=@Nat.succ_le_succ
abbrev rB:=@List.replicate_succ
abbrev rC:=@PyProof.Rows.callWith_type1
abbrev rD:=@wpAny_holding
abbrev rE:=@Heap.get?_none_of_le
abbrev rF:=@wpAny_Call_Name_kw
abbrev rG:=@Option.map_eq_some_iff
abbrev rH:=@List.take_of_length_le
abbrev rJ:=@wpAny_field
abbrev rK:=@List.map_congr_left
abbrev rL:=@wpAny_truthy_bool
abbrev rM:=@Nat.ne_of_gt
abbrev rN:=@List.length_replicate
abbrev rO:=@PySem.F.type_list_append
abbrev rP:=@Int.emod_lt_of_pos
abbrev rQ:=@wpAny_typeOf_ref
abbrev rR:=@wpAny_standAt
abbrev rT:=@beq_eq_false_iff_ne
abbrev rV:=@PySem.mem_of_lookup
abbrev rW:=@Int.emod_nonneg
abbrev rX:=@codeAny_mono
abbrev rY:=@List.lookup_cons
abbrev rZ:=@List.filter_cons_of_pos
abbrev sA:=@List.filter_cons_of_neg
abbrev sB:=@List.flatten_cons
abbrev sC:=@List.map_map
abbrev sD:=@Nat.le_add_right
abbrev sE:=@Array.getElem?_toList
abbrev sF:=@List.getElem?_eq_none
abbrev sG:=@wpAny_setField
abbrev sH:=@List.contains_cons
abbrev sI:=@List.perm_append_comm
abbrev sJ:=@Array.size_setIfInBounds
abbrev sK:=@Nat.not_lt_zero
abbrev sL:=@List.mem_of_mem_take
abbrev sM:=@List.append_assoc
abbrev sN:=@W.mg_of
abbrev sO:=@Nat.lt_irrefl
abbrev sP:=@Array.getElem?_setIfInBounds_self_of_lt
abbrev sQ:=@Int.eq_ofNat_of_zero_le
abbrev sR:=@PySem.F.slot_list_index
abbrev sS:=@List.drop_length
abbrev sT:=@or_false
abbrev sU:=@List.getElem?_set_self
abbrev sV:=@W.kia_one
abbrev sW:=@wpAny_passesOwn
abbrev sX:=@of_decide_eq_true
abbrev sY:=@Nat.le_succ_of_le
abbrev sZ:=@List.getElem?_set_ne
abbrev tD:=@call_meets
abbrev tE:=@Heap.size_push
abbrev tF:=@List.drop_zero
abbrev tG:=@Nat.le_of_lt
abbrev tH:=@Bool.or_true
abbrev tI:=@Array.length_toList
abbrev tJ:=@PySem.F.type_list_index
abbrev tK:=@List.getLast?_cons_cons
abbrev tL:=@wpAny_execs_nil
abbrev tM:=@Bool.eq_iff_iff
abbrev tO:=@List.find?_cons
abbrev tP:=@Calls.callWith_builtin
abbrev tQ:=@List.eq_nil_of_length_eq_zero
abbrev tR:=@Int.toNat_natCast
abbrev tS:=@List.map_nil
abbrev tT:=@List.dropLast_concat_getLast
abbrev tU:=@List.take_append_drop
abbrev tV:=@Nat.lt_succ_self
abbrev tW:=@Nat.mul_le_mul_right
abbrev tX:=@Nat.not_succ_le_zero
abbrev tY:=@ks_wpAny_isType_inst
abbrev tZ:=@List.mem_of_mem_drop
abbrev aA:=@List.getD_eq_getElem?_getD
abbrev aB:=@Bool.true_and
abbrev aD:=@List.mem_filter
abbrev aE:=@List.nil_append
abbrev aF:=@Nat.le_add_left
abbrev aG:=@List.getLast?_eq_none_iff
abbrev aH:=@List.getLast?_eq_getElem?
abbrev aI:=@Calls.spliced_cons
abbrev aJ:=@Option.isSome_iff_exists
abbrev aK:=@List.all_map
abbrev aL:=@wpAny_comprehension_free
abbrev aM:=@Bool.false_and
abbrev aO:=@wpAny_call
abbrev aP:=@Bool.and_false
abbrev aQ:=@List.getElem?_replicate
abbrev aR:=@PySem.F.plainAttrs_dict
abbrev aS:=@List.getElem?_cons_succ
abbrev aT:=@Calls.spliced_nil
abbrev aU:=@List.reverse_cons
abbrev aV:=@List.nodup_append
abbrev aW:=@Nat.lt_succ_of_le
abbrev aX:=@Or.inr
abbrev aY:=@List.drop_eq_nil_of_le
abbrev aZ:=@List.set_eq_take_append_cons_drop
abbrev bA:=@wpAny_execs_cons
abbrev bB:=@List.getElem_mem
abbrev bC:=@Nat.min_eq_right
abbrev bD:=@decide_eq_decide
abbrev bE:=@Heap.get?_update_self
abbrev bF:=@List.mem_iff_getElem?
abbrev bG:=@plainObj_wpAny_Assign_Attribute
abbrev bH:=@List.of_mem_zip
abbrev bI:=@PyProof.Rows.callWith_builtin1
abbrev bJ:=@List.length_set
abbrev bK:=@List.foldl_cons
abbrev bL:=@Nat.lt_trans
abbrev bM:=@Nat.min_eq_left
abbrev bN:=@F.excBase_ValueError
abbrev bO:=@List.take_left'
abbrev bP:=@F.slot_dict_itemiterator_iter
abbrev bQ:=@List.getLast?_eq_some_getLast
abbrev bS:=@wpAny_isSubtype_exc
abbrev bT:=@List.length_reverse
abbrev bU:=@List.mem_range
abbrev bV:=@List.nodup_nil
abbrev bW:=@W.kitx_dict
abbrev bX:=@tupleKind_room_in1
abbrev bY:=@List.pairwise_cons
abbrev bZ:=@List.idxOf_lt_length_of_mem
abbrev cA:=@List.set_cons_zero
abbrev cD:=@List.set_cons_succ
abbrev cE:=@List.any_cons
abbrev cF:=@wpAny_assign_Name
abbrev cG:=@wpAny_pyIter_list
abbrev cI:=@PySem.list_append
abbrev cJ:=@wpAny_newObj_type
abbrev cK:=@List.filter_cons
abbrev cL:=@List.any_eq_true
abbrev cM:=@beq_self_eq_true
abbrev cN:=@Nat.sub_zero
abbrev cO:=@List.cons_append
abbrev cP:=@eq_false
abbrev cQ:=@Nat.le_max_left
abbrev cR:=@exists_eq_left'
abbrev cS:=@W.kitx_list
abbrev Key:=Sum Int Str
def zFg:Key->V0->Bool
 |.inl k,v=>Value.isInt k v|.inr x,v=>Value.isStrOf x v
def keyH(w:V4):Key->Int
 |.inl k=>hashInt k|.inr x=>hashStr w x
theorem xQ:∀{k:Key}{v:V0},zFg k v=true->(∃i t,k=Sum.inl i/\v=Value.int i t)\/(∃x t,k=Sum.inr x/\v=Value.str x t)
 |.inl i,v,h=>by
  obtain⟨t,e⟩:=Value.isInt_shape (k:=i) (v:=v) h;exact .inl ⟨i,t,O,e⟩
 |.inr x,v,h=>by
  obtain⟨t,e⟩:=Value.isStrOf_shape (x:=x) (v:=v) h;exact .inr ⟨x,t,O,e⟩
theorem zRo(i:Int)(t:Tok):zFg (.inl i) (.int i t)=true:=by simp[zFg,Value.isInt]
theorem zQb(x:Str)(t:Tok):zFg (.inr x) (.str x t)=true:=by simp[zFg,Value.isStrOf]
theorem yAs(a b:Int):decide ((Sum.inl a:Key)=Sum.inl b)=(a==b):=by
 by_cases e:a=b
 ·subst e;simp
 ·let h:¬(Sum.inl a:Key)=Sum.inl b:=λq=>e (Sum.inl.inj q)
  rw[nJ h];exact(rT.mpr e).symm
theorem yCx(a b:Str):decide ((Sum.inr a:Key)=Sum.inr b)=decide (a=b):=by
 by_cases e:a=b
 ·subst e;simp
 ·let h:¬(Sum.inr a:Key)=Sum.inr b:=λq=>e (Sum.inr.inj q)
  rw[nJ h,nJ e]
theorem yDn(a:Int)(b:Str):decide ((Sum.inl a:Key)=Sum.inr b)=false:=nJ (λq=>nomatch q)
theorem yBg(a:Str)(b:Int):decide ((Sum.inr a:Key)=Sum.inl b)=false:=nJ (λq=>nomatch q)
def yW(prog:V3)(w:V4):PySem.KeyKind prog w Key where
 is:=zFg
 hash:=keyH w
 inj:=λv a b l f=>by
  rcases xQ l with⟨i,t,rfl,rfl⟩|⟨x,t,rfl,rfl⟩
  ·rcases xQ f with⟨j,u,rfl,e⟩|⟨y,u,rfl,e⟩
   ·injection e with c _;rw[c]
   ·exact nomatch e
  ·rcases xQ f with⟨j,u,rfl,e⟩|⟨y,u,rfl,e⟩
   ·exact nomatch e
   ·injection e with c _;rw[c]
 byValue:=λk v h=>by
  rcases xQ h with⟨i,t,rfl,rfl⟩|⟨x,t,rfl,rfl⟩<;>rfl
 pyHash:=λd h=>by
  rcases xQ d with⟨i,t,rfl,rfl⟩|⟨x,t,rfl,rfl⟩
  ·exact wpAny_pyHash_int h
  ·exact wpAny_pyHash_str h
 eqBool:=λg d h=>by
  rcases xQ g with⟨i,t,rfl,rfl⟩|⟨x,t,rfl,rfl⟩
  ·rcases xQ d with⟨j,u,rfl,rfl⟩|⟨y,u,rfl,rfl⟩
   ·rw[yAs] at h;exact wpAny_eqBool_int h
   ·rw[yDn] at h;exact SeqAt.EqAt.int_str i t y u _ _ _ _ h
  ·rcases xQ d with⟨j,u,rfl,rfl⟩|⟨y,u,rfl,rfl⟩
   ·rw[yBg] at h;exact SeqAt.EqAt.str_int x t j u _ _ _ _ h
   ·rw[yCx] at h;exact wpAny_eqBool_str h
 «strs»:=λk x t v h=>by
  rcases xQ h with⟨i,u,rfl,e⟩|⟨y,u,rfl,e⟩
  ·exact nomatch e
  ·injection e with c _
   subst c;cases v<;>rfl
theorem zKe(prog:V3)(w:V4)(i:Int)(t:Tok):(yW prog w).is (.inl i) (.int i t)=true:=zRo i t
theorem zKy(prog:V3)(w:V4)(x:Str)(t:Tok):(yW prog w).is (.inr x) (.str x t)=true:=zQb x t
inductive V where
 |non | bl (b:Bool)| int (i:Int)| str (x:Str)| byt (b:Array UInt8)| flt (b:UInt64)| ref (a:V1)| ty (n:String)
 deriving DecidableEq
def RelV:V->V0->Prop
 |.non,u=>u=Value.none|.bl b,u=>u=Value.bool b|.int i,u=>∃t,u=Value.int i t|.str x,u=>∃t,u=Value.str x t|.byt b,u=>∃t,u=Value.bytes b t|.flt b,u=>∃t,u=Value.float b t|.ref a,u=>u=Value.ref a|.ty n,u=>u=Value.type n
abbrev Vals:List V->List V0->Prop:=Paired RelV
abbrev _root_.B3:=List V
abbrev _root_.B7:=List V0
theorem Vals.length{xs:B3}{us:B7}(r:Vals xs us):xs...*=us...*:=Paired.length r
theorem Vals.get:∀{xs:B3}{us:B7}{i:Nat}{x:V},Vals xs us->xs[i]? =Y x->∃u,us[i]? =Y u/\RelV x u
 |_,_,_,_, .nil,e=>by simp at e|_,_,0,_, .cons r _,e=>by simp at e;subst e;exact⟨_,O,r⟩|_,_,i+1,x, .cons _ t,e=>by
  obtain⟨u,b,a⟩:=Vals.get (i:=i) (x:=x) t (by simpa using e);exact{u,by simpa using b,a}
theorem Vals.set{x:V}{u:V0}(r:RelV x u):∀{xs:B3}{us:B7}(i:Nat),Vals xs us->Vals (xs.set i x) (us.set i u)
 |_,_,_, .nil=>.nil|_,_,0, .cons _ t=>.cons r t|_,_,i+1, .cons q t=>.cons q (Vals.set r i t)
theorem Vals.append:∀{xs ys:B3}{us a:B7},Vals xs us->Vals ys a->Vals (xs++ys) (us++a)
 |_,_,_,_, .nil,s=>s|_,_,_,_, .cons r t,s=>.cons r (Vals.append t s)
theorem Vals.take:∀{xs:B3}{us:B7}(n:Nat),Vals xs us->Vals (xs.take n) (us.take n)
 |_,_,0,_=>.nil|_,_,_+1, .nil=>.nil|_,_,n+1, .cons r t=>.cons r (Vals.take n t)
theorem Vals.drop:∀{xs:B3}{us:B7}(n:Nat),Vals xs us->Vals (xs.drop n) (us.drop n)
 |_,_,0,r=>r|_,_,_+1, .nil=>.nil|_,_,n+1, .cons _ t=>Vals.drop n t
def RelO:Option V->Option V0->Prop
 |some v,Y u=>RelV v u|none,none=>True|_,_=>False
def KV{κ:Type}:List (κ×V)->List (κ×V0)->Prop:=Paired fun(p:κ×V) (q:κ×V0)=>p.1=q.1/\RelV p.2 q.2
def kV:Key->V
 |.inl i=>.int i|.inr x=>.str x
abbrev _root_.D0:=List (Key×V)
inductive HO where
 |lst (xs:B3)
 |tup (xs:B3)
 |dK (kvs:D0)| dT (kvs:List (List Key×V))
 |set (S:Int->Bool) (n:Nat)
 |ins (C dx:V1) (fs:List (Str×V))
 |own (x:V1)
 |xd (fs:List (Str×V))
 |met (f x:V1)
 |rng (lo hi:Int)
 |frz (o:Obj) (u:HO)
 |tbl (ps:Array V0)
 |ext (φ:V5->Prop)
abbrev Hp:=V1->Option HO
def upd(H:Hp)(a:V1)(o:HO):Hp:=λb=>if b=a then Y o else H b
theorem zC{H:Hp}{a:V1}{o:HO}:upd H a o a=Y o:=by unfold upd;rw[mJ O]
theorem zK{H:Hp}{a b:V1}{o:HO}(h:b≠a):upd H a o b=H b:=by unfold upd;rw[mH h]
theorem zHh{H:Hp}{a:V1}{o u:HO}:upd (upd H a o) a u=upd H a u:=by
 funext b;unfold upd;split<;>rfl
theorem ne_of{H:Hp}{a b:V1}{o u:HO}(h:H a=Y o)(h':H b=Y u)(d:o≠u):a≠b:=by
 intro e;subst e;rw[h] at h';exact d (mW h')
theorem yD{H:Hp}{a b:V1}{o:HO}(h:H a=Y o)(h':H b=none):a≠b:=by
 intro e;subst e;rw[h] at h';cases h'
section
variable(P:V3)(w:V4)
def ObjOk(H:Hp)(h:V5)(a:V1):HO->Prop
 |.lst c=>c...*<=V9/\∃(b:B7)(n:Nat),Vals c b/\h.get? a=some {cls:=.type "list",data:=.seq b.toArray n}|.tup c=>c...*<=V9/\∃b:List V0,Vals c b/\IsTup h a b.toArray|.dK kvs=>kvs...*<=V9/\(a==A4)=false/\∃l,KV kvs l/\h.DictOf (yW P w) a l|.dT kvs=>kvs...*<=V9/\(a==A4)=false/\∃c:List (List Key×V1×V0),
   Paired (fun(p:List Key×V) (q:List Key×V1×V0)=>p.1=q.1/\H q.2.1=Y (.tup (p.1.map kV))/\RelV p.2 q.2.2) kvs c/\
   ∃o k m,h.get? a=Y o/\o.ExactDict/\o.data= .dict k m/\k.toList=c.map (entryOfKey (tupleKind (yW P w)))/\(c.map (·.1)).Nodup
 |.set S n=>h.SetOf (intKind P w) a S n|.ins C g e=>H g=Y (.own a)/\e...*<=1000/\g≠a/\h.get? a=Y (W.instObj C g)/\
   ∃d,h.Ns1 g d/\(∀f,RelO (e.lookup f) (d f))/\PySem.Within d (e.map (·.1))
 |.own _=>∃o,h.get? a=Y o|.xd e=>∃d,h.Ns1 a d/\∀f,RelO (e.lookup f) (d f)|.rng lo r=>∃t u v,h.get? a=some {cls:=.type "range",data:=.fields #[.int lo t, .int r u, .int 1 v]}|.frz o u=>h.get? a=Y o/\ObjOk H h a u|.tbl ps=>h.get? a=some {cls:=.none,data:=.fields ps}|.met f x=>h.get? a=Y (W.methodObj (.ref f) (.ref x))|.ext φ=>φ h/\(∃o,h.get? a=Y o)/\∀j i:V5,φ j->(∀o,j.get? a=Y o->i.get? a=Y o)->φ i
def HOk(H:Hp)(h:V5):Prop:=∀a o,H a=Y o->ObjOk P w H h a o
end
section
variable{P:V3}{w:V4}{H H':Hp}{h h':V5}{a:V1}{o:HO}
theorem ObjOk.lt(x:ObjOk P w H h a o):a<h.objs.size:=by
 cases o with
 |lst c=>obtain⟨_,_,_,_,e⟩:=x;exact mQ e
 |tup c=>obtain⟨_,_,_,p⟩:=x;exact p.lt
 |dK b=>obtain⟨_,_,_,_,o,_,_,e,_⟩:=x;exact mQ e
 |dT b=>obtain⟨_,_,_,_,o,_,_,e,_⟩:=x;exact mQ e
 |set S n=>obtain⟨o,_,_,_,e,_⟩:=x;exact mQ e
 |ins C k d=>obtain⟨_,_,_,e,_⟩:=x;exact mQ e
 |own y=>obtain⟨_,e⟩:=x;exact mQ e
 |xd d=>obtain⟨_,⟨_,_,_,e,_⟩,_⟩:=x;exact mQ e
 |rng lo j=>obtain⟨_,_,_,e⟩:=x;exact mQ e
 |frz i u=>obtain⟨e,_⟩:=x;exact mQ e
 |tbl g=>exact mQ (show h.get? a=Y _ from x)|met f y=>exact mQ (show h.get? a=Y _ from x)|ext φ=>obtain⟨_,⟨_,e⟩,_⟩:=x;exact mQ e
theorem j4{α β:Type}{F G:α->β->Prop}:∀{l₁:List α}{l₂:List β},Paired F l₁ l₂->(∀a b,F a b->G a b)->Paired G l₁ l₂
 |_,_, .nil,_=>.nil|_,_, .cons r t,f=>.cons (f _ _ r) (j4 t f)
theorem ObjOk.stay(x:ObjOk P w H h a o)(k:∀b u,(b=a\/H b=Y (.own a))->h.get? b=Y u->h'.get? b=Y u)
  (E:∀b,H b=Y (.own a)->H' b=Y (.own a)) (M:∀b m,H b=Y (.tup m)->H' b=Y (.tup m)):ObjOk P w H' h' a o:=by
 induction o with
 |lst m=>obtain⟨z,l,n,r,e⟩:=x;exact{z,l,n,r,k _ _ (.inl O) e}
 |tup m=>obtain⟨z,l,r,g,e,c⟩:=x;exact{z,l,r,g,k _ _ (.inl O) e,c}
 |dK B=>obtain⟨z,y,Q,r,g,j,i,e,c⟩:=x;exact{z,y,Q,r,g,j,i,k _ _ (.inl O) e,c}
 |dT B=>
  obtain⟨z,y,m,r,g,j,i,e,c⟩:=x;exact{z,y,m,j4 r λp q z=>{z.1,M _ _ z.2.1,z.2.2},g,j,i,k _ _ (.inl O) e,c}
 |set S n=>obtain⟨g,j,i,t,e,c⟩:=x;exact{g,j,i,t,k _ _ (.inl O) e,c}
 |ins C dx J=>
  obtain⟨d,z,I,e,s,⟨A,j,i,L,c⟩,r⟩:=x;exact{E _ d,z,I,k _ _ (.inl O) e,s,{A,j,i,k _ _ (.inr d) L,c},r}
 |own y=>obtain⟨g,e⟩:=x;exact{g,k _ _ (.inl O) e}
 |xd J=>obtain⟨s,⟨A,j,i,e,c⟩,r⟩:=x;exact{s,{A,j,i,k _ _ (.inl O) e,c},r}
 |rng lo hi=>obtain⟨t,u,v,e⟩:=x;exact{t,u,v,k _ _ (.inl O) e}
 |frz g u N=>obtain⟨e,q⟩:=x;exact{k _ _ (.inl O) e,N q}
 |tbl D=>
  let e:h.get? a=some {cls:=.none,data:=.fields D}:=x;show h'.get? a=some {cls:=.none,data:=.fields D};exact k a _ (.inl O) e
 |met f y=>
  let e:h.get? a=Y (W.methodObj (.ref f) (.ref y)):=x;show h'.get? a=Y (W.methodObj (.ref f) (.ref y));exact k a _ (.inl O) e
 |ext φ=>obtain⟨p,⟨o,e⟩,st⟩:=x;exact{st _ _ p λo q=>k _ _ (.inl O) q,{o,k _ _ (.inl O) e},st}
theorem HOk.lt(x:HOk P w H h)(e:H a=Y o):a<h.objs.size:=(x a o e).lt
theorem HOk.fresh(x:HOk P w H h)(e:h.objs.size<=a):H a=none:=by
 cases q:H a with|none=>rfl|some u=>exact absurd (nF (x.lt q) e) (sO _)
theorem HOk.kept(x:HOk P w H h)(k:∀b u,h.get? b=Y u->h'.get? b=Y u):HOk P w H h':=λa o e=>
 (x a o e).stay (λb u _ q=>k b u q) (λ_ q=>q) λ_ _ q=>q
theorem HOk.laid(x:HOk P w H h)(k:∀b u,h.get? b=Y u->h'.get? b=Y u)(i:h.objs.size<=a)(d:ObjOk P w (upd H a o) h' a o):HOk P w (upd H a o) h':=λb u e=>by
 let f:=x.fresh i
 by_cases g:b=a
 ·subst g;rw[zC] at e;cases e;exact d
 ·rw[zK g] at e
  exact(x b u e).stay (λc v _ q=>k c v q) (λc q=>by rw[zK (yD q f)];exact q) λc j q=>by rw[zK (yD q f)];exact q
end
def Rd(H:Hp)(a:V1)(u:HO):Prop:=H a=Y u\/∃o,H a=Y (.frz o u)
theorem Rd.ok{P:V3}{w:V4}{H:Hp}{h:V5}{a:V1}{u:HO}(r:Rd H a u)(x:HOk P w H h):ObjOk P w H h a u:=by
 rcases r with r |⟨o,r⟩
 ·exact x a u r
 ·obtain⟨_,q⟩:=x a _ r
  exact q
def Mut:Option HO->Prop
 |some (.lst _)=>True|some (.dK _)=>True|some (.dT _)=>True|some (.set _ _)=>True|some (.ins _ _ _)=>True|some (.ext _)=>True|_=>False
section
variable{P:V3}{w:V4}{H:Hp}{h h':V5}{x e:V1}{o':HO}
theorem HOk.write(p:HOk P w H h)(i:Mut (H x))(o:e=x\/H e=Y (.own x))(k:∀b u,b≠e->h.get? b=Y u->h'.get? b=Y u)(m:∃u,h'.get? e=Y u)
  (l:ObjOk P w (upd H x o') h' x o'):HOk P w (upd H x o') h':=λb u q=>by
 let d:∀c y,H c=Y (.own y)->c≠x:=λc y r z=>by subst z;rw[r] at i;exact i
 let f:∀c g,H c=Y (.tup g)->c≠x:=λc g r z=>by subst z;rw[r] at i;exact i
 by_cases j:b=x
 ·subst j;rw[zC] at q;cases q;exact l
 ·rw[zK j] at q
  by_cases a:b=e
  ·let n:H b=Y (.own x):=by
    rcases o with z | z
    ·exact absurd (a.trans z) j
    ·rw[a];exact z
   rw[q] at n;cases n;obtain⟨v,s⟩:=m;exact{v,by rw[a];exact s}
  ·refine(p b u q).stay (λc v hc r=>k c v ?_ r) (λc r=>by rw[zK (d c b r)];exact r) λc g r=>by rw[zK (f c g r)];exact r
   rcases hc with rfl | hc
   ·exact a
   ·rintro rfl
    rcases o with z | z
    ·exact d c b hc z
    ·rw[hc] at z;cases z;exact j O
end
abbrev _root_.B9:=List V1
structure Un(fs ex:B9)(H H':Hp)(h h':V5):Prop where
 keep:∀b o,h.get? b=Y o->H b=none->b∉fs->b∉ex->h'.get? b=Y o
 slot:∀b o,h.get? b=Y o->H b=none->b∈fs->b∉ex->∃sl,h'.get? b=some {o with slots:=sl}
 free:∀b o,h.get? b=Y o->H b=none->b∉ex->H' b=none
 there:∀b o,h.get? b=Y o->b∉ex->∃o',h'.get? b=Y o'
 tups:∀b xs,H b=Y (.tup xs)->H' b=Y (.tup xs)
 frzs:∀b o u,H b=Y (.frz o u)->H' b=Y (.frz o u)
 tbls:∀b ps,H b=Y (.tbl ps)->∃more,H' b=Y (.tbl (ps++more))
section
variable{fs fs' ex ex':B9}{H H1 H2:Hp}{h h1 h2 h':V5}{a x e:V1}{o:HO}
theorem Un.any(u:Un fs ex H H1 h h1){b:V1}{c:Obj}(q:h.get? b=Y c)(n:H b=none)(f:b∉ex):∃g,h1.get? b=some {c with slots:=g}:=by
 by_cases d:b∈fs
 ·exact u.slot b c q n d f
 ·exact{c.slots,u.keep b c q n d f}
theorem Un.kept(k:∀b u,h.get? b=Y u->h'.get? b=Y u):Un fs ex H H h h':=
 {λb c q _ _ _=>k b c q,λb c q _ _ _=>{c.slots,k b c q},λ_ _ _ n _=>n,λb c q _=>{c,k b c q},λ_ _ q=>q,λ_ _ _ q=>q,λ_ d q=>{#[],by rw[q];simp}}
theorem Un.refl:Un fs ex H H h h:=Un.kept λ_ _ q=>q
theorem Un.laid(k:∀b u,h.get? b=Y u->h'.get? b=Y u)(f:h.objs.size<=a)(c:H a=none):Un fs ex H (upd H a o) h h' where
 keep:=λb u q _ _ _=>k b u q
 slot:=λb u q _ _ _=>{u.slots,k b u q}
 free:=λb u q n _=>by rw[zK (nN (nF (mQ q) f))];exact n
 there:=λb u q _=>{u,k b u q}
 tups:=λb d q=>by rw[zK (yD q c)];exact q
 frzs:=λb u d q=>by rw[zK (yD q c)];exact q
 tbls:=λb g q=>{#[],by rw[zK (yD q c),q];simp}
theorem Un.write(d:Mut (H x))(m:e=x\/H e=Y (.own x))(k:∀b u,b≠e->h.get? b=Y u->h'.get? b=Y u)(g:∃u,h'.get? e=Y u):Un fs ex H (upd H x o) h h':=by
 let i:∀b,H b=none->b≠x:=λb n z=>by subst z;rw[n] at d;exact d
 let j:∀b,H b=none->b≠e:=λb n z=>by
  subst z;rcases m with r | r
  ·exact i b n r
  ·rw[n] at r;cases r
 let f:∀b u,H b=Y u->¬Mut ↥u->b≠x:=λb u q p z=>by subst z;rw[q] at d;exact p d
 refine{λb u q n _ _=>k b u (j b n) q,λb u q n _ _=>{u.slots,k b u (j b n) q},λb u q n _=>by rw[zK (i b n)];exact n,λb u q _=>?_,
  λb l q=>by rw[zK (f b _ q λz=>z)];exact q,λb u l q=>by rw[zK (f b _ q λz=>z)];exact q,λb s q=>{#[],by rw[zK (f b _ q λz=>z),q];simp}}
 by_cases c:b=e
 ·subst c;exact g
 ·exact{u,k b u c q}
end
def trk(h:V5)(H:Hp):List V1:=(List.range h.objs.size).filter λa=>(H a).isSome
def zHy(h:V5)(H:Hp):V5:=W.hideAll h (trk h H)
theorem zQw(h:V5)(H:Hp):(zHy h H).objs.size=h.objs.size:=W.hideAll_size _ _
theorem zRx{h:V5}{H:Hp}{b:V1}{o:Obj}(e:h.get? b=Y o)(n:H b=none):(zHy h H).get? b=Y o:=
 W.hideAll_get _ e λa=>by
  let q:(H b).isSome=true:=(aD.mp a).2;rw[n] at q;simp at q
theorem zZa{h:V5}{H:Hp}{b:V1}{o:Obj}(e:(zHy h H).get? b=Y o):h.get? b=Y o/\H b=none:=by
 let a:h.get? b=Y o:=W.of_hideAll (trk h H) e;refine{a, ?_}
 cases q:H b with
 |none=>rfl|some x=>
  let c:b∈trk h H:=aD.mpr {bU.mpr (mQ a),by simp[q]};let z:(zHy h H).get? b=none:=W.hideAll_none (trk h H) c;rw[z] at e;cases e
def zXd(g h:V5)(L:V1):List (V1×Obj):=(List.range h.objs.size).filterMap λa=>if a=L\/(g.get? a).isSome=true then none else(h.get? a).map λo=>(a,o)
def rest(g h:V5)(L d:V1):List (V1×Obj):=(zXd g h L).filter λp=>decide (p.1≠d)
abbrev _root_.C8:=Str->Option V0
structure Mod(K:A6)(mg:C8)(base:V5):Prop where
 kin:K.In base
 glob:base.Ns A0 mg
 blt:∃mb,base.Ns builtinsNs mb/\∀x:Str,x≠ "__name__"->mb x=A1 x
 nolimit:base.NoLimit
structure Cx where
 prog:V3
 w:V4
 K:A6
 mg:Str->Option V0
 base:V5
 A:Around
 N:List Str
 s₀:V2
 H₀:Hp
 env:S7
 outer:List S7
 stack:List S7
 ex:List V1
 fn:Str->Bool
 calm:Bool
 pn:List (V1×Obj)
 xe:V0->V2->Prop
def frs(l:List S7):List V1:=l.filterMap (·.frame)
abbrev Cx.fs(X:Cx):List V1:=frs X.outer
def Vis(a:Scope)(x:Str):Prop:=a.names.lookup x=some .local\/a.names.lookup x=some .cell\/a.names.lookup x=some .free
def Loc(a:Scope)(x:Str):Prop:=a.names.lookup x=some .local\/a.names.lookup x=some .cell
def Look(a:S7)(h:V5)(m:C8)(x:Str)(u:V0):Prop:=
 (a.kindOf x=some .local/\m x=Y u)\/((a.kindOf x=some .cell\/a.kindOf x=some .free)/\∃c,a.cells.lookup x=Y c/\h.IsCell c ↥u)
structure Cx.Ok(X:Cx):Prop where
 mod:Mod X.K X.mg X.base
 kind:X.env.scope.kind= .function
 glob:X.env.globals=A0
 blt:X.env.builtins=builtinsNs
 above:X.s₀⁻¹<=X.env.locals
 inj:∀x y c,X.env.cells.lookup x=Y c->X.env.cells.lookup y=Y c->x=y
 has:∀x,(X.env.kindOf x=some .cell\/X.env.kindOf x=some .free)->∃c,X.env.cells.lookup x=Y c
 cab:∀x c,X.fn x=true->X.env.cells.lookup x=Y c->X.s₀⁻¹<=c
 hd:X.calm=true->X.A.handled=none
 frames:X.A.frames=Y X.stack
 stk:X.stack=X.outer\/(X.stack=X.env::X.outer/\X.env.frame=Y X.env.locals)
 exf:∀b∈X.ex,b≠X.env.locals/\∀x c,X.env.cells.lookup x=Y c->c≠b
 bs:∀b o,X.base.get? b=Y o->X.s₀.heap.get? b=Y o/\X.H₀ b=none
 bsz:X.base.objs.size<=X.s₀⁻¹
 noex:∀b o,X.base.get? b=Y o->b∉X.ex
 exfs:∀b∈X.ex,b∉X.fs
 funs:X.s₀.heap.FunFrames X.base X.outer
 frf:∀b∈X.fs,X.H₀ b=none
abbrev _root_.C7:=List (V1×Obj)
structure Inv(X:Cx)(pins:C7)(σ:List (Option V))(H:Hp)(s:V2):Prop where
 ok:X.Ok
 os:s.os=X.s₀.os
 bare:AllBare s.gens
 base:Un X.fs X.ex X.H₀ H X.s₀.heap s.heap
 loc:∃m,s.heap.Ns X.env.locals m/\∀(i:Nat)(x:Str)(v:V),X.N[i]? =Y x->σ[i]? =Y ↥v->Vis X.env.scope x->∃u,RelV v u/\Look X.env s.heap m x u
 cell:∀x c,X.env.cells.lookup x=Y c->∃v,s.heap.IsCell c v
 free:H X.env.locals=none
 freeC:∀x c,X.env.cells.lookup x=Y c->H c=none
 pin:∀p∈X.pn++pins,s.heap.get? p.1=Y p.2/\H p.1=none/\p.1≠X.env.locals/\p.1∉X.fs/\∀v,p.2.data≠ .cell v
 hok:HOk X.prog X.w H s.heap
 len:σ...*=X.N...*
section
variable{X:Cx}{pins:C7}{σ:List (Option V)}{H H':Hp}{s:V2}{h':V5}
theorem Cx.Ok.nofr(c:X.Ok){b:V1}{o:Obj}(e:X.base.get? b=Y o):b∉X.fs:=λa=>by
 let:=(c.funs.mem a).1;rw[e] at this;cases this
theorem Inv.bs(I:Inv X pins σ H s):∀b o,X.base.get? b=Y o->s.heap.get? b=Y o/\H b=none:=λb o e=>
 ⟨I.base.keep b o (I.ok.bs b o e).1 (I.ok.bs b o e).2 (I.ok.nofr e) (I.ok.noex b o e),I.base.free b o (I.ok.bs b o e).1 (I.ok.bs b o e).2 (I.ok.noex b o e)⟩
theorem Inv.bk(I:Inv X pins σ H s):∀b o,X.base.get? b=Y o->s.heap.get? b=Y o:=λb o e=>(I.bs b o e).1
theorem Inv.mod(I:Inv X pins σ H s):Mod X.K X.mg X.base:=I.ok.mod
theorem Inv.kIn(I:Inv X pins σ H s):X.K.In s.heap:=I.ok.mod.kin.keeps I.bk
theorem Inv.lt(I:Inv X pins σ H s):X.env.locals<s⁻¹:=let ⟨_,hn,_⟩:=I.loc;hn.lt
theorem Inv.sz(I:Inv X pins σ H s):X.s₀⁻¹<=s⁻¹:=nP I.ok.above (tG I.lt)
theorem Inv.nofs(I:Inv X pins σ H s){a:V1}(h:s⁻¹<=a):a∉X.fs:=λc=>by
 obtain⟨_,o,b,_⟩:=I.ok.funs.mem c;exact absurd (nF (mQ b) (nP I.sz h)) (sO _)
theorem Inv.cne(I:Inv X pins σ H s):∀x c,X.env.cells.lookup x=Y c->c≠X.env.locals:=λx c e z=>by
 refine wB (I.cell x c e) λv o f d=>?_;obtain⟨m,⟨i,g,h,a,b,_⟩,_⟩:=I.loc;rw[z,a] at f;cases f;rw[b] at d;cases d
theorem Inv.funs(I:Inv X pins σ H s):s.heap.FunFrames X.base X.outer:=by
 let all:∀(l:List S7),(∀b∈frs l,b∈X.fs)->X.s₀.heap.FunFrames X.base l->s.heap.FunFrames X.base l:=by
  intro l
  induction l with
  |nil=>intro _ _;trivial|cons g r n=>
   intro f i;obtain⟨m,⟨L,o,c,k,j,h⟩,p⟩:=i;let a:L∈X.fs:=f L (by unfold frs;rw[pV,c];exact mE);obtain⟨q,e⟩:=I.base.slot L o j (I.ok.frf L a) a λz=>I.ok.exfs L z a;exact⟨m,⟨L,_,c,k,e,h⟩,n (λb d=>f b (by unfold frs;rw[pV,c];exact mI _ d)) p⟩
 exact all X.outer (λ_ d=>d) I.ok.funs
theorem Inv.stack(I:Inv X pins σ H s):s.heap.FunFrames X.base X.stack:=by
 rcases I.ok.stk with e |⟨e,b⟩
 ·rw[e];exact I.funs
 ·rw[e]
  obtain⟨m,a,_⟩:=I.loc;refine .cons (by rw[I.ok.kind];decide) b a ?_ I.funs;exact rE (nP I.ok.bsz I.ok.above)
theorem Inv.stkSub(I:Inv X pins σ H s):∀b∈frs X.stack,b∈X.env.locals::X.fs:=λb a=>by
 rcases I.ok.stk with e |⟨e,c⟩
 ·rw[e] at a;exact mI _ a
 ·rw[e] at a
  unfold frs at a;rw[pV,c] at a;exact a
theorem Inv.stkFree(I:Inv X pins σ H s):∀b∈frs X.stack,H b=none:=λb hb=>by
 rcases mG.mp (I.stkSub b hb) with e | hb
 ·rw[e];exact I.free
 ·obtain⟨_,o,a,_⟩:=I.ok.funs.mem hb
  exact I.base.free b o a (I.ok.frf b hb) λz=>I.ok.exfs b z hb
theorem Inv.step{g':Array GenState}{t':Nat}{d':Drawn}{ch:B9}(I:Inv X pins σ H s)
  (j:∀b∈ch,(b∈X.ex\/X.s₀⁻¹<=b)/\b≠X.env.locals/\(∀x c,X.env.cells.lookup x=Y c->c≠b)/\∀p∈X.pn++pins,p.1≠b)
  (f:∀b o,b≠X.env.locals->b∉X.fs->b∉ch->s.heap.get? b=Y o->H b=none->h'.get? b=Y o)
  (A:∀b o,b≠X.env.locals->b∈X.fs->b∉ch->s.heap.get? b=Y o->H b=none->∃sl,h'.get? b=some {o with slots:=sl}) (free:∀b o,b∉ch->s.heap.get? b=Y o->H b=none->H' b=none)
  (D:∀b o,b∉ch->s.heap.get? b=Y o->∃N,h'.get? b=Y N)
  (aa:∀b y,H b=Y (.tup y)->H' b=Y (.tup y)) (Q:∀b o u,H b=Y (.frz o u)->H' b=Y (.frz o u)) (J:∀b ps,H b=Y (.tbl ps)->∃more,H' b=Y (.tbl (ps++more)))
  (ns:∀m,s.heap.Ns X.env.locals m->h'.Ns X.env.locals m) (ab:HOk X.prog X.w H' h') (hg:AllBare g'):
  Inv X pins σ H' {s with heap:=h',gens:=g',drawn:=d',toks:=t'}:=by
 let L:∀b o,X.s₀.heap.get? b=Y o->b≠X.env.locals:=λb o e=>nN (nF (mQ e) I.ok.above);let w:∀b o,X.s₀.heap.get? b=Y o->b∉X.ex->b∉ch:=λb o e a B=>by
  rcases(j b B).1 with z | z
  ·exact a z
  ·exact absurd (nF (mQ e) z) (sO _)
 let h:∀x c,X.env.cells.lookup x=Y c->∀v,s.heap.IsCell c v->h'.IsCell c v:=λx c e v ⟨o,E,hd⟩=>by
  let g:c∉ch:=λz=>(j c z).2.2.1 x c e O
  by_cases hc:c∈X.fs
  ·obtain⟨sl,q⟩:=A c o (I.cne x c e) hc g E (I.freeC x c e)
   exact⟨_,q,hd⟩
  ·exact⟨o,f c o (I.cne x c e) hc g E (I.freeC x c e),hd⟩
 refine{I.ok,I.os,hg,⟨λb o e n B a=>?_,λb o e n B a=>?_,λb o e n a=>?_,λb o e a=>?_,λb y e=>aa b y (I.base.tups b y e),λb o y e=>Q b o y (I.base.frzs b o y e),λb ps e=>?_⟩, ?_,λx c e=>?_, ?_,λx c e=>?_,λp hp=>?_,ab,I.len}
 ·exact f b o (L b o e) B (w b o e a) (I.base.keep b o e n B a) (I.base.free b o e n a)
 ·obtain⟨sl,t⟩:=I.base.slot b o e n B a
  obtain⟨ac,M⟩:=A b _ (L b o e) B (w b o e a) t (I.base.free b o e n a);exact⟨ac,M⟩
 ·obtain⟨N,t⟩:=I.base.there b o e a
  exact free b N (w b o e a) t (I.base.free b o e n a)
 ·obtain⟨N,t⟩:=I.base.there b o e a
  exact D b N (w b o e a) t
 ·obtain⟨m1,t⟩:=I.base.tbls b ps e
  obtain⟨m2,M⟩:=J b _ t;exact{m1++m2,by rw[M,Array.append_assoc]}
 ·obtain⟨m,hn,hl⟩:=I.loc
  refine{m,ns m hn,λi x v t M e3=>?_};obtain⟨u,r,l⟩:=hl i x v t M e3;refine{u,r, ?_};rcases l with l |⟨k,c,e,z⟩
  ·exact .inl l
  ·exact .inr {k,c,e,h x c e _ z}
 ·obtain⟨v,z⟩:=I.cell x c e
  exact{v,h x c e v z}
 ·obtain⟨m,⟨o,_,_,E,_⟩,_⟩:=I.loc
  exact free _ o (λz=>(j _ z).2.1 rfl) E I.free
 ·refine wB (I.cell x c e) λv o E hd=>?_
  exact free c o (λz=>(j c z).2.2.1 x c e rfl) E (I.freeC x c e)
 ·refine vS (I.pin p hp) λe n ne nf d=>?_
  let g:p.1∉ch:=λz=>(j p.1 z).2.2.2 p hp O;exact{f p.1 p.2 ne nf g e n,free p.1 p.2 g e n,ne,nf,d}
theorem Inv.un{t':Nat}(I:Inv X pins σ H s)(u:Un X.fs [] H H' s.heap h')(d:HOk X.prog X.w H' h'):Inv X pins σ H' {s with heap:=h',toks:=t'}:=by
 obtain⟨m,⟨o,t,l,h,r⟩,_⟩:=id I.loc;obtain⟨v,k⟩:=u.any h I.free (by simp);exact I.step (g':=s.gens) (d':=s.drawn) (ch:=[]) (λ_ z=>nomatch z) (λb o _ g _ e n=>u.keep b o e n g (by simp)) (λb o _ g _ e n=>u.slot b o e n g (by simp)) (λb o _ e n=>u.free b o e n (by simp)) (λb o _ e=>u.there b o e (by simp)) u.tups u.frzs u.tbls (λp j=>by
  ext zAr j q f c a i;rw[h] at a;cases a;exact⟨_,f,c,k,i⟩) d I.bare
theorem Inv.call{g':Array GenState}{t':Nat}{d':Drawn}{ch:B9}(I:Inv X pins σ H s)(u:Un (frs X.stack) ch H H' s.heap h')(h:HOk X.prog X.w H' h')(t:AllBare g')
  (f:∀b∈ch,(b∈X.ex\/X.s₀⁻¹<=b)/\b≠X.env.locals/\(∀x c,X.env.cells.lookup x=Y c->c≠b)/\∀p∈X.pn++pins,p.1≠b):
  Inv X pins σ H' {s with heap:=h',gens:=g',drawn:=d',toks:=t'}:=by
 obtain⟨m,⟨o,B,w,k,r⟩,_⟩:=id I.loc;obtain⟨D,j⟩:=u.any k I.free λz=>(f _ z).2.1 O;exact I.step (ch:=ch) f (λb o j v a e n=>u.keep b o e n (λz=>(mG.mp (I.stkSub b z)).elim j v) a) (λb o _ _ a e n=>u.any e n a) (λb o a e n=>u.free b o e n a) (λb o a e=>u.there b o e a) u.tups u.frzs u.tbls (λy q=>by
  ext zAr q A i g d l;rw[k] at d;cases d;exact⟨_,i,g,j,l⟩) h t
theorem Inv.turned{t':Nat}{it:V1}(I:Inv X pins σ H s)(k:∀b o,b≠it->s.heap.get? b=Y o->h'.get? b=Y o)(l:H it=none)(f:it≠X.env.locals)
  (w:it∈X.ex\/X.s₀⁻¹<=it) (g:∀x c,X.env.cells.lookup x=Y c->c≠it) (t:∀p∈X.pn++pins,p.1≠it):Inv X pins σ H {s with heap:=h',toks:=t'}:=by
 let d:∀b u,H b=Y u->b≠it:=λb u e z=>by rw[z,l] at e;cases e
 refine I.step (g':=s.gens) (d':=s.drawn) (ch:=[it]) (λb A=>?_) (λb o _ _ a e _=>k b o (λz=>a (by simp[z])) e) (λb o _ _ a e _=>⟨o.slots,k b o (λz=>a (by simp[z])) e⟩) (λ_ _ _ _ n=>n)
  (λb o a e=>⟨o,k b o (λz=>a (by simp[z])) e⟩) (λ_ _ e=>e) (λ_ _ _ e=>e) (λb B e=>{#[],by rw[e];simp}) (λm i=>?_) (λb u e=>?_) I.bare
 ·let e:b=it:=by simpa using A
  subst e;exact⟨w,f,g,t⟩
 ·ext zAr i o y h j r
  exact⟨o,y,h,k _ o (Ne.symm f) j,r⟩
 ·refine(I.hok b u e).stay (λc v a q=>k c v ?_ q) (λ_ q=>q) λ_ _ q=>q
  rcases a with z | z
  ·rw[z];exact d b u e
  ·exact d c _ z
theorem Inv.tok(I:Inv X pins σ H s)(t:Nat):Inv X pins σ H {s with toks:=t}:=I.un (h':=s.heap) (t':=t) Un.refl I.hok
theorem Inv.kept{t':Nat}(I:Inv X pins σ H s)(k:∀b u,s.heap.get? b=Y u->h'.get? b=Y u):Inv X pins σ H {s with heap:=h',toks:=t'}:=I.un (Un.kept k) (I.hok.kept k)
theorem Inv.laid{a:V1}{o:HO}{t':Nat}(I:Inv X pins σ H s)(k:∀b u,s.heap.get? b=Y u->h'.get? b=Y u)(d:s⁻¹<=a)(c:ObjOk X.prog X.w (upd H a o) h' a o):
  Inv X pins σ (upd H a o) {s with heap:=h',toks:=t'}:=I.un (Un.laid k d (I.hok.fresh d)) (I.hok.laid k d c)
theorem Inv.write{x e:V1}{o:HO}{t':Nat}(I:Inv X pins σ H s)(f:Mut (H x))(d:e=x\/H e=Y (.own x))(k:∀b u,b≠e->s.heap.get? b=Y u->h'.get? b=Y u)(a:∃u,h'.get? e=Y u)
  (c:ObjOk X.prog X.w (upd H x o) h' x o):Inv X pins σ (upd H x o) {s with heap:=h',toks:=t'}:=I.un (Un.write f d k a) (I.hok.write f d k a c)
theorem Inv.weak{a:List (Option V)}(I:Inv X pins σ H s)(d:a...*=σ...*)(w:∀(i:Nat) v,a[i]? =Y ↥v->σ[i]? =Y ↥v):Inv X pins a H s:=
 {I.ok,I.os,I.bare,I.base,let ⟨m,hn,hl'⟩:=I.loc;{m,hn,λi x v c b e=>hl' i x v c (w i v b) e},I.cell,I.free,I.freeC,I.pin,I.hok,d.trans I.len}
theorem Inv.pins_of{pins':C7}(I:Inv X pins σ H s)(h:∀p∈pins',s.heap.get? p.1=Y p.2/\H p.1=none/\p.1≠X.env.locals/\p.1∉X.fs/\∀v,p.2.data≠ .cell v):Inv X pins' σ H s:=
 {I.ok,I.os,I.bare,I.base,I.loc,I.cell,I.free,I.freeC,λp a=>(nE.mp a).elim (λz=>I.pin p (nW _ z)) (h p),I.hok,I.len}
abbrev _root_.C1:=List Str
theorem zJl{N:C1}(e:N.Nodup){i j:Nat}{x:Str}(a:N[i]? =Y x)(b:N[j]? =Y x):i=j:=by
 obtain⟨g,d⟩:=mN.mp a;obtain⟨f,c⟩:=mN.mp b;exact(List.getElem_inj e).mp (d.trans c.symm)
abbrev _root_.C9:=V0->V2->Prop
theorem zCq{M:Model}{A:Around}{E:C9}{i:Nat}{x:Str}{v:V}{u:V0}{Q:Unit->V2->Prop}(I:Inv X pins σ H s)(hN:X.N.Nodup)(hi:X.N[i]? =Y x)(t:Loc X.env.scope x)(r:RelV v u)
  (h:∀s',Inv X pins (σ.set i ↥v) H s'->(∃a,Heap.SameBut a s.heap s'.heap/\(a=X.env.locals\/X.env.cells.lookup x=Y a))->Q () s') (hf:X.fn x=true\/X.env.scope.names.lookup x=some .local:=by first | exact .inl O | exact .inr O | assumption):V8 M A (storeName X.env x u) Q E s:=by
 obtain⟨m,hn,hl⟩:=id I.loc;let aa:(X.env.scope.kind== .class ||(X.env.scope.kind== .module && X.env.locals !=X.env.globals))=false:=by rw[I.ok.kind];rfl
 let af:i<σ...*:=by rw[I.len];exact(mN.mp hi).1
 let N:=I.cne;let l:∀{a:V1}{h':V5},(∃o,s.heap.get? a=Y o/\H a=none)->Heap.SameBut a s.heap h'->HOk X.prog X.w H h':=λ{a h'} ha f b ob e=>by
  obtain⟨_,_,w⟩:=ha;refine(I.hok b ob e).stay (λc w' hc q=>(f.2 c ?_).trans q) (λ_ q=>q) λ_ _ q=>q;rintro rfl;rcases hc with rfl | hc
  ·rw[w] at e;cases e
  ·rw[w] at hc;cases hc
 rcases t with hk | hk
 ·refine wpAny_storeName_local hk hn (λh' ah f=>?_) aa
  refine zAr (id hn) λoL _ _ ai _=>?_;refine h _ {I.ok,I.os,I.bare,⟨λb o e n L t=>?_,λb o e n L t=>?_,I.base.free,λb o e t=>?_,I.base.tups,I.base.frzs,I.base.tbls⟩,{_,ah,λj y v' g B e3=>?_},λy c e=>?_,I.free,I.freeC,λp hp=>?_,l ⟨oL,ai,I.free⟩ f,by simpa using I.len} {_,f, .inl O}
  ·exact(f.2 b (nN (nF (mQ e) I.ok.above))).trans (I.base.keep b o e n L t)
  ·obtain⟨sl,g⟩:=I.base.slot b o e n L t
   exact{sl,(f.2 b (nN (nF (mQ e) I.ok.above))).trans g}
  ·obtain⟨o',g⟩:=I.base.there b o e t
   exact{o',(f.2 b (nN (nF (mQ e) I.ok.above))).trans g}
  ·by_cases D:j=i
   ·subst D
    rw[hi] at g;cases g;rw[sU af] at B;cases B;exact{u,r, .inl {hk,by simp}}
   ·rw[sZ (Ne.symm D)] at B
    obtain⟨u',r',q⟩:=hl j y v' g B e3;refine{u',r', ?_};rcases q with⟨k,e⟩|⟨k,c,e,z⟩
    ·refine .inl {k, ?_}
     let:y≠x:=λe=>D (zJl hN g (e▸hi));simp[this,e]
    ·exact .inr {k,c,e,z.sameBut f (N y c e)}
  ·obtain⟨w',z⟩:=I.cell y c e
   exact{w',z.sameBut f (N y c e)}
  ·refine vS (I.pin p hp) λe n ne nf d=>?_
   exact{(f.2 p.1 ne).trans e,n,ne,nf,d}
 ·let J:X.fn x=true:=by
   rcases hf with z | z
   ·exact z
   ·rw[z] at hk;cases hk
  obtain⟨c,hc⟩:=I.ok.has x (.inl hk);obtain⟨w',z⟩:=I.cell x c hc;refine wpAny_storeName_cell I.ok.kind hk hc z (λh' ac f=>?_);obtain⟨oc,ag,ae⟩:=id z;refine h {s with heap:=h'} {I.ok,I.os,I.bare,⟨λb o e n L t=>?_,λb o e n L t=>?_,I.base.free,λb o e t=>?_,I.base.tups,I.base.frzs,I.base.tbls⟩,{m,hn.sameBut f (Ne.symm (N x c hc)),λj y v' g B e3=>?_},λy c' e=>?_,I.free,I.freeC,λp hp=>?_,l {oc,ag,I.freeC x c hc} f,by simpa using I.len} {c,f, .inr hc}
  ·exact(f.2 b (nN (nF (mQ e) (I.ok.cab x c J hc)))).trans (I.base.keep b o e n L t)
  ·obtain⟨sl,g⟩:=I.base.slot b o e n L t
   exact{sl,(f.2 b (nN (nF (mQ e) (I.ok.cab x c J hc)))).trans g}
  ·obtain⟨o',g⟩:=I.base.there b o e t
   exact{o',(f.2 b (nN (nF (mQ e) (I.ok.cab x c J hc)))).trans g}
  ·by_cases D:j=i
   ·subst D
    rw[hi] at g;cases g;rw[sU af] at B;cases B;exact{u,r, .inr {.inl hk,c,hc,ac}}
   ·rw[sZ (Ne.symm D)] at B
    obtain⟨u',r',q⟩:=hl j y v' g B e3;refine{u',r', ?_};rcases q with q |⟨k,c',e,z'⟩
    ·exact .inl q
    ·refine .inr {k,c',e,z'.sameBut f ?_}
     rintro rfl;exact D (zJl hN g (I.ok.inj _ _ _ e hc▸hi))
  ·by_cases ab:c'=c
   ·subst ab;exact⟨_,ac⟩
   ·obtain⟨w2,z2⟩:=I.cell y c' e
    exact{w2,z2.sameBut f ab}
  ·refine vS (I.pin p hp) λe n ne nf d=>?_
   refine{(f.2 p.1 ?_).trans e,n,ne,nf,d};intro q;rw[q,ag] at e;let q':oc=p.2:=mW e;exact d w' (by rw[<-q'];exact ae)
theorem zBa{M:Model}{A:Around}{E:C9}{i:Nat}{x:Str}{v:V}{u:V0}{Q:Unit->V2->Prop}(I:Inv X pins σ H s)(f:X.N.Nodup)(d:X.N[i]? =Y x)(b:Loc X.env.scope x)(r:RelV v u)
  (h:∀a,Inv X pins (σ.set i ↥v) H a->Q () a) (c:X.fn x=true\/X.env.scope.names.lookup x=some .local:=by first | exact .inl O | exact .inr O | assumption):V8 M A (storeName X.env x u) Q E s:=
 zCq I f d b r (λa e _=>h a e) c
theorem Inv.call'{s':V2}{ch:B9}(I:Inv X pins σ H s)(j:s'.os=s.os)(u:Un (frs X.stack) ch H H' s.heap s'.heap)(a:HOk X.prog X.w H' s'.heap)(f:AllBare s'.gens)
  (d:∀b∈ch,(b∈X.ex\/X.s₀⁻¹<=b)/\b≠X.env.locals/\(∀x c,X.env.cells.lookup x=Y c->c≠b)/\∀p∈X.pn++pins,p.1≠b):Inv X pins σ H' s':=by
 obtain⟨h',k,h,g,i⟩:=s';let e:i=s.os:=j;subst e;exact I.call (g':=k) (t':=g) (d':=h) u a f d
end
abbrev XK:=V0->Option V1->Hp->Prop
abbrev St:=List (Option V)
abbrev VK:=V->Hp->Prop
abbrev TE:=St->Hp->VK->Prop
abbrev TT:=St->Hp->(Bool->Hp->Prop)->Prop
abbrev TA:=St->Hp->(List V->Hp->Prop)->Prop
structure gB where
 nx:St->Hp->Prop
 rt:VK
 bk:St->Hp->Prop:=λ_ _=>False
 ct:St->Hp->Prop:=λ_ _=>False
abbrev TS:=gB->St->Hp->Prop
def EP(X:Cx)(a:C7)(σ:St)(Q:VK)(u:V0)(s':V2):Prop:=∃v b,Inv X a σ b s'/\RelV v u/\Q v b
def TP(X:Cx)(a:C7)(σ:St)(Q:Bool->Hp->Prop)(b:Bool)(s':V2):Prop:=∃c,Inv X a σ c s'/\Q b c
def AP(X:Cx)(a:C7)(σ:St)(Q:List V->Hp->Prop)(us:B7)(s':V2):Prop:=∃b c,Inv X a σ c s'/\Vals b us/\Q b c
def SP(X:Cx)(a:C7)(D:gB)(f:Flow)(s':V2):Prop:=
 match f with|.next=>∃c b,Inv X a c b s'/\D.nx c b|.brk=>∃c b,Inv X a c b s'/\D.bk c b|.cont=>∃c b,Inv X a c b s'/\D.ct c b|.ret u=>∃v c b,Inv X a c b s'/\RelV v u/\D.rt v b
def PE(X:Cx)(e:Expr)(t:TE):Prop:=
 ∀(a:C7)(s:V2)(σ:St)(H:Hp)(Q:VK),Inv X a σ H s->t σ H Q->V8 (S5 X.prog X.w) X.A (eval e X.env) (EP X a σ Q) X.xe s
def PT(X:Cx)(e:Expr)(t:TT):Prop:=
 ∀(a:C7)(s:V2)(σ:St)(H:Hp)(Q:Bool->Hp->Prop),Inv X a σ H s->t σ H Q->V8 (S5 X.prog X.w) X.A (isTrue e X.env (eval e X.env)) (TP X a σ Q) X.xe s
def PW(X:Cx)(e:Expr)(t:TT):Prop:=
 ∀(b:Sem V0)(a:C7)(s:V2)(σ:St)(H:Hp)(Q:Bool->Hp->Prop),Inv X a σ H s->t σ H Q->V8 (S5 X.prog X.w) X.A (isTrue e X.env b) (TP X a σ Q) X.xe s
theorem i9{X:Cx}{e:Expr}{t:TT}(h:PW X e t):PT X e t:=h _
abbrev _root_.C5:=List Expr
def PA(X:Cx)(c:C5)(t:TA):Prop:=
 ∀(b:Pos)(a:C7)(s:V2)(σ:St)(H:Hp)(Q:List V->Hp->Prop),Inv X a σ H s->t σ H Q->V8 (S5 X.prog X.w) X.A (spliced (S2 b (A2 c X.env))) (AP X a σ Q) X.xe s
def PS(X:Cx)(st:V6)(t:TS):Prop:=
 ∀(a:C7)(s:V2)(σ:St)(H:Hp)(D:gB),Inv X a σ H s->t D σ H->V8 (S5 X.prog X.w) X.A (exec st X.env) (SP X a D) X.xe s
def PSs(X:Cx)(st:List V6)(t:TS):Prop:=
 ∀(a:C7)(s:V2)(σ:St)(H:Hp)(D:gB),Inv X a σ H s->t D σ H->V8 (S5 X.prog X.w) X.A (execs st X.env) (SP X a D) X.xe s
theorem thn{α:Type}{t:Sem α}{Q b:α->V2->Prop}{M:Model}{A:Around}{E:C9}{s:V2}(h:V8 M A t Q E s)(c:∀a s,Q a s->b a s):V8 M A t b E s:=pC h c λ_ _ x=>x
section
variable{X:Cx}
def jE(i:Nat):TE:=λσ H Q=>match σ[i]? with|some ↥v=>Q v H|_=>False
theorem zYi{i:Nat}{σ:St}{H:Hp}{Q:VK}(h:jE i σ H Q):∃v,σ[i]? =Y ↥v/\Q v H:=by
 unfold jE at h;split at h
 ·exact{_,by assumption,h}
 ·exact h.elim
def tC(v:V):TE:=λ_ H Q=>Q v H
theorem zVa{i:Nat}{x:Str}{g:Pos}(q:X.N[i]? =Y x)(t:Vis X.env.scope x)(f:(x==("__debug__" :Str))=false:=by decide)(j:(x==("__classdict__" :Str))=false:=by decide):PE X (.Name x g) (jE i):=by
 intro d s σ H Q I h;obtain⟨v,e,h⟩:=zYi h;obtain⟨m,p,o⟩:=I.loc;obtain⟨u,r,l⟩:=o i x v q e t;let b:EP X d σ Q u s:=⟨v,H,I,r,h⟩;rcases l with⟨hk,n⟩|⟨hk,c,k,a⟩
 ·exact wpAny_Name (wpAny_loadName_local I.ok.kind hk p n b) f
 ·rcases hk with hk | hk
  ·exact wpAny_Name (wpAny_loadName_cell I.ok.kind hk k a b) f
  ·exact wpAny_Name (wpAny_loadName_free I.ok.kind hk k a b j) f
theorem zE{i j pos}:PE X (.Constant (.int i) j pos) (tC (.int i)):=λ_ _ _ H _ I h=>wpAny_Constant_int {.int i,H,I.tok _,⟨_,O⟩,h}
theorem qT{b j pos}:PE X (.Constant (.bool b) j pos) (tC (.bl b)):=λ_ _ _ H _ I h=>Constant_bool {.bl b,H,I,O,h}
theorem kZ{j pos}:PE X (.Constant .none j pos) (tC .non):=λ_ _ _ H _ I h=>Constant_none {.non,H,I,O,h}
theorem zO{x j pos}:PE X (.Constant (.str x) j pos) (tC (.str x)):=λ_ _ _ H _ I h=>Calls.Constant_str {.str x,H,I.tok _,⟨_,O⟩,h}
def Gl(X:Cx)(x:Str):Prop:=X.env.kindOf x=some .globalImplicit
theorem qO{E:C9}{a:C7}{s:V2}{σ:St}{H:Hp}{x:Str}{u:V0}{b:Pos}{Q:C9}(I:Inv X a σ H s)(d:Gl X x)(c:X.mg x=Y u)(h:Q u s)
  (e:(x==("__debug__" :Str))=false:=by decide):V8 (S5 X.prog X.w) X.A (eval (.Name x b) X.env) Q E s:=
 Calls.Name_function_global I.ok.kind d (Calls.loadGlobal_global (by rw[I.ok.glob];exact I.mod.glob.keeps I.bk) c h) e
theorem gJ{E:C9}{a:C7}{s:V2}{σ:St}{H:Hp}{x:Str}{u:V0}{b:Pos}{Q:C9}(I:Inv X a σ H s)(d:Gl X x)(i:X.mg x=none)(e:A1 x=Y u)(h:Q u s)
  (j:x≠ "__name__":=by decide) (f:(x==("__debug__" :Str))=false:=by decide):V8 (S5 X.prog X.w) X.A (eval (.Name x b) X.env) Q E s:=by
 obtain⟨k,g,c⟩:=I.mod.blt;exact Calls.Name_function_global I.ok.kind d (Calls.loadGlobal_builtin (by rw[I.ok.glob];exact I.mod.glob.keeps I.bk) i (by rw[I.ok.blt];exact g.keeps I.bk) ((c x j).trans e) h) f
theorem zNx{x:Str}{v:V}{u:V0}{a:Pos}(b:Gl X x)(d:X.mg x=Y u)(r:RelV v u)(c:(x==("__debug__" :Str))=false:=by decide):PE X (.Name x a) (tC v):=
 λ_ _ _ H _ I h=>qO I b d ⟨v,H,I,r,h⟩ c
theorem wY{x:Str}{v:V}{u:V0}{a:Pos}(b:Gl X x)(e:X.mg x=none)(c:A1 x=Y u)(r:RelV v u)(f:x≠ "__name__":=by decide)(d:(x==("__debug__" :Str))=false:=by decide):PE X (.Name x a) (tC v):=
 λ_ _ _ H _ I h=>gJ I b e c ⟨v,H,I,r,h⟩ f d
variable{a b:Expr}{ta tb:TE}{pos:Pos}
def PC(X:Cx)(e:CmpOp)(a b:Expr)(t:TE):Prop:=
 ∀(c:C7)(s:V2)(σ:St)(H:Hp)(Q:VK),Inv X c σ H s->t σ H Q->
  V8 (S5 X.prog X.w) X.A (eval a X.env) (λv d=>V8 (S5 X.prog X.w) X.A (eval b X.env) (λu f=>V8 (S5 X.prog X.w) X.A (A3 e v u) (EP X c σ Q) X.xe f) X.xe d) X.xe s
theorem zJc(b:Expr){c:CmpOp}(h:c≠ .In)(f:c≠ .NotIn):behindInMarks c b=false:=by
 let e:(c==CmpOp.In)=false:=by cases c<;>first | rfl | exact absurd O h
 let d:(c==CmpOp.NotIn)=false:=by cases c<;>first | rfl | exact absurd O f
 cases b<;>simp[behindInMarks,e,d]
def yCh(ta:TE):TE:=λσ H Q=>ta σ H λx c=>Q (.bl (decide (x= .non))) c
def zRv(ta:TE):TE:=λσ H Q=>ta σ H λx c=>Q (.bl (!decide (x= .non))) c
theorem RelV.none_iff{x:V}{v:V0}(r:RelV x v):(v==Value.none)=decide (x= .non):=by
 cases x with
 |non=>cases r;rfl|bl _=>cases r;rfl|int _=>obtain⟨t,rfl⟩:=r;rfl
 |str _=>obtain⟨t,rfl⟩:=r;rfl
 |byt _=>obtain⟨t,rfl⟩:=r;rfl
 |flt _=>obtain⟨t,rfl⟩:=r;rfl
 |ref _=>cases r;rfl|ty _=>cases r;rfl
theorem zCn{j pos'}(i:PE X a ta):PC X .Is a (.Constant .none j pos') (yCh ta):=by
 intro c s σ H Q I h;refine thn (i c s σ H _ I h) λv k ⟨x,f,d,g,e⟩=>?_;exact Constant_none (is_none_gen {.bl _,f,d,by rw[g.none_iff];rfl,e})
theorem zNk{j pos'}(i:PE X a ta):PC X .IsNot a (.Constant .none j pos') (zRv ta):=by
 intro c s σ H Q I h;refine thn (i c s σ H _ I h) λv k ⟨x,f,d,g,e⟩=>?_;exact Constant_none (isnot_none_gen {.bl _,f,d,by rw[g.none_iff];rfl,e})
def tB(t:TE):TT:=λσ H Q=>t σ H λx d=>∃c,x= .bl c/\Q c d
theorem zIk{d:CmpOp}{t:TE}(h:PC X d a b t)(e:behindInMarks d b=false:=by first | exact zJc _ ∎ ∎| rfl):PE X (.Compare a [d] [b] pos) t:=λc s σ H Q I f=>wpAny_Compare1 (h c s σ H Q I f) e
theorem zAh{f:CmpOp}{t:TE}(h:PC X f a b t)(g:behindInMarks f b=false:=by first | exact zJc _ ∎ ∎| rfl):PT X (.Compare a [f] [b] pos) (tB t):=by
 intro e s σ H Q I n;refine wpAny_isTrue_Compare1 (thn (h e s σ H _ I n) λv p g=>thn g λu o i=>thn i λc r ⟨x,l,j,m,k⟩=>?_) g;obtain⟨d,rfl,q⟩:=k;cases m;exact rL ⟨l,j,q⟩
theorem yI{e:Expr}{t:TE}(h:PE X e t)(l:∀whole,isTrue e X.env whole=(do let v <-whole;S0 e.pos;holding [v] (truthy v)):=by intro _;rfl):PT X e (tB t):=by
 intro c s σ H Q I k;refine isTrue_plain (thn (h c s σ H _ I k) λv m ⟨x,i,f,j,g⟩=>?_) (l _);obtain⟨d,rfl,q⟩:=g;cases j;exact rL ⟨i,f,q⟩
variable{tA tB':TT}{rest:C5}
def yBa(t u:TT):TT:=λσ H Q=>t σ H λc d=>if c=true then u σ d Q else Q false d
def tOr(t u:TT):TT:=λσ H Q=>t σ H λc d=>if c=true then Q true d else u σ d Q
def yBc(t:TT):TT:=λσ H Q=>t σ H λc d=>Q (!c) d
theorem jG(f:PT X a tA):PW X (.BoolOp .And [a] pos) tA:=by
 intro g d s σ H Q I h;refine isTrue_and (thn (f d s σ H Q I h) λc i e=>?_)
 cases c with|true=>exact isTrue_and_nil e|false=>exact e
theorem gZ(f:PT X a tA):PW X (.BoolOp .Or [a] pos) tA:=by
 intro g d s σ H Q I h;refine isTrue_or (thn (f d s σ H Q I h) λc i e=>?_)
 cases c with|false=>exact isTrue_or_nil e|true=>exact e
theorem qH(j:PT X a tA)(i:PW X (.BoolOp .And (b::rest) pos) tB'):PW X (.BoolOp .And (a::b::rest) pos) (yBa tA tB'):=by
 intro k d s σ H Q I h;refine isTrue_and (thn (j d s σ H _ I h) λc l ⟨g,e,f⟩=>?_)
 cases c with|true=>exact i k d l σ g Q e f|false=>exact⟨g,e,f⟩
theorem gR(j:PT X a tA)(i:PW X (.BoolOp .Or (b::rest) pos) tB'):PW X (.BoolOp .Or (a::b::rest) pos) (tOr tA tB'):=by
 intro k d s σ H Q I h;refine isTrue_or (thn (j d s σ H _ I h) λc l ⟨g,e,f⟩=>?_)
 cases c with|true=>exact⟨g,e,f⟩|false=>exact i k d l σ g Q e f
theorem vE(f:PT X a tA):PT X (.UnaryOp .Not a pos) (yBc tA):=by
 intro d s σ H Q I h;exact isTrue_not (f d s σ H (λc e=>Q (!c) e) I h)
def zWe(ta tb:TE):TE:=λσ H Q=>ta σ H λx d=>∃c,x= .bl c/\if c=true then tb σ d Q else Q (.bl false) d
def yBi(ta tb:TE):TE:=λσ H Q=>ta σ H λx d=>∃c,x= .bl c/\if c=true then Q (.bl true) d else tb σ d Q
def yAd(ta:TE):TE:=λσ H Q=>ta σ H λx d=>∃c,x= .bl c/\Q (.bl (!c)) d
theorem vR{op}{t:TE}(h:PE X a t):PE X (.BoolOp op [a] pos) t:=λc s σ H Q I d=>BoolOp_one (h c s σ H Q I d)
theorem qA(k:PE X a ta)(l:PE X (.BoolOp .And (b::rest) pos) tb):PE X (.BoolOp .And (a::b::rest) pos) (zWe ta tb):=by
 intro d s σ H Q I h;refine BoolOp_and (thn (k d s σ H _ I h) λv j ⟨x,g,f,i,e⟩=>?_);obtain⟨c,rfl,e⟩:=e;cases i;refine rL ?_
 cases c with|true=>exact l d j σ g Q f e|false=>exact{.bl false,g,f,O,e}
theorem yAg(k:PE X a ta)(l:PE X (.BoolOp .Or (b::rest) pos) tb):PE X (.BoolOp .Or (a::b::rest) pos) (yBi ta tb):=by
 intro d s σ H Q I h;refine BoolOp_or (thn (k d s σ H _ I h) λv j ⟨x,g,f,i,e⟩=>?_);obtain⟨c,rfl,e⟩:=e;cases i;refine rL ?_
 cases c with|false=>exact l d j σ g Q f e|true=>exact{.bl true,g,f,O,e}
def tIf(t:TT)(ta tb:TE):TE:=λσ H Q=>t σ H λc d=>if c=true then ta σ d Q else tb σ d Q
theorem zJd{c:Expr}(k:PT X c tA)(l:PE X a ta)(m:PE X b tb):PE X (.IfExp c a b pos) (tIf tA ta tb):=by
 intro e s σ H Q I h;refine wpAny_IfExp (thn (k e s σ H _ I h) λd j ⟨i,f,g⟩=>?_)
 cases d with|true=>exact l e j σ i Q f g|false=>exact m e j σ i Q f g
end
def SqL(K:A6)(H:Hp)(a:V1)(xs:B3):Prop:=
 Rd H a (.lst xs)\/
  ∃(o:Obj)(b:Array V0)(n:Nat),K.lookup a=Y o/\o.cls= .type "list"/\o.dict=none/\o.data= .seq b n/\b.size<=V9/\Vals xs b.toList
def SqT(K:A6)(H:Hp)(a:V1)(xs:B3):Prop:=
 Rd H a (.tup xs)\/
  ∃(o:Obj)(b:Array V0)(n:Nat),K.lookup a=Y o/\o.cls= .type "tuple"/\o.data= .seq b n/\b.size<=V9/\Vals xs b.toList
def absV:V0->Option V
 |.none=>some .non|.bool b=>Y (.bl b)|.int i _=>Y (.int i)|.str x _=>Y (.str x)|.bytes b _=>Y (.byt b)|.float b _=>Y (.flt b)|.ref a=>Y (.ref a)|.type n=>Y (.ty n)|_=>none
theorem RelV.abs{x:V}{u:V0}(r:RelV x u):absV u=Y x:=by
 cases x with
 |non=>cases r;rfl|bl _=>cases r;rfl|int _=>obtain⟨t,rfl⟩:=r;rfl
 |str _=>obtain⟨t,rfl⟩:=r;rfl
 |byt _=>obtain⟨t,rfl⟩:=r;rfl
 |flt _=>obtain⟨t,rfl⟩:=r;rfl
 |ref _=>cases r;rfl|ty _=>cases r;rfl
theorem RelV.inj{x y:V}{u:V0}(r:RelV x u)(q:RelV y u):x=y:=mW (r.abs.symm.trans q.abs)
theorem Vals.inj:∀{xs ys:B3}{us:B7},Vals xs us->Vals ys us->xs=ys
 |_,_,_, .nil, .nil=>rfl|_,_,_, .cons r t, .cons b a=>by rw[r.inj b,Vals.inj t a]
section
variable{X:Cx}{pins:C7}{σ:St}{H:Hp}{s:V2}{a:V1}{xs ys:B3}
theorem SqL.of{K:A6}(h:H a=Y (.lst xs)):SqL K H a xs:=.inl (.inl h)
theorem SqT.of{K:A6}(h:H a=Y (.tup xs)):SqT K H a xs:=.inl (.inl h)
theorem Inv.list(I:Inv X pins σ H s)(h:SqL X.K H a xs):∃b:List V0,Vals xs b/\PlainL s.heap a b.toArray/\xs...*<=V9:=by
 rcases h with h |⟨o,b,n,g,c,d,f,i,r⟩
 ·obtain⟨z,b,n,r,e⟩:=h.ok I.hok
  exact{b,r,⟨_,n,e,O,O,O⟩,z}
 ·refine{b.toList,r,⟨o,n,I.kIn a o g,c,d,by simpa using f⟩, ?_}
  let e:=r...*;simp only[tI] at e
  lia
theorem Inv.tuple(I:Inv X pins σ H s)(h:SqT X.K H a xs):∃b:List V0,Vals xs b/\IsTup s.heap a b.toArray/\xs...*<=V9:=by
 rcases h with h |⟨o,b,n,f,c,d,g,r⟩
 ·obtain⟨z,b,r,p⟩:=h.ok I.hok
  exact⟨b,r,p,z⟩
 ·refine{b.toList,r,⟨o,I.kIn a o f,c,n,by simpa using d⟩, ?_}
  let e:=r...*;simp only[tI] at e
  lia
theorem Inv.list_inj(I:Inv X pins σ H s)(h:SqL X.K H a xs)(h':SqL X.K H a ys):xs=ys:=by
 obtain⟨c,r,⟨o,n,e,_,_,d⟩,_⟩:=I.list h;obtain⟨b,j,⟨l,k,f,_,_,g⟩,_⟩:=I.list h';rw[e] at f;cases f;rw[d] at g;injection g with i _;let:c=b:=by simpa using congrArg Array.toList i
 subst this;exact r.inj j
end
abbrev Cx.wish(X:Cx)(E:C9):Cx:={X with xe:=E}
abbrev Cx.nox(X:Cx):Cx:=X.wish λ_ _=>False
theorem Cx.Ok.wish{X:Cx}(a:X.Ok)(E:C9):(X.wish E).Ok:=
 ⟨a.mod,a.kind,a.glob,a.blt,a.above,a.inj,a.has,a.cab,a.hd,a.frames,a.stk,a.exf,a.bs,a.bsz,a.noex,a.exfs,a.funs,a.frf⟩
theorem Cx.Ok.unwish{X:Cx}{E:C9}(a:(X.wish E).Ok):X.Ok:=
 ⟨a.mod,a.kind,a.glob,a.blt,a.above,a.inj,a.has,a.cab,a.hd,a.frames,a.stk,a.exf,a.bs,a.bsz,a.noex,a.exfs,a.funs,a.frf⟩
section
variable{X:Cx}{pins:C7}{σ:St}{H:Hp}{s:V2}{E:C9}
theorem Inv.wish(I:Inv X pins σ H s)(E:C9):Inv (X.wish E) pins σ H s:={I.ok.wish E,I.os,I.bare,I.base,I.loc,I.cell,I.free,I.freeC,I.pin,I.hok,I.len}
theorem Inv.unwish(I:Inv (X.wish E) pins σ H s):Inv X pins σ H s:=⟨I.ok.unwish,I.os,I.bare,I.base,I.loc,I.cell,I.free,I.freeC,I.pin,I.hok,I.len⟩
theorem SP.unwish{D:gB}{f:Flow}{s':V2}(h:SP (X.wish E) pins D f s'):SP X pins D f s':=by
 cases f with
 |next=>obtain⟨b,a,I,q⟩:=h;exact⟨b,a,I.unwish,q⟩
 |brk=>obtain⟨b,a,I,q⟩:=h;exact⟨b,a,I.unwish,q⟩
 |cont=>obtain⟨b,a,I,q⟩:=h;exact⟨b,a,I.unwish,q⟩
 |ret u=>obtain⟨v,b,a,I,r,q⟩:=h;exact⟨v,b,a,I.unwish,r,q⟩
theorem PSs.nox{st:List V6}{t:TS}(h:PSs X.nox st t):PSs X st t:=λpins s σ H D I a=>
 pC (h pins s σ H D (I.wish _) a) (λ_ _ q=>q.unwish) λ_ _ z=>False.elim z
end
section
variable{X:Cx}{st:V6}{rest:List V6}{t u:TS}{e:Expr}{te:TE}{pos:Pos}
def zTs:TS:=λD σ H=>D.nx σ H
def jP(t u:TS):TS:=λD σ H=>t {D with nx:=u D} σ H
theorem zL:PSs X [] zTs:=λ_ _ σ H _ I h=>tL ⟨σ,H,I,h⟩
theorem zD(i:PS X st t)(b:PSs X rest u):PSs X (st::rest) (jP t u):=by
 intro a s σ H D I h;refine bA (thn (i a s σ H {D with nx:=u D} I h) λf g q=>?_)
 cases f with
 |next=>
  ext wB q c d j q;exact b a g c d D j q
 |ret v=>exact q|brk=>exact q|cont=>exact q
theorem zG(b:PS X st t):PSs X [st] t:=by
 intro a s σ H D I h;refine bA (thn (b a s σ H D I h) λf c q=>?_)
 cases f with|next=>exact tL q|ret v=>exact q|brk=>exact q|cont=>exact q
theorem Inv.quiet{a:C7}{σ:St}{H:Hp}{s:V2}(I:Inv X a σ H s):interactive X.env=false:=by simp[interactive,I.ok.kind]
def zRq(te:TE):TS:=λD σ H=>te σ H λ_ a=>D.nx σ a
theorem wD(b:PE X e te)(g:S1 e none pos.line X.env=pure false:=by rfl):PS X (.Expr e pos) (zRq te):=by
 intro a s σ H D I h;exact wpAny_Expr_any (thn (b a s σ H _ I h) λv j ⟨x,f,c,i,d⟩=>⟨σ,f,c,d⟩) I.quiet g
def zFi(te:TE):TS:=λD σ H=>te σ H D.rt
theorem zI(b:PE X e te):PS X (.Return ↥e pos) (zFi te):=by
 intro a s σ H D I h;exact wpAny_Return_some (thn (b a s σ H _ I h) λv i ⟨x,f,c,g,d⟩=>⟨x,σ,f,c,g,d⟩)
def yAl:TS:=λD _ H=>D.rt .non H
def yBs(c:TT)(t u:TS):TS:=λD σ H=>c σ H λb a=>if b=true then t D σ a else u D σ a
theorem zU{c:Expr}{a b:List V6}{i:TT}(n:PT X c i)(o:PSs X a t)(m:PSs X b u):PS X (.If c a b pos) (yBs i t u):=by
 intro f s σ H D I h;refine wpAny_If (thn (n f s σ H _ I h) λd l ⟨k,g,j⟩=>?_)
 cases d with|true=>exact o f l σ k D g j|false=>exact m f l σ k D g j
def zMi:TS:=λ_ _ _=>False
theorem zCe{a:List V6}:PSs X a zMi:=λ_ _ _ _ _ _ h=>h.elim
end
abbrev TG:=V->St->Hp->(St->Hp->Prop)->Prop
abbrev TGs:=List V->St->Hp->(St->Hp->Prop)->Prop
def PG(X:Cx)(a:Expr)(t:TG):Prop:=
 ∀(b:C7)(s:V2)(σ:St)(H:Hp)(v:V)(u:V0)(Q:St->Hp->Prop),Inv X b σ H s->RelV v u->t v σ H Q->
  V8 (S5 X.prog X.w) X.A (assign a X.env u) (λ_ e=>∃c d,Inv X b c d e/\Q c d) X.xe s
def PGs(X:Cx)(ts:C5)(t:TGs):Prop:=
 ∀(a:C7)(s:V2)(σ:St)(H:Hp)(d:B3)(e:B7)(Q:St->Hp->Prop),Inv X a σ H s->Vals d e->t d σ H Q->
  V8 (S5 X.prog X.w) X.A (assignInOrder ((S6 ts X.env).map (·.2)) e) (λ_ f=>∃b c,Inv X a b c f/\Q b c) X.xe s
abbrev yCn:=V->V->V->Hp->(Hp->Prop)->Prop
def PSet(X:Cx)(t:yCn):Prop:=
 ∀(a:C7)(s:V2)(σ:St)(H:Hp)(o i v:V)(b d u:V0)(Q:Hp->Prop),Inv X a σ H s->RelV o b->RelV i d->RelV v u->t o i v H Q->
  V8 (S5 X.prog X.w) X.A (setItem b d u) (λ_ e=>∃c,Inv X a σ c e/\Q c) X.xe s
abbrev TIp:=V->V->Hp->VK->Prop
def PIp(X:Cx)(b:Operator)(t:TIp):Prop:=
 ∀(a:C7)(s:V2)(σ:St)(H:Hp)(x y:V)(v u:V0)(Q:VK),Inv X a σ H s->RelV x v->RelV y u->t x y H Q->
  V8 (S5 X.prog X.w) X.A (inplaceOp b v u) (EP X a σ Q) X.xe s
section
variable{X:Cx}{pos:Pos}
def qU(i:Nat):TG:=λv σ H Q=>Q (σ.set i ↥v) H
theorem yH{i:Nat}{x:Str}(b:X.N.Nodup)(f:X.N[i]? =Y x)(c:Loc X.env.scope x)(d:X.fn x=true\/X.env.scope.names.lookup x=some .local:=by first | exact .inl O | exact .inr O | assumption):PG X (.Name x pos) (qU i):=by
 intro a s σ H v u Q I r h;exact cF (zBa I b f c r (λg e=>⟨_,H,e,h⟩) d)
def zXr:TGs:=λa σ H Q=>a= []/\Q σ H
def zIm(t:TG)(u:TGs):TGs:=λc σ H Q=>∃v r,c=v::r/\t v σ H λa b=>u r a b Q
theorem zDd:PGs X [] zXr:=by
 intro a s σ H b c Q I r h;obtain⟨e,h⟩:=h;subst e;cases r;exact assignInOrder_nil ⟨σ,H,I,h⟩
theorem qQ{e:Expr}{b:C5}{t:TG}{u:TGs}(l:PG X e t)(c:PGs X b u)
  (n:(S6 (e::b) X.env).map (·.2)=assign e X.env::(S6 b X.env).map (·.2):=by rfl):PGs X (e::b) (zIm t u):=by
 intro a s σ H q p Q I r h;ext wB h v o k h;subst k
 cases r with
 |cons r i=>
  rw[n];refine assignInOrder_cons (thn (l a s σ H _ _ _ I r h) λ_ j ⟨m,g,d,f⟩=>?_);exact c a j m g _ _ Q d i f
def zTf(K:A6)(n:Nat)(t:TGs):TG:=λv σ H Q=>∃a b,v= .ref a/\SqT K H a b/\b...*=n/\t b σ H Q
theorem zLr{d:C5}{k:Nat}{t:TGs}{n:Nat}(x:X.calm=true)(h:PGs X d t)
  (w:(S6 d X.env)...*=n:=by rfl) (g:(S6 d X.env).findIdx? (·.1)=none:=by rfl):PG X (.Tuple d k pos) (zTf X.K n t):=by
 intro c s σ H v u Q I r f;ext zX f a j z A p f;subst z;cases r;refine yX (I.tuple A) λq i m D=>?_;refine assign_Tuple_tuple (I.ok.hd x) m (by simp[w,<-p,i...*]) g λB y=>?_;let l:Inv X c σ H {s with heap:=B}:=I.kept (t':=s.toks) λb o e=>y b o (nN (mQ e)) e;exact h c _ σ H j _ Q l (by simpa using i) f
def gSub(e b:TE)(t:yCn):TG:=λv σ H Q=>e σ H λo a=>b σ a λi c=>t o i v c λd=>Q σ d
theorem yAx{o i:Expr}{e d:TE}{t:yCn}(z:PE X o e)(B:PE X i d)(D:PSet X t)
  (L:∀v,assign (.Subscript o i pos) X.env v=(do
   let b <-holding [v] (eval o X.env);let c <-holding [v,b] (eval i X.env)
   S0 pos
   holding [v,b,c] (setItem b c v)
   release [v,b,c] []):=by intro _;rfl):PG X (.Subscript o i pos) (gSub e d t):=by
 intro a s σ H v u Q I r h;rw[L];refine mC (rD (thn (z a s σ H _ I h) λb A ⟨x,m,f,q,k⟩=>?_));refine mC (rD (thn (B a A σ m _ f k) λc n ⟨y,J,g,E,p⟩=>?_));refine mC (rR (mC (rD (thn (D a n σ J x y v b c u _ g q E r p) λ_ M ⟨w,l,j⟩=>?_))));exact wpAny_release ⟨σ,w,l,j⟩
def zLx(b:TE)(g:TG):TS:=λD σ H=>b σ H λx a=>g x σ a D.nx
theorem yDu{b e:Expr}{c:TE}{g:TG}(m:PE X e c)(n:PG X b g)(p:swapsWithSole [b] e pos.line X.env=pure false:=by rfl)(k:swappedStores [b] e X.env=pure none:=by rfl)
  (o:(S6 [b] X.env).map (·.2)= [assign b X.env]:=by rfl):PS X (.Assign [b] e pos) (zLx c g):=by
 intro a s σ H D I h;refine wpAny_Assign_stores (thn (m a s σ H _ I h) λv l ⟨x,i,d,j,f⟩=>?_) p k;rw[o];exact thn (n a l σ i x v _ d j f) λ_ r q=>q
theorem zCm{i:Nat}{x:Str}{e:Expr}{c:TE}{a:Pos}(l:X.N.Nodup)(p:X.N[i]? =Y x)(n:Loc X.env.scope x)(m:PE X e c)(q:S1 e ↥(.Name x a) pos.line X.env=pure false:=by rfl)(o:X.fn x=true\/X.env.scope.names.lookup x=some .local:=by first | exact .inl O | exact .inr O | assumption):
  PS X (.Assign [.Name x a] e pos) (zLx c (qU i)):=by
 intro b s σ H D I h;refine wpAny_Assign_Name (thn (m b s σ H _ I h) λv t ⟨y,j,d,k,g⟩=>?_) q;exact zBa d l p n k (λr f=>⟨_,j,f,g⟩) o
def tAug(i:Nat)(a:TE)(c:TIp):TS:=λD σ H=>∃x,σ[i]? =Y ↥x/\a σ H λy b=>c x y b λz d=>D.nx (σ.set i ↥z) d
theorem zTm{i:Nat}{x:Str}{e:Expr}{q:TE}{f:Operator}{n:TIp}{d:Pos}(hN:X.N.Nodup)(p:X.N[i]? =Y x)(j:Loc X.env.scope x)(he:PE X e q)(B:PIp X f n)(hf:X.fn x=true\/X.env.scope.names.lookup x=some .local:=by first | exact .inl O | exact .inr O | assumption):
  PS X (.AugAssign (.Name x d) f e pos) (tAug i q n):=by
 intro a s σ H D I h;obtain⟨v,E,h⟩:=h;obtain⟨m,hn,hl⟩:=I.loc;let g:Vis X.env.scope x:=by rcases j with k | k;exact .inl k;exact .inr (.inl k)
 obtain⟨u,r,l⟩:=hl i x v p E g;refine wpAny_AugAssign_Name ?_;let o:V8 (S5 X.prog X.w) X.A (eval e X.env) (λw L=>V8 (S5 X.prog X.w) X.A (inplaceOp f u w) (λr s₃=>V8 (S5 X.prog X.w) X.A (storeName X.env x r) (λ_=>SP X a D .next) X.xe s₃) X.xe L) X.xe s:=by
  refine thn (he a s σ H _ I h) λw s1 ⟨y,H1,M,A,Q⟩=>?_;refine thn (B a s1 σ H1 v y u w _ M r A Q) λz s2 ⟨zv,H2,N,J,q2⟩=>?_;exact zBa N hN p j J (λs3 t=>⟨_,H2,t,q2⟩) hf
 rcases l with⟨hk,hm⟩|⟨hk,c,hc,b⟩
 ·exact wpAny_loadName_local I.ok.kind hk hn hm o
 ·rcases hk with hk | hk
  ·exact wpAny_loadName_cell I.ok.kind hk hc b o
  ·rcases j with k | k
   ·let:X.env.scope.names.lookup x=some .free:=hk
    rw[k] at this;cases this
   ·let:X.env.scope.names.lookup x=some .free:=hk
    rw[k] at this;cases this
def ipI(f:Int->Int->Int):TIp:=λx y H Q=>∃i j,x= .int i/\y= .int j/\Q (.int (f i j)) H
theorem zSf:PIp X .Add (ipI λi j=>i+j):=by
 intro a s σ H x y v u Q I c e h;ext yM h i j d b q;subst d;subst b;obtain⟨t,rfl⟩:=c;obtain⟨f,rfl⟩:=e;exact iadd_int {.int _,H,I.tok _,⟨_,O⟩,q}
def yDf(c:TT)(tb:TS):TS:=λD σ H=>∃W:Nat->St->Hp->Prop,(∃m,W m σ H)/\∀m σ H,W m σ H->
 c σ H λb d=>if b=true then∃N:St->Hp->Prop,(∀a e,N a e->∃f,f<m/\W f a e)/\tb {D with nx:=N,ct:=N,bk:=D.nx} σ d else D.nx σ d
theorem zWp{c:Expr}{d:List V6}{u:TT}{tb:TS}(z:PassesOwn (S5 X.prog X.w) X.A X.env X.xe)(hc:PT X c u)(J:PSs X d tb):PS X (.While c d [] pos) (yDf u tb):=by
 intro a s σ H D I h;obtain⟨W,⟨M,w0⟩,i⟩:=h;refine wpAny_While (codeAny_whileLoop (λn s'=>∃w r,Inv X a w r s'/\W n w r) ?_ M ⟨σ,H,I,w0⟩);intro n Q E;ext wB E k x L w1;refine sW z (thn (hc a Q k x _ L (i n k x w1)) λb B ⟨A,t,l⟩=>?_)
 cases b with
 |true=>
  obtain⟨N,y,l⟩:=l;rw[mJ O];refine sW z (thn (J a B k A _ t l) λf s3 j=>?_)
  cases f with
  |next=>
   ext wB j g e m n3;obtain⟨q,p,o⟩:=y g e n3;exact⟨q,p,g,e,m,o⟩
  |cont=>
   ext wB j g e m n3;obtain⟨q,p,o⟩:=y g e n3;exact⟨q,p,g,e,m,o⟩
  |brk=>exact j|ret v=>exact j
 |false=>
  rw[mH mX];exact tL ⟨k,A,t,l⟩
end
structure It where
 go:Nat->Hp->Prop
 yld:Nat->Hp->V->Hp->Prop
 stop:Nat->Hp->Prop
def zBq(X:Cx)(a:C7)(H:Hp)(b:V1):Prop:=
 H b=none/\b≠X.env.locals/\b∉X.fs/\(b∈X.ex\/X.s₀⁻¹<=b)/\(∀x c,X.env.cells.lookup x=Y c->c≠b)/\∀p∈X.pn++a,p.1≠b
theorem Inv.fpOk{X:Cx}{a:C7}{σ:St}{H f:Hp}{s:V2}{b:V1}(I:Inv X a σ H s)(d:s⁻¹<=b)(h:f b=none):zBq X a f b:=by
 refine{h,rM (nF I.lt d),I.nofs d, .inr (nP I.sz d),λx c e z=>?_,λp g z=>?_}
 ·obtain⟨v,q⟩:=I.cell x c e
  exact absurd (nF q.lt (by rw[z];exact d)) (sO _)
 ·exact absurd (nF (mQ (I.pin p g).1) (by rw[z];exact d)) (sO _)
structure zEx(P:V3)(w:V4)(K:A6)(tg:Expr)(J:It)(fp:B9)(it:V1)(tn:Nat->V5->Prop):Prop where
 mem:it∈fp
 obj:∀i h,tn i h->∀b∈fp,∃o,h.get? b=Y o/\∀v,o.data≠ .cell v
 keep:∀i h h',tn i h->(∀b∈fp,∀o,h.get? b=Y o->h'.get? b=Y o)->tn i h'
 item:∀(X:Cx),X.prog=P->X.w=w->X.K=K->X.calm=true->∀(i:Nat)(pins:C7)(s:V2)(σ:St)(H:Hp)(E:C9),Inv X pins σ H s->(∀b∈fp,zBq X pins H b)->tn i s.heap->J.go i H->
  V8 (S5 P w) X.A (pyNext (.ref it)) (λr s1=>∃u,r=Y u/\
   V8 (S5 P w) X.A (letOwnedTupleGo tg (.ref it) u) (λ_ s2=>∃x H',Inv X pins σ H' s2/\RelV x u/\J.yld i H x H'/\tn (i+1) s2.heap/\∀b∈fp,H' b=none) E s1) E s
 done:∀(X:Cx),X.prog=P->X.w=w->X.K=K->X.calm=true->∀(i:Nat)(pins:C7)(s:V2)(σ:St)(H:Hp)(E:C9),Inv X pins σ H s->(∀b∈fp,zBq X pins H b)->tn i s.heap->J.stop i H->
  V8 (S5 P w) X.A (pyNext (.ref it)) (λr s1=>r=none/\Inv X pins σ H s1) E s
 self:∀(A:Around)(i:Nat)(s:V2)(Q:C9)(E:C9),tn i s.heap->Q (.ref it) s->V8 (S5 P w) A (pyIter (.ref it)) Q E s
abbrev TI:=St->Hp->(It->Hp->Prop)->Prop
def PIE(X:Cx)(a:C7)(σ:St)(i:Expr)(R:It->Hp->Prop)(d:V0)(f:V2):Prop:=
 ∃(e:V1)(g:B9)(h:Nat->V5->Prop)(J:It)(c:Hp),d= .ref e/\Inv X a σ c f/\zEx X.prog X.w X.K i J g e h/\h 0 f.heap/\(∀b∈g,zBq X a c b)/\R J c
def PI(X:Cx)(b iter:Expr)(c:TI):Prop:=
 ∀(a:C7)(s:V2)(σ:St)(H:Hp)(R:It->Hp->Prop),Inv X a σ H s->c σ H R->
  V8 (S5 X.prog X.w) X.A (eval iter X.env) (λv d=>V8 (S5 X.prog X.w) X.A (pyIter v) (PIE X a σ b R) X.xe d) X.xe s
theorem zIx{M:Model}{A:Around}{E:C9}{s:V2}{b:Expr}{it:V1}{u:V0}{o:Obj}{n:String}{vs:Array V0}{Q:Unit->V2->Prop}(e:s.heap.get? it=Y o)(c:o.cls= .type n)(d:o.data= .fields vs)
    (f: ["enumerate","zip","dict_itemiterator","dict_reverseitemiterator","odict_iterator","itertools.zip_longest","itertools.pairwise"].contains n=false) (a:Q () s):V8 M A (letOwnedTupleGo b (.ref it) u) Q E s:=by
  unfold letOwnedTupleGo;cases b<;>first
    |exact mY a
    |(cases u<;>first
        |exact mY a
        | (refine mC (wpAny_load e ?_)
           rw[c,d];show V8 M A (if(["enumerate","zip","dict_itemiterator","dict_reverseitemiterator","odict_iterator","itertools.zip_longest","itertools.pairwise"].contains n && vs[0]? ==Y (rawInt _))=true then _ else _) Q E s;rw[mH (by intro h;rw[f,aM] at h;cases h)];exact mY a))
def Itl(K:A6)(a:V1):It:=
 {λi H=>∃b x,SqL K H a b/\b[i]? =Y x,λi H x c=>c=H/\∀b,SqL K H a b->b[i]? =Y x,λi H=>∃b,SqL K H a b/\b...*<=i}
def Itr(lo:Int)(n:Nat):It:={λi _=>i<n,λi H x a=>a=H/\x= .int (lo+i),λi _=>n<=i}
theorem zPs{P:V3}{w:V4}{K:A6}{tg:Expr}(a it:V1):zEx P w K tg (Itl K a) [it] it (λi h=>h.IsListIter it a i) where
 mem:=by simp
 obj:=λi h st b g=>by
  let e:b=it:=by simpa using g
  subst e;ext yX st o e c d;exact⟨o,e,λv z=>by rw[d] at z;cases z⟩
 keep:=λi h n st k=>st.at λo e=>k it (by simp) o e
 item:=by
  intro X D J L hc i f s σ H E I l st t;subst D J L;ext wB t xs x m N;refine yX (I.list m) λq M p hz=>?_;obtain⟨u,hu,ru⟩:=M.get N;refine zQ (l it (by simp)) λQ B f2 r A y=>?_;refine wpAny_pyNext_list_item st p.isList (x:=u) (by simpa using hu) λn j sb=>?_;let I1:Inv X f σ H {s with heap:=n}:=I.turned (t':=s.toks) (λb o g e=>(sb.2 b g).trans e) Q B r A y;refine yX (id j) λo e c d=>?_;exact{u,O,zIx (s:={s with heap:=n}) e c d ∎ {x,H,I1,ru,{O,λys hy=>by rw[I.list_inj hy m];exact N},j,λb g=>(l b g).1}}
 done:=by
  intro X D J L hc i f s σ H E I l st t;subst D J L;obtain⟨xs,m,N⟩:=t;refine yX (I.list m) λq M p hz=>?_;refine zQ (l it (by simp)) λQ B f2 r A y=>?_;let hl:=M...*;exact wpAny_pyNext_list_end (I.ok.hd hc) st p.isList (by simp;lia) λn eb=>{O,I.turned (t':=s.toks) (λb o g e=>eb b o g e) Q B r A y}
 self:=λ_ _ _ _ _ st h=>wpAny_pyIter_listiter st h
theorem zNb{P:V3}{w:V4}{K:PySem.W.Frag}{J:Expr}(it:V1)(lo:Int)(n:Nat):zEx P w K J (Itr lo n) [it] it (λi h=>IsRangeIter h it (lo+(i:Nat)*1) ((n:Int)- (i:Nat)) 1) where
 mem:=by simp
 obj:=λi h st b c=>by
  let e:b=it:=by simpa using c
  subst e;exact{_,st,λv z=>by
   let L:Data.fields _=Data.cell v:=z;cases L}
 keep:=λi h g st k=>k it (by simp) _ st
 item:=by
  intro X r u x y i a s σ H E I f st l;subst r u x;refine zQ (f it (by simp)) λA q N j p m=>?_;let W:=Walks.range (prog:=X.prog) (w:=X.w) (I.ok.hd y) it lo 1 n;refine W.item i s _ _ l st λv g B M d D=>?_;obtain⟨t,rfl⟩:=M;let Q:Inv X a σ H {s with heap:=g,toks:=B}:=I.turned (λb o c e=>D b o (by simpa using c) e) A q j p m;refine{_,O,zIx (s:={s with heap:=g,toks:=B}) (n:="range_iterator") d O O ∎ {.int (lo+i),H,Q,{t, ?_},⟨O,O⟩,d,λb c=>(f b c).1}};rw[Int.mul_one]
 done:=by
  intro X r u x y i a s σ H E I f st l;subst r u x;refine zQ (f it (by simp)) λA q N j p m=>?_;exact wpAny_pyNext_range_end (I.ok.hd y) st (by let:n<=i:=l;lia) λg eb=>{O,I.turned (t':=s.toks) (λb o c e=>eb b o c e) A q j p m}
 self:=λ_ _ _ _ _ st h=>wpAny_pyIter_rangeiter st h
section
variable{X:Cx}{tg:Expr}
def zUh(K:A6)(d:TE):TI:=λσ H R=>d σ H λx b=>∃a,x= .ref a/\(∃c,SqL K b a c)/\R (Itl K a) b
theorem wM{l:Expr}{g:TE}(k:PE X l g):PI X tg l (zUh X.K g):=by
 intro c s σ H R I h;refine thn (k c s σ H _ I h) λv f ⟨x,j,d,m,i⟩=>?_;obtain⟨a,e,⟨u,r⟩,q⟩:=i;subst e;cases m;refine yX (d.list r) λn y p w=>?_;refine cG p.isList ?_;refine⟨f⁻¹,[f⁻¹],_,_,j,O,d.kept (t':=f.toks) λb o e=>mL _ e,zPs a _,⟨_,nI _ rfl,rfl,rfl⟩,λb t=>?_,q⟩;let e:b=f⁻¹:=by simpa using t
 subst e;exact d.fpOk (mD _) (d.hok.fresh (mD _))
theorem zUn{c:C7}{σ:St}{H:Hp}{s:V2}{R:It->Hp->Prop}{E:C9}{lo a:Int}{t u v:Tok}{f:Nat}(I:Inv X c σ H s)(l: -(2 ^ 62)<=lo)(g:lo<2 ^ 62)(i: -(2 ^ 62)<=a)(k:a<2 ^ 62)
  (q:R (Itr lo (a - lo).toNat) H):V8 (S5 X.prog X.w) X.A (pyIter (.ref s⁻¹)) (PIE X c σ tg R) E {s with heap:=s.heap.push {cls:=.type "range",data:=.fields #[.int lo t, .int a u, .int 1 v]},toks:=f}:=by
 refine wpAny_pyIter_range (IsRange.new ..) (small_one l g i k) ?_;let d:Inv X c σ H {s with heap:=s.heap.push {cls:=.type "range",data:=.fields #[.int lo t, .int a u, .int 1 v]},toks:=f}:=I.kept λb o e=>mL _ e;refine⟨(s.heap.push {cls:=.type "range",data:=.fields #[.int lo t, .int a u, .int 1 v]}).objs.size,[(s.heap.push {cls:=.type "range",data:=.fields #[.int lo t, .int a u, .int 1 v]}).objs.size],_,_,H,rfl,
  d.kept (t':=f) λb o e=>mL _ e,zNb _ lo (a - lo).toNat, ?_,λb m=>?_,q⟩
 ·let j:lo+((0:Nat):Int)*1=lo:=by simp
  let h:(((a - lo).toNat:Nat):Int)- ((0:Nat):Int)=S4 lo a 1:=by rw[rangeSize_one];split<;>lia
  show IsRangeIter _ _ (lo+((0:Nat):Int)*1) ((((a - lo).toNat:Nat):Int)- ((0:Nat):Int)) 1;rw[j,h];exact nI _ O
 ·let e:b=(s.heap.push {cls:=.type "range",data:=.fields #[.int lo t, .int a u, .int 1 v]}).objs.size:=by simpa using m
  subst e;exact d.fpOk (mD _) (d.hok.fresh (mD _))
def zSw(ta:TA):TI:=λσ H R=>ta σ H λb a=>∃j:Int,b= [.int j]/\-(2 ^ 62)<=j/\j<2 ^ 62/\R (Itr 0 j.toNat) a
theorem wZ{a:Expr}{ta:TA}{p c:Pos}(m:Gl X "range")(k:X.mg "range" =none)(n:PA X [a] ta)(o:A2 [a] X.env= [(false,eval a X.env)]:=by rfl):PI X tg (.Call (.Name "range" p) [a] [] c) (zSw ta):=by
 intro b s σ H R I h;refine Call_ (gJ I m k boot_range (rC (thn (n c b s σ H _ I h) λw v ⟨x,u,f,i,d⟩=>?_) o O));ext qD d j e d g q;subst e
 cases i with
 |cons r l=>
  cases l;obtain⟨t,rfl⟩:=r;exact call_range_1 (zUn f ∅ ∅ d g (by simpa using q))
def tFor(e:TI)(g:TG)(tb:TS):TS:=λD σ H=>e σ H λJ d=>∃W:Nat->Nat->St->Hp->Prop,(∃m,W 0 m σ d)/\∀i m σ H,W i m σ H->
 (J.stop i H/\D.nx σ H)\/(J.go i H/\∃N:St->Hp->Prop,(∀b a,N b a->∃c,c<m/\W (i+1) c b a)/\∀x a,J.yld i H x a->g x σ a λf h=>tb {D with nx:=N,ct:=N,bk:=D.nx} f h)
def gX(fp:B9)(h:V5):List (V1×Obj):=fp.filterMap λb=>(h.get? b).map λo=>(b,o)
theorem qG{fp:B9}{h:V5}{b:V1}{o:Obj}(a:b∈fp)(e:h.get? b=Y o):(b,o)∈gX fp h:=List.mem_filterMap.mpr {b,a,by rw[e];rfl}
theorem zPx{fp:B9}{h:V5}{p:V1×Obj}(d:p∈gX fp h):p.1∈fp/\h.get? p.1=Y p.2:=by
 obtain⟨b,c,e⟩:=List.mem_filterMap.mp d
 cases q:h.get? b with
 |none=>rw[q] at e;cases e|some o=>
  rw[q] at e;let a:(b,o)=p:=mW e;subst a;exact⟨c,q⟩
theorem Inv.pinned{a:C7}{σ:St}{H:Hp}{s:V2}{fp:B9}(I:Inv X a σ H s)(i:∀b∈fp,zBq X a H b)(k:∀b∈fp,∃o,s.heap.get? b=Y o/\∀v,o.data≠ .cell v):Inv X (a++gX fp s.heap) σ H s:=
 I.pins_of λp h=>(nE.mp h).elim (λz=>I.pin p (nB _ z)) λz=>by
  obtain⟨f,e⟩:=zPx z;refine xI (i p.1 f) λj l g _=>?_;obtain⟨o,c,d⟩:=k p.1 f;rw[e] at c;cases c;exact⟨e,j,l,g,d⟩
theorem Inv.unpinned{a pl:C7}{σ:St}{H:Hp}{s:V2}(I:Inv X (a++pl) σ H s):Inv X a σ H s:=I.pins_of λp b=>I.pin p (nB _ (nW _ b))
theorem qI{iter:Expr}{w:List V6}{wi:TI}{g:TG}{tb:TS}{ab:Pos}(Q:PassesOwn (S5 X.prog X.w) X.A X.env X.xe)(hc:X.calm=true)(hi:PI X tg iter wi)(hg:PG X tg g)(j:PSs X w tb)
  (hs:∀x,foldedSetIterable iter X.env x=pure x:=by intro _;rfl):PS X (.For tg iter w [] ab) (tFor wi g tb):=by
 intro a s σ H D I h;refine wpAny_For (thn (hi a s σ H _ I h) λv s1 h1=>thn h1 λaf s2 h2=>?_) hs;obtain⟨it,z,tn,J,H2,e,I2,T,aa,f2,W,⟨m0,w0⟩,L⟩:=h2;subst e
 -- what stays true of the iterator's objects through the loop
 let c:∀{q:Hp},(∀b∈z,q b=none)->∀b∈z,zBq X a q b:=λhn b j=>{hn b j,(f2 b j).2};refine codeAny_forLoop_any (λn s'=>∃i B q,Inv X a B q s'/\tn i s'.heap/\(∀b∈z,q b=none)/\W i n B q) ?_ m0 {0,σ,H2,I2,aa,λb j=>(f2 b j).1,w0};intro n s3 z_;ext zZ z_ i A H3 I3 E z_;ext oA z_ M w3;rcases L i n A H3 w3 with⟨stop,qn⟩|⟨go,N,hN,step⟩
 ·refine sW Q (thn (T.done X O O O hc i a s3 A H3 X.xe I3 (c M) E stop) λr s4 ⟨hr,I4⟩=>?_)
  subst hr;exact tL ⟨A,H3,I4,qn⟩
 ·refine sW Q (thn (T.item X O O O hc i a s3 A H3 X.xe I3 (c M) E go) λr s4 ⟨u,hr,h4⟩=>?_)
  subst hr;refine sW Q (thn h4 λ_ s5 ⟨x,H5,I5,r5,y5,y,ac⟩=>?_);let ae:=I5.pinned (c ac) (T.obj _ _ y);refine sW Q (thn (hg _ s5 A H5 x u _ ae r5 (step x H5 y5)) λ_ s6 ⟨σ6,H6,I6,q6⟩=>?_);refine sW Q (thn (j _ s6 σ6 H6 _ I6 q6) λf s7 t=>?_);let again:∀{k:St}{l:Hp},Inv X (a++gX z s5.heap) k l s7->N k l->∃m,m<n/\∃i B q,Inv X a B q s7/\tn i s7.heap/\(∀b∈z,q b=none)/\W i m B q:=λ{k l} p n7=>by
   obtain⟨m',hm,w7⟩:=hN k l n7;refine⟨m',hm,i+1,k,l,p.unpinned,T.keep _ _ _ y λb j o e=>(p.pin (b,o) (nB _ (nB _ (qG j e)))).1,λb j=>?_,w7⟩;obtain⟨o,e,d⟩:=T.obj _ _ y b j;exact(p.pin (b,o) (nB _ (nB _ (qG j e)))).2.1
  cases f with
  |next=>obtain⟨k,l,p,n7⟩:=t;exact again p n7
  |cont=>obtain⟨k,l,p,n7⟩:=t;exact again p n7
  |brk=>obtain⟨k,l,p,t⟩:=t;exact⟨k,l,p.unpinned,t⟩
  |ret v=>obtain⟨x7,k,l,p,r7,t⟩:=t;exact⟨x7,k,l,p.unpinned,r7,t⟩
end
theorem zUm{K:PySem.W.Frag}{a:V1}{xs:B3}{g:TG}{tb:TS}{D:gB}{σ:St}{H:Hp}(Pv:Nat->St->Hp->Prop)(o:Pv 0 σ H)(l:∀i σ H,i<=xs...*->Pv i σ H->SqL K H a xs)
  (s:∀i x σ H,xs[i]? =Y x->Pv i σ H->g x σ H λf h=>tb {D with nx:=Pv (i+1),ct:=Pv (i+1),bk:=D.nx} f h) (k:∀σ H,Pv xs...* σ H->D.nx σ H):
  ∃W:Nat->Nat->St->Hp->Prop,(∃m,W 0 m σ H)/\∀i m σ H,W i m σ H->
   ((Itl K a).stop i H/\D.nx σ H)\/((Itl K a).go i H/\∃N:St->Hp->Prop,(∀d b,N d b->∃j,j<m/\W (i+1) j d b)/\∀x b,(Itl K a).yld i H x b->g x σ b λf h=>tb {D with nx:=N,ct:=N,bk:=D.nx} f h):=by
 refine{λi m σ H=>m=xs...* - i/\i<=xs...*/\Pv i σ H,{xs...*,by simp,nL _,o}, ?_};rintro i m σ H ⟨rfl,r,p⟩;let q:=l i σ H r p
 by_cases c:i<xs...*
 ·refine .inr {{xs,xs[i],q,by simp[c]},Pv (i+1),λd b n=>{xs...* - (i+1),∅,O,c,n},λx b y=>?_}
  obtain⟨e,y⟩:=y;subst e;exact s i x σ _ (y xs q) p
 ·let e:i=xs...*:=by lia
  subst e;exact .inl {{xs,q,mD _},k σ H p}
theorem zQi{lo:Int}{n:Nat}{g:TG}{tb:TS}{D:gB}{σ:St}{H:Hp}(Pv:Nat->St->Hp->Prop)(l:Pv 0 σ H)
  (o:∀i σ H,i<n->Pv i σ H->g (.int (lo+i)) σ H λd f=>tb {D with nx:=Pv (i+1),ct:=Pv (i+1),bk:=D.nx} d f) (j:∀σ H,Pv n σ H->D.nx σ H):
  ∃W:Nat->Nat->St->Hp->Prop,(∃m,W 0 m σ H)/\∀i m σ H,W i m σ H->
   ((Itr lo n).stop i H/\D.nx σ H)\/((Itr lo n).go i H/\∃N:St->Hp->Prop,(∀c a,N c a->∃h,h<m/\W (i+1) h c a)/\∀x a,(Itr lo n).yld i H x a->g x σ a λd f=>tb {D with nx:=N,ct:=N,bk:=D.nx} d f):=by
 refine{λi m σ H=>m=n - i/\i<=n/\Pv i σ H,{n,by simp,nL _,l}, ?_};rintro i m σ H ⟨rfl,q,p⟩
 by_cases b:i<n
 ·refine .inr {b,Pv (i+1),λc a k=>{n - (i+1),∅,O,b,k},λx a y=>?_}
  obtain⟨e,y⟩:=y;subst e y;exact o i σ _ b p
 ·let e:i=n:=by lia
  subst e;exact .inl {mD _,j σ H p}
abbrev R2:=V->V->Hp->VK->Prop
def OpR(X:Cx)(f:V0->V0->Sem V0)(r:R2):Prop:=
 ∀(a:C7)(s:V2)(σ:St)(H:Hp)(x y:V)(v u:V0)(Q:VK),Inv X a σ H s->RelV x v->RelV y u->r x y H Q->
  V8 (S5 X.prog X.w) X.A (f v u) (EP X a σ Q) X.xe s
def UnR(X:Cx)(f:V0->Sem V0)(r:V->Hp->VK->Prop):Prop:=
 ∀(a:C7)(s:V2)(σ:St)(H:Hp)(x:V)(v:V0)(Q:VK),Inv X a σ H s->RelV x v->r x H Q->
  V8 (S5 X.prog X.w) X.A (f v) (EP X a σ Q) X.xe s
def wP(X:Cx)(f:V0)(r:List V->Hp->VK->Prop):Prop:=
 ∀(a:C7)(s:V2)(σ:St)(H:Hp)(b:B3)(c:B7)(Q:VK),Inv X a σ H s->Vals b c->r b H Q->
  V8 (S5 X.prog X.w) X.A (call f c) (EP X a σ Q) X.xe s
def TruR(X:Cx)(r:V->Hp->(Bool->Hp->Prop)->Prop):Prop:=
 ∀(a:C7)(s:V2)(σ:St)(H:Hp)(x:V)(v:V0)(Q:Bool->Hp->Prop),Inv X a σ H s->RelV x v->r x H Q->
  V8 (S5 X.prog X.w) X.A (truthy v) (TP X a σ Q) X.xe s
def tOp(r:R2)(ta tb:TE):TE:=λσ H Q=>ta σ H λx a=>tb σ a λy b=>r x y b Q
def tUn(r:V->Hp->VK->Prop)(ta:TE):TE:=λσ H Q=>ta σ H λx a=>r x a Q
def rI(C:Int->Int->Prop)(g:Int->Int->V):R2:=λx y H Q=>∃i j,x= .int i/\y= .int j/\C i j/\Q (g i j) H
def rI0(g:Int->Int->V):R2:=λx y H Q=>∃i j,x= .int i/\y= .int j/\Q (g i j) H
def rU(g:Int->V):V->Hp->VK->Prop:=λx H Q=>∃i,x= .int i/\Q (g i) H
section
variable{X:Cx}{a b c:Expr}{ta tb tc:TE}{pos:Pos}
theorem yEd(w:PE X a ta)(t:PE X b tb){d:C7}{s:V2}{σ:St}{H:Hp}{R:V->V->Hp->Prop}(I:Inv X d σ H s)
  (h:ta σ H λx i=>tb σ i λy e=>R x y e) {Q:C9} {f:V0->V0->Sem V0}
  (q:∀v u g x y e,Inv X d σ e g->RelV x v->RelV y u->R x y e->V8 (S5 X.prog X.w) X.A (f v u) Q X.xe g):
  V8 (S5 X.prog X.w) X.A (eval a X.env) (λv j=>V8 (S5 X.prog X.w) X.A (eval b X.env) (λu z=>V8 (S5 X.prog X.w) X.A (f v u) Q X.xe z) X.xe j) X.xe s:=by
 refine thn (w d s σ H _ I h) λv p ⟨x,i,k,o,m⟩=>?_;refine thn (t d p σ i _ k m) λu g ⟨y,e,l,r,n⟩=>?_;exact q v u g x y e l o r n
theorem zH{e:Operator}{r:R2}(i:OpR X (binaryOp e) r)(m:PE X a ta)(n:PE X b tb):PE X (.BinOp a e b pos) (tOp r ta tb):=by
 intro d s σ H Q I h;exact wpAny_BinOp (yEd m n I h λv u g x y l f j k q=>i d g σ l x y v u Q f j k q)
theorem xY{e:UnaryOp}{r:V->Hp->VK->Prop}(l:UnR X (unaryOp e) r)(k:PE X a ta):PE X (.UnaryOp e a pos) (tUn r ta):=by
 intro d s σ H Q I h;exact UnaryOp_ (thn (k d s σ H _ I h) λv m ⟨x,i,f,j,g⟩=>l d m σ i x v Q f j g)
theorem opI{f:V0->V0->Sem V0}{C:Int->Int->Prop}{g:Int->Int->Int}
  (rule:∀(i j:Int)(t u:Tok)(s:V2)(Q:C9)(E:C9),C i j->Q (.int (g i j) s.toks) {s with toks:=s.toks+1}->V8 (S5 X.prog X.w) X.A (f (.int i t) (.int j u)) Q E s):
  OpR X f (rI C λi j=>.int (g i j)):=by
 intro k s σ H x y v u Q I l o h;ext zX h i j d e m q;subst d e;obtain⟨t,rfl⟩:=l;obtain⟨n,rfl⟩:=o;exact rule i j t n s _ _ m {.int (g i j),H,I.tok _,⟨_,O⟩,q}
theorem opI0{f:V0->V0->Sem V0}{g:Int->Int->Int}
  (rule:∀(i j:Int)(t u:Tok)(s:V2)(Q:C9)(E:C9),Q (.int (g i j) s.toks) {s with toks:=s.toks+1}->V8 (S5 X.prog X.w) X.A (f (.int i t) (.int j u)) Q E s):
  OpR X f (rI0 λi j=>.int (g i j)):=by
 intro k s σ H x y v u Q I l n h;ext yM h i j d e q;subst d e;obtain⟨t,rfl⟩:=l;obtain⟨m,rfl⟩:=n;exact rule i j t m s _ _ {.int (g i j),H,I.tok _,⟨_,O⟩,q}
theorem zYy{f:V0->V0->Sem V0}{g:Int->Int->Bool}
  (rule:∀(i j:Int)(t u:Tok)(s:V2)(Q:C9)(E:C9),Q (.bool (g i j)) s->V8 (S5 X.prog X.w) X.A (f (.int i t) (.int j u)) Q E s):
  OpR X f (rI0 λi j=>.bl (g i j)):=by
 intro k s σ H x y v u Q I l n h;ext yM h i j d e q;subst d e;obtain⟨t,rfl⟩:=l;obtain⟨m,rfl⟩:=n;exact rule i j t m s _ _ {.bl (g i j),H,I,O,q}
def yCb(i j:Int):Prop:=0<j/\j<1073741824
def yDh(i j:Int):Prop:=0<=j/\j<=1000000/\i.natAbs<2 ^ 64
def CMul(i j:Int):Prop:=(-(2 ^ 64)<i/\i<2 ^ 64)\/(-(2 ^ 64)<j/\j<2 ^ 64)
theorem CMul.ok{i j:Int}(h:CMul i j):IntMulOk i j:=by
 rcases h with⟨d,e⟩|⟨d,e⟩
 ·exact .of_left (intBits_le_64 d e)
 ·exact .of_right (intBits_le_64 d e)
theorem xH:OpR X (binaryOp .Add) (rI0 λi j=>.int (i+j)):=opI0 λ_ _ _ _ _ _ _ q=>add_int q
theorem vC:OpR X (binaryOp .Sub) (rI0 λi j=>.int (i - j)):=opI0 λ_ _ _ _ _ _ _ q=>sub_int q
theorem qY:OpR X (binaryOp .Mult) (rI CMul λi j=>.int (i*j)):=opI λ_ _ _ _ _ _ _ d q=>mul_int q d.ok
theorem yF:OpR X (binaryOp .FloorDiv) (rI yCb λi j=>.int (i / j)):=opI λi j _ _ _ _ _ d q=>by
 let f:(0:Int)<j:=d.1;let e:j<1073741824:=d.2;exact floordiv_int ∅ (by rw[Int.fdiv_eq_ediv_of_nonneg i ∅];exact q) (.inl (PyProof.noPylong_small ∅))
theorem yE:OpR X (binaryOp .Mod) (rI (λ_ j=>0<j) λi j=>.int (i % j)):=opI λi j _ _ _ _ _ d q=>by
 let e:(0:Int)<j:=d;exact mod_int' ∅ (by rw[Int.fmod_eq_emod_of_nonneg i ∅];exact q)
theorem uA:OpR X (binaryOp .Pow) (rI yDh λi j=>.int (i ^ j.toNat)):=opI λ_ _ _ _ _ _ _ d q=>pow_int_small d.1 d.2.1 d.2.2 q
theorem unI{f:V0->Sem V0}{g:Int->Int}
  (rule:∀(i:Int)(t:Tok)(s:V2)(Q:C9)(E:C9),Q (.int (g i) s.toks) {s with toks:=s.toks+1}->V8 (S5 X.prog X.w) X.A (f (.int i t)) Q E s):
  UnR X f (rU λi=>.int (g i)):=by
 intro d s σ H x v Q I e h;obtain⟨i,rfl,q⟩:=h;obtain⟨t,rfl⟩:=e;exact rule i t s _ _ {.int (g i),H,I.tok _,⟨_,O⟩,q}
theorem xJ:UnR X (unaryOp .USub) (rU λi=>.int (-i)):=unI λ_ _ _ _ _ q=>neg_int q
def zYz:V->V->Bool
 |.non, .non=>true | .non, .int _=>true | .int _, .non=>true | .non, .bl _=>true | .bl _, .non=>true | .non, .str _=>true | .str _, .non=>true|.int _, .int _=>true | .bl _, .bl _=>true | .str _, .str _=>true | .byt _, .byt _=>true|.int _, .str _=>true | .str _, .int _=>true | .bl _, .str _=>true | .str _, .bl _=>true|_,_=>false
def rEq:R2:=λx y H Q=>zYz x y=true/\Q (.bl (decide (x=y))) H
def rNe:R2:=λx y H Q=>zYz x y=true/\Q (.bl (!decide (x=y))) H
theorem zPp{i j:Int}:decide (V.int i=V.int j)=(i==j):=by
 rw[tM];simp
theorem zWi{i j:Bool}:decide (V.bl i=V.bl j)=(i==j):=by
 rw[tM];simp
theorem zNi{i j:Str}:decide (V.str i=V.str j)=(i==j):=by
 rw[tM];simp
theorem zOl{i j:Array UInt8}:decide (V.byt i=V.byt j)=(i.toList==j.toList):=by
 rw[tM];cases i;cases j;simp
theorem yO{d:C7}{σ:St}{H:Hp}{s:V2}{Q:VK}{k k':Bool}(I:Inv X d σ H s)(q:Q (.bl k) H)(e:k=k'):EP X d σ Q (.bool k') s:=by
 subst e;exact{.bl k,H,I,O,q}
theorem xC:OpR X (A3 .Eq) rEq:=by
 intro k s σ H x y v u Q I g d h;obtain⟨f,q⟩:=h
 cases x with
 |non=>
  cases g
  cases y with
  |non=>cases d;exact PySem.EqNone.eq_none_none (yO I q (by simp))|bl j=>cases d;exact PySem.EqNone.eq_none_bool (yO I q (by simp))|int j=>obtain⟨e,rfl⟩:=d;exact PySem.EqNone.eq_none_int (yO I q (by simp))
  |str j=>obtain⟨e,rfl⟩:=d;exact PySem.EqNone.eq_none_str (yO I q (by simp))
  |_=>exact absurd (show false=true from f) mX
 |bl i=>
  cases g
  cases y with
  |non=>cases d;exact PySem.EqNone.eq_bool_none (yO I q (by simp))|bl j=>cases d;exact eq_bool (yO I q zWi)|str j=>obtain⟨e,rfl⟩:=d;exact PySem.EqMixed.eq_bool_str (yO I q (by simp))
  |_=>exact absurd (show false=true from f) mX
 |int i=>
  obtain⟨t,rfl⟩:=g
  cases y with
  |non=>cases d;exact PySem.EqNone.eq_int_none (yO I q (by simp))|int j=>obtain⟨e,rfl⟩:=d;exact eq_int (yO I q zPp)
  |str j=>obtain⟨e,rfl⟩:=d;exact PySem.EqMixed.eq_int_str (yO I q (by simp))
  |_=>exact absurd (show false=true from f) mX
 |str i=>
  obtain⟨t,rfl⟩:=g
  cases y with
  |non=>cases d;exact PySem.EqNone.eq_str_none (yO I q (by simp))|bl j=>cases d;exact PySem.EqMixed.eq_str_bool (yO I q (by simp))|int j=>obtain⟨e,rfl⟩:=d;exact PySem.EqMixed.eq_str_int (yO I q (by simp))
  |str j=>obtain⟨e,rfl⟩:=d;exact eq_str (yO I q zNi)
  |_=>exact absurd (show false=true from f) mX
 |byt i=>
  obtain⟨t,rfl⟩:=g
  cases y with
  |byt j=>obtain⟨e,rfl⟩:=d;exact W.eq_bytes (yO I q zOl)
  |_=>exact absurd (show false=true from f) mX
 |_=>cases y<;>exact absurd (show false=true from f) mX
theorem zGq:OpR X (A3 .NotEq) rNe:=by
 intro k s σ H x y v u Q I g d h;obtain⟨f,q⟩:=h
 cases x with
 |non=>
  cases g
  cases y with
  |non=>cases d;exact PySem.EqNone.ne_none_none (yO I q (by simp))|bl j=>cases d;exact PySem.EqNone.ne_none_bool (yO I q (by simp))|int j=>obtain⟨e,rfl⟩:=d;exact PySem.EqNone.ne_none_int (yO I q (by simp))
  |str j=>obtain⟨e,rfl⟩:=d;exact PySem.EqNone.ne_none_str (yO I q (by simp))
  |_=>exact absurd (show false=true from f) mX
 |bl i=>
  cases g
  cases y with
  |non=>cases d;exact PySem.EqNone.ne_bool_none (yO I q (by simp))|bl j=>cases d;exact ne_bool (yO I q (congrArg not zWi))|str j=>obtain⟨e,rfl⟩:=d;exact PySem.EqMixed.ne_bool_str (yO I q (by simp))
  |_=>exact absurd (show false=true from f) mX
 |int i=>
  obtain⟨t,rfl⟩:=g
  cases y with
  |non=>cases d;exact PySem.EqNone.ne_int_none (yO I q (by simp))|int j=>obtain⟨e,rfl⟩:=d;exact ne_int (yO I q (congrArg not zPp))
  |str j=>obtain⟨e,rfl⟩:=d;exact PySem.EqMixed.ne_int_str (yO I q (by simp))
  |_=>exact absurd (show false=true from f) mX
 |str i=>
  obtain⟨t,rfl⟩:=g
  cases y with
  |non=>cases d;exact PySem.EqNone.ne_str_none (yO I q (by simp))|bl j=>cases d;exact PySem.EqMixed.ne_str_bool (yO I q (by simp))|int j=>obtain⟨e,rfl⟩:=d;exact PySem.EqMixed.ne_str_int (yO I q (by simp))
  |str j=>obtain⟨e,rfl⟩:=d;exact ne_str (yO I q (congrArg not zNi))
  |_=>exact absurd (show false=true from f) mX
 |byt i=>
  obtain⟨t,rfl⟩:=g
  cases y with
  |byt j=>obtain⟨e,rfl⟩:=d;exact W.ne_bytes (yO I q (congrArg not zOl))
  |_=>exact absurd (show false=true from f) mX
 |_=>cases y<;>exact absurd (show false=true from f) mX
theorem kL:OpR X (A3 .Lt) (rI0 λi j=>.bl (decide (i<j))):=zYy λ_ _ _ _ _ _ _ q=>lt_int q
theorem uB:OpR X (A3 .LtE) (rI0 λi j=>.bl (decide (i<=j))):=zYy λ_ _ _ _ _ _ _ q=>le_int q
theorem uG:OpR X (A3 .Gt) (rI0 λi j=>.bl (decide (j<i))):=zYy λ_ _ _ _ _ _ _ q=>gt_int q
theorem op_ge:OpR X (A3 .GtE) (rI0 λi j=>.bl (decide (j<=i))):=zYy λ_ _ _ _ _ _ _ q=>ge_int q
theorem zQt:OpR X (A3 .In) (λx y H Q=>∃i j,x= .str i/\y= .str j/\Q (.bl (!(Builtin.Str.occurrences j i 0 j...* 1).isEmpty)) H):=by
 intro f s σ H x y v u Q I g k h;ext yM h i j d e q;subst d e;obtain⟨t,rfl⟩:=g;obtain⟨l,rfl⟩:=k;exact in_str (yO I q O)
theorem zWo(b:Expr){d:CmpOp}(h:d≠ .In:=by decide)(g:d≠ .NotIn:=by decide):behindInMarks d b=false:=by
 let f:(d==CmpOp.In)=false:=by cases d<;>first | rfl | exact absurd O h
 let e:(d==CmpOp.NotIn)=false:=by cases d<;>first | rfl | exact absurd O g
 cases b<;>simp[behindInMarks,f,e]
theorem zHd{e:CmpOp}{r:R2}(j:OpR X (A3 e) r)(n:PE X a ta)(o:PE X b tb)(i:behindInMarks e b=false):PE X (.Compare a [e] [b] pos) (tOp r ta tb):=by
 intro d s σ H Q I h;exact wpAny_Compare1 (yEd n o I h λv u g x y m f k l q=>j d g σ m x y v u Q f k l q) i
def zLh(t:TE):TT:=λσ H Q=>t σ H λx d=>∃k,x= .bl k/\Q k d
theorem zYw{f:CmpOp}{r:R2}(B:OpR X (A3 f) r)(M:PE X a ta)(L:PE X b tb)(A:behindInMarks f b=false):PT X (.Compare a [f] [b] pos) (zLh (tOp r ta tb)):=by
 intro d s σ H Q I h;refine wpAny_isTrue_Compare1 (thn (M d s σ H _ I h) λv D ⟨x,n,g,q,l⟩=>thn (L d D σ n _ g l) λu o ⟨y,J,i,E,p⟩=>
  thn (B d o σ J x y v u _ i q E p) λc N ⟨z,t,m,w,k,e,j⟩=>?_) A
 subst e;cases w;exact rL ⟨t,m,j⟩
def zIl(r e:R2)(ta tb tc:TE):TE:=λσ H Q=>ta σ H λx f=>tb σ f λy g=>r x y g λz d=>∃k,z= .bl k/\
 (if k=true then tc σ d λi h=>e y i h Q else Q (.bl false) d)
theorem zLi{i g:CmpOp}{r p:R2}(J:OpR X (A3 i) r)(j:OpR X (A3 g) p)(N:PE X a ta)(M:PE X b tb)(hc:PE X c tc)
  (hm:lastMarks [i,g] [b,c]=false:=by with_unfolding_all rfl):PE X (.Compare a [i,g] [b,c] pos) (zIl r p ta tb tc):=by
 intro f s σ H Q I h;refine Compare_chain (thn (N f s σ H _ I h) λv s1 ⟨x,H1,I1,B,q1⟩=>chain_link (thn (M f s1 σ H1 _ I1 q1) λu w ⟨y,H2,I2,o,q2⟩=>
  thn (J f w σ H2 x y v u _ I2 B o q2) λd s3 ⟨z,n,m,D,k,e,l⟩=>?_)) hm
 subst e;cases D;refine rL ?_
 cases k with|false=>exact ite_ff {.bl false,n,m,O,l}|true=>exact ite_tt (chain_last (thn (hc f s3 σ n _ m l) λL q ⟨E,A,I4,t,q4⟩=>j f q σ A y E u L Q I4 o t q4))
theorem zWc{i g:CmpOp}{r p:R2}(L:OpR X (A3 i) r)(j:OpR X (A3 g) p)(ha:PE X a ta)(hb:PE X b tb)(hc:PE X c tc)
  (hm:lastMarks [i,g] [b,c]=false:=by with_unfolding_all rfl):PT X (.Compare a [i,g] [b,c] pos) (zLh (zIl r p ta tb tc)):=by
 intro f s σ H Q I h;refine isTrue_chain (thn (ha f s σ H _ I h) λv s1 ⟨x,H1,I1,B,q1⟩=>test_link (thn (hb f s1 σ H1 _ I1 q1) λu w ⟨y,H2,I2,o,q2⟩=>
  thn (L f w σ H2 x y v u _ I2 B o q2) λd s3 ⟨z,n,m,E,k,e,l⟩=>?_)) hm
 subst e;cases E;refine rL ?_
 cases k with
 |false=>
  obtain⟨k',N,q'⟩:=l;cases N;exact ite_ff ⟨n,m,q'⟩
 |true=>
  refine ite_tt (test_last (thn (hc f s3 σ n _ m l) λM q ⟨J,A,I4,t,q4⟩=>thn (j f q σ A y J u M _ I4 o t q4) λd' s5 ⟨z2,H5,I5,D,k2,e2,q5⟩=>?_));subst e2;cases D;exact rL ⟨H5,I5,q5⟩
def TruV(K:A6)(x:V)(H:Hp)(k:Bool):Prop:=
 match x with|.non=>k=false|.bl b=>k=b|.int i=>k=(i !=0)|.str y=>y...*<=V9/\k=((y...*:Int) !=0)|.byt y=>y.size<=V9/\k=((y.size:Int) !=0)|.ref p=>(∃d,SqL K H p d/\k= !d.isEmpty)\/(∃d,SqT K H p d/\k= !d.isEmpty)\/∃e,H p=Y (.dK e)/\k= !e.isEmpty|_=>False
theorem zMa{κ:Type}{kvs:List (κ×V)}{vs:List (κ×V0)}(r:KV kvs vs):(!vs.isEmpty)= !kvs.isEmpty:=by
 cases r<;>rfl
theorem zEd{xs:B3}{d:B7}(r:Vals xs d):(!d.toArray.isEmpty)= !xs.isEmpty:=by
 cases r<;>simp
theorem zAo:(V9:Nat)<2 ^ 63:=by rw[mV];decide
theorem yEi:TruR X (λx H Q=>∃k,TruV X.K x H k/\Q k H):=by
 intro z s σ H x v Q I l h;obtain⟨k,e,q⟩:=h;let J:=zAo;let E:V9=16777216:=mV
 cases x with
 |non=>
  cases l;let d:k=false:=e;subst d;exact truthy_none ⟨H,I,q⟩
 |bl b=>
  cases l;let d:k=b:=e;subst d;exact rL ⟨H,I,q⟩
 |int i=>
  obtain⟨t,rfl⟩:=l;let d:k=(i !=0):=e;subst d;exact PySem.P.truthy_int ⟨H,I,q⟩
 |str y=>
  obtain⟨t,rfl⟩:=l;obtain⟨B,d⟩:y...*<=V9/\k=((y...*:Int) !=0):=e;subst d;exact PySem.P.truthy_str ∅ {H,I.tok _,q}
 |byt y=>
  obtain⟨t,rfl⟩:=l;obtain⟨B,d⟩:y.size<=V9/\k=((y.size:Int) !=0):=e;subst d;exact W.truthy_bytes ∅ {H,I.tok _,q}
 |ref p=>
  cases l;let d:(∃j,SqL X.K H p j/\k= !j.isEmpty)\/(∃j,SqT X.K H p j/\k= !j.isEmpty)\/∃f,H p=Y (.dK f)/\k= !f.isEmpty:=e;rcases d with⟨j,n,d⟩|⟨j,n,d⟩|⟨f,n,d⟩
  ·subst d
   refine yX (I.list n) λu r w A=>?_;let g:=r...*;exact wpAny_truthy_list w.isList (by simp only[mT];lia) {H,I.tok _,by rw[zEd r];exact q}
  ·subst d
   refine yX (I.tuple n) λu r w A=>?_;let g:=r...*;exact truthy_tuple w (by simp only[mT];lia) {H,I.tok _,by rw[zEd r];exact q}
  ·subst d
   obtain⟨A,D,o,r,m⟩:f...*<=V9/\(p==A4)=false/\∃o,KV f o/\s.heap.DictOf (yW X.prog X.w) p o:=I.hok p _ n;let g:f...*=o...*:=Paired.length r;exact wpAny_truthy_dict D m ∅ {H,I.tok _,by rw[zMa r];exact q}
 |_=>exact(show False from e).elim
theorem zKz(n:PE X a ta)(m:∀whole,isTrue a X.env whole=(do let v <-whole;S0 a.pos;holding [v] (truthy v))):
  PT X a (λσ H Q=>ta σ H λx e=>∃k,TruV X.K x e k/\Q k e):=by
 intro d s σ H Q I h;exact isTrue_plain (thn (n d s σ H _ I h) λv l ⟨x,i,f,j,g⟩=>yEi d l σ i x v Q f j g) (m _)
theorem jN:OpR X (binaryOp .Add) (λx y H Q=>∃i j,x= .str i/\y= .str j/\i...*+j...*<=V9/\Q (.str (i++j)) H):=by
 intro f s σ H x y v u Q I k m h;ext zX h i j d e g q;subst d e;obtain⟨t,rfl⟩:=k;obtain⟨l,rfl⟩:=m;exact add_str (λl n=>{.str (i++j),H,I.tok _,⟨_,O⟩,q}) g
theorem jR{x:V}{us:B7}(r:Vals [x] us):∃u,us= [u]/\RelV x u:=by
 cases r with|cons e d=>cases d;exact⟨_,O,e⟩
theorem zCu{x y:V}{us:B7}(r:Vals [x,y] us):∃u d,us= [u,d]/\RelV x u/\RelV y d:=by
 cases r with
 |cons f e=>
  cases e with|cons g h=>cases h;exact⟨_,_,O,f,g⟩
theorem zUe:wP X (.builtin "abs") (λxs H Q=>∃i,xs= [.int i]/\Q (.int (if i<0 then -i else i)) H):=by
 intro d s σ H xs f Q I r h;obtain⟨i,rfl,q⟩:=h;obtain⟨u,rfl,t,rfl⟩:=jR r;exact call_abs_int λu e=>{.int (if i<0 then -i else i),H,I.tok _,⟨_,O⟩,q}
theorem zCd(g:X.calm=true):wP X (.builtin "min") (λxs H Q=>∃i j,xs= [.int i, .int j]/\Q (.int (if j<i then j else i)) H):=by
 intro f s σ H xs n Q I r h;ext wB h i j e q;subst e;obtain⟨u,m,rfl,⟨t,rfl⟩,⟨o,rfl⟩⟩:=zCu r;refine min_two_ints (I.ok.hd g) λp l k=>{_,H,I.kept k, ?_,q}
 by_cases d:j<i
 ·rw[mJ d,mJ d];exact⟨_,O⟩
 ·rw[mH d,mH d];exact⟨_,O⟩
theorem zQo:wP X (.type "int") (λxs H Q=>(∃i,xs= [.int i]/\Q (.int i) H)\/∃k,xs= [.bl k]/\Q (.int (if k then 1 else 0)) H):=by
 intro d s σ H xs f Q I r h;rcases h with⟨i,rfl,q⟩|⟨k,rfl,q⟩
 ·obtain⟨u,rfl,t,rfl⟩:=jR r
  exact call_int_int {.int i,H,I,⟨_,O⟩,q}
 ·obtain⟨u,rfl,e⟩:=jR r
  cases e;exact call_int_bool {.int (if k then 1 else 0),H,I.tok _,⟨_,O⟩,q}
theorem zSm:wP X (.builtin "ord") (λxs H Q=>∃x,xs= [.str x]/\x...*=1/\Q (.int (x.cps.getD 0 0:Nat)) H):=by
 intro e s σ H xs g Q I r h;ext yX h x d f q;subst d;obtain⟨u,rfl,t,rfl⟩:=jR r;exact ord_of_one f {.int _,H,I.tok _,⟨_,O⟩,q}
end
structure ObjM(h:V5)(x dx C:V1)(mA:C8):Prop where
 obj:h.get? x=Y (W.instObj C dx)
 ns:h.Ns1 dx mA
 ne:dx≠x
theorem zRa{h:V5}{f:V1}{c:C8}(n:h.Ns1 f c):∃od,h.get? f=Y od/\∀name,W.lookIn name od=Y (c name):=by
 ext zZ n o d r k i p;ext oAA p l _ j;refine⟨o,k,λname=>?_⟩;let e:=j name;unfold nsFind findBy at e;rw[<-Array.find?_toList] at e;unfold W.lookIn;rw[i];dsimp only;split
 ·rename_i y q
  rw[q] at e;exact congrArg some e
 ·rename_i q
  rw[q] at e;let a:d.toList.any (·.refKey)=false:=by
   rw[List.any_eq_false];intro y m;obtain⟨z,t,b⟩:=l y (Array.mem_toList_iff.mp m);simp[DictEntry.refKey,b]
  let g:¬d.toList.any (·.refKey)=true:=by rw[a];exact mX
  rw[mH g];exact congrArg some e
theorem ObjM.look{h:V5}{x a C:V1}{b:C8}(I:ObjM h x a C b):∃od,W.InstAt h x (W.instObj C a) C ↥od/\∀name,W.lookIn name od=Y (b name):=
 let ⟨od,ho,hl⟩:=zRa I.ns
 {od,⟨I.obj,O,O,ho⟩,hl}
section
variable{prog:V3}{w:V4}{A:Around}{E:C9}{s:V2}{K:A6}{x dx C f:V1}{mA:C8}{name:Str}{v:V0}
end
theorem j2{v:V}{o:Option V0}(r:RelO ↥v o):∃u,o=Y u/\RelV v u:=by
 cases o with|none=>exact(show False from r).elim|some u=>exact⟨u,O,r⟩
section
variable{P:V3}{w:V4}{H H':Hp}{h h':V5}{a C dx:V1}{fs fs':List (Str×V)}
theorem zYg(c:HOk P w H h)(e:H a=Y (.ins C dx fs)):∃b,ObjM h a dx C b/\(∀f,RelO (fs.lookup f) (b f))/\PySem.Within b (fs.map (·.1))/\fs...*<=1000/\H dx=Y (.own a):=by
 obtain⟨d,z,i,g,b,n,r,q⟩:=(show ObjOk P w H h a (.ins C dx fs) from c a _ e);exact{b,⟨g,n,i⟩,r,q,z,d}
end
structure Cls(K:A6)(C:V1):Prop where
 pg:W.plainGet K C Str.empty=true
 hd:W.hasDictIn K C=true
 po:W.plainOver K C=true
 sa:W.findIn K (.ref C) "__setattr__" =Y ↥(.builtin "object.__setattr__")
theorem Cls.get{K:A6}{C:V1}(c:Cls K C)(f:Str):W.plainGet K C f=true:=c.pg
structure Con(K:A6)(C:V1)(f:Str)(v:V)(u:V0):Prop where
 at_:W.findIn K (.ref C) f=Y ↥u
 rel:RelV v u
 get:W.specialIn K u "__get__" =Y none
 cp:W.copiedNames.contains f=false
structure Meth(K:A6)(C:V1)(m:Str)(f:V1):Prop where
 at_:W.findIn K (.ref C) m=Y ↥(.ref f)
 fn:W.isFn K (.ref f)=true
 kp:A7 K (.ref f)=true
section
variable{X:Cx}{pins:C7}{σ:St}{H:Hp}{s:V2}{a C dx:V1}{fs:List (Str×V)}{f:Str}{v:V}{A:Around}{E:C9}
end
section
variable{X:Cx}{o e value:Expr}{f:Str}{pos pos' tpos:Pos}{ta tv:TE}
end
section
variable{X:Cx}{pins:C7}{σ:St}{H:Hp}{s:V2}{A:Around}{E:C9}{Q:C9}{c:V0}{b:Bool}
inductive zBz (K:A6) (H:Hp):V->V0->Prop where
 |non:zBz K H .non (.type "NoneType")
 |bl (x:Bool):zBz K H (.bl x) (.type "bool")
 |int (i:Int):zBz K H (.int i) (.type "int")
 |str (x:Str):zBz K H (.str x) (.type "str")
 |flt (x:UInt64):zBz K H (.flt x) (.type "float")
 |lst {a:V1} {xs:B3} (e:H a=Y (.lst xs)):zBz K H (.ref a) (.type "list")
 |frz {a:V1} {o:Obj} {xs:B3} (e:H a=Y (.frz o (.lst xs))):zBz K H (.ref a) (.type "list")
 |tup {a:V1} {xs:B3} (e:H a=Y (.tup xs)):zBz K H (.ref a) (.type "tuple")
 |dK {a:V1} {kvs:D0} (e:H a=Y (.dK kvs)):zBz K H (.ref a) (.type "dict")
 |dT {a:V1} {kvs:List (List Key×V)} (e:H a=Y (.dT kvs)):zBz K H (.ref a) (.type "dict")
 |ins {a C dx:V1} {fs:List (Str×V)} (e:H a=Y (.ins C dx fs)) (cl:Cls K C) (ha:W.findIn K (.ref C) "__class__" =Y ↥(.builtin "object.__class__"))
   (hn:W.specialIn K (.builtin "object.__class__") "__get__" =Y ↥(.builtin "getset_descriptor.__get__")) (htk:W.takesIn K (.builtin "object.__class__")=Y true)
   (hm:W.mroIn K C (.type "object")=Y true):zBz K H (.ref a) (.ref C)
theorem zQd{x:V}{u t:V0}(I:Inv X pins σ H s)(d:RelV x u)(ty:zBz X.K H x t)(e:W.kitOne X.K t c=Y b)(h:∀tk,Q (.bool b) {s with toks:=tk}):
  V8 (S5 X.prog X.w) A (call (.builtin "isinstance") [u,c]) Q E s:=by
 cases ty with
 |non=>cases (show u=Value.none from d);exact sV W.kitx_none I.kIn mS e (λz=>nomatch z) h|bl y=>cases (show u=Value.bool y from d);exact sV W.kitx_bool I.kIn mS e (λz=>nomatch z) h|int i=>obtain⟨t,q⟩:=(show∃t,u=Value.int i t from d);cases q;exact sV W.kitx_int I.kIn mS e (λz=>nomatch z) h
 |str y=>obtain⟨t,q⟩:=(show∃t,u=Value.str y t from d);cases q;exact sV W.kitx_str I.kIn mS e (λz=>nomatch z) h
 |flt y=>obtain⟨t,q⟩:=(show∃t,u=Value.float y t from d);cases q;exact sV W.kitx_float I.kIn mS e (λz=>nomatch z) h
 |@lst a k f=>
  cases (show u=Value.ref a from d);obtain⟨_,_,n,_,g⟩:=(show ObjOk X.prog X.w H s.heap a (.lst k) from I.hok a _ f);exact sV cS I.kIn ⟨_,g,O⟩ e (λz=>nomatch z) h
 |@frz a B k f=>
  cases (show u=Value.ref a from d);obtain⟨_,_,_,n,_,g⟩:=(show ObjOk X.prog X.w H s.heap a (.frz B (.lst k)) from I.hok a _ f);exact sV cS I.kIn ⟨_,g,O⟩ e (λz=>nomatch z) h
 |@tup a k f=>
  cases (show u=Value.ref a from d);obtain⟨_,_,_,p⟩:=(show ObjOk X.prog X.w H s.heap a (.tup k) from I.hok a _ f);ext yX p o g l _;exact sV W.kitx_tuple I.kIn ⟨o,g,l⟩ e (λz=>nomatch z) h
 |@dK a j f=>
  cases (show u=Value.ref a from d);obtain⟨_,_,vs,_,p⟩:=(show ObjOk X.prog X.w H s.heap a (.dK j) from I.hok a _ f);ext zZ p o M v g l _;exact sV bW I.kIn ⟨o,g,l.1⟩ e (λz=>nomatch z) h
 |@dT a j f=>
  cases (show u=Value.ref a from d);obtain⟨_,_,k,_,o,M,v,g,l,_⟩:=(show ObjOk X.prog X.w H s.heap a (.dT j) from I.hok a _ f);exact sV bW I.kIn ⟨o,g,l.1⟩ e (λz=>nomatch z) h
 |@ins a C dx fs f r N D m w=>
  cases (show u=Value.ref a from d);obtain⟨mA,L,_⟩:=zYg I.hok f;obtain⟨od,J,_⟩:=L.look;exact sV (W.kitx_own (r.get _) r.hd N D m w) I.kIn J e (λz=>nomatch z) h
end
structure Room(k:Nat)(A:Around):Prop where
 hd:A.handled=none
 dp:A.depth+3*k+5<recursionLimit
 un:A.units+16*k+200<cLine
theorem Room.mono{j k:Nat}{A:Around}(r:Room k A)(h:j<=k):Room j A:={r.hd,by let:=r.dp;lia,by let:=r.un;lia}
theorem Room.deeper{k:Nat}{A:Around}(r:Room (k+1) A)(a:S7):Room k (A.deeper a):=
 {r.hd,by let:=r.dp;show A.depth+1+3*k+5<_;lia,by let:=r.un;show A.units+3+16*k+200<_;lia}
theorem zFa{A:Around}{C:V1}{us:B7}{a:List (Str×V0)}:(A.under (.builtin "type.__call__" {.ref C::us,a})).depth=A.depth+1:=by
 first | rfl | simp[Around.under,Code.weight,Code.isCreation,Code.isGuard,Code.isCaller,Code.frames,Code.isFrame,guardIds]
theorem zEm{A:Around}{C:V1}{us:B7}{a:List (Str×V0)}:(A.under (.builtin "type.__call__" {.ref C::us,a})).units=A.units+1:=by
 first | rfl | simp[Around.under,Code.cUnits,Code.frames,Code.isFrame]
theorem Room.make{k:Nat}{A:Around}(r:Room (k+1) A)(C:V1)(us:B7)(a:List (Str×V0)):Room k (A.under (.builtin "type.__call__" {.ref C::us,a})):=
 {r.hd,by let:=r.dp;rw[zFa];lia,by let:=r.un;rw[zEm];lia}
theorem Room.depth{k:Nat}{A:Around}(r:Room k A):A.depth<recursionLimit:=by let:=r.dp;lia
theorem Room.units{k:Nat}{A:Around}(r:Room k A):A.units+64<cLine:=by let:=r.un;lia
theorem Room.units0{k:Nat}{A:Around}(r:Room k A):A.units<cLine:=by let:=r.un;lia
def zBe:TA:=λ_ H Q=>Q [] H
def vA(ta:TE)(d:TA):TA:=λσ H Q=>ta σ H λx b=>d σ b λa c=>Q (x::a) c
section
variable{X:Cx}{e:Expr}{es:C5}{te:TE}{t:TA}{pos:Pos}
theorem zB:PA X [] zBe:=λ_ _ _ _ H Q I h=>aT {[],H,I, .nil,h}
theorem zA(n:PE X e te)(p:PA X es t)(o:A2 (e::es) X.env=(false,eval e X.env)::A2 es X.env:=by rfl):PA X (e::es) (vA te t):=by
 intro pos a s σ H Q I h;rw[o];show V8 _ _ (spliced ((false,eval e X.env)::S2 pos (A2 es X.env))) _ _ s;refine aI (thn (n a s σ H _ I h) λu k ⟨x,g,c,j,f⟩=>?_);exact thn (p pos a k σ g _ c f) λr q ⟨b,m,d,l,i⟩=>{x::b,m,d, .cons j l,i}
def yCf(t:TA):TE:=λσ H Q=>t σ H λa b=>a...*<=V9/\∀p,b p=none->Q (.ref p) (upd b p (.tup a))
def zTd(t:TA):TE:=λσ H Q=>t σ H λa b=>a...*<=V9/\∀p,b p=none->Q (.ref p) (upd b p (.lst a))
theorem vW{x1}(h:PA X es t):PE X (.Tuple es x1 pos) (yCf t):=by
 intro a s σ H Q I k;refine wpAny_Tuple_spliced (thn (h pos a s σ H _ I k) λi c ⟨g,f,d,r,z,q⟩=>{by rw[<-r...*];exact z, ?_});let j:f c⁻¹=none:=d.hok.fresh (mD _);refine{.ref c⁻¹,upd f c⁻¹ (.tup g),d.laid (t':=c.toks) (λb u e=>mL _ e) (mD _) ?_,O,q _ j};exact{z,i,r,{_,nI _ O,O,_,O}}
theorem yJ(h:PA X es t):PE X (.List es pos) (zTd t):=by
 intro a s σ H Q I k;refine wpAny_List_spliced (thn (h pos a s σ H _ I k) λi c ⟨g,f,d,r,z,q⟩=>{by rw[<-r...*];exact z, ?_});let j:f c⁻¹=none:=d.hok.fresh (mD _);refine{.ref c⁻¹,upd f c⁻¹ (.lst g),d.laid (t':=c.toks) (λb u e=>mL _ e) (mD _) ?_,O,q _ j};exact{z,i,0,r,nI _ O}
end
abbrev Sp:=List V->Hp->VK->XK->Prop
abbrev CXT:=List S7->Hp->V2->XK->V0->V2->Prop
structure Env0(P:V3)(w:V4)(K:A6)(mg:C8)(base:V5)(A:Around)(outer:List S7)(s:V2)(H:Hp):Prop where
 frames:A.frames=Y outer
 mod:Mod K mg base
 bs:∀b o,base.get? b=Y o->s.heap.get? b=Y o/\H b=none
 bsz:base.objs.size<=s⁻¹
 funs:s.heap.FunFrames base outer
 frf:∀b∈frs outer,H b=none
 hok:HOk P w H s.heap
 bare:AllBare s.gens
def CE(a:List S7)(P:V3)(w:V4)(H:Hp)(s:V2)(Q:VK)(u:V0)(s':V2):Prop:=
 ∃v b,s'.os=s.os/\AllBare s'.gens/\Un (frs a) [] H b s.heap s'.heap/\HOk P w b s'.heap/\RelV v u/\Q v b
def CR(CX:CXT)(a:List S7)(P:V3)(w:V4)(H:Hp)(s:V2)(Q:VK)(E:XK)(r:Result)(s':V2):Prop:=
 match r with|.ok (.ret u)=>CE a P w H s Q u s'|.ok _=>False|.error e=>CX a H s E e s'
structure FnOk(P:V3)(w:V4)(K:A6)(mg:C8)(base:V5)(CX:CXT)(k:Nat)(f:V1)(fd:V7)(ps:C1)(sp:Sp):Prop where
 len:∀vs H Q E,sp vs H Q E->vs...*=ps...*
 run:∀(A:Around)(outer:List S7)(s:V2)(H:Hp)(args:Args)(us:B7)(vs:B3)(Q:VK)(E:XK),Room k A->Env0 P w K mg base A outer s H->BindsTo s fd args (ps.zip us)->Vals vs us->sp vs H Q E->
  codeAny (S5 P w) A (.call (.ref f) args) (CR CX outer P w H s Q E) s
theorem FnOk.mono{P:V3}{w:V4}{K:A6}{d:C8}{base:V5}{CX:CXT}{j k:Nat}{f:V1}{c:V7}{ps:C1}{sp:Sp}(F:FnOk P w K d base CX j f c ps sp)(h:j<=k):
  FnOk P w K d base CX k f c ps sp:={F.len,λA a s H b i g Q E e=>F.run A a s H b i g Q E (e.mono h)}
theorem FnOk.imp{P:V3}{w:V4}{K:A6}{g:C8}{base:V5}{CX:CXT}{k:Nat}{f:V1}{e:V7}{ps:C1}{sp c:Sp}(F:FnOk P w K g base CX k f e ps sp)
  (h:∀b H Q E,c b H Q E->sp b H Q E):FnOk P w K g base CX k f e ps c:=
 {λb H Q E q=>F.len b H Q E (h _ _ _ _ q),λA a s H d i b Q E o j m l n=>F.run A a s H d i b Q E o j m l (h _ _ _ _ n)}
theorem Env0.make{P:V3}{w:V4}{K:A6}{b:C8}{base:V5}{A:Around}{a:List S7}{s:V2}{H:Hp}(e:Env0 P w K b base A a s H)(C:V1)(us:B7)(c:List (Str×V0)):
  Env0 P w K b base (A.under (.builtin "type.__call__" {.ref C::us,c})) a s H:={by first | exact e.frames |(simpa [Around.under,Code.envs,Code.isFrame,pushEnvs] using e.frames),e.mod,e.bs,e.bsz,e.funs,e.frf,e.hok,e.bare}
section
variable{X:Cx}{pins:C7}{σ:St}{H:Hp}{s s':V2}
theorem Inv.env0(I:Inv X pins σ H s):Env0 X.prog X.w X.K X.mg X.base X.A X.stack s H:=
 {I.ok.frames,I.ok.mod,I.bs,nP I.ok.bsz I.sz,I.stack,I.stkFree,I.hok,I.bare}
theorem Inv.after{Q:VK}{u:V0}(I:Inv X pins σ H s)(h:CE X.stack X.prog X.w H s Q u s'):EP X pins σ Q u s':=by
 ext zX h v i os a j k;ext oAA k c r q;obtain⟨f,g,d,t,e⟩:=s';obtain rfl:e=s.os:=os;exact{v,i,I.call (h':=f) (g':=g) (d':=d) (t':=t) (ch:=[]) j c a (λb z=>absurd z (by simp)),r,q}
end
def jY(sp:Sp)(a:B3)(E:XK)(t:TA):TE:=λσ H Q=>t σ H λc b=>sp (c++a) b Q E
def Binds(K:A6)(b:V7)(ps:C1)(ds:B7):Prop:=
 ∀(s:V2)(a:B7),K.In s.heap->(a++ds)...*=ps...*->BindsTo s b {a,[]} (ps.zip (a++ds))
theorem Binds.all{K:A6}{c:V7}{ps:C1}(h:∀a:List V0,a...*=ps...*->bindArgs c {a,[]}=pure (ps.zip a)):Binds K c ps []:=λs a _ b=>by
 rw[nS] at b⊢;exact .of_eq (h a b)
def gN(CX:CXT)(X:Cx)(E:XK):Prop:=∀(a:C7)(σ:St)(H:Hp)(s:V2)(e:V0)(b:V2),Inv X a σ H s->CX X.stack H s E e b->X.xe e b
section
variable{X:Cx}{CX:CXT}{k:Nat}{f C:V1}{fd:V7}{ps:C1}{sp:Sp}{dvs:B3}{ds:B7}{E:XK}{x m:Str}{p pos apos:Pos}{e o:Expr}{es:C5}{ta:TE}{t:TA}
theorem zVj{a:C7}{σ:St}{H:Hp}{s:V2}{Q:VK}{us:B7}{vs:B3}(F:FnOk X.prog X.w X.K X.mg X.base CX k f fd ps sp)(q:Room k X.A)(d:Binds X.K fd ps ds)(i:Vals dvs ds)(g:gN CX X E)
  (I:Inv X a σ H s) (r:Vals vs us) (h:sp (vs++dvs) H Q E):V8 (S5 X.prog X.w) X.A (call (.ref f) us) (EP X a σ Q) X.xe s:=by
 let c:Vals (vs++dvs) (us++ds):=r.append i;let j:(us++ds)...*=ps...*:=by rw[<-c...*];exact F.len _ _ _ _ h
 refine aO (rX (F.run X.A X.stack s H {us,[]} (us++ds) (vs++dvs) Q E q I.env0 (d s us I.kIn j) c h) λr l b=>?_)
 cases r with
 |error e=>exact g a σ H s e l I b|ok n=>
  cases n with|ret u=>exact I.after b|next=>exact False.elim b|brk=>exact False.elim b|cont=>exact False.elim b
theorem zIe(F:FnOk X.prog X.w X.K X.mg X.base CX k f fd ps sp)(y:Room k X.A)(u:Gl X x)(j:X.mg x=Y (.ref f))(n:A7 X.K (.ref f)=true)(g:Binds X.K fd ps ds)(i:Vals dvs ds)(v:gN CX X E)
  (w:PA X (e::es) t) (b:(x==("__debug__" :Str))=false:=by decide) (l:A2 (e::es) X.env=(false,eval e X.env)::A2 es X.env:=by rfl) (c:(S2 pos (A2 es X.env)).any (·.1)=false:=by rfl):
  PE X (.Call (.Name x p) (e::es) [] pos) (jY sp dvs E t):=by
 intro a s σ H Q I h;refine rF (qO I u j ?_ b);refine W.callWith_K (h₀:=X.base) I.ok.mod.kin n (thn (w pos a s σ H _ I h) λB A ⟨D,z,d,r,q⟩=>{d.kIn, ?_}) l c;exact zVj F y g i v d r q
theorem zTl(F:FnOk X.prog X.w X.K X.mg X.base CX k f fd ps sp)(j:Room k X.A)(c:Gl X x)(i:X.mg x=Y (.ref f))(n:A7 X.K (.ref f)=true)(l:Binds X.K fd ps ds)(g:Vals dvs ds)(d:gN CX X E)
  (a:(x==("__debug__" :Str))=false:=by decide):PE X (.Call (.Name x p) [] [] pos) (jY sp dvs E zBe):=by
 intro b s σ H Q I h;refine rF (qO I c i ?_ a);exact W.callWith_K0 I.kIn n (zVj (us:=[]) F j l g d I .nil h)
structure Mk(K:A6)(C f:V1):Prop where
 makes:W.makesIn K C=true
 init:W.findIn K (.ref C) "__init__" =Y ↥(.ref f)
 fn:W.isFn K (.ref f)=true
 kp:A7 K (.ref C)=true
end
section
variable{X:Cx}{CX:CXT}{k:Nat}{f C:V1}{fd:V7}{ps ks:C1}{sp:Sp}{E:XK}{x m:Str}{p pos apos kpos:Pos}{e o:Expr}{es:C5}{kws:List Keyword}{te ta:TE}{t tk:TA}{nm:Option Str}
structure KBinds(K:A6)(fd:V7)(ps ks:C1)(g:List V0->List V0->List V0)(gV:List V->List V->List V):Prop where
 to:∀(s:V2)(us ws:B7),K.In s.heap->(g us ws)...*=ps...*->BindsTo s fd {us,ks.zip ws} (ps.zip (g us ws))
 rel:∀{vs:B3}{us:B7}{zs:B3}{ws:B7},Vals vs us->Vals zs ws->Vals (gV vs zs) (g us ws)
variable{g:List V0->List V0->List V0}{gV:List V->List V->List V}
end
structure wC(N P:C1)(sc:Scope):Prop where
 kind:sc.kind= .function
 co:sc.isCoroutine=false
 gen:sc.isGenerator=false
 nd:N.Nodup
 pre:N.take P...*=P
 par:∀x∈P,sc.names.lookup x=some .local\/sc.names.lookup x=some .cell
 nofree:∀y∈sc.names,y.2≠ .free
theorem zGg{kindOf:Str->Option NameKind}{x:Str}:∀{a:List (Str×V0)}{m:C8},(∀v,(x,v)∉a)->bindL kindOf a m x=m x
 |[],_,_=>rfl|(n,v)::r,m,h=>by
  unfold bindL;rw[zGg λw b=>h w (mI _ b)];split
  ·let:x≠n:=by rintro rfl;exact h v mE
   simp[this]
  ·rfl
theorem zFs{kindOf:Str->Option NameKind}{x:Str}:∀{a:List (Str×V0)}{m:C8},(∀v,(x,v)∉a)->bindC kindOf a m x=m x
 |[],_,_=>rfl|(n,v)::r,m,h=>by
  unfold bindC;rw[zFs λw b=>h w (mI _ b)];split
  ·rfl
  ·let:x≠n:=by rintro rfl;exact h v mE
   simp[this]
theorem zGj{kindOf:Str->Option NameKind}{x:Str}{v:V0}:∀{P:C1}{vs:B7}{i:Nat}{m:C8},P.Nodup->P[i]? =Y x->vs[i]? =Y v->kindOf x=some .local->
  bindL kindOf (P.zip vs) m x=Y v
 |[],_,_,_,_,h,_,_=>by simp at h|_::_,[],_,_,_,_,h,_=>by simp at h|p::P,w::vs,0,m,c,b,a,d=>by
  simp at b a;subst b;subst a;show bindL kindOf ((p,w)::P.zip vs) m p=_;unfold bindL;rw[zGg λv e=>(nY.mp c).1 (bH e).1,mJ d];simp
 |p::P,w::vs,i+1,m,c,b,a,d=>by
  show bindL kindOf ((p,w)::P.zip vs) m x=_;unfold bindL;exact zGj (i:=i) (nY.mp c).2 (by simpa using b) (by simpa using a) d
theorem zGs{kindOf:Str->Option NameKind}{x:Str}{v:V0}:∀{P:C1}{vs:B7}{i:Nat}{m:C8},P.Nodup->P[i]? =Y x->vs[i]? =Y v->kindOf x≠some .local->
  bindC kindOf (P.zip vs) m x=Y v
 |[],_,_,_,_,h,_,_=>by simp at h|_::_,[],_,_,_,_,h,_=>by simp at h|p::P,w::vs,0,m,c,b,a,d=>by
  simp at b a;subst b;subst a;show bindC kindOf ((p,w)::P.zip vs) m p=_;unfold bindC;rw[zFs λv e=>(nY.mp c).1 (bH e).1,mH d];simp
 |p::P,w::vs,i+1,m,c,b,a,d=>by
  show bindC kindOf ((p,w)::P.zip vs) m x=_;unfold bindC;exact zGs (i:=i) (nY.mp c).2 (by simpa using b) (by simpa using a) d
def qS(N:C1)(vs:B3):St:=vs.map some++List.replicate (N...* - vs...*) none
def zBi(CX:CXT)(P:V3)(w:V4)(K:A6)(j:C8)(base:V5)(N:C1)(c:Str)(a:Scope)(f:V1)(g:V0)(A:Around)(b:List S7)(s:V2)(H:Hp)(E:XK):Cx where
 prog:=P
 w:=w
 K:=K
 mg:=j
 base:=base
 A:=A.deeper (envOfC c a s⁻¹ f g)
 N:=N
 s₀:=s
 H₀:=H
 env:=envOfC c a s⁻¹ f g
 outer:=b
 stack:=envOfC c a s⁻¹ f g::b
 ex:=[]
 calm:=true
 fn:=λ_=>true
 pn:=[]
 xe:=λe i=>V8 (S5 P w) (A.deeper (envOfC c a s⁻¹ f g)) (leaving (envOfC c a s⁻¹ f g) e) (λ_ d=>CX b H s E e d) (λh d=>CX b H s E h d) i
theorem zJh{a:Scope}{n:Nat}{x:Str}(h:a.names.lookup x=some .cell):∃c,(cellsFrom n a.names []).lookup x=Y c:=by
 let q:=W.cellsFrom_some a.names n [] (.inl h);exact aJ.mp q
theorem zFx{CX:CXT}{P:V3}{w:V4}{K:A6}{M:C8}{base:V5}{N ps:C1}{j:Str}{d:Scope}{f:V1}{J:V0}{A:Around}{g:List S7}{s s1:V2}{H:Hp}{E:XK}{us:B7}{vs:B3}
  (S:wC N ps d) (hd:A.handled=none) (m:Env0 P w K M base A g s H) (hl:vs...*=ps...*) (r:Vals vs us)
  (x:InCallC s s⁻¹ (bindL (envOfC j d s⁻¹ f J).kindOf (ps.zip us) λ_=>none) (cellsFrom (s⁻¹+1) d.names []) (bindC (envOfC j d s⁻¹ f J).kindOf (ps.zip us) λ_=>none) s1):
  Inv (zBi CX P w K M base N j d f J A g s H E) [] (qS N vs) H s1:=by
 let aa:ps...*<=N...*:=by let:=congrArg List.length S.pre;rw[nQ] at this;lia
 refine wB (x.done) λD tk L hk=>?_;subst L;let o:∀b:V1,b∉(zBi CX P w K M base N j d f J A g s H E).ex:=λb z=>absurd (show b∈([]:B9) from z) (by simp);refine{{m.mod,S.kind,O,O,mD _,λy z c D l=>?_,λy hy=>?_,λy c _ h=>?_,λ_=>hd,Around.frames_deeper m.frames, .inr ⟨O,O⟩,λb z=>absurd z (o b),m.bs,m.bsz,λb _ _=>o b,λb z=>absurd z (o b),m.funs,m.frf},
  rfl,m.bare,Un.kept hk,{_,x.toInCall.ns,λi y v D l h3=>?_},λy c h=>{_,x.cell y c h},m.hok.fresh (mD _),λy c h=>?_,λp B=>absurd (show p∈([]:C7) from B) (by simp),m.hok.kept hk, ?_}
 ·exact name_of_addr x.apart (rV D) (rV l)
 ·let hy:d.names.lookup y=some .cell\/d.names.lookup y=some .free:=hy
  rcases hy with hy | hy
  ·exact zJh hy
  ·exact absurd O (S.nofree _ (rV hy))
 ·exact tG (x.above y c (rV h))
 ·let I:i<vs...*:=by
   unfold qS at l
   by_cases I:i<vs...*
   ·exact I
   ·rw[nU (by simpa using I)] at l
    rw[aQ] at l;split at l<;>cases l
  let ha:vs[i]? =Y v:=by
   unfold qS at l;rw[pB (by simpa using I),nG] at l
   cases e:vs[i]? with|none=>rw[e] at l;cases l|some a=>rw[e] at l;cases l;rfl
  obtain⟨u,Q,rv⟩:=r.get ha;let B:ps[i]? =Y y:=by
   rw[<-S.pre,List.getElem?_take_of_lt ∅];exact D
  let t:ps.Nodup:=by rw[<-S.pre];exact S.nd.sublist (List.take_sublist _ _)
  refine{u,rv, ?_};rcases S.par y (mO B) with k | k
  ·exact .inl {k,zGj t B Q k}
  ·obtain⟨c,e⟩:=zJh (n:=s⁻¹+1) k
   refine .inr {.inl k,c,e, ?_};let q:=x.cell y c e;rw[zGs t B Q (by show d.names.lookup y≠_;rw[k];decide)] at q;exact q
 ·exact m.hok.fresh (tG (x.above y c (rV h)))
 ·unfold qS
  show _=N...*;rw[mK,mM,rN]
  lia
theorem zOe{CX:CXT}{P:V3}{w:V4}{K:A6}{mg:C8}{base:V5}{k:Nat}{f:V1}{name d:Str}{h:Arguments}{i:List V6}{a:Scope}{dV kV B pm g ct oc:V0}{an od:Option V1}
  {ab:Array (Option V0)} {N ps:C1} {sp:Sp} (lk:K.lookup f=Y {oc,od, .func (W.fnOf name d h i a dV kV B pm an g ct),ab}) (ac:A9 K g d=true) (S:wC N ps a)
  (len:∀j H Q E,sp j H Q E->j...*=ps...*)
  (m:∀(A:Around)(c:List S7)(s:V2)(H:Hp)(j:B3)(Q:VK)(E:XK),Room k (A.deeper (envOfC d a s⁻¹ f g))->sp j H Q E->
   ∃t,PSs (zBi CX P w K mg base N d a f g A c s H E) i t/\t {nx:=λ_ l=>Q .non l,rt:=Q} (qS N j) H):
  FnOk P w K mg base CX (k+1) f (W.fnOf name d h i a dV kV B pm an g ct) ps sp:=by
 refine{len,λA c s H ae us j Q E hr L hb r D=>?_};let hl:=len _ _ _ _ D;let KX:K.In s.heap:=L.mod.kin.keeps λb o e=>(L.bs b o e).1;let aa:s.heap.NoLimit:=L.mod.nolimit.keeps λb o e=>(L.bs b o e).1;let p:∀y∈ps.zip us,a.names.lookup y.1=some .local\/(a.names.lookup y.1=some .cell/\((cellsFrom (s⁻¹+1) a.names []).lookup y.1).isSome=true):=fun⟨n,v⟩ hy=>by
  rcases S.par n (bH hy).1 with q | q
  ·exact .inl q
  ·exact .inr {q,W.cellsFrom_some _ _ _ (.inl q)}
 refine codeAny_call_function hr.depth (KX _ _ lk) O S.co S.gen O (W.codeRec_of KX ac) (hb _ _ _ _ ?_);refine wpAny_newFunctionEnv_cells S.kind p λaf he s1 x=>?_;subst he;refine{aa.keeps x.toInCall.keep,codeAny_func ?_};obtain⟨t,ht,hq⟩:=m A c s H j Q E (hr.deeper _) D;let I:Inv (zBi CX P w K mg base N d a f g A c s H E) [] (qS N j) H s1:=zFx S hr.hd L hl r x;refine pC (ht [] s1 (qS N j) H _ I hq) (λfl s' z=>?_) λe s' z=>z;let M:∀{σ':St}{l:Hp}{v:V}{u:V0},Inv (zBi CX P w K mg base N d a f g A c s H E) [] σ' l s'->RelV v u->Q v l->CE c P w H s Q u s':=
  λ{σ' l v u} J rv q=>⟨v,l,J.os,J.bare,J.base,J.hok,rv,q⟩
 cases fl with
 |ret u=>
  ext zZ z v σ' l J rv q;exact M J rv q
 |next=>
  ext wB z σ' l J q;exact M (v:=V.non) (u:=Value.none) J O q
 |brk=>
  ext wB z _ _ _ q;exact False.elim q
 |cont=>
  ext wB z _ _ _ q;exact False.elim q
section
variable{X:Cx}{x:Str}{p pos:Pos}{e:Expr}{es:C5}{t:TA}{id T:String}{r:List V->Hp->VK->Prop}
def tCB(r:List V->Hp->VK->Prop)(t:TA):TE:=λσ H Q=>t σ H λb a=>r b a Q
theorem zN(o:wP X (.builtin id) r)(q:Gl X x)(i:X.mg x=none)(u:A1 x=Y (.builtin id))(v:PA X (e::es) t)(k:x≠ "__name__":=by decide)(b:(x==("__debug__" :Str))=false:=by decide)
  (n:A2 (e::es) X.env=(false,eval e X.env)::A2 es X.env:=by rfl) (c:(S2 pos (A2 es X.env)).any (·.1)=false:=by rfl):PE X (.Call (.Name x p) (e::es) [] pos) (tCB r t):=by
 intro a s σ H Q I h;refine rF (gJ I q i u ?_ k b);exact bI (thn (v pos a s σ H _ I h) λm l ⟨w,g,d,j,f⟩=>o a l σ g w m Q d j f) n c
theorem yU(o:wP X (.type T) r)(q:Gl X x)(i:X.mg x=none)(u:A1 x=Y (.type T))(v:PA X (e::es) t)(k:x≠ "__name__":=by decide)(b:(x==("__debug__" :Str))=false:=by decide)
  (n:A2 (e::es) X.env=(false,eval e X.env)::A2 es X.env:=by rfl) (c:(S2 pos (A2 es X.env)).any (·.1)=false:=by rfl):PE X (.Call (.Name x p) (e::es) [] pos) (tCB r t):=by
 intro a s σ H Q I h;refine rF (gJ I q i u ?_ k b);exact rC (thn (v pos a s σ H _ I h) λm l ⟨w,g,d,j,f⟩=>o a l σ g w m Q d j f) n c
end
end L2
namespace HT
open PySem PyProof.Rows
section
open PySem.SeqAt
open PySem.AutoSeq1 (wpAny_loadPart')
open PySem.MeetsSeq PySem.MeetsSeq2 PySem.MeetsSeq3
end
section
variable{prog:V3}{w:V4}{A:Around}{E:C9}{s:V2}
theorem cat_tup{t b:V1}{vs a:B7}{Q:C9}(x:IsTup s.heap t vs.toArray)(B:IsTup s.heap b a.toArray)(p:vs≠ [])
  (y:a= []->Q (.ref t) s) (v:a≠ []->Q (.ref s⁻¹) {s with heap:=s.heap.push {cls:=.type "tuple",data:=.seq (vs++a).toArray}})
  (hsz:vs...*+a...*<=V9):V8 (S5 prog w) A (binaryOp .Add (.ref t) (.ref b)) Q E s:=by
 obtain⟨⟨z,l,u,r⟩,i,m,n,k⟩:=id x;obtain⟨⟨o,g,data2,f⟩,c,h,q,d⟩:=id B;simp only at m k h d;subst m k h d;let e:vs.toArray++a.toArray=(vs++a).toArray:=by simp
 by_cases j:a= []
 ·exact concat_meets ⟨_,i,O⟩ ⟨_,c,O⟩ noFill_tuple_add seq_tuple_add PySem.F.slot_tuple_add PySem.F.entry_tuple_add (PySem.F.args_tuple_add_2 _ _)
   (tuple_addW1 t b vs.toArray a.toArray n q l g r f (by simpa using p) (by simp[j])) {i,c,y j}
 ·refine concat_meets ⟨_,i,O⟩ ⟨_,c,O⟩ noFill_tuple_add seq_tuple_add PySem.F.slot_tuple_add PySem.F.entry_tuple_add (PySem.F.args_tuple_add_2 _ _)
   (tuple_addW2 t b vs.toArray a.toArray n q l g r f (by simpa using p) (by simpa using j) (by rw[List.size_toArray,List.size_toArray];exact hsz)) {i,c, ?_}
  rw[e];exact v j
def sIx(n d:Nat):Option Int->Nat
 |none=>d|some v=>if v<0 then(v+(n:Int)).toNat else min v.toNat n
theorem sIx_none(n d:Nat):sIx n d none=d:=rfl
theorem sIx_nat(n d k:Nat):sIx n d ↥(k:Int)=min k n:=by
 show(if(k:Int)<0 then((k:Int)+(n:Int)).toNat else min (k:Int).toNat n)=min k n;rw[if_neg ∅,Int.toNat_natCast]
theorem yCu(n d:Nat)(b:d<=n)(o:Option Int):sIx n d o<=n:=by
 cases o with
 |none=>exact b|some v=>
  show(if v<0 then(v+(n:Int)).toNat else min v.toNat n)<=n
  by_cases a:v<0
  ·rw[if_pos a];lia
  ·rw[if_neg a];exact Nat.min_le_right _ _
theorem zPm(v:Int)(n d:Nat):(if v<0 then max (v+(n:Int)) 0 else min v (n:Int))=((sIx n d ↥v:Nat):Int):=by
 show(if v<0 then max (v+(n:Int)) 0 else min v (n:Int))=(((if v<0 then(v+(n:Int)).toNat else min v.toNat n):Nat):Int)
 by_cases a:v<0
 ·simp only[if_pos a];lia
 ·simp only[if_neg a];lia
theorem zMv(lo a:Option Int)(n:Nat):Builtin.Slice.sliceAdjust lo a 1 (n:Int)=(((sIx n 0 lo:Nat):Int),((sIx n n a:Nat):Int)):=by
 let b:¬((1:Int)<0):=by lia
 unfold Builtin.Slice.sliceAdjust;simp only[b,if_false];refine Prod.ext ?_ ?_
 ·cases lo with|none=>rfl|some v=>exact zPm v n 0
 ·cases a with|none=>rfl|some v=>exact zPm v n n
theorem zLn(i j:Nat):Builtin.Slice.slicePlaces (i:Int) (j:Int) 1=j - i:=by
 unfold Builtin.Slice.slicePlaces;let a:(1:Int)>0:=by lia
 simp only[a,if_true,Int.ediv_one];split<;>lia
theorem zDs{v:V0}{o:Option Int}{Q:Option Int->V2->Prop}(p:IsPart v o)(h:Q o s):V8 (S5 prog w) A (Builtin.Slice.slicePartIndex v) Q E s:=by
 cases p with|none=>exact slicePart_none h|int i t=>exact slicePart_int h
theorem kU{f:V1}{d e:V0}{lo c:Option Int}{n:Nat}{Q:Int×Int×Nat->V2->Prop}(j:s.heap.IsSliceOf f d e .none)(pl:IsPart d lo)(g:IsPart e c)
  (h:Q (((sIx n 0 lo:Nat):Int),1,sIx n n c - sIx n 0 lo) s):V8 (S5 prog w) A (Builtin.Slice.sliceApplied (.ref f) (pure (n:Int))) Q E s:=by
 refine yX (id j) λos a i b=>?_;unfold Builtin.Slice.sliceApplied Builtin.Slice.sliceFields;refine wpAny_bind (wpAny_bind (wpAny_field a b (x:=d) O (wpAny_bind (wpAny_field a b (x:=e) O (wpAny_bind (wpAny_field a b (x:=.none) O (wpAny_pure ?_)))))));refine wpAny_bind (slicePart_none ?_);show V8 _ _ (if((1:Int)==0)=true then _ else _) _ _ s;rw[if_neg ∎];refine wpAny_bind (zDs pl (wpAny_bind (zDs g (wpAny_bind (wpAny_pure ?_)))));show V8 _ _ (match Builtin.Slice.sliceAdjust lo c 1 (n:Int) with |(lo,c)=>pure (lo,(1:Int),Builtin.Slice.slicePlaces lo c 1)) _ _ s
 rw[zMv lo c n];show V8 _ _ (pure (((sIx n 0 lo:Nat):Int),(1:Int),Builtin.Slice.slicePlaces ((sIx n 0 lo:Nat):Int) ((sIx n n c:Nat):Int) 1)) _ _ s;rw[zLn];exact wpAny_pure h
theorem zUw(xs:Array V0)(i k:Nat):((List.range k).filterMap fun(m:Nat)=>xs[((i:Int)+(m:Int)*1).toNat]?).toArray=((xs.toList.drop i).take k).toArray:=by
 let e:(fun(m:Nat)=>xs[((i:Int)+(m:Int)*1).toNat]?)=λm=>xs[i+m]?:=by
  funext m
  let:((i:Int)+(m:Int)*1).toNat=i+m:=by lia
  rw[this]
 rw[e];let:=pick_run xs i k;rw[List.filterMap_map] at this;let a:((λx=>xs[x]?)∘λx=>i+x)=λm=>xs[i+m]?:=rfl;rw[a] at this;rw[this]
theorem getItem_tuple_cut{t i:V1}{items:Array V0}{k j:V0}{lo b:Option Int}{Q:C9}(c:IsTup s.heap t items)(l:s.heap.IsSliceOf i k j .none)(pl:IsPart k lo)(o:IsPart j b)
  (n:¬(sIx items.size 0 lo=0/\sIx items.size items.size b=items.size))
  (h:Q (.ref s⁻¹) {s with heap:=s.heap.push {cls:=.type "tuple",data:=.seq ((items.toList.drop (sIx items.size 0 lo)).take (sIx items.size items.size b - sIx items.size 0 lo)).toArray}})
  (hsz:items.size<=V9):V8 (S5 prog w) A (getItem (.ref t) (.ref i)) Q E s:=by
 let a:sizeOk (.seq ((items.toList.drop (sIx items.size 0 lo)).take (sIx items.size items.size b - sIx items.size 0 lo)).toArray):=by
  show((items.toList.drop (sIx items.size 0 lo)).take (sIx items.size items.size b - sIx items.size 0 lo)).toArray.size<=V9;rw[List.size_toArray,List.length_take,List.length_drop,Array.length_toList]
  lia
 let r:sIx items.size items.size b<=items.size:=yCu _ _ (Nat.le_refl _) b;refine yX (id l) λos e f p=>?_;let g:s.TypeIs (.ref i) "slice":=⟨os,e,f⟩;unfold getItem
 try with_reducible refine wpAny_holding ?_
 first | refine wpAny_bind (wpAny_pure ?_)| skip
 refine wpAny_bind (wpAny_sequenceKey c.typeIs ∎ ?_);refine wpAny_bind (wpAny_callSpecial?_slot (name:=A5 "__getitem__") c.typeIs PyProof.Rows.slot_tuple_getitem
  (wpAny_call_entry PyProof.Rows.slot_tuple_getitem c.typeIs entry_tuple_getitem ?_ (args_tuple_getitem _ _)))
 show V8 _ _ (Builtin.Tuple.tupleItemsOf (.ref t)>>=_) _ _ s;refine wpAny_bind (tupleItemsOf_ c ?_);refine wpAny_bind (wpAny_typeOf g ?_);rw[if_pos ∎];refine wpAny_bind (kU l pl o ?_);let d:¬((((sIx items.size 0 lo:Nat):Int)==0 && (1:Int)==1 && (sIx items.size items.size b - sIx items.size 0 lo)==items.size)=true):=by
  intro q;rw[Bool.and_eq_true,Bool.and_eq_true] at q;let u:((sIx items.size 0 lo:Nat):Int)=0:=eq_of_beq q.1.1;let v:sIx items.size items.size b - sIx items.size 0 lo=items.size:=eq_of_beq q.2;exact n {∅,∅}
 show V8 _ _ (if(((sIx items.size 0 lo:Nat):Int)==0 && (1:Int)==1 && (sIx items.size items.size b - sIx items.size 0 lo)==items.size)=true then _ else _) _ _ s;rw[if_neg d,zUw]
 first
  |exact wpAny_bind (m:=Builtin.Tuple.tupleExact _) (wpAny_newObj_type (wpAny_pure {_,O,wpAny_pure h}) a)
  |exact wpAny_bind (m:=Builtin.Tuple.tupleExact _) (wpAny_newObj_type (wpAny_bind (wpAny_pure (wpAny_pure {_,O,wpAny_pure h}))) a)
  |exact wpAny_bind (wpAny_bind (m:=Builtin.Tuple.tupleExact _) (wpAny_newObj_type (wpAny_pure (wpAny_pure {_,O,wpAny_pure h})) a))
  |exact wpAny_bind (wpAny_bind (m:=Builtin.Tuple.tupleExact _) (wpAny_newObj_type (wpAny_pure {_,O,wpAny_pure h}) a))
end
end HT
namespace L2
open PySem PySem.Spec PyProof.Rows
abbrev TO:=St->Hp->(Option Int->Hp->Prop)->Prop
def PO(X:Cx)(e:Option Expr)(t:TO):Prop:=
 ∀(a:C7)(s:V2)(σ:St)(H:Hp)(Q:Option Int->Hp->Prop),Inv X a σ H s->t σ H Q->
  V8 (S5 X.prog X.w) X.A (evalPart e X.env) (λu c=>∃o b,Inv X a σ b c/\IsPart u o/\Q o b) X.xe s
def zHl:TO:=λ_ H Q=>Q none H
def zSp(t:TE):TO:=λσ H Q=>t σ H λx a=>∃i,x= .int i/\Q ↥i a
section
variable{X:Cx}{e:Expr}{te:TE}{lo hi:Option Expr}{tl th:TO}{pos p2:Pos}
theorem jF:PO X none zHl:=by
 intro a s σ H Q I h;rw[evalPart_none];exact mY {none,H,I, .none,h}
theorem jH(h:PE X e te):PO X ↥e (zSp te):=by
 intro a s σ H Q I g;rw[evalPart_some];refine thn (h a s σ H _ I g) λu j ⟨x,d,b,f,c⟩=>?_;obtain⟨i,rfl,q⟩:=c;obtain⟨t,rfl⟩:=f;exact{Y i,d,b, .int i t,q}
def SlR(X:Cx)(r:V->Option Int->Option Int->Hp->VK->Prop):Prop:=
 ∀(a:C7)(s:V2)(σ:St)(H:Hp)(x:V)(v b c:V0)(lo hi:Option Int)(d:V1)(Q:VK),Inv X a σ H s->RelV x v->s.heap.IsSliceOf d b c .none->IsPart b lo->IsPart c hi->r x lo hi H Q->
  ∃T id,typeLookup (.type T) "__getitem__" =pure ↥(.builtin id)/\s.TypeIs v T/\V8 (S5 X.prog X.w) X.A (getItem v (.ref d)) (EP X a σ Q) X.xe s
def tSl(r:V->Option Int->Option Int->Hp->VK->Prop)(te:TE)(tl th:TO):TE:=λσ H Q=>te σ H λx a=>tl σ a λl b=>th σ b λu c=>r x l u c Q
theorem qB{r:V->Option Int->Option Int->Hp->VK->Prop}(w:SlR X r)(N:PE X e te)(L:PO X lo tl)(o:PO X hi th):PE X (.Subscript e (.Slice lo hi none p2) pos) (tSl r te tl th):=by
 intro a s σ H Q I h;refine Subscript_ (thn (N a s σ H _ I h) λv M ⟨x,D,z,m,B⟩=>?_);refine wpAny_Slice (thn (L a M σ D _ z B) λf k ⟨l,H2,A,t,J⟩=>thn (o a k σ H2 _ A J) λd c ⟨u,g,j,n,i⟩=>?_);rw[evalPart_none];refine mY ?_;let I4:Inv X a σ g {c with heap:=c.heap.push {cls:=.type "slice",data:=.fields #[f,d, .none]}}:=j.kept (t':=c.toks) λb ob q=>mL _ q;refine yM (w a {c with heap:=c.heap.push {cls:=.type "slice",data:=.fields #[f,d, .none]}} σ g x v f d l u c⁻¹ Q I4 m (Heap.IsSliceOf.new ..) t n i) λT id y E p=>?_;show V8 (S5 X.prog X.w) X.A (subscriptTail e (.Slice lo hi none p2) v (.ref c⁻¹)) (EP X a σ Q) X.xe {c with heap:=c.heap.push {cls:=.type "slice",data:=.fields #[f,d, .none]}};exact tail_any (ops:=[.ref c⁻¹,v]) E y p (by with_unfolding_all rfl)
def jV(xs:B3)(lo hi:Option Int):List V:=(xs.drop (HT.sIx xs...* 0 lo)).take (HT.sIx xs...* xs...* hi - HT.sIx xs...* 0 lo)
theorem zCv(xs:B3)(lo hi:Option Int):(jV xs lo hi)...*<=xs...*:=by
 unfold jV;rw[nQ,pZ]
 lia
def rSlT(K:A6):V->Option Int->Option Int->Hp->VK->Prop:=λx lo hi H Q=>∃a b,x= .ref a/\SqT K H a b/\
 ¬(HT.sIx b...* 0 lo=0/\HT.sIx b...* b...* hi=b...*)/\∀p,H p=none->Q (.ref p) (upd H p (.tup (jV b lo hi)))
theorem yCd:SlR X (rSlT X.K):=by
 intro j s σ H x v z w lo hi A Q I n u t m h;ext zX h a d f p l q;subst f;cases n;refine yX (I.tuple p) λg r i k=>?_;let c:g.toArray.size=d...*:=by rw[mT];exact r.length.symm
 refine{"tuple",_,PyProof.Rows.slot_tuple_getitem.lookup,i.typeIs, ?_};refine HT.getItem_tuple_cut i u t m (by rw[c];exact l) ?_ (by rw[c];exact k);rw[c];refine{.ref s⁻¹,_,I.laid (t':=s.toks) (o:=.tup (jV d lo hi)) (λb y q=>mL _ q) (mD _) ?_,O,q _ (I.hok.fresh (mD _))};exact{nP (zCv d lo hi) k,_,(r.drop (HT.sIx d...* 0 lo)).take (HT.sIx d...* d...* hi - HT.sIx d...* 0 lo),IsTup.new _ _}
def rCatT(K:A6):R2:=λx y H Q=>∃a b d c,x= .ref a/\y= .ref b/\SqT K H a d/\SqT K H b c/\d≠ []/\d...*+c...*<=V9/\
 (c= []->Q (.ref a) H)/\(c≠ []->∀p,H p=none->Q (.ref p) (upd H p (.tup (d++c))))
theorem Vals.nil_iff{xs:B3}{us:B7}(r:Vals xs us):us= []↔xs= []:=by
 cases r with|nil=>simp|cons _ _=>simp
theorem zZf:OpR X (binaryOp .Add) (rCatT X.K):=by
 intro j s σ H x y v u Q I E L h;ext yK h a b t r g f;ext zQ f i p n J k f;ext oA f A B;subst g i;cases E;cases L;refine yX (I.tuple p) λm d D _=>?_;refine yX (I.tuple n) λl c p2 _=>?_;refine HT.cat_tup D p2 (λz=>J (d.nil_iff.mp z)) (λz=>{.ref a,H,I,O,A (c.nil_iff.mp z)}) (λz=>?_) (by rw[<-d...*,<-c...*];exact k);refine{.ref s⁻¹,_,I.laid (t':=s.toks) (o:=.tup (t++r)) (λb M q=>mL _ q) (mD _) ?_,O,B (λw=>z (c.nil_iff.mpr w)) _ (I.hok.fresh (mD _))};exact{by rw[mK];exact k,_,d.append c,IsTup.new _ _}
end
def ixN(n:Nat)(i:Int):Option Nat:=if 0<=i then(if i<n then Y i.toNat else none) else if -(n:Int)<=i then Y (i+n).toNat else none
def atI{α:Type}(xs:List α)(i:Int):Option α:=(ixN xs...* i).bind λj=>xs[j]?
theorem zHz{n:Nat}{i:Int}{j:Nat}(h:ixN n i=Y j):seqIndex? i n=Y j/\j<n/\-(n:Int)<=i/\i<n:=by
 unfold ixN at h
 by_cases b:0<=i
 ·rw[mJ b] at h
  by_cases a:i<n
  ·rw[mJ a] at h
   let e:i.toNat=j:=mW h;exact{by rw[seqIndex_of b a,e],∅,∅,a}
  ·rw[mH a] at h;cases h
 ·rw[mH b] at h
  by_cases a: -(n:Int)<=i
  ·rw[mJ a] at h
   let e:(i+n).toNat=j:=mW h;exact{by rw[seqIndex_neg ∅ a,e],∅,a,∅}
  ·rw[mH a] at h;cases h
theorem zHn{α:Type}{xs:List α}{i:Int}{v:α}(h:atI xs i=Y v):∃j,seqIndex? i xs...*=Y j/\xs[j]? =Y v/\j<xs...*/\-(xs...*:Int)<=i/\i<xs...*:=by
 unfold atI at h
 cases e:ixN xs...* i with
 |none=>rw[e] at h;cases h|some j=>
  rw[e] at h;refine xI (zHz e) λd a b c=>?_;exact⟨j,d,h,a,b,c⟩
theorem yC{α:Type}{xs:List α}{j:Nat}{v:α}(h:xs[j]? =Y v):atI xs (j:Int)=Y v:=by
 let a:j<xs...*:=(mN.mp h).1;let e:ixN xs...* (j:Int)=Y j:=by
  unfold ixN;rw[mJ ∅,mJ ∅];simp
 unfold atI;rw[e];exact h
theorem xR{α:Type}(xs:List α)(v:α):atI (xs++ [v]) (-1)=Y v:=by
 let a:(xs++ [v])...*=xs...*+1:=by simp
 let e:ixN (xs++ [v])...* (-1)=Y xs...*:=by
  unfold ixN;rw[a,mH ∎,mJ ∅]
  congr 1
  lia
 unfold atI;rw[e];show(xs++ [v])[xs...*]? =Y v;simp
def zPf(b:Expr):Prop:=∀o i,subscripted b false o i=operate [o,i] (getItem o i)
def IxR(X:Cx)(r:R2):Prop:=
 ∀(c a:Expr)(b:C7)(s:V2)(σ:St)(H:Hp)(x y:V)(v u:V0)(Q:VK),Inv X b σ H s->RelV x v->RelV y u->r x y H Q->
  subscripted a false v u=operate [v,u] (getItem v u)->V8 (S5 X.prog X.w) X.A (subscriptTail c a v u) (EP X b σ Q) X.xe s
def MtR(X:Cx)(id:String)(r:V->List V->Hp->VK->Prop):Prop:=
 ∀(a:C7)(s:V2)(σ:St)(H:Hp)(x:V)(b:B3)(v:V0)(c:B7)(Q:VK),Inv X a σ H s->RelV x v->Vals b c->r x b H Q->
  V8 (S5 X.prog X.w) X.A (call (.builtin id) (v::c)) (EP X a σ Q) X.xe s
section
variable{X:Cx}{a b:Expr}{ta tb:TE}{pos:Pos}
theorem pe_ix{r:R2}(m:IxR X r)(j:PE X a ta)(k:PE X b tb)(l:zPf b):PE X (.Subscript a b pos) (tOp r ta tb):=by
 intro c s σ H Q I h;exact Subscript_ (yEd j k I h λv u e x y i d f g q=>m a b c e σ i x y v u Q d f g q (l _ _))
def zXc(K:A6):R2:=λx y H Q=>∃p c i v,x= .ref p/\y= .int i/\SqL K H p c/\atI c i=Y v/\Q v H
def zTz(K:A6):R2:=λx y H Q=>∃p c i v,x= .ref p/\y= .int i/\SqT K H p c/\atI c i=Y v/\Q v H
def rIxS:R2:=λx y H Q=>∃z i c,x= .str z/\y= .int i/\z...*<=V9/\atI z.cps.toList i=Y c/\Q (.str {#[c]}) H
theorem zS:IxR X (zXc X.K):=by
 intro m g c s σ H x y v u Q I rx ry h B;ext yK h p xs i z n M;ext xI M A hq he q;subst n A;cases rx;obtain⟨t,rfl⟩:=ry;refine yX (I.list hq) λk r l hz=>?_;refine wS (zHn he) λj e J h3 L h5=>?_;obtain⟨w,E,o⟩:=r.get J;let N:=r...*;let hn:=zAo;let d:EP X c σ Q w s:=⟨z,H,I,o,q⟩
 by_cases D:0<=i
 ·let f:i.toNat=j:=by
   rw[seqIndex_of D h5] at e;exact mW e
  exact item_listR l.isList D ∅ (by rw[f];simpa using E) d B
 ·let f:(i+(k.toArray.size:Int)).toNat=j:=by
   rw[seqIndex_neg ∅ L] at e;rw[mT,<-N];exact mW e
  exact subscriptTail_builtinR (x:=w) l.isList.typeIs slot_list_getitem.lookup
   (wpAny_getItem_list_neg (Q:=λr s'=>r=w/\EP X c σ Q r s') l.isList ∅ (by rw[mT]<;>lia) ∅ (by rw[f];simpa using E) ⟨O,d⟩) B
theorem vZ:IxR X (zTz X.K):=by
 intro e d c s σ H x y v u Q I L M h D;ext yK h p xs i z f B;ext xI B l N J q;subst f l;cases L;obtain⟨t,rfl⟩:=M;refine yX (I.tuple N) λo r m hz=>?_;refine wS (zHn J) λj A n h3 h4 h5=>?_;obtain⟨w,ew,k⟩:=r.get n;let E:=r...*;let hn:=zAo;let g:EP X c σ Q w s:=⟨z,H,I,k,q⟩;exact subscriptTail_builtinR (x:=w) m.typeIs slot_tuple_getitem.lookup
  (getItem_tuple (j:=j) (Q:=λr s'=>r=w/\EP X c σ Q r s') m ∅ ∅ (by rw[mT,<-E];exact A) (by simpa using ew) ⟨O,g⟩) D
theorem zCa:IxR X rIxS:=by
 intro f d k s σ H x y v u Q I E J h r;ext zZ h z i c e g p;ext oAA p L B q;subst e g;obtain⟨t,rfl⟩:=E;obtain⟨M,rfl⟩:=J;refine wS (zHn B) λj l m h3 n D=>?_;let A:z.cps.toList...*=z...*:=by simp[Str.length]
 rw[A] at l n D;let N:=zAo;exact tail_any (typeIs_str s z t) slot_str_getitem.lookup (getItem_str (c:=c) (by
  let o:decide (i< -(2 ^ 63:Int))=false:=nJ ∅;let w:decide (i≥2 ^ 63)=false:=nJ ∅;rw[o,w,Bool.or_false]) (by rw[l];simpa using m) {.str {#[c]},H,I.tok _,⟨_,O⟩,q}) r
theorem zMm(c:B7)(n j:Nat)(u:V0):Obj.mapSeq (·.setIfInBounds j u) {cls:=.type "list",data:=.seq c.toArray n}={cls:=.type "list",data:=.seq (c.set j u).toArray n}:=by
 simp[Obj.mapSeq]
theorem Inv.lst{d:C7}{σ:St}{H:Hp}{s:V2}{p:V1}{xs:B3}(I:Inv X d σ H s)(h:H p=Y (.lst xs)):
  ∃(c:B7)(n:Nat),Vals xs c/\s.heap.get? p=some {cls:=.type "list",data:=.seq c.toArray n}/\xs...*<=V9:=by
 obtain⟨z,c,n,r,e⟩:=I.hok p _ h;exact⟨c,n,r,e,z⟩
theorem Inv.lstUpd{c:C7}{σ:St}{H:Hp}{s:V2}{p:V1}{xs ys:B3}{d its':B7}{n g:Nat}{f:Obj->Obj}(I:Inv X c σ H s)(h:H p=Y (.lst xs))
  (j:s.heap.get? p=some {cls:=.type "list",data:=.seq d.toArray n}) (i:f {cls:=.type "list",data:=.seq d.toArray n}={cls:=.type "list",data:=.seq its'.toArray g}) (r:Vals ys its') (hz:ys...*<=V9) (t:Nat):
  Inv X c σ (upd H p (.lst ys)) {s with heap:=s.heap.update p f,toks:=t}:=by
 let e:(s.heap.update p f).get? p=some {cls:=.type "list",data:=.seq its'.toArray g}:=by
  rw[bE f j (by rw[i]<;>rfl),i]
 refine I.write (x:=p) (e:=p) (by rw[h];trivial) (.inl O) (λb u k q=>(mZ _ _ (Ne.symm k)).trans q) ⟨_,e⟩ ?_;exact⟨hz,its',g,r,e⟩
def rSetL:V->V->V->Hp->(Hp->Prop)->Prop:=λo i v H Q=>∃p c k j,o= .ref p/\i= .int k/\H p=Y (.lst c)/\ixN c...* k=Y j/\Q (upd H p (.lst (c.set j v)))
theorem zVv:PSet X rSetL:=by
 intro d s σ H o i v ov iv u Q I M D rv h;ext yK h p N k j m L;ext xI L w B E q;subst m w;cases M;obtain⟨t,rfl⟩:=D;refine yM (I.lst B) λc n r f J=>?_;refine xI (zHz E) λe h2 z x=>?_;let l:=r...*;let hn:=zAo;let y:Inv X d σ (upd H p (.lst (N.set j v))) {s with heap:=s.heap.update p (Obj.mapSeq (·.setIfInBounds j u))}:=
  I.lstUpd B f (zMm c n j u) (r.set rv j) (by rw[bJ];exact J) s.toks
 by_cases A:0<=k
 ·let g:k.toNat=j:=by
   rw[seqIndex_of A x] at e;exact mW e
  exact W.ki_setAt f A ∅ (by rw[mT,<-l];exact x) (by rw[g];exact⟨_,y,q⟩)
 ·let g:(k+(c.toArray.size:Int)).toNat=j:=by
   rw[seqIndex_neg ∅ z] at e;rw[mT,<-l];exact mW e
  exact W.ki_setBack f ∅ (by rw[mT,<-l];exact z) ∅ (by rw[g];exact⟨_,y,q⟩)
theorem zHt(lo c:Option Int)(n:Nat):(sliceBounds lo c none n).1=((HT.sIx n 0 lo:Nat):Int)/\(sliceBounds lo c none n).2.1=((HT.sIx n n c:Nat):Int)/\(sliceBounds lo c none n).2.2=1:=by
 refine{?_, ?_,O}
 ·cases lo with
  |none=>simp[sliceBounds,HT.sIx]|some i=>
   simp only[sliceBounds,HT.sIx,Option.getD_none,show(1:Int)>0 by decide,if_true]
   by_cases h:i<0
   ·simp only[h,if_true]<;>lia
   ·simp only[h,if_false]<;>lia
 ·cases c with
  |none=>simp[sliceBounds,HT.sIx]|some i=>
   simp only[sliceBounds,HT.sIx,Option.getD_none,show(1:Int)>0 by decide,if_true]
   by_cases h:i<0
   ·simp only[h,if_true]<;>lia
   ·simp only[h,if_false]<;>lia
theorem zFm(c:B7)(lo d:Option Int):slicePick c.toArray lo d none=((c.drop (HT.sIx c...* 0 lo)).take (HT.sIx c...* c...* d - HT.sIx c...* 0 lo)).toArray:=by
 obtain⟨g,e,f⟩:=zHt lo d c.toArray.size;unfold slicePick;rw[g,e,f];simp only[sliceRange_one,pick_run,mT]<;>rfl
def rSlL(K:A6):V->Option Int->Option Int->Hp->VK->Prop:=λx lo d H Q=>∃a c,x= .ref a/\SqL K H a c/\∀p,H p=none->Q (.ref p) (upd H p (.lst (jV c lo d)))
theorem jW:SlR X (rSlL X.K):=by
 intro i s σ H x v y u lo f z Q I m t p k h;ext yM h a c e n q;subst e;cases m;refine yX (I.list n) λj r g l=>?_;let d:=r...*;refine{"list",_,slot_list_getitem.lookup,g.isList.typeIs, ?_};refine wpAny_getItem_list_slice g.isList t p k .none (by simp) ?_ (by rw[mT]<;>lia);rw[zFm,<-d];refine{.ref s⁻¹,_,I.laid (t':=s.toks) (o:=.lst (jV c lo f)) (λb w q=>mL _ q) (mD _) ?_,O,q _ (I.hok.fresh (mD _))};exact{nP (zCv c lo f) l,_,0,(r.drop (HT.sIx c...* 0 lo)).take (HT.sIx c...* c...* f - HT.sIx c...* 0 lo),nI _ O}
def uL:V->Bool
 |.non=>true|.bl _=>true|.int _=>true|.str _=>true|_=>false
def eqV:V->V->Bool
 |.non, .non=>true|.bl a, .bl b=>a==b|.bl a, .int b=>(if a then 1 else 0)==b|.int a, .bl b=>a==(if b then 1 else 0)|.int a, .int b=>a==b|.str a, .str b=>a==b|_,_=>false
theorem yEm{A:Around}{s:V2}{y x:V}{u v:V0}(f:RelV y u)(c:RelV x v)(g:uL y=true)(e:uL x=true):SeqAt.EqAt A s u v (eqV y x):=by
 cases y with
 |non=>
  cases f
  cases x with
  |non=>cases c;exact SeqAt.EqAt.same _|bl b=>cases c;exact SeqAt.EqAt.none_bool b|int b=>obtain⟨t,rfl⟩:=c;exact SeqAt.EqAt.none_int b t
  |str b=>obtain⟨t,rfl⟩:=c;exact SeqAt.EqAt.none_str b t
  |_=>exact absurd (show false=true from e) mX
 |bl a=>
  cases f
  cases x with
  |non=>cases c;exact SeqAt.EqAt.bool_none a|bl b=>cases c;exact SeqAt.EqAt.bool_bool a b|int b=>obtain⟨t,rfl⟩:=c;exact SeqAt.EqAt.bool_int a b t
  |str b=>obtain⟨t,rfl⟩:=c;exact SeqAt.EqAt.bool_str a b t
  |_=>exact absurd (show false=true from e) mX
 |int a=>
  obtain⟨d,rfl⟩:=f
  cases x with
  |non=>cases c;exact SeqAt.EqAt.int_none a d|bl b=>cases c;exact SeqAt.EqAt.int_bool a d b|int b=>obtain⟨t,rfl⟩:=c;exact SeqAt.EqAt.int_int a d b t
  |str b=>obtain⟨t,rfl⟩:=c;exact SeqAt.EqAt.int_str a d b t
  |_=>exact absurd (show false=true from e) mX
 |str a=>
  obtain⟨d,rfl⟩:=f
  cases x with
  |non=>cases c;exact SeqAt.EqAt.str_none a d|bl b=>cases c;exact SeqAt.EqAt.str_bool a d b|int b=>obtain⟨t,rfl⟩:=c;exact SeqAt.EqAt.str_int a d b t
  |str b=>obtain⟨t,rfl⟩:=c;exact SeqAt.EqAt.str_str a d b t
  |_=>exact absurd (show false=true from e) mX
 |_=>exact absurd (show false=true from g) mX
theorem zAw:wP X (.builtin "len") (λxs H Q=>∃p ys,xs= [.ref p]/\(SqL X.K H p ys\/SqT X.K H p ys)/\Q (.int ys...*) H):=by
 intro i s σ H xs m Q I r h;ext yM h p ys d hq q;subst d;obtain⟨u,rfl,k⟩:=jR r;cases k;let l:=zAo;rcases hq with hq | hq
 ·refine yX (I.list hq) λf e g j=>?_
  let c:=e...*;exact Calls.call_len_list g.isList (by simp only[mT]<;>lia) {.int ys...*,H,I.tok _,{s.toks+1,by rw[mT,c]},q}
 ·refine yX (I.tuple hq) λf e g j=>?_
  let c:=e...*;exact len_tuple g (by simp only[mT]<;>lia) {.int ys...*,H,I.tok _,{s.toks+1,by rw[mT,c]},q}
theorem zBm:wP X (.builtin "len") (λxs H Q=>∃z,xs= [.str z]/\z...*<=V9/\Q (.int z...*) H):=by
 intro d s σ H xs f Q I r h;ext yX h z c g q;subst c;obtain⟨u,rfl,t,rfl⟩:=jR r;let e:=zAo;exact len_str ∅ {.int z...*,H,I.tok _,⟨_,O⟩,q}
theorem zAy:wP X (.type "list") (λxs H Q=>∃p ys,xs= [.ref p]/\(SqL X.K H p ys\/SqT X.K H p ys)/\∀l,H l=none->Q (.ref l) (upd H l (.lst ys))):=by
 intro i s σ H xs D Q I r h;ext yM h p ys v hq q;subst v;obtain⟨u,rfl,B⟩:=jR r;cases B;let t:∀(c:B7),Vals ys c->ys...*<=V9->∀(d:V5)(f:Nat),(∀b A,s.heap.get? b=Y A->d.get? b=Y A)->
   d.get? s⁻¹=some {cls:=.type "list",dict:=none,data:=.seq c.toArray f,slots:=#[]}->EP X i σ Q (.ref s⁻¹) {s with heap:=d}:=λc g j d f m e=>
  {.ref s⁻¹,_,I.laid (t':=s.toks) m (mD _) (show ObjOk X.prog X.w _ d _ (.lst ys) from⟨j,c,f,g,e⟩),O,q _ (I.hok.fresh (mD _))}
 rcases hq with hq | hq
 ·refine yX (I.list hq) λc g x j=>?_
  let k:=g...*;obtain⟨o,w,z,n,y⟩:=x.isList;exact call_list_seq p (.inl O) w z y (λd f m e=>t c g j d f m e) (by simp only[mT]<;>lia)
 ·refine yX (I.tuple hq) λc g x j=>?_
  let k:=g...*;obtain⟨o,w,z,n,y⟩:=x;exact call_list_seq p (.inr O) w z y (λd f m e=>t c g j d f m e) (by simp only[mT]<;>lia)
theorem zFl:wP X (.type "tuple") (λxs H Q=>∃p ys,xs= [.ref p]/\((SqL X.K H p ys/\∀l,H l=none->Q (.ref l) (upd H l (.tup ys)))\/(SqT X.K H p ys/\Q (.ref p) H))):=by
 intro c s σ H xs y Q I r h;ext wB h p ys g h;subst g;obtain⟨u,rfl,x⟩:=jR r;cases x;rcases h with⟨k,q⟩|⟨k,q⟩
 ·refine yX (I.list k) λd j i m=>?_
  let n:=j...*;refine call_tuple_list i.isList (λf v=>?_) (by simp only[mT]<;>lia);let t:Inv X c σ H {s with heap:=f}:=I.kept (t':=s.toks) v;let w:Inv X c σ (upd H f.objs.size (.tup ys)) {s with heap:=f.push {cls:=.type "tuple",data:=.seq d.toArray}}:=
   t.laid (t':=s.toks) (λb o e=>mL _ e) (mD _) (show ObjOk X.prog X.w _ _ _ (.tup ys) from{m,d,j,IsTup.new _ _})
  exact{.ref f.objs.size,_,w,O,q _ (t.hok.fresh (mD _))}
 ·refine yX (I.tuple k) λd j i m=>?_
  exact call_tuple_same i {.ref p,H,I,O,q}
def tyV(K:A6)(T:String)(x:V)(H:Hp):Prop:=match x with
 |.str _=>T= "str"|.int _=>T= "int"|.ref p=>(T= "list"/\∃d,SqL K H p d)\/(T= "tuple"/\∃o,K.lookup p=Y o/\o.cls= .type "tuple"/\o.dict=none)\/
   (T= "dict"/\((∃c,H p=Y (.dK c))\/∃c,H p=Y (.dT c)))\/(T= "set"/\∃S n,H p=Y (.set S n))
 |_=>False
theorem zTq{g:C7}{σ:St}{H:Hp}{s:V2}{T:String}{x:V}{v:V0}(I:Inv X g σ H s)(r:RelV x v)(h:tyV X.K T x H):
  s.TypeIs v T/\∀a,v= .ref a->∃m,s.heap.get? a=Y m/\m.dict=none:=by
 cases x with
 |str z=>
  obtain⟨t,rfl⟩:=r;cases (show T= "str" from h);exact{typeIs_str s z t,λ_ e=>nomatch e}
 |int i=>
  obtain⟨t,rfl⟩:=r;cases (show T= "int" from h);exact{typeIs_int s i t,λ_ e=>nomatch e}
 |ref p=>
  cases r;rcases h with⟨rfl,B,A⟩|⟨rfl,o,d,w,j⟩|⟨rfl,d⟩|⟨rfl,S,n,d⟩
  ·refine yX (I.list A) λu _ q _=>?_
   refine{q.isList.typeIs,λa e=>?_};cases e;ext zX q o n e c j _;exact⟨o,e,j⟩
  ·refine{⟨o,I.kIn p o d,w⟩,λa e=>?_}
   cases e;exact⟨o,I.kIn _ o d,j⟩
  ·let z:∃o,s.heap.get? p=Y o/\o.ExactDict:=by
    rcases d with⟨l,d⟩|⟨l,d⟩
    ·obtain⟨_,_,_,_,o,_,_,e,f,_⟩:=I.hok p _ d
     exact⟨o,e,f⟩
    ·obtain⟨_,_,_,_,o,_,_,e,f,_⟩:=I.hok p _ d
     exact⟨o,e,f⟩
   obtain⟨o,e,f⟩:=z;refine{⟨o,e,f.1⟩,λa k=>?_};cases k;exact⟨o,e,f.2.1⟩
  ·refine yK (I.hok p _ d) λo _ _ _ e y=>?_
   ext oA y f _;refine{⟨o,e,f.1⟩,λa k=>?_};cases k;exact⟨o,e,f.2.1⟩
 |_=>exact False.elim h
def yDl(K:A6)(T:String)(r:V->List V->Hp->VK->Prop)(d:TE):TE:=λσ H Q=>d σ H λx c=>tyV K T x c/\r x [] c Q
def tBM(K:A6)(T:String)(r:V->List V->Hp->VK->Prop)(f:TE)(t:TA):TE:=λσ H Q=>f σ H λx c=>tyV K T x c/\t σ c λd e=>r x d e Q
variable{o e:Expr}{es:C5}{to:TE}{t:TA}{name:Str}{apos cpos:Pos}{T id:String}{r:V->List V->Hp->VK->Prop}
theorem yDd(y:PlainAttrs T)(g:Slot T name id)(i:typeOf (.builtin id)=pure (.type "method_descriptor"))(p:MtR X id r)(q:PE X o to)
  (d:attributeBase o name X.env (eval o X.env)=eval o X.env:=by rfl) (f:(apos.endLine==cpos.line)=true:=by rfl):PE X (.Call (.Attribute o name apos) [] [] cpos) (yDl X.K T r to):=by
 intro c s σ H Q I h;refine wpAny_Call_method0_late d f (thn (q c s σ H _ I h) λv u ⟨x,n,j,k,z,m⟩=>?_);obtain⟨w,l⟩:=zTq j k z;exact{T,id,y,g,i,w,l,tP O (PySem.evalArgs_none (p c u σ n x [] v [] Q j k .nil m))}
theorem qZ(L:PlainAttrs T)(i:Slot T name id)(k:typeOf (.builtin id)=pure (.type "method_descriptor"))(A:MtR X id r)(B:PE X o to)(ha:PA X (e::es) t)
  (f:attributeBase o name X.env (eval o X.env)=eval o X.env:=by rfl)
  (j:((S2 cpos (A2 (e::es) X.env)).all (λx=>!x.1)&& (backToKw cpos (keywordEach [] X.env)).all (λx=>x.1.isSome)
   && decide ((e::es)...*+([]:List Keyword)...*+(if([]:List Keyword).isEmpty then 0 else 1)<30))=true:=by rfl)
  (g:(apos.endLine==cpos.line)=true:=by rfl) (hs:A2 (e::es) X.env=(false,eval e X.env)::A2 es X.env:=by rfl) (d:(S2 cpos (A2 es X.env)).any (·.1)=false:=by rfl):
  PE X (.Call (.Attribute o name apos) (e::es) [] cpos) (tBM X.K T r to t):=by
 intro c s σ H Q I h;refine wpAny_Call_method_late f j g O (thn (B c s σ H _ I h) λv D ⟨x,w,l,m,ty,u⟩=>?_);obtain⟨J,p⟩:=zTq l m ty;refine{T,id,L,i,k,J,p, ?_};let n:=ha cpos c D σ w _ l u;rw[hs] at n⊢;refine tP (by show(false ||(S2 cpos (A2 es X.env)).any (·.1))=false;rw[d]<;>rfl) (Calls.evalArgs_plain ?_)
 exact thn n λE y ⟨vs,N,q,M,z⟩=>A c y σ N x vs v E Q q m M z
/- xs.append(e),list.index on a module's tuple .. are MtR facts of 06m -/
end
def MtM(X:Cx)(id:String)(r:V->List V->Hp->VK->Prop):Prop:=
 ∀(a:C7)(s:V2)(σ:St)(H:Hp)(x:V)(b:B3)(v:V0)(c:B7)(Q:VK),Inv X a σ H s->RelV x v->Vals b c->r x b H Q->
  V8 (S5 X.prog X.w) X.A (call (.builtin id) (v::c)) (EP X a σ Q) X.xe s
theorem Vals.one{x:V}{us:B7}(h:Vals [x] us):∃u,us= [u]/\RelV x u:=by
 cases h with
 |cons r h=>
  cases h;exact⟨_,O,r⟩
theorem Vals.two{x y:V}{us:B7}(h:Vals [x,y] us):∃u v,us= [u,v]/\RelV x u/\RelV y v:=by
 cases h with
 |cons r h=>
  cases h with
  |cons q h=>
   cases h;exact⟨_,_,O,r,q⟩
theorem Vals.eraseIdx:∀{xs:B3}{us:B7}(i:Nat),Vals xs us->Vals (xs.eraseIdx i) (us.eraseIdx i)
 |_,_,_, .nil=>.nil|_,_,0, .cons _ t=>t|_,_,i+1, .cons r t=>.cons r (Vals.eraseIdx i t)
theorem Vals.reverse{xs:B3}{us:B7}(h:Vals xs us):Vals xs.reverse us.reverse:=by
 induction h with|nil=>exact .nil|cons r t a=>rw[aU,aU];exact Vals.append a (.cons r .nil)
theorem Vals.rep{xs:B3}{us:B7}(h:Vals xs us):∀k:Nat,Vals (List.replicate k xs).flatten (List.replicate k us).flatten
 |0=>.nil|k+1=>by
  rw[rB,rB,sB,sB];exact Vals.append h (Vals.rep h k)
theorem zGu{α:Type}:∀(l:List α)(i:Nat),(l.eraseIdx i)...*<=l...*
 |[],_=>mD _|_::_,0=>pP _|_::r,i+1=>rA (zGu r i)
theorem zGi(a:B7):∀(k:Nat)(acc:B7),
  List.foldl (λb c=>b++c) acc.toArray (List.replicate k a.toArray)=(acc++(List.replicate k a).flatten).toArray
 |0,acc=>by simp|k+1,acc=>by
  let e:acc.toArray++a.toArray=(acc++a).toArray:=by simp
  let d:(acc++a)++(List.replicate k a).flatten=acc++(List.replicate (k+1) a).flatten:=by
   rw[rB,sB,sM]
  rw[<-d,<-zGi a k (acc++a),<-e,rB,bK]
section
variable{X:Cx}{pins:C7}{σ:St}{H:Hp}{s:V2}{l b:V1}{xs ys zs:B3}
theorem Inv.lset{a its':B7}{n:Nat}{f:Array V0->Array V0}{t':Nat}(I:Inv X pins σ H s)(c:H l=Y (.lst xs))
  (e:s.heap.get? l=some {cls:=.type "list",data:=.seq a.toArray n}) (g:f a.toArray=its'.toArray) (d:Vals ys its') (hz:ys...*<=V9):
  Inv X pins σ (upd H l (.lst ys)) {s with heap:=s.heap.update l (Obj.mapSeq f),toks:=t'}:=by
 let q:=PySem.IsL.update e f;rw[g] at q;refine I.write (x:=l) (e:=l) (by rw[c];exact trivial) (.inl O) (λj u h i=>(mZ s.heap (Obj.mapSeq f) (Ne.symm h)).trans i) ⟨_,q⟩ ?_;exact⟨hz,its',_,d,q⟩
theorem Inv.lnew{a:B7}{t':Nat}(I:Inv X pins σ H s)(c:Vals ys a)(hz:ys...*<=V9):
  Inv X pins σ (upd H s⁻¹ (.lst ys)) {s with heap:=s.heap.push {cls:=.type "list",data:=.seq a.toArray},toks:=t'}:=
 I.laid (λ_ _ q=>mL _ q) (mD _) {hz,a,0,c,nI _ O}
theorem Inv.fresh(I:Inv X pins σ H s):H s⁻¹=none:=I.hok.fresh (mD _)
theorem Inv.lstM(I:Inv X pins σ H s)(c:H l=Y (.lst xs)):xs...*<=V9/\∃(a:B7)(n:Nat),Vals xs a/\xs...*=a...*/\s.heap.get? l=some {cls:=.type "list",data:=.seq a.toArray n}:=by
 obtain⟨z,a,n,r,e⟩:=I.hok l _ c;exact{z,a,n,r,r...*,e}
theorem zLd{n:Nat}(h:n<=V9):Builtin.List.listTooLong n=false:=by
 unfold Builtin.List.listTooLong;exact nJ ∅
end
section
variable{X:Cx}
def zDo:V->List V->Hp->VK->Prop:=λx b H Q=>∃l a y,x= .ref l/\b= [y]/\H l=Y (.lst a)/\a...*<V9/\Q .non (upd H l (.lst (a++ [y])))
theorem qF:MtM X "list.append" zDo:=by
 intro d s σ H x w v t Q I i g h;ext zZ h l m y b c j;ext oAA j f p q;subst b c;cases i;obtain⟨u,rfl,k⟩:=g.one;obtain⟨z,a,n,r,o,e⟩:=I.lstM f;refine tD F.slot_list_append ⟨_,e,O⟩ F.entry_list_append (F.args_list_append_2 _ _) (cI l a.toArray n u (by rw[mT];lia)) {e, ?_};refine{.non,_,I.lset (its':=a++ [u]) f e (by simp) (r.append (.cons k .nil)) ?_,O,q};rw[mK,nM]
 lia
def zYv:V->List V->Hp->VK->Prop:=λx d H Q=>∃l b a c,x= .ref l/\d= [.ref b]/\H l=Y (.lst a)/\H b=Y (.lst c)/\a...*+c...*<=V9/\Q .non (upd H l (.lst (a++c)))
theorem zQl:MtM X "list.extend" zYv:=by
 intro j s σ H x vs v us Q I A y h;ext yK h l b M E g o;ext vS o i k B J q;subst g i;cases A;obtain⟨u,rfl,t⟩:=y.one;cases t;obtain⟨z,c,n,r,N,e⟩:=I.lstM k;obtain⟨L,a,D,p,m,w⟩:=I.lstM B;let f:c.toArray.size+a.toArray.size<=V9:=by rw[mT,mT];lia
 let d:¬(!c.toArray.isEmpty && Builtin.List.listTooLong (c.toArray.size+a.toArray.size))=true:=by
  rw[zLd f,aP];exact mX
 refine tD F.slot_list_extend ⟨_,e,O⟩ F.entry_list_extend (F.args_list_extend_2 _ _)
  (AutoSeq1.list_extend_list_list_0 l c.toArray n b a.toArray D d (by rw[mT];lia) ∅) {e,w, ?_}
 refine{.non,_,I.lset (its':=c++a) k e (by simp) (r.append p) ?_,O,q};rw[mK]
 lia
def yCc:V->List V->Hp->VK->Prop:=λx b H Q=>∃l a i k y,x= .ref l/\b= [.int i]/\H l=Y (.lst a)/\-(2 ^ 63)<=i/\i<2 ^ 63/\seqIndex? i a...*=Y k/\a[k]? =Y y/\Q y (upd H l (.lst (a.eraseIdx k)))
theorem zSk:MtM X "list.pop" yCc:=by
 intro g s σ H x vs v N Q I M L h;ext zY h l B i k y b;ext zQ b f c j p m b;ext oAA b o J q;subst f c;cases M;obtain⟨u,rfl,A⟩:=L.one;obtain⟨t,rfl⟩:=A;obtain⟨z,a,n,r,D,e⟩:=I.lstM j;obtain⟨w,E,d⟩:=r.get J;refine tD F.slot_list_pop ⟨_,e,O⟩ F.entry_list_pop (F.args_list_pop_2 _ _)
  (MeetsSeq.list_pop_at l a.toArray n i t k w (fitsIndex_both p m) (by rw[mT,<-D];exact o) (by rw[<-sE];exact E) (by rw[mT];lia)) {e, ?_}
 refine{y,_,I.lset (its':=a.eraseIdx k) j e ?_ (r.eraseIdx k) ?_,d,q}
 ·show a.toArray.eraseIdxIfInBounds k=(a.eraseIdx k).toArray
  rw[List.eraseIdxIfInBounds_toArray]
 ·let:=zGu B k
  lia
def zXm:R2:=λx y H Q=>∃l b a c,x= .ref l/\y= .ref b/\H l=Y (.lst a)/\H b=Y (.lst c)/\a...*+c...*<=V9/\∀p,H p=none->Q (.ref p) (upd H p (.lst (a++c)))
theorem zAf:OpR X (binaryOp .Add) zXm:=by
 intro g s σ H x y v u Q I t w h;ext yK h l b J B d j;ext vS j f p A D q;subst d f;cases t;cases w;obtain⟨z,c,n,r,L,e⟩:=I.lstM p;obtain⟨E,a,M,k,i,o⟩:=I.lstM A;refine PySem.P.add_list e o ?_ (by rw[mT,mT];lia);let m:c.toArray++a.toArray=(c++a).toArray:=by simp
 rw[m];exact{.ref _,_,I.lnew (t':=s.toks) (r.append k) (by rw[mK];lia),O,q _ I.fresh}
def rRep:R2:=λx y H Q=>∃l k a,x= .ref l/\y= .int k/\H l=Y (.lst a)/\-(2 ^ 63)<=k/\k<2 ^ 63/\a...**k.toNat<=V9/\
 ∀p,H p=none->Q (.ref p) (upd H p (.lst (List.replicate k.toNat a).flatten))
theorem zYd{α:Type}(xs:List α)(k:Nat):(List.replicate k xs).flatten...*=k*xs...*:=by
 induction k with|zero=>simp|succ k a=>rw[rB,sB,mK,a,Nat.succ_mul,Nat.add_comm]
theorem yBp:OpR X (binaryOp .Mult) rRep:=by
 intro A s σ H x y v u Q I N ry h;ext zZ h l k xs j p J;ext vS J M E D B q;subst j p;cases N;obtain⟨t,rfl⟩:=ry;refine yAt (I.lstM M) λz b n r L e=>?_;let f:b.toArray.size*k.toNat<=V9:=by rw[mT,<-L];exact B
 let d:¬b.toArray.size*k.toNat>(2 ^ 63 - 1)/ 8:=by
  let:(V9:Nat)<=(2 ^ 63 - 1)/ 8:=by decide
  lia
 let i:¬(!Builtin.List.listFitsIndex k)=true:=by
  rw[fitsIndex_both E D];exact mX
 let c:¬Builtin.List.listTooLong (b.toArray.size*k.toNat)=true:=by
  rw[zLd f];exact mX
 let g:List.foldl (λw o=>w++o) #[] (List.replicate (if b.toArray.isEmpty=true then 0 else k.toNat) b.toArray)=(List.replicate k.toNat b).flatten.toArray:=by
  let f0:∀m:Nat,List.foldl (λw o=>w++o) #[] (List.replicate m b.toArray)=(List.replicate m b).flatten.toArray:=λm=>by
   let:=zGi b m [];rw[aE] at this;exact this
  rw[f0]
  cases b with|nil=>simp|cons a r'=>rw[mH (by simp)]
 refine wpAny_binaryOp_repeat_ref (T:="list") (U:="int") ∎ ⟨_,e,O⟩ (λs'=>typeIs_int s' k t) noFill_list_mul F.fills_int_mul F.slot_int_rmul repeat_list F.slot_int_index.lookup
  (tD F.slot_int_rmul (typeIs_int s k t) F.entry_int_rmul (F.args_int_rmul_2 _ _) (int___rmul___int_list k t l b.toArray n)
   {e,O,⟨_,e,O⟩,tD F.slot_list_mul ⟨_,e,O⟩ F.entry_list_mul (F.args_list_mul_2 _ _) (AutoListH.list___mul___list_int_3 l b.toArray n k t i d c) {e, ?_}})
 rw[g];exact{.ref _,_,I.lnew (t':=s.toks) (r.rep k.toNat) (by rw[zYd,Nat.mul_comm];exact B),O,q _ I.fresh}
end
section
variable{prog:V3}{w:V4}{A:Around}{E:C9}{s:V2}
set_option maxRecDepth 100000 in
end
section
variable{X:Cx}
end
section
variable{κ:Type} [DecidableEq κ]
def jD(kvs:List (κ×V))(k:κ):Option V:=(kvs.find? λa=>decide (a.1=k)).map (·.2)
def vQ(kvs:List (κ×V))(k:κ)(v:V):List (κ×V):=
 if(kvs.any λa=>decide (a.1=k))=true then kvs.map (λa=>if a.1=k then(a.1,v) else a) else kvs++ [(k,v)]
def dropK(kvs:List (κ×V))(k:κ):List (κ×V):=kvs.filter λa=>decide (a.1≠k)
theorem kN{p:κ×V}{r:List (κ×V)}{k:κ}(e:p.1=k):jD (p::r) k=Y p.2:=by simp[jD,tO,e]
theorem kQ{p:κ×V}{r:List (κ×V)}{k:κ}(e:¬p.1=k):jD (p::r) k=jD r k:=by simp[jD,tO,e]
theorem zBk(k:κ):∀kvs:List (κ×V),(kvs.any λkv=>decide (kv.1=k))=(jD kvs k).isSome
 |[]=>rfl|p::r=>by
  rw[cE]
  by_cases e:p.1=k
  ·simp only[kN e,nO e,Bool.true_or,Option.isSome_some]
  ·rw[kQ e,nJ e,Bool.false_or];exact zBk k r
theorem gS(kvs:List (κ×V))(k:κ)(v:V):(vQ kvs k v)...*<=kvs...*+1:=by
 unfold vQ;split
 ·rw[mM];lia
 ·rw[mK,mP,pL];lia
theorem zSu{kvs:List (κ×V)}{k:κ}(v:V)(h:jD kvs k=none):vQ kvs k v=kvs++ [(k,v)]:=by
 unfold vQ;rw[zBk,h];exact mH ∎
theorem RelO.isSome_eq{o:Option V}{u:Option V0}(r:RelO o u):o.isSome=u.isSome:=by
 cases o with
 |none=>cases u with
  |none=>rfl|some _=>exact(show False from r).elim
 |some _=>cases u with
  |none=>exact(show False from r).elim|some _=>rfl
theorem KV.val{kvs:List (κ×V)}{vs:List (κ×V0)}(r:KV kvs vs)(k:κ):RelO (jD kvs k) (valueAt vs k):=by
 unfold KV at r
 induction r with
 |nil=>exact mS|@cons p q i c h t g=>
  obtain⟨d,f⟩:=h
  by_cases e:p.1=k
  ·let a:q.1=k:=d.symm.trans e
   let b:valueAt (q::c) k=Y q.2:=by simp[valueAt,tO,a]
   rw[kN e,b];exact f
  ·let a:¬q.1=k:=λz=>e (d.trans z)
   let b:valueAt (q::c) k=valueAt c k:=by simp[valueAt,tO,a]
   rw[kQ e,b];exact g
theorem KV.any{kvs:List (κ×V)}{vs:List (κ×V0)}(r:KV kvs vs)(k:κ):(kvs.any λkv=>decide (kv.1=k))=vs.any λkv=>decide (kv.1=k):=by
 unfold KV at r
 induction r with|nil=>rfl|cons h t a=>rw[cE,cE,a,h.1]
theorem KV.repl{kvs:List (κ×V)}{vs:List (κ×V0)}(r:KV kvs vs)(k:κ){y:V}{u:V0}(c:RelV y u):
  KV (kvs.map λkv=>if kv.1=k then(kv.1,y) else kv) (vs.map λkv=>if kv.1=k then(kv.1,u) else kv):=by
 unfold KV at r⊢
 induction r with
 |nil=>exact .nil|@cons p q f g h t d=>
  rw[nD,nD];refine .cons ?_ d;obtain⟨a,b⟩:=h
  by_cases e:p.1=k
  ·rw[mJ e,mJ (a.symm.trans e)];exact⟨a,c⟩
  ·rw[mH e,mH (λz=>e (a.trans z))];exact⟨a,b⟩
theorem KV.put{kvs:List (κ×V)}{vs:List (κ×V0)}(r:KV kvs vs)(k:κ){y:V}{u:V0}(a:RelV y u):KV (vQ kvs k y) (stored vs k u):=by
 unfold vQ stored;rw[r.any k]
 by_cases e:(vs.any λb=>decide (b.1=k))=true
 ·rw[mJ e,mJ e];exact r.repl k a
 ·rw[mH e,mH e];exact Paired.snoc r ⟨O,a⟩
theorem KV.drop{kvs:List (κ×V)}{vs:List (κ×V0)}(r:KV kvs vs)(k:κ):KV (dropK kvs k) (without vs k):=by
 unfold KV at r⊢;unfold dropK without
 induction r with
 |nil=>exact .nil|@cons p q i j h t d=>
  obtain⟨c,g⟩:=h;rw[cK,cK]
  by_cases e:p.1=k
  ·let a:¬decide (p.1≠k)=true:=by simp[e]
   let b:¬decide (q.1≠k)=true:=by simp[c.symm.trans e]
   rw[mH a,mH b];exact d
  ·let f:¬q.1=k:=λz=>e (c.trans z)
   let a:decide (p.1≠k)=true:=by simp[e]
   let b:decide (q.1≠k)=true:=by simp[f]
   rw[mJ a,mJ b];exact .cons ⟨c,g⟩ d
theorem KV.keys{kvs:List (κ×V)}{vs:List (κ×V0)}(r:KV kvs vs):kvs.map (·.1)=vs.map (·.1):=by
 unfold KV at r
 induction r with|nil=>rfl|cons h t a=>rw[nD,nD,a,h.1]
theorem KV.length{kvs:List (κ×V)}{vs:List (κ×V0)}(r:KV kvs vs):kvs...*=vs...*:=Paired.length r
theorem zVk(kvs:List (κ×V))(k:κ):(dropK kvs k)...*<=kvs...*:=List.length_filter_le _ _
end
theorem zGo{P:V3}{w:V4}{k:Key}{u:V0}(r:RelV (kV k) u):(yW P w).is k u=true:=by
 cases k with
 |inl i=>obtain⟨t,e⟩:=(show∃t,u=Value.int i t from r);subst e;exact zKe P w i t
 |inr x=>obtain⟨t,e⟩:=(show∃t,u=Value.str x t from r);subst e;exact zKy P w x t
theorem zTe{a b:Key}(e:kV a=kV b):a=b:=by
 cases a with
 |inl i=>cases b with
  |inl j=>let c:V.int i=V.int j:=e;injection c with c;rw[c]
  |inr y=>exact nomatch (show V.int i=V.str y from e)
 |inr x=>cases b with
  |inl j=>exact nomatch (show V.str x=V.int j from e)|inr y=>let c:V.str x=V.str y:=e;injection c with c;rw[c]
abbrev _root_.B8:=List Key
theorem zFt{P:V3}{w:V4}:∀{ks:B8}{us:B7},Vals (ks.map kV) us->ItemsAre (yW P w) ks us
 |[],_,r=>by rw[tS] at r;cases r;exact .nil|k::ks,_,r=>by
  rw[nD] at r
  cases r with|cons h t=>exact .cons (zGo h) (zFt t)
abbrev KT(H:Hp):List (List Key×V)->List (List Key×V1×V0)->Prop:=Paired λp q=>p.1=q.1/\H q.2.1=Y (.tup (p.1.map kV))/\RelV p.2 q.2.2
theorem KT.val{H:Hp}{kvs:List (List Key×V)}{xs:List (List Key×V1×V0)}(r:KT H kvs xs)(k:B8):RelO (jD kvs k) ((atKey xs k).map (·.2)):=by
 induction r with
 |nil=>exact mS|@cons p q i c h t g=>
  obtain⟨d,_,f⟩:=h
  by_cases e:p.1=k
  ·let a:q.1=k:=d.symm.trans e
   let b:atKey (q::c) k=Y q.2:=by simp[atKey,tO,a]
   rw[kN e,b];exact f
  ·let a:¬q.1=k:=λz=>e (d.trans z)
   let b:atKey (q::c) k=atKey c k:=by simp[atKey,tO,a]
   rw[kQ e,b];exact g
theorem KT.repl{H:Hp}{kvs:List (List Key×V)}{xs:List (List Key×V1×V0)}(r:KT H kvs xs)(k:B8){y:V}{u:V0}(c:RelV y u):
  KT H (kvs.map λkv=>if kv.1=k then(kv.1,y) else kv) (xs.map (putAt k u)):=by
 induction r with
 |nil=>exact .nil|@cons p q g i h t d=>
  rw[nD,nD];refine .cons ?_ d;obtain⟨a,b,f⟩:=h;unfold putAt
  by_cases e:p.1=k
  ·rw[mJ e,mJ (a.symm.trans e)];exact⟨a,b,c⟩
  ·rw[mH e,mH (λz=>e (a.trans z))];exact⟨a,b,f⟩
theorem KT.put{H:Hp}{kvs:List (List Key×V)}{xs:List (List Key×V1×V0)}(r:KT H kvs xs)(k:B8){b:V1}{y:V}{u:V0}(d:H b=Y (.tup (k.map kV)))(a:RelV y u):
  KT H (vQ kvs k y) (storedH xs k b u):=by
 let e:(kvs.any λc=>decide (c.1=k))=(atKey xs k).isSome:=by
  rw[zBk,(r.val k).isSome_eq,Option.isSome_map]
 unfold vQ storedH;rw[e]
 by_cases q:(atKey xs k).isSome=true
 ·rw[mJ q,mJ q];exact r.repl k a
 ·rw[mH q,mH q];exact Paired.snoc r ⟨O,d,a⟩
theorem KT.keeps{H a:Hp}{kvs:List (List Key×V)}{xs:List (List Key×V1×V0)}(r:KT H kvs xs)(c:∀b ys,H b=Y (.tup ys)->a b=Y (.tup ys)):KT a kvs xs:=
 j4 r λ_ _ z=>{z.1,c _ _ z.2.1,z.2.2}
section
variable{P:V3}{w:V4}{H:Hp}{h:V5}{a:V1}
theorem zZt{u:HO}(b:HOk P w H h)(e:Rd H a u):ObjOk P w H h a u:=e.ok b
theorem kK{kvs:D0}(b:HOk P w H h)(e:Rd H a (.dK kvs)):kvs...*<=V9/\(a==A4)=false/\∃vs,KV kvs vs/\h.DictOf (yW P w) a vs:=
 show ObjOk P w H h a (.dK kvs) from zZt b e
theorem zTc{kvs:D0}(b:HOk P w H h)(e:H a=Y (.dK kvs)):kvs...*<=V9/\(a==A4)=false/\∃vs,KV kvs vs/\h.DictOf (yW P w) a vs:=kK b (.inl e)
theorem zGz{ks:B8}(c:HOk P w H h)(e:H a=Y (.tup (ks.map kV))):(tupleKind (yW P w)).is h ks a:=by
 obtain⟨_,b,r,o,f,d,n,g⟩:=(show ObjOk P w H h a (.tup (ks.map kV)) from c a _ e);exact{o,b.toArray,n,f,d,g,by simpa using zFt r}
theorem zLk{kvs:List (List Key×V)}(b:HOk P w H h)(e:Rd H a (.dT kvs)):kvs...*<=V9/\(a==A4)=false/\
  ∃xs,KT H kvs xs/\h.DictOfH (tupleKind (yW P w)) a xs:=by
 obtain⟨z,y,xs,r,o,n,f,k,d,g,j,i⟩:=(show ObjOk P w H h a (.dT kvs) from zZt b e);refine{z,y,xs,r,o,n,f,k,d,g,j,λx hx=>?_,i};let all:∀{l:List (List Key×V)}{m:List (List Key×V1×V0)},KT H l m->∀x∈m,(tupleKind (yW P w)).is h x.1 x.2.1:=by
  intro l m q
  induction q with
  |nil=>intro x hx;exact nomatch hx|@cons p q u v c t s=>
   intro x hx;rcases mG.mp hx with e | hx
   ·subst e
    exact zGz b (by rw[<-c.1];exact c.2.1)
   ·exact s x hx
 exact all r x hx
theorem dt_of{kvs:List (List Key×V)}(b:HOk P w H h)(e:H a=Y (.dT kvs)):kvs...*<=V9/\(a==A4)=false/\
  ∃xs,KT H kvs xs/\h.DictOfH (tupleKind (yW P w)) a xs:=zLk b (.inl e)
end
def DGet(H:Hp)(a:V1)(y:V)(r:Option V):Prop:=
 (∃c k,Rd H a (.dK c)/\y=kV k/\r=jD c k)\/∃c k b,Rd H a (.dT c)/\y= .ref b/\H b=Y (.tup (k.map kV))/\r=jD c k
def DPut(H:Hp)(a:V1)(y v:V)(d:Hp):Prop:=
 (∃c k,H a=Y (.dK c)/\y=kV k/\c...*<V9/\d=upd H a (.dK (vQ c k v)))\/
 ∃c k b,H a=Y (.dT c)/\y= .ref b/\H b=Y (.tup (k.map kV))/\c...*<V9/\d=upd H a (.dT (vQ c k v))
theorem DGet.k{H:Hp}{a:V1}{kvs:D0}{k:Key}(e:H a=Y (.dK kvs)):DGet H a (kV k) (jD kvs k):=.inl {kvs,k, .inl e,O,O}
theorem DPut.k{H:Hp}{a:V1}{kvs:D0}{k:Key}{v:V}(e:H a=Y (.dK kvs))(b:kvs...*<V9):DPut H a (kV k) v (upd H a (.dK (vQ kvs k v))):=.inl ⟨kvs,k,e,O,b,O⟩
section
variable{X:Cx}{pins:C7}{σ:St}{H:Hp}{s:V2}{a:V1}{y v:V}{u r:V0}{o:Option V}{A:Around}{E:C9}
theorem Inv.big(I:Inv X pins σ H s):A4<s⁻¹:=by
 let h:A0<s⁻¹:=(I.mod.glob.keeps I.bk).lt;exact bL ∎ h
theorem zRg{Q:C9}(B:A.units+1<cLine)(I:Inv X pins σ H s)(g:DGet H a y ↥v)(t:RelV y u)(h:∀f s',Inv X pins σ H s'->RelV v f->Q f s'):
  V8 (S5 X.prog X.w) A (getItem (.ref a) u) Q E s:=by
 rcases g with⟨n,k,e,q,l⟩|⟨n,k,b,e,q,L,l⟩
 ·subst q
  obtain⟨z,x,J,d,j⟩:=kK I.hok e;obtain⟨f,i,c⟩:=j2 (v:=v) (o:=valueAt J k) (by rw[l];exact d.val k);exact wpAny_getItem_of (zGo t) j.mapOf i (h f _ (I.tok _) c)
 ·subst q
  cases (show u=Value.ref b from t);obtain⟨z,x,w,d,j⟩:=zLk I.hok e;obtain⟨f,i,c⟩:=j2 (v:=v) (o:=(atKey w k).map (·.2)) (by rw[l];exact d.val k);obtain⟨p,D,m⟩:=rG.mp i;refine wpAny_getItem_heap (bX B) (zGz I.hok L) j D ?_;rw[m];exact h f _ (I.tok _) c
theorem d_in{Q:C9}(n:A.units+1<cLine)(I:Inv X pins σ H s)(g:DGet H a y o)(m:RelV y u)(h:∀s',Inv X pins σ H s'->Q (.bool o.isSome) s'):
  V8 (S5 X.prog X.w) A (A3 .In u (.ref a)) Q E s:=by
 rcases g with⟨f,k,e,j,l⟩|⟨f,k,b,e,j,p,l⟩
 ·subst j
  obtain⟨z,d,w,c,i⟩:=kK I.hok e;refine wpAny_in_of (zGo m) d i.mapOf ?_;rw[<-(c.val k).isSome_eq,<-l];exact h _ (I.tok _)
 ·subst j
  cases (show u=Value.ref b from m);obtain⟨z,d,t,c,i⟩:=zLk I.hok e;refine wpAny_in_heap (bX n) (zGz I.hok p) d i ?_;let q:=(c.val k).isSome_eq;rw[Option.isSome_map] at q;rw[<-q,<-l];exact h _ (I.tok _)
theorem zHj{h':V5}{t':Nat}{c:HO}(I:Inv X pins σ H s)(g:Mut (H a))(h:Heap.SameBut a s.heap h')(f:∃q,h'.get? a=Y q)(d:ObjOk X.prog X.w (upd H a c) h' a c):
  Inv X pins σ (upd H a c) {s with heap:=h',toks:=t'}:=
 I.write (x:=a) (e:=a) g (.inl O) (λb q i z=>(h.2 b i).trans z) f d
theorem zMj{P:V3}{w:V4}{c:Hp}{h':V5}{kvs:D0}{vs:List (Key×V0)}(z:kvs...*<=V9)(d:(a==A4)=false)(b:KV kvs vs)(e:h'.DictOf (yW P w) a vs):
  ObjOk P w c h' a (.dK kvs):=⟨z,d,vs,b,e⟩
theorem zQj{D:Hp}{Q:Unit->V2->Prop}(hu:A.units+1<cLine)(I:Inv X pins σ H s)(g:DPut H a y v D)(M:RelV y u)(J:RelV v r)(h:∀s',Inv X pins σ D s'->Q () s'):
  V8 (S5 X.prog X.w) A (setItem (.ref a) u r) Q E s:=by
 rcases g with⟨f,k,e,B,l,x⟩|⟨f,k,b,e,B,N,l,x⟩
 ·subst B x
  obtain⟨z,t,vs,d,m⟩:=zTc I.hok e;let n:vs...*<=V9:=by rw[<-d...*];exact z
  let w:(vQ f k v)...*<=V9:=by let:=gS f k v;lia
  refine wpAny_setItem_pairs (hsz:=n) (zGo M) m λh' i p=>h _ ?_;let he:∃q,h'.get? a=Y q:=let ⟨q,_,_,j,_⟩:=i;⟨q,j⟩;exact zHj I (by rw[e];exact mS) p he (zMj w t (d.put k J) i)
 ·subst B x
  cases (show u=Value.ref b from M);obtain⟨z,t,xs,d,m⟩:=dt_of I.hok e;let n:xs...*<=V9:=by rw[<-Paired.length d];exact z
  let w:(vQ f k v)...*<=V9:=by let:=gS f k v;lia
  refine wpAny_setItem_heap (hsz:=n) (bX hu) (zGz I.hok N) m λh' i p=>h _ ?_;ext zZ i q es ep j h2 z_;ext xI z_ h3 h4 _ h5;refine zHj I (by rw[e];exact mS) p ⟨q,j⟩ {w,t,_,(d.put k N J).keeps λc ys L=>?_,q,es,ep,j,h2,h3,h4,h5};rw[zK (ne_of L e (λz=>nomatch z))];exact L
end
section
variable{X:Cx}{pins:C7}{σ:St}{H:Hp}{s:V2}{a:V1}{kvs:D0}{k:Key}{u:V0}{A:Around}{E:C9}
theorem d_pop{v:V}{b:B7}{Q:C9}(I:Inv X pins σ H s)(e:H a=Y (.dK kvs))(g:RelV (kV k) u)(l:jD kvs k=Y v)(m:b= []\/∃x,b= [x])
  (h:∀f s',Inv X pins σ (upd H a (.dK (dropK kvs k))) s'->RelV v f->Q f s'):V8 (S5 X.prog X.w) A (call (.builtin "dict.pop") (.ref a::u::b)) Q E s:=by
 obtain⟨z,r,p,c,n⟩:=zTc I.hok e;obtain⟨f,w,j⟩:=j2 (v:=v) (o:=valueAt p k) (by rw[<-l];exact c.val k);let B:(keyPart u).isSome=true:=by
  cases k with
  |inl i=>obtain⟨t,q⟩:=(show∃t,u=Value.int i t from g);subst q;rfl
  |inr x=>obtain⟨t,q⟩:=(show∃t,u=Value.str x t from g);subst q;rfl
 let D:argsOk "dict.pop" {.ref a::u::b,[]}:=by
  rcases m with q |⟨x,q⟩
  ·subst q;exact PySem.F.args_dict_pop_2 _ _
  ·subst q;exact PySem.F.args_dict_pop_3 _ _ _
 refine call_meetsIn PySem.F.slot_dict_pop n.typeIs PySem.F.entry_dict_pop D (meets_dict_pop_there (yW X.prog X.w) a (zGo g) b m B)
  {p,f,n,by rw[<-c...*];exact z,w,λL d J=>h f _ ?_ j}
 let y:∃q,L.get? a=Y q:=let ⟨q,_,_,hq,_⟩:=d;⟨q,hq⟩;exact zHj I (by rw[e];exact mS) J y (zMj (nP (zVk kvs k) z) r (c.drop k) d)
theorem zZo{Q:C9}(I:Inv X pins σ H s)(e:Rd H a (.dK kvs))(h:∀t s',Inv X pins σ H s'->Q (.int kvs...* t) s'):V8 (S5 X.prog X.w) A (call (.builtin "len") [.ref a]) Q E s:=by
 obtain⟨z,c,f,b,d⟩:=kK I.hok e;refine call_len_dict c d (by rw[<-b...*];rw[mV] at z;lia) ?_;rw[<-b...*];exact h _ _ (I.tok _)
end
def NoSl(i:Expr):Prop:=∀a b,subscripted i false a b=operate [a,b] (getItem a b)
theorem zZe{prog:V3}{w:V4}{A:Around}{E:C9}{s:V2}{c:S7}{b a:Expr}{g:Pos}{T id:String}{Q:C9}
  (n:typeLookup (.type T) "__getitem__" =pure ↥(.builtin id)) (p:NoSl a)
  (h:V8 (S5 prog w) A (eval b c) (λo j=>V8 (S5 prog w) A (eval a c) (λi e=>e.TypeIs o T/\V8 (S5 prog w) A (getItem o i) Q E e) E j) E s):
  V8 (S5 prog w) A (eval (.Subscript b a g) c) Q E s:=by
 refine Subscript_ (pC h (λo j m=>pC m (λi e f=>?_) λ_ _ x=>x) λ_ _ x=>x);obtain⟨k,f⟩:=f;unfold subscriptTail;refine mC ?_;rw[getitemInPython_of_ne k.not_modules];refine mC (wpAny_specialOf k n ?_);let d:V8 (S5 prog w) A (subscripted a false o i) (λr l=>V8 (S5 prog w) A (letTemporaryGo b o r>>=λ_=>pure r) Q E l) E e:=by
  rw[p o i];exact wpAny_operating (pC f (λr l q=>mC (wpAny_letTemporaryGo (mY q))) λ_ _ x=>x)
 first
  |exact mY (mC d)
  |exact mC (mY (mC d))
  |exact mC d
theorem zKt{X:Cx}{c:C7}{σ:St}{H:Hp}{s:V2}{a:V1}{y:V}{o:Option V}(I:Inv X c σ H s)(g:DGet H a y o):s.TypeIs (.ref a) "dict":=by
 rcases g with⟨d,k,e,_,_⟩|⟨d,k,b,e,_,_,_⟩
 ·obtain⟨_,_,i,_,f⟩:=kK I.hok e
  exact f.typeIs
 ·obtain⟨_,_,h,_,f⟩:=zLk I.hok e
  exact f.typeIs
def zGy(c d:TE):TE:=λσ H Q=>c σ H λx e=>d σ e λy b=>∃a v,x= .ref a/\DGet b a y ↥v/\Q v b
def zYs(d c:TE):TE:=λσ H Q=>d σ H λy e=>c σ e λx b=>∃a o,x= .ref a/\DGet b a y o/\Q (.bl o.isSome) b
def zWs(c e d:TE):TS:=λD σ H=>d σ H λv f=>c σ f λx g=>e σ g λy h=>∃a b,x= .ref a/\DPut h a y v b/\D.nx σ b
section
variable{X:Cx}{o i e value:Expr}{pos pos' tpos:Pos}{td ty tv:TE}
theorem vV(p:X.A.units+1<cLine)(n:PE X o td)(z:PE X i ty)(B:NoSl i):PE X (.Subscript o i pos) (zGy td ty):=by
 intro b s σ H Q I h;refine zZe PySem.F.slot_dict_getitem.lookup B (thn (n b s σ H _ I h) λu q ⟨x,l,f,r,j⟩=>thn (z b q σ l _ f j) λL D ⟨y,A,d,w,a,v,t,g,m⟩=>?_);subst t;obtain rfl:u=Value.ref a:=r;exact{zKt d g,zRg p d g w λE J k c=>⟨v,A,k,c,m⟩}
theorem zLv(p:X.A.units+1<cLine)(w:PE X i ty)(n:PE X o td):PC X .In i o (zYs ty td):=by
 intro b s σ H Q I h;refine thn (w b s σ H _ I h) λD q ⟨y,l,d,v,j⟩=>thn (n b q σ l _ d j) λu A ⟨x,z,f,r,a,c,t,g,m⟩=>?_;subst t;obtain rfl:u=Value.ref a:=r;exact d_in p f g v λB k=>{.bl c.isSome,z,k,O,m}
theorem zBj(l:X.A.units+1<cLine)(k:PE X o td)(p:PE X i ty)(n:PE X value tv)(q:S1 value ↥(.Subscript o i pos') pos.line X.env=pure false):
  PS X (.Assign [.Subscript o i pos'] value pos) (zWs td ty tv):=by
 intro b s σ H D I h;refine wpAny_Assign_Subscript (thn (n b s σ H _ I h) λr E ⟨v,A,t,J,z⟩=>thn (k b E σ A _ t z) λu f ⟨x,N,w,L,B⟩=>thn (p b f σ N _ w B) λiv s3 ⟨y,H3,d,M,a,j,m,g,c⟩=>?_) q;subst m;obtain rfl:u=Value.ref a:=L;exact zQj l d g M J λs4 Q=>⟨σ,j,Q,c⟩
end
theorem zWb{P:V3}{w:V4}{H:Hp}(h:V5)(a:A4<h.objs.size):ObjOk P w H (h.push {cls:=.type "dict",data:=.dict #[]}) h.objs.size (.dK []):=
 {nL _,rT.mpr (Ne.symm (nN a)),[], .nil,Heap.DictOf.new h}
def zMx:TE:=λ_ H Q=>∀p,H p=none->Q (.ref p) (upd H p (.dK []))
section
variable{X:Cx}{pos:Pos}
theorem zIp:PE X (.Dict [] [] pos) zMx:=λb s σ H Q I h=>
 wpAny_Dict_empty {.ref s⁻¹,_,I.laid (a:=s⁻¹) (o:=.dK []) (t':=s.toks) (λ_ _ q=>mL _ q) (mD _) (zWb s.heap I.big),O,h _ (I.hok.fresh (mD _))}
end
def zFd:List (TE×TE)->St->Hp->(List (V×V)->Hp->Prop)->Prop
 |[],_,H,Q=>Q [] H|(tk,a)::r,σ,H,Q=>tk σ H λx c=>a σ c λy d=>zFd r σ d λb e=>Q ((x,y)::b) e
abbrev VV:List (V×V)->List (V0×V0)->Prop:=Paired λp q=>RelV p.1 q.1/\RelV p.2 q.2
def PPs(X:Cx)(e:Pos)(c:List (Option Expr))(a:C5)(d:List (TE×TE)):Prop:=
 ∀(b:C7)(s:V2)(σ:St)(H:Hp)(Q:List (V×V)->Hp->Prop),Inv X b σ H s->zFd d σ H Q->
  V8 (S5 X.prog X.w) X.A (evalPairs (pairTrees c a X.env e)) (λi h=>∃f g,Inv X b σ g h/\VV f i/\Q f g) X.xe s
def jT(kvs a:D0):List (Key×V):=a.foldl (λb c=>vQ b c.1 c.2) kvs
theorem m8:∀{a:D0}{b:List (Key×V0)}{kvs:D0}{vs:List (Key×V0)},KV a b->KV kvs vs->KV (jT kvs a) (merged vs b):=by
 intro a b kvs vs r;unfold KV at r
 induction r generalizing kvs vs with
 |nil=>intro q;exact q|@cons p q f g h t c=>
  intro d;let e:KV (vQ kvs p.1 p.2) (stored vs q.1 q.2):=by
   let:=d.put p.1 h.2;rw[<-h.1];exact this
  exact c e
theorem zAe:∀(a kvs:D0),(jT kvs a)...*<=kvs...*+a...*
 |[],kvs=>by show kvs...*<=kvs...*+0;lia|p::r,kvs=>by
  let c:=zAe r (vQ kvs p.1 p.2);let b:=gS kvs p.1 p.2;show(jT (vQ kvs p.1 p.2) r)...*<=_;rw[mP];lia
def zZp(b:List (TE×TE)):TE:=λσ H Q=>∀p,H p=none->zFd b σ (upd H p (.dK [])) λe c=>c p=Y (.dK [])/\∃a:List (Key×V),e=a.map (λd=>(kV d.1,d.2))/\a...*<=15/\Q (.ref p) (upd c p (.dK (jT [] a)))
structure M1(X:Cx)(o:Expr)(m:Str)(apos:Pos)(e:Expr)(cpos:Pos):Prop where
 base:attributeBase o m X.env (eval o X.env)=eval o X.env
 few:((S2 cpos (A2 [e] X.env)).all (λx=>!x.1)&& (backToKw cpos (keywordEach [] X.env)).all (λx=>x.1.isSome)
  && decide (([e]:C5)...*+([]:List Keyword)...*+(if([]:List Keyword).isEmpty then 0 else 1)<30))=true
 line:(apos.endLine==cpos.line)=true
 trees:S2 cpos (A2 [e] X.env)= [(false,eval e X.env)]
structure M2(X:Cx)(o:Expr)(m:Str)(apos:Pos)(e f:Expr)(cpos:Pos):Prop where
 base:attributeBase o m X.env (eval o X.env)=eval o X.env
 few:((S2 cpos (A2 [e,f] X.env)).all (λx=>!x.1)&& (backToKw cpos (keywordEach [] X.env)).all (λx=>x.1.isSome)
  && decide (([e,f]:C5)...*+([]:List Keyword)...*+(if([]:List Keyword).isEmpty then 0 else 1)<30))=true
 line:(apos.endLine==cpos.line)=true
 trees:S2 cpos (A2 [e,f] X.env)= [(false,eval e X.env),(false,eval f X.env)]
def IsD(H:Hp)(a:V1):Prop:=(∃b,Rd H a (.dK b))\/∃b,Rd H a (.dT b)
theorem yCw{X:Cx}{g:C7}{σ:St}{H:Hp}{s:V2}{a:V1}(I:Inv X g σ H s)(d:IsD H a):
  s.TypeIs (.ref a) "dict"/\(∀b,Value.ref a= .ref b->∃c,s.heap.get? b=Y c/\c.dict=none)/\(a==A4)=false:=by
 rcases d with⟨k,e⟩|⟨k,e⟩
 ·obtain⟨_,i,m,_,f⟩:=kK I.hok e
  refine{f.typeIs,λb q=>?_,i};cases q;ext zZ f c _ _ j h _;exact⟨c,j,h.2.1⟩
 ·obtain⟨_,i,l,_,f⟩:=zLk I.hok e
  refine{f.typeIs,λb q=>?_,i};cases q;ext zZ f c _ _ j h _;exact⟨c,j,h.2.1⟩
section
variable{X:Cx}{pins:C7}{σ:St}{H:Hp}{s:V2}{a:V1}{y d:V}{u r:V0}{o:Option V}{A:Around}{E:C9}
end
def zSy(e f:TE):TE:=λσ H Q=>e σ H λx c=>∃a,x= .ref a/\IsD c a/\f σ c λy d=>∃b k v,d a=Y (.dK b)/\y=kV k/\jD b k=Y v/\Q v (upd d a (.dK (dropK b k)))
section
variable{X:Cx}{o e f:Expr}{apos cpos:Pos}{td ty tx:TE}
theorem zKo(p:PE X o td)(D:PE X e ty)(m:M1 X o "pop" apos e cpos):PE X (.Call (.Attribute o "pop" apos) [e] [] cpos) (zSy td ty):=by
 intro b s σ H Q I h;refine wpAny_Call_method m.base m.few m.line aR PySem.F.slot_dict_pop PySem.F.type_dict_pop (thn (p b s σ H _ I h) λu B ⟨x,z,g,E,a,q,d,w⟩=>?_);subst q;obtain rfl:u=Value.ref a:=E;obtain⟨i,t2,_⟩:=yCw g d;refine{i,t2, ?_};rw[m.trees];refine tP O (Calls.evalArgs_plain (aI (thn (D b B σ z _ g w) λiv M ⟨y,H2,t,J,L,k,v,r,n,l,A⟩=>aT ?_)));subst n;exact d_pop t r J l (.inl O) λN s3 j c=>⟨v,_,j,c,A⟩
end
section
variable{X:Cx}{pins:C7}{σ:St}{H:Hp}{s:V2}{a:V1}{kvs:D0}{A:Around}{E:C9}
end
section
variable{X:Cx}{pins:C7}{σ:St}{H:Hp}{s:V2}{a:V1}{y:V}{u:V0}{A:Around}{E:C9}
end
end L2
namespace Att
open PySem PySem.W PySem.Calls PyProof.Rows
theorem zDa{P:Params}{h:V5}:∀(c:List Int)(vs:B7),WellAll P h vs (c.map WData.int)->IntsAre vs c:=by
 intro c
 induction c with
 |nil=>
  intro vs w;rw[List.map_nil] at w;cases w;exact .nil
 |cons n c d=>
  intro vs w;rw[List.map_cons] at w
  cases w with
  |cons a b=>
   cases a;exact .cons _ _ (d _ b)
theorem zQu{l:OpenLaw}{n:Nat}(w:l.most=Y n){P:Params}{h:V5}{args:List WData}{e:B7}
  (c:l.row.toRowW.claim.pre args=true) (o:WellAll P h e args):
  ∃a vs b,e= [Value.ref a]/\args= [WData.list (b.map WData.int)]/\h.get? a=some {cls:=.type "list",data:=.seq vs.toArray}/\IntsAre vs b/\b...*<=n:=by
 let m:WShape.hasAll [] args [.list .int]=true:=(pre_splitW c).1;let p:l.pre.holds [] {args:=args}=true:=(pre_splitW c).2;refine yM (hasAllW_cons m) λd r k x s=>?_;subst k;obtain rfl:=hasAllW_nil s;obtain⟨A,rfl,v⟩:=hasW_list x;obtain⟨b,rfl⟩:=items_int v;let g:b...*<=n:=by
  unfold OpenLaw.pre at p;let j:(WTm.not (.lt (.lit (.int (n:Int))) (.len (.arg 0)))).holds [] {args:=[.list (b.map .int)]}=true:=by
   let j:=(holds_andW p).1;rw[w] at j;exact j
  let i:=condW_of j (w_not (w_lt w_lit (w_len_list (w_arg O))));rw[List.length_map] at i;refine Nat.le_of_not_lt λq=>?_;let t:(n:Int)<((b...*:Nat):Int):=by lia
  first
   |(rw[decide_eq_true t] at i;exact absurd i ∎)
   |(simp at i;lia)
 cases o with
 |cons y z=>
  cases z
  cases y with|list u f=>exact{_,_,b,O,O,u,zDa b _ f,g}
theorem zQr(l:OpenLaw)(args:List WData):l.row.toRowW.claim.post args (.bool true) args=true:=
 postW_of (r:=l.row.toRowW) (X:=(true==true))
  (show WShape.has [] (.bool true) .bool=true by first | rfl | decide | simp[WShape.has,WShape.arms,WShape.armsAll])
  (show(WTm.eq .res (.lit (.bool true))).value [] {args:=args,res:=Y (.bool true),after:=args}=Y (.bool (true==true)) from w_eq_bool (w_res O) w_lit) O
theorem attach_call{l:OpenLaw}{n:Nat}{q:V3}{c:C1}{L:(Str->Option V0)->V5->Prop}{I:V4->V5->Prop}{d:DefRec}
  (hn:l.most=Y n) (v:d.params.defaults= [])
  (call:∀(w:V4)(u b:V2)(p D:C8)(k:V1)(o:Obj)(x t g:V0)(a:V1)(vs:B7)(m:List Int),
   Ground q c [] L w u p D b.heap->I w b.heap->
   b.heap.get? k=Y o->o.data= .func (docDef d.name d.params d.body d.scope x t g)->b.heap.CodeRec t d.name->p d.name=Y (.ref k)->
   b.heap.get? a=some {cls:=.type "list",data:=.seq vs.toArray}->IntsAre vs m->m...*<=n->b.gens= #[]->
   codeAny (S5 l.prog w) callerA (.call (.ref k) {[.ref a],[]}) (λr s=>r= .ok (.ret (.bool true))/\OldK b.heap s.heap/\s.os=b.os/\AllBare s.gens) b):
  WalkO q c L I l.row.toRowW d [] (λf vs=>PySem.call f vs):=by
 intro w u b p D G Yy k o x t g dV kV ho hd H J A hg M Q as j N ab z aa;obtain rfl:dV= .none:=Dflts.none J v;obtain rfl:kV= .none:=Dflts.noKw J;refine zZ (zQu hn j z) λa vs m y E z_=>?_;ext oAA z_ i e h;subst y E;refine enter_call (codeAny_mono (call w u b p D k o x t g a vs m G Yy ho (fd_plain hd) H A i e h hg) λr s hq=>?_);ext xI hq B h2 h3 h4;subst B;exact{.inl {.bool true, .bool true,[],O,λ_=>O, .bool true,zQr l _,λ_=>{List.Pairwise.nil,λ_ hm=>(nomatch hm)}},h2,h3,h4}
section
variable{prog:V3}{w:V4}{A:Around}{E:C9}{s:V2}{K:Frag}
end
end Att
namespace L2
open PySem PySem.Spec PyProof.Rows
theorem zGa:∀{vs:B7}{a:List Int},IntsAre vs a->Vals (a.map V.int) vs
 |_,_, .nil=>.nil|_,_, .cons n t h=>.cons ⟨t,O⟩ (zGa h)
def yEk(H:Hp):Prop:=∀b,H b=none\/∃o a,H b=Y (.frz o (.lst a))
theorem zVu{P:V3}{w:V4}{K:A6}{N mb:C8}{CX:CXT}{k:Nat}{fa a:V1}{fd:V7}{x:Str}{sp:Sp}{c:V2}{vs:B7}{A:List Int}
  (KX:K.In c.heap) (p:c.heap.Ns A0 N) (g:c.heap.Ns builtinsNs mb) (aa:∀x:Str,x≠ "__name__"->mb x=A1 x) (I:c.heap.NoLimit) (hg:c.gens= #[])
  (Q:c.heap.get? a=some {cls:=.type "list",data:=.seq vs.toArray}) (hi:IntsAre vs A) (hl:A...*<=V9) (hr:Room k callerA)
  (F:∀base:V5,K.In base->base.Ns A0 N->FnOk P w K N base CX k fa fd [x] sp) (l:∀(s:V2)(u:V0),BindsTo s fd {[u],[]} [(x,u)])
  (ac:∀H:Hp,yEk H->SqL K H a (A.map V.int)->sp [.ref a] H (λv _=>v= .bl true) λ_ _ _=>False)
  (ab:∀H e s',CX [] H c (λ_ _ _=>False) e s'->False):
  codeAny (S5 P w) callerA (.call (.ref fa) {[.ref a],[]}) (λr s'=>r= .ok (.ret (.bool true))/\OldK c.heap s'.heap/\s'.os=c.os/\AllBare s'.gens) c:=by
 let rv:=zGa hi;let D:=hi...*
 -- from an abstract heap in which nothing but the script may be tracked
 let j:∀H:Hp,yEk H->SqL K H a (A.map V.int)->HOk P w H c.heap->(∀b,H b≠none->b=a)->(H a≠none->K.lookup a=none)->
   codeAny (S5 P w) callerA (.call (.ref fa) {[.ref a],[]}) (λr s'=>r= .ok (.ret (.bool true))/\OldK c.heap s'.heap/\s'.os=c.os/\AllBare s'.gens) c:=by
  intro H hO hS t hA hK;let f:∀{b:V1}{o:Obj},c.heap.get? b=Y o->H b=none->(zHy c.heap H).get? b=Y o:=λe n=>zRx e n;let ae:∀{b:V1}{o:Obj}{J:Array DictEntry}{B:Nat},c.heap.get? b=Y o->o.data= .dict J B->H b=none:=λ{b o J B} e d=>by
   cases q:H b with
   |none=>rfl|some u=>
    let e':b=a:=hA b (by rw[q];simp);subst e';rw[Q] at e;cases e;let d':Data.seq vs.toArray _=Data.dict J B:=d;cases d'
  let i:∀{b:V1}{m:C8},c.heap.Ns b m->(zHy c.heap H).Ns b m:=λ{b m} ⟨o,J,B,e,d,r⟩=>{o,J,B,f e (ae e d),d,r};let L:K.In (zHy c.heap H):=λb o e=>f (KX b o e) (by
   cases q:H b with
   |none=>rfl|some u=>
    let e':b=a:=hA b (by rw[q];simp);subst e';rw[hK (by rw[q];simp)] at e;cases e)
  let hM:Mod K N (zHy c.heap H):={L,i p,{mb,i g,aa},let ⟨mc,h1,h2⟩:=I;{mc,i h1,h2}};let e0:Env0 P w K N (zHy c.heap H) callerA [] c H:=⟨O,hM,λb o e=>zZa e,Nat.le_of_eq (zQw _ _),trivial,λb g=>absurd (show b∈([]:B9) from g) (by simp),t, .of_eq hg⟩;refine rX ((F _ L (i p)).run callerA [] c H {[.ref a],[]} [.ref a] [.ref a] _ _ hr e0 (l c (.ref a)) (.cons O .nil) (ac H hO hS)) λr s' h=>?_
  cases r with
  |error e=>exact(ab H e s' h).elim|ok fl=>
   cases fl with
   |next=>exact False.elim h|brk=>exact False.elim h|cont=>exact False.elim h|ret u=>
    ext zX h v H' os M un z_;ext oAA z_ y r' q;let q':v= .bl true:=q;subst q';obtain rfl:u=Value.bool true:=r';refine⟨O,OldK.of_keep λb o e=>?_,os,M⟩
    cases q:H b with
    |none=>exact un.keep b o e q (by intro z;exact absurd (show b∈([]:B9) from z) (by simp)) (by simp)|some u=>
     rcases hO b with z |⟨ob,xs,z⟩
     ·rw[q] at z;cases z
     ·let z2:=un.frzs b ob _ z
      obtain⟨e1,_⟩:=t b _ z;obtain⟨e2,_⟩:=y b _ z2;rw[e] at e1;cases e1;exact e2
 cases hk:K.lookup a with
 |some o=>
  -- the script is one of the module's own objects
  let e:=KX a o hk;rw[Q] at e;cases e;refine j (λ_=>none) (λ_=>.inl rfl) (.inr ⟨_,vs.toArray,_,hk,rfl,rfl,rfl,by rw[mT,D];exact hl,by simpa using rv⟩) (λb u z=>by let E:(none:Option HO)=Y u:=z;cases E) (λb z=>absurd rfl z) λz=>absurd rfl z
 |none=>
  refine j (λb=>if b=a then Y (.frz {cls:=.type "list",data:=.seq vs.toArray} (.lst (A.map V.int))) else none) (λb=>?_) (.inl (.inr {{cls:=.type "list",data:=.seq vs.toArray},mJ O})) (λb u z=>?_) (λb z=>?_) λ_=>hk
  ·by_cases g:b=a
   ·exact .inr {_,_,mJ g}
   ·exact .inl (mH g)
  ·by_cases g:b=a
   ·let E:=(mJ g).symm.trans z
    cases E;subst g;exact{Q,by rw[mM];exact hl,vs,_,rv,Q}
   ·let E:=(mH g).symm.trans z
    cases E
  ·by_cases g:b=a
   ·exact g
   ·exact absurd (mH g) z
abbrev KOf{K:A6}{h:V5}(_:K.In h):A6:=K
theorem zOz{l:W.OpenLaw}{n k:Nat}{q:V3}{c:C1}{L:(Str->Option V0)->V5->Prop}{E:V4->V5->Prop}{d:DefRec}{K:Params->A6}{CX:V4->CXT}{sp:V4->Sp}{x:Str}
  (hn:l.most=Y n) (D:n<=V9) (r:d.params.defaults= []) (hr:Room k callerA)
  (hY:∀(w:V4)(h:V5),E w h->(K w.params).In h)
  (F:∀(w:V4)(i:C8)(p:V1)(h:V5),(K w.params).In h->h.Ns A0 i->i d.name=Y (.ref p)->
   ∃A:V7,(∀(s:V2)(u:V0),BindsTo s A {[u],[]} [(x,u)])/\
    ∀base:V5,(K w.params).In base->base.Ns A0 i->FnOk l.prog w (K w.params) i base (CX w) k p A [x] (sp w))
  (z:∀(w:V4)(H:Hp)(a:V1)(m:List Int),m...*<=n->yEk H->SqL (K w.params) H a (m.map V.int)->sp w [.ref a] H (λv _=>v= .bl true) λ_ _ _=>False)
  (t:∀(w:V4)(H:Hp)(s:V2)(e:V0)(B:V2),CX w [] H s (λ_ _ _=>False) e B->False):
  W.WalkO q c L E l.row.toRowW d [] (λf vs=>PySem.call f vs):=by
 refine Att.attach_call hn r λw s₀ J i mb p o pm cd N a vs m G Yy ho hd aa y j g b M=>?_;let I:=hY w _ Yy;obtain⟨A,Q,hF⟩:=F w i p _ I G.T.g y;exact zVu I G.T.g G.T.b G.T.builtins G.T.nolimit M j g (nP b D) hr hF Q (λH hO hS=>z w H a m b hO hS) λH e B=>t w H J e B
end L2
/- THE LAST THEOREM (shape;LID,My.*are yours):
   My.Adr:a structure of the addresses that your layer names (classes,functions);My.Txt K t:a structure (Prop) of the equations over K;
   My.txt_mk:{K} {implicit addresses ..} (e1:nsIn K A0 "law" =Y ↥(.ref f)) (e2:K.lookup f=Y {oc,od, .func (fnOf "law" "law" params body scope dV kV doc pm an cdv ct),sl}) (e3:codeIn K cdv "law" =true) .. :∃t,My.Txt K t
set_option maxRecDepth 100000 in
set_option maxHeartbeats 0 in
theorem PySem.Challenge.cw_LID_holds : PySem.Challenge.rw_LID.Holds := by
  w_on;o_law;k_head;(case hw=>w_witness2)
  k_fill
  refine L2.zOz (l:=PySem.Challenge.rw_LID) (n:=63) (k:=40) (x:="script") (CX:=λw=>..) (sp:=λ_=>My.sp_law) O ∎ O {O,by decide,by decide} (λw h i=>PySem.W.kIn_of i) ?F ?S ?C
  case F=>
    intro w o f h e G d;let T:∃t,My.Txt (L2.KOf e) t:=by
      dsimp only[L2.KOf]                          -- K must stand as «<heap const>w.params» for k_is;refine' My.txt_mk ?e1 ?e2 ?e3 ..
      (case e1=>PySem.W.k_is)                    -- in the order:a name ->its address ->its object ->its parts
      (case e2=>PySem.W.k_is)
      ..
    obtain⟨t,T⟩:=T;let g:=d.symm.trans (PySem.W.mg_of e G T.law);cases g                                       -- f is the law's own address;exact{_,λs u=>.of_eq O,λbase c nb=>My.law_fn T c nb}     -- if «.of_eq O» comes too early:refine' {_, ?b,λbase c nb=>My.law_fn T c nb};exact λs u=>.of_eq O
  case S=>exact λw H a j m q p=>..
  case C=>exact ..
(the tactic k_is has no namespace:write k_is)-/
namespace L2
open PySem PySem.Spec PyProof.Rows
def xP(s:V6):Arguments:=match s with|.FunctionDef _ a _ _ _ _ _ _ _ _=>a|_=>{posonlyargs:=[],args:=[],vararg:=none,kwonlyargs:=[],kw_defaults:=[],kwarg:=none,defaults:=[]}
def xD(s:V6):List V6:=match s with|.FunctionDef _ _ b _ _ _ _ _ _ _=>b|_=>[]
def zW(s:V6):Scope:=match s with|.FunctionDef _ _ _ _ _ _ a _ _ _=>a|_=>{kind:=.function,names:=[],isGenerator:=false,isCoroutine:=false}
abbrev CX0:CXT:=λ_ _ _ _ _ _=>False
abbrev E0:XK:=λ_ _ _=>False
theorem yAf{X:Cx}:gN CX0 X E0:=λ_ _ _ _ _ _ _ h=>h.elim
structure Fun(K:A6)(x qual:Str)(st:V6)(f:V1)(fd:V7):Prop where
 ex:∃(oc:V0)(od:Option V1)(kV doc pm:V0)(an:Option V1)(cdv ct:V0)(osl:Array (Option V0)),
  fd=W.fnOf x qual (xP st) (xD st) (zW st) .none kV doc pm an cdv ct/\K.lookup f=Y {oc,od, .func fd,osl}/\A9 K cdv qual=true
 kp:A7 K (.ref f)=true
section
variable{P:V3}{w:V4}{K:A6}{mg:C8}{base:V5}
theorem Fun.ok{x b:Str}{st:V6}{f:V1}{m:V7}{N ps:C1}{k:Nat}{sp:Sp}(F:Fun K x b st f m)(S:wC N ps (zW st))(len:∀e H Q E,sp e H Q E->e...*=ps...*)
  (d:∀(c:V0)(A:Around)(a:List S7)(s:V2)(H:Hp)(e:B3)(Q:VK)(E:XK),Room k (A.deeper (envOfC b (zW st) s⁻¹ f c))->sp e H Q E->
   ∃t,PSs (zBi CX0 P w K mg base N b (zW st) f c A a s H E).nox (xD st) t/\t {nx:=λ_ H'=>Q .non H',rt:=Q} (qS N e) H):FnOk P w K mg base CX0 (k+1) f m ps sp:=by
 refine zY (F.ex) λz y kV o v i=>?_;ext yK i r c u n g i;ext oA i lk j;subst g;refine zOe lk j S len λA a s H e Q E p l=>?_;obtain⟨t,h,q⟩:=d c A a s H e Q E p l;exact⟨t,h.nox,q⟩
theorem Fun.binds{x a:Str}{st:V6}{f:V1}{k:V7}{ps:C1}(F:Fun K x a st f k)
  (h:∀(kV c d:V0)(i:Option V1)(b j:V0)(us:B7),us...*=ps...*->bindArgs (W.fnOf x a (xP st) (xD st) (zW st) .none kV c d i b j) {us,[]}=pure (ps.zip us)):Binds K k ps []:=by
 refine zY (F.ex) λo n kV c d g=>?_;ext yK g i b j l e g;ext oA g lk m;subst e;exact .all (h kV c d i b j)
theorem zRz{x a:Str}{st:V6}{f:V1}{j:V0}{od h:Option V1}{e:Array (Option V0)}{kV d g b i:V0}(l:K.lookup f=Y {j,od, .func (W.fnOf x a (xP st) (xD st) (zW st) .none kV d g h b i),e})
  (c:A9 K b a=true) (k:A7 K (.ref f)=true):Fun K x a st f (W.fnOf x a (xP st) (xD st) (zW st) .none kV d g h b i):={⟨j,od,kV,d,g,h,b,i,e,O,l,c⟩,k}
end
theorem vO{A:Around}{k:Nat}(a:Room k A):A.units+1<cLine:=Nat.lt_of_le_of_lt (Nat.add_le_add_left (by decide:1<=64) _) a.units
section
variable{X:Cx}
theorem pv(i:Nat){x:Str}{b:Pos}(e:X.N[i]? =Y x:=by rfl)(c:Vis X.env.scope x:=by first | exact nR O | exact aX (nR O)| exact aX (aX O))(d:(x==("__debug__" :Str))=false:=by decide)
  (a:(x==("__classdict__" :Str))=false:=by decide):PE X (.Name x b) (jE i):=zVa e c d a
theorem zPy{A B:Prop}(h:B):if false=true then A else B:=by
 rw[mH mX];exact h
theorem zMk{A B:Prop}(h:A):if true=true then A else B:=by
 rw[mJ O];exact h
def Same(H a:Hp):Prop:=∀b o,H b=Y o->a b=Y o
theorem Same.refl(H:Hp):Same H H:=λ_ _ h=>h
theorem Same.trans{H H1 d:Hp}(a:Same H H1)(b:Same H1 d):Same H d:=λc o h=>b c o (a c o h)
theorem Same.seq{K:A6}{H b:Hp}{a:V1}{xs:B3}(e:Same H b)(h:SqL K H a xs):SqL K b a xs:=by
 rcases h with(h |⟨o,h⟩)| h
 ·exact .inl (.inl (e _ _ h))
 ·exact .inl (.inr {o,e _ _ h})
 ·exact .inr h
theorem zCj:wP X (.builtin "len") (λxs H Q=>∃a kvs,xs= [V.ref a]/\H a=Y (.dK kvs)/\Q (.int kvs...*) H):=by
 intro c s σ H xs g Q I r h;ext yM h a kvs b e q;subst b;obtain⟨u,rfl,f⟩:=jR r;cases f;exact zZo I (.inl e) λt i d=>{.int kvs...*,H,d,⟨t,O⟩,q}
end
section
variable{κ:Type} [DecidableEq κ]
theorem zYk{kvs:List (κ×V)}{k:κ}{v:V}(h:jD kvs k=Y v):k∈kvs.map (·.1):=by
 let q:(kvs.any λa=>decide (a.1=k))=true:=by
  rw[zBk,h]
  all_goals rfl
 obtain⟨p,b,e⟩:=cL.mp q;exact nZ.mpr {p,b,sX e}
theorem zPa:∀{l:List κ}{k:κ},l.Nodup->¬k∈l->(l++ [k]).Nodup
 |[],k,_,_=>by simp|a::r,k,h,b=>by
  obtain⟨d,c⟩:=nY.mp h;show(a::(r++ [k])).Nodup;refine nY.mpr {λm=>?_,zPa c λm=>b (mG.mpr (aX m))};rcases nE.mp m with q | q
  ·exact d q
  ·exact b (mG.mpr (nR (mF.mp q).symm))
end
abbrev ts(x:Str):List Nat:=x.cps.toList
abbrev tx(l:List Nat):Str:=⟨l.toArray⟩
theorem vJ(l:List Nat):ts (tx l)=l:=rfl
theorem qC(x:Str):tx (ts x)=x:=by cases x;simp[tx,ts]
theorem zLz(x:Str):x...*=(ts x)...*:=by simp[Str.length,ts]
theorem kG(l:List Nat):(tx l)...*=l...*:=by simp[Str.length,tx]
theorem zIh{x y:Str}(h:ts x=ts y):x=y:=by rw[<-qC x,<-qC y,h]
theorem zDy(a b:List Nat):tx a++tx b=tx (a++b):=by
 apply zIh;show(a.toArray++b.toArray).toList=a++b;simp
theorem zGw(xs:Array Nat):∀(k:Nat)(acc:Array Nat),((List.replicate k xs).foldl (· ++ ·) acc).toList=acc.toList++(List.replicate k xs.toList).flatten
 |0,acc=>by simp|k+1,acc=>by
  rw[rB,bK,zGw xs k (acc++xs)];simp[rB]
theorem yBh(x:Str)(n:Int):Txt.mul x n=tx (List.replicate n.toNat (ts x)).flatten:=by
 apply zIh;rw[vJ];unfold Txt.mul
 by_cases b:n<1
 ·rw[mJ b]
  let e:n.toNat=0:=by lia
  rw[e];rfl
 ·rw[mH b]
  by_cases a:(n==1 || x...*==0)=true
  ·rw[mJ a]
   rcases(Bool.or_eq_true _ _).mp a with h3 | h3
   ·let e:n=1:=by simpa using h3
    subst e;simp
   ·let e:x...*=0:=by simpa using h3
    rw[zLz] at e;let c:ts x= []:=tQ e;show ts x=_;rw[c];simp
  ·rw[mH a]
   show((List.replicate n.toNat x.cps).foldl (· ++ ·) #[]).toList=_;rw[zGw];simp
section
variable{X:Cx}
def zTr:R2:=λx y H Q=>∃z n,x= .str z/\y= .int n/\z...*<=1000/\-1000<=n/\n<=1000/\Q (.str (tx (List.replicate n.toNat (ts z)).flatten)) H
theorem gE:OpR X (binaryOp .Mult) zTr:=by
 intro f s σ H x y v u Q I i l h;ext zX h z n c d g m;ext oAA m p r q;subst c d;obtain⟨t,rfl⟩:=i;obtain⟨j,rfl⟩:=l;refine SB.mul {by rw[nJ ∅,nJ ∅];rfl,λa _ b=>?_,λa _=>?_} λj k=>{.str (Txt.mul z n),H,I.tok _,⟨_,O⟩,by rw[yBh];exact q}
 ·let o:(9223372036854775:Int)<=(2 ^ 63 - 1:Int)/ n:=Int.le_ediv_of_mul_le ∅ ∅
  lia
 ·unfold PySem.Builtin.Str.tooLong
  let e:z...**n.toNat<=1000*1000:=Nat.mul_le_mul g ∅;exact nJ (by rw[mV];lia)
theorem zMg{ys:C1}:∀{us:B7},Vals (ys.map V.str) us->StrsAre us ys:=by
 induction ys with
 |nil=>intro us r;rw[tS] at r;cases r;exact .nil|cons n d c=>
  intro us r;rw[nD] at r
  cases r with
  |cons b a=>
   obtain⟨t,e⟩:=b;subst e;exact .cons n t (c a)
theorem zEi(g:Str):∀(ps:C1)(acc:Array Nat),(ps.foldl (λa p=>a++g.cps++p.cps) acc).toList=acc.toList++(ps.map λp=>ts g++ts p).flatten
 |[],acc=>by simp|p::ps,acc=>by
  rw[bK,zEi g ps];simp
theorem zUj(ys:C1):Txt.join (tx []) ys=tx (ys.map ts).flatten:=by
 apply zIh;show((ys.drop 1).foldl (λa p=>a++(tx []).cps++p.cps) (ys.headD Str.empty).cps).toList=_;rw[zEi]
 cases ys with
 |nil=>rfl|cons y r=>
  show ts y++(List.map (λp=>ts (tx [])++ts p) r).flatten=ts y++(List.map ts r).flatten;simp only[vJ,aE]
def rJoin(K:A6):V->List V->Hp->VK->Prop:=λx b H Q=>∃(p:V1)(a:C1),x= .str (tx [])/\b= [.ref p]/\SqL K H p (a.map V.str)/\((a.map ts).flatten)...*<=100000/\Q (.str (tx (a.map ts).flatten)) H
theorem zXv(ys:C1):(ys.map (·.length)).sum=((ys.map ts).flatten)...*:=by
 induction ys with|nil=>rfl|cons y r a=>rw[nD,List.sum_cons,a,nD,sB,mK,zLz]
theorem zPo:MtR X "str.join" (rJoin X.K):=by
 intro c s σ H x y v o Q I i g h;ext zX h p d a b l m;ext oA m n q;subst a b;obtain⟨t,rfl⟩:=i;obtain⟨u,rfl,e⟩:=g.one;cases e;refine yX (I.list l) λf r j _=>?_;refine join_list (ys:=d) j.isList (by simpa using zMg r) ?_ λw k=>{.str (Txt.join (tx []) d),H,I.tok _,⟨_,O⟩,by rw[zUj];exact q};rw[zXv,show(tx [])...*=0 from O,Nat.mul_zero]
 lia
def yCa(a:Bool):R2:=λx y H Q=>∃c j,x= .str (tx [c])/\y= .str j/\Q (.bl (if a then !decide (c∈ts j) else decide (c∈ts j))) H
theorem zOi:OpR X (A3 .In) (yCa false):=by
 intro a s σ H x y v u Q I f g h;ext yM h c j b d q;subst b d;refine zQt a s σ H _ _ v u Q I f g {_,_,O,O, ?_};let e:=StrLaws.found_one j c;rw[show(tx [c]:Str)={#[c]} from O,e];exact q
def Its(x:Str):It:={λi _=>i<(ts x)...*,λi H y a=>a=H/\∃c,(ts x)[i]? =Y c/\y= .str (tx [c]),λi _=>(ts x)...*<=i}
theorem zUp{P:V3}{w:V4}{K:A6}{tg:Expr}(x:Str)(t:Tok)(it:V1)(n:String)(j:n= "str_ascii_iterator"\/n= "str_iterator"):zEx P w K tg (Its x) [it] it (λi h=>h.IsStrIter it n x t i) where
 mem:=by simp
 obj:=λi h st b l=>by
  let e:b=it:=by simpa using l
  subst e;ext yX st o e c d;exact⟨o,e,λv z=>by rw[d] at z;cases z⟩
 keep:=λi h f st k=>by
  ext yX st o e c d;exact⟨o,k it (by simp) o e,c,d⟩
 item:=by
  intro X Q hw hK hc i g s σ H E I J st N;subst Q hw hK;refine zQ (J it (by simp)) λL D f2 r A y=>?_;let B:i<(ts x)...*:=N;let p:x.cps[i]? =some (ts x)[i]:=by
   rw[<-sE];simp[B]
  let q:∀f,f.IsStrIter it n x t (i+1)->Heap.SameBut it s.heap f->∃u,Y (Value.str {#[(ts x)[i]]} s.toks)=Y u/\
    V8 (S5 X.prog X.w) X.A (letOwnedTupleGo tg (.ref it) u) (λ_ s2=>∃x' M,Inv X g σ M s2/\RelV x' u/\(Its x).yld i H x' M/\s2.heap.IsStrIter it n x t (i+1)/\∀b∈ [it],M b=none) E {s with heap:=f,toks:=s.toks+1}:=λf a m=>by
   let I1:Inv X g σ H {s with heap:=f,toks:=s.toks+1}:=I.turned (t':=s.toks+1) (λb o l e=>(m.2 b l).trans e) L D r A y;refine yX (id a) λo e c d=>?_;refine{_,O,zIx (s:={s with heap:=f,toks:=s.toks+1}) e c d ?_ {.str (tx [(ts x)[i]]),H,I1,⟨_,O⟩,{O,_,by simp[B],O},a,λb l=>(J b l).1}};rcases j with z | z<;>(rw[z];decide)
  rcases j with z | z
  ·subst z;exact wpAny_pyNext_ascii_item st p λf a m=>q f a m
  ·subst z;exact wpAny_pyNext_wide_item st p λf a m=>q f a m
 done:=by
  intro X Q hw hK hc i g s σ H E I J st N;subst Q hw hK;refine zQ (J it (by simp)) λL D f2 r A y=>?_;let B:(ts x)...*<=i:=N;let p:x.cps[i]? =none:=by
   rw[<-sE];exact sF B
  rcases j with z | z
  ·subst z;exact wpAny_pyNext_ascii_end (I.ok.hd hc) st p λf eb=>{O,I.turned (t':=s.toks) (λb o l e=>eb b o l e) L D r A y}
  ·subst z;exact wpAny_pyNext_wide_end (I.ok.hd hc) st p λf eb=>{O,I.turned (t':=s.toks) (λb o l e=>eb b o l e) L D r A y}
 self:=λ_ _ _ _ _ st h=>by
  rcases j with z | z
  ·subst z;exact wpAny_pyIter_striter_ascii st h
  ·subst z;exact wpAny_pyIter_striter_wide st h
def yBn(b:TE):TI:=λσ H R=>b σ H λx a=>∃z,x= .str z/\R (Its z) a
theorem zTv{j l:Expr}{m:TE}(w:PE X l m):PI X j l (yBn m):=by
 intro a s σ H R I h;refine thn (w a s σ H _ I h) λv c ⟨x,u,i,n,r⟩=>?_;obtain⟨z,rfl,q⟩:=r;obtain⟨t,rfl⟩:=n;let d:∀f,(f= "str_ascii_iterator"\/f= "str_iterator")->PIE X a σ j R (.ref c⁻¹) {c with heap:=c.heap.push {cls:=.type f,data:=.fields #[.str z t, .int 0 0]}}:=λf g=>by
  refine⟨c⁻¹,[c⁻¹],_,_,u,O,i.kept (t':=c.toks) λb o e=>mL _ e,zUp z t _ f g,⟨_,nI _ rfl,rfl,rfl⟩,λb p=>?_,q⟩;let e:b=c⁻¹:=by simpa using p
  subst e;exact i.fpOk (mD _) (i.hok.fresh (mD _))
 cases k:z.cps.all (· <128) with|true=>exact wpAny_pyIter_ascii k (d _ (.inl O))|false=>exact wpAny_pyIter_wide k (d _ (.inr O))
theorem zJm{a:List Bool}:∀{us:B7},Vals (a.map V.bl) us->PyProof.Rows.LSm.BoolsAre us a:=by
 induction a with
 |nil=>intro us r;rw[tS] at r;cases r;exact .nil|cons n e d=>
  intro us r;rw[nD] at r
  cases r with
  |cons c b=>
   cases (show _=Value.bool n from c);exact .cons n (d b)
theorem kJ(x:X.calm=true):wP X (.builtin "all") (λxs H Q=>∃(p:V1)(c:List Bool),xs= [.ref p]/\SqL X.K H p (c.map V.bl)/\Q (.bl (c.all id)) H):=by
 intro k s σ H xs J Q I r h;ext yM h p c d y q;subst d;obtain⟨u,rfl,w⟩:=jR r;cases w;refine yX (I.list y) λa t n B=>?_;let g:=n.isList;let l:=zJm t;let f:p<s⁻¹:=by obtain⟨_,e,_⟩:=g;exact mQ e
 refine call_all_walk (cG g ?_);refine{s⁻¹,[s⁻¹,p],[s⁻¹],a.toArray.size,_,_,λi=>(c[i]?).getD true,O,Walks.list (A:=X.A.in1) (I.ok.hd x) _ p (nN f) a.toArray,
  {{_,nI _ O,O,O},g.push _},λi v L E D o j=>?_,λM z m=>?_}
 ·obtain⟨b,e,rfl⟩:=l.get i v (by simpa using o)
  simp only[e,Option.getD_some] at j;exact rL j
 ·let e:((List.range a.toArray.size).all λi=>(c[i]?).getD true)=c.all id:=by
   rw[mT,l...*];exact PyProof.Rows.LSm.range_all c
  rw[e];exact{.bl _,H,I.kept (PyProof.Rows.LSm.kept_iter m),O,q}
def zFn:List V->List V->Bool
 |[],[]=>true|x::a,y::b=>eqV x y && zFn a b|_,_=>false
theorem zEz:∀(xs ys:B3),xs...*=ys...*->(List.range xs...*).all (λj=>match xs[j]?,ys[j]? with | some a,Y b=>eqV a b | _,_=>true)=zFn xs ys
 |[],[],_=>rfl|x::xs,y::ys,h=>by
  let c:=zEz xs ys (by simpa using h);rw[mP,List.range_succ_eq_map,List.all_cons,aK];show(eqV x y && _)=(eqV x y && zFn xs ys);rw[<-c]
  congr 1
theorem zJq:∀{xs ys:B3},xs...*≠ys...*->zFn xs ys=false
 |[],[],h=>absurd O h|[],_::_,_=>rfl|_::_,[],_=>rfl|x::xs,y::ys,h=>by
  let a:=zJq (xs:=xs) (ys:=ys) (by simpa using h);show(eqV x y && zFn xs ys)=false;rw[a,aP]
def rEqL(K:A6)(e:Bool):R2:=λx y H Q=>∃a b c d,x= .ref a/\y= .ref b/\SqL K H a c/\SqL K H b d/\c.all uL=true/\d.all uL=true/\Q (.bl (if e then !zFn c d else zFn c d)) H
theorem Vals.some_at{xs:B3}{us:B7}(r:Vals xs us){j:Nat}(h:j<us...*):∃x,xs[j]? =Y x/\RelV x us[j]:=by
 let b:=r...*;obtain⟨x,e⟩:∃x,xs[j]? =Y x:={xs[j],by simp[b,h]};obtain⟨u,a,c⟩:=r.get e;let d:us[j]? =some us[j]:=by simp[h]
 rw[d] at a;cases a;exact⟨x,e,c⟩
theorem zUu{A:Around}{s:V2}{xs ys:B3}{us c:B7}(r:Vals xs us)(q:Vals ys c)(k:xs.all uL=true)(n:ys.all uL=true):
  ∀j(g:j<us.toArray.size)(d:j<c.toArray.size),SeqAt.EqAt A s us.toArray[j] c.toArray[j] ((λj=>match xs[j]?,ys[j]? with | some a,Y b=>eqV a b | _,_=>true) j):=λj g d=>by
 obtain⟨x,f,i⟩:=r.some_at (j:=j) (by simpa using g);obtain⟨y,e,l⟩:=q.some_at (j:=j) (by simpa using d);let m:uL x=true:=pW.mp k x (mO f);let h:uL y=true:=pW.mp n y (mO e);let z:=yEm (A:=A) (s:=s) i l m h;simp only[f,e]
 simpa using z
theorem zXf(j:X.A.units<cLine):OpR X (A3 .NotEq) (rEqL X.K true):=by
 intro k s σ H x y v u Q I E J h;ext yK h a b o n f A;ext zQ A g D B t L q;subst f g;cases E;cases J;refine yX (I.list D) λr i c _=>?_;refine yX (I.list B) λl m d _=>?_;let p:=i...*;let w:=m...*
 by_cases e:o...*=n...*
 ·refine SeqAt.RcNeAt.lists c.isList d.isList (by simp only[mT];lia) j (zUu i m t L) X.prog X.w X.xe _ {.bl _,H,I,O, ?_}
  rw[mT,<-p,zEz o n e];exact q
 ·refine SeqAt.RcNeAt.lists_lengths c.isList d.isList (by simp only[mT];simpa [<-p,<-w] using e) j X.prog X.w X.xe _ {.bl _,H,I,O, ?_}
  let z:=zJq e
  simpa [z] using q
def tyS(H:Hp):V->Option String
 |.non=>some "NoneType"|.bl _=>some "bool"|.int _=>some "int"|.str _=>some "str"|.ref a=>match H a with
  |some (.lst _)=>some "list"|some (.tup _)=>some "tuple"|some (.dK _)=>some "dict"|_=>none
 |_=>none
def zT(t T:String):Bool:=t==T ||(t== "bool" && T== "int")
theorem zUz{K:A6}{H:Hp}{x:V}{t:String}(h:tyS H x=Y t):zBz K H x (.type t):=by
 cases x with
 |non=>cases h;exact .non|bl b=>cases h;exact .bl b|int i=>cases h;exact .int i|str z=>cases h;exact .str z|ref a=>
  let c:(match H a with | some (.lst _)=>some "list" | some (.tup _)=>some "tuple" | some (.dK _)=>some "dict" | _=>none)=Y t:=h
  cases e:H a with
  |none=>rw[e] at c;cases c|some o=>
   rw[e] at c
   cases o with|lst d=>cases c;exact .lst e|tup d=>cases c;exact .tup e|dK f=>cases c;exact .dK e|_=>cases c
 |byt b=>cases h|flt b=>cases h|ty n=>cases h
def tyL:List String:=["NoneType","bool","int","str","list","tuple","dict"]
def kitB(t T:String):Option Bool:=if(Value.type t==Value.type T)=true then Y true else if W.kitMeta T=true then(fastBuiltinMro t).map (·.contains (.type T)) else none
theorem zXz:(tyL.all λt=>tyL.all λT=>kitB t T==Y (zT t T))=true:=by decide+kernel
theorem zCi{K:A6}{t T:String}(c:t∈tyL)(d:T∈tyL):W.kitOne K (.type t) (.type T)=Y (zT t T):=by
 let a:=pW.mp (pW.mp zXz t c) T d;let b:kitB t T=Y (zT t T):=by simpa using a
 exact b
theorem vG{H:Hp}{x:V}{t:String}(h:tyS H x=Y t):t∈tyL:=by
 cases x<;>first |(cases h;simp[tyL];done)|(cases h;done)| skip
 rename_i a;let b:(match H a with | some (.lst _)=>some "list" | some (.tup _)=>some "tuple" | some (.dK _)=>some "dict" | _=>none)=Y t:=h
 split at b<;>first |(cases b;simp[tyL];done)|(cases b;done)
theorem zYm{j:C7}{σ:St}{H:Hp}{s:V2}{x:V}{u:V0}{t:String}(I:Inv X j σ H s)(b:RelV x u)(h:tyS H x=Y t):
  ∃φ:V5->Prop,W.KitX X.K u (.type t) φ/\φ s.heap/\u≠ .builtin "__main__.__loader__#opaque":=by
 cases zUz (K:=X.K) h with
 |non=>cases (show u=Value.none from b);exact{_,W.kitx_none,mS,λz=>nomatch z}|bl y=>cases (show u=Value.bool y from b);exact{_,W.kitx_bool,mS,λz=>nomatch z}|int i=>obtain⟨t,q⟩:=(show∃t,u=Value.int i t from b);cases q;exact{_,W.kitx_int,mS,λz=>nomatch z}
 |str y=>obtain⟨t,q⟩:=(show∃t,u=Value.str y t from b);cases q;exact{_,W.kitx_str,mS,λz=>nomatch z}
 |flt y=>obtain⟨t,q⟩:=(show∃t,u=Value.float y t from b);cases q;exact{_,W.kitx_float,mS,λz=>nomatch z}
 |@lst a f d=>
  cases (show u=Value.ref a from b);obtain⟨_,_,n,_,c⟩:=(show ObjOk X.prog X.w H s.heap a (.lst f) from I.hok a _ d);exact{_,cS,⟨_,c,O⟩,λz=>nomatch z}
 |@frz a l f d=>
  cases (show u=Value.ref a from b);obtain⟨_,_,_,n,_,c⟩:=(show ObjOk X.prog X.w H s.heap a (.frz l (.lst f)) from I.hok a _ d);exact{_,cS,⟨_,c,O⟩,λz=>nomatch z}
 |@tup a f d=>
  cases (show u=Value.ref a from b);obtain⟨_,_,_,p⟩:=(show ObjOk X.prog X.w H s.heap a (.tup f) from I.hok a _ d);ext yX p o c g _;exact⟨_,W.kitx_tuple,⟨o,c,g⟩,λz=>nomatch z⟩
 |@dK a e d=>
  cases (show u=Value.ref a from b);obtain⟨_,_,r,_,p⟩:=(show ObjOk X.prog X.w H s.heap a (.dK e) from I.hok a _ d);ext zZ p o m k c g _;exact⟨_,bW,⟨o,c,g.1⟩,λz=>nomatch z⟩
 |@dT a e d=>
  cases (show u=Value.ref a from b);obtain⟨_,_,f,_,o,m,k,c,g,_⟩:=(show ObjOk X.prog X.w H s.heap a (.dT e) from I.hok a _ d);exact{_,bW,⟨o,c,g.1⟩,λz=>nomatch z}
theorem uR{T U:String}(N:T∈tyL)(A:U∈tyL):wP X (.builtin "isinstance") (λxs H Q=>∃x t p,xs= [x, .ref p]/\H p=Y (.tup [.ty T, .ty U])/\tyS H x=Y t/\Q (.bl (zT t T || zT t U)) H):=by
 intro j s σ H xs us Q I r h;ext zZ h x t p d hp D;ext oA D f q;subst d;refine yM (zCu r) λu v a J i=>?_;subst a;cases (show v=Value.ref p from i);refine yX (zYm I J f) λφ L w g=>?_;obtain⟨_,m,rv,B⟩:=(show ObjOk X.prog X.w H s.heap p (.tup [.ty T, .ty U]) from I.hok p _ hp);refine yM (zCu rv) λy v2 e k E=>?_;subst e;cases (show y=Value.type T from k);cases (show v2=Value.type U from E);obtain⟨o,l,hc,n,hd⟩:=B;obtain⟨oc,od,c,M⟩:=o;cases (show oc=Value.type "tuple" from hc);cases (show c=Data.seq _ n from hd);refine W.kia_tup L I.kIn w l (b:=zT t T || zT t U) ?_ g λtk=>{.bl _,H,I.tok _,O,q}
 let k1:=zCi (K:=X.K) (vG f) N;let z:=zCi (K:=X.K) (vG f) A;simp only[W.kitAny,k1,z];cases zT t T<;>cases zT t U<;>rfl
theorem zEt{T:String}(e:T∈tyL):wP X (.builtin "isinstance") (λxs H Q=>∃x t,xs= [x, .ty T]/\tyS H x=Y t/\Q (.bl (zT t T)) H):=by
 intro d s σ H xs j Q I r h;ext yM h x t a c q;subst a;refine yM (zCu r) λu f a g b=>?_;subst a;cases (show f=Value.type T from b);exact zQd I g (zUz c) (zCi (vG c) e) λi=>{.bl _,H,I.tok _,O,q}
end
theorem yR:A1 "len" =Y (.builtin "len"):=by decide+kernel
theorem zJ:A1 "isinstance" =Y (.builtin "isinstance"):=by decide+kernel
theorem zBx:A1 "all" =Y (.builtin "all"):=by decide+kernel
theorem yBt:A1 "abs" =Y (.builtin "abs"):=by decide+kernel
theorem yDy:A1 "ord" =Y (.builtin "ord"):=by decide+kernel
theorem zMh:A1 "min" =Y (.builtin "min"):=by decide+kernel
theorem uM:A1 "sorted" =Y (.builtin "sorted"):=by decide+kernel
theorem vX:A1 "int" =Y (.type "int"):=by decide+kernel
theorem vY:A1 "str" =Y (.type "str"):=by decide+kernel
theorem zOf:A1 "bool" =Y (.type "bool"):=by decide+kernel
theorem xZ:A1 "list" =Y (.type "list"):=by decide+kernel
theorem xV:A1 "dict" =Y (.type "dict"):=by decide+kernel
theorem zKr:A1 "tuple" =Y (.type "tuple"):=by decide+kernel
structure Bl(mg:C8):Prop where
 len:mg "len" =none
 range:mg "range" =none
 isinstance:mg "isinstance" =none
 all:mg "all" =none
 sum:mg "sum" =none
 int:mg "int" =none
 str:mg "str" =none
 bool:mg "bool" =none
 list:mg "list" =none
 dict:mg "dict" =none
 tuple:mg "tuple" =none
structure Dn(P:V3)(w:V4)(K:A6)(mg:C8)(base:V5)(k:Nat)(x:Str)(ps:C1)(sp:Sp):Prop where
 ex:∃(f:V1)(fd:V7),FnOk P w K mg base CX0 k f fd ps sp/\Binds K fd ps []/\A7 K (.ref f)=true/\mg x=Y (.ref f)
section
variable{X:Cx}{k j:Nat}{x:Str}{ps:C1}{sp:Sp}{e:Expr}{es:C5}{t:TA}{p pos:Pos}
theorem pe_cd(D:Dn X.prog X.w X.K X.mg X.base k x ps sp)(m:Room j X.A)(h:k<=j)(g:Gl X x)(n:PA X (e::es) t)(a:(x==("__debug__" :Str))=false:=by decide)
  (c:A2 (e::es) X.env=(false,eval e X.env)::A2 es X.env:=by rfl) (b:(S2 pos (A2 es X.env)).any (·.1)=false:=by rfl):PE X (.Call (.Name x p) (e::es) [] pos) (jY sp [] E0 t):=by
 refine zX (D.ex) λf q l d o i=>?_;exact zIe l (m.mono h) g i o d .nil yAf n a c b
theorem yEj(D:Dn X.prog X.w X.K X.mg X.base k x ps sp)(i:Room j X.A)(d:k<=j)(c:Gl X x)(a:(x==("__debug__" :Str))=false:=by decide):PE X (.Call (.Name x p) [] [] pos) (jY sp [] E0 zBe):=by
 refine zX (D.ex) λf m h b l g=>?_;exact zTl h (i.mono d) c g l b .nil yAf a
end
theorem zLt{α β:Type}{l:List α}{f:α->β->Sem (ForInStep β)}(g:β->α->β)(h:∀x∈l,∀c,f x c=pure (.yield (g c x))):∀b:β,forIn l b f=pure (l.foldl g b):=by
 induction l with
 |nil=>intro b;rfl|cons a r e=>
  intro b;rw[List.forIn_cons,h a mE];show forIn r (g b a) f=_;rw[e (λx d=>h x (mI _ d)) (g b a)]
  rfl
def vH(b:S7)(cs:List (Str×V1))(x:Str×NameKind):List (Str×V1):=
 if(x.2==S3)=true then(match b.cells.lookup x.1 with | some a=>(x.1,a)::cs | none=>cs) else cs
def clo(b:S7)(a:List (Str×NameKind)):List (Str×V1):=a.foldl (vH b) []
theorem jO{b:Scope}{d:S7}(h:∀x∈b.names,x.2= .free->∃c,d.cells.lookup x.1=Y c):closureFor b d=pure (clo d b.names):=by
 simp only[closureFor];rw[zLt (vH d) (λx i c=>by
  obtain⟨n,k⟩:=x
  by_cases f:k= .free
  ·subst f
   obtain⟨a,e⟩:=h _ i O;let g:d.cells.lookup n=Y a:=e;simp[vH,cellOf,g]
  ·let e:(k==S3)=false:=by simpa using f
   simp[vH,e])]
 rfl
theorem zOu{b:S7}:∀(c:List (Str×NameKind))(cs:List (Str×V1)),(∀p∈cs,b.cells.lookup p.1=Y p.2)->∀p∈c.foldl (vH b) cs,b.cells.lookup p.1=Y p.2
 |[],_,h=>h|x::r,cs,h=>by
  refine zOu r (vH b cs x) λp d=>?_;unfold vH at d;split at d
  ·split at d
   ·rename_i a e
    rcases mG.mp d with z | z
    ·rw[z];exact e
    ·exact h p z
   ·exact h p d
  ·exact h p d
theorem zLe{b:S7}{p:Str×V1}:∀(a:List (Str×NameKind))(cs:List (Str×V1)),p∈cs->p∈a.foldl (vH b) cs
 |[],_,h=>h|x::r,cs,h=>by
  refine zLe r (vH b cs x) ?_;unfold vH;split
  ·split
   ·exact mI _ h
   ·exact h
  ·exact h
theorem zPn{d:S7}{n:Str}{c:V1}(e:d.cells.lookup n=Y c):∀(b:List (Str×NameKind))(cs:List (Str×V1)),(n,S3)∈b->(n,c)∈b.foldl (vH d) cs
 |[],_,h=>nomatch h|x::r,cs,h=>by
  rcases mG.mp h with z | z
  ·subst z
   refine zLe r _ ?_;unfold vH;rw[mJ (by rfl)];show(n,c)∈(match d.cells.lookup n with | some a=>(n,a)::cs | none=>cs)
   rw[e];exact mE
  ·exact zPn e r _ z
theorem jJ{α:Type}{n:Str}{c:α}:∀{l:List (Str×α)},(n,c)∈l->∃a,l.lookup n=Y a
 |[],h=>nomatch h|(m,d)::r,h=>by
  by_cases e:n=m
  ·subst e;exact{d,by simp[rY]}
  ·rcases mG.mp h with z | z
   ·cases z;exact absurd O e
   ·obtain⟨a,q⟩:=jJ z
    let b:(n==m)=false:=by simpa using e
    exact{a,by rw[rY,b];exact q}
theorem zVs{b:S7}{a:List (Str×NameKind)}{n:Str}{c:V1}(h:(clo b a).lookup n=Y c):b.cells.lookup n=Y c:=
 zOu a [] (λ_ z=>nomatch z) (n,c) (rV h)
theorem zFc{b:S7}{a:List (Str×NameKind)}{n:Str}{c:V1}(e:b.cells.lookup n=Y c)(h:(n,S3)∈a):(clo b a).lookup n=Y c:=by
 obtain⟨f,q⟩:=jJ (zPn e a [] h);let d:(clo b a).lookup n=Y f:=q;let z:=zVs d;rw[e] at z;rw[d,<-z]
abbrev _root_.D4:=List (Str×Nat)
inductive FreeOk (X:Cx) (scope:Scope):List (Str×Nat)->Prop where
 |nil:FreeOk X scope []
 |cons {x:Str} {i:Nat} {r:D4} (h1:X.N[i]? =Y x) (h2:X.env.kindOf x=some .cell) (h3:scope.names.lookup x=some .free) (h:FreeOk X scope r):FreeOk X scope ((x,i)::r)
theorem FreeOk.mem{X:Cx}{a:Scope}:∀{F:D4},FreeOk X a F->∀p∈F,X.N[p.2]? =Y p.1/\X.env.kindOf p.1=some .cell/\a.names.lookup p.1=some .free
 |_, .nil,_,h=>nomatch h|_, .cons d b e h,p,c=>by
  rcases mG.mp c with z | z
  ·subst z;exact⟨d,b,e⟩
  ·exact h.mem p z
structure CompSc(X:Cx)(scope:Scope)(own:C1)(F:D4):Prop where
 kind:scope.kind= .function
 nocell:(scope.names.all λy=>!(y.2==NameKind.cell))=true
 loc:(scope.names.all λy=>!(y.2==NameKind.local)||(scope.names.lookup y.1==Y NameKind.local))=true
 fr:(scope.names.all λy=>!(y.2==S3)||(X.env.scope.names.lookup y.1==Y NameKind.cell))=true
 free:FreeOk X scope F
def wN(own:C1)(F:D4):List Str:=own++F.map (·.1)
def kS(own:C1)(F:D4)(σ:St):St:=own.map (λ_=>Option.none)++F.map (λp=>(σ[p.2]?).join)
def yT(X:Cx)(own:C1)(F:D4)(a:Scope)(C:V1)(c:V2)(d:Hp)(b:B9):Cx where
 prog:=X.prog
 w:=X.w
 K:=X.K
 mg:=X.mg
 base:=X.base
 A:=X.A
 N:=wN own F
 s₀:=c
 H₀:=d
 env:=compEnvC a (clo X.env a.names) C X.env
 outer:=X.stack
 stack:=X.stack
 ex:=b
 fn:=λ_=>false
 calm:=X.calm
 pn:=[]
 xe:=λ_ _=>False
theorem CompSc.nc{X:Cx}{a:Scope}{own:C1}{F:D4}(S:CompSc X a own F):∀y∈a.names,y.2≠ .cell:=λy b e=>by
 let q:=pW.mp S.nocell y b;rw[e] at q;exact absurd q ∎
theorem CompSc.lc{X:Cx}{a:Scope}{own:C1}{F:D4}(S:CompSc X a own F):∀y∈a.names,y.2= .local->a.names.lookup y.1=some .local:=λy b e=>by
 let q:=pW.mp S.loc y b;rw[e] at q
 simpa using q
theorem CompSc.fc{X:Cx}{a:Scope}{own:C1}{F:D4}(S:CompSc X a own F):∀y∈a.names,y.2= .free->X.env.kindOf y.1=some .cell:=λy b e=>by
 let q:=pW.mp S.fr y b;rw[e] at q;let c:X.env.scope.names.lookup y.1=Y NameKind.cell:=by simpa using q
 exact c
theorem zId{a:Scope}{b:S7}(j:∀y∈a.names,y.2≠ .cell){x:Str}(h:(relabel a b).names.lookup x=some .cell\/(relabel a b).names.lookup x=some .free):(x,S3)∈a.names:=by
 let g:∀k,(relabel a b).names.lookup x=Y k->k= .cell\/k= .free->(x,S3)∈a.names:=λk e o=>by
  let m:=rV e;unfold relabel at m;obtain⟨⟨n,i⟩,f,c⟩:=nZ.mp m
  by_cases d:i= .free
  ·subst d
   dsimp only at c;split at c<;>(cases c;exact f)
  ·let l:(i==S3)=false:=by simpa using d
   simp only[l,aM,Bool.false_eq_true,if_false] at c;cases c;rcases o with z | z
   ·exact absurd z (j _ f)
   ·exact absurd z d
 rcases h with h | h
 ·exact g _ h (.inl O)
 ·exact g _ h (.inr O)
theorem jA{a:S7}(g:a.scope.kind= .function):∀{b:List (Str×NameKind)}{x:Str},b.lookup x=some .free->a.kindOf x=some .cell->
  (b.map fun(n,k)=>if(k==S3 && a.scope.kind== .function && a.kindOf n==some .cell) then(n,NameKind.cell) else(n,k)).lookup x=some .cell
 |[],_,h,_=>by simp at h|(n,k)::r,x,h,f=>by
  let i:=@jA a g r x;rw[nD]
  by_cases e:x=n
  ·subst e
   let l:k= .free:=by simpa [rY] using h
   subst l;let c:(S3==S3 && a.scope.kind== .function && a.kindOf x==some .cell)=true:=by rw[g,f];rfl
   show List.lookup x ((if(S3==S3 && a.scope.kind== .function && a.kindOf x==some .cell)=true then(x,NameKind.cell) else(x,S3))::_)=_;rw[mJ c];simp[rY]
  ·let d:(x==n)=false:=by simpa using e
   let j:r.lookup x=some .free:=by rw[rY,d] at h;exact h
   let q:=i j f;dsimp only;split
   ·rw[rY,d];exact q
   ·rw[rY,d];exact q
section
variable{X:Cx}{pins:C7}{σ:St}{H:Hp}{s:V2}
theorem Inv.freeCells{a:Scope}{own:C1}{F:D4}(I:Inv X pins σ H s)(S:CompSc X a own F):∀x∈a.names,x.2= .free->∃c,X.env.cells.lookup x.1=Y c:=λx b e=>
 I.ok.has x.1 (.inl (S.fc x b e))
theorem Inv.notStk(I:Inv X pins σ H s){b:V1}(a:b≠X.env.locals)(c:b∉X.fs):b∉frs X.stack:=λz=>(mG.mp (I.stkSub b z)).elim a c
theorem zEv{f:Scope}{own:C1}{F:D4}{fp:B9}{t:V5}{tk:Nat}(I:Inv X pins σ H s)(S:CompSc X f own F)(A:∀b∈fp,zBq X pins H b)(J:∀b∈fp,b<s⁻¹){h:V2}
  (N:h={s with heap:=s.heap.push {cls:=.type "list",data:=.seq ([]:B7).toArray}})
  (B:t.Ns h⁻¹ (λ_=>none)) (w:∀b o,h.heap.get? b=Y o->t.get? b=Y o):
  Inv (yT X own F f h⁻¹ h H (s⁻¹::fp)) [] (kS own F σ) H {h with heap:=t,toks:=tk}:=by
 let aa:h⁻¹=s⁻¹+1:=by rw[N];exact tE ..
 let k3:∀b o,s.heap.get? b=Y o->h.heap.get? b=Y o:=λb o e=>by rw[N];exact mL _ e
 let D:Inv X pins σ H h:=by rw[N];exact I.kept (t':=s.toks) λb o e=>mL _ e
 let d:∀x c,(clo X.env f.names).lookup x=Y c->X.env.cells.lookup x=Y c:=λx c e=>zVs e;let j:∀b o,X.base.get? b=Y o->b<X.s₀⁻¹:=λb o e=>nF (mQ e) I.ok.bsz;let kf:X.env.scope.kind= .function:=I.ok.kind;refine{⟨I.ok.mod,S.kind,I.ok.glob,I.ok.blt,mD _,λx y c t h2=>I.ok.inj x y c (d x c t) (d y c h2),λx Q=>?_,λx c Q _=>(nomatch Q),I.ok.hd,I.ok.frames, .inl O,λb n=>?_,λb o e=>?_, ?_,λb o e n=>?_,λb n=>?_,D.stack,λb n=>I.stkFree b n⟩,
  rfl,D.bare,Un.kept w,{_,B,λi x v e1 g ab=>?_},λx c e=>?_, ?_,λx c e=>I.freeC x c (d x c e),λp hp=>absurd (show p∈([]:C7) from hp) (by simp),D.hok.kept w, ?_}
 ·let hm:=zId S.nc Q
  obtain⟨c,e⟩:=I.freeCells S _ hm O;exact{c,zFc e hm}
 ·rcases mG.mp n with z | z
  ·subst z
   refine{λq=>?_,λx c e q=>?_}
   ·let q':s⁻¹=h⁻¹:=q
    lia
   ·obtain⟨v,u⟩:=I.cell x c (d x c e)
    exact absurd u.lt (by rw[q];exact sO _)
  ·refine{λq=>?_,λx c e=>(A b z).2.2.2.2.1 x c (d x c e)}
   exact nN (nF (J b z) (show s⁻¹<=h⁻¹ by lia)) q
 ·obtain⟨a1,a2⟩:=I.bs b o e
  exact⟨k3 b o a1,a2⟩
 ·exact nP (nP I.ok.bsz I.sz) (by show s⁻¹<=h⁻¹;lia)
 ·let l1:=j b o e
  rcases mG.mp n with z | z
  ·exact absurd (nF l1 I.sz) (by rw[z];exact sO _)
  ·rcases(A b z).2.2.2.1 with q | q
   ·exact I.ok.noex b o e q
   ·exact absurd l1 (Nat.not_lt.mpr q)
 ·rcases mG.mp n with z | z
  ·subst z
   exact I.notStk (rM I.lt) (I.nofs (mD _))
  ·exact I.notStk (A b z).2.1 (A b z).2.2.1
 ·-- a name that is seen
  let hi:own...*<=i:=by
   by_cases z:i<own...*
   ·rw[kS,pB (by simpa using z),nG] at g
    cases q:own[i]? with|none=>rw[q] at g;cases g|some y=>rw[q] at g;cases g
   ·lia
  rw[kS,nU (by simpa using hi),nG] at g;let k:(own++F.map (·.1))[i]? =Y x:=e1;rw[nU hi,nG] at k;simp only[mM] at g
  cases q:F[i - own...*]? with
  |none=>rw[q] at g;cases g|some p=>
   rw[q] at k g;simp only[Option.map_some,Option.some.injEq] at k g;obtain⟨f1,L,f3⟩:=S.free.mem p (mO q);subst k;obtain⟨m,hn,hl⟩:=I.loc;let e4:σ[p.2]? =Y ↥v:=by
    cases r:σ[p.2]? with|none=>rw[r] at g;cases g|some o=>rw[r] at g;exact congrArg some g
   obtain⟨u,ru,l⟩:=hl p.2 p.1 v f1 e4 (.inr (.inl L));refine{u,ru, .inr {.inl (jA kf f3 L), ?_}};rcases l with⟨l,_⟩|⟨_,c,ec,z⟩
   ·rw[L] at l;cases l
   ·refine{c,zFc ec (rV f3), ?_}
    obtain⟨oc,E,M⟩:=z;exact{oc,w _ _ (k3 _ _ E),M}
 ·refine wB (I.cell x c (d x c e)) λv oc E M=>?_
  exact{v,oc,w _ _ (k3 _ _ E),M}
 ·exact I.hok.fresh (by show s⁻¹<=h⁻¹;lia)
 ·show(kS own F σ)...*=(wN own F)...*
  simp[kS,wN]
theorem uV{i:Scope}{own:C1}{F:D4}{fp:B9}{g j:V2}{B:St}{m:Hp}{ys:B3}{d:B7}{n:Nat}(I:Inv X pins σ H s)(N:∀b∈fp,zBq X pins H b)
  (t:g={s with heap:=s.heap.push {cls:=.type "list",data:=.seq ([]:B7).toArray}})
  (J:Inv (yT X own F i g⁻¹ g H (s⁻¹::fp)) [] B m j) (hz:ys...*<=V9) (L:Vals ys d)
  (Q:j.heap.get? s⁻¹=some {cls:=.type "list",data:=.seq d.toArray n}) (k:m s⁻¹=none):Inv X pins σ (upd m s⁻¹ (.lst ys)) j:=by
 let y:g⁻¹=s⁻¹+1:=by rw[t];exact tE ..
 let p:∀b o,s.heap.get? b=Y o->g.heap.get? b=Y o:=λb o e=>by rw[t];exact mL _ e
 let U:Un (frs X.stack) (s⁻¹::fp) H m g.heap j.heap:=J.base;let x:∀b o,s.heap.get? b=Y o->b≠s⁻¹:=λb o e=>nN (mQ e);let r:∀b o,s.heap.get? b=Y o->b∉fp->b∉s⁻¹::fp:=λb o e h z=>(mG.mp z).elim (x b o e) h;let v:j.os=s.os:=by
  let q:j.os=g.os:=J.os;rw[q,t]
 refine I.call' (ch:=fp) v ⟨λb o e z a f=>U.keep b o (p b o e) z a (r b o e f),λb o e z a f=>U.slot b o (p b o e) z a (r b o e f),λb o e z f=>?_,λb o e f=>U.there b o (p b o e) (r b o e f),λb w e=>?_,λb o u e=>?_,λb A e=>?_⟩ (λb u e=>?_) J.bare λb a=>?_
 ·rw[zK (x b o e)]
  exact U.free b o (p b o e) z (r b o e f)
 ·let q:=U.tups b w e
  rw[zK (yD q k)];exact q
 ·let q:=U.frzs b o u e
  rw[zK (yD q k)];exact q
 ·obtain⟨l,q⟩:=U.tbls b A e
  exact{l,by rw[zK (yD q k)];exact q}
 ·by_cases a:b=s⁻¹
  ·subst a
   rw[zC] at e;cases e;exact⟨hz,d,n,L,Q⟩
  ·rw[zK a] at e
   exact(J.hok b u e).stay (λ_ _ _ q=>q) (λc q=>by rw[zK (yD q k)];exact q) λc w q=>by rw[zK (yD q k)];exact q
 ·refine zQ (N b a) λ_ f1 _ D M E=>?_
  exact⟨D,f1,M,E⟩
theorem zAj{f:Hp}{a:V2}{C:V1}{h':V5}{g:St}(I:Inv X pins σ H s)(d:s⁻¹<=C)(k:Inv X pins g f a)(h:f C=none)(l:Heap.SameBut C a.heap h'):Inv X pins g f {a with heap:=h'}:=by
 let q:=k.turned (it:=C) (t':=a.toks) (h':=h') (λb o j e=>(l.2 b j).trans e) h (rM (nF I.lt d)) (.inr (nP I.sz d)) (λx c e z=>?_) (λp i z=>?_)
 ·exact q
 ·obtain⟨v,u⟩:=I.cell x c e
  exact absurd (nF u.lt (by rw[z];exact d)) (sO _)
 ·exact absurd (nF (mQ (I.pin p i).1) (by rw[z];exact d)) (sO _)
end
def PTs(X:Cx)(b:C5)(t:TT):Prop:=
 ∀(a:C7)(s:V2)(σ:St)(H:Hp)(Q:Bool->Hp->Prop),Inv X a σ H s->t σ H Q->
  V8 (S5 X.prog X.w) X.A (forIn b true λc r=>if r=true then do let ok <-isTrue c X.env (eval c X.env);pure (ForInStep.yield ok) else pure (ForInStep.yield r)) (TP X a σ Q) X.xe s
def zCz:TT:=λ_ H Q=>Q true H
theorem xU{X:Cx}:PTs X [] zCz:=λ_ _ _ H _ I h=>wpAny_tests_nil ⟨H,I,h⟩
theorem zYh{X:Cx}{c:Expr}{t:TT}(h:PT X c t):PTs X [c] t:=λa s σ H Q I q=>wpAny_tests_one (h a s σ H Q I q)
theorem zLa{prog:V3}{w:V4}{A:Around}{R:Result->V2->Prop}{s:V2}{g a iter:Expr}{e:C5}{d:Scope}{k:Pos}{it acc:V0}{b:S7}(I:Nat->V2->Prop)
  (j:∀n s,I n s->V8 (S5 prog w) A (pyNext it) (λr l=>match r with
   | none=>R (.ok .next) l|some v=>V8 (S5 prog w) A (letOwnedTupleGo a it v) (λ_ z=>V8 (S5 prog w) A (assign a b v) (λ_ q=>
     V8 (S5 prog w) A (forIn e true λc r=>if r=true then do let i <-isTrue c b (eval c b);pure (ForInStep.yield i) else pure (ForInStep.yield r)) (λi o=>
      if i=true then V8 (S5 prog w) A (eval g b) (λx y=>
       V8 (S5 prog w) A (call (.builtin "list.append") [acc,x]) (λ_ t=>∃m,m<n/\I m t) (λ_ _=>False) y) (λ_ _=>False) o
      else∃m,m<n/\I m o) (λ_ _=>False) q) (λ_ _=>False) z) (λ_ _=>False) l) (λ_ _=>False) s)
  (n:Nat) (h:I n s):codeAny (S5 prog w) A (.compLoop (.ListComp g [{a,iter,e,0}] d k) 0 it acc b) R s:=by
 refine codeAny_loop O I (λn s D=>?_) n h;show V8 _ A ((compTurn (.ListComp g [{a,iter,e,0}] d k) 0 it acc b).onRaise (λx=>do noteFrame x b;theTreesLotGoes x)) _ _ s;refine wpAny_noted ?_;rw[compTurn_list];refine mC (rR (mC (pC (j n s D) (λr l p=>?_) λ_ _ f=>f.elim)))
 cases r with
 |none=>exact mY p|some v=>
  refine mC (pC p (λ_ z H=>mC (pC H (λ_ q J=>mC (pC J (λi o u=>?_) λ_ _ f=>f.elim)) λ_ _ f=>f.elim)) λ_ _ f=>f.elim)
  cases i with|false=>exact mY ⟨O,u⟩|true=>exact mC (mC (pC u (λx y B=>mC (pC B (λ_ t E=>mY (mY ⟨O,E⟩)) λ_ _ f=>f.elim)) λ_ _ f=>f.elim))
def yCy(σ a:St):Prop:=a...*=σ...*/\∀(i:Nat) v,a[i]? =Y ↥v->σ[i]? =Y ↥v
theorem zUq{σ:St}{i:Nat}{v:Option V}(h:σ[i]? =Y none):yCy (σ.set i v) σ:=by
 refine{by simp,λj u e=>?_}
 by_cases a:i=j
 ·subst a;rw[h] at e;cases e
 ·rw[sZ a];exact e
def wG(own:C1)(F:D4)(g:TG)(o:TT)(n:TE)(σ:St)(Q:VK)(J:It)(H1:Hp):Prop:=∃W:Nat->Nat->List V->Hp->Prop,(∃m,W 0 m [] H1)/\∀i m e a,W i m e a->e...*<=i->
 (J.stop i a/\i<=V9/\∀p,a p=none->Q (.ref p) (upd a p (.lst e)))\/
 (J.go i a/\i<V9/\∃N:List V->Hp->Prop,(∀c d,N c d->∃h,h<m/\W (i+1) h c d)/\
  ∀x k,J.yld i a x k->g x (kS own F σ) k λf q=>yCy f (kS own F σ)/\o f q λb j=>if b=true then n f j λy l=>N (e++ [y]) l else N e j)
def zFb(own:C1)(F:D4)(d:TI)(g:TG)(b:TT)(a:TE):TE:=λσ H Q=>d σ H λJ c=>wG own F g b a σ Q J c
section
variable{X:Cx}{scope:Scope}{own:C1}{F:D4}{elt tg iter:Expr}{ifs:C5}{pos:Pos}{wi:TI}{g:TG}{tt:TT}{te:TE}
abbrev zR(s:V2):V2:={s with heap:=s.heap.push {cls:=.type "list",data:=.seq ([]:B7).toArray}}
theorem zJi{j:C7}{σ:St}{H:Hp}{s:V2}{Q:VK}{RR:V1->Result->V2->Prop}{it:V1}{fp:B9}{tn:Nat->V5->Prop}{J:It}(S:CompSc X scope own F)(hc:X.calm=true)
  (hg:∀C M H₃ ex,PG (yT X own F scope C M H₃ ex) tg g) (ht:∀C M H₃ ex,PTs (yT X own F scope C M H₃ ex) ifs tt) (he:∀C M H₃ ex,PE (yT X own F scope C M H₃ ex) elt te)
  (I:Inv X j σ H s) (T:zEx X.prog X.w X.K tg J fp it tn) (st:tn 0 s.heap) (hf:∀b∈fp,zBq X j H b)
  (h:wG own F g tt te σ Q J H)
  (hR:∀C s4 H4,s⁻¹<=C->C≠s⁻¹->Inv X j σ H4 s4->Q (.ref s⁻¹) H4->H4 C=none->(∃m,s4.heap.Ns C m)->RR C (.ok .next) s4):
  V8 (S5 X.prog X.w) X.A (newList []) (λacc M=>V8 (S5 X.prog X.w) X.A (newFunctionEnv scope X.env.globals (clo X.env scope.names) [] X.env.qual none .none ↥X.env) (λE s₄=>
   codeAny (S5 X.prog X.w) X.A (.compStart (.ListComp elt [{tg,iter,ifs,0}] scope pos) 0 (.ref it) acc {E with scope:=relabel scope X.env}) (λr s'=>acc= .ref s⁻¹/\RR E.locals r s') s₄) X.xe M) X.xe s:=by
 obtain⟨W,⟨m0,w0⟩,ai⟩:=h;let aa:∀b∈fp,b<s⁻¹:=λb c=>by
  obtain⟨o,e,_⟩:=T.obj _ _ st b c;exact mQ e
 refine cJ (wpAny_newFunctionEnv S.nc (by intro y hy;simp at hy) (λh₁ A D=>?_) S.kind);dsimp only at A D⊢;let ab:zR s={s with heap:=s.heap.push {cls:=.type "list",data:=.seq ([]:B7).toArray}}:=rfl;let av:(zR s)⁻¹=s⁻¹+1:=tE ..;let k3:∀b o,(zR s).heap.get? b=Y o->h₁.get? b=Y o:=λb o e=>D.extBut b o (nN (mQ e)) (mL _ e);let k2:∀b o,s.heap.get? b=Y o->(zR s).heap.get? b=Y o:=λb o e=>mL _ e;let ak:h₁.Ns (zR s)⁻¹ (λ_=>none):=by simpa using A
 let I0:Inv (yT X own F scope (zR s)⁻¹ (zR s) H (s⁻¹::fp)) [] (kS own F σ) H {zR s with heap:=h₁,toks:=(zR s).toks+([]:List (Str×V0))...*}:=zEv I S hf aa ab ak k3;let ac:h₁.get? s⁻¹=some {cls:=.type "list",data:=.seq ([]:B7).toArray 0}:=k3 _ _ (nI _ O);let ah:tn 0 h₁:=T.keep _ _ _ st λb _ o e=>k3 b o (k2 b o e);let af:codeAny (S5 X.prog X.w) X.A (.compLoop (.ListComp elt [{tg,iter,ifs,0}] scope pos) 0 (.ref it) (.ref s⁻¹) (compEnvC scope (clo X.env scope.names) (zR s)⁻¹ X.env)) (RR (zR s)⁻¹) {zR s with heap:=h₁,toks:=(zR s).toks+([]:List (Str×V0))...*}:=by
  refine zLa (λn s'=>∃i ys f a k,Inv (yT X own F scope (zR s)⁻¹ (zR s) H (s⁻¹::fp)) [] (kS own F σ) f s'/\tn i s'.heap/\(∀b∈fp,f b=none)/\f s⁻¹=none/\
   Vals ys a/\s'.heap.get? s⁻¹=some {cls:=.type "list",data:=.seq a.toArray k}/\ys...*<=i/\W i n ys f) ?_ m0 {0,[],H,[],0,I0,ah,λb c=>(hf b c).1,I.hok.fresh (mD _), .nil,ac,mD _,w0}
  intro n s5 z_;ext zY z_ i ys H5 a k z_;ext zQ z_ I5 t5 ag ar v5 z_;ext oAA z_ o5 l5 w5;let ae:Inv (yT X own F scope (zR s)⁻¹ (zR s) H (s⁻¹::fp)) [(s⁻¹,{cls:=.type "list",data:=.seq a.toArray k})] (kS own F σ) H5 s5:=I5.pins_of λp t=>by
   let z:p=(s⁻¹,{cls:=.type "list",data:=.seq a.toArray k}):=by simpa using t
   subst z;obtain⟨x1,x2⟩:=I0.ok.exf s⁻¹ mE;exact{o5,ar,x1,I0.ok.exfs _ mE,λv z=>by cases z}
  let L:∀{f:Hp},(∀b∈fp,f b=none)->∀b∈fp,zBq (yT X own F scope (zR s)⁻¹ (zR s) H (s⁻¹::fp)) [(s⁻¹,{cls:=.type "list",data:=.seq a.toArray k})] f b:=λ{f} hn b c=>by
   obtain⟨x1,x2⟩:=I0.ok.exf b (mI _ c);refine{hn b c,x1,I0.ok.exfs b (mI _ c), .inl (mI _ c),x2,λp t=>?_};let z:p=(s⁻¹,{cls:=.type "list",data:=.seq a.toArray k}):=by
    let am:p∈([]:C7)++ [(s⁻¹,{cls:=.type "list",data:=.seq a.toArray k})]:=t
    simpa using am
   subst z;exact rM (aa b c)
  rcases ai i n ys H5 w5 l5 with⟨stop,hz,q⟩|⟨go,hz,N,hN,step⟩
  ·refine thn (T.done (yT X own F scope (zR s)⁻¹ (zR s) H (s⁻¹::fp)) O O O hc i _ s5 _ H5 (λ_ _=>False) ae (L ag) t5 stop) λr s6 ⟨hr,I6⟩=>?_
   subst hr;obtain⟨a6,b6,_⟩:=I6.pin (s⁻¹,{cls:=.type "list",data:=.seq a.toArray k}) (nB _ (mF.mpr O));let J6:=I6.pins_of (pins':=[]) (λp t=>nomatch t);let I7:=uV I hf ab J6 (nP l5 hz) v5 a6 b6;let hC:H5 (zR s)⁻¹=none:=J6.free;refine hR _ s6 _ (show s⁻¹<=(zR s)⁻¹ by lia) (λz=>by let z':(zR s)⁻¹=s⁻¹:=z;lia) I7 (q _ b6) (by rw[zK (λz=>by let z':(zR s)⁻¹=s⁻¹:=z;lia)];exact hC) ?_;obtain⟨m,hn,_⟩:=J6.loc;exact⟨m,hn⟩
  ·refine thn (T.item (yT X own F scope (zR s)⁻¹ (zR s) H (s⁻¹::fp)) O O O hc i _ s5 _ H5 (λ_ _=>False) ae (L ag) t5 go) λr s6 ⟨u,hr,h6⟩=>?_
   subst hr;refine thn h6 λ_ s7 ⟨x,H7,I7,r7,y7,t7,al⟩=>?_;let J7:=I7.pinned (L al) (T.obj _ _ t7);refine thn (hg _ _ _ _ _ s7 _ H7 x u _ J7 r7 (step x H7 y7)) λ_ s8 ⟨σ8,H8,I8,wk,q8⟩=>?_;refine thn (ht _ _ _ _ _ s8 σ8 H8 _ I8 q8) λok s9 ⟨H9,I9,q9⟩=>?_;let B:∀{σ':St}{f:Hp}{s':V2},Inv (yT X own F scope (zR s)⁻¹ (zR s) H (s⁻¹::fp)) ([(s⁻¹,{cls:=.type "list",data:=.seq a.toArray k})]++gX fp s7.heap) σ' f s'->
     tn (i+1) s'.heap/\(∀b∈fp,f b=none)/\f s⁻¹=none/\s'.heap.get? s⁻¹=some {cls:=.type "list",data:=.seq a.toArray k}:=λ{σ' f s'} J=>by
    let pa:=J.pin (s⁻¹,{cls:=.type "list",data:=.seq a.toArray k}) (nB _ (nW _ (mF.mpr O)));refine⟨T.keep _ _ _ t7 λb c o e=>(J.pin (b,o) (nB _ (nB _ (qG c e)))).1,λb c=>?_,pa.2.1,pa.1⟩;obtain⟨o,e,d⟩:=T.obj _ _ t7 b c;exact(J.pin (b,o) (nB _ (nB _ (qG c e)))).2.1
   cases ok with
   |false=>
    rw[mH mX] at q9⊢;obtain⟨m',hm,w9⟩:=hN _ _ q9;refine xI (B I9) λa1 a2 a3 a4=>?_;exact{m',hm,i+1,ys,H9,a,k,(I9.pins_of (pins':=[]) (λp t=>nomatch t)).weak wk.1 wk.2,a1,a2,a3,v5,a4,sY l5,w9}
   |true=>
    rw[mJ O] at q9⊢;refine thn (he _ _ _ _ _ s9 σ8 H9 _ I9 q9) λu' w ⟨y,au,aj,an,aq⟩=>?_;obtain⟨m',hm,ap⟩:=hN _ _ aq;refine xI (B aj) λa1 a2 a3 a4=>?_;let hl:=v5...*;refine tD pU ⟨_,a4,O⟩ PySem.F.entry_list_append (PySem.F.args_list_append_2 _ _) (cI s⁻¹ a.toArray k u' (by rw[mT];lia)) {a4, ?_};let q:=PySem.IsL.update a4 (λxs:Array V0=>xs.push u');let eq:a.toArray.push u'=(a++ [u']).toArray:=by simp
    rw[eq] at q;obtain⟨x1,x2⟩:=I0.ok.exf s⁻¹ mE;let ao:=(aj.pins_of (pins':=[]) (λp t=>nomatch t)).turned (it:=s⁻¹) (t':=w.toks) (h':=w.heap.update s⁻¹ (Obj.mapSeq (λxs:Array V0=>xs.push u'))) (λb o c e=>(mZ w.heap _ (Ne.symm c)).trans e) a3 x1 (.inl mE) x2 (λp t=>absurd (show p∈([]:C7) from t) (by simp));refine{m',hm,i+1,ys++ [y],au,a++ [u'],_,ao.weak wk.1 wk.2, ?_,a2,a3,v5.append (.cons an .nil),q,by rw[mK,nM];lia,ap};exact T.keep _ _ _ a1 λb c o e=>(mZ w.heap _ (rM (aa b c))).trans e
 let l:=rX af (R':=λr s'=>Value.ref s⁻¹= .ref s⁻¹/\RR (zR s)⁻¹ r s') λr s' z=>⟨O,z⟩;exact codeAny_compStart_list l (T.self X.A 0 _ _ _ ah l)
theorem wW(S:CompSc X scope own F)(hc:X.calm=true)(t:PI X tg iter wi)
  (o:∀C s₃ H₃ ex,PG (yT X own F scope C s₃ H₃ ex) tg g) (L:∀C s₃ H₃ ex,PTs (yT X own F scope C s₃ H₃ ex) ifs tt) (he:∀C s₃ H₃ ex,PE (yT X own F scope C s₃ H₃ ex) elt te)
  (w:∀x,foldedSetIterable iter X.env x=pure x:=by intro _;rfl):PE X (.ListComp elt [{tg,iter,ifs,0}] scope pos) (zFb own F wi g tt te):=by
 intro a s σ H Q I h;rw[eval_ListComp];refine aL (use:=none) O w (jO (I.freeCells S)) S.kind S.lc ?_;refine thn (t a s σ H _ I h) λv s1 p=>thn p λaa d ⟨it,fp,tn,J,H2,e,i,T,b,z,E⟩=>?_;subst e;refine thn (zJi (Q:=Q) (RR:=λC r j=>compPost (S5 X.prog X.w) X.A X.xe none (EP X a σ Q) (.ref d⁻¹) C r j) S hc o L he i T b z E λC k l n c2 I4 A B D=>?_) λab s3 N=>thn N λf k q=>rX q λr j ⟨u,y⟩=>?_
 ·obtain⟨m,M⟩:=D
  exact{m,M,λh' c=>{.ref d⁻¹,l,zAj i n I4 B c,O,A}}
 ·rw[u];exact y
theorem zBp{i:Nat}{x:Str}{b d:Pos}(hN:X.N.Nodup)(l:X.N[i]? =Y x)(hx:Loc X.env.scope x)(S:CompSc X scope own F)(hc:X.calm=true)(N:PI X tg iter wi)
  (B:∀C s₃ H₃ ex,PG (yT X own F scope C s₃ H₃ ex) tg g) (ht:∀C s₃ H₃ ex,PTs (yT X own F scope C s₃ H₃ ex) ifs tt) (he:∀C s₃ H₃ ex,PE (yT X own F scope C s₃ H₃ ex) elt te)
  (p:S1 (.ListComp elt [{tg,iter,ifs,0}] scope pos) ↥(.Name x b) d.line X.env=pure true:=by rfl)
  (hs:∀x,foldedSetIterable iter X.env x=pure x:=by intro _;rfl) (hf:X.fn x=true\/X.env.scope.names.lookup x=some .local:=by first | exact .inl O | exact .inr O | assumption):
  PS X (.Assign [.Name x b] (.ListComp elt [{tg,iter,ifs,0}] scope pos) d) (zLx (zFb own F wi g tt te) (qU i)):=by
 intro c s σ H D I h;rw[exec_Assign_Name_used x b _ _ p];refine mC (rR (mC ?_));refine mC ?_;refine pC (Q:=λ_ f=>SP X c D .next f) ?_ (λ_ f q=>mY (mY q)) λ_ _ z=>z;refine aL (use:=Y (assign (.Name x b) X.env)) O hs (jO (I.freeCells S)) S.kind S.lc ?_;refine thn (N c s σ H _ I h) λv s1 E=>thn E λaa t ⟨it,fp,tn,J,H2,e,j,T,k,f2,q2⟩=>?_;subst e;refine thn (zJi (Q:=λx H1=>qU i x σ H1 D.nx) (RR:=λC r f=>compPost (S5 X.prog X.w) X.A X.xe ↥(assign (.Name x b) X.env) (λ_ f=>SP X c D .next f) (.ref t⁻¹) C r f) S hc B ht he j T k f2 q2 λC y A n c2 I4 q4 n4 hm=>?_) λab s3 h3=>thn h3 λw y L=>rX L λr f ⟨ea,hr⟩=>?_
 ·obtain⟨m,hn⟩:=hm
  refine cF (zCq I4 hN l hx (v:=.ref t⁻¹) O (λs5 M ⟨a,sb,ha⟩=>?_) hf);let aC:a≠C:=by
   rcases ha with z | z
   ·rw[z];exact nN (nF j.lt n)
   ·obtain⟨v,u⟩:=j.cell _ _ z
    exact nN (nF u.lt n)
  exact{m,hn.sameBut sb (Ne.symm aC),λh' o=>{_,A,zAj j n M n4 o,q4}}
 ·rw[ea];exact hr
end
abbrev _root_.C6:=List (List Nat)
inductive T where
 |non | bl (b:Bool)| int (i:Int)| str (x:List Nat)| lst (ts:List T)| dic (ks:C6) (ts:List T)| tup (ts:List T)
mutual
def Rep(H:Hp):V->T->Prop
 |v, .non=>v= .non|v, .bl b=>v= .bl b|v, .int i=>v= .int i|v, .str x=>v= .str (tx x)|v, .lst ts=>∃a c,v= .ref a/\H a=Y (.lst c)/\Reps H c ts|v, .dic e ts=>∃a d,v= .ref a/\H a=Y (.dK d)/\d.map (·.1)=e.map (λk=>(Sum.inr (tx k):Key))/\Reps H (d.map (·.2)) ts|v, .tup ts=>∃a c,v= .ref a/\H a=Y (.tup c)/\Reps H c ts
def Reps(H:Hp):List V->List T->Prop
 |vs,[]=>vs= []|vs,t::ts=>∃v r,vs=v::r/\Rep H v t/\Reps H r ts
end
abbrev _root_.B0:=List T
mutual
theorem Rep.same{H g:Hp}(e:Same H g):∀(v:V)(t:T),Rep H v t->Rep g v t
 |_, .non,h=>h|_, .bl _,h=>h|_, .int _,h=>h|_, .str _,h=>h|_, .lst ts,⟨a,d,c,b,f⟩=>{a,d,c,e _ _ b,Reps.same e d ts f}|_, .dic k ts,⟨a,i,c,b,f,j⟩=>{a,i,c,e _ _ b,f,Reps.same e _ ts j}|_, .tup ts,⟨a,d,c,b,f⟩=>{a,d,c,e _ _ b,Reps.same e d ts f}
theorem Reps.same{H a:Hp}(e:Same H a):∀(vs:B3)(ts:B0),Reps H vs ts->Reps a vs ts
 |_,[],h=>h|_,t::ts,⟨v,r,c,b,d⟩=>{v,r,c,Rep.same e v t b,Reps.same e r ts d}
end
theorem Reps.snoc{H:Hp}{v:V}{t:T}(h:Rep H v t):∀{vs:B3}{ts:B0},Reps H vs ts->Reps H (vs++ [v]) (ts++ [t])
 |_,[],e=>by
  let a:_= []:=e;subst a;exact{v,[],O,h,O}
 |_,g::ts,⟨c,r,d,b,f⟩=>by
  subst d;exact{c,r++ [v],O,b,Reps.snoc h f}
theorem Reps.length{H:Hp}:∀{vs:B3}{ts:B0},Reps H vs ts->vs...*=ts...*
 |_,[],e=>by
  let a:_= []:=e;subst a;rfl
 |_,f::ts,⟨g,r,b,d,c⟩=>by
  subst b;simp[Reps.length c]
theorem Reps.get{H:Hp}:∀{vs:B3}{ts:B0}{i:Nat}{v:V},Reps H vs ts->vs[i]? =Y v->∃t,ts[i]? =Y t/\Rep H v t
 |_,[],i,v,e,h=>by
  let f:_= []:=e;subst f;simp at h
 |_,c::ts,0,v,⟨g,r,a,b,d⟩,h=>by
  subst a;simp at h;subst h;exact⟨c,O,b⟩
 |_,c::ts,i+1,v,⟨g,r,a,b,d⟩,h=>by
  subst a;obtain⟨t,e,q⟩:=Reps.get (i:=i) (v:=v) d (by simpa using h);exact{t,by simpa using e,q}
noncomputable def tyT:T->String
 |.non=>"NoneType"|.bl _=>"bool"|.int _=>"int"|.str _=>"str"|.lst _=>"list"|.dic _ _=>"dict"|.tup _=>"tuple"
theorem Rep.ty{H:Hp}{v:V}:∀{t:T},Rep H v t->tyS H v=Y (tyT t)
 |.non,h=>by cases (show v= .non from h);rfl|.bl b,h=>by cases (show v= .bl b from h);rfl|.int i,h=>by cases (show v= .int i from h);rfl|.str x,h=>by cases (show v= .str (tx x) from h);rfl|.lst ts,h=>by obtain⟨a,d,e,c,_⟩:=h;subst e;show(match H a with | some (.lst _)=>some "list" | some (.tup _)=>some "tuple" | some (.dK _)=>some "dict" | _=>none)=_;rw[c];rfl
 |.dic ks ts,h=>by obtain⟨a,d,e,c,_⟩:=h;subst e;show(match H a with | some (.lst _)=>some "list" | some (.tup _)=>some "tuple" | some (.dK _)=>some "dict" | _=>none)=_;rw[c];rfl
 |.tup ts,h=>by obtain⟨a,d,e,c,_⟩:=h;subst e;show(match H a with | some (.lst _)=>some "list" | some (.tup _)=>some "tuple" | some (.dK _)=>some "dict" | _=>none)=_;rw[c];rfl
noncomputable def letL:List Nat:=(List.range 26).map (· +97)
noncomputable def zEu:List Nat:=(List.range 10).map (· +48)
noncomputable def zBl:List Nat:=((List.range 95).map (· +32)).filter (· !=37)
noncomputable def xA(w:List Nat):Bool:=decide (1<=w...*)&& decide (w...*<=12)&& (match w with | []=>false | c::_=>decide (c∈letL))&& w.all (λc=>decide (c∈letL++zEu))
noncomputable def zCf(w:List Nat):Bool:=decide (w...*<=30)&& w.all (λc=>decide (c∈zBl))
mutual
def Nice:Nat->T->Prop
 |_, .non=>True|_, .bl _=>True|_, .int i=>-(10 ^ 12)<=i/\i<=10 ^ 12|_, .str x=>zCf x=true|d, .lst ts=>1<=d/\ts...*<=4/\NiceL (d - 1) ts|d, .dic a ts=>1<=d/\ts...*<=4/\a...*=ts...*/\a.Nodup/\(∀k∈a,xA k=true)/\NiceL (d - 1) ts|_, .tup _=>False
def NiceL:Nat->List T->Prop
 |_,[]=>True|d,t::ts=>Nice d t/\NiceL d ts
end
theorem NiceL.snoc{d:Nat}{t:T}(h:Nice d t):∀{ts:B0},NiceL d ts->NiceL d (ts++ [t])
 |[],_=>⟨h,trivial⟩|_::ts,⟨a,b⟩=>{a,NiceL.snoc h b}
theorem zF{H:Hp}{p:V1}(h:H p=none)(o:HO):Same H (upd H p o):=λb u q=>by rw[zK (yD q h)];exact q
section
variable{K:A6}{H:Hp}{Q:VK}{a b:V1}{xs ys:B3}
theorem yDw{c:Bool}(g:SqL K H a xs)(e:SqL K H b ys)(f:xs.all uL=true)(d:ys.all uL=true)(q:Q (.bl (if c then !zFn xs ys else zFn xs ys)) H):rEqL K c (.ref a) (.ref b) H Q:=
 ⟨a,b,xs,ys,O,O,g,e,f,d,q⟩
theorem yG{i:Int}{v:V}(c:SqL K H a xs)(d:atI xs i=Y v)(q:Q v H):zXc K (.ref a) (.int i) H Q:=⟨a,xs,i,v,O,O,c,d,q⟩
theorem wU{i:Int}{v:V}(c:SqT K H a xs)(d:atI xs i=Y v)(q:Q v H):zTz K (.ref a) (.int i) H Q:=⟨a,xs,i,v,O,O,c,d,q⟩
theorem zCk{z:Str}{i:Int}{c:Nat}(d:z...*<=V9)(e:atI (ts z) i=Y c)(q:Q (.str (tx [c])) H):rIxS (.str z) (.int i) H Q:=⟨z,i,c,O,O,d,e,q⟩
end
theorem uH{α:Type}{xs:List α}{i:Int}(b:0<=i)(c:i<xs...*):∃v,atI xs i=Y v/\v∈xs:=by
 obtain⟨j,rfl⟩:=sQ b;let a:j<xs...*:=by lia
 exact{xs[j],yC (by simp[a]),bB a}
theorem zVl{α:Type}{xs:List α}{i:Int}{d:α}(b:0<=i)(c:i<xs...*):atI xs i=Y (xs.getD i.toNat d):=by
 obtain⟨j,rfl⟩:=sQ b;let a:j<xs...*:=by lia
 refine yC ?_;simp[List.getD,a]
theorem zDm{x:Str}{F:D4}{J:It}{n:Nat}{j:TT}{h:TE}{σ:St}{Q:VK}{H1:Hp}(Pv:Nat->List V->Hp->Prop)(o:n<=V9)(r:Pv 0 [] H1)(f:∀i a H,i<n->Pv i a H->J.go i H)
  (g:∀a H,Pv n a H->J.stop n H)
  (u:∀i a H y d,i<n->a...*<=i->Pv i a H->J.yld i H y d->j (Y y::F.map (λp=>(σ[p.2]?).join)) d λb H3=>if b=true then h (Y y::F.map (λp=>(σ[p.2]?).join)) H3 λz H4=>Pv (i+1) (a++ [z]) H4 else Pv (i+1) a H3)
  (l:∀a H,a...*<=n->Pv n a H->∀p,H p=none->Q (.ref p) (upd H p (.lst a))):wG [x] F (qU 0) j h σ Q J H1:=by
 refine{λi m a H=>m=n - i/\i<=n/\Pv i a H,{n,by simp,nL _,r}, ?_};rintro i m a H ⟨rfl,w,p⟩ k
 by_cases c:i<n
 ·refine .inr {f i a H c p,∅,Pv (i+1),λt v q=>{n - (i+1),∅,O,c,q},λy d s=>?_}
  exact{zUq (i:=0) O,u i a H y d c k p s}
 ·let e:i=n:=by lia
  subst e;exact .inl {g a H p,o,l a H k p}
theorem zAv{x:Str}{F:D4}{lo:Int}{n:Nat}{b:TE}{σ:St}{Q:VK}{H1:Hp}(Pv:Nat->List V->Hp->Prop)(e:n<=V9)(g:Pv 0 [] H1)
  (l:∀(i:Nat) a H,i<n->a...*<=i->Pv i a H->b (Y (.int (lo+i))::F.map (λp=>(σ[p.2]?).join)) H λz H4=>Pv (i+1) (a++ [z]) H4)
  (d:∀a H,a...*<=n->Pv n a H->∀p,H p=none->Q (.ref p) (upd H p (.lst a))):wG [x] F (qU 0) zCz b σ Q (Itr lo n) H1:=
 zDm Pv e g (λi _ _ h _=>h) (λ_ _ _=>mD _) (λi a H y m k c f j=>by
  obtain⟨rfl,rfl⟩:=j;exact l i a _ k c f) d
theorem zIq{x:Str}{F:D4}{w:Str}{e:TT}{d:TE}{σ:St}{Q:VK}{H1:Hp}(Pv:Nat->List V->Hp->Prop)(j:(ts w)...*<=V9)(l:Pv 0 [] H1)
  (o:∀i c a H,(ts w)[i]? =Y c->a...*<=i->Pv i a H->e (Y (.str (tx [c]))::F.map (λp=>(σ[p.2]?).join)) H λb H3=>if b=true then d (Y (.str (tx [c]))::F.map (λp=>(σ[p.2]?).join)) H3 λz H4=>Pv (i+1) (a++ [z]) H4 else Pv (i+1) a H3)
  (g:∀a H,a...*<=(ts w)...*->Pv (ts w)...* a H->∀p,H p=none->Q (.ref p) (upd H p (.lst a))):wG [x] F (qU 0) e d σ Q (Its w) H1:=
 zDm Pv j l (λi _ _ h _=>h) (λ_ _ _=>mD _) (λi a H y r q f k n=>by
  obtain⟨rfl,c,m,rfl⟩:=n;exact o i c a _ m f k) g
section
variable{X:Cx}{x:Str}{pos:Pos}
theorem yAm{z:Str}(b:Gl X x)(h:∃t,X.mg x=Y (.str z t))(a:(x==("__debug__" :Str))=false:=by decide):PE X (.Name x pos) (tC (.str z)):=by
 obtain⟨t,h⟩:=h;exact zNx b h ⟨t,O⟩ a
theorem zEb{z:Int}(b:Gl X x)(h:∃t,X.mg x=Y (.int z t))(a:(x==("__debug__" :Str))=false:=by decide):PE X (.Name x pos) (tC (.int z)):=by
 obtain⟨t,h⟩:=h;exact zNx b h ⟨t,O⟩ a
end
theorem yBl{CX:CXT}{P:V3}{w:V4}{K:A6}{e:C8}{base:V5}{N:C1}{c:Str}{a:Scope}{f:V1}{d:V0}{A:Around}{b:List S7}{s:V2}{H:Hp}{E:XK}:(zBi CX P w K e base N c a f d A b s H E).K=K:=rfl
theorem nox_K{X:Cx}:X.nox.K=X.K:=rfl
theorem zTy{X:Cx}{own:C1}{F:D4}{a:Scope}{C:V1}{b:V2}{c:Hp}{d:B9}:(yT X own F a C b c d).K=X.K:=rfl
theorem zPv(a:List Int):(a.map V.int).all uL=true:=by
 rw[aK];exact pW.mpr λ_ _=>O
theorem zUf(xs:B3):zFn xs []=xs.isEmpty:=by cases xs<;>rfl
end L2
namespace L2
theorem zRw:Int.natAbs 10=10:=rfl
end L2
namespace L2
open PySem PySem.Spec PyProof.Rows
def zRj(g:TG)(tb:TS)(D:gB)(σ:St)(J:It)(H1:Hp):Prop:=∃W:Nat->Nat->St->Hp->Prop,(∃m,W 0 m σ H1)/\∀i m σ H,W i m σ H->
 (J.stop i H/\D.nx σ H)\/(J.go i H/\∃N:St->Hp->Prop,(∀b a,N b a->∃c,c<m/\W (i+1) c b a)/\∀x a,J.yld i H x a->g x σ a λd e=>tb {D with nx:=N,ct:=N,bk:=D.nx} d e)
theorem zXe(a:TI)(g:TG)(tb:TS)(D:gB)(σ:St)(H:Hp):tFor a g tb D σ H=a σ H λJ H1=>zRj g tb D σ J H1:=rfl
theorem gT{lo:Int}{n:Nat}{g:TG}{tb:TS}{D:gB}{σ:St}{H:Hp}(Pv:Nat->St->Hp->Prop)(c:Pv 0 σ H)
  (b:∀i σ H,i<n->Pv i σ H->g (.int (lo+i)) σ H λσ2 H2=>tb {D with nx:=Pv (i+1),ct:=Pv (i+1),bk:=D.nx} σ2 H2) (a:∀σ H,Pv n σ H->D.nx σ H):zRj g tb D σ (Itr lo n) H:=zQi Pv c b a
theorem kM{K:A6}{a:V1}{xs:B3}{g:TG}{tb:TS}{D:gB}{σ:St}{H:Hp}(Pv:Nat->St->Hp->Prop)(e:Pv 0 σ H)(c:∀i σ H,i<=xs...*->Pv i σ H->SqL K H a xs)
  (d:∀i x σ H,xs[i]? =Y x->Pv i σ H->g x σ H λσ2 H2=>tb {D with nx:=Pv (i+1),ct:=Pv (i+1),bk:=D.nx} σ2 H2) (b:∀σ H,Pv xs...* σ H->D.nx σ H):zRj g tb D σ (Itl K a) H:=zUm Pv e c d b
section
variable{X:Cx}
theorem xX:wP X (.type "int") (λxs H Q=>∃k,xs= [.bl k]/\Q (.int (if k then 1 else 0)) H):=λa s σ H xs b Q I r h=>zQo a s σ H xs b Q I r (.inr h)
theorem yA:wP X (.builtin "len") (λxs H Q=>∃p,xs= [.ref p]/\∃ys,SqL X.K H p ys/\Q (.int ys...*) H):=λa s σ H xs b Q I r ⟨p,e,ys,h,q⟩=>zAw a s σ H xs b Q I r {p,ys,e, .inl h,q}
end
abbrev nK(k:List Nat):Key:=Sum.inr (tx k)
theorem zBv{a b:List Nat}(h:nK a=nK b):a=b:=by
 let e:tx a=tx b:=Sum.inr.inj h;rw[<-vJ a,e,vJ]
theorem Reps.repl{H:Hp}{k:Key}{v:V}{t:T}(i:Rep H v t):∀{ps:D0}{ts:B0},Reps H (ps.map (·.2)) ts->∃a,Reps H ((ps.map λkv=>if kv.1=k then(kv.1,v) else kv).map (·.2)) a/\a...*=ts...*/\∀u∈a,u∈ts\/u=t
 |[],ts,h=>{ts,h,O,λu m=>.inl m}|p::ps,[],h=>by
  let x:(p::ps).map (·.2)= []:=h;cases x
 |p::ps,u::ts,⟨s,r,e,w,j⟩=>by
  let n:p.2::ps.map (·.2)=s::r:=e;injection n with o l;subst o l;obtain⟨a,c,g,d⟩:=Reps.repl i j
  by_cases f:p.1=k
  ·refine{t::a,{v,_, ?_,i,c},by simp[g],λz b=>?_}
   ·rw[nD,mJ f,nD]
   ·rcases mG.mp b with q | q
    ·exact .inr q
    ·exact(d z q).imp (mI _) id
  ·refine{u::a,{p.2,_, ?_,w,c},by simp[g],λz b=>?_}
   ·rw[nD,mH f,nD]
   ·rcases mG.mp b with q | q
    ·exact .inl (by rw[q];exact mE)
    ·exact(d z q).imp (mI _) id
theorem zWu{H:Hp}{ps:D0}{ks:C6}{ts:B0}{n:List Nat}{v:V}{t:T}(c:ps.map (·.1)=ks.map nK)(g:Reps H (ps.map (·.2)) ts)(f:ks.Nodup)(i:Rep H v t):
  ∃(b:C6)(a:B0),(vQ ps (nK n) v).map (·.1)=b.map nK/\Reps H ((vQ ps (nK n) v).map (·.2)) a/\b.Nodup/\(∀k∈b,k∈ks\/k=n)/\(∀u∈a,u∈ts\/u=t)/\b...*<=ks...*+1:=by
 unfold vQ
 by_cases h:(ps.any λm=>decide (m.1=nK n))=true
 ·rw[mJ h]
  refine yX (Reps.repl (k:=nK n) i g) λa j w o=>?_;refine{ks,a, ?_,j,f,λk c=>.inl c,o,pP _};rw[<-c,sC];apply rK;intro p _;show(if p.1=nK n then(p.1,v) else p).1=p.1;split<;>rfl
 ·rw[mH h]
  refine{ks++ [n],ts++ [t],by rw[nH,c,nH];rfl,by rw[nH];exact Reps.snoc i g, ?_,λk c=>?_,λu r=>?_,by simp}
  ·refine zPa f λl=>h (cL.mpr ?_)
   let d:nK n∈ps.map (·.1):=by rw[c];exact nZ.mpr ⟨n,l,O⟩
   obtain⟨p,s,e⟩:=nZ.mp d;exact{p,s,nO e}
  ·rcases nE.mp c with q | q
   ·exact .inl q
   ·exact .inr (mF.mp q)
  ·rcases nE.mp r with q | q
   ·exact .inl q
   ·exact .inr (mF.mp q)
theorem NiceL_iff{d:Nat}:∀{ts:B0},NiceL d ts↔∀t∈ts,Nice d t
 |[]=>{λ_ _ h=>(nomatch h),λ_=>trivial}|u::ts=>by
  show(Nice d u/\NiceL d ts)↔_;rw[NiceL_iff (ts:=ts)];exact{λh t a=>(mG.mp a).elim (λe=>e▸h.1) (h.2 t),λh=>{h u mE,λt a=>h t (mI _ a)}}
theorem zHw:ts (A5 "abcdefghijklmnopqrstuvwxyz0123456789")=letL++zEu:=by decide+kernel
theorem yDb:ts (A5 "abcdefghijklmnopqrstuvwxyz")=letL:=by decide+kernel
theorem ts_a:ts (A5 "a")= [97]:=by decide+kernel
theorem ts_q:ts (A5 "'")= [39]:=by decide+kernel
theorem zWq:A5 "" =tx []:=by decide+kernel
theorem zDb(c k:Nat):(List.replicate k [c]).flatten=List.replicate k c:=by
 induction k with|zero=>rfl|succ k a=>rw[rB,sB,a,rB];rfl
theorem zFq{w:List Nat}(e:w...*<=12)(f:∃c r,w=c::r/\c∈letL)(d:∀c∈w,c∈letL++zEu):xA w=true:=by
 ext wB f c r a b;subst a;unfold xA;simp only[nX,pO,pW];exact{{{by simp,e},b},d}
theorem zFp{w:List Nat}(b:w...*<=30)(a:∀c∈w,c∈zBl):zCf w=true:=by
 unfold zCf;simp only[nX,pO,pW];exact⟨b,a⟩
theorem yCj{i:Int}(a:0<=i)(b:i<36):∃c,atI (letL++zEu) i=Y c/\c∈letL++zEu:=uH a (by show i<((36:Nat):Int);lia)
theorem zSq{i:Int}(d:0<=i)(e:i<26):∃c,atI (letL++zEu) i=Y c/\c∈letL:=by
 obtain⟨j,rfl⟩:=sQ d;let b:j<26:=by lia
 let a:j<letL...*:=b;refine{letL[j],yC (by rw[pB a];simp[a]),bB a}
theorem zLu:97∈letL:=by decide
theorem zBo{c:Nat}(h:c∈letL):c∈letL++zEu:=nW _ h
end L2
namespace L2
end L2
namespace L2
open PySem PySem.Spec PyProof.Rows
theorem yBo:A5 " !\"#$&'()*+,-./0123456789:;<=>?@ABCDEFGHIJKLMNOPQRSTUVWXYZ[\\]^_`" ++A5 "abcdefghijklmnopqrstuvwxyz{|}~" =tx zBl:=by decide+kernel
theorem yCv:39∈zBl:=by decide
theorem zWj{i:Int}(a:0<=i)(b:i<94):∃c,atI zBl i=Y c/\c∈zBl:=uH a (by show i<((94:Nat):Int);lia)
theorem zJv(cs:List Nat):((cs.map λc=>tx [c]).map ts).flatten=cs:=by
 induction cs with|nil=>rfl|cons d r a=>simp only[nD,sB,a,vJ];rfl
theorem HOk.sim{P:V3}{w:V4}{H i:Hp}{h:V5}(j:HOk P w H h)(l:∀b a,H b=Y (.own a)->i b=Y (.own a))(k:∀b d,H b=Y (.tup d)->i b=Y (.tup d))
  (m:∀b u,i b=Y u->H b=Y u\/(∃o,H b=Y (.frz o u))\/∃o f,u= .frz o f/\H b=Y f/\h.get? b=Y o):HOk P w i h:=λb u e=>by
 rcases m b u e with q |⟨o,q⟩|⟨o,f,rfl,q,g⟩
 ·exact(j b u q).stay (λ_ _ _ z=>z) (λc z=>l c b z) λc d z=>k c d z
 ·obtain⟨_,z⟩:=(show ObjOk P w H h b (.frz o u) from j b _ q)
  exact z.stay (λ_ _ _ z=>z) (λc z=>l c b z) λc d z=>k c d z
 ·exact{g,(j b f q).stay (λ_ _ _ z=>z) (λc z=>l c b z) λc d z=>k c d z}
section
variable{X:Cx}{pins:C7}{σ σ':St}{H H':Hp}{s s':V2}
theorem Inv.sim(I:Inv X pins σ H s)(h:∀b,H b=none->H' b=none)(j:∀b a,H b=Y (.own a)->H' b=Y (.own a))(i:∀b f,H b=Y (.tup f)->H' b=Y (.tup f))
  (t:∀b g,H b=Y (.tbl g)->H' b=Y (.tbl g)) (r:∀b o u,X.H₀ b=Y (.frz o u)->H' b=Y (.frz o u))
  (v:∀b u,H' b=Y u->H b=Y u\/(∃o,H b=Y (.frz o u))\/∃o u',u= .frz o u'/\H b=Y u'/\s.heap.get? b=Y o):Inv X pins σ H' s:=
 {I.ok,I.os,I.bare,{I.base.keep,I.base.slot,λb o e n k=>h b (I.base.free b o e n k),I.base.there,λb f e=>i b f (I.base.tups b f e),r,λb g e=>by
  obtain⟨m,q⟩:=I.base.tbls b g e;exact{m,t b _ q}},I.loc,I.cell,h _ I.free,λx c e=>h _ (I.freeC x c e),λp l=>by
  refine vS (I.pin p l) λa b c d e=>?_;exact{a,h _ b,c,d,e},I.hok.sim j i v,I.len}
theorem Inv.freeze{d:V1}{kvs:D0}{o:Obj}(I:Inv X pins σ H s)(h:H d=Y (.dK kvs))(i:s.heap.get? d=Y o):Inv X pins σ (upd H d (.frz o (.dK kvs))) s:=by
 let c:∀b u,H b=u->u≠Y (.dK kvs)->b≠d:=λb u e n z=>by subst z;exact n (e.symm.trans h)
 refine I.sim (λb e=>by rw[zK (c b _ e (by intro z;cases z))];exact e) (λb a e=>by rw[zK (c b _ e (by intro z;cases z))];exact e) (λb a e=>by rw[zK (c b _ e (by intro z;cases z))];exact e)
  (λb a e=>by rw[zK (c b _ e (by intro z;cases z))];exact e) (λb j u e=>?_) λb u e=>?_
 ·let f:=I.base.frzs b j u e
  rw[zK (c b _ f (by intro z;cases z))];exact f
 ·by_cases g:b=d
  ·subst g
   rw[zC] at e;cases e;exact .inr (.inr ⟨o,_,O,h,i⟩)
  ·rw[zK g] at e;exact .inl e
def thaw(H H':Hp):Hp:=λb=>match H b with
 |some (.frz _ _)=>H' b|_=>match H' b with
  |some (.frz _ u)=>Y u|y=>y
theorem zKq{b:V1}{o:Obj}{u:HO}(h:H b=Y (.frz o u)):thaw H H' b=H' b:=by unfold thaw;rw[h]
theorem zGn{b:V1}(h:H' b=none):thaw H H' b=none:=by unfold thaw;rw[h];split<;>rfl
theorem wX{b:V1}{u:HO}(h:H' b=Y u)(n:∀o v,u≠ .frz o v):thaw H H' b=Y u:=by
 unfold thaw;rw[h];split
 ·rfl
 ·cases u<;>first | rfl | exact absurd O (n _ _)
theorem zXb{b:V1}{o:Obj}{u:HO}(h:H' b=Y (.frz o u))(n:∀o v,H b≠Y (.frz o v)):thaw H H' b=Y u:=by
 unfold thaw;rw[h]
 cases e:H b with
 |none=>rfl|some v=>cases v<;>first | rfl | exact absurd e (n _ _)
theorem zRt{b:V1}{u:HO}(h:thaw H H' b=Y u):H' b=Y u\/∃o,H' b=Y (.frz o u):=by
 unfold thaw at h;split at h
 ·exact .inl h
 ·split at h
  ·rename_i o v e
   cases h;exact .inr ⟨_,e⟩
  ·exact .inl h
theorem Inv.thaw(I:Inv X pins σ H s)(J:Inv X pins σ' H' s'):Inv X pins σ' (thaw H H') s':=
 J.sim (λb e=>zGn e) (λb a e=>wX e (by intro o v z;cases z)) (λb a e=>wX e (by intro o v z;cases z)) (λb a e=>wX e (by intro o v z;cases z))
  (λb o u e=>by rw[zKq (I.base.frzs b o u e)];exact J.base.frzs b o u e) λb u e=>(zRt e).imp id .inl
theorem zGk{H H':Hp}(h:∀b u,H b=Y u->H' b=Y u\/((∃o,H' b=Y (.frz o u))/\∀o v,u≠ .frz o v)):Same H (L2.thaw H H'):=λb u e=>by
 rcases h b u e with q |⟨⟨o,q⟩,n⟩
 ·cases u with|frz o v=>rw[zKq e];exact q|_=>exact wX q (by intro o v z;cases z)
 ·refine zXb q λa v z=>?_
  rw[e] at z;cases z;exact n _ _ O
def zUd(t:TE):TE:=λσ H Q=>t σ H λv H'=>Q v (thaw H H')
theorem zHq{e:Expr}{t:TE}(h:PE X e t):PE X e (zUd t):=by
 intro pins s σ H Q I q;refine thn (h pins s σ H _ I q) λu d ⟨v,c,a,r,b⟩=>{v,_,I.thaw a,r,b}
end
theorem KV.get{κ:Type}:∀{kvs:List (κ×V)}{vs:List (κ×V0)}{i:Nat}{kv:κ×V},KV kvs vs->kvs[i]? =Y kv->∃q,vs[i]? =Y q/\kv.1=q.1/\RelV kv.2 q.2
 |_,_,_,_, .nil,e=>by simp at e|_,_,0,_, .cons r _,e=>by simp at e;subst e;exact⟨_,O,r⟩|_,_,i+1,x, .cons _ t,e=>by
  obtain⟨u,b,a⟩:=KV.get (i:=i) (kv:=x) t (by simpa using e);exact{u,by simpa using b,a}
theorem zHm{P:V3}{w:V4}{k:Key}{u:V0}(h:(yW P w).is k u=true):RelV (kV k) u:=by
 rcases xQ (show zFg k u=true from h) with⟨i,t,rfl,rfl⟩|⟨x,t,rfl,rfl⟩
 ·exact⟨t,O⟩
 ·exact⟨t,O⟩
theorem zAa{P:V3}{w:V4}{H:Hp}{h:V5}{d:V1}{o:Obj}{kvs:D0}{i:Array DictEntry}{ep:Nat}(l:HOk P w H h)(e:H d=Y (.frz o (.dK kvs)))(f:o.data= .dict i ep):
  ∃vs,KV kvs vs/\h.DictAt (yW P w) d vs ep/\(d==A4)=false/\kvs...*<=V9:=by
 obtain⟨g,z,m,vs,b,p,n,k,j,c,a,r⟩:=(show ObjOk P w H h d (.frz o (.dK kvs)) from l d _ e);rw[g] at j;cases j;rw[f] at a;cases a;exact{vs,b,⟨o,i,g,c,f,r⟩,m,z}
def Itd(d:V1)(o:Obj)(kvs:D0):It:=
 ⟨λi H=>i<kvs...*/\H d=Y (.frz o (.dK kvs)),λi H y b=>b=H/\∃a,kvs[i]? =Y a/\y=kV a.1,λi H=>kvs...*<=i/\H d=Y (.frz o (.dK kvs))⟩
theorem zQn{P:V3}{w:V4}{K:A6}{tg:Expr}(d it:V1)(o:Obj)(kvs:D0):zEx P w K tg (Itd d o kvs) [it] it (λi h=>∃l ep,o.data= .dict l ep/\h.IsKeyIter it d i kvs...* ep) where
 mem:=by simp
 obj:=λi h st b n=>by
  obtain⟨l,ep,_,u,e,c,J⟩:=st;let e':b=it:=by simpa using n
  subst e';exact{u,e,λv z=>by rw[J] at z;cases z}
 keep:=λi h A st k=>by
  ext wB st l ep a st;exact{l,ep,a,st.at λu e=>k it (by simp) u e}
 item:=by
  intro X hP hw hK hc i j s σ H E I y st m;subst hP hw hK;ext wB st l ep g st;obtain⟨hi,m⟩:=m;refine qD (zAa I.hok m g) λvs f hm _ _=>?_;refine zQ (y it (by simp)) λf0 Q f2 L N M=>?_;let x:=f...*;obtain⟨t,p⟩:∃t,kvs[i]? =Y t:={kvs[i],by simp[hi]};refine yX (KV.get f p) λq hq B aa=>?_;rw[x] at st;refine wpAny_pyNext_dict_item (k:=q.1) (v:=q.2) st hm hq λD A hk r sb=>?_;let I1:Inv X j σ H {s with heap:=A}:=I.turned (t':=s.toks) (λb o n e=>(sb.2 b n).trans e) f0 Q L N M;refine yX (id r) λu e c J=>?_;exact{D,O,zIx (s:={s with heap:=A}) e c J ∎ {kV t.1,H,I1,by rw[B];exact zHm hk,⟨O,t,p,O⟩,{l,ep,g,by rw[x];exact r},λb n=>(y b n).1}}
 done:=by
  intro X hP hw hK hc i j s σ H E I y st m;subst hP hw hK;ext wB st l ep g st;obtain⟨hi,m⟩:=m;refine qD (zAa I.hok m g) λvs f hm _ _=>?_;refine zQ (y it (by simp)) λf0 Q f2 L N M=>?_;let x:=f...*;rw[x] at st;exact wpAny_pyNext_dict_end (I.ok.hd hc) st hm (by simp;lia) λA eb=>{O,I.turned (t':=s.toks) (λb o n e=>eb b o n e) f0 Q L N M}
 self:=λ_ _ _ _ _ st h=>by
  ext wB st l ep _ st;exact wpAny_pyIter_keyiter st h
def zSh(c:TE):TI:=λσ H R=>c σ H λx b=>∃d a,x= .ref d/\((b d=Y (.dK a)/\∀o,R (Itd d o a) (upd b d (.frz o (.dK a))))\/∃o,b d=Y (.frz o (.dK a))/\R (Itd d o a) b)
section
variable{X:Cx}
theorem zPh{B l:Expr}{E:TE}(hl:PE X l E):PI X B l (zSh E):=by
 intro a s σ H R I h;refine thn (hl a s σ H _ I h) λv i ⟨x,Q,A,L,N⟩=>?_;ext wB N d f u q;subst u;cases L;let n:∀o k,Inv X a σ k i->k d=Y (.frz o (.dK f))->R (Itd d o f) k->V8 (S5 X.prog X.w) X.A (pyIter (.ref d)) (PIE X a σ B R) X.xe i:=λo k t e q=>by
  obtain⟨g,z,D,J,m,o',y,w,p,c,j,r⟩:=(show ObjOk X.prog X.w k i.heap d (.frz o (.dK f)) from t.hok d _ e);rw[g] at p;cases p;let hm:i.heap.DictAt (yW X.prog X.w) d J w:=⟨o,y,g,c,j,r⟩;refine wpAny_pyIter_dict D hm ?_;refine⟨i⁻¹,[i⁻¹],_,_,k,O,t.kept (t':=i.toks) λb o e=>mL _ e,zQn d _ o f,⟨y,w,j,_,nI _ rfl,rfl,by rw[m...*];rfl⟩,λb M=>?_,q⟩;let e:b=i⁻¹:=by simpa using M
  subst e;exact t.fpOk (mD _) (t.hok.fresh (mD _))
 rcases q with⟨e,q⟩|⟨o,e,q⟩
 ·obtain⟨z,D,J,m,o,y,w,p,_⟩:=(show ObjOk X.prog X.w Q i.heap d (.dK f) from A.hok d _ e)
  exact n o _ (A.freeze e p) zC (q o)
 ·exact n o _ A e q
theorem zGt{x:Str}{F:D4}{d:V1}{o:Obj}{kvs:D0}{g:TT}{f:TE}{σ:St}{Q:VK}{H1:Hp}(Pv:Nat->List V->Hp->Prop)(l:kvs...*<=V9)(n:Pv 0 [] H1)(hz:∀i a H,Pv i a H->H d=Y (.frz o (.dK kvs)))
  (r:∀i c a H,kvs[i]? =Y c->a...*<=i->Pv i a H->g (Y (kV c.1)::F.map (λp=>(σ[p.2]?).join)) H λb H3=>if b=true then f (Y (kV c.1)::F.map (λp=>(σ[p.2]?).join)) H3 λz H4=>Pv (i+1) (a++ [z]) H4 else Pv (i+1) a H3)
  (k:∀a H,a...*<=kvs...*->Pv kvs...* a H->∀p,H p=none->Q (.ref p) (upd H p (.lst a))):wG [x] F (qU 0) g f σ Q (Itd d o kvs) H1:=
 zDm Pv l n (λi a H h p=>{h,hz i a H p}) (λa H p=>{mD _,hz _ a H p}) (λi a H y t s j m q=>by
  obtain⟨rfl,c,e,rfl⟩:=q;exact r i c a _ e j m) k
theorem qL{K:A6}{x:Str}{F:D4}{a:V1}{xs:B3}{e:TT}{d:TE}{σ:St}{Q:VK}{H1:Hp}(Pv:Nat->List V->Hp->Prop)(k:xs...*<=V9)(l:Pv 0 [] H1)(hz:∀i c H,i<=xs...*->Pv i c H->SqL K H a xs)
  (q:∀i v c H,xs[i]? =Y v->c...*<=i->Pv i c H->e (Y v::F.map (λp=>(σ[p.2]?).join)) H λb H3=>if b=true then d (Y v::F.map (λp=>(σ[p.2]?).join)) H3 λz H4=>Pv (i+1) (c++ [z]) H4 else Pv (i+1) c H3)
  (j:∀c H,c...*<=xs...*->Pv xs...* c H->∀p,H p=none->Q (.ref p) (upd H p (.lst c))):wG [x] F (qU 0) e d σ Q (Itl K a) H1:=
 zDm Pv k l (λi c H h p=>{xs,xs[i],hz i c H (tG h) p,by simp[h]}) (λc H p=>{xs,hz _ c H (mD _) p,mD _}) (λi c H y r o g f n=>by
  obtain⟨rfl,m⟩:=n;exact q i y c _ (m xs (hz i c _ (tG o) f)) g f) j
noncomputable def zIr(p d:V1):HO:=.ext λh=>h.IsValuesView p d
theorem zPb{κ:Type}:∀{kvs:List (κ×V)}{vs:List (κ×V0)},KV kvs vs->Vals (kvs.map (·.2)) (vs.map (·.2))
 |_,_, .nil=>.nil|_,_, .cons r t=>.cons r.2 (zPb t)
def zTx:V->List V->Hp->VK->Prop:=λx b H Q=>∃d a,x= .ref d/\b= []/\Rd H d (.dK a)/\∀p,H p=none->Q (.ref p) (upd H p (zIr p d))
theorem zQv:MtR X "dict.values" zTx:=by
 intro g s σ H x A v w Q I m l h;ext zX h d p a c n q;subst a c;cases m;cases l;obtain⟨z,j,i,t,f⟩:=kK I.hok n;refine call_meetsIn PySem.F.slot_dict_values f.typeIs PySem.F.entry_dict_values (PySem.F.args_dict_values_1 _) (meets_dict_values (yW X.prog X.w) d j) {⟨i,f⟩, ?_};refine{.ref s⁻¹,_,I.laid (t':=s.toks) (λb o e=>mL _ e) (mD _) (o:=zIr s⁻¹ d) ?_,O,q _ (I.hok.fresh (mD _))};exact⟨{_,nI _ O,O,O},{_,nI _ O},λy u ⟨o,e,r⟩ k=>⟨o,k o e,r⟩⟩
theorem zJt(E:X.calm=true):wP X (.type "list") (λxs H Q=>∃p d kvs,xs= [.ref p]/\H p=Y (zIr p d)/\Rd H d (.dK kvs)/\∀l,H l=none->Q (.ref l) (upd H l (.lst (kvs.map (·.2))))):=by
 intro g s σ H xs us Q I r h;ext zZ h p d kvs c J B;ext oA B L q;subst c;obtain⟨u,rfl,D⟩:=jR r;cases D;obtain⟨z,M,k,b,w⟩:=kK I.hok L;obtain⟨A,_⟩:=(show ObjOk X.prog X.w H s.heap p (zIr p d) from I.hok p _ J);obtain⟨t,f⟩:=w.dictAt;let N:=b...*;refine W.kdl_call (W.kdl_values (knd:=yW X.prog X.w) (kvs:=k) (ep:=t)) (I.ok.hd E) ⟨A,f⟩ ∅ λh' n a m x y i=>?_;refine{.ref s⁻¹,_,I.laid (t':=n) x (mD _) (o:=.lst (kvs.map (·.2))) ?_,O,q _ (I.hok.fresh (mD _))};let e:a.toList=k.map (·.2):=W.kdl_vals_eq a.toList (by rw[tI];exact i.1) (λj v e=>i.2 j v (by rw[<-sE];exact e));exact{by rw[mM];exact z,a.toList,m,by rw[e];exact zPb b,by simpa using y}
end
theorem zHb:typeLookup (.type "list") "keys" =pure none:=am_miss_of_fast (by decide+kernel)
theorem zAd:entryFor table "dict.update.loop" =some Builtin.«dict.update.loop»:=entryFor_of_tree (by kernel_rfl)
theorem qN:plainId "dict.update.loop" =true:=by decide+kernel
section
variable{prog:V3}{w:V4}{A:Around}{E:C9}
theorem zRl{s:V2}{a:V1}{xs:Array V0}{k:Nat}{name:Str}{Q:Option V0->V2->Prop}
  (p:s.heap.get? a=some {cls:=.type "list",dict:=none,data:=.seq xs k,slots:=#[]}) (c:typeLookup (.type "list") name=pure none) (f:(["__module__","__name__","__qualname__","__doc__","__annotations__"]:C1).contains name=false) (r:A.handled=none)
  (h:∀l n,(∀b o,s.heap.get? b=Y o->l.get? b=Y o)->Q none {s with heap:=l,toks:=n}) (hsz:name...*+100<=V9:=by size_fits):
  V8 (S5 prog w) A (getAttr? (.ref a) name) Q E s:=by
 obtain⟨q,g,d,n,os⟩:=s;let m:∀i,(⟨q,g,d,i,os⟩:V2).TypeIs (.ref a) "list":=λ_=>⟨_,p,O⟩;let B:=sub_AttributeError;let v:=F.slot_list_getattribute.lookup;let z:=F.slot_list_getattribute.bind (.ref a);let x:=am_list_getattr_none;unfold getAttr? getAttrBy? getAttrBy
 repeat (any_goals (first | assumption | exact m _ |((with_reducible show V8 _ _ (call (Value.builtin "list.__getattribute__") _ _) _ _ _);refine tD F.slot_list_getattribute (m _) am_entry_list_getattribute (F.args_list_getattribute_2 _ _) (meets_getattribute_miss_list a xs k #[] name _ c f hsz) {p,r,λl i e j=>?_})| wp_step))
 refine oEE (j.there) λy t u=>?_;show V8 _ _ (getattributeRaised _ _ _ _ _ _ _) _ _ _;unfold getattributeRaised
 repeat (any_goals (first | assumption | wp_step))
 exact h l i λb o e=>j.keeps b o e
theorem zXo{κ:Type} [DecidableEq κ] (knd:KeyKind prog w κ) (hh:A.handled=none) {d it l:V1} {items:Array V0} {ps:List (κ×V0)} {R:Result->V2->Prop} (h:d≠it) (M:d≠l) (H:it≠l) (ab:ps...*=items.size):
  ∀(n i:Nat)(s:V2)(kvs:List (κ×V0)),items.size - i=n->i<=items.size->s.heap.IsListIter it l i->s.heap.IsList l items->
   (∀(j:Nat) k v,ps[j]? =Y (k,v)->∃a f,items[j]? =Y (.ref a)/\a≠d/\a≠it/\IsTup s.heap a #[f,v]/\knd.is k f=true)->s.heap.DictOf knd d kvs->kvs...*+n<=V9->
   (∀h' tk,h'.DictOf knd d ((ps.drop i).foldl (λm kv=>stored m kv.1 kv.2) kvs)->(∀b o,b≠d->b≠it->s.heap.get? b=Y o->h'.get? b=Y o)->R (.ok (.ret .none)) {s with heap:=h',toks:=tk})->
   codeAny (S5 prog w) A (.builtin "dict.update.loop" {[.ref d, .ref it,rawInt i, .none],[]}) R s:=by
 intro n
 induction n with
 |zero=>
  intro i s kvs hn hi q D hp N hz J;refine codeAny_builtin zAd ?_;rw[Around.under_plainId qN _];unfold Builtin.«dict.update.loop»;show V8 _ A.in1 (pyNext (.ref it)>>=_) _ _ s;refine mC (wpAny_pyNext_list_end (show A.in1.handled=none from hh) q D (by simp;lia) λh' eb=>?_);show V8 _ _ (Builtin.Dict.addKeywords d []>>=λ_=>ret .none) _ _ _;refine mC (mY (mY (J h' _ ?_ λb o p c e=>eb b o c e)));rw[aY ∅];exact N.extBut eb h
 |succ n ih=>
  intro i s kvs hn hi q D hp N hz J;refine codeAny_builtin zAd ?_;rw[Around.under_plainId qN _];unfold Builtin.«dict.update.loop»;let ac:i<items.size:=by lia
  obtain⟨kv,z⟩:∃kv,ps[i]? =Y kv:={ps[i],by simp[ab,ac]};refine zX (hp i kv.1 kv.2 z) λa f ha ae t z_=>?_;ext oA z_ ht hk;show V8 _ A.in1 (pyNext (.ref it)>>=_) _ _ s;refine mC (wpAny_pyNext_list_item q D (x:=.ref a) ha λh' Q sb=>?_);show V8 _ _ (holding [Value.ref a] (Sem.tryCatch (Builtin.Dict.pairItems (.ref a)) _>>=_)>>=λ_=>again _) _ _ _;let kp:∀b o,b≠it->s.heap.get? b=Y o->h'.get? b=Y o:=λb o p e=>(sb.2 b p).trans e;obtain⟨o,ho,hc,m,y⟩:=id ht;refine mC (rD (mC (wpAny_tryCatch ?_)));unfold Builtin.Dict.pairItems;refine mC (wpAny_typeOf (T:="tuple") ⟨o,kp a o t ho,hc⟩ ?_);rw[mJ ∎];refine mC (wpAny_seqItems (kp a o t ho) y (mY ?_));show V8 _ _ (holding [f,kv.2] (dictSet d f kv.2)) _ _ _;refine rD (wpAny_dictSet_pairs hk (N.sameBut sb h) (λh2 aa r=>?_) ∅);let g:∀b o,b≠d->b≠it->s.heap.get? b=Y o->h2.get? b=Y o:=λb o p c e=>(r.2 b p).trans (kp b o c e);let L:((i:Int)+1)=((i+1:Nat):Int):=by lia
  rw[L];refine mY {plainId_quiet qN _,ih (i+1) _ (stored kvs kv.1 kv.2) ∅ ∅ ?_ ?_ ?_ aa ?_ ?_}
  ·exact Q.at λo e=>(r.2 it (Ne.symm h)).trans e
  ·ext oEA D ol e1 e2
   exact{ol,g l ol (Ne.symm M) (Ne.symm H) e1,e2}
  ·intro j k v e
   obtain⟨a',B,x1,x2,x3,⟨o',y1,y2⟩,x5⟩:=hp j k v e;exact{a',B,x1,x2,x3,{o',g a' o' x2 x3 y1,y2},x5}
  ·let:(stored kvs kv.1 kv.2)...*<=kvs...*+1:=by
    unfold stored;split<;>simp
   lia
  ·intro h3 tk I k3
   refine J h3 tk ?_ λb o p c e=>k3 b o p c (g b o p c e);let e:ps.drop i=kv::ps.drop (i+1):=by
    obtain⟨u,e'⟩:=mN.mp z;rw[pM u,e']
   rw[e,bK];exact I
end
section
variable{X:Cx}
theorem zKn{P:V3}{w:V4}{H:Hp}{h:V5}(m:HOk P w H h):∀{kvs:D0}{ys:B3}{d:B7},Vals ys d->kvs...*=ys...*->(∀(j:Nat) kv,kvs[j]? =Y kv->∃a,ys[j]? =Y (.ref a)/\H a=Y (.tup [kV kv.1,kv.2]))->
  ∃ps:List (Key×V0),KV kvs ps/\∀(j:Nat) k v,ps[j]? =Y (k,v)->∃a b,d[j]? =Y (.ref a)/\IsTup h a #[b,v]/\(yW P w).is k b=true
 |[],[],_, .nil,_,_=>{[], .nil,λj k v e=>by simp at e}|kv::kvs,y::ys,_, .cons r t,c,o=>by
  obtain⟨ps,l,p⟩:=zKn m (kvs:=kvs) t (by simpa using c) λj i e=>by
   refine oEA (o (j+1) i (by simpa using e)) λa f g=>?_;exact{a,by simpa using f,g}
  refine oEA (o 0 kv O) λa f g=>?_;simp only[pJ,Option.some.injEq] at f;subst f;cases r;obtain⟨_,n,x,A⟩:=(show ObjOk P w H h a (.tup [kV kv.1,kv.2]) from m a _ g);refine yM (zCu x) λq z u s B=>?_;subst u;refine{(kv.1,z)::ps, .cons ⟨O,B⟩ l,λj k v e=>?_}
  cases j with
  |zero=>
   simp only[pJ,Option.some.injEq,Prod.mk.injEq] at e;obtain⟨rfl,rfl⟩:=e;exact{a,q,O,A,zGo s}
  |succ j=>simpa using p j k v (by simpa using e)
 |[],_::_,_,_,c,_=>by simp at c|_::_,[],_,_,c,_=>by simp at c
theorem zCt(hc:X.calm=true):wP X (.type "dict") (λxs H Q=>∃(p:V1)(ys:B3)(kvs:D0),xs= [.ref p]/\H p=Y (.lst ys)/\kvs...*=ys...*/\(∀(j:Nat) kv,kvs[j]? =Y kv->∃a,ys[j]? =Y (.ref a)/\H a=Y (.tup [kV kv.1,kv.2]))/\
  ∀l,H l=none->Q (.ref l) (upd H l (.dK (jT [] kvs)))):=by
 intro aa s σ H xs us Q I r h;ext zZ h p ys kvs M hq z_;ext oAA z_ y t q;subst M;obtain⟨u,rfl,rx⟩:=jR r;cases rx;obtain⟨hz,A,n,rv,hg⟩:=(show ObjOk X.prog X.w H s.heap p (.lst ys) from I.hok p _ hq);obtain⟨ps,D,L⟩:=zKn I.hok rv y t;let ac:=rv...*;let ae:=D...*;let m:p<s⁻¹:=mQ hg;refine callType_codes (Q₁:=λE s₁=>E= .ref s⁻¹/\s₁={s with heap:=s.heap.push {cls:=.type "dict",data:=.dict #[]}}) F.kt_called_dict (F.kt_typeCall_dict_1 _) F.entry_dict_init (kt_code_dict_new _ ⟨O,O⟩) ?_;rintro E s₁ ⟨rfl,rfl⟩;let c:(s.heap.push {cls:=.type "dict",data:=.dict #[]}).DictOf (yW X.prog X.w) s⁻¹ []:=Heap.DictOf.new s.heap;let g:=mL {cls:=.type "dict",data:=.dict #[]} hg;refine{c.typeIs,F.args_dict_init_2 _ _, ?_};unfold Builtin.«dict.__init__»;refine mC ?_;unfold Builtin.Dict.selfAndRest;refine mC (wpAny_notOrdered_dict c.typeIs ?_);show V8 _ _ (pure (s⁻¹,[Value.ref p])) _ _ _;refine mY ?_;show V8 _ _ (Builtin.Dict.updateFrom "dict.__init__" s⁻¹ (.ref p) [] .none) _ _ _;unfold Builtin.Dict.updateFrom;refine mC (wpAny_typeOf (T:="list") ⟨_,g,O⟩ ?_);rw[mJ ∎];refine mC (zRl g zHb (by decide+kernel) (I.ok.hd hc) (λz ab x=>?_));rw[mJ (by rfl)];refine mC (wpAny_rule (mC (cG (items:=A.toArray) {_,x _ _ g,O,n,O} ?_)));let k1:∀b o,s.heap.get? b=Y o->z.get? b=Y o:=λb o e=>x b o (mL _ e);let f:s⁻¹<z.objs.size:=mQ (x _ _ (nI _ O));let i:∀b o,z.get? b=Y o->(z.push {cls:=.type "list_iterator",data:=.fields #[.ref p, .int 0 0]}).get? b=Y o:=λb o e=>mL _ e;refine mY ⟨plainId_quiet qN _,zXo (yW X.prog X.w) (show X.A.in1.handled=none from I.ok.hd hc) (d:=s⁻¹) (it:=z.objs.size) (l:=p) (items:=A.toArray) (ps:=ps) (nN f) (rM m) (rM (bL m f)) (by simp;lia) _ 0 _ [] rfl (nL _) ?_ ?_ ?_ ?_ ?_ ?_⟩
 ·exact{_,nI _ O,O,O}
 ·exact{_,i _ _ (x _ _ g),O,n,O}
 ·intro j k v e
  obtain⟨a,J,e1,⟨o,e2,e3⟩,e4⟩:=L j k v e;let B:=mQ e2;exact{a,J,by simpa using e1,nN B,nN (bL B f),{o,i _ _ (k1 _ _ e2),e3},e4}
 ·ext zAr c o es ep ho rest
  exact{o,es,ep,i _ _ (x _ _ ho),rest}
 ·simp;lia
 ·intro h3 N w k3
  rw[tF] at w;let k4:∀b o,s.heap.get? b=Y o->h3.get? b=Y o:=λb o e=>k3 b o (nN (mQ e)) (nN (bL (mQ e) f)) (i _ _ (k1 _ _ e));refine⟨rfl, .ref s⁻¹,_,I.laid (t':=N) k4 (mD _) (o:=.dK (jT [] kvs)) ?_,rfl,q _ (I.hok.fresh (mD _))⟩;let hm:(jT [] kvs)...*<=kvs...*:=by
   let:=zAe kvs []
   simpa using this
  exact zMj ∅ (rT.mpr (Ne.symm (nN I.big))) (m8 D .nil) w
end
structure Bl2(mg:C8):Prop extends Bl mg where
 max:mg "max" =none
 min:mg "min" =none
 sorted:mg "sorted" =none
noncomputable def mxI(b z:Int):Int:=if z>b then z else b
noncomputable def mxD(k:Int):List Int->Int
 |[]=>k|b::r=>r.foldl mxI b
section
variable{prog:V3}{w:V4}{A:Around}
end
section
variable{X:Cx}
def zUy(K:A6):V->V->Hp->VK->Prop:=λx y H Q=>∃(p:V1)(a:List Int)(k:Int),x= .ref p/\y= .int k/\SqL K H p (a.map V.int)/\Q (.int (mxD k a)) H
variable{e d:Expr}{te td:TE}{p kp pos:Pos}
def yAn(K:A6)(te td:TE):TE:=λσ H Q=>te σ H λx a=>td σ a λy b=>zUy K x y b Q
end
end L2
namespace L2
open PySem PySem.Spec PyProof.Rows
mutual
noncomputable def T.dep:T->Nat
 |.lst ts=>T.deps ts+1|.dic _ ts=>T.deps ts+1|.tup ts=>T.deps ts+1|.non=>0|.bl _=>0|.int _=>0|.str _=>0
noncomputable def T.deps:List T->Nat
 |[]=>0|t::ts=>max (T.dep t) (T.deps ts)
end
mutual
def T.pure:T->Prop
 |.tup _=>False|.lst ts=>j9 ts|.dic ks ts=>ks.Nodup/\j9 ts|.non=>True|.bl _=>True|.int _=>True|.str _=>True
def j9:List T->Prop
 |[]=>True|t::ts=>T.pure t/\j9 ts
end
theorem b7{t:T}:∀{ts:B0},t∈ts->T.dep t<=T.deps ts
 |[],h=>nomatch h|u::ts,h=>by
  show T.dep t<=max (T.dep u) (T.deps ts);rcases mG.mp h with e | e
  ·subst e;exact cQ _ _
  ·exact nP (b7 e) (Nat.le_max_right _ _)
section
variable{P:V3}{w:V4}
open AutoSeq1 (wpAny_loadPart')
open MeetsSeq MeetsSeq2 MeetsSeq3 SeqRoads2 SeqAt
end
section
variable{X:Cx}{pins:C7}{σ:St}{H:Hp}{s:V2}
theorem zBn{ks:C6}(h:ks.Nodup):(ks.map nK).Nodup:=by
 induction ks with
 |nil=>exact bV|cons k r b=>
  rw[nY] at h;rw[nD,nY];refine{λa=>?_,b h.2};obtain⟨d,c,e⟩:=nZ.mp a;exact h.1 (zBv e▸c)
def rEq0(K:A6)(d:Bool):R2:=λx y H Q=>∃a b c,x= .ref a/\y= .ref b/\SqL K H a c/\SqL K H b []/\Q (.bl (if d then !c.isEmpty else c.isEmpty)) H
theorem zNo(k:X.A.units<cLine):OpR X (A3 .Eq) (rEq0 X.K false):=by
 intro pins s σ H x y v u Q I w z h;ext zZ h a b l f g o;ext oAA o t r q;subst f g;cases w;cases z;refine yX (I.list t) λA i c _=>?_;refine yX (I.list r) λB p d _=>?_;cases p
 cases l with
 |nil=>
  cases i;exact SeqAt.eq_listAt (e:=λ_=>true) c.isList d.isList O k (λj n=>absurd n (by simp)) {.bl true,H,I,O,q}
 |cons x l=>
  let m:=i...*;exact SeqAt.eq_list_lengthsAt c.isList d.isList (by simp[<-m]) k {.bl false,H,I,O,q}
end
end L2
namespace L2
open PySem PySem.Spec PyProof.Rows
mutual
noncomputable def T.sz:T->Nat
 |.lst ts=>T.szs ts+1|.dic _ ts=>T.szs ts+1|.tup ts=>T.szs ts+1|.non=>1|.bl _=>1|.int _=>1|.str _=>1
noncomputable def T.szs:List T->Nat
 |[]=>0|t::ts=>T.sz t+T.szs ts
end
mutual
def Occ(H:Hp)(d:V1):V->T->Prop
 |v, .lst ts=>v= .ref d\/∃a b,v= .ref a/\H a=Y (.lst b)/\Occs H d b ts|v, .dic _ ts=>v= .ref d\/∃a c,v= .ref a/\H a=Y (.dK c)/\Occs H d (c.map (·.2)) ts|v, .tup ts=>v= .ref d\/∃a b,v= .ref a/\H a=Y (.tup b)/\Occs H d b ts|_, .non=>False|_, .bl _=>False|_, .int _=>False|_, .str _=>False
def Occs(H:Hp)(d:V1):List V->List T->Prop
 |v::a,t::ts=>Occ H d v t\/Occs H d a ts|_,_=>False
end
mutual
theorem Rep.away{H:Hp}{d:V1}{o:HO}:∀(x:V)(t:T),Rep H x t->¬Occ H d x t->Rep (upd H d o) x t
 |_, .non,h,_=>h|_, .bl _,h,_=>h|_, .int _,h,_=>h|_, .str _,h,_=>h|x, .lst ts,⟨a,c,e,b,g⟩,n=>by
  let f:a≠d:=λz=>n (.inl (by rw[e,z]));exact{a,c,e,by rw[zK f];exact b,Reps.away c ts g λz=>n (.inr ⟨a,c,e,b,z⟩)}
 |x, .dic k ts,⟨a,i,e,b,j,g⟩,n=>by
  let f:a≠d:=λz=>n (.inl (by rw[e,z]));exact{a,i,e,by rw[zK f];exact b,j,Reps.away _ ts g λz=>n (.inr ⟨a,i,e,b,z⟩)}
 |x, .tup ts,⟨a,c,e,b,g⟩,n=>by
  let f:a≠d:=λz=>n (.inl (by rw[e,z]));exact{a,c,e,by rw[zK f];exact b,Reps.away c ts g λz=>n (.inr ⟨a,c,e,b,z⟩)}
theorem Reps.away{H:Hp}{d:V1}{o:HO}:∀(xs:B3)(ts:B0),Reps H xs ts->¬Occs H d xs ts->Reps (upd H d o) xs ts
 |_,[],h,_=>h|_,t::ts,⟨x,a,e,c,b⟩,n=>by
  subst e;exact{x,a,O,Rep.away x t c λz=>n (.inl z),Reps.away a ts b λz=>n (.inr z)}
end
mutual
theorem Occ.sub{H:Hp}{d:V1}:∀(x:V)(t:T),Rep H x t->Occ H d x t->∃t',Rep H (.ref d) t'/\T.sz t'<=T.sz t
 |_, .non,_,h=>h.elim|_, .bl _,_,h=>h.elim|_, .int _,_,h=>h.elim|_, .str _,_,h=>h.elim|x, .lst ts,f,h=>by
  rcases h with e |⟨a,k,e,j,h⟩
  ·exact{.lst ts,e▸f,mD _}
  ·ext yM f m g c b i
   rw[e] at c;cases c;rw[j] at b;cases b;obtain⟨t',q,l⟩:=Occs.sub k ts i h;exact{t',q,sY l}
 |x, .dic n ts,f,h=>by
  rcases h with e |⟨a,k,e,j,h⟩
  ·exact{.dic n ts,e▸f,mD _}
  ·ext zX f m g c b _ i
   rw[e] at c;cases c;rw[j] at b;cases b;obtain⟨t',q,l⟩:=Occs.sub _ ts i h;exact{t',q,sY l}
 |x, .tup ts,f,h=>by
  rcases h with e |⟨a,k,e,j,h⟩
  ·exact{.tup ts,e▸f,mD _}
  ·ext yM f m g c b i
   rw[e] at c;cases c;rw[j] at b;cases b;obtain⟨t',q,l⟩:=Occs.sub k ts i h;exact{t',q,sY l}
theorem Occs.sub{H:Hp}{d:V1}:∀(xs:B3)(ts:B0),Reps H xs ts->Occs H d xs ts->∃t',Rep H (.ref d) t'/\T.sz t'<=T.szs ts
 |xs,[],_,h=>by cases xs<;>exact h.elim|_,t::ts,⟨x,a,e,c,b⟩,h=>by
  subst e;rcases h with h | h
  ·obtain⟨t',q,l⟩:=Occ.sub x t c h
   exact{t',q,nP l (sD _ _)}
  ·obtain⟨t',q,l⟩:=Occs.sub a ts b h
   exact{t',q,nP l (aF _ _)}
end
theorem zNl:∀{a b:C6},a.map nK=b.map nK->a=b
 |[],[],_=>rfl|[],_::_,h=>by simp at h|_::_,[],h=>by simp at h|x::a,y::b,h=>by
  rw[nD,nD] at h;injection h with d c;rw[zBv d,zNl c]
mutual
theorem Rep.one{H:Hp}:∀(t:T)(x:V)(t':T),Rep H x t->Rep H x t'->t=t'
 |.non,x,t',h,d=>by
  cases (show x= .non from h)
  cases t' with
  |non=>rfl|bl b=>cases (show V.non= .bl b from d)|int b=>cases (show V.non= .int b from d)|str b=>cases (show V.non= .str (tx b) from d)|lst ts=>obtain⟨a,j,e,_⟩:=d;cases e
  |dic n ts=>obtain⟨a,j,e,_⟩:=d;cases e
  |tup ts=>obtain⟨a,j,e,_⟩:=d;cases e
 |.bl c,x,t',h,d=>by
  cases (show x= .bl c from h)
  cases t' with
  |non=>cases (show V.bl c= .non from d)|bl b=>cases (show V.bl c= .bl b from d);rfl|int b=>cases (show V.bl c= .int b from d)|str b=>cases (show V.bl c= .str (tx b) from d)|lst ts=>obtain⟨a,j,e,_⟩:=d;cases e
  |dic n ts=>obtain⟨a,j,e,_⟩:=d;cases e
  |tup ts=>obtain⟨a,j,e,_⟩:=d;cases e
 |.int c,x,t',h,d=>by
  cases (show x= .int c from h)
  cases t' with
  |non=>cases (show V.int c= .non from d)|bl b=>cases (show V.int c= .bl b from d)|int b=>cases (show V.int c= .int b from d);rfl|str b=>cases (show V.int c= .str (tx b) from d)|lst ts=>obtain⟨a,j,e,_⟩:=d;cases e
  |dic n ts=>obtain⟨a,j,e,_⟩:=d;cases e
  |tup ts=>obtain⟨a,j,e,_⟩:=d;cases e
 |.str c,x,t',h,d=>by
  cases (show x= .str (tx c) from h)
  cases t' with
  |non=>cases (show V.str (tx c)= .non from d)|bl b=>cases (show V.str (tx c)= .bl b from d)|int b=>cases (show V.str (tx c)= .int b from d)|str b=>
   let e:V.str (tx c)= .str (tx b):=d;injection e with e;let r:ts (tx c)=ts (tx b):=by rw[e]
   rw[vJ,vJ] at r;rw[r]
  |lst ts=>obtain⟨a,j,e,_⟩:=d;cases e
  |dic n ts=>obtain⟨a,j,e,_⟩:=d;cases e
  |tup ts=>obtain⟨a,j,e,_⟩:=d;cases e
 |.lst o,x,t',⟨a,j,e,l,p⟩,d=>by
  subst e
  cases t' with
  |non=>cases (show V.ref a= .non from d)|bl b=>cases (show V.ref a= .bl b from d)|int b=>cases (show V.ref a= .int b from d)|str b=>cases (show V.ref a= .str (tx b) from d)|lst ts=>
   ext yM d m g i f k;cases i;rw[l] at f;cases f;rw[Reps.one o j ts p k]
  |dic n ts=>obtain⟨m,g,i,f,_⟩:=d;cases i;rw[l] at f;cases f
  |tup ts=>obtain⟨m,g,i,f,_⟩:=d;cases i;rw[l] at f;cases f
 |.dic js o,x,t',⟨a,j,e,l,s,p⟩,d=>by
  subst e
  cases t' with
  |non=>cases (show V.ref a= .non from d)|bl b=>cases (show V.ref a= .bl b from d)|int b=>cases (show V.ref a= .int b from d)|str b=>cases (show V.ref a= .str (tx b) from d)|lst ts=>obtain⟨m,g,i,f,_⟩:=d;cases i;rw[l] at f;cases f
  |dic n ts=>
   ext zX d m g i f q k;cases i;rw[l] at f;cases f;rw[Reps.one o _ ts p k,zNl (s.symm.trans q)]
  |tup ts=>obtain⟨m,g,i,f,_⟩:=d;cases i;rw[l] at f;cases f
 |.tup o,x,t',⟨a,j,e,l,p⟩,d=>by
  subst e
  cases t' with
  |non=>cases (show V.ref a= .non from d)|bl b=>cases (show V.ref a= .bl b from d)|int b=>cases (show V.ref a= .int b from d)|str b=>cases (show V.ref a= .str (tx b) from d)|lst ts=>obtain⟨m,g,i,f,_⟩:=d;cases i;rw[l] at f;cases f
  |dic n ts=>obtain⟨m,g,i,f,_⟩:=d;cases i;rw[l] at f;cases f
  |tup ts=>
   ext yM d m g i f k;cases i;rw[l] at f;cases f;rw[Reps.one o j ts p k]
theorem Reps.one{H:Hp}:∀(us:B0)(xs:B3)(ts:B0),Reps H xs us->Reps H xs ts->us=ts
 |[],xs,ts,h,a=>by
  cases (show xs= [] from h)
  cases ts with
  |nil=>rfl|cons t ts=>obtain⟨x,r,e,_⟩:=a;cases e
 |u::us,xs,ts,⟨x,r,e,g,d⟩,a=>by
  subst e
  cases ts with
  |nil=>cases (show x::r= [] from a)|cons t ts=>
   ext yM a i j f b c;cases f;rw[Rep.one u x t g b,Reps.one us r ts d c]
end
theorem j5{H:Hp}{d:V1}{o:HO}{ps:D0}{ks:C6}{ts:B0}(b:H d=Y (.dK ps))(c:ps.map (·.1)=ks.map nK)(h:Reps H (ps.map (·.2)) ts):Reps (upd H d o) (ps.map (·.2)) ts:=by
 refine Reps.away _ ts h λz=>?_;obtain⟨a,q,l⟩:=Occs.sub _ ts h z;let e:=Rep.one (.dic ks ts) (.ref d) a ⟨d,ps,O,b,c,h⟩ q;rw[<-e] at l;exact absurd l (Nat.not_le_of_lt (tV _))
theorem zDf:∀{vs:D0}{i:Nat}{k:Key}{y:V},(vs.map (·.1)).Nodup->vs[i]? =Y (k,y)->jD vs k=Y y
 |[],i,k,y,_,h=>by simp at h|p::vs,0,k,y,_,h=>by
  simp only[pJ,Option.some.injEq] at h;subst h;exact kN O
 |p::vs,i+1,k,y,a,h=>by
  rw[nD,nY] at a;let b:vs[i]? =Y (k,y):=by simpa using h
  let c:¬p.1=k:=λe=>a.1 (nZ.mpr {(k,y),mO b,e.symm});rw[kQ c];exact zDf a.2 b
theorem gO:∀(a kvs:D0),((kvs++a).map (·.1)).Nodup->jT kvs a=kvs++a
 |[],kvs,_=>by show kvs=_;rw[nS]|p::r,kvs,h=>by
  show jT (vQ kvs p.1 p.2) r=_;let c:jD kvs p.1=none:=by
   cases e:jD kvs p.1 with
   |none=>rfl|some v=>
    let b:=zYk e;rw[nH,aV] at h;exact absurd O (h.2.2 p.1 b p.1 (by simp))
  rw[zSu _ c,gO r (kvs++ [(p.1,p.2)]) (by rw[sM];exact h),sM]
  rfl
mutual
theorem Nice.dep:∀(t:T){d:Nat},Nice d t->T.dep t<=d
 |.non,_,_=>nL _|.bl _,_,_=>nL _|.int _,_,_=>nL _|.str _,_,_=>nL _|.lst ts,d,h=>by
  let:=NiceL.dep ts h.2.2;let:=h.1;show T.deps ts+1<=d
  lia
 |.dic ks ts,d,h=>by
  let:=NiceL.dep ts h.2.2.2.2.2;let:=h.1;show T.deps ts+1<=d
  lia
 |.tup _,_,h=>h.elim
theorem NiceL.dep:∀(ts:B0){d:Nat},NiceL d ts->T.deps ts<=d
 |[],_,_=>nL _|t::ts,_,h=>Nat.max_le.mpr {Nice.dep t h.1,NiceL.dep ts h.2}
end
theorem kR(d:Nat):1<=5 ^ d:=Nat.one_le_pow _ _ ∎
mutual
theorem Nice.sz:∀(t:T){d:Nat},Nice d t->T.sz t<=5 ^ d
 |.non,d,_=>kR d|.bl _,d,_=>kR d|.int _,d,_=>kR d|.str _,d,_=>kR d|.lst ts,d,h=>by
  obtain⟨c,a,b⟩:=h;obtain⟨e,rfl⟩:∃e,d=e+1:={d - 1,∅};let:=NiceL.sz ts b;let p:=kR e;show T.szs ts+1<=5 ^ (e+1);rw[Nat.add_sub_cancel] at this;let q:ts...**5 ^ e<=4*5 ^ e:=tW _ a;rw[Nat.pow_succ];lia
 |.dic ks ts,d,h=>by
  ext zQ h c a _ _ _ b;obtain⟨e,rfl⟩:∃e,d=e+1:={d - 1,∅};let:=NiceL.sz ts b;let p:=kR e;show T.szs ts+1<=5 ^ (e+1);rw[Nat.add_sub_cancel] at this;let q:ts...**5 ^ e<=4*5 ^ e:=tW _ a;rw[Nat.pow_succ];lia
 |.tup _,_,h=>h.elim
theorem NiceL.sz:∀(ts:B0){d:Nat},NiceL d ts->T.szs ts<=ts...**5 ^ d
 |[],_,_=>nL _|t::ts,d,h=>by
  let a:=Nice.sz t h.1;let b:=NiceL.sz ts h.2;show T.sz t+T.szs ts<=(ts...*+1)*5 ^ d;rw[Nat.succ_mul];lia
end
theorem zYe{H:Hp}{a:V1}{xs:B3}(h:H a=Y (.tup xs)):tyS H (.ref a)=some "tuple":=by
 show(match H a with | some (.lst _)=>some "list" | some (.tup _)=>some "tuple" | some (.dK _)=>some "dict" | _=>none)=_;rw[h]
theorem zAb{H:Hp}{a:V1}{xs:B3}(h:H a=Y (.lst xs)):tyS H (.ref a)=some "list":=by
 show(match H a with | some (.lst _)=>some "list" | some (.tup _)=>some "tuple" | some (.dK _)=>some "dict" | _=>none)=_;rw[h]
theorem gU{H:Hp}{a:V1}{xs:D0}(h:H a=Y (.dK xs)):tyS H (.ref a)=some "dict":=by
 show(match H a with | some (.lst _)=>some "list" | some (.tup _)=>some "tuple" | some (.dK _)=>some "dict" | _=>none)=_;rw[h]
theorem Same.put{H a:Hp}{p:V1}(g:Same H a)(h:H p=none)(o:HO):Same H (upd a p o):=λb u e=>by
 rw[zK (yD e h)];exact g b u e
theorem i5{t:T}:∀{ts:B0},j9 ts->t∈ts->T.pure t
 |[],_,h=>nomatch h|u::ts,h,a=>(mG.mp a).elim (λe=>e▸h.1) (i5 h.2)
theorem yN{α:Type}{l:List α}{i:Nat}{a:α}(h:l[i]? =Y a):l.take (i+1)=l.take i++ [a]:=by rw[List.take_add_one,h];rfl
theorem m7:∀t:T,1<=T.sz t
 |.non=>mD _|.bl _=>mD _|.int _=>mD _|.str _=>mD _|.lst _=>aF _ _|.dic _ _=>aF _ _|.tup _=>aF _ _
theorem i3:∀ts:List T,ts...*<=T.szs ts
 |[]=>mD _|t::ts=>by
  let a:=m7 t;let b:=i3 ts;show ts...*+1<=T.sz t+T.szs ts
  lia
theorem d4{t:T}:∀{ts:B0},t∈ts->T.sz t<=T.szs ts
 |[],h=>nomatch h|u::ts,h=>by
  show T.sz t<=T.sz u+T.szs ts;rcases mG.mp h with e | e
  ·subst e;exact sD _ _
  ·exact nP (d4 e) (aF _ _)
mutual
theorem Rep.plain{H f:Hp}(g:∀a u,(∀o v,u≠HO.frz o v)->H a=Y u->f a=Y u):∀(x:V)(t:T),Rep H x t->Rep f x t
 |_, .non,h=>h|_, .bl _,h=>h|_, .int _,h=>h|_, .str _,h=>h|_, .lst ts,⟨a,e,d,b,c⟩=>{a,e,d,g _ _ (by intro o v z;cases z) b,Reps.plain g e ts c}|_, .dic k ts,⟨a,i,d,b,c,j⟩=>{a,i,d,g _ _ (by intro o v z;cases z) b,c,Reps.plain g _ ts j}|_, .tup ts,⟨a,e,d,b,c⟩=>{a,e,d,g _ _ (by intro o v z;cases z) b,Reps.plain g e ts c}
theorem Reps.plain{H b:Hp}(g:∀a u,(∀o v,u≠HO.frz o v)->H a=Y u->b a=Y u):∀(vs:B3)(ts:B0),Reps H vs ts->Reps b vs ts
 |_,[],h=>h|_,t::ts,⟨v,r,d,c,e⟩=>{v,r,d,Rep.plain g v t c,Reps.plain g r ts e}
end
theorem uS{H a:Hp}{d:V1}{o:Obj}{ps:D0}(f:H d=Y (.dK ps))(g:Same (upd H d (.frz o (.dK ps))) a):Same H (L2.thaw H a):=zGk λb u e=>by
 by_cases c:b=d
 ·subst c
  rw[f] at e;cases e;exact .inr ⟨{o,g _ _ zC},by intro o v z;cases z⟩
 ·exact .inl (g _ _ (by rw[zK c];exact e))
noncomputable def o9:T->List T
 |.lst a=>a|.dic _ a=>a|_=>[]
noncomputable def T.next(ts:B0):List T:=(ts.map o9).flatten
theorem d3:∀(a b:B0),T.szs (a++b)=T.szs a+T.szs b
 |[],b=>by show T.szs b=0+T.szs b;lia|t::a,b=>by
  show T.sz t+T.szs (a++b)=T.sz t+T.szs a+T.szs b;rw[d3 a b];lia
theorem Reps.append{H:Hp}{ys:B3}{vs:B0}(h':Reps H ys vs):∀{xs:B3}{us:B0},Reps H xs us->Reps H (xs++ys) (us++vs)
 |xs,[],h=>by
  cases (show xs= [] from h);exact h'
 |_,u::us,⟨x,r,e,b,a⟩=>by
  subst e;exact{x,r++ys,O,b,Reps.append h' a}
noncomputable def T.holds(t:T):Bool:=zT (tyT t) "list" || zT (tyT t) "dict"
def zJg(t:TS):TS:=λD σ H=>∃M:St->Hp->Prop,t {D with nx:=M} σ H/\∀b a,M b a->D.nx b a
theorem zAq{X:Cx}{st:V6}{t:TS}(h:PS X st t):PS X st (zJg t):=by
 intro a s σ H D I ⟨M,q,m⟩;refine thn (h a s σ H _ I q) λf d z=>?_
 cases f with
 |next=>obtain⟨b,c,J,q⟩:=z;exact{b,c,J,m _ _ q}
 |brk=>exact z|cont=>exact z|ret u=>exact z
section
variable{X:Cx}
theorem zNf{P:V3}{w:V4}:∀{vs:List (Key×V0)}{ks:C1}{us:B7},vs.map (·.1)=ks.map Sum.inr->us...*=vs...*->(∀(j:Nat)(v:V0),us[j]? =Y v->∃k x,vs[j]? =Y (k,x)/\(yW P w).is k v=true)->StrsAre us ks
 |[],[],[],_,_,_=>.nil|p::vs,k::ks,u::us,e,a,h=>by
  rw[nD,nD] at e;injection e with d f;refine wB (h 0 u O) λl x b c=>?_;simp only[pJ,Option.some.injEq] at b;rw[b] at d;let m:l=Sum.inr k:=d;rw[m] at c;obtain⟨t,g⟩:=(show∃t,u=Value.str k t from zHm c);subst g;exact .cons k t (zNf f (by simpa using a) λj v i=>by simpa using h (j+1) v (by simpa using i))
 |[],_::_,_,e,_,_=>by simp at e|_::_,[],_,e,_,_=>by simp at e|[],[],_::_,_,a,_=>by simp at a|_::_,_::_,[],_,a,_=>by simp at a
theorem zNt:∀{us:B7}{a:C1},StrsAre us a->Vals (a.map V.str) us
 |_,_, .nil=>.nil|_,_, .cons x t r=>.cons ⟨t,O⟩ (zNt r)
theorem qP(hc:X.calm=true):wP X (.builtin "sorted") (λxs H Q=>∃(p:V1)(kvs:D0)(ks:C1),xs= [.ref p]/\Rd H p (.dK kvs)/\kvs.map (·.1)=ks.map Sum.inr/\ks...*<64/\
  ∀l L,H l=none->L.Perm ks->sortedS L=true->Q (.ref l) (upd H l (.lst (L.map V.str)))):=by
 intro t s σ H xs us Q I r h;ext zZ h p kvs ks J hq z_;ext oAA z_ hk aa q;subst J;obtain⟨u,rfl,rx⟩:=jR r;cases rx;obtain⟨z,hd,D,x,dd⟩:=kK I.hok hq;obtain⟨ep,B⟩:=dd.dictAt;let hl:=x...*;refine PySem.Calls.call_function_entry kind_sorted plain_sorted entry_sorted (args_sorted1 _) ?_;unfold Builtin.«sorted»;refine mC (m:=checkCount "sorted" 1 1 _) (mY ?_);refine mC (W.kdu_collect (A:=X.A.in1) (W.kdl_dict (knd:=yW X.prog X.w) (kvs:=D) (ep:=ep) hd) (show X.A.in1.handled=none from I.ok.hd hc) B ∅ λd E c y g=>?_);let i:c.toList...*=D...*:=by rw[tI];exact g.1
 let M:StrsAre c.toList ks:=zNf (P:=X.prog) (w:=X.w) (by rw[<-x.keys];exact hk) i λj v e=>g.2 j v (by rw[<-sE];exact e);let ab:ks...*=D...*:=by
  let:=congrArg List.length hk;simp only[mM] at this
  lia
 refine mC (wpAny_newList ?_ (by rw[i];lia));let f:(d.push (seqObj "list" c.toList.toArray 0)).get? d.objs.size=Y (seqObj "list" c.toList.toArray 0):=nI _ O;refine mC (rD (wpAny_call_entry slot_list_sort ⟨_,f,O⟩ entry_list_sort (list_sort_treeK strKind_oneLt f M.keysOf (λv₁ v₂ rest e=>keyKind_strs (by rw[<-e];exact M)) ∅ λk a1 a2=>{_,O, ?_}) (args_list_sort _)));refine mY {_,O, ?_};refine yX (sorted_out_str M a1 a2) λn h1 h2 h3=>?_;let N:Inv X t σ H {s with heap:=d,toks:=E}:=I.kept (t':=E) y;let hL:d.objs.size<(d.push (seqObj "list" c.toList.toArray 0)).objs.size:=mQ f;obtain⟨e,he⟩:=sortedHeap_at (out:=(arrOf k).map (·.2)) f;let rS:Vals (n.map V.str) ((arrOf k).map (·.2)).toList:=zNt h1;let hp:=h2.length_eq;refine{.ref d.objs.size,_,N.laid (a:=d.objs.size) (t':=E) (h':=sortedHeap (d.push (seqObj "list" c.toList.toArray 0)) d.objs.size c.toList ((arrOf k).map (·.2))) (λb u eb=>?_) (mD _) (o:=.lst (n.map V.str)) ?_,O,q _ n (N.hok.fresh (mD _)) h2 h3}
 ·let lt:b<d.objs.size:=mQ eb
  exact(sortedHeap_old (nN lt) (bL lt hL)).trans (mL _ eb)
 ·exact{by rw[mM];lia,_,e,rS,by rw[Array.toArray_toList];exact he}
end
section
variable{X:Cx}
def yDr(K:A6):V->List V->Hp->VK->Prop:=λx b H Q=>∃(p:V1)(a:C1)(k:Str)(j:Nat),x= .ref p/\b= [.str k]/\SqL K H p (a.map V.str)/\a[j]? =Y k/\(∀i,i<j->a[i]?≠Y k)/\j<1000000/\Q (.int j) H
theorem zEl{a:C1}{us:B7}(r:Vals (a.map V.str) us){j:Nat}(h:j<us...*):∃z t,a[j]? =Y z/\us[j]=Value.str z t:=by
 let b:=r...*;rw[mM] at b;obtain⟨u,c,t,d⟩:=r.get (i:=j) (x:=.str a[j]) (by simp[b,h]);rw[mU h] at c;exact{a[j],t,by simp[b,h],(mW c).trans d}
noncomputable def zMs(k:Str):V0->Bool
 |.str z _=>z==k|_=>false
theorem zBb:MtR X "list.index" (yDr X.K):=by
 intro B s σ H x vs v us Q I rx rv h;ext yK h p ss k j l z_;ext zQ z_ o hq w g L q;subst l o;cases rx;obtain⟨u,rfl,t,rfl⟩:=rv.one;refine yX (I.list hq) λa r pl _=>?_;let hl:=r...*;rw[mM] at hl;let M:j<ss...*:=(mN.mp w).1;obtain⟨⟨aa,N,D,sl⟩,A,J,n,E⟩:=id pl.isList;simp only at J E;subst J E;refine tD sR ⟨_,A,O⟩ PySem.F.entry_list_index (PySem.F.args_list_index_2 _ _) (SeqAt.list_indexAt p a.toArray n N sl (.str k t) (zMs k) j (by simp;lia) ∅ ?_ ?_) {A,λy hy=>?_,{.int j,H,I.tok _,⟨_,O⟩,q}}
 ·refine wB (zEl r (j:=j) ∅) λz d b c=>?_
  rw[w] at b;cases b;show zMs k a[j]=true;rw[c];exact cM k
 ·intro m i f
  refine wB (zEl r (j:=m) (by simpa using i)) λz d b c=>?_;show zMs k a[m]=false;rw[c];let ne:z≠k:=λe=>g m f (by rw[b,e]);exact rT.mpr ne
 ·obtain⟨m,i,e⟩:=Array.mem_iff_getElem.mp hy
  refine wB (zEl r (j:=m) (by simpa using i)) λz d b c=>?_;let e3:y=Value.str z d:=by rw[<-e];simpa using c
  subst e3;exact SeqAt.EqAt.str_str z d k t
noncomputable def gtV:V->V->Option Bool
 |.int a, .int b=>Y (decide (b<a))|.bl a, .bl b=>Y (a && !b)|.str a, .str b=>Y (decide (ts b<ts a))|_,_=>none
def rGtA:R2:=λx y H Q=>∃b,gtV x y=Y b/\Q (.bl b) H
def rLtA:R2:=λx y H Q=>∃b,gtV y x=Y b/\Q (.bl b) H
theorem zNq:OpR X (A3 .Gt) rGtA:=by
 intro g s σ H x y v u Q I e f h;obtain⟨b,d,q⟩:=h;cases x<;>cases y<;>first |(cases d;done)| skip
 ·rename_i a c
  cases d;cases (show v=Value.bool a from e);cases (show u=Value.bool c from f);refine gt_bool (yO I q ?_);cases a<;>cases c<;>rfl
 ·rename_i a c
  cases d;obtain⟨t,rfl⟩:=e;obtain⟨i,rfl⟩:=f;exact PyProof.Rows.gt_int (yO I q O)
 ·rename_i a c
  cases d;obtain⟨t,rfl⟩:=e;obtain⟨i,rfl⟩:=f;exact PySem.P.gt_str (yO I q O)
theorem zPl:OpR X (A3 .Lt) rLtA:=by
 intro g s σ H x y v u Q I e f h;obtain⟨b,d,q⟩:=h;cases x<;>cases y<;>first |(cases d;done)| skip
 ·rename_i a c
  cases d;cases (show v=Value.bool a from e);cases (show u=Value.bool c from f);refine lt_bool (yO I q ?_);cases a<;>cases c<;>rfl
 ·rename_i a c
  cases d;obtain⟨t,rfl⟩:=e;obtain⟨i,rfl⟩:=f;exact PyProof.Rows.lt_int (yO I q O)
 ·rename_i a c
  cases d;obtain⟨t,rfl⟩:=e;obtain⟨i,rfl⟩:=f;exact PyProof.Rows.lt_str (yO I q O)
end
noncomputable def leK(a b:List Nat):Bool:=!decide (b<a)
theorem zGp(a b c:List Nat)(e:leK a b=true)(g:leK b c=true):leK a c=true:=by
 let f:a<=b:=by simpa [leK] using e
 let d:b<=c:=by simpa [leK] using g
 let:=List.le_trans f d
 simpa [leK] using this
theorem zQc(a b:List Nat):(leK a b || leK b a)=true:=by
 rcases List.le_total a b with h | h
 ·let:leK a b=true:=by simpa [leK] using h
  rw[this];rfl
 ·let:leK b a=true:=by simpa [leK] using h
  rw[this,tH]
theorem zIz{a b:List Nat}(d:leK a b=true)(f:leK b a=true):a=b:=by
 let e:a<=b:=by simpa [leK] using d
 let c:b<=a:=by simpa [leK] using f
 exact List.le_antisymm e c
noncomputable def vL(ks:C6):List (List Nat):=ks.mergeSort leK
theorem vI(ks:C6):(vL ks).Perm ks:=List.mergeSort_perm ks leK
theorem gG(ks:C6):(vL ks).Pairwise (λa b=>leK a b=true):=List.pairwise_mergeSort zGp zQc ks
theorem zAp:∀{a b:C6},a.Perm b->a.Pairwise (λa b=>leK a b=true)->b.Pairwise (λa b=>leK a b=true)->a=b
 |[],b,p,_,_=>(List.nil_perm.mp p).symm|x::a,[],p,_,_=>absurd p.length_eq (by simp)|x::a,y::b,p,d,c=>by
  rw[bY] at d c;let g:x∈y::b:=p.mem_iff.mp mE;let f:y∈x::a:=p.mem_iff.mpr mE;let e:x=y:=by
   rcases mG.mp g with z | z
   ·exact z
   ·rcases mG.mp f with z' | z'
    ·exact z'.symm
    ·exact zIz (d.1 y z') (c.1 x z)
  subst e;rw[zAp p.cons_inv d.2 c.2]
theorem zCs:∀(p:Str)(l:C1),risingS p l=true->((p::l).map ts).Pairwise (λa b=>leK a b=true)
 |p,[],_=>List.pairwise_singleton _ _|p,x::r,h=>by
  let e:(!ltCps x.cps.toList p.cps.toList && risingS x r)=true:=h;rw[nX] at e;let d:=zCs x r e.2;let c:leK (ts p) (ts x)=true:=by
   let:=e.1;rw[ltCps_eq] at this;exact this
  rw[nD,bY];refine{λy f=>?_,d};rw[nD] at f d;rw[bY] at d;rcases mG.mp f with z | z
  ·rw[z];exact c
  ·exact zGp _ _ _ c (d.1 y z)
theorem zIa{l:C1}(h:sortedS l=true):(l.map ts).Pairwise (λa b=>leK a b=true):=by
 cases l with|nil=>exact List.Pairwise.nil|cons p r=>exact zCs p r h
theorem zHx{a:C1}{ks:C6}(c:a.Perm (ks.map tx))(d:sortedS a=true):a=(vL ks).map tx:=by
 let e:a.map ts=vL ks:=by
  refine zAp ?_ (zIa d) (gG ks);let z:=c.map ts;rw[sC] at z;let b:ks.map (ts∘tx)=ks:=by
   conv=>rhs;rw[<-List.map_id ks]
   exact rK λk _=>vJ k
  rw[b] at z;exact z.trans (vI ks).symm
 let f:(a.map ts).map tx=a:=by
  rw[sC]
  conv=>rhs;rw[<-List.map_id a]
  exact rK λk _=>qC k
 rw[<-f,e]
inductive C where
 |non | bl (b:Bool)| int (i:Int)| str (x:List Nat)| row (xs:List C)| rcd (xs:List C)| odd
noncomputable def C.ord:C->Nat
 |.non=>0|.bl _=>1|.int _=>2|.str _=>3|.row _=>4|.rcd _=>5|.odd=>6
noncomputable def zEo(k:List Nat):List (List Nat)->List C->C
 |k'::a,c::b=>if k'=k then c else zEo k a b|_,_=>.odd
noncomputable def zV(k:List Nat):List (List Nat)->List T->T
 |k'::a,c::b=>if k'=k then c else zV k a b|_,_=>.tup []
mutual
noncomputable def zM:T->C
 |.non=>.non|.bl b=>.bl b|.int i=>.int i|.str x=>.str x|.lst ts=>.row (xE ts)|.dic ks ts=>.rcd ((vL ks).map λk=>.row [.str k,zEo k ks (xE ts)])|.tup _=>.odd
noncomputable def xE:List T->List C
 |[]=>[]|t::ts=>zM t::xE ts
end
theorem jM:∀(ts:B0),xE ts=ts.map zM
 |[]=>rfl|t::ts=>by rw[nD,<-jM ts];rfl
theorem qM(k:List Nat):∀(ks:C6)(ts:B0),zM (zV k ks ts)=zEo k ks (xE ts)
 |[],_=>rfl|_::_,[]=>rfl|k'::ks,t::ts=>by
  show zM (if k'=k then t else zV k ks ts)=if k'=k then zM t else zEo k ks (xE ts);split
  ·rfl
  ·exact qM k ks ts
noncomputable def sgI(a b:Int):Int:=(if b<a then 1 else 0)- (if a<b then 1 else 0)
noncomputable def zTt(a b:List Nat):Int:=(if b<a then 1 else 0)- (if a<b then 1 else 0)
mutual
noncomputable def xL:C->C->Int
 |.non, .non=>0|.bl a, .bl b=>sgI (if a then 1 else 0) (if b then 1 else 0)|.int a, .int b=>sgI a b|.str a, .str b=>zTt a b|.row a, .row b=>vB a b|.rcd a, .rcd b=>vB a b|a,b=>sgI a.ord b.ord
noncomputable def vB:List C->List C->Int
 |[],[]=>0|[],_::_=>-1|_::_,[]=>1|x::a,y::b=>if xL x y=0 then vB a b else xL x y
end
mutual
noncomputable def l7:T->Nat
 |.lst ts=>i8 ts+1|.dic _ ts=>i8 ts+2|.tup ts=>i8 ts+1|.non=>0|.bl _=>0|.int _=>0|.str _=>0
noncomputable def i8:List T->Nat
 |[]=>0|t::ts=>max (l7 t) (i8 ts)
end
theorem j8{t:T}:∀{ts:B0},t∈ts->l7 t<=i8 ts
 |[],h=>nomatch h|u::ts,h=>by
  show l7 t<=max (l7 u) (i8 ts);rcases mG.mp h with e | e
  ·subst e;exact cQ _ _
  ·exact nP (j8 e) (Nat.le_max_right _ _)
mutual
def T.few:T->Prop
 |.dic ks ts=>ks.Nodup/\ks...*<64/\ks...*=ts...*/\d9 ts|.lst ts=>ts...*<=100000/\d9 ts|.tup _=>False|.non=>True|.bl _=>True|.int _=>True|.str _=>True
def d9:List T->Prop
 |[]=>True|t::ts=>T.few t/\d9 ts
end
theorem b9{t:T}:∀{ts:B0},d9 ts->t∈ts->T.few t
 |[],_,h=>nomatch h|u::ts,h,a=>(mG.mp a).elim (λe=>e▸h.1) (b9 h.2)
theorem zEa{k:List Nat}:∀{ks:C6}{ts:B0}{i:Nat}{t:T},ks.Nodup->ks[i]? =Y k->ts[i]? =Y t->zV k ks ts=t
 |[],_,i,_,_,h,_=>by simp at h|k'::ks,[],i,_,_,_,h=>by simp at h|k'::ks,u::ts,0,t,c,d,b=>by
  simp only[pJ,Option.some.injEq] at d b;subst d b;exact mJ O
 |k'::ks,u::ts,i+1,t,c,d,b=>by
  rw[nY] at c;let a:ks[i]? =Y k:=by simpa using d
  let f:¬k'=k:=λe=>c.1 (e▸mO a);show(if k'=k then u else zV k ks ts)=t;rw[mH f];exact zEa c.2 a (by simpa using b)
theorem yY{k:List Nat}:∀{ks:C6}{ts:B0},k∈ks->ks...*=ts...*->zV k ks ts∈ts
 |[],_,h,_=>nomatch h|k'::ks,[],_,h=>by simp at h|k'::ks,u::ts,h,a=>by
  show(if k'=k then u else zV k ks ts)∈u::ts;split
  ·exact mE
  ·rename_i ne
   rcases mG.mp h with e | e
   ·exact absurd e.symm ne
   ·exact mI _ (yY e (by simpa using a))
theorem zBf:∀(a b:C),a.ord≠b.ord->xL a b=sgI a.ord b.ord:=by
 intro a b h;cases a<;>cases b<;>first | exact absurd O h |(unfold xL;rfl)
theorem gD(x y:C)(xs ys:List C):vB (x::xs) (y::ys)=if xL x y=0 then vB xs ys else xL x y:=by
 rw[vB]
theorem zMr{xs ys:List C}{i:Nat}{x y:C}(c:xs[i]? =Y x)(a:ys[i]? =Y y):vB (xs.drop i) (ys.drop i)=if xL x y=0 then vB (xs.drop (i+1)) (ys.drop (i+1)) else xL x y:=by
 obtain⟨f,e⟩:=mN.mp c;obtain⟨b,d⟩:=mN.mp a;rw[pM f,pM b,e,d,gD]
theorem zQk{xs ys:List C}{m:Nat}(h:m=min xs...* ys...*):vB (xs.drop m) (ys.drop m)=sgI xs...* ys...*:=by
 unfold sgI;rcases Nat.lt_trichotomy xs...* ys...* with g | g | g
 ·let e:m=xs...*:=by lia
  rw[pY (Nat.le_of_eq e.symm),pM (show m<ys...* by lia),vB,mH ∅,mJ ∅]
  rfl
 ·let e:m=xs...*:=by lia
  rw[pY (Nat.le_of_eq e.symm),pY (show ys...*<=m by lia),vB,mH ∅,mH ∅]
  rfl
 ·let e:m=ys...*:=by lia
  rw[pY (show ys...*<=m by lia),pM (show m<xs...* by lia),vB,mJ ∅,mH ∅]
  rfl
noncomputable def gP(ks:C6)(ts:B0):List T:=(vL ks).map λk=>.lst [.str k,zV k ks ts]
theorem zDz(ks:C6)(ts:B0):xE (gP ks ts)=(vL ks).map λk=>C.row [.str k,zEo k ks (xE ts)]:=by
 rw[jM,gP,sC];refine rK λk _=>?_;show C.row [.str k,zM (zV k ks ts)]=_;rw[qM]
theorem mem_sortK{k:List Nat}{ks:C6}:k∈vL ks↔k∈ks:=(vI ks).mem_iff
theorem zHa{ts:B0}(h:∀t∈ts,T.few t):d9 ts:=by
 induction ts with|nil=>exact mS|cons t ts a=>exact{h t mE,a λu b=>h u (mI _ b)}
theorem yDp{n:Nat}{ts:B0}(h:∀t∈ts,l7 t<=n):i8 ts<=n:=by
 induction ts with|nil=>exact nL _|cons t ts a=>exact Nat.max_le.mpr {h t mE,a λu b=>h u (mI _ b)}
theorem zKm{ks:C6}{ts:B0}(b:ks...*=ts...*)(h:d9 ts):d9 (gP ks ts):=by
 refine zHa λt a=>?_;obtain⟨k,c,rfl⟩:=nZ.mp a;exact{by simp,mS,b9 h (yY (mem_sortK.mp c) b),mS}
theorem zNs{ks:C6}{ts:B0}(b:ks...*=ts...*):i8 (gP ks ts)<=i8 ts+1:=by
 refine yDp λt a=>?_;obtain⟨k,c,rfl⟩:=nZ.mp a;let:=j8 (yY (mem_sortK.mp c) b);show max 0 (max (l7 (zV k ks ts)) 0)+1<=_
 lia
theorem zEk(ks:C6)(ts:B0):(gP ks ts)...*=ks...*:=by
 rw[gP,mM];exact(vI ks).length_eq
theorem wT(ts:B0):(xE ts)...*=ts...*:=by rw[jM,mM]
theorem gF{ts:B0}{i:Nat}{t:T}(h:ts[i]? =Y t):(xE ts)[i]? =Y (zM t):=by rw[jM,nG,h];rfl
theorem d8{H:Hp}{ps:D0}{ks:C6}{us:B0}(f:ks.Nodup)(g:ps.map (·.1)=ks.map λk=>(Sum.inr (tx k):Key))(n:Reps H (ps.map (·.2)) us){k:List Nat}(m:k∈ks):
  ∃v,jD ps (Sum.inr (tx k))=Y v/\Rep H v (zV k ks us):=by
 obtain⟨j,e⟩:=bF.mp m;let c:(ps.map (·.1))[j]? =Y (Sum.inr (tx k):Key):=by rw[g,nG,e];rfl
 rw[nG] at c
 cases a:ps[j]? with
 |none=>rw[a] at c;cases c|some d=>
  rw[a] at c;let h:d.1=(Sum.inr (tx k):Key):=mW c;let b:ps[j]? =Y ((Sum.inr (tx k):Key),d.2):=by rw[a,<-h]
  obtain⟨t,l,o⟩:=n.get (i:=j) (v:=d.2) (by rw[nG,a];rfl);refine{d.2,zDf (by rw[g];exact zBn f) b, ?_};rw[zEa f e l];exact o
def LtM(P:V3)(w:V4)(A:Around)(s:V2)(u v:V0)(b:Bool):Prop:=∀(E:C9)(Q:C9),Q (.bool b) s->V8 (S5 P w) A (richCompare .Lt u v) Q E s
def EqB(P:V3)(w:V4)(A:Around)(s:V2)(u v:V0)(b:Bool):Prop:=∀(E:C9)(Q:Bool->V2->Prop),Q b s->V8 (S5 P w) A (eqBool u v) Q E s
inductive Zc (P:V3) (w:V4) (A:Around) (s:V2):List V0->List V0->Int->Prop
 |nil:Zc P w A s [] [] 0
 |less {y:V0} {ys:B7}:Zc P w A s [] (y::ys) (-1)
 |more {x:V0} {xs:B7}:Zc P w A s (x::xs) [] 1
 |eq {x y:V0} {xs ys:B7} {c:Int}:EqB P w A s x y true->Zc P w A s xs ys c->Zc P w A s (x::xs) (y::ys) c
 |ne {x y:V0} {xs ys:B7} {c:Int}:EqB P w A s x y false->LtM P w A s x y (decide (c<0))->c≠0->Zc P w A s (x::xs) (y::ys) c
section
variable{P:V3}{w:V4}{A:Around}{s:V2}{E:C9}
end
section
variable{X:Cx}{pins:C7}{σ:St}{H:Hp}{s:V2}
end
end L2
namespace L2
open PySem PySem.Spec PyProof.Rows
mutual
def C.ok:C->Prop
 |.odd=>False|.row cs=>C.oks cs|.rcd cs=>o0 cs|.non=>True|.bl _=>True|.int _=>True|.str _=>True
def C.oks:List C->Prop
 |[]=>True|c::a=>C.ok c/\C.oks a
def o0:List C->Prop
 |[]=>True|c::a=>C.okq c/\o0 a
def C.okq:C->Prop
 |.row cs=>C.okl cs|.non=>False|.bl _=>False|.int _=>False|.str _=>False|.rcd _=>False|.odd=>False
def C.okl:List C->Prop
 |[]=>False|c::a=>(∃k,c= .str k)/\a...*=1/\C.oks a
end
theorem d5{n:Nat}{ts:B0}(h:∀t∈ts,T.dep t<=n):T.deps ts<=n:=by
 induction ts with|nil=>exact nL _|cons t ts a=>exact Nat.max_le.mpr {h t mE,a λu b=>h u (mI _ b)}
section
variable{X:Cx}
end
end L2
namespace L2
open PySem PySem.Spec PyProof.Rows
section
variable{X:Cx}{e k:Expr}{te:TE}{tk:TO}{pos p2:Pos}
end
mutual
def T.calm:T->Prop
 |.int i=>-(10 ^ 12)<=i/\i<=10 ^ 12|.str x=>x...*<=100|.lst ts=>k7 ts|.dic _ ts=>k7 ts|.tup ts=>k7 ts|.non=>True|.bl _=>True
def k7:List T->Prop
 |[]=>True|t::ts=>T.calm t/\k7 ts
end
structure Fit(d z:Nat)(t:T):Prop where
 few:T.few t
 calm:T.calm t
 dep:T.dep t<=d
 sz:T.sz t<=z
theorem zAs{K:A6}{H:Hp}{p:V1}{xs:B3}{i:Int}{Q:VK}(h:H p=Y (.lst xs))(d:0<=i)(c:i<xs...*)(q:∀x∈xs,Q x H):zXc K (.ref p) (.int i) H Q:=by
 obtain⟨x,b,a⟩:=uH d c;exact yG (SqL.of h) b (q x a)
theorem kH:∀(n:Nat)(t:T),T.dep t<=n->T.few t->T.pure t:=by
 intro n
 induction n with
 |zero=>
  intro t b a
  cases t with|lst ts=>exact absurd b (tX _)|dic f ts=>exact absurd b (tX _)|tup ts=>exact a.elim|_=>exact mS
 |succ n e=>
  let all:∀ts:List T,T.deps ts<=n->d9 ts->j9 ts:=by
   intro ts
   induction ts with
   |nil=>intros;exact mS|cons t ts c=>
    intro b a;let d:max (T.dep t) (T.deps ts)<=n:=b;exact{e t ∅ a.1,c ∅ a.2}
  intro t b a
  cases t with|lst ts=>exact all ts (Nat.le_of_succ_le_succ b) a.2|dic f ts=>exact{a.1,all ts (Nat.le_of_succ_le_succ b) a.2.2.2}|tup ts=>exact a.elim|_=>exact mS
section
variable{P:V3}{w:V4}
end
section
variable{X:Cx}
end
end L2
namespace L2
open PySem PySem.Spec PyProof.Rows
theorem zRr(xs:B3)(i:Nat):jV xs none ↥(i:Int)=xs.take i:=by
 unfold jV;rw[HT.sIx_nat];show(xs.drop 0).take (min i xs...* - 0)=_;rw[tF,cN]
 by_cases h:i<=xs...*
 ·rw[bM h]
 ·rw[bC ∅,pH,rH ∅]
theorem zWm(xs:B3)(i:Nat):jV xs ↥(i:Int) none=xs.drop i:=by
 unfold jV;rw[HT.sIx_nat];show(xs.drop (min i xs...*)).take (xs...* - min i xs...*)=_
 by_cases h:i<=xs...*
 ·rw[bM h,rH (by rw[pZ];lia)]
 ·rw[bC ∅,sS,pY ∅,List.take_nil]
theorem zLf(xs:B3):jV xs none ↥(-1)=xs.take (xs...* - 1):=by
 unfold jV;show(xs.drop 0).take ((-1+(xs...*:Int)).toNat - 0)=_;rw[tF,cN]
 congr 1
 lia
theorem Reps.take{H:Hp}:∀{xs:B3}{us:B0}(i:Nat),Reps H xs us->Reps H (xs.take i) (us.take i)
 |xs,us,0,_=>by rw[List.take_zero,List.take_zero];exact O|xs,[],i+1,h=>by cases (show xs= [] from h);exact O|xs,u::us,i+1,⟨x,r,e,b,a⟩=>by
  subst e;rw[List.take_succ_cons,List.take_succ_cons];exact{x,_,O,b,Reps.take i a}
theorem Reps.drop{H:Hp}:∀{xs:B3}{us:B0}(i:Nat),Reps H xs us->Reps H (xs.drop i) (us.drop i)
 |xs,us,0,h=>by rw[tF,tF];exact h|xs,[],i+1,h=>by cases (show xs= [] from h);exact O|xs,u::us,i+1,⟨x,r,e,b,a⟩=>by
  subst e;rw[List.drop_succ_cons,List.drop_succ_cons];exact Reps.drop i a
theorem szs_append:∀(a b:B0),T.szs (a++b)=T.szs a+T.szs b
 |[],b=>by show T.szs b=0+T.szs b;lia|u::a,b=>by
  show T.sz u+T.szs (a++b)=T.sz u+T.szs a+T.szs b;rw[szs_append a b];lia
theorem sz_pos:∀(t:T),1<=T.sz t
 |.lst ts=>rA (nL _)|.dic _ ts=>rA (nL _)|.tup ts=>rA (nL _)|.non=>mD _|.bl _=>mD _|.int _=>mD _|.str _=>mD _
theorem zPe:∀(ts:B0),ts...*<=T.szs ts
 |[]=>mD _|t::ts=>by
  let:=zPe ts;let:=sz_pos t;show ts...*+1<=T.sz t+T.szs ts
  lia
section
variable{X:Cx}{pins:C7}{σ σ':St}{H H':Hp}{s s':V2}
theorem Inv.freezeL{d:V1}{xs:B3}{o:Obj}(I:Inv X pins σ H s)(h:H d=Y (.lst xs))(i:s.heap.get? d=Y o):Inv X pins σ (upd H d (.frz o (.lst xs))) s:=by
 let c:∀b u,H b=u->u≠Y (.lst xs)->b≠d:=λb u e n z=>by subst z;exact n (e.symm.trans h)
 refine I.sim (λb e=>by rw[zK (c b _ e (by intro z;cases z))];exact e) (λb a e=>by rw[zK (c b _ e (by intro z;cases z))];exact e) (λb a e=>by rw[zK (c b _ e (by intro z;cases z))];exact e)
  (λb a e=>by rw[zK (c b _ e (by intro z;cases z))];exact e) (λb j u e=>?_) λb u e=>?_
 ·let f:=I.base.frzs b j u e
  rw[zK (c b _ f (by intro z;cases z))];exact f
 ·by_cases g:b=d
  ·subst g
   rw[zC] at e;cases e;exact .inr (.inr ⟨o,_,O,h,i⟩)
  ·rw[zK g] at e;exact .inl e
def zOg(d:V1)(t:TE):TE:=λσ H Q=>(∃a,H d=Y (.dK a)/\∀o,t σ (upd H d (.frz o (.dK a))) λv H'=>Q v (thaw H H'))\/∃b,H d=Y (.lst b)/\∀o,t σ (upd H d (.frz o (.lst b))) λv H'=>Q v (thaw H H')
def zHi(t:TE):TE:=λσ H Q=>∃d,zOg d t σ H Q
theorem zDi{e:Expr}{t:TE}(h:PE X e t):PE X e (zHi t):=by
 intro pins s σ H Q I q;obtain⟨d,⟨l,a,q⟩|⟨m,a,q⟩⟩:=q
 ·obtain⟨_,_,j,_,D⟩:=zTc I.hok a
  obtain⟨o,f,_⟩:=D.typeIs;exact thn (h pins s σ _ _ (I.freeze a f) (q o)) λu i ⟨v,g,b,r,c⟩=>{v,_,I.thaw b,r,c}
 ·refine yX (I.list (SqL.of a)) λj p k _=>?_
  ext wB k o n f _;exact thn (h pins s σ _ _ (I.freezeL a f) (q o)) λu i ⟨v,g,b,r,c⟩=>⟨v,_,I.thaw b,r,c⟩
end
def xN(H:Hp)(d:V1):Hp:=λb=>if b=d then none else H b
theorem xG{H:Hp}{d b:V1}(h:b≠d):xN H d b=H b:=mH h
theorem kC{H:Hp}{d:V1}:xN H d d=none:=mJ O
theorem qV{H:Hp}{d:V1}{u:HO}:xN (upd H d u) d=xN H d:=by
 funext b
 by_cases h:b=d
 ·subst h;rw[kC,kC]
 ·rw[xG h,xG h,zK h]
theorem zFh{H:Hp}{d:V1}{u:HO}:Same (xN H d) (upd H d u):=λb v e=>by
 by_cases h:b=d
 ·subst h;rw[kC] at e;cases e
 ·rw[xG h] at e;rw[zK h];exact e
theorem hide_self{H:Hp}{d:V1}:Same (xN H d) H:=λb v e=>by
 by_cases h:b=d
 ·subst h;rw[kC] at e;cases e
 ·rw[xG h] at e;exact e
theorem yV{H a:Hp}{d:V1}(h:Same H a):Same (xN H d) (xN a d):=λb v e=>by
 by_cases c:b=d
 ·subst c;rw[kC] at e;cases e
 ·rw[xG c] at e⊢;exact h b v e
theorem Rep.off{H a:Hp}{d:V1}{o:Obj}{u:HO}(f:a d=Y (.frz o u)){v:V}{t:T}(h:Rep a v t):Rep (xN (L2.thaw H a) d) v t:=
 Rep.plain (λb w n e=>by
  let c:b≠d:=λz=>by subst z;rw[f] at e;cases e;exact n _ _ O
  rw[xG c];exact wX e n) v t h
noncomputable def gQ:Nat->Nat
 |0=>1|d+1=>4*gQ d+1
theorem uO:∀d,1<=gQ d
 |0=>mD _|d+1=>rA (nL _)
theorem zSr:∀d,d<=4->gQ d<=341:=by
 intro d h;let:d=0\/d=1\/d=2\/d=3\/d=4:=by lia
 rcases this with rfl | rfl | rfl | rfl | rfl<;>decide
theorem zBy{n:Nat}:∀{ts:B0},(∀t∈ts,T.sz t<=n)->T.szs ts<=ts...**n
 |[],_=>nL _|t::ts,h=>by
  let c:=h t mE;let b:=zBy (ts:=ts) λu a=>h u (mI _ a);show T.sz t+T.szs ts<=(ts...*+1)*n;rw[Nat.add_mul];lia
theorem zUa{X:Cx}{K:A6}(h:X.K=K):IxR X (zXc K):=by subst h;exact zS
end L2
namespace L2
open PySem PySem.Spec PyProof.Rows PySem.Builtin PySem.Builtin.Str
section
variable{prog:V3}{w:V4}{A:Around}{E:C9}{s:V2}{x y:Str}{t u:Tok}{Q:C9}
end
section
variable{X:Cx}
end
structure Bl3(mg:C8):Prop extends Bl2 mg where
 abs:mg "abs" =none
end L2
namespace L2
open PySem PySem.Spec PyProof.Rows
noncomputable def xM(a:List Int)(k:Int):Int:=
 let m:=if a= [] then k*7919 else(k*7919+k / a...**104729+a.getD (k % a...*).toNat 0*48271)% 1000003
 (m*m / 11+13*m)% 1000003
theorem wR(a:List Int)(k:Int):0<=xM a k:=rW _ ∎
theorem wV(a:List Int)(k:Int):xM a k<1000003:=rP _ ∎
noncomputable def yL(n:List Nat)(t:T):List (List Nat)->List T->List T
 |k::b,u::a=>(if k=n then t else u)::yL n t b a|_,a=>a
noncomputable def yZ(p:List (List Nat)×List T)(n:List Nat)(t:T):List (List Nat)×List T:=if n∈p.1 then(p.1,yL n t p.1 p.2) else(p.1++ [n],p.2++ [t])
theorem kO(n:List Nat)(t:T):∀(ks:C6)(us:B0),(yL n t ks us)...*=us...*
 |[],us=>by unfold yL;rfl|_::_,[]=>rfl|k::ks,u::us=>by
  show(yL n t ks us)...*+1=us...*+1;rw[kO n t ks us]
theorem uN(n:List Nat)(t:T):∀(ks:C6)(us:B0)(u:T),u∈yL n t ks us->u∈us\/u=t
 |[],us,u,h=>by unfold yL at h;exact .inl h|_::_,[],u,h=>.inl h|k::ks,v::us,u,h=>by
  let a:u∈(if k=n then t else v)::yL n t ks us:=h;rcases mG.mp a with z | z
  ·split at z
   ·exact .inr z
   ·exact .inl (by rw[z];exact mE)
  ·exact(uN n t ks us u z).imp (mI _) id
theorem k6{H:Hp}{n:List Nat}{v:V}{t:T}(b:Rep H v t):∀{ps:D0}{ks:C6}{us:B0},ps.map (·.1)=ks.map nK->Reps H (ps.map (·.2)) us->Reps H ((ps.map λkv=>if kv.1=nK n then(kv.1,v) else kv).map (·.2)) (yL n t ks us)
 |[],[],us,_,h=>by
  let e:yL n t [] us=us:=by unfold yL;rfl
  rw[e];exact h
 |[],_::_,_,e,_=>by simp at e|_::_,[],_,e,_=>by simp at e|p::ps,k::ks,[],_,h=>by
  let w:(p::ps).map (·.2)= []:=h;cases w
 |p::ps,k::ks,u::us,e,⟨o,r,j,q,f⟩=>by
  let l:p.2::ps.map (·.2)=o::r:=j;injection l with m g;subst m g;let i:p.1::ps.map (·.1)=nK k::ks.map nK:=e;injection i with c s;let d:=k6 (n:=n) b s f
  by_cases a:k=n
  ·refine{v,_, ?_, ?_,d}
   ·rw[nD,mJ (by rw[c,a]),nD]
   ·rw[mJ a];exact b
  ·refine{p.2,_, ?_, ?_,d}
   ·rw[nD,mH (by rw[c];exact λz=>a (zBv z)),nD]
   ·rw[mH a];exact q
theorem zJb{H:Hp}{ps:D0}{p:List (List Nat)×List T}{n:List Nat}{v:V}{t:T}(b:ps.map (·.1)=p.1.map nK)(j:Reps H (ps.map (·.2)) p.2)(g:Rep H v t):
  (vQ ps (nK n) v).map (·.1)=(yZ p n t).1.map nK/\Reps H ((vQ ps (nK n) v).map (·.2)) (yZ p n t).2:=by
 let i:(ps.any λa=>decide (a.1=nK n))=true↔n∈p.1:=by
  rw[cL];constructor
  ·rintro⟨a,f,e⟩
   let:nK n∈ps.map (·.1):=nZ.mpr {a,f,sX e};rw[b] at this;obtain⟨k,d,c⟩:=nZ.mp this;rw[<-zBv c];exact d
  ·intro h
   let:nK n∈ps.map (·.1):=by rw[b];exact nZ.mpr ⟨n,h,O⟩
   obtain⟨a,d,c⟩:=nZ.mp this;exact{a,d,nO c}
 unfold vQ yZ
 by_cases h:n∈p.1
 ·rw[mJ (i.mpr h),mJ h]
  refine{?_,k6 g b j};show _=p.1.map nK;rw[<-b,sC];apply rK;intro q _;show(if q.1=nK n then(q.1,v) else q).1=q.1;split<;>rfl
 ·rw[mH (λz=>h (i.mp z)),mH h]
  exact{by rw[nH,b,nH];rfl,by rw[nH];exact Reps.snoc g j}
end L2
namespace L2
open PySem PySem.Spec PyProof.Rows PySem.Builtin PySem.Builtin.Str
theorem zMc{k:List Nat}(h:xA k=true):k...*<=12:=by
 unfold xA at h;simp only[nX,pO] at h
 lia
end L2
namespace L2
open PySem PySem.Spec PyProof.Rows
section
variable{X:Cx}
def zXg(t u:TE):TE:=λσ H Q=>t σ H Q\/u σ H Q
theorem zCl{e:Expr}{t u:TE}(c:PE X e t)(b:PE X e u):PE X e (zXg t u):=λa s σ H Q I h=>h.elim (c a s σ H Q I) (b a s σ H Q I)
end
noncomputable def yDz:T->List T
 |.lst us=>(List.range us...*).map fun(i:Nat)=>T.int (i:Int)|.dic ks _=>(vL ks).map T.str|_=>[]
noncomputable def kid:T->T->T
 |.lst a, .int i=>a.getD i.toNat .non|.dic ks a, .str k=>zV k ks a|_,_=>.non
theorem zOp{t s:T}(h:T.few t)(d:s∈yDz t):T.few (kid t s)/\T.dep (kid t s)<T.dep t/\T.sz (kid t s)<T.sz t:=by
 cases t with
 |lst a=>
  obtain⟨i,c,rfl⟩:=nZ.mp d;let c:=bU.mp c;let e:kid (.lst a) (T.int (i:Int))=a[i]:=by
   show a.getD (i:Int).toNat .non=_;rw[tR,aA,mU c];rfl
  rw[e];let b:a[i]∈a:=bB c;exact{b9 h.2 b,aW (b7 b),aW (d4 b)}
 |dic m a=>
  obtain⟨k,l,rfl⟩:=nZ.mp d;ext xI h n g j f;let b:zV k m a∈a:=yY (mem_sortK.mp l) j;exact{b9 f b,aW (b7 b),aW (d4 b)}
 |_=>cases d
section
variable{X:Cx}{pins:C7}{σ:St}{H:Hp}{s:V2}{h':V5}
theorem Inv.turnedNew{fp:B9}{a:V1}{o:HO}{t':Nat}(I:Inv X pins σ H s)(l:∀b∈fp,zBq X pins H b)(k:∀b d,b∉fp->s.heap.get? b=Y d->h'.get? b=Y d)(t:s⁻¹<=a)
  (j:ObjOk X.prog X.w (upd H a o) h' a o):Inv X pins σ (upd H a o) {s with heap:=h',toks:=t'}:=by
 let g:H a=none:=I.hok.fresh t;let h:∀b u,H b=Y u->b∉fp:=λb u e z=>by rw[(l b z).1] at e;cases e
 let p:∀b d,s.heap.get? b=Y d->b≠a:=λb d e=>nN (nF (mQ e) t);refine I.step (g':=s.gens) (d':=s.drawn) (ch:=fp) (λb i=>?_) (λb d _ _ f e _=>k b d f e) (λb d _ _ f e _=>{d.slots,k b d f e}) (λb d _ e n=>by rw[zK (p b d e)];exact n)
  (λb d f e=>{d,k b d f e}) (λb w e=>by rw[zK (yD e g)];exact e) (λb d u e=>by rw[zK (yD e g)];exact e) (λb M e=>{#[],by rw[zK (yD e g),e];simp}) (λm y=>?_) (λb u e=>?_) I.bare
 ·refine zQ (l b i) λ_ L _ B E D=>?_
  exact⟨B,L,E,D⟩
 ·ext zAr y d J x A r
  exact{d,J,x,k _ d (λz=>(l _ z).2.1 O) A,r}
 ·by_cases i:b=a
  ·subst i;rw[zC] at e;cases e;exact j
  ·rw[zK i] at e
   refine(I.hok b u e).stay (λc v f q=>k c v ?_ q) (λc q=>by rw[zK (yD q g)];exact q) λc w q=>by rw[zK (yD q g)];exact q
   rcases f with z | z
   ·rw[z];exact h b u e
   ·exact h c _ z
end
def Iti(d:V1)(o:Obj)(kvs:D0):It:=
 ⟨λi H=>i<kvs...*/\H d=Y (.frz o (.dK kvs)),λi H y b=>∃p a,H p=none/\kvs[i]? =Y a/\y= .ref p/\b=upd H p (.tup [kV a.1,a.2]),λi H=>kvs...*<=i/\H d=Y (.frz o (.dK kvs))⟩
theorem zUb:entryFor table "dict_itemiterator.__iter__" =some Builtin.«dict_keyiterator.__iter__»:=
 entryFor_alias (by kernel_rfl) O (by decide+kernel) (by kernel_rfl) (id':="dict_keyiterator.__iter__")
theorem zMw{P:V3}{w:V4}{K:A6}{D:C5}{x1:Nat}{ac:Pos}(d it:V1)(o:Obj)(kvs:D0):
  zEx P w K (.Tuple D x1 ac) (Iti d o kvs) [it] it (λi h=>∃g ep j p,o.data= .dict g ep/\IsItemIter h it d i kvs...* ep j p) where
 mem:=by simp
 obj:=λi h st b n=>by
  ext yK st g ep j p _ e;let e':b=it:=by simpa using n
  subst e';exact{_,e,λv z=>by cases z}
 keep:=λi h h' st k=>by
  ext yK st g ep j p a st;exact{g,ep,j,p,a,k it (by simp) _ st}
 item:=by
  intro X hP hw hK hc i t s σ H E I M st m;subst hP hw hK;ext yK st g ep j p c st;obtain⟨hi,m⟩:=m;refine qD (zAa I.hok m c) λvs f hm _ _=>?_;let N:=f...*;obtain⟨u,B⟩:∃u,kvs[i]? =Y u:={kvs[i],by simp[hi]};refine yX (KV.get f B) λq hq aa ae=>?_;rw[N] at st;let x:it<s⁻¹:=mQ st;refine wpAny_pyNext_items_item (k:=q.1) (v:=q.2) st hm hq λl h1 hk so ht hz r=>{_,O, ?_};refine wpAny_letOwnedTupleGo_items so λh2 ab L=>?_;let L:Heap.SameBut it h1 h2:=L;let af:h2.get? s⁻¹=some {cls:=.type "tuple",data:=.seq #[l,q.2]}:=(L.2 _ (rM x)).trans ht;let y:H s⁻¹=none:=I.hok.fresh (mD _);refine{.ref s⁻¹,upd H s⁻¹ (.tup [kV u.1,u.2]),I.turnedNew (t':=s.toks) M (λb ob n e=>?_) (mD _) ?_,O,⟨_,u,y,B,O,O⟩,{g,ep,l,q.2,c,by rw[N];exact ab},λb n=>?_}
  ·let J:b≠it:=by simpa using n
   exact(L.2 b J).trans (r b ob J e)
  ·refine{by rw[mV];simp,[l,q.2], .cons (by rw[aa];exact zHm hk) (.cons ae .nil),⟨_,af,O,_,O⟩}
  ·let e:b=it:=by simpa using n
   subst e;rw[zK (nN x)];exact(M _ (by simp)).1
 done:=by
  intro X hP hw hK hc i t s σ H E I M st m;subst hP hw hK;ext yK st g ep j p c st;obtain⟨hi,m⟩:=m;refine qD (zAa I.hok m c) λvs f hm _ _=>?_;refine zQ (M it (by simp)) λf0 f1 f2 f3 f4 f5=>?_;let N:=f...*;rw[N] at st;exact wpAny_pyNext_items_end (I.ok.hd hc) st hm (by simp;lia) λh' eb=>{O,I.turned (t':=s.toks) (λb o n e=>eb b o n e) f0 f1 f3 f4 f5}
 self:=λA i s Q E st h=>by
  ext yK st g ep j p _ st;let hT:s.TypeIs (.ref it) "dict_itemiterator":=⟨_,st,O⟩;refine wpAny_pyIter_slot hT bP (wpAny_call_entry bP hT zUb ?_ (F.args_dict_itemiterator_iter_1 _));show V8 _ _ (ret (.ref it)) _ _ s;exact mY {_,O,"dict_itemiterator",_,hT,F.slot_dict_itemiterator_next.lookup,h}
noncomputable def zFo(p d:V1):HO:=.ext λh=>h.IsItemsView p d
def yDx:V->List V->Hp->VK->Prop:=λx b H Q=>∃d a,x= .ref d/\b= []/\Rd H d (.dK a)/\∀p,H p=none->Q (.ref p) (upd H p (zFo p d))
def yEe(c:TE):TI:=λσ H R=>c σ H λx b=>∃p d a,x= .ref p/\b p=Y (zFo p d)/\((b d=Y (.dK a)/\∀o,R (Iti d o a) (upd b d (.frz o (.dK a))))\/∃o,b d=Y (.frz o (.dK a))/\R (Iti d o a) b)
section
variable{X:Cx}
theorem zTo:MtR X "dict.items" yDx:=by
 intro g s σ H x A v w Q I m l h;ext zX h d p a c n q;subst a c;cases m;cases l;obtain⟨z,j,i,t,f⟩:=kK I.hok n;refine call_meetsIn PySem.F.slot_dict_items f.typeIs PySem.F.entry_dict_items (PySem.F.args_dict_items_1 _) (meets_dict_items (yW X.prog X.w) d j) {⟨i,f⟩, ?_};refine{.ref s⁻¹,_,I.laid (t':=s.toks) (λb o e=>mL _ e) (mD _) (o:=zFo s⁻¹ d) ?_,O,q _ (I.hok.fresh (mD _))};exact⟨{_,nI _ O,O,O},{_,nI _ O},λy u ⟨o,e,r⟩ k=>⟨o,k o e,r⟩⟩
theorem zUk{j:C5}{N:Nat}{n:Pos}{l:Expr}{L:TE}(hl:PE X l L):PI X (.Tuple j N n) l (yEe L):=by
 intro a s σ H R I h;refine thn (hl a s σ H _ I h) λv i ⟨x,J,y,Q,q1⟩=>?_;ext zZ q1 p d f D hp q;subst D;cases Q;obtain⟨hv,_⟩:=(show ObjOk X.prog X.w J i.heap p (zFo p d) from y.hok p _ hp);let u:∀o m,Inv X a σ m i->m d=Y (.frz o (.dK f))->R (Iti d o f) m->V8 (S5 X.prog X.w) X.A (pyIter (.ref p)) (PIE X a σ (.Tuple j N n) R) X.xe i:=λo m A e q=>by
  obtain⟨g,z,hd,M,t,o',E,B,w,c,k,r⟩:=(show ObjOk X.prog X.w m i.heap d (.frz o (.dK f)) from A.hok d _ e);rw[g] at w;cases w;let hm:i.heap.DictAt (yW X.prog X.w) d M B:=⟨o,E,g,c,k,r⟩;refine wpAny_pyIter_items hv hm ?_;refine⟨i⁻¹,[i⁻¹],_,_,m,O,A.kept (t':=i.toks) λb o e=>mL _ e,zMw d _ o f,⟨E,B, .none, .none,k, ?_⟩,λb hb=>?_,q⟩
  ·rw[t...*];exact nI _ O
  ·let e:b=i⁻¹:=by simpa using hb
   subst e;exact A.fpOk (mD _) (A.hok.fresh (mD _))
 rcases q with⟨e,q⟩|⟨o,e,q⟩
 ·obtain⟨z,hd,M,t,o,E,B,w,_⟩:=(show ObjOk X.prog X.w J i.heap d (.dK f) from y.hok d _ e)
  exact u o _ (y.freeze e w) zC (q o)
 ·exact u o _ y e q
end
abbrev g2(K:A6):TG:=zTf K 2 (zIm (qU 0) (zIm (qU 1) zXr))
theorem zTa{F:List (Option V)}{x y:V}:yCy (Y x::Y y::F) (none::none::F):={O,λi v e=>by
 match i,e with
 |0,e=>cases e|1,e=>cases e|i+2,e=>exact e}
theorem zJe{K:A6}{x y:Str}{F:D4}{J:It}{n:Nat}{j:TE}{σ:St}{Q:VK}{H1:Hp}(Pv:Nat->List V->Hp->Prop)(s:n<=V9)(t:Pv 0 [] H1)(f:∀i b H,i<n->Pv i b H->J.go i H)
  (h:∀b H,Pv n b H->J.stop n H)
  (D:∀i b H z d,i<n->b...*<=i->Pv i b H->J.yld i H z d->∃a u v,z= .ref a/\SqT K d a [u,v]/\j (Y u::Y v::F.map (λp=>(σ[p.2]?).join)) d λr H4=>Pv (i+1) (b++ [r]) H4)
  (l:∀b H,b...*<=n->Pv n b H->∀p,H p=none->Q (.ref p) (upd H p (.lst b))):wG [x,y] F (g2 K) zCz j σ Q J H1:=by
 refine{λi m b H=>m=n - i/\i<=n/\Pv i b H,{n,by simp,nL _,t}, ?_};rintro i m b H ⟨rfl,I,p⟩ k
 by_cases c:i<n
 ·refine .inr {f i b H c p,∅,Pv (i+1),λA E q=>{n - (i+1),∅,O,c,q},λz d w=>?_}
  refine zZ (D i b H z d c k p w) λa u v g B o=>?_;subst g;refine{a,[u,v],O,B,O,u,[v],O,v,[],O,O, ?_};exact⟨zTa,o⟩
 ·let e:i=n:=by lia
  subst e;exact .inl {h b H p,s,l b H k p}
theorem zMt{K:A6}{x y:Str}{F:D4}{d:V1}{o:Obj}{kvs:D0}{g:TE}{σ:St}{Q:VK}{H1:Hp}(Pv:Nat->List V->Hp->Prop)(l:kvs...*<=V9)(n:Pv 0 [] H1)(hz:∀i a H,Pv i a H->H d=Y (.frz o (.dK kvs)))
  (s:∀i b a H p,kvs[i]? =Y b->a...*<=i->Pv i a H->H p=none->g (Y (kV b.1)::Y b.2::F.map (λp=>(σ[p.2]?).join)) (upd H p (.tup [kV b.1,b.2])) λz H4=>Pv (i+1) (a++ [z]) H4)
  (k:∀a H,a...*<=kvs...*->Pv kvs...* a H->∀p,H p=none->Q (.ref p) (upd H p (.lst a))):wG [x,y] F (g2 K) zCz g σ Q (Iti d o kvs) H1:=
 zJe Pv l n (λi a H h p=>{h,hz i a H p}) (λa H p=>{mD _,hz _ a H p}) (λi a H z u t j m r=>by
  ext zX r p b q f c e;subst c e;exact{p,_,_,O, .of zC,s i b a H p f j m q}) k
def Ite(K:A6)(l:V1):It:=
 {λi H=>∃a x,SqL K H l a/\a[i]? =Y x,λi H y b=>∃p x,H p=none/\y= .ref p/\(∀a,SqL K H l a->a[i]? =Y x)/\b=upd H p (.tup [.int i,x]),λi H=>∃a,SqL K H l a/\a...*<=i}
theorem zPz{P:V3}{w:V4}{K:A6}{y:C5}{x1:Nat}{N:Pos}(l e it:V1)(A:e≠it):
  zEx P w K (.Tuple y x1 N) (Ite K l) [e,it] e (λi h=>(∃old,IsEnum h e it (i:Int) old)/\h.IsListIter it l i) where
 mem:=by simp
 obj:=λi h st b a=>by
  obtain⟨⟨old,f⟩,o,e1,c,d⟩:=st;rcases mG.mp a with z | z
  ·subst z
   exact{_,f,λv z=>by cases z}
  ·let L:b=it:=by simpa using z
   subst L;exact{o,e1,λv z=>by rw[d] at z;cases z}
 keep:=λi h h' st k=>by
  obtain⟨⟨old,f⟩,st⟩:=st;exact⟨{old,k e (by simp) _ f},st.at λo q=>k it (by simp) o q⟩
 item:=by
  intro X Q hw hK hc i j s σ H E I n st M;subst Q hw hK;obtain⟨⟨old,f⟩,st⟩:=st;ext wB M xs x D hx;refine yX (I.list D) λac rv p hz=>?_;obtain⟨u,hu,ru⟩:=rv.get hx;let r:e<s⁻¹:=mQ f;let af:it<s⁻¹:=by obtain⟨o,q,_⟩:=id st;exact mQ q
  refine wpAny_pyNext_enum_item f st p.isList (x:=u) (by simpa using hu) A λh1 so ae ht ag g=>{_,O, ?_};refine wpAny_letOwnedTupleGo_enum so λh2 J m=>?_;let m:Heap.SameBut e h1 h2:=m;let ab:h2.get? s⁻¹=some {cls:=.type "tuple",data:=.seq #[.int i s.toks,u]}:=(m.2 _ (rM r)).trans ht;let t:H s⁻¹=none:=I.hok.fresh (mD _);refine{.ref s⁻¹,upd H s⁻¹ (.tup [.int i,x]),I.turnedNew (t':=s.toks+1) n (λb ob a q=>?_) (mD _) ?_,O,{_,x,t,O,λys hy=>by rw[I.list_inj hy D];exact hx,O},{{u, ?_}, ?_},λb a=>?_}
  ·let B:b≠e:=λz=>a (by simp[z])
   let aa:b≠it:=λz=>a (by simp[z]);exact(m.2 b B).trans (g b ob B aa q)
  ·exact{by rw[mV];simp,[.int i s.toks,u], .cons ⟨_,O⟩ (.cons ru .nil),⟨_,ab,O,_,O⟩}
  ·let:((i+1:Nat):Int)=(i:Int)+1:=by lia
   rw[this];exact J
  ·exact ae.at λo q=>(m.2 it (Ne.symm A)).trans q
  ·rcases mG.mp a with z | z
   ·subst z
    rw[zK (nN r)];exact(n _ (by simp)).1
   ·let L:b=it:=by simpa using z
    subst L;rw[zK (nN af)];exact(n _ (by simp)).1
 done:=by
  intro X Q hw hK hc i j s σ H E I n st M;subst Q hw hK;obtain⟨⟨old,f⟩,st⟩:=st;obtain⟨xs,D,hx⟩:=M;refine yX (I.list D) λac rv p hz=>?_;refine zQ (n it (by simp)) λf0 f1 f2 f3 f4 f5=>?_;let hl:=rv...*;exact wpAny_pyNext_enum_end (I.ok.hd hc) f st p.isList (by simp;lia) λh' eb=>{O,I.turned (t':=s.toks) (λb o a e=>eb b o a e) f0 f1 f3 f4 f5}
 self:=λ_ _ _ _ _ st h=>wpAny_pyIter_enum st.1.choose_spec h
def zSx(K:A6)(ta:TA):TI:=λσ H R=>ta σ H λc a=>∃l b,c= [.ref l]/\SqL K a l b/\R (Ite K l) a
theorem zHr:A1 "enumerate" =Y (.type "enumerate"):=by decide+kernel
theorem zOd{X:Cx}{m:C5}{x1:Nat}{k:Pos}{a:Expr}{ta:TA}{p j:Pos}(A:Gl X "enumerate")(M:X.mg "enumerate" =none)(E:PA X [a] ta)(J:A2 [a] X.env= [(false,eval a X.env)]:=by rfl):
  PI X (.Tuple m x1 k) (.Call (.Name "enumerate" p) [a] [] j) (zSx X.K ta):=by
 intro g s σ H R I h;refine Call_ (gJ I A M zHr (rC (thn (E j g s σ H _ I h) λus c ⟨vs,t,d,v,L⟩=>?_) J O));ext yM L l xs e N q;subst e
 cases v with
 |cons r w=>
  cases w;cases r;refine yX (d.list N) λx rv B hz=>?_;refine call_enumerate_list B.isList λh' u st Q f=>?_;refine wpAny_pyIter_enum (it:=c⁻¹) (i:=0) (old:=.none) u ?_;let n:t c⁻¹=none:=d.hok.fresh (mD _);let o:t (c⁻¹+1)=none:=d.hok.fresh (pP _);refine{c⁻¹+1,[c⁻¹+1,c⁻¹],_,_,t,O,d.kept (t':=c.toks) f,zPz l _ _ (Nat.succ_ne_self _),{{.none,u},st},λb D=>?_,q};rcases mG.mp D with z | z
  ·subst z;exact d.fpOk (pP _) o
  ·let y:b=c⁻¹:=by simpa using z
   subst y;exact d.fpOk (mD _) n
theorem zPw{K:A6}{x y:Str}{F:D4}{l:V1}{xs:B3}{d:TE}{σ:St}{Q:VK}{H1:Hp}(Pv:Nat->List V->Hp->Prop)(j:xs...*<=V9)(k:Pv 0 [] H1)(hz:∀i a H,i<=xs...*->Pv i a H->SqL K H l xs)
  (r:∀i v a H p,xs[i]? =Y v->a...*<=i->Pv i a H->H p=none->d (Y (.int i)::Y v::F.map (λp=>(σ[p.2]?).join)) (upd H p (.tup [.int i,v])) λz H4=>Pv (i+1) (a++ [z]) H4)
  (g:∀a H,a...*<=xs...*->Pv xs...* a H->∀p,H p=none->Q (.ref p) (upd H p (.lst a))):wG [x,y] F (g2 K) zCz d σ Q (Ite K l) H1:=
 zJe Pv j k (λi a H h p=>{xs,xs[i],hz i a H (tG h) p,by simp[h]}) (λa H p=>{xs,hz _ a H (mD _) p,mD _}) (λi a H z s q f e o=>by
  ext zX o p v n b m c;subst b c;exact{p,_,_,O, .of zC,r i v a H p (m xs (hz i a H (tG q) e)) f e n}) g
noncomputable def tyR(H:Hp):V->Option String
 |.ref a=>match H a with
  |some (.frz _ (.dK _))=>some "dict"|_=>tyS H (.ref a)
 |v=>tyS H v
theorem zWw{H:Hp}{x:V}{t:String}(h:tyR H x=Y t):t∈tyL:=by
 cases x with
 |ref a=>
  let c:(match H a with | some (.frz _ (.dK _))=>some "dict" | _=>tyS H (.ref a))=Y t:=h
  split at c
  ·cases c;simp[tyL]
  ·exact vG c
 |non=>exact vG (H:=H) (show tyS H .non=Y t from h)|bl b=>exact vG (H:=H) (show tyS H (.bl b)=Y t from h)|int b=>exact vG (H:=H) (show tyS H (.int b)=Y t from h)|str b=>exact vG (H:=H) (show tyS H (.str b)=Y t from h)|byt b=>exact vG (H:=H) (show tyS H (.byt b)=Y t from h)|flt b=>exact vG (H:=H) (show tyS H (.flt b)=Y t from h)|ty b=>exact vG (H:=H) (show tyS H (.ty b)=Y t from h)
theorem zMq{H:Hp}{x:V}{t:String}(h:tyS H x=Y t):tyR H x=Y t:=by
 cases x with
 |ref a=>
  show(match H a with | some (.frz _ (.dK _))=>some "dict" | _=>tyS H (.ref a))=Y t
  split
  ·rename_i o kvs e
   let b:(match H a with | some (.lst _)=>some "list" | some (.tup _)=>some "tuple" | some (.dK _)=>some "dict" | _=>none)=Y t:=h
   rw[e] at b;cases b
  ·exact h
 |_=>exact h
theorem zYo{H:Hp}{a:V1}{ps:D0}(h:Rd H a (.dK ps)):tyR H (.ref a)=some "dict":=by
 rcases h with h |⟨o,h⟩
 ·exact zMq (gU h)
 ·show(match H a with | some (.frz _ (.dK _))=>some "dict" | _=>tyS H (.ref a))=some "dict"
  rw[h]
section
variable{X:Cx}
theorem jI{T:String}(d:T∈tyL):wP X (.builtin "isinstance") (λxs H Q=>∃x t,xs= [x, .ty T]/\tyR H x=Y t/\Q (.bl (zT t T)) H):=by
 intro b s σ H xs j Q I r h;ext yM h x t c i q;subst c
 cases x with
 |ref a=>
  let g:(match H a with | some (.frz _ (.dK _))=>some "dict" | _=>tyS H (.ref a))=Y t:=i
  split at g
  ·rename_i o kvs e
   cases g;refine yM (zCu r) λu m c v f=>?_;subst c;cases (show m=Value.type T from f);cases (show u=Value.ref a from v);obtain⟨_,_,B,_,p⟩:=kK I.hok (.inr ⟨o,e⟩);ext zZ p l A y n k _;exact sV bW I.kIn ⟨l,n,k.1⟩ (zCi (by simp[tyL]) d) (λz=>nomatch z) λw=>{.bl _,H,I.tok _,O,q}
  ·exact zEt d b s σ H _ j Q I r ⟨_,t,O,g,q⟩
 |_=>exact zEt d b s σ H _ j Q I r ⟨_,t,O,i,q⟩
theorem zQx:wP X (.builtin "len") (λxs H Q=>∃a kvs,xs= [V.ref a]/\Rd H a (.dK kvs)/\Q (.int kvs...*) H):=by
 intro c s σ H xs g Q I r h;ext yM h a kvs b e q;subst b;obtain⟨u,rfl,f⟩:=jR r;cases f;exact zZo I e λt i d=>{.int kvs...*,H,d,⟨t,O⟩,q}
end
mutual
def Rp(H:Hp):V->T->Prop
 |v, .non=>v= .non|v, .bl b=>v= .bl b|v, .int i=>v= .int i|v, .str x=>v= .str (tx x)|v, .lst ts=>∃a c,v= .ref a/\H a=Y (.lst c)/\Rps H c ts|v, .dic e ts=>∃a d,v= .ref a/\Rd H a (.dK d)/\d.map (·.1)=e.map (λk=>(Sum.inr (tx k):Key))/\Rps H (d.map (·.2)) ts|v, .tup ts=>∃a c,v= .ref a/\H a=Y (.tup c)/\Rps H c ts
def Rps(H:Hp):List V->List T->Prop
 |vs,[]=>vs= []|vs,t::ts=>∃v r,vs=v::r/\Rp H v t/\Rps H r ts
end
mutual
theorem Rep.rp{H:Hp}:∀(v:V)(t:T),Rep H v t->Rp H v t
 |_, .non,h=>h|_, .bl _,h=>h|_, .int _,h=>h|_, .str _,h=>h|_, .lst ts,⟨a,d,c,b,e⟩=>{a,d,c,b,Reps.rp d ts e}|_, .dic i ts,⟨a,f,c,b,e,g⟩=>{a,f,c, .inl b,e,Reps.rp _ ts g}|_, .tup ts,⟨a,d,c,b,e⟩=>{a,d,c,b,Reps.rp d ts e}
theorem Reps.rp{H:Hp}:∀(vs:B3)(ts:B0),Reps H vs ts->Rps H vs ts
 |_,[],h=>h|_,t::ts,⟨v,r,b,a,c⟩=>{v,r,b,Rep.rp v t a,Reps.rp r ts c}
end
theorem Rp.ty{H:Hp}{v:V}:∀{t:T},Rp H v t->tyR H v=Y (tyT t)
 |.non,h=>by cases (show v= .non from h);rfl|.bl b,h=>by cases (show v= .bl b from h);rfl|.int i,h=>by cases (show v= .int i from h);rfl|.str x,h=>by cases (show v= .str (tx x) from h);rfl|.lst ts,h=>by obtain⟨a,d,e,c,_⟩:=h;subst e;exact zMq (zAb c)
 |.dic ks ts,h=>by obtain⟨a,d,e,c,_⟩:=h;subst e;exact zYo c
 |.tup ts,h=>by obtain⟨a,d,e,c,_⟩:=h;subst e;exact zMq (zYe c)
theorem zCb{k:Key}:∀{ps:D0},k∉ps.map (·.1)->jD ps k=none
 |[],_=>rfl|p::ps,h=>by
  rw[kQ λe=>h (by simp[e])];exact zCb λz=>h (mI _ z)
theorem zAn:∀(xs ys:List C),vB xs ys=0↔xs...*=ys...*/\∀(i:Nat) x y,xs[i]? =Y x->ys[i]? =Y y->xL x y=0
 |[],[]=>{λ_=>{O,λi x y h=>by simp at h},λ_=>by rw[vB]}|[],_::_=>{λh=>absurd h (by rw[vB];decide),λh=>absurd h.1 (by simp)}|_::_,[]=>{λh=>absurd h (by rw[vB];decide),λh=>absurd h.1 (by simp)}|x::xs,y::ys=>by
  rw[gD];let j:=zAn xs ys;constructor
  ·intro h
   by_cases c:xL x y=0
   ·rw[mJ c] at h
    obtain⟨g,f⟩:=j.mp h;refine{by simp[g],λi a b d e=>?_}
    cases i with|zero=>simp at d e;rw[<-d,<-e];exact c|succ i=>exact f i a b (by simpa using d) (by simpa using e)
   ·rw[mH c] at h;exact absurd h c
  ·rintro⟨g,f⟩
   let c:=f 0 x y O O;rw[mJ c];exact j.mpr {by simpa using g,λi a b d e=>f (i+1) a b (by simpa using d) (by simpa using e)}
theorem qR:∀{ks a:C6},ks.Nodup->(∀k∈ks,k∈a)->a...*=ks...*->ks.Perm a
 |[],a,_,_,h=>by cases a with | nil=>exact .nil | cons _ _=>cases h
 |k::ks,a,g,d,f=>by
  obtain⟨i,e⟩:=nY.mp g;let c:=d k mE;let p:=List.perm_cons_erase c;refine .trans (.cons k (qR e (λj b=>?_) ?_)) p.symm
  ·exact(List.mem_erase_of_ne λz=>i (by rw[<-z];exact b)).mpr (d j (mI _ b))
  ·rw[List.length_erase_of_mem c,f];rfl
theorem uX(a b:List Nat):zTt a b=0↔a=b:=by
 unfold zTt;constructor
 ·intro h
  by_cases d:b<a
  ·by_cases c:a<b
   ·exact absurd (List.lt_trans d c) (List.lt_irrefl _)
   ·rw[mJ d,mH c] at h;cases h
  ·by_cases c:a<b
   ·rw[mH d,mJ c] at h;cases h
   ·exact zIz (by unfold leK;simp[d]) (by unfold leK;simp[c])
 ·intro h
  subst h;rw[mH (List.lt_irrefl _)];rfl
theorem zOc{xs ys:List C}:xL (.row xs) (.row ys)=vB xs ys:=by rw[xL]
theorem zXk{xs ys:List C}:xL (.rcd xs) (.rcd ys)=vB xs ys:=by rw[xL]
theorem zHo{x y:List Nat}:xL (.str x) (.str y)=zTt x y:=by rw[xL]
theorem zKp(k k':List Nat)(c b:C):xL (.row [.str k,c]) (.row [.str k',b])=0↔k=k'/\xL c b=0:=by
 rw[zOc,gD,zHo]
 by_cases h:zTt k k'=0
 ·rw[mJ h,gD]
  by_cases a:xL c b=0
  ·rw[mJ a]
   exact{λ_=>{(uX k k').mp h,a},λ_=>by rw[vB]}
  ·rw[mH a]
   exact{λz=>absurd z a,λz=>absurd z.2 a}
 ·rw[mH h]
  exact{λz=>absurd z h,λz=>absurd ((uX k k').mpr z.1) h}
theorem zIc(us c:B0):xL (zM (.lst us)) (zM (.lst c))=0↔us...*=c...*/\∀(i:Nat) t t',us[i]? =Y t->c[i]? =Y t'->xL (zM t) (zM t')=0:=by
 show xL (.row (xE us)) (.row (xE c))=0↔_;rw[zOc,zAn,wT,wT];refine and_congr_right λf=>{λh i t t' b a=>h i _ _ (gF b) (gF a),λh i x y b a=>?_};rw[jM,nG] at b a
 cases d:us[i]? with
 |none=>rw[d] at b;cases b|some t=>
  cases e:c[i]? with
  |none=>rw[e] at a;cases a|some t'=>
   rw[d] at b;rw[e] at a;cases b;cases a;exact h i t t' d e
theorem wK{ks a:C6}{us b:B0}(r:ks.Nodup):xL (zM (.dic ks us)) (zM (.dic a b))=0↔ks...*=a...*/\∀k∈ks,k∈a/\xL (zM (zV k ks us)) (zM (zV k a b))=0:=by
 show xL (.rcd ((vL ks).map λk=>.row [.str k,zEo k ks (xE us)])) (.rcd ((vL a).map λk=>.row [.str k,zEo k a (xE b)]))=0↔_;let o:(vL ks)...*=ks...*:=(vI ks).length_eq;let n:(vL a)...*=a...*:=(vI a).length_eq;rw[zXk,zAn,mM,mM,o,n];refine and_congr_right λm=>?_;constructor
 ·intro h k d
  obtain⟨i,j⟩:=bF.mp (mem_sortK.mpr d);let f:i<(vL a)...*:=by let:=(mN.mp j).1;lia
  let c:(vL a)[i]? =some (vL a)[i]:=by simp[f]
  let z:=h i _ _ (by rw[nG,j];rfl) (by rw[nG,c];rfl);obtain⟨e,z⟩:=(zKp _ _ _ _).mp z;let l:k∈a:=by rw[e];exact mem_sortK.mp (bB f)
  refine{l, ?_};rw[qM,qM];rw[<-e] at z;exact z
 ·intro h i x y g c
  let p:ks.Perm a:=qR r (λk d=>(h k d).1) m.symm;let q:vL ks=vL a:=zAp ((vI ks).trans (p.trans (vI a).symm)) (gG ks) (gG a);rw[<-q] at c;rw[nG] at g c
  cases e:(vL ks)[i]? with
  |none=>rw[e] at g;cases g|some k=>
   rw[e] at g c;cases g;cases c;let d:=mem_sortK.mp (mO e);let z:=(h k d).2;rw[qM,qM] at z;exact(zKp _ _ _ _).mpr ⟨O,z⟩
theorem zPi{X:Cx}{K:A6}(d:X.K=K){a:C5}{k:Nat}{c:Pos}{t:TGs}{n:Nat}(e:X.calm=true)(h:PGs X a t)
  (f:(S6 a X.env)...*=n:=by rfl) (b:(S6 a X.env).findIdx? (·.1)=none:=by rfl):PG X (.Tuple a k c) (zTf K n t):=by subst d;exact zLr e h f b
structure Bl4(mg:C8):Prop extends Bl2 mg where
 enumerate:mg "enumerate" =none
mutual
def Sp1(H:Hp):V->T->List V1->Prop
 |v, .non,D=>D= []/\v= .non|v, .bl b,D=>D= []/\v= .bl b|v, .int i,D=>D= []/\v= .int i|v, .str x,D=>D= []/\v= .str (tx x)|v, .lst ts,D=>∃a d c,v= .ref a/\H a=Y (.lst d)/\D=a::c/\a∉c/\Sps H d ts c|v, .dic f ts,D=>∃a e c,v= .ref a/\H a=Y (.dK e)/\e.map (·.1)=f.map (λk=>(Sum.inr (tx k):Key))/\D=a::c/\a∉c/\Sps H (e.map (·.2)) ts c|v, .tup ts,D=>∃a d c,v= .ref a/\H a=Y (.tup d)/\D=a::c/\a∉c/\Sps H d ts c
def Sps(H:Hp):List V->List T->List V1->Prop
 |vs,[],D=>vs= []/\D= []|vs,t::ts,D=>∃v r c a,vs=v::r/\D=c++a/\Sp1 H v t c/\Sps H r ts a/\∀b∈c,b∉a
end
mutual
theorem Sp1.rep{H:Hp}:∀(v:V)(t:T)(D:B9),Sp1 H v t D->Rep H v t
 |_, .non,_,h=>h.2|_, .bl _,_,h=>h.2|_, .int _,_,h=>h.2|_, .str _,_,h=>h.2|_, .lst ts,_,⟨a,e,c,d,b,_,_,f⟩=>{a,e,d,b,Sps.rep e ts c f}|_, .dic j ts,_,⟨a,g,c,d,b,f,_,_,i⟩=>{a,g,d,b,f,Sps.rep _ ts c i}|_, .tup ts,_,⟨a,e,c,d,b,_,_,f⟩=>{a,e,d,b,Sps.rep e ts c f}
theorem Sps.rep{H:Hp}:∀(vs:B3)(ts:B0)(D:B9),Sps H vs ts D->Reps H vs ts
 |_,[],_,h=>h.1|_,t::ts,_,⟨v,r,d,c,b,_,a,e,_⟩=>{v,r,b,Sp1.rep v t d a,Sps.rep r ts c e}
end
mutual
theorem Sp1.keep{H m:Hp}:∀(v:V)(t:T)(D:B9),(∀b∈D,∀o,(∀l u,o≠HO.frz l u)->H b=Y o->m b=Y o)->Sp1 H v t D->Sp1 m v t D
 |_, .non,_,_,h=>h|_, .bl _,_,_,h=>h|_, .int _,_,_,h=>h|_, .str _,_,_,h=>h|_, .lst ts,_,k,⟨a,f,c,i,d,e,n,g⟩=>{a,f,c,i,k a (by rw[e];exact mE) _ (by intro l u z;cases z) d,e,n,Sps.keep f ts c (λb j=>k b (by rw[e];exact mI _ j)) g}|_, .dic r ts,_,k,⟨a,p,c,i,d,g,e,n,q⟩=>{a,p,c,i,k a (by rw[e];exact mE) _ (by intro l u z;cases z) d,g,e,n,Sps.keep _ ts c (λb j=>k b (by rw[e];exact mI _ j)) q}|_, .tup ts,_,k,⟨a,f,c,i,d,e,n,g⟩=>{a,f,c,i,k a (by rw[e];exact mE) _ (by intro l u z;cases z) d,e,n,Sps.keep f ts c (λb j=>k b (by rw[e];exact mI _ j)) g}
theorem Sps.keep{H d:Hp}:∀(vs:B3)(ts:B0)(D:B9),(∀b∈D,∀o,(∀i u,o≠HO.frz i u)->H b=Y o->d b=Y o)->Sps H vs ts D->Sps d vs ts D
 |_,[],_,_,h=>h|_,t::ts,_,k,⟨v,r,c,f,l,e,g,j,n⟩=>{v,r,c,f,l,e,Sp1.keep v t c (λb a=>k b (by rw[e];exact nW _ a)) g,Sps.keep r ts f (λb a=>k b (by rw[e];exact nB _ a)) j,n}
end
mutual
theorem Sp1.there{H:Hp}{b:V1}:∀(v:V)(t:T)(D:B9),Sp1 H v t D->b∈D->∃o,H b=Y o
 |_, .non,_,h,c=>by rw[h.1] at c;cases c|_, .bl _,_,h,c=>by rw[h.1] at c;cases c|_, .int _,_,h,c=>by rw[h.1] at c;cases c|_, .str _,_,h,c=>by rw[h.1] at c;cases c|_, .lst ts,_,⟨a,i,f,j,d,e,n,g⟩,c=>by
  rw[e] at c;rcases mG.mp c with z | z
  ·exact{_,by rw[z];exact d}
  ·exact Sps.there i ts f g z
 |_, .dic m ts,_,⟨a,l,f,j,d,g,e,n,k⟩,c=>by
  rw[e] at c;rcases mG.mp c with z | z
  ·exact{_,by rw[z];exact d}
  ·exact Sps.there _ ts f k z
 |_, .tup ts,_,⟨a,i,f,j,d,e,n,g⟩,c=>by
  rw[e] at c;rcases mG.mp c with z | z
  ·exact{_,by rw[z];exact d}
  ·exact Sps.there i ts f g z
theorem Sps.there{H:Hp}{b:V1}:∀(vs:B3)(ts:B0)(D:B9),Sps H vs ts D->b∈D->∃o,H b=Y o
 |_,[],_,h,a=>by rw[h.2] at a;cases a|_,t::ts,_,⟨v,r,d,g,i,e,c,f,n⟩,a=>by
  rw[e] at a;rcases nE.mp a with z | z
  ·exact Sp1.there v t d c z
  ·exact Sps.there r ts g f z
end
theorem Sp1.same{H a:Hp}(g:Same H a){v:V}{t:T}{D:B9}(h:Sp1 H v t D):Sp1 a v t D:=Sp1.keep v t D (λb _ o _ e=>g b o e) h
theorem Sps.same{H a:Hp}(g:Same H a){v:B3}{t:B0}{D:B9}(h:Sps H v t D):Sps a v t D:=Sps.keep v t D (λb _ o _ e=>g b o e) h
theorem Sps.snoc{H:Hp}{v:V}{t:T}{a:B9}(h:Sp1 H v t a):∀{vs:B3}{ts:B0}{D:B9},Sps H vs ts D->(∀b∈D,b∉a)->Sps H (vs++ [v]) (ts++ [t]) (D++a)
 |_,[],D,e,_=>by
  obtain⟨l,i⟩:=e;subst l i;exact{v,[],a,[],O,by simp,h,⟨O,O⟩,λ_ _ z=>nomatch z}
 |_,q::ts,D,⟨m,r,k,p,o,e,g,j,n⟩,f=>by
  subst o e;refine{m,r++ [v],k,p++a,O,by simp,g,Sps.snoc h j λb d=>f b (nB _ d),λb d z=>?_};rcases nE.mp z with c | c
  ·exact n b d c
  ·exact f b (nW _ d) c
theorem Sps.length{H:Hp}{vs:B3}{ts:B0}{D:B9}(h:Sps H vs ts D):vs...*=ts...*:=(Sps.rep vs ts D h)...*
def Keep(D:B9)(H a:Hp):Prop:=∀b o,b∉D->H b=Y o->a b=Y o
theorem Keep.refl{D:B9}{H:Hp}:Keep D H H:=λ_ _ _ h=>h
theorem Keep.mono{D c:B9}{H a:Hp}(h:Keep D H a)(s:∀b∈D,b∈c):Keep c H a:=λb o d e=>h b o (λz=>d (s b z)) e
theorem Keep.of{D:B9}{H a:Hp}(g:Same H a):Keep D H a:=λb o _ e=>g b o e
theorem Keep.put{D:B9}{H c:Hp}{a:V1}(o:HO)(h:Keep D H c)(f:a∈D):Keep D H (upd c a o):=λb u d e=>by
 rw[zK λz=>d (by rw[z];exact f)];exact h b u d e
theorem Keep.old{D:B9}{a H c:Hp}(h:Keep D H c)(g:Same a H)(d:∀b∈D,a b=none):Same a c:=λb o e=>h b o (λz=>by rw[d b z] at e;cases e) (g b o e)
theorem yQ{H a:Hp}(g:Same H a){p:V1}(h:a p=none):H p=none:=by
 cases e:H p with|none=>rfl|some o=>rw[g _ _ e] at h;cases h
theorem Sps.thaw{H a:Hp}{vs:B3}{ts:B0}{D:B9}(h:Sps a vs ts D):Sps (L2.thaw H a) vs ts D:=Sps.keep vs ts D (λ_ _ _ n e=>wX e n) h
section
variable{prog:V3}{w:V4}{A:Around}{E:C9}{s:V2}
end
section
variable{X:Cx}
end
section
variable{X:Cx}{a:Expr}{ta:TE}
end
inductive U where
 |leaf (v:V)| lst (us:List U)| dic (ks:B8) (us:List U)
mutual
noncomputable def U.sz:U->Nat
 |.leaf _=>1|.lst a=>U.szs a+1|.dic _ a=>U.szs a+1
noncomputable def U.szs:List U->Nat
 |[]=>0|u::a=>U.sz u+U.szs a
end
mutual
noncomputable def U.dep:U->Nat
 |.leaf _=>0|.lst a=>U.deps a+1|.dic _ a=>U.deps a+1
noncomputable def U.deps:List U->Nat
 |[]=>0|u::a=>max (U.dep u) (U.deps a)
end
mutual
def U.ok:U->Prop
 |.leaf v=>∀x,v= .str x->x...*<=1000|.lst a=>U.oks a|.dic ks a=>ks.Nodup/\ks...*=a...*/\(∀x,Sum.inr x∈ks->x...*<=1000)/\U.oks a
def U.oks:List U->Prop
 |[]=>True|u::a=>U.ok u/\U.oks a
end
section
variable{X:Cx}{pins:C7}{σ:St}{H:Hp}{s:V2}
theorem zGc:OpR X (A3 .LtE) (λx y H Q=>∃i j,x= .str i/\y= .str j/\Q (.bl (!decide (ts j<ts i))) H):=by
 intro pins s σ H x y v u Q I c d h;ext yM h i j a b q;subst a b;obtain⟨t,rfl⟩:=c;obtain⟨e,rfl⟩:=d;exact PySem.P.le_str (yO I q O)
theorem zMl{T W:String}(i:T∈tyL)(f:W∈tyL):wP X (.builtin "isinstance") (λxs H Q=>∃x t p,xs= [x, .ref p]/\H p=Y (.tup [.ty T, .ty W])/\tyR H x=Y t/\Q (.bl (zT t T || zT t W)) H):=by
 intro pins s σ H xs v Q I r h;ext zZ h x t p g j z_;ext oA z_ m q;subst g
 cases x with
 |ref a=>
  let l:(match H a with | some (.frz _ (.dK _))=>some "dict" | _=>tyS H (.ref a))=Y t:=m
  split at l
  ·rename_i o kvs e
   cases l;refine yM (zCu r) λu E c ru k=>?_;subst c;cases (show E=Value.ref p from k);cases (show u=Value.ref a from ru);obtain⟨_,_,vs,_,pp⟩:=kK I.hok (.inr ⟨o,e⟩);ext zZ pp A es ep M w _;obtain⟨_,D,rv,N⟩:=(show ObjOk X.prog X.w H s.heap p (.tup [.ty T, .ty W]) from I.hok p _ j);refine yM (zCu rv) λJ v2 ee y r2=>?_;subst ee;cases (show J=Value.type T from y);cases (show v2=Value.type W from r2);obtain⟨o2,B,hc,n,hd⟩:=N;obtain⟨oc,od,d,aa⟩:=o2;cases (show oc=Value.type "tuple" from hc);cases (show d=Data.seq _ n from hd);refine PySem.W.kia_tup PySem.W.kitx_dict I.kIn ⟨A,M,w.1⟩ B (b:=zT "dict" T || zT "dict" W) ?_ (λz=>nomatch z) λtk=>{.bl _,H,I.tok _,O,q}
   let k1:=zCi (K:=X.K) (t:="dict") (by simp[tyL]) i;let L:=zCi (K:=X.K) (t:="dict") (by simp[tyL]) f;simp only[PySem.W.kitAny,k1,L];cases zT "dict" T<;>cases zT "dict" W<;>rfl
  ·exact uR i f pins s σ H _ v Q I r ⟨_,t,p,O,j,l,q⟩
 |_=>exact uR i f pins s σ H _ v Q I r ⟨_,t,p,O,j,m,q⟩
end
section
variable{X:Cx}{o:Expr}{to:TE}{name:Str}{apos cpos:Pos}{id:String}{r:V->List V->Hp->VK->Prop}
def tBMR(r:V->List V->Hp->VK->Prop)(to:TE):TE:=λσ H Q=>to σ H λx b=>(∃p a,x= .ref p/\Rd b p (.dK a))/\r x [] b Q
theorem yDa(z:PlainAttrs "dict")(f:Slot "dict" name id)(i:typeOf (.builtin id)=pure (.type "method_descriptor"))(q:MtR X id r)(u:PE X o to)
  (c:attributeBase o name X.env (eval o X.env)=eval o X.env:=by rfl) (d:(apos.endLine==cpos.line)=true:=by rfl):PE X (.Call (.Attribute o name apos) [] [] cpos) (tBMR r to):=by
 intro b s σ H Q I h;refine wpAny_Call_method0_late c d (thn (u b s σ H _ I h) λv w {x,n,j,t,⟨p,A,g,y⟩,m}=>?_);subst g;cases t;obtain⟨_,_,_,_,k,_,_,e,g,_⟩:=kK j.hok y;refine{"dict",id,z,f,i,⟨k,e,g.1⟩,(λa l=>by cases l;exact⟨k,e,g.2.1⟩),tP O (PySem.evalArgs_none (q b w σ n (.ref p) [] (.ref p) [] Q j O .nil m))}
end
structure Bl5(mg:C8):Prop extends Bl2 mg where
 abs:mg "abs" =none
 ord:mg "ord" =none
section
variable{X:Cx}{pins:C7}{σ:St}{H:Hp}{s:V2}{h':V5}
theorem Inv.turnedFp{fp:B9}{t':Nat}(I:Inv X pins σ H s)(g:∀b∈fp,zBq X pins H b)(k:∀b a,b∉fp->s.heap.get? b=Y a->h'.get? b=Y a):Inv X pins σ H {s with heap:=h',toks:=t'}:=by
 let f:∀b u,H b=Y u->b∉fp:=λb u e z=>by rw[(g b z).1] at e;cases e
 refine I.step (g':=s.gens) (d':=s.drawn) (ch:=fp) (λb h=>?_) (λb a _ _ d e _=>k b a d e) (λb a _ _ d e _=>{a.slots,k b a d e}) (λ_ _ _ _ n=>n)
  (λb a d e=>{a,k b a d e}) (λ_ _ e=>e) (λ_ _ _ e=>e) (λb A e=>{#[],by rw[e];simp}) (λm j=>?_) (λb u e=>?_) I.bare
 ·refine zQ (g b h) λ_ x _ o t p=>?_
  exact⟨o,x,t,p⟩
 ·ext zAr j a w i l r
  exact{a,w,i,k _ a (λz=>(g _ z).2.1 O) l,r}
 ·refine(I.hok b u e).stay (λc v d q=>k c v ?_ q) (λc q=>q) λc y q=>q
  rcases d with z | z
  ·rw[z];exact f b u e
  ·exact f c _ z
end
def Itz(K:A6)(l m:V1):It:=
  {λi H=>∃a b x y,SqL K H l a/\SqL K H m b/\a[i]? =Y x/\b[i]? =Y y,
   λi H v c=>∃p x y,H p=none/\v= .ref p/\(∀a,SqL K H l a->a[i]? =Y x)/\(∀b,SqL K H m b->b[i]? =Y y)/\c=upd H p (.tup [x,y]),
   λi H=>∃a b,SqL K H l a/\SqL K H m b/\(a...*<=i\/b...*<=i)}
theorem zWl{P:V3}{w:V4}{K:A6}{aa:C5}{x1:Nat}{ac:Pos}(z TI TO B J l m:V1)(f:ZipApart z TI TO B J l m):
  zEx P w K (.Tuple aa x1 ac) (Itz K l m) [z,TI,TO,B,J] z (λi h=>IsZip h z TI TO .none/\IsPair h TI (.ref B) (.ref J)/\(∃a b,IsPair h TO a b)/\h.IsListIter B l i/\h.IsListIter J m i) where
 mem:=by simp
 obj:=λi h st b d=>by
  obtain⟨A,n,⟨a,c,r⟩,⟨o1,e1,c1,d1⟩,o2,e2,c2,d2⟩:=st;simp only[mG,pG,sT] at d;rcases d with rfl | rfl | rfl | rfl | rfl
  ·exact{_,A,λv z=>by cases z}
  ·exact{_,n,λv z=>by cases z}
  ·exact{_,r,λv z=>by cases z}
  ·exact{o1,e1,λv z=>by rw[d1] at z;cases z}
  ·exact{o2,e2,λv z=>by rw[d2] at z;cases z}
 keep:=λi h h' st k=>by
  obtain⟨A,n,⟨a,c,r⟩,L,M⟩:=st;exact⟨k z (by simp) _ A,k TI (by simp) _ n,{a,c,k TO (by simp) _ r},L.at λo q=>k B (by simp) o q,M.at λo q=>k J (by simp) o q⟩
 item:=by
  intro X hP hw hK hc i N s σ H E I hf st hg;subst hP hw hK;obtain⟨A,n,⟨a,c,r⟩,L,M⟩:=st;ext yK hg xs ys x y g z_;ext oAA z_ j hx hy;refine yX (I.list g) λaj rv p af=>?_;refine yX (I.list j) λah D p' ai=>?_;obtain⟨u,hu,ru⟩:=rv.get hx;obtain⟨u',ab,ae⟩:=D.get hy;let lz:z<s⁻¹:=mQ A;let lI:TI<s⁻¹:=mQ n;let lO:TO<s⁻¹:=mQ r;let l1:B<s⁻¹:=by obtain⟨o,q,_⟩:=id L;exact mQ q
  let l2:J<s⁻¹:=by obtain⟨o,q,_⟩:=id M;exact mQ q
  refine wpAny_pyNext_zip_item f A n r L M p.isList p'.isList (x:=u) (y:=u') (by simpa using hu) (by simpa using ab) λh1 z1 o1 t1 t2 pr al e=>{_,O, ?_};refine wpAny_letOwnedTupleGo_zip z1 λh2 z2 t=>?_;let t:Heap.SameBut z h1 h2:=t;let Q:H s⁻¹=none:=I.hok.fresh (mD _);let ag:h2.get? s⁻¹=some {cls:=.type "tuple",data:=.seq #[u,u']}:=(t.2 _ (rM lz)).trans pr;refine{.ref s⁻¹,upd H s⁻¹ (.tup [x,y]),I.turnedNew (t':=s.toks) hf (λb ob d q=>?_) (mD _) ?_,O,{_,x,y,Q,O,λzs h=>by rw[I.list_inj h g];exact hx,λzs h=>by rw[I.list_inj h j];exact hy,O},{z2, ?_,{u,u',(t.2 TO f.TOz).trans o1}, ?_, ?_},λb d=>?_}
  ·simp only[mG,pG,sT,not_or] at d
   exact(t.2 b d.1).trans (e b ob d.1 d.2.2.1 d.2.2.2.1 d.2.2.2.2 q)
  ·exact{by rw[mV];simp,[u,u'], .cons ru (.cons ae .nil),⟨_,ag,O,_,O⟩}
  ·exact(t.2 TI f.TIz).trans (e TI _ f.TIz f.TITO f.TIi1 f.TIi2 n)
  ·exact t1.at λo q=>(t.2 B f.i1z).trans q
  ·exact t2.at λo q=>(t.2 J f.i2z).trans q
  ·let ak:=(hf b d).1
   let:b≠s⁻¹:=by
    simp only[mG,pG,sT] at d;rcases d with rfl | rfl | rfl | rfl | rfl<;>(apply nN;assumption)
   rw[zK this];exact ak
 done:=by
  intro X hP hw hK hc i N s σ H E I hf st hg;subst hP hw hK;obtain⟨A,n,⟨a,c,r⟩,L,M⟩:=st;ext yM hg xs ys g j hx;refine yX (I.list g) λaj rv p af=>?_;refine yX (I.list j) λah D p' ai=>?_;let e1:=rv...*;let e2:=D...*;refine wpAny_pyNext_zip_end (I.ok.hd hc) f A n r L M p.isList p'.isList ?_ λh' e=>{O,I.turnedFp (t':=s.toks) hf λb ob d q=>?_}
  ·rcases hx with z | z
   ·exact .inl (by simp;lia)
   ·exact .inr (by simp;lia)
  ·simp only[mG,pG,sT,not_or] at d
   exact e b ob d.1 d.2.2.1 d.2.2.2.1 d.2.2.2.2 q
 self:=λ_ _ _ _ _ st h=>wpAny_pyIter_zip st.1 h
theorem zQz{n l m:Nat}(a:l<n)(b:m<n):ZipApart (n+4) (n+2) (n+3) n (n+1) l m:=by
 constructor<;>(show(_:Nat)≠_;lia)
def yEg(K:A6)(ta:TA):TI:=λσ H R=>ta σ H λc a=>∃l m b d,c= [.ref l, .ref m]/\SqL K a l b/\SqL K a m d/\R (Itz K l m) a
theorem yBm:A1 "zip" =Y (.type "zip"):=by decide+kernel
theorem yCq{X:Cx}{n:C5}{x1:Nat}{j:Pos}{a b:Expr}{ta:TA}{p i:Pos}(hg:Gl X "zip")(hm:X.mg "zip" =none)(ha:PA X [a,b] ta)(hs:A2 [a,b] X.env=(false,eval a X.env)::A2 [b] X.env:=by rfl)(B:A2 [b] X.env= [(false,eval b X.env)]:=by rfl):
  PI X (.Tuple n x1 j) (.Call (.Name "zip" p) [a,b] [] i) (yEg X.K ta):=by
 intro g s σ H R I h;refine Call_ (gJ I hg hm yBm (rC (thn (ha i g s σ H _ I h) λus c ⟨vs,J,d,L,q1⟩=>?_) hs (by rw[B];rfl)));ext yK q1 l m xs ys e z_;ext oAA z_ w A q;subst e
 cases L with
 |cons r N=>
  cases N with
  |cons r' z=>
   cases z;cases r;cases r';refine yX (d.list w) λQ rv D hz=>?_;refine yX (d.list A) λac ae t ab=>?_;let ll:l<c⁻¹:=by obtain⟨o,q,_⟩:=D.isList;exact mQ q
   let lm:m<c⁻¹:=by obtain⟨o,q,_⟩:=t.isList;exact mQ q
   refine call_zip_2 D.isList t.isList λh' v ht M y x aa f=>?_;refine wpAny_pyIter_zip (f0:=.none) v ?_;let ap:ZipApart (c⁻¹+4) (c⁻¹+2) (c⁻¹+3) c⁻¹ (c⁻¹+1) l m:=zQz ll lm;let u:∀k,J (c⁻¹+k)=none:=λk=>d.hok.fresh (sD _ _);refine{c⁻¹+4,[c⁻¹+4,c⁻¹+2,c⁻¹+3,c⁻¹,c⁻¹+1],_,_,J,O,d.kept (t':=c.toks) f,zWl _ _ _ _ _ l m ap,{v,ht,⟨_,_,M⟩,y,x},λb E=>?_,q};simp only[mG,pG,sT] at E;rcases E with rfl | rfl | rfl | rfl | rfl
   ·exact d.fpOk (sD _ _) (u 4)
   ·exact d.fpOk (sD _ _) (u 2)
   ·exact d.fpOk (sD _ _) (u 3)
   ·exact d.fpOk (mD _) (u 0)
   ·exact d.fpOk (sD _ _) (u 1)
theorem zSo{K:A6}{l m:V1}{xs ys:B3}{g:TG}{tb:TS}{D:gB}{σ:St}{H:Hp}(Pv:Nat->St->Hp->Prop)(w:Pv 0 σ H)(u:∀i σ H,Pv i σ H->SqL K H l xs/\SqL K H m ys)
  (E:∀i x y σ H p,xs[i]? =Y x->ys[i]? =Y y->Pv i σ H->H p=none->g (.ref p) σ (upd H p (.tup [x,y])) λσ2 H2=>tb {D with nx:=Pv (i+1),ct:=Pv (i+1),bk:=D.nx} σ2 H2)
  (o:∀i σ H,(i=xs...*\/i=ys...*)->i<=xs...*->i<=ys...*->Pv i σ H->D.nx σ H):zRj g tb D σ (Itz K l m) H:=by
 refine{λi k σ H=>k=xs...* - i/\i<=xs...*/\i<=ys...*/\Pv i σ H,{_,O,nL _,nL _,w}, ?_};intro i k σ H b;ext xI b e s j p;subst e;obtain⟨c,d⟩:=u i σ H p
 by_cases r:i<xs...*
 ·by_cases n:i<ys...*
  ·refine .inr {{xs,ys,xs[i],ys[i],c,d,by simp[r],by simp[n]},Pv (i+1),λI t q=>{_,∅,O,r,n,q}, ?_}
   intro v t b;ext zZ b a x y B h b;ext oAA b A z f;subst h f;exact E i x y σ H a (A xs c) (z ys d) p B
  ·exact .inl {{xs,ys,c,d, .inr ∅},o i σ H (.inr ∅) s j p}
 ·exact .inl {{xs,ys,c,d, .inl ∅},o i σ H (.inl ∅) s j p}
structure Bl6(mg:C8):Prop extends Bl2 mg where
 zip:mg "zip" =none
theorem zOa{X:Cx}{K:A6}(a:X.K=K):IxR X (zTz K):=by subst a;exact vZ
section
variable{X:Cx}{a:Expr}{ta:TE}
def tIsT(ta:TE):TE:=λσ H Q=>ta σ H λx c=>∃b,x= .bl b/\Q (.bl b) c
end
end L2
namespace HT
open PySem PyProof.Rows
open PySem.SeqAt
open PySem.AutoSeq1 (wpAny_loadPart')
open PySem.MeetsSeq PySem.MeetsSeq2 PySem.MeetsSeq3
section
variable{prog:V3}{w:V4}{A:Around}{E:C9}{s:V2}
theorem getItem_tuple_whole{t f:V1}{items:Array V0}{i j:V0}{lo c:Option Int}{Q:C9}(a:IsTup s.heap t items)(l:s.heap.IsSliceOf f i j .none)(pl:IsPart i lo)(p:IsPart j c)
  (k:sIx items.size 0 lo=0/\sIx items.size items.size c=items.size) (h:Q (.ref t) s):V8 (S5 prog w) A (getItem (.ref t) (.ref f)) Q E s:=by
 refine yX (id l) λos b g n=>?_;let d:s.TypeIs (.ref f) "slice":=⟨os,b,g⟩;unfold getItem
 try with_reducible refine wpAny_holding ?_
 first | refine wpAny_bind (wpAny_pure ?_)| skip
 refine wpAny_bind (wpAny_sequenceKey a.typeIs ∎ ?_);refine wpAny_bind (wpAny_callSpecial?_slot (name:=A5 "__getitem__") a.typeIs PyProof.Rows.slot_tuple_getitem
  (wpAny_call_entry PyProof.Rows.slot_tuple_getitem a.typeIs entry_tuple_getitem ?_ (args_tuple_getitem _ _)))
 show V8 _ _ (Builtin.Tuple.tupleItemsOf (.ref t)>>=_) _ _ s;refine wpAny_bind (tupleItemsOf_ a ?_);refine wpAny_bind (wpAny_typeOf d ?_);rw[if_pos ∎];refine wpAny_bind (kU l pl p ?_);show V8 _ _ (if(((sIx items.size 0 lo:Nat):Int)==0 && (1:Int)==1 && (sIx items.size items.size c - sIx items.size 0 lo)==items.size)=true then _ else _) _ _ s;rw[if_pos (by rw[k.1,k.2];simp)];refine wpAny_bind ?_;let m:∀(e:Bool->V2->Prop),e true s->V8 (S5 prog w) A.in1 (Builtin.Tuple.tupleIsExact (.ref t)) e E s:=λe o=>by
  unfold Builtin.Tuple.tupleIsExact;exact wpAny_bind (wpAny_typeOf a.typeIs (wpAny_pure o))
 refine m _ ?_;rw[if_pos O];refine wpAny_bind (wpAny_rule ?_);exact wpAny_pure {_,O,wpAny_pure h}
end
end HT
namespace L2
open PySem PySem.Spec PyProof.Rows
def rSlTw(K:A6):V->Option Int->Option Int->Hp->VK->Prop:=λx lo c H Q=>∃a b,x= .ref a/\SqT K H a b/\
 ((HT.sIx b...* 0 lo=0/\HT.sIx b...* b...* c=b...*/\Q (.ref a) H)\/(¬(HT.sIx b...* 0 lo=0/\HT.sIx b...* b...* c=b...*)/\∀p,H p=none->Q (.ref p) (upd H p (.tup (jV b lo c)))))
theorem zYl{X:Cx}:SlR X (rSlTw X.K):=by
 intro b s σ H x v t o lo w y Q I j m l i h;ext yM h a f d k h;subst d;rcases h with⟨u,n,q⟩|⟨p,q⟩
 ·cases j
  refine yX (I.tuple k) λe r g z=>?_;let c:e.toArray.size=f...*:=by rw[mT];exact r.length.symm
  refine{"tuple",_,PyProof.Rows.slot_tuple_getitem.lookup,g.typeIs, ?_};exact HT.getItem_tuple_whole g m l i (by rw[c];exact⟨u,n⟩) {.ref a,H,I,O,q}
 ·exact yCd b s σ H _ v t o lo w y Q I j m l i ⟨a,f,O,k,p,q⟩
end L2
namespace L2
open PySem PySem.Spec PyProof.Rows PySem.Builtin PySem.Builtin.Str
noncomputable def rpl(c:Nat)(z:List Nat)(d:Nat):List Nat:=if d=c then z else[d]
section
variable{X:Cx}
end
end L2
namespace L2
open PySem PySem.Spec PyProof.Rows
section
variable{X:Cx}
theorem zCx:wP X (.builtin "len") (λxs H Q=>∃(a:V1)(n:Nat),xs= [.ref a]/\((∃ys,SqL X.K H a ys/\n=ys...*)\/∃kvs,H a=Y (.dK kvs)/\n=kvs...*)/\Q (.int n) H):=by
 intro b s σ H xs d Q I r h;ext yM h a n c h q;subst c;rcases h with⟨ys,f,rfl⟩|⟨kvs,e,rfl⟩
 ·exact yA b s σ H _ d Q I r ⟨a,O,ys,f,q⟩
 ·exact zCj b s σ H _ d Q I r ⟨a,kvs,O,e,q⟩
end
mutual
def T.fewm(m:Nat):T->Prop
 |.dic ks a=>ks.Nodup/\ks...*<=m/\ks...*=a...*/\d6 m a|.lst a=>a...*<=100000/\d6 m a|.tup _=>False|.non=>True|.bl _=>True|.int _=>True|.str _=>True
def d6(m:Nat):List T->Prop
 |[]=>True|t::a=>T.fewm m t/\d6 m a
end
theorem c8{m:Nat}{t:T}:∀{us:B0},d6 m us->t∈us->T.fewm m t
 |[],_,h=>nomatch h|u::us,h,a=>(mG.mp a).elim (λe=>e▸h.1) (c8 h.2)
theorem d7{m:Nat}{us:B0}(h:∀t∈us,T.fewm m t):d6 m us:=by
 induction us with|nil=>exact mS|cons t us a=>exact{h t mE,a λu b=>h u (mI _ b)}
mutual
theorem b8{m b:Nat}(l:m<=b):∀t:T,T.fewm m t->T.fewm b t
 |.lst a,h=>{h.1,i7 l a h.2}|.dic ks a,h=>{h.1,nP h.2.1 l,h.2.2.1,i7 l a h.2.2.2}|.tup _,h=>h.elim|.non,_=>mS|.bl _,_=>mS|.int _,_=>mS|.str _,_=>mS
theorem i7{m a:Nat}(l:m<=a):∀us:List T,d6 m us->d6 a us
 |[],_=>mS|t::us,h=>{b8 l t h.1,i7 l us h.2}
end
mutual
theorem c6{m:Nat}(l:m<=63):∀t:T,T.fewm m t->T.few t
 |.lst a,h=>{h.1,j3 l a h.2}|.dic ks a,h=>{h.1,by let:=h.2.1;lia,h.2.2.1,j3 l a h.2.2.2}|.tup _,h=>h.elim|.non,_=>mS|.bl _,_=>mS|.int _,_=>mS|.str _,_=>mS
theorem j3{m:Nat}(l:m<=63):∀us:List T,d6 m us->d9 us
 |[],_=>mS|t::us,h=>{c6 l t h.1,j3 l us h.2}
end
theorem zXu{ks:C6}{k:List Nat}(h:k∈ks):ks[ks.idxOf k]? =Y k:=by
 let a:=bZ h;rw[mU a];exact congrArg some (List.getElem_idxOf a)
theorem uI{ks:C6}{us:B0}{n:List Nat}{t:T}(h:ks...*=us...*):(yZ (ks,us) n t).1...*=(yZ (ks,us) n t).2...*/\(yZ (ks,us) n t).2...*<=us...*+1:=by
 unfold yZ;split
 ·exact{by show ks...*=(yL n t ks us)...*;rw[kO];exact h,by show(yL n t ks us)...*<=_;rw[kO];exact pP _}
 ·exact{by show(ks++ [n])...*=(us++ [t])...*;rw[mK,mK,h];rfl,by show(us++ [t])...*<=_;rw[mK];exact mD _}
theorem kY{ks:C6}{us:B0}{n:List Nat}{t:T}(h:ks.Nodup):(yZ (ks,us) n t).1.Nodup:=by
 unfold yZ;split
 ·exact h
 ·rename_i hn
  show(ks++ [n]).Nodup;rw[aV];exact{h,by simp,λa d b c z=>hn (by rw[<-mF.mp c,<-z];exact d)}
theorem zIo{ks:C6}{us:B0}{n:List Nat}{t u:T}(h:u∈(yZ (ks,us) n t).2):u∈us\/u=t:=by
 unfold yZ at h;split at h
 ·exact uN _ _ _ _ _ h
 ·rcases nE.mp h with z | z
  ·exact .inl z
  ·exact .inr (mF.mp z)
def uD(H a:Hp):Hp:=λb=>match H b with|none=>a b|some _=>none
theorem wL{H a:Hp}{b:V1}(h:H b=none):uD H a b=a b:=by unfold uD;rw[h]
theorem zKc{H a:Hp}{b:V1}{o:HO}(e:uD H a b=Y o):H b=none:=by
 unfold uD at e
 cases h:H b with|none=>rfl|some _=>rw[h] at e;cases e
theorem zRk{H a c:Hp}(g:Same a c):Same (uD H a) (uD H c):=λb o e=>by
 let h:=zKc e;rw[wL h] at e⊢;exact g _ _ e
theorem Sp1.new{H a:Hp}{v:V}{t:T}{D:B9}(h:Sp1 a v t D)(c:∀b∈D,H b=none):Rep (uD H a) v t:=
 Sp1.rep _ _ _ (Sp1.keep _ _ _ (λb d o _ e=>by rw[wL (c b d)];exact e) h)
end L2
namespace L2
open PySem PySem.W PySem.Spec PyProof.Rows
structure Dd(P:V3)(w:V4)(K:PySem.W.Frag)(mg:C8)(base:V5)(k:Nat)(x:Str)(ps:C1)(dvs:B3)(sp:Sp):Prop where
 ex:∃(f:V1)(fd:V7)(ds:B7),FnOk P w K mg base CX0 k f fd ps sp/\Binds K fd ps ds/\Vals dvs ds/\PySem.W.keepIn K (.ref f)=true/\mg x=Y (.ref f)
section
variable{X:Cx}{k j:Nat}{x:Str}{ps:C1}{dvs:B3}{sp:Sp}{e:Expr}{es:C5}{t:TA}{p pos:Pos}
end
structure FunD(K:PySem.W.Frag)(x qual:Str)(st:V6)(f:V1)(fd:V7):Prop where
 ex:∃(oc:V0)(od:Option V1)(dV kV doc pm:V0)(an:Option V1)(cdv ct:V0)(osl:Array (Option V0)),
  fd=PySem.W.fnOf x qual (xP st) (xD st) (zW st) dV kV doc pm an cdv ct/\K.lookup f=Y {oc,od, .func fd,osl}/\PySem.W.codeIn K cdv qual=true
end L2
namespace L2
open PySem PySem.Spec PyProof.Rows
section
variable{X:Cx}
end
end L2
namespace L2
open PySem PySem.Builtin PySem.Builtin.Str
abbrev Tk:=Nat×List Nat
noncomputable def dbl(x:List Nat):List Nat:=x.flatMap (rpl 39 [39,39])
noncomputable def shw(t:Tk):List Nat:=if t.1=2 then 39::(dbl t.2++ [39]) else t.2
noncomputable def stk(a b:Tk):Bool:=if b.2.take 1= [45]/\b.1=0 then false else if a.1=1 then decide (b.1=1)|| decide (b.1=0) else decide (a.1=b.1)&& !decide (a.1=3)
noncomputable def lay:List (Nat×Tk)->List Nat
 |[]=>[]|x::r=>List.replicate x.1 32++(shw x.2++lay r)
end L2
namespace L2
open PySem PySem.Spec PyProof.Rows
section
variable{P:V3}{w:V4}{A:Around}{s:V2}{E:C9}
end
section
variable{X:Cx}
end
end L2
namespace L2
open PySem PySem.Spec PyProof.Rows PySem.W
structure Kp(fs xs:B9)(h h':V5):Prop where
 keep:∀b o,h.get? b=Y o->b∉fs->b∉xs->h'.get? b=Y o
 slot:∀b o,h.get? b=Y o->b∈fs->b∉xs->∃sl,h'.get? b=some {o with slots:=sl}
theorem Kp.refl{a xs:B9}{h:V5}:Kp a xs h h:=⟨λ_ _ e _ _=>e,λ_ o e _ _=>⟨o.slots,e⟩⟩
theorem Kp.trans{f xs ys zs:B9}{h i g:V5}(a:Kp f xs h i)(b:Kp f ys i g)(hz:∀c,c∈xs\/(c∈ys/\h.get? c≠none)->c∈zs):Kp f zs h g where
 keep c o e hf hx:=b.keep c o (a.keep c o e hf λz=>hx (hz c (.inl z))) hf λz=>hx (hz c (.inr ⟨z,by rw[e];exact λz=>nomatch z⟩))
 slot c o e hf hx:=by
  obtain⟨l,k⟩:=a.slot c o e hf λz=>hx (hz c (.inl z));obtain⟨d,j⟩:=b.slot c _ k hf λz=>hx (hz c (.inr {z,by rw[e];exact λz=>nomatch z}));exact⟨d,j⟩
theorem zDv{base h h':V5}{g xs:B9}(k:Kp g xs h h'):∀{l:List S7},(∀b∈frs l,b∈g/\b∉xs)->h.FunFrames base l->h'.FunFrames base l
 |[],_,_=>by rw[Heap.FunFrames.eq_1];exact mS|env::l,c,f=>by
  rw[Heap.FunFrames.eq_2] at f⊢;obtain⟨a,⟨L,o,d,i,j,p⟩,r⟩:=f;let e:L∈frs (env::l):=by unfold frs;rw[pV,d];exact mE
  obtain⟨q,m⟩:=k.slot L o j (c L e).1 (c L e).2;exact⟨a,⟨L,_,d,i,m,p⟩,zDv k (λb n=>c b (by unfold frs;rw[pV,d];exact mI _ n)) r⟩
def Fl(φ:V0->Prop)(h:V5)(x T:V1)(C:V0)(d:Option V1)(f g:V0):Prop:=∃(b:Obj)(a:Array V0)(e:Obj)(ts:Array V0),h.get? x=Y b/\b.cls=C/\b.dict=d/\b.data= .fields a/\a[0]? =Y f/\a[1]? =Y (.ref T)/\T≠x/\h.get? T=Y e/\e.data= .fields ts/\ts[3]? =Y g/\∃c,a[2]? =Y c/\φ c
theorem yAi{o:Obj}{vs:Array V0}(h:o.data= .fields vs)(f:Array V0->Array V0):Obj.mapFields f o={o with data:=.fields (f vs)}:=by
 obtain⟨c,d,a,b⟩:=o;cases h
 rfl
section
variable{M:Model}{A:Around}{E:C9}{s:V2}{env:S7}{outer:List S7}{x T L:V1}{C a0 fl:V0}{d:Option V1}{base:V5}{Q:Unit->V2->Prop}{φ:V0->Prop}
theorem gM{h:V5}{a:V1}{o:Obj}{vs:Array V0}(e:h.get? a=Y o)(b:o.data= .fields vs)(i:Nat)(v:V0):(h.update a (Obj.mapFields λxs=>xs.setIfInBounds i v)).get? a=some {o with data:=.fields (vs.setIfInBounds i v)}:=by
 rw[<-yAi b (λxs=>xs.setIfInBounds i v)];exact bE _ e (by rw[yAi b];rfl)
theorem vM(F:Fl φ s.heap x T C d a0 fl)(q:∀h',Fl φ h' x T C d a0 .none->Kp [] [T] s.heap h'->Q () {s with heap:=h'}):V8 M A (setFlight (.ref x) none) Q E s:=by
 ext yK F t u y ts l f;ext zQ f r v n w i f;ext vS f j m k c h;unfold setFlight;refine mC (rJ l n i ?_);rw[mJ (by rfl)];let a:3<ts.size:=by
  obtain⟨z,_⟩:=pA.mp c;exact z
 refine sG m k a ?_;let p:=gM m k 3 .none;refine q _ {t,u,_,_,(mZ _ _ j).trans l,r,v,n,w,i,j,p,O, ?_,h} ⟨λb o e _ g=>(mZ _ _ λz=>g (by rw[z];exact mE)).trans e,λb o e g=>nomatch g⟩;show(ts.setIfInBounds 3 Value.none)[3]? =Y Value.none;rw[sP a]
theorem zNc{j:Obj}{vs:Array V0}{head:V0}{b:Bool}(m:A.frames=Y (env::outer))(p:s.heap.FunFrames base (env::outer))(J:env.frame=Y L)(e1:s.heap.get? x=Y j)(hx:x∉frs (env::outer))(B:j.data= .fields vs)(e5:vs[0]? =Y a0)(D:1<vs.size)(u:∃n,vs[2]? =Y n/\φ n)
  (q:∀h' T',Fl φ h' x T' j.cls j.dict a0 (rawInt L)->Kp (frs (env::outer)) [x] s.heap h'->s.heap.get? T'=none->Q () {s with heap:=h'}):
  V8 M A (do
   let a <-PySem.frameOf env;let pl <-entryPlaceOf L b;let b <-EntryCells.newEntry head a .none (rawInt L) .none pl
   setField (.ref x) 1 b) Q E s:=by
 refine mC (wpAny_frameOf_fun m p J λi so=>?_);refine mC (wpAny_entryPlaceOf λpl r=>?_);refine mC ?_;unfold EntryCells.newEntry newFields;let l:(([head,Value.ref L,Value.none,rawInt L,Value.none]++if pl.isEmpty=true then List.replicate 6 Value.none else pl).toArray).size<=V9+2:=by
  let:(if pl.isEmpty=true then List.replicate 6 Value.none else pl)...*<=6:=by
   rcases r with rfl |⟨a,b,c,d,c9,H,_,rfl⟩<;>simp
  rw[mT,mK,mV];simp only[mP,pL]
  lia
 refine cJ ?_ l;obtain⟨z1,w,I⟩:=so;let v:i.get? x=Y j:=by rw[w x hx];exact e1
 let k:x<i.objs.size:=mQ v;refine sG (mL _ v) B D ?_;let f:i.objs.size≠x:=rM k;let t:=gM (mL (o:={cls:=.type "traceback",data:=.fields ([head,Value.ref L,Value.none,rawInt L,Value.none]++if pl.isEmpty=true then List.replicate 6 Value.none else pl).toArray}) (h:=i) v) B 1 (.ref i.objs.size);refine q _ i.objs.size {_,_,_,_,t,O,O,O, ?_, ?_,f,(mZ _ _ (Ne.symm f)).trans (nI _ O),O, ?_,u.imp λn z=>{(pQ ∎).trans z.1,z.2}} ⟨λb o e y g=>?_,λb o e y g=>?_⟩ ?_
 ·rw[pQ ∎];exact e5
 ·rw[sP D]
 ·simp
 ·refine(mZ _ _ λz=>g (by rw[z];exact mE)).trans (mL _ ?_)
  rw[w b y];exact e
 ·obtain⟨sl,N⟩:=I b o e
  exact{sl,(mZ _ _ λz=>g (by rw[z];exact mE)).trans (mL _ N)}
 ·rw[z1]
  exact rE (mD _)
theorem zKu{a:Obj}{vs:Array V0}(c:A.frames=Y (env::outer))(b:s.heap.FunFrames base (env::outer))(i:env.frame=Y L)(g:s.heap.get? x=Y a)(j:x∉frs (env::outer))(h:a.data= .fields vs)(l:vs[0]? =Y a0)(f:vs[1]? =some .none)(e:∃cx,vs[2]? =Y cx/\φ cx)
  (q:∀h' T',Fl φ h' x T' a.cls a.dict a0 (rawInt L)->Kp (frs (env::outer)) [x] s.heap h'->s.heap.get? T'=none->Q () {s with heap:=h'}):V8 M A (noteFrame (.ref x) env) Q E s:=by
 let k:1<vs.size:=by
  obtain⟨z,_⟩:=pA.mp f;exact z
 unfold noteFrame;rw[i];refine mC (rJ g h f ?_);exact zNc c b i g j h l k e q
theorem zIf(p:A.frames=Y (env::outer))(u:s.heap.FunFrames base (env::outer))(D:env.frame=Y L)(hx:x∉frs (env::outer))(hT:T∉frs (env::outer))(F:Fl φ s.heap x T C d a0 .none)
  (q:∀j a,Fl φ j x a C d a0 (rawInt L)->Kp (frs (env::outer)) [x,T] s.heap j->s.heap.get? a=none->Q () {s with heap:=j}):V8 M A (noteFrame (.ref x) env) Q E s:=by
 ext yK F N vs oT ts H r;ext zQ r e2 e3 I e5 B r;ext vS r e7 w m g y;let hs:1<vs.size:=by
  obtain⟨z,_⟩:=pA.mp B;exact z
 let t:3<ts.size:=by
  obtain⟨z,_⟩:=pA.mp g;exact z
 unfold noteFrame;rw[D];refine mC (rJ H I B ?_);rw[mJ (by rfl)];refine mC (rJ w m g ?_);rw[mH (by intro z;cases (eq_of_beq z))];refine mC (sG w m t ?_);let v:Kp (frs (env::outer)) [T] s.heap (s.heap.update T (Obj.mapFields λx=>x.setIfInBounds 3 Value.none)):=⟨λb o e _ h=>(mZ _ _ λz=>h (by rw[z];exact mE)).trans e,λb o e h l=>⟨o.slots,(mZ _ _ λz=>l (by rw[z];exact mE)).trans e⟩⟩;let i:(s.heap.update T (Obj.mapFields λx=>x.setIfInBounds 3 Value.none)).FunFrames base (env::outer):=zDv v (λb h=>{h,λz=>hT (by rw[<-mF.mp z];exact h)}) u;let x2:(s.heap.update T (Obj.mapFields λx=>x.setIfInBounds 3 Value.none)).get? x=Y N:=(mZ _ _ e7).trans H;let J:=zNc (E:=E) (M:=M) (A:=A) (head:=.ref T) (b:=true) (s:={s with heap:=s.heap.update T (Obj.mapFields λx=>x.setIfInBounds 3 Value.none)}) (Q:=Q) p i D x2 hx I e5 hs y;rw[e2,e3] at J;refine J λj a f k n=>q j a f (v.trans k λc hc=>?_) ?_
 ·rcases hc with z | z
  ·rw[mF.mp z];simp
  ·rw[mF.mp z.1];simp
 ·cases e:s.heap.get? a with
  |none=>rfl|some o=>
   by_cases z:a=T
   ·subst z
    rw[gM w m] at n;cases n
   ·let:=v.keep
    rw[(mZ s.heap _ (Ne.symm z)).trans e] at n;cases n
end
section
variable{X:Cx}{pins:C7}{σ:St}{H H':Hp}{s s':V2}{φ:V0->Prop}
theorem i4{P:V3}{w:V4}{h:V5}{a:V1}{o:HO}(x:ObjOk P w H h a o):∃b,h.get? a=Y b:=by
 induction o with
 |lst j=>obtain⟨_,d,n,_,e⟩:=x;exact⟨_,e⟩
 |tup j=>obtain⟨_,d,_,b,e,_⟩:=x;exact⟨_,e⟩
 |dK i=>obtain⟨_,_,A,_,b,g,c,e,_⟩:=x;exact⟨_,e⟩
 |dT i=>obtain⟨_,_,j,_,b,g,c,e,_⟩:=x;exact⟨_,e⟩
 |set S n=>obtain⟨b,g,c,t,e,_⟩:=x;exact⟨_,e⟩
 |ins C r k=>obtain⟨_,_,_,e,_⟩:=x;exact⟨_,e⟩
 |own y=>exact x|xd k=>obtain⟨m,⟨p,g,c,e,_⟩,_⟩:=x;exact⟨_,e⟩
 |rng lo q=>obtain⟨t,u,v,e⟩:=x;exact⟨_,e⟩
 |frz b u z=>exact⟨_,x.1⟩|tbl l=>exact{_,(show h.get? a=Y _ from x)}|met f y=>exact{_,(show h.get? a=Y _ from x)}|ext φ=>exact x.2.1
theorem kA{B h:V5}:∀{l:List S7},h.FunFrames B l->∀b∈frs l,∃o,h.get? b=Y o/\∀vs:Array V0,o.data≠ .fields vs
 |[],_,b,a=>nomatch a|env::l,c,b,a=>by
  rw[Heap.FunFrames.eq_2] at c;obtain⟨_,⟨L,o,d,_,f,e⟩,r⟩:=c;unfold frs at a;rw[pV,d] at a;rcases mG.mp a with z | z
  ·rw[z];exact⟨o,f,e⟩
  ·exact kA r b z
def CXE(φ:V0->Prop)(P:V3)(w:V4):CXT:=λa H s E e s'=>∃(x T:V1)(C:V0)(d:Option V1)(b:V0)(H':Hp),e= .ref x/\s'.os=s.os/\AllBare s'.gens/\Un (frs a) [] H H' s.heap s'.heap/\HOk P w H' s'.heap/\
 s.heap.get? x=none/\s.heap.get? T=none/\H' x=none/\H' T=none/\Fl φ s'.heap x T C d b .none/\E C d H'
theorem zAu{d xs:B9}{m H':Hp}{i h h':V5}(u:Un d [] m H' i h)(k:Kp d xs h h')(g:∀b∈xs,i.get? b=none):Un d [] m H' i h' where
 keep b o e n a hx:=k.keep b o (u.keep b o e n a hx) a λz=>by rw[g b z] at e;cases e
 slot b o e n a hx:=by
  obtain⟨r,q⟩:=u.slot b o e n a hx;obtain⟨c,f⟩:=k.slot b _ q a λz=>by rw[g b z] at e;cases e
  exact⟨c,f⟩
 free b o e n hx:=u.free b o e n hx
 there b o e hx:=by
  obtain⟨p,j⟩:=u.there b o e hx;let l:b∉xs:=λz=>by rw[g b z] at e;cases e
  by_cases a:b∈d
  ·obtain⟨c,f⟩:=k.slot b _ j a l
   exact⟨_,f⟩
  ·exact{p,k.keep b p j a l}
 tups:=u.tups
 frzs:=u.frzs
 tbls:=u.tbls
theorem kF{P:V3}{w:V4}{H:Hp}{c xs:B9}{h h':V5}(x:HOk P w H h)(k:Kp c xs h h')(g:∀b∈c,H b=none)(f:∀b∈xs,H b=none):HOk P w H h':=λa o e=>
 (x a o e).stay (λb u i q=>by
  let d:H b≠none:=by
   rcases i with z | z
   ·rw[z,e];exact λz=>nomatch z
   ·rw[z];exact λz=>nomatch z
  exact k.keep b u q (λz=>d (g b z)) λz=>d (f b z)) (λ_ q=>q) λ_ _ q=>q
theorem wO{a fs' xs:B9}{h h':V5}(k:Kp a xs h h')(c:∀b,b∈a->b∈fs'\/b∈xs):Kp fs' xs h h' where
 keep b o e hf hx:=k.keep b o e (λz=>(c b z).elim hf hx) hx
 slot b o e hf hx:=by
  by_cases z:b∈a
  ·exact k.slot b o e z hx
  ·exact⟨o.slots,k.keep b o e z hx⟩
theorem zZg{E:XK}{e:V0}{EE:C9}(I:Inv X pins σ H s)(y:X.stack=X.env::X.outer)(hf:X.env.frame=Y X.env.locals)(hex:X.ex= [])(h:CXE φ X.prog X.w X.stack H s E e s'):
  V8 (S5 X.prog X.w) X.A (leaving X.env e) (λ_ s3=>CXE φ X.prog X.w X.outer X.H₀ X.s₀ E e s3) EE s':=by
 ext zY h x T C d a0 r;ext wS r H' J os t un r;ext zQ r A L hT p N r;ext oA r fl q;subst J;let l:Inv X pins σ H' s':=I.call' os un A t (λb z=>absurd z (by simp));let k:∀b,s.heap.get? b=none->X.s₀.heap.get? b=none:=λb f=>by
  cases e:X.s₀.heap.get? b with
  |none=>rfl|some o=>
   obtain⟨o',m⟩:=I.base.there b o e (by rw[hex];exact λz=>nomatch z);rw[f] at m;cases m
 let D:frs X.stack=X.env.locals::X.fs:=by
  rw[y];unfold frs;rw[pV,hf];rfl
 let w:X.s₀.heap.get? X.env.locals=none:=rE I.ok.above;let n:=I.ok.frames;rw[y] at n;let u:∀b,s.heap.get? b=none->b∉frs X.stack:=λb f z=>by
  obtain⟨o,e,_⟩:=kA I.stack b z;rw[f] at e;cases e
 let nx:=u x L;let nT:=u T hT;let st:=l.stack;rw[y] at nx nT st;unfold leaving;refine mC (zIf n st hf nx nT fl λh1 g f1 k1 Q=>?_);refine vM f1 λB f2 k2=>?_;rw[<-y] at k1;let a:=l.base;rw[hex] at a;let i:H' g=none:=by
  cases e:H' g with
  |none=>rfl|some o=>
   obtain⟨ob,v⟩:=i4 (l.hok g o e);rw[Q] at v;cases v
 let j:X.s₀.heap.get? g=none:=by
  cases e:X.s₀.heap.get? g with
  |none=>rfl|some o=>
   obtain⟨o',m⟩:=a.there g o e (λz=>nomatch z);rw[Q] at m;cases m
 let k3:Kp (frs X.stack) [x,T,g] s'.heap B:=k1.trans (wO k2 λb f=>nomatch f) λc M=>by
  rcases M with z | z
  ·rcases mG.mp z with z | z
   ·rw[z];simp
   ·rw[mF.mp z];simp
  ·rw[mF.mp z.1];simp
 let k4:Kp X.fs [x,T,g,X.env.locals] s'.heap B:=by
  let k5:Kp (frs X.stack) [x,T,g,X.env.locals] s'.heap B:=k3.trans Kp.refl (ys:=[]) λc M=>by
   rcases M with z | z
   ·rcases mG.mp z with z | z
    ·rw[z];simp
    ·rcases mG.mp z with z | z
     ·rw[z];simp
     ·rw[mF.mp z];simp
   ·exact nomatch z.1
  refine wO k5 λb f=>?_;rw[D] at f;rcases mG.mp f with z | z
  ·rw[z];exact .inr (by simp)
  ·exact .inl z
 refine{x,g,C,d,a0,H',O,l.os,l.bare,zAu a k4 λb f=>?_,kF l.hok k3 l.stkFree λb f=>?_,k x L,j,p,i,f2,q}
 ·rcases mG.mp f with z | z
  ·rw[z];exact k x L
  ·rcases mG.mp z with z | z
   ·rw[z];exact k T hT
   ·rcases mG.mp z with z | z
    ·rw[z];exact j
    ·rw[mF.mp z];exact w
 ·rcases mG.mp f with z | z
  ·rw[z];exact p
  ·rcases mG.mp z with z | z
   ·rw[z];exact N
   ·rw[mF.mp z];exact i
end
end L2
namespace L2
open PySem PySem.Spec PyProof.Rows PySem.W
def XObj(nm:Str)(C N:V1)(bm:B7)(o:Obj):Prop:=∃(q:Str)(d:B7)(a:Bool)(h:C1)(sub:B7)(e:Bool)(b:Option Bool)(i:Option V1)(k f c g j:Option V0),o=excClassObj nm q C N d bm a h sub e b i k f c g j "ValueError.__new__"
section
variable{M:Model}{A:Around}{E:C9}{s:V2}{env:S7}
theorem zEh{nm:Str}{C N:V1}{bm:B7}{x:Sem V0}{Q:Flow->V2->Prop}(t:bm.contains (.type "BaseException")=true)(u:A.handled=none)
  (h:V8 M A x (λv i=>∃(e:V1)(a l:Obj)(k:Array V0),v= .ref e/\i.heap.get? C=Y l/\XObj nm C N bm l/\i.heap.get? e=Y a/\a.cls= .ref C/\a.data= .fields k/\k[1]? =some .none/\E (.ref e) i) E s):
  V8 M A (raiseStmt env ↥x none) Q E s:=by
 unfold raiseStmt;refine mC (thn h λv i ⟨e,a,l,k,w,m,y,d,b,o,r,q⟩=>?_);subst w;ext zY y L I n sn sub j;ext zY j J p B k0 k1 j;ext zSz j H k3 D g;subst g;let f:∀c:ClassData,a.data≠ .cls c:=λc z=>by rw[o] at z;cases z
 refine mC (mY ?_);refine mC (rD ?_);unfold excFromValue isExcClass;refine mC (mC (tY d f ?_));rw[mH mX];refine mY ?_;rw[mH mX];unfold PySem.isInstance;refine mC (mC (rQ d ?_));rw[b];refine bS m ?_;rw[show(Value.ref C::bm).contains (Value.type "BaseException")=true by
  rw[sH,t,tH],mJ O]
 refine mY ?_;refine mC (tY d f ?_);rw[mH mX];unfold raisedInstance;refine mC (mC (rQ d ?_));rw[b];refine mC (rQ m ?_);rw[mJ (by rfl)];refine mY ?_;refine mC ?_;unfold setFlight;refine mC (rJ d o r ?_);rw[mH (by intro z;cases z)];refine mY ?_;exact wpAny_raiseNew_none u q
end
end L2
namespace L2
open PySem PySem.Spec PyProof.Rows PySem.W
abbrev veMro:List V0:=[.type "ValueError", .type "Exception", .type "BaseException", .type "object"]
abbrev jS(C t:V1):Obj:={cls:=.ref C,data:=.fields #[.ref t, .none, .none, .none, .bool false, .none]}
theorem zVq(a:Args):(Code.builtin "type.__call__" a).quiet=true:=by
 unfold Code.quiet
 first | rfl | kernel_rfl | decide+kernel
theorem zQe(a:Args):(Code.builtin "ValueError.__new__" a).quiet=true:=by
 unfold Code.quiet
 first | rfl | kernel_rfl | decide+kernel
section
variable{prog:V3}{w:V4}{A:Around}{K:Frag}{C fI N:V1}{nm:Str}{bm:B7}{o:Obj}
theorem zSg{R:Result->V2->Prop}{rest:B7}{h:V5}{g:Array GenState}{d:Drawn}{t:Nat}{os:OsState}(p:K.In h)(lk:K.lookup C=Y o)(I:XObj nm C N bm o)(E:tailIn K veMro bm=true)(B:findIn K (.ref C) "__init__" =Y ↥(.ref fI))(H:typeIn K (.ref fI)=Y (.type "function"))(hz:rest...*<=100)
  (D:codeAny (S5 prog w) (A.under (.builtin "type.__call__" {.ref C::rest,[]})) (.call (.ref fI) {.ref (h.objs.size+1)::rest,[]}) (InitBack (h.objs.size+1) R) {(h.push {cls:=.type "tuple",data:=.seq rest.toArray}).push (jS C h.objs.size),g,d,t,os}):
  codeAny (S5 prog w) A (.call (.ref C) {rest,[]}) R ⟨h,g,d,t,os⟩:=by
 let a:h.get? C=Y o:=p _ _ lk;ext zY I q' Q s sn sub m;ext zY m ab x J k0 k1 m;ext zSz m M k3 L j;subst j;let q:=tail_of_in p E;refine codeAny_of_tree ?_;show V8 _ _ (callAny (.ref C) {rest,[]}) _ _ _;unfold callAny;refine mC (wpAny_load a ?_);show V8 _ _ (callAny.viaDunder (.ref C) {rest,[]}) _ _ _;unfold callAny.viaDunder specialOf;refine mC (mC (rQ a ?_));rw[tc_lookup];refine mY ?_;dsimp only;rw[tc_bind];refine mC (mY ?_);dsimp only;refine mC ?_;unfold callAny.plainCallee;refine mY ?_;rw[mJ (by rfl)];refine mY {O, ?_};refine codeAny_call_builtin_at (zVq _) F.entry_type_call (wpAny_check_type_call_sub a ?_);show V8 _ _ (Builtin.«type.__call__» {.ref C::rest,[]}) _ _ _;unfold Builtin.«type.__call__»;dsimp only;rw[mH (by intro z;cases (eq_of_beq z))];refine mC (wpAny_mroOf_exc a ?_);rw[mH (by intro z;cases z)];refine mC (wpAny_madeBy_exc a ?_);dsimp only;refine mC (mY ?_);refine mC (rD (aO ?_));refine codeAny_call_builtin_code (zQe _) (wpAny_check_new_subT bN q a ?_);refine codeAny_exc_new_subT bN q a ?_ (by rw[mV];lia);let i:∀b k,h.get? b=Y k->((h.push {cls:=.type "tuple",data:=.seq rest.toArray}).push (jS C h.objs.size)).get? b=Y k:=λb k e=>mL _ (mL _ e);let n:(h.push {cls:=.type "tuple",data:=.seq rest.toArray}).objs.size=h.objs.size+1:=tE ..;let u:((h.push {cls:=.type "tuple",data:=.seq rest.toArray}).push (jS C h.objs.size)).get? (h.objs.size+1)=Y (jS C h.objs.size):=by
  rw[<-n];exact nI _ O
 let f:K.In ((h.push {cls:=.type "tuple",data:=.seq rest.toArray}).push (jS C h.objs.size)):=p.keeps i;let l:=i _ _ a;unfold PySem.isInstance;refine mC (mC (rQ u ?_));refine bS l ?_;rw[show(Value.ref C::bm).contains (Value.ref C)=true by simp,mH ∎];refine mC (rD ?_);unfold callSpecial? specialOf;refine mC (mC (rQ u ?_));refine Looks.here (looks_findIn f B) ?_;dsimp only;refine rD (mC (Looks.here (bind_fn f _ H) ?_));dsimp only;refine mC (aO (rX D λr s' c=>?_))
 cases r with
 |error e=>exact c|ok y=>
  cases y with
  |ret v=>
   obtain⟨rfl,c⟩:=c;refine mY ?_;dsimp only;rw[mH (by intro z;cases z)];exact mY c
  |next=>exact c.elim|brk=>exact c.elim|cont=>exact c.elim
end
end L2
namespace L2
open PySem PySem.Spec PyProof.Rows PySem.W PySem.Builtin PySem.Builtin.ObjectAttr
section
variable{prog:V3}{w:V4}{A:Around}{K:Frag}{C B x:V1}{cd:ClassData}{ox:Obj}{name:Str}{v:V0}
theorem osa_x{R:Result->V2->Prop}{s:V2}{r:Tok}(L:K.In s.heap)(hc:clsIn K C=Y cd)(hm:cd.mro= .ref C:: .ref B::veMro)(hd:cd.hasDict=true)(m:s.heap.get? x=Y ox)(j:ox.cls= .ref C)(M:∀c,ox.data≠ .cls c)(u:ox.dict=none)
  (hn:findIn K (.ref C) name=Y none)
  (q:∀n t',n.get? x=some {ox with dict:=Y s⁻¹}->n.Ns1 s⁻¹ (λy=>if y=name then Y v else none)->(∀b o,b≠x->s.heap.get? b=Y o->n.get? b=Y o)->R (.ok (.ret .none)) {s with heap:=n,toks:=t'}):
  codeAny (S5 prog w) A (.call (.builtin "object.__setattr__") {[.ref x, .str name r,v],[]}) R s:=by
 let l:=PySem.F.store_ValueError;obtain⟨h,g,dr,t,os⟩:=s;dsimp only at L m q;let N:Looks (S5 prog w) h (typeOf (.ref x)) (.ref C):=by
  intro A Q E s k q;refine rQ (k _ _ m) ?_;rw[j];exact q
 let sub:Looks (S5 prog w) h (isInstance (.ref x) (.type "object")) true:=N.andThen (looks_mroIn L (by
  unfold mroIn;rw[hc,Option.bind_some,mH (by rw[hm];exact mX),hm,sH,sH,show veMro.contains (.type "object")=true by decide,tH,tH]))
 refine codeAny_call_builtin l.slot.plain l.entry (@check_slot (S5 prog w) _ _ ⟨h,g,dr,t,os⟩ "object.__setattr__" "object" "__setattr__" (.ref x) [.str name r,v] [] _ l.kind l.split sub (l.args (.ref x) (.str name r) v) ?_);let aa:Looks (S5 prog w) h (mroOf (.ref C)) cd.mro:=(looks_clsIn L hc).andThen .now;rw[osa_eq,refuse_eq];refine mC (mC (Looks.here N (mC (Looks.here aa ?_))));rw[hm,refuseLoop_ref,refuseLoop_ref,l.passes];refine mY (mC (Looks.here N (mC (Looks.here (looks_findIn L hn) (mC ?_)))));refine mY ?_;dsimp only;unfold storeInOwnDict;refine mC (mY ?_);rw[mH (by intro z;cases (eq_of_beq z))];refine mC ?_;show V8 _ _ (instanceDict x true) _ _ _;unfold instanceDict;refine mC (wpAny_loadPart m ?_);obtain⟨oc,am,p,aj⟩:=ox;dsimp only at j u M;subst j u;dsimp only;refine mC (Looks.here (looks_clsIn L hc) ?_);rw[hd];rw[mH (show¬((!true)=true) from mX),mH (by simp[typeHasDict])];let H:V8 (S5 prog w) A.in1 (do
     let d <-alloc {cls:=Value.type "dict",data:=Data.dict #[]}
     update x λo=>{cls:=o.cls,dict:=Y d,data:=o.data,slots:=o.slots}
     dictMade (Value.ref C) x d)
   (λa i=>
   V8 (S5 prog w) A.in1
    (match a with
    | some d=>storeInDict d (Value.str name r) name v|none=>noDictFor (Value.ref x) (Value.ref C) name (none:Option V0).isSome)
    (λag i=>
     match ag with
     | Fin.done f=>R (Except.ok f) i|Fin.again c'=>c'.quiet=true/\codeAny (S5 prog w) A c' R i)
    (λe i=>R (Except.error e) i) i)
  (λe i=>R (Except.error e) i) {heap:=h,gens:=g,drawn:=dr,toks:=t,os:=os}:=by
  let D:(h.push {cls:=.type "dict",data:=.dict #[]}).get? x=Y _:=mL _ m;let J:x≠h.objs.size:=nN (mQ m);refine mC (wpAny_alloc' ?_);refine mC (wpAny_update' D ?_);refine mY ?_;let ah:((h.push {cls:=.type "dict",data:=.dict #[]}).update x λo=>{cls:=o.cls,dict:=Y h.objs.size,data:=o.data,slots:=o.slots}).get? h.objs.size=some {cls:=.type "dict",data:=.dict #[]}:=
   (Heap.get?_update_ne _ _ _ _ J.symm).trans (Heap.get?_push_at O O)
  let af:((h.push {cls:=.type "dict",data:=.dict #[]}).update x λo=>{cls:=o.cls,dict:=Y h.objs.size,data:=o.data,slots:=o.slots}).Ns h.objs.size (λ_=>none):=
   {_,#[],_,ah,O,λe he=>absurd he (by simp),λ_=>O}
  show V8 _ _ (storeInDict h.objs.size (.str name r) name v) _ _ _;unfold storeInDict newKeyGuard;refine mC (mY (mC (wpAny_nsSet1 (Heap.Ns1.of_empty af) λn I hs=>?_)));refine zZ (I.count (Within.cons name v Within.nil)) λoD al ak ai ae ab=>?_;refine mC (wpAny_lookBehind ai (by rw[ae];exact pastItsLine_dict (nP ab (by rw[mP,pL,mV];lia))) ?_);refine mY ?_;let ac:=(Heap.get?_some_iff.mp m).2;refine q n _ ((hs.2 x J).trans (bE _ D ?_)) I λb o hb e=>?_
  ·cases p<;>first | rfl | exact ac
  ·exact(hs.2 b (nN (mQ e))).trans ((Heap.get?_update_ne _ _ _ _ hb).trans (mL _ e))
 cases p with|cls c=>exact absurd O (M c)|_=>exact H
theorem zZq{E:C9}{Q:Unit->V2->Prop}{s:V2}(k:K.In s.heap)(t:clsIn K C=Y cd)(p:cd.mro= .ref C:: .ref B::veMro)(n:cd.hasDict=true)(l:s.heap.get? x=Y ox)(e:ox.cls= .ref C)(f:∀c,ox.data≠ .cls c)(g:ox.dict=none)
  (z:findIn K (.ref C) "__setattr__" =Y ↥(.builtin "object.__setattr__")) (r:findIn K (.ref C) name=Y none)
  (q:∀d j,d.get? x=some {ox with dict:=Y s⁻¹}->d.Ns1 s⁻¹ (λy=>if y=name then Y v else none)->(∀b o,b≠x->s.heap.get? b=Y o->d.get? b=Y o)->Q () {s with heap:=d,toks:=j}):
  V8 (S5 prog w) A (setAttr (.ref x) name v) Q E s:=by
 let i:notCls ox=true:=by
  unfold notCls;obtain⟨D,u,h,m⟩:=ox
  cases h with|cls c=>exact absurd O (f c)|_=>rfl
 refine set_plain (od:=none) k {l,e,i,by rw[g];trivial} z ?_;exact osa_x (s:={s with toks:=s.toks+1}) k t p n l e f g r λd j a b c=>q d j a b c
end
end L2
namespace L2
open PySem PySem.Spec PyProof.Rows PySem.W
structure zCc(K:Frag)(nm:Str)(C B fI:V1):Prop where
 obj:∃(N:V1)(o:Obj),K.lookup C=Y o/\XObj nm C N (.ref B::veMro) o
 cd:∃cd,clsIn K C=Y cd/\cd.mro= .ref C:: .ref B::veMro/\cd.hasDict=true
 tl:tailIn K veMro (.ref B::veMro)=true
 init:findIn K (.ref C) "__init__" =Y ↥(.ref fI)
 fn:typeIn K (.ref fI)=Y (.type "function")
 set:findIn K (.ref C) "__setattr__" =Y ↥(.builtin "object.__setattr__")
 at_:findIn K (.ref C) "at" =Y none
 kp:keepIn K (.ref C)=true
structure zOx(K:Frag)(B:V1):Prop where
 sp:specialIn K (.ref B) "__getattribute__" =Y ↥(.builtin "type.__getattribute__")
 rd:readsIn K B (.type "type")=true
 init:findCls K (.ref B) (.type "type") "__init__" =Y (.val (.builtin "ValueError.__init__"))
noncomputable def exO(x C:V1)(d:Option V1):HO:=.ext λh=>∃a:Array V0,h.get? x=some {cls:=.ref C,dict:=d,data:=.fields a}/\a.size=6/\a[1]? =some .none/\a[2]? =some .none
theorem zCp{P:V3}{w:V4}{H:Hp}{h:V5}{x C:V1}{d:Option V1}{vs:Array V0}(e:h.get? x=some {cls:=.ref C,dict:=d,data:=.fields vs})(g:vs.size=6)(f:vs[1]? =some .none)(c:vs[2]? =some .none):ObjOk P w H h x (exO x C d):=
 {⟨vs,e,g,f,c⟩,⟨_,e⟩,λ_ _ ⟨vs,e,a,b⟩ k=>{vs,k _ e,a,b}}
theorem yBf{H:Hp}{a:V1}{o:HO}(h:H a=Y o):upd H a o=H:=by
 funext b
 unfold upd;split
 ·rename_i e;rw[e,h]
 ·rfl
theorem Un.also{g f:B9}{H H1:Hp}{h h':V5}{a:V1}{o:HO}(u:Un g f H H1 h h')(k:h.objs.size<=a)(e:H a=none):Un g f H (upd H1 a o) h h' where
 keep:=u.keep
 slot:=u.slot
 free:=λb d q n j=>by rw[zK (nN (nF (mQ q) k))];exact u.free b d q n j
 there:=u.there
 tups:=λb c q=>by rw[zK (yD q e)];exact u.tups b c q
 frzs:=λb d c q=>by rw[zK (yD q e)];exact u.frzs b d c q
 tbls:=λb i q=>by rw[zK (yD q e)];exact u.tbls b i q
theorem HOk.also{P:V3}{w:V4}{H:Hp}{h:V5}{a:V1}{o:HO}(x:HOk P w H h)(f:H a=none)(d:ObjOk P w (upd H a o) h a o):HOk P w (upd H a o) h:=λb u e=>by
 by_cases g:b=a
 ·subst g;rw[zC] at e;cases e;exact d
 ·rw[zK g] at e
  exact(x b u e).stay (λc v _ q=>q) (λc q=>by rw[zK (yD q f)];exact q) λc i q=>by rw[zK (yD q f)];exact q
section
variable{X:Cx}{pins:C7}{σ:St}{H:Hp}{s:V2}{x C B fI:V1}{nm:Str}{d:Option V1}
theorem zAg(I:Inv X pins σ H s)(h:H x=Y (exO x C d)):∃vs:Array V0,s.heap.get? x=some {cls:=.ref C,dict:=d,data:=.fields vs}/\vs.size=6/\vs[1]? =some .none/\vs[2]? =some .none:=(I.hok x _ h).1
theorem zQs{Q:C9}{E:C9}{u:V0}(c:zCc X.K nm C B fI)(I:Inv X pins σ H s)(r:H x=Y (exO x C d))(q:∀s',Inv X pins σ H s'->Q .none s'):
  V8 (S5 X.prog X.w) X.A (call (.builtin "ValueError.__init__") [.ref x,u]) Q E s:=by
 refine yDm (c.obj) λN o lk q' bs k=>?_;ext zY k z sn sub ab J k;ext zY k dd k0 k1 k2 k3 k;ext oE k k5 l;subst l;refine qD (zAg I r) λA p M L D=>?_;let y:=tail_of_in I.kIn c.tl;let w:=I.kIn _ _ lk;let I':=I;obtain⟨h,g,dr,t,os⟩:=s;dsimp only at p w y;let F:=bN;obtain⟨n,h0⟩:∃n,A[0]? =Y n:={_,pA.mpr {∅,O}};refine aO (codeAny_call_builtin F.init.plain F.initEntry (wpAny_check_init_subT F y w p O ?_));unfold Builtin.«BaseException.__init__»;dsimp only;rw[mH (by simp)];let m:0<A.size:=by lia
 let i:=mL (h:=h) {cls:=.type "tuple",data:=.seq [u].toArray} p;let j:=gM i O 0 (.ref h.objs.size);let v:Inv X pins σ H {(h.push {cls:=.type "tuple",data:=.seq [u].toArray}).update x (Obj.mapFields λxs=>xs.setIfInBounds 0 (.ref h.objs.size)),g,dr,t,os}:=by
  rw[<-yBf r];refine Inv.write (t':=t) I' (e:=x) (by rw[r];exact mS) (.inl O) (λb ob hb e=>(mZ _ _ (Ne.symm hb)).trans (mL _ e)) ⟨_,j⟩ (zCp j ?_ ?_ ?_)
  ·rw[sJ];exact M
  ·rw[pQ ∎];exact L
  ·rw[pQ ∎];exact D
 refine mC (wpAny_newTuple ?_ (by rw[mV];simp));unfold Builtin.BaseException.bexcPut;refine mC (mC (rJ i O h0 (mC (sG i O m ?_))));let f:=q _ v
 cases n with|ref a=>exact wpAny_letGo (mY f)|_=>exact mY (mY f)
end
end L2
namespace L2
open PySem PySem.Spec PyProof.Rows PySem.W
section
variable{X:Cx}{C B fI:V1}{nm:Str}
def yDo(C:V1)(t:TA):TE:=λσ H Q=>t σ H λb a=>∃x v,b= [.ref x,v]/\a x=Y (exO x C none)/\Q .non a
theorem zLj{j:Str}{p g d:Pos}{e:Expr}{i:C5}{t:TA}{pl:Sem Bool}(c:zCc X.K nm C B fI)(b:zOx X.K B)(y:Gl X j)(L:X.mg j=Y (.ref B))(A:PA X (e::i) t)(m:(j==("__debug__" :Str))=false:=by decide)
  (he:A2 (e::i) X.env=(false,eval e X.env)::A2 i X.env:=by rfl) (n:(S2 d (A2 i X.env)).any (·.1)=false:=by rfl)
  (M:eval (.Call (.Attribute (.Name j p) "__init__" g) (e::i) [] d) X.env=(do
   let ov <-eval (.Name j p) X.env
   S0 g.atName
   let (f,first) <-holding [ov] (getMethod ov "__init__" pl)
   callWith d f first (S2 d (A2 (e::i) X.env)) (backToKw d (keywordEach [] X.env))):=by rfl):
  PE X (.Call (.Attribute (.Name j p) "__init__" g) (e::i) [] d) (yDo C t):=by
 intro k s σ H Q I h;refine methodCall_KW (pl:=pl) (qO I y L ?_ m) M;refine method_cls I.kIn b.sp (cls_value I.kIn b.rd b.init (by decide+kernel) ?_);let D:=I.tok (s.toks+1);refine bI (thn (A d k _ σ H _ D h) λN s2 ⟨vs,H2,J,r,x,v,z,E,q⟩=>?_) he n;subst z;obtain⟨l,o,rfl,w⟩:∃l o,N= [l,o]/\RelV (.ref x) l:=by
  cases r with
  |cons a r=>
   cases r with|cons b r=>cases r;exact⟨_,_,O,a⟩
 obtain rfl:l=Value.ref x:=w;exact zQs c J E λs' u=>{.non,H2,u,O,q}
def zZy(C:V1)(f:Str)(b ta:TE):TS:=λD σ H=>b σ H λv c=>ta σ c λo a=>∃x,o= .ref x/\a x=Y (exO x C none)/\∀d,a d=none->D.nx σ (upd (upd a x (exO x C ↥d)) d (.xd [(f,v)]))
theorem zYq{o b:Expr}{i k:Pos}{v ta:TE}(c:zCc X.K nm C B fI)(L:PE X b v)(ha:PE X o ta)(hs:S1 b ↥(.Attribute o "at" i) k.line X.env=pure false:=by rfl):PS X (.Assign [.Attribute o "at" i] b k) (zZy C "at" v ta):=by
 intro g s σ H D I h;refine bG (thn (L g s σ H _ I h) λu s1 ⟨y,H1,I1,ry,q⟩=>thn (ha g s1 σ H1 _ I1 q) λE j ⟨z,n,l,rx,x,ez,r,q2⟩=>?_) hs;subst ez;obtain rfl:E=Value.ref x:=rx;refine qD (zAg l r) λvs he Q N J=>?_;refine yX (c.cd) λcd hc hm hd=>?_;refine zZq l.kIn hc hm hd he O (λ_ z=>by cases z) O c.set c.at_ λA M p g2 w=>?_;let d:n j⁻¹=none:=l.fresh;let t:j⁻¹≠x:=λz=>by rw[z,r] at d;cases d
 let m:Mut (n x):=by rw[r];exact mS
 let u1:Un X.fs [] n (upd n x (exO x C ↥j⁻¹)) j.heap A:=Un.write (e:=x) m (.inl O) w ⟨_,p⟩;let k1:HOk X.prog X.w (upd n x (exO x C ↥j⁻¹)) A:=l.hok.write (e:=x) m (.inl O) w ⟨_,p⟩ (zCp p Q N J);refine{σ,_,l.un (t':=M) (u1.also (a:=j⁻¹) (o:=.xd [("at",y)]) (mD _) d) (k1.also (by rw[zK t];exact d) ?_),q2 _ d};refine{_,g2,λf=>?_};show RelO (List.lookup f [("at",y)]) _;rw[rY,List.lookup_nil]
 by_cases z:f= "at"
 ·subst z
  rw[mJ O,cM];exact ry
 ·rw[mH z,show(f==("at" :Str))=false from rT.mpr z]
  trivial
def zDh(C:V1):Sp:=λb H Q _=>∃x a v,b= [.ref x,a,v]/\H x=Y (exO x C none)/\∀d,H d=none->Q .non (upd (upd H x (exO x C ↥d)) d (.xd [("at",v)]))
end
section
variable{X:Cx}{pins:C7}{σ:St}{H:Hp}{s:V2}{x C:V1}{d:Option V1}{φ:V0->Prop}
def drp(H:Hp)(x:V1):Hp:=λb=>if b=x then none else H b
theorem vD{b:V1}(h:b≠x):drp H x b=H b:=mH h
theorem gW:drp H x x=none:=mJ O
theorem zGf{E:XK}{EE:C9}(I:Inv X pins σ H s)(A:X.stack=X.env::X.outer)(hf:X.env.frame=Y X.env.locals)(hex:X.ex= [])(N:H x=Y (exO x C d))(k:X.s₀.heap.get? x=none)(hφ:φ .none)(q:E (.ref C) d (drp H x)):
  V8 (S5 X.prog X.w) X.A (leaving X.env (.ref x)) (λ_ s3=>CXE φ X.prog X.w X.outer X.H₀ X.s₀ E (.ref x) s3) EE s:=by
 refine qD (zAg I N) λvs he h6 h1 j=>?_;obtain⟨M,h0⟩:∃M,vs[0]? =Y M:={_,pA.mpr {∅,O}};let L:frs X.stack=X.env.locals::X.fs:=by
  rw[A];unfold frs;rw[pV,hf];rfl
 let u:X.s₀.heap.get? X.env.locals=none:=rE I.ok.above;let r:=I.ok.frames;rw[A] at r;let nx:x∉frs X.stack:=λz=>by
  let:=I.stkFree x z;rw[N] at this;cases this
 let st:=I.stack;let v:=nx;rw[A] at v st;unfold leaving;refine mC (zKu (φ:=φ) r st hf he v O h0 h1 ⟨_,j,hφ⟩ λh1 g f1 k1 n1=>?_);refine vM f1 λj f2 k2=>?_;rw[<-A] at k1;let a:=I.base;rw[hex] at a;let h:H g=none:=by
  cases e:H g with
  |none=>rfl|some o=>
   obtain⟨w,t⟩:=i4 (I.hok g o e);rw[n1] at t;cases t
 let i:X.s₀.heap.get? g=none:=by
  cases e:X.s₀.heap.get? g with
  |none=>rfl|some o=>
   obtain⟨o',e'⟩:=a.there g o e (λz=>nomatch z);rw[n1] at e';cases e'
 let k3:Kp (frs X.stack) [x,g] s.heap j:=k1.trans (wO k2 λb f=>nomatch f) λc Q=>by
  rcases Q with z | z
  ·rw[mF.mp z];simp
  ·rw[mF.mp z.1];simp
 let k4:Kp X.fs [x,g,X.env.locals] s.heap j:=by
  let k5:Kp (frs X.stack) [x,g,X.env.locals] s.heap j:=k3.trans Kp.refl (ys:=[]) λc Q=>by
   rcases Q with z | z
   ·rcases mG.mp z with z | z
    ·rw[z];simp
    ·rw[mF.mp z];simp
   ·exact nomatch z.1
  refine wO k5 λb f=>?_;rw[L] at f;rcases mG.mp f with z | z
  ·rw[z];exact .inr (by simp)
  ·exact .inl z
 let l:Un X.fs [] X.H₀ H X.s₀.heap j:=zAu a k4 λb f=>by
  rcases mG.mp f with z | z
  ·rw[z];exact k
  ·rcases mG.mp z with z | z
   ·rw[z];exact i
   ·rw[mF.mp z];exact u
 let p:∀b o,H b=Y o->(∀φ,o≠ .ext φ)->b≠x:=λb o e n z=>by
  subst z;rw[N] at e;exact n _ (mW e).symm
 let u2:Un X.fs [] X.H₀ (drp H x) X.s₀.heap j:={l.keep,l.slot,λb w e n hx=>by
   rw[vD (λz=>by subst z;rw[k] at e;cases e)];exact l.free b w e n hx,l.there,
  λb B e=>by let z:=l.tups b B e;rw[vD (p b _ z λ_ y=>nomatch y)];exact z,
  λb w B e=>by let z:=l.frzs b w B e;rw[vD (p b _ z λ_ y=>nomatch y)];exact z,
  λb ps e=>by obtain⟨m,z⟩:=l.tbls b ps e;exact{m,by rw[vD (p b _ z λ_ y=>nomatch y)];exact z}}
 let J:HOk X.prog X.w (drp H x) s.heap:=λb o e=>by
  by_cases z:b=x
  ·subst z;rw[gW] at e;cases e
  ·rw[vD z] at e
   exact(I.hok b o e).stay (λ_ _ _ q=>q) (λc q=>by rw[vD (p c _ q λ_ y=>nomatch y)];exact q) λc B q=>by rw[vD (p c _ q λ_ y=>nomatch y)];exact q
 let D:∀b,H b=none->drp H x b=none:=λb e=>by
  unfold drp;split
  ·rfl
  ·exact e
 refine{x,g, .ref C,d,M,drp H x,O,I.os,I.bare,u2,kF J k3 (λb f=>D b (I.stkFree b f)) λb f=>?_,k,i,gW,D _ h,f2,q};rcases mG.mp f with z | z
 ·rw[z];exact gW
 ·rw[mF.mp z];exact D _ h
end
end L2
namespace L2
open PySem PySem.Spec PyProof.Rows PySem.W
theorem zWn{H:Hp}{x d:V1}{o u:HO}(c:H x=none)(a:d≠x):drp (upd (upd H x o) d u) x=upd H d u:=by
 funext b
 by_cases z:b=x
 ·subst z
  rw[gW,zK (Ne.symm a),c]
 ·rw[vD z]
  by_cases y:b=d
  ·subst y;rw[zC,zC]
  ·rw[zK y,zK z,zK y]
section
variable{X:Cx}{C B fI:V1}{nm:Str}{k:Nat}{fd:V7}{ps:C1}
theorem zRp{j:C7}{σ:St}{H:Hp}{s:V2}{L:C9}{us:B7}{p v:V}(c:zCc X.K nm C B fI)(F:FnOk X.prog X.w X.K X.mg X.base CX0 k fI fd ps (zDh C))(hr:Room (k+1) X.A)(hb:Binds X.K fd ps [])(I:Inv X j σ H s)(r:Vals [p,v] us)
  (q:∀x d w,X.s₀.heap.get? x=none->H x=none->H d=none->d≠x->Inv X j σ (upd (upd H x (exO x C ↥d)) d (.xd [("at",v)])) w->L (.ref x) w):V8 (S5 X.prog X.w) X.A (call (.ref C) us) L X.xe s:=by
 refine wB (c.obj) λN o lk hX=>?_;let E:us...*<=100:=by rw[<-r...*];show(2:Nat)<=100;decide
 let A:X.s₀.heap.get? (s⁻¹+1)=none:=rE (nP I.sz (pP _));let y:H (s⁻¹+1)=none:=I.hok.fresh (pP _);let he:((s.heap.push {cls:=.type "tuple",data:=.seq us.toArray}).push (jS C s⁻¹)).get? (s⁻¹+1)=Y (jS C s⁻¹):=by
  rw[<-(tE .. :(s.heap.push {cls:=.type "tuple",data:=.seq us.toArray}).objs.size=s⁻¹+1)];exact nI _ O
 let D:=I.laid (t':=s.toks) (a:=s⁻¹+1) (o:=exO (s⁻¹+1) C none) (h':=(s.heap.push {cls:=.type "tuple",data:=.seq us.toArray}).push (jS C s⁻¹)) (λb ob e=>mL _ (mL _ e)) (pP _) (zCp he O O O);let M:Vals [V.ref (s⁻¹+1),p,v] (Value.ref (s⁻¹+1)::us):=.cons O r;let m:zDh C [V.ref (s⁻¹+1),p,v] (upd H (s⁻¹+1) (exO (s⁻¹+1) C none)) (λu H2=>u= .non/\∃d,H d=none/\d≠s⁻¹+1/\H2=upd (upd H (s⁻¹+1) (exO (s⁻¹+1) C ↥d)) d (.xd [("at",v)])) E0:=by
  refine{_,p,v,O,zC,λd l=>{O,d, ?_}};let i:d≠s⁻¹+1:=λz=>by rw[z,zC] at l;cases l
  rw[zK i] at l;exact{l,i,by rw[zHh]}
 let hl:((Value.ref (s⁻¹+1)::us)++ [])...*=ps...*:=by
  rw[nS,<-M...*];exact F.len _ _ _ _ m
 let n:=hb _ (Value.ref (s⁻¹+1)::us) D.kIn hl;rw[nS] at n;let run:=F.run _ X.stack _ _ {Value.ref (s⁻¹+1)::us,[]} (Value.ref (s⁻¹+1)::us) _ _ E0 (hr.make C us []) (D.env0.make C us []) n M m;let I1:=I;obtain⟨h,g,dr,t,os⟩:=s;refine aO (zSg I1.kIn lk hX c.tl c.init c.fn E (rX run λr w f=>?_))
 cases r with
 |error e=>exact False.elim f|ok fl=>
  cases fl with
  |ret u=>
   refine zX (D.after f) λv' H' Q rv ev z_=>?_;ext yX z_ d l i J;subst J;subst ev;exact{rv,q _ d w A y l i Q}
  |next=>exact False.elim f|brk=>exact False.elim f|cont=>exact False.elim f
def zDg(C:V1)(E:XK)(t:TA):TS:=λ_ σ H=>t σ H λc a=>∃b v,c= [b,v]/\∀d,a d=none->E (.ref C) ↥d (upd a d (.xd [("at",v)]))
structure Xr(P:V3)(w:V4)(K:Frag)(mg:C8)(base:V5)(k:Nat)(cn:Str)(C:V1):Prop where
 ex:∃(nm:Str)(B fI:V1)(fd:V7)(ps:C1),zCc K nm C B fI/\FnOk P w K mg base CX0 k fI fd ps (zDh C)/\Binds K fd ps []/\mg cn=Y (.ref C)
def Lvs(φ:V0->Prop)(X:Cx)(E:XK):Prop:=X.stack=X.env::X.outer/\X.env.frame=Y X.env.locals/\X.ex= []/\φ .none/\∀e b,V8 (S5 X.prog X.w) X.A (leaving X.env e) (λ_ a=>CXE φ X.prog X.w X.outer X.H₀ X.s₀ E e a) (λc a=>CXE φ X.prog X.w X.outer X.H₀ X.s₀ E c a) b->X.xe e b
theorem passE{φ:V0->Prop}{E:XK}(l:Lvs φ X E):gN (CXE φ X.prog X.w) X E:=λ_ _ _ _ e a I h=>l.2.2.2.2 e a (zZg I l.1 l.2.1 l.2.2.1 h)
theorem zCr{φ:V0->Prop}{E:XK}{m:Str}{p a b:Pos}{e:Expr}{g:C5}{t:TA}{j:Nat}(R:Xr X.prog X.w X.K X.mg X.base k m C)(hr:Room j X.A)(Q:k+1<=j)(hg:Gl X m)(f:X.calm=true)(l:Lvs φ X E)(ha:PA X (e::g) t)(y:(m==("__debug__" :Str))=false:=by decide)
  (he:A2 (e::g) X.env=(false,eval e X.env)::A2 g X.env:=by rfl) (A:(S2 a (A2 g X.env)).any (·.1)=false:=by rfl):PS X (.Raise ↥(.Call (.Name m p) (e::g) [] a) none b) (zDg C E t):=by
 intro i s σ H D I h;refine zY (R.ex) λnm B fI fd ps z_=>?_;ext xI z_ c F hb hm;ext vS l hs hf hex hφ u;rw[arm_exec_Raise];refine mC (rR ?_);show V8 _ _ (raiseStmt X.env ↥(do let v <-eval (.Call (.Name m p) (e::g) [] a) X.env;S0 b;pure v) none) _ _ _;refine wB (c.obj) λN o lk hX=>?_;refine zEh (nm:=nm) (C:=C) (N:=N) (bm:=.ref B::veMro) (by rw[sH,show veMro.contains (.type "BaseException")=true by decide,tH]) (I.ok.hd f) (mC ?_);refine rF (qO I hg hm ?_ y);refine callWith_K (h₀:=X.base) I.ok.mod.kin c.kp (thn (ha a i s σ H _ I h) λus s1 ⟨M,H1,J,r,v0,v,ev,q⟩=>⟨J.kIn, ?_⟩) he A;subst ev;refine zRp c F (hr.mono Q) hb J r λx d s2 w hx hd n z=>?_;refine mC (rR (mY ?_));let L:upd (upd H1 x (exO x C ↥d)) d (.xd [("at",v)]) x=Y (exO x C ↥d):=by rw[zK (Ne.symm n),zC]
 refine qD (zAg z L) λM e1 h6 h1 h2=>?_;refine{x,_,_,M,O,z.kIn _ _ lk,hX,e1,O,O,h1,u _ _ (zGf z hs hf hex L w hφ ?_)};rw[zWn hx n];exact q d hd
end
structure Dx(φ:V0->Prop)(P:V3)(w:V4)(K:PySem.W.Frag)(mg:C8)(base:V5)(k:Nat)(x:Str)(ps:C1)(sp:Sp):Prop where
 ex:∃(f:V1)(fd:V7),FnOk P w K mg base (CXE φ P w) k f fd ps sp/\Binds K fd ps []/\PySem.W.keepIn K (.ref f)=true/\mg x=Y (.ref f)
section
variable{X:Cx}{k j:Nat}{x:Str}{ps:C1}{sp:Sp}{e:Expr}{es:C5}{t:TA}{p pos:Pos}{E:XK}
theorem zDw{φ:V0->Prop}(D:Dx φ X.prog X.w X.K X.mg X.base k x ps sp)(n:Room j X.A)(h:k<=j)(g:Gl X x)(l:Lvs φ X E)(o:PA X (e::es) t)(a:(x==("__debug__" :Str))=false:=by decide)
  (c:A2 (e::es) X.env=(false,eval e X.env)::A2 es X.env:=by rfl) (b:(S2 pos (A2 es X.env)).any (·.1)=false:=by rfl):PE X (.Call (.Name x p) (e::es) [] pos) (jY sp [] E t):=by
 refine zX (D.ex) λf r m d q i=>?_;exact zIe m (n.mono h) g i q d .nil (passE l) o a c b
end
section
variable{P:V3}{w:V4}{K:PySem.W.Frag}{mg:C8}{base:V5}{k:Nat}{f:V1}{fd:V7}{ps:C1}{sp sp':Sp}{CX:CXT}
theorem Fun.okx{φ:V0->Prop}{x b:Str}{st:V6}{N:C1}(F:Fun K x b st f fd)(S:wC N ps (zW st))(len:∀e H Q E,sp e H Q E->e...*=ps...*)
  (d:∀(c:V0)(A:Around)(a:List S7)(s:V2)(H:Hp)(e:B3)(Q:VK)(E:XK),Room k (A.deeper (envOfC b (zW st) s⁻¹ f c))->sp e H Q E->
   ∃t,PSs (zBi (CXE φ P w) P w K mg base N b (zW st) f c A a s H E) (xD st) t/\t {nx:=λ_ H'=>Q .non H',rt:=Q} (qS N e) H):FnOk P w K mg base (CXE φ P w) (k+1) f fd ps sp:=by
 refine zY (F.ex) λu r kV m q h=>?_;ext yK h o c p l g h;ext oA h lk i;subst g;exact zOe lk i S len λA a s H e Q E n j=>d c A a s H e Q E n j
theorem lvs{φ:V0->Prop}{N:C1}{c:Str}{a:Scope}{e:V0}{A:Around}{b:List S7}{s:V2}{H:Hp}{E:XK}(d:φ .none:=by first | rfl | trivial):Lvs φ (zBi (CXE φ P w) P w K mg base N c a f e A b s H E) E:={O,O,O,d,λ_ _ h=>h}
end
end L2
namespace L2
open PySem PySem.Spec PyProof.Rows PySem.W PySem.Builtin PySem.Builtin.ObjectAttr
structure XGet(K:Frag)(C:V1):Prop where
 ga:findIn K (.ref C) "__getattribute__" =Y ↥(.builtin "BaseException.__getattribute__")
 gt:findIn K (.ref C) "__getattr__" =Y none
 bx:mroIn K C (.type "BaseException")=Y true
 ob:mroIn K C (.type "object")=Y true
 hd:hasDictIn K C=true
 cl:findIn K (.ref C) "__class__" =Y ↥(.builtin "object.__class__")
 cg:specialIn K (.builtin "object.__class__") "__get__" =Y ↥(.builtin "getset_descriptor.__get__")
 ct:takesIn K (.builtin "object.__class__")=Y true
section
variable{prog:V3}{w:V4}{A:Around}{K:Frag}{C x:V1}{ox od:Obj}{name:Str}{E:C9}{s:V2}
end
end L2
namespace L2
open PySem PySem.Spec PyProof.Rows PySem.W
noncomputable def exF(x C:V1)(d:Option V1):HO:=.ext λh=>∃(a:Obj)(b:Array V0),h.get? x=Y a/\a.cls= .ref C/\a.dict=d/\a.data= .fields b
theorem yBv{P:V3}{w:V4}{H:Hp}{h:V5}{x C:V1}{d:Option V1}{b:Obj}{vs:Array V0}(e:h.get? x=Y b)(f:b.cls= .ref C)(c:b.dict=d)(g:b.data= .fields vs):ObjOk P w H h x (exF x C d):=
 {⟨b,vs,e,f,c,g⟩,⟨_,e⟩,λ_ _ ⟨b,vs,e,a⟩ k=>{b,vs,k _ e,a}}
abbrev Cx.mark(X:Cx)(v:V0):Cx:={X with A:=X.A.mark ↥v,calm:=false,xe:=λ_ _=>False}
abbrev Cx.pend(X:Cx)(pins:C7)(W:C9):Cx:={X with pn:=X.pn++pins,xe:=W}
section
variable{X:Cx}{pins pins':C7}{σ:St}{H:Hp}{s:V2}{v:V0}{W:C9}
theorem Cx.Ok.mark(a:X.Ok):(X.mark v).Ok:=
 {a.mod,a.kind,a.glob,a.blt,a.above,a.inj,a.has,a.cab,(λz=>nomatch z),a.frames,a.stk,a.exf,a.bs,a.bsz,a.noex,a.exfs,a.funs,a.frf}
theorem Inv.mark(I:Inv X pins σ H s):Inv (X.mark v) pins σ H s:=⟨I.ok.mark,I.os,I.bare,I.base,I.loc,I.cell,I.free,I.freeC,I.pin,I.hok,I.len⟩
theorem Inv.unmark(a:X.Ok)(I:Inv (X.mark v) pins σ H s):Inv X pins σ H s:=⟨a,I.os,I.bare,I.base,I.loc,I.cell,I.free,I.freeC,I.pin,I.hok,I.len⟩
theorem Cx.Ok.pend(a:X.Ok):(X.pend pins W).Ok:=
 ⟨a.mod,a.kind,a.glob,a.blt,a.above,a.inj,a.has,a.cab,a.hd,a.frames,a.stk,a.exf,a.bs,a.bsz,a.noex,a.exfs,a.funs,a.frf⟩
theorem Inv.pend(I:Inv X pins σ H s):Inv (X.pend pins W) [] σ H s:={I.ok.pend,I.os,I.bare,I.base,I.loc,I.cell,I.free,I.freeC,λp a=>I.pin p (by rw[nS] at a;exact a),I.hok,I.len}
theorem Inv.unpend(b:X.Ok)(I:Inv (X.pend pins W) pins' σ H s):Inv X pins σ H s:={b,I.os,I.bare,I.base,I.loc,I.cell,I.free,I.freeC,λp a=>I.pin p (nW _ a),I.hok,I.len}
theorem Inv.track{x:V1}{o:HO}(I:Inv X pins σ H s)(d:H x=none)(l:X.s₀.heap.get? x=none)(k:x≠X.env.locals)(r:∀y c,X.env.cells.lookup y=Y c->c≠x)(t:∀p∈X.pn++pins,p.1≠x)
  (i:ObjOk X.prog X.w (upd H x o) s.heap x o):Inv X pins σ (upd H x o) s where
 ok:=I.ok
 os:=I.os
 bare:=I.bare
 base:={I.base.keep,I.base.slot,λb h e n g=>by rw[zK (λz=>by subst z;rw[l] at e;cases e)];exact I.base.free b h e n g,I.base.there,
  λb f e=>by let z:=I.base.tups b f e;rw[zK (yD z d)];exact z,λb h f e=>by let z:=I.base.frzs b h f e;rw[zK (yD z d)];exact z,
  λb j e=>by obtain⟨m,z⟩:=I.base.tbls b j e;exact{m,by rw[zK (yD z d)];exact z}}
 loc:=I.loc
 cell:=I.cell
 free:=by rw[zK (Ne.symm k)];exact I.free
 freeC:=λy c e=>by rw[zK (r y c e)];exact I.freeC y c e
 pin:=λp q=>let ⟨a,b,c⟩:=I.pin p q;{a,by rw[zK (t p q)];exact b,c}
 hok:=I.hok.also d i
 len:=I.len
theorem Inv.wiped{h':V5}{B:C8}{t':Nat}(I:Inv X pins σ H s)(l:h'.Ns X.env.locals B)(g:Heap.SameBut X.env.locals s.heap h'):Inv X pins (List.replicate X.N...* none) H {s with heap:=h',toks:=t'}:=by
 let f:∀b o,X.s₀.heap.get? b=Y o->b≠X.env.locals:=λb o e=>nN (nF (mQ e) I.ok.above);refine⟨I.ok,I.os,I.bare,⟨λb o e n k h=>?_,λb o e n k h=>?_,I.base.free,λb o e h=>?_,I.base.tups,I.base.frzs,I.base.tbls⟩,⟨_,l,λj y r i m L=>?_⟩,λy c e=>?_,I.free,I.freeC,λp E=>?_,λb t e=>?_,rN⟩
 ·exact(g.2 b (f b o e)).trans (I.base.keep b o e n k h)
 ·obtain⟨w,i⟩:=I.base.slot b o e n k h
  exact{w,(g.2 b (f b o e)).trans i}
 ·obtain⟨A,i⟩:=I.base.there b o e h
  exact{A,(g.2 b (f b o e)).trans i}
 ·rw[aQ] at m
  split at m<;>cases m
 ·refine wB (I.cell y c e) λr o u x=>?_
  exact{r,o,(g.2 c (I.cne y c e)).trans u,x}
 ·refine xI (I.pin p E) λa b c d=>?_
  exact{(g.2 _ c).trans a,b,c,d}
 ·refine(I.hok b t e).stay (λc J D q=>(g.2 c ?_).trans q) (λ_ q=>q) λ_ _ q=>q
  rintro rfl;rcases D with z | z
  ·rw[<-z,I.free] at e;cases e
  ·rw[I.free] at z;cases z
end
section
variable{X:Cx}{B:V1}{bn n:Str}{i:Nat}{body suite:List V6}{b₀:V6}{bp hp pos:Pos}{tb:XK->TS}{ts:TS}{φ:V0->Prop}
end
end L2
namespace L2
open PySem PySem.Spec PyProof.Rows PySem.W
section
variable{X:Cx}{C D:V1}{b:Bool}
end
section
variable{X:Cx}{k j:Nat}{x:Str}{ps:C1}{sp:Sp}{e:Expr}{es:C5}{t:TA}{p pos:Pos}{E:XK}
theorem zNy{φ:V0->Prop}(D:Dx φ X.prog X.w X.K X.mg X.base k x ps sp)(n:Room j X.A)(h:k<=j)(g:Gl X x)(l:gN (CXE φ X.prog X.w) X E)(o:PA X (e::es) t)(a:(x==("__debug__" :Str))=false:=by decide)
  (c:A2 (e::es) X.env=(false,eval e X.env)::A2 es X.env:=by rfl) (b:(S2 pos (A2 es X.env)).any (·.1)=false:=by rfl):PE X (.Call (.Name x p) (e::es) [] pos) (jY sp [] E t):=by
 refine zX (D.ex) λf r m d q i=>?_;exact zIe m (n.mono h) g i q d .nil l o a c b
end
end L2
namespace L2
open PySem PySem.Spec PyProof.Rows PySem.W
structure RoomH(k:Nat)(A:Around):Prop where
 dp:A.depth+3*k+5<recursionLimit
 un:A.units+16*k+200<cLine
theorem Room.h{k:Nat}{A:Around}{v:Option V0}(r:Room k A):RoomH k (A.mark v):=⟨r.dp,r.un⟩
theorem RoomH.mono{j k:Nat}{A:Around}(r:RoomH k A)(h:j<=k):RoomH j A:={by let:=r.dp;lia,by let:=r.un;lia}
theorem RoomH.deeper{k:Nat}{A:Around}(r:RoomH (k+1) A)(a:S7):RoomH k (A.deeper a):=
 {by let:=r.dp;show A.depth+1+3*k+5<_;lia,by let:=r.un;show A.units+3+16*k+200<_;lia}
theorem RoomH.depth{k:Nat}{A:Around}(r:RoomH k A):A.depth<recursionLimit:=by let:=r.dp;lia
structure zKv(P:V3)(w:V4)(K:PySem.W.Frag)(mg:C8)(base:V5)(k:Nat)(f:V1)(fd:V7)(ps:C1)(sp:Sp):Prop where
 len:∀vs H Q E,sp vs H Q E->vs...*=ps...*
 run:∀(A:Around)(outer:List S7)(s:V2)(H:Hp)(args:Args)(us:B7)(vs:B3)(Q:VK)(E:XK),RoomH k A->Env0 P w K mg base A outer s H->BindsTo s fd args (ps.zip us)->Vals vs us->sp vs H Q E->
  codeAny (S5 P w) A (.call (.ref f) args) (CR CX0 outer P w H s Q E) s
abbrev cxH(P:V3)(w:V4)(K:PySem.W.Frag)(mg:C8)(base:V5)(N:C1)(qual:Str)(scope:Scope)(f:V1)(cd:V0)(A:Around)(outer:List S7)(s:V2)(H:Hp):Cx:=
 {zBi CX0 P w K mg base N qual scope f cd A outer s H E0 with calm:=false,xe:=λ_ _=>False}
structure Dh(P:V3)(w:V4)(K:PySem.W.Frag)(mg:C8)(base:V5)(k:Nat)(x:Str)(ps:C1)(sp:Sp):Prop where
 ex:∃(f:V1)(fd:V7),zKv P w K mg base k f fd ps sp/\Binds K fd ps []/\PySem.W.keepIn K (.ref f)=true/\mg x=Y (.ref f)
section
variable{X:Cx}{k j:Nat}{x:Str}{ps:C1}{sp:Sp}{e:Expr}{es:C5}{t:TA}{p pos:Pos}
end
end L2
namespace L2
open PySem PySem.Spec PyProof.Rows PySem.W
section
variable{M:Model}{A:Around}{E:C9}{s:V2}{env:S7}{outer:List S7}{x T L:V1}{C a0 fl:V0}{d:Option V1}{base:V5}{Q:Unit->V2->Prop}{φ:V0->Prop}
theorem zGr{o:Option V1}(F:Fl φ s.heap x T C d a0 fl)(q:∀h' fl',Fl φ h' x T C d a0 fl'->Kp [] [T] s.heap h'->(o=none->fl'= .none)->Q () {s with heap:=h'}):V8 M A (setFlight (.ref x) o) Q E s:=by
 ext yK F u v B ts m g;ext zQ g t w p y j g;ext vS g k n l c i;unfold setFlight;refine mC (rJ m p j ?_);rw[mJ (by rfl)];let a:3<ts.size:=by
  obtain⟨z,_⟩:=pA.mp c;exact z
 refine sG n l a ?_;let r:=gM n l 3 (o.elim .none λf=>rawInt f);refine q _ (o.elim .none λf=>rawInt f) {u,v,_,_,(mZ _ _ k).trans m,t,w,p,y,j,k,r,O, ?_,i} ⟨λb o e _ h=>(mZ _ _ λz=>h (by rw[z];exact mE)).trans e,λb o e h=>nomatch h⟩ (λz=>by rw[z];rfl);show(ts.setIfInBounds 3 _)[3]? =Y _;rw[sP a]
theorem zSv{e:V0}{env a:S7}(h:a.frame=env.frame):noteFrame e a=noteFrame e env:=by
 unfold noteFrame PySem.frameOf;rw[h]
theorem zSn(w:A.frames=Y (env::outer))(D:s.heap.FunFrames base (env::outer))(u:env.frame=Y L)(hx:x∉frs (env::outer))(hT:T∉frs (env::outer))(F:Fl φ s.heap x T C d a0 fl)
  (q:∀j g fl',Fl φ j x g C d a0 fl'->Kp (frs (env::outer)) [x,T] s.heap j->(g=T\/s.heap.get? g=none)->Q () {s with heap:=j}):V8 M A (noteFrame (.ref x) env) Q E s:=by
 let F0:=F;ext yK F oe vs oT ts v y;ext zQ y e2 e3 I e5 r y;ext vS y e7 p l a H
 by_cases m:(fl==rawInt L)=true
 ·unfold noteFrame
  rw[u];refine mC (rJ v I r ?_);rw[mJ (by rfl)];refine mC (rJ p l a ?_);rw[mJ m];exact mY (q s.heap T fl F0 Kp.refl (.inl O))
 let hs:1<vs.size:=by
  obtain⟨z,_⟩:=pA.mp r;exact z
 let B:3<ts.size:=by
  obtain⟨z,_⟩:=pA.mp a;exact z
 unfold noteFrame;rw[u];refine mC (rJ v I r ?_);rw[mJ (by rfl)];refine mC (rJ p l a ?_);rw[mH m];refine mC (sG p l B ?_);let N:Kp (frs (env::outer)) [T] s.heap (s.heap.update T (Obj.mapFields λx=>x.setIfInBounds 3 Value.none)):=⟨λb o e _ h=>(mZ _ _ λz=>h (by rw[z];exact mE)).trans e,λb o e h t=>⟨o.slots,(mZ _ _ λz=>t (by rw[z];exact mE)).trans e⟩⟩;let i:(s.heap.update T (Obj.mapFields λx=>x.setIfInBounds 3 Value.none)).FunFrames base (env::outer):=zDv N (λb h=>{h,λz=>hT (by rw[<-mF.mp z];exact h)}) D;let x2:(s.heap.update T (Obj.mapFields λx=>x.setIfInBounds 3 Value.none)).get? x=Y oe:=(mZ _ _ e7).trans v;let J:=zNc (E:=E) (M:=M) (A:=A) (head:=.ref T) (b:=true) (s:={s with heap:=s.heap.update T (Obj.mapFields λx=>x.setIfInBounds 3 Value.none)}) (Q:=Q) w i u x2 hx I e5 hs H;rw[e2,e3] at J;refine J λj g f k n=>q j g _ f (N.trans k λc m=>?_) (.inr ?_)
 ·rcases m with z | z
  ·rw[mF.mp z];simp
  ·rw[mF.mp z.1];simp
 ·cases e:s.heap.get? g with
  |none=>rfl|some o=>
   by_cases z:g=T
   ·subst z
    rw[gM p l] at n;cases n
   ·rw[(mZ s.heap _ (Ne.symm z)).trans e] at n;cases n
end
def CXF(φ:V0->Prop)(X:Cx)(E:XK)(cs:B9)(e:V0)(s':V2):Prop:=∃(x T:V1)(C:V0)(d:Option V1)(g f:V0)(a:Hp),e= .ref x/\s'.os=X.s₀.os/\AllBare s'.gens/\Un X.fs [] X.H₀ a X.s₀.heap s'.heap/\HOk X.prog X.w a s'.heap/\
 X.s₀.heap.get? x=none/\X.s₀.heap.get? T=none/\a x=none/\a T=none/\Fl φ s'.heap x T C d g f/\E C d a/\s'.heap.FunFrames X.base X.stack/\(∀b∈frs X.stack,a b=none)/\x∉frs X.stack/\T∉frs X.stack/\
 ∀c∈cs,(∃m,s'.heap.Ns c m)/\X.s₀.heap.get? c=none/\a c=none/\c∉frs X.stack/\c≠x/\c≠T
section
variable{X:Cx}{E:XK}{EE:C9}{s:V2}{e:V0}{cs:B9}{φ:V0->Prop}
theorem CXF.step{x T:V1}{C:V0}{d:Option V1}{a0:V0}{f:Hp}{h':V5}{a:V1}{J:V0}(ok:X.Ok)(hs:X.stack=X.env::X.outer)(hf:X.env.frame=Y X.env.locals)(os:s.os=X.s₀.os)(u:AllBare s.gens)(un:Un X.fs [] X.H₀ f X.s₀.heap s.heap)(l:HOk X.prog X.w f s.heap)
  (t:X.s₀.heap.get? x=none) (w:X.s₀.heap.get? T=none) (p:f x=none) (A:f T=none) (q:E C d f) (Q:s.heap.FunFrames X.base X.stack) (M:∀b∈frs X.stack,f b=none) (nx:x∉frs X.stack) (I:T∉frs X.stack)
  (j:∀c∈cs,(∃m,s.heap.Ns c m)/\X.s₀.heap.get? c=none/\f c=none/\c∉frs X.stack/\c≠x/\c≠T)
  (F':Fl φ h' x a C d a0 J) (k:Kp (frs X.stack) [x,T] s.heap h') (n:a=T\/s.heap.get? a=none):CXF φ X E cs (.ref x) {s with heap:=h'}:=by
 let H:frs X.stack=X.env.locals::X.fs:=by
  rw[hs];unfold frs;rw[pV,hf];rfl
 let B:X.s₀.heap.get? X.env.locals=none:=rE ok.above;let k4:Kp X.fs [x,T,X.env.locals] s.heap h':=by
  let k5:Kp (frs X.stack) [x,T,X.env.locals] s.heap h':=k.trans Kp.refl (ys:=[]) λc i=>by
   rcases i with z | z
   ·rcases mG.mp z with z | z
    ·rw[z];simp
    ·rw[mF.mp z];simp
   ·exact nomatch z.1
  refine wO k5 λb g=>?_;rw[H] at g;rcases mG.mp g with z | z
  ·rw[z];exact .inr (by simp)
  ·exact .inl z
 let h:X.s₀.heap.get? a=none/\f a=none/\a∉frs X.stack/\(∀c∈cs,c≠a):=by
  rcases n with z | z
  ·rw[z];exact{w,A,I,λc i=>(j c i).2.2.2.2.2}
  ·refine{?_, ?_,λy=>?_,λc i y=>?_}
   ·cases e:X.s₀.heap.get? a with
    |none=>rfl|some o=>
     obtain⟨o',L⟩:=un.there a o e (λz=>nomatch z);rw[z] at L;cases L
   ·cases e:f a with
    |none=>rfl|some o=>
     obtain⟨ob,v⟩:=i4 (l a o e);rw[z] at v;cases v
   ·obtain⟨o,e,_⟩:=kA Q a y
    rw[z] at e;cases e
   ·obtain⟨⟨m,o,_,_,D,_⟩,_⟩:=j c i
    rw[y,z] at D;cases D
 refine{x,a,C,d,a0,J,f,O,os,u,zAu un k4 λb g=>?_,kF l k M λb g=>?_,t,h.1,p,h.2.1,F',q,zDv k (λb g=>{g,λz=>?_}) Q,M,nx,h.2.2.1,λc i=>?_}
 ·rcases mG.mp g with z | z
  ·rw[z];exact t
  ·rcases mG.mp z with z | z
   ·rw[z];exact w
   ·rw[mF.mp z];exact B
 ·rcases mG.mp g with z | z
  ·rw[z];exact p
  ·rw[mF.mp z];exact A
 ·rcases mG.mp z with z | z
  ·exact nx (by rw[<-z];exact g)
  ·exact I (by rw[<-mF.mp z];exact g)
 ·obtain⟨⟨m,o,es,ep,D,r⟩,c0,cH,cf,N,cT⟩:=j c i
  exact{{m,o,es,ep,k.keep c o D cf (λz=>by
   rcases mG.mp z with z | z
   ·exact N z
   ·exact cT (mF.mp z)),r},c0,cH,cf,N,h.2.2.2 c i}
theorem k8{a:S7}(y:X.Ok)(r:X.stack=X.env::X.outer)(D:X.env.frame=Y X.env.locals)(h:CXF φ X E cs e s)(L:a.frame=X.env.frame):V8 (S5 X.prog X.w) X.A (noteFrame e a) (λ_ s'=>CXF φ X E cs e s') EE s:=by
 ext zY h x T C d a0 b;ext zX b f N u os i b;ext zQ b M m t v p b;ext zQ b w I q A J b;ext oAA b B z o;subst u;let j:=A;let l:=B;let c:=z;let g:=y.frames;rw[r] at j l c g;rw[zSv L];refine zSn g j D l c I λh' T' Q H k n=>?_;rw[<-r] at k;exact CXF.step y r D os i M m t v p w q A J B z o H k n
theorem j6{o:Option V1}(u:X.Ok)(B:X.stack=X.env::X.outer)(L:X.env.frame=Y X.env.locals)(h:CXF φ X E cs e s):V8 (S5 X.prog X.w) X.A (setFlight e o) (λ_ s'=>CXF φ X E cs e s') EE s:=by
 ext zY h x T C d a0 a;ext zX a f Q n os g a;ext zQ a M i m p l a;ext zQ a r v q D y a;ext oAA a J w j;subst n;refine zGr v λN f' t k _=>?_;let I:Kp (frs X.stack) [x,T] s.heap N:=(wO k λb A=>nomatch A).trans Kp.refl (ys:=[]) λc H=>by
  rcases H with z | z
  ·rw[mF.mp z];simp
  ·exact nomatch z.1
 exact CXF.step u B L os g M i m p l r q D y J w j t I (.inl O)
theorem l0(y:X.Ok)(H:X.stack=X.env::X.outer)(L:X.env.frame=Y X.env.locals)(h:CXF φ X E [] e s):V8 (S5 X.prog X.w) X.A (leaving X.env e) (λ_ s'=>CXE φ X.prog X.w X.outer X.H₀ X.s₀ E e s') EE s:=by
 unfold leaving;refine mC (thn (k8 y H L h O) λ_ s1 h1=>?_);let N:=h1;ext zY N x T C d a0 a;ext zX a f H' w os o a;ext zQ a M n p l g a;ext zQ a m fl q fu B a;ext oAA a nx nT aa;subst w;refine zGr fl λh' f' u k hn=>?_;let I:Kp (frs X.stack) [x,T] s1.heap h':=(wO k λb j=>nomatch j).trans Kp.refl (ys:=[]) λc t=>by
  rcases t with z | z
  ·rw[mF.mp z];simp
  ·exact nomatch z.1
 let r:=CXF.step (cs:=[]) y H L os o M n p l g m q fu B nx nT (λc t=>nomatch t) u I (.inl O);ext zY r x2 T2 C2 d2 a2 a;ext zX a f2 H2 e2 v i a;ext zQ a ac D ae ab J a;ext xI a A Q q2 _;cases e2;rw[hn O] at u;exact{x,T,C,d,a0,H',O,v,i,zAu M (wO (k.trans Kp.refl (ys:=[]) (zs:=[T]) λc t=>t.elim id λz=>nomatch z.1) λb j=>nomatch j) λb j=>by rw[mF.mp j];exact l,kF n I B λb j=>by
  rcases mG.mp j with z | z
  ·rw[z];exact g
  ·rw[mF.mp z];exact m,p,l,g,m,u,q}
end
end L2
namespace L2
open PySem PySem.Spec PyProof.Rows PySem.W
theorem zIi{prog:V3}{w:V4}{A:Around}{R:Result->V2->Prop}{s:V2}{i a iter:Expr}{g:C5}{d:Scope}{l:Pos}{it acc:V0}{b:S7}(I:Nat->V2->Prop)
  (k:∀n s,I n s->V8 (S5 prog w) A (pyNext it) (λr o=>match r with
   | none=>R (.ok .next) o|some v=>V8 (S5 prog w) A (letOwnedTupleGo a it v) (λ_ B=>V8 (S5 prog w) A (assign a b v) (λ_ t=>
     V8 (S5 prog w) A (forIn g true λc r=>if r=true then do let j <-isTrue c b (eval c b);pure (ForInStep.yield j) else pure (ForInStep.yield r)) (λj p=>
      if j=true then V8 (S5 prog w) A (eval i b) (λx z=>
       V8 (S5 prog w) A (call (.builtin "list.append") [acc,x]) (λ_ u=>∃m,m<n/\I m u) (λ_ _=>False) z) (notedBy (S5 prog w) A b λe s'=>R (.error e) s') p
      else∃m,m<n/\I m p) (λ_ _=>False) t) (λ_ _=>False) B) (λ_ _=>False) o) (λ_ _=>False) s)
  (n:Nat) (h:I n s):codeAny (S5 prog w) A (.compLoop (.ListComp i [{a,iter,g,0}] d l) 0 it acc b) R s:=by
 refine codeAny_loop O I (λn s E=>?_) n h;show V8 _ A ((compTurn (.ListComp i [{a,iter,g,0}] d l) 0 it acc b).onRaise (λx=>do noteFrame x b;theTreesLotGoes x)) _ _ s;refine wpAny_noted ?_;rw[compTurn_list];refine mC (rR (mC (pC (k n s E) (λr o q=>?_) λ_ _ f=>f.elim)))
 cases r with
 |none=>exact mY q|some v=>
  refine mC (pC q (λ_ B J=>mC (pC J (λ_ t L=>mC (pC L (λj p y=>?_) λ_ _ f=>f.elim)) λ_ _ f=>f.elim)) λ_ _ f=>f.elim)
  cases j with|false=>exact mY ⟨O,y⟩|true=>exact mC (mC (pC y (λx z D=>mC (pC D (λ_ u H=>mY (mY ⟨O,H⟩)) λ_ _ f=>f.elim)) λ_ _ f=>f))
def xUp(E:XK):XK:=λC d H=>∀a o,H a=none->E C d (upd H a o)
section
variable{X:Cx}{E:XK}
theorem CXF.same{e:V0}{c:V1}{s:V2}{h':V5}(h:CXF φ X E [c] e s)(p:Heap.SameBut c s.heap h'):CXF φ X E [] e {s with heap:=h'}:=by
 ext zY h x T C d a0 g;ext zX g f B t os i g;ext zQ g un j r u n g;ext zQ g v H q Q M g;ext oAA g nx I l;subst t;refine zQ (l c mE) λ_ c0 cH cf cx cT=>?_;let k:Kp [] [c] s.heap h':=⟨λb o e _ a=>(p.2 b λz=>a (by rw[z];exact mE)).trans e,λb o e a=>nomatch a⟩;ext yK H A vs y ts L g;ext zQ g e2 e3 N e5 w g;ext xI g D e8 J m;refine{x,T,C,d,a0,f,B,O,os,i,zAu un (wO k λb a=>nomatch a) (λb a=>by rw[mF.mp a];exact c0),kF j k (λb a=>nomatch a) (λb a=>by rw[mF.mp a];exact cH),r,u,n,v,
  {A,vs,y,ts,(p.2 x (Ne.symm cx)).trans L,e2,e3,N,e5,w,D,(p.2 T (Ne.symm cT)).trans e8,J,m},q,zDv (wO k (fs':=frs X.stack) λb a=>nomatch a) (λb a=>{a,λz=>cf (by rw[<-mF.mp z];exact a)}) Q,M,nx,I,λ_ z=>nomatch z}
theorem zTp{Q:C9}{acc:V0}{C:V1}{e:V0}{s':V2}(k:X.Ok)(l:Lvs φ X E)(h:CXF φ X E [C] e s'):compPost (S5 X.prog X.w) X.A X.xe none Q acc C (.error e) s':=by
 let h0:=h;ext zY h0 x T C' d a0 a;ext zX a f H' j os o a;ext zQ a un u ab I A a;ext zQ a ac fl q fu ff a;ext oAA a nx nT i;subst j;obtain⟨D,_⟩:=i C mE;obtain⟨m,hn⟩:=D;refine{m,hn,λh' b r _=>?_};let p:=h.same b;let H:=p;ext zY H x2 T2 C2 d2 a2 a;ext zX a f2 H2 v aa c a;ext zQ a B n J w t a;ext xI a s g q2 _;cases v;ext yK g oe vs oT ts N a;ext zQ a e2 e3 e4 e5 L a;ext xI a e7 e8 e9 M;unfold PySem.passOn;refine mC (rJ N e4 L ?_);rw[mH (by intro z;cases (eq_of_beq z))];refine mC (thn (j6 k l.1 l.2.1 p) λ_ s3 y=>?_);exact wpAny_throw (l.2.2.2.2 _ _ (l0 k l.1 l.2.1 y))
end
section
variable{X:Cx}{scope:Scope}{own:C1}{F:D4}{elt tg iter:Expr}{ifs:C5}{pos:Pos}{wi:TI}{g:TG}{tt:TT}{te:TE}{E:XK}
theorem zQq{j:C7}{σ:St}{H:Hp}{s:V2}{Q:VK}{RR:V1->Result->V2->Prop}{it:V1}{fp:B9}{tn:Nat->V5->Prop}{J:It}(S:CompSc X scope own F)(hc:X.calm=true)
  (hg:∀C s₃ H₃ ex,PG (yT X own F scope C s₃ H₃ ex) tg g) (ht:∀C s₃ H₃ ex,PTs (yT X own F scope C s₃ H₃ ex) ifs tt) (he:∀C s₃ H₃ ex j W,gN (CXE φ X.prog X.w) ((yT X own F scope C s₃ H₃ ex).pend j W) (xUp E)->PE ((yT X own F scope C s₃ H₃ ex).pend j W) elt te) (l:Lvs φ X E)
  (I:Inv X j σ H s) (T:zEx X.prog X.w X.K tg J fp it tn) (st:tn 0 s.heap) (hf:∀b∈fp,zBq X j H b)
  (h:wG own F g tt te σ Q J H)
  (hR:∀C s4 H4,s⁻¹<=C->C≠s⁻¹->Inv X j σ H4 s4->Q (.ref s⁻¹) H4->H4 C=none->(∃m,s4.heap.Ns C m)->RR C (.ok .next) s4) (hE:∀C e s',CXF φ X E [C] e s'->RR C (.error e) s'):
  V8 (S5 X.prog X.w) X.A (newList []) (λacc s₃=>V8 (S5 X.prog X.w) X.A (newFunctionEnv scope X.env.globals (clo X.env scope.names) [] X.env.qual none .none ↥X.env) (λai s₄=>
   codeAny (S5 X.prog X.w) X.A (.compStart (.ListComp elt [{tg,iter,ifs,0}] scope pos) 0 (.ref it) acc {ai with scope:=relabel scope X.env}) (λr s'=>acc= .ref s⁻¹/\RR ai.locals r s') s₄) X.xe s₃) X.xe s:=by
 obtain⟨W,⟨m0,w0⟩,az⟩:=h;let ak:∀b∈fp,b<s⁻¹:=λb f=>by
  obtain⟨o,e,_⟩:=T.obj _ _ st b f;exact mQ e
 refine cJ (wpAny_newFunctionEnv S.nc (by intro y hy;simp at hy) (λh₁ af ag=>?_) S.kind);dsimp only at af ag⊢;let ac:zR s={s with heap:=s.heap.push {cls:=.type "list",data:=.seq ([]:B7).toArray}}:=rfl;let bm:(zR s)⁻¹=s⁻¹+1:=tE ..;let k3:∀b o,(zR s).heap.get? b=Y o->h₁.get? b=Y o:=λb o e=>ag.extBut b o (nN (mQ e)) (mL _ e);let k2:∀b o,s.heap.get? b=Y o->(zR s).heap.get? b=Y o:=λb o e=>mL _ e;let a8:h₁.Ns (zR s)⁻¹ (λ_=>none):=by simpa using af
 let I0:Inv (yT X own F scope (zR s)⁻¹ (zR s) H (s⁻¹::fp)) [] (kS own F σ) H {zR s with heap:=h₁,toks:=(zR s).toks+([]:List (Str×V0))...*}:=zEv I S hf ak ac a8 k3;let aq:h₁.get? s⁻¹=some {cls:=.type "list",data:=.seq ([]:B7).toArray 0}:=k3 _ _ (nI _ O);let ax:tn 0 h₁:=T.keep _ _ _ st λb _ o e=>k3 b o (k2 b o e);let av:codeAny (S5 X.prog X.w) X.A (.compLoop (.ListComp elt [{tg,iter,ifs,0}] scope pos) 0 (.ref it) (.ref s⁻¹) (compEnvC scope (clo X.env scope.names) (zR s)⁻¹ X.env)) (RR (zR s)⁻¹) {zR s with heap:=h₁,toks:=(zR s).toks+([]:List (Str×V0))...*}:=by
  refine zIi (λn s'=>∃i ys B a k,Inv (yT X own F scope (zR s)⁻¹ (zR s) H (s⁻¹::fp)) [] (kS own F σ) B s'/\tn i s'.heap/\(∀b∈fp,B b=none)/\B s⁻¹=none/\
   Vals ys a/\s'.heap.get? s⁻¹=some {cls:=.type "list",data:=.seq a.toArray k}/\ys...*<=i/\W i n ys B) ?_ m0 {0,[],H,[],0,I0,ax,λb f=>(hf b f).1,I.hok.fresh (mD _), .nil,aq,mD _,w0}
  intro n s5 z_;ext zY z_ i ys H5 a k z_;ext zQ z_ I5 t5 aw bj v5 z_;ext oAA z_ o5 l5 w5;let au:Inv (yT X own F scope (zR s)⁻¹ (zR s) H (s⁻¹::fp)) [(s⁻¹,{cls:=.type "list",data:=.seq a.toArray k})] (kS own F σ) H5 s5:=I5.pins_of λp w=>by
   let z:p=(s⁻¹,{cls:=.type "list",data:=.seq a.toArray k}):=by simpa using w
   subst z;obtain⟨x1,x2⟩:=I0.ok.exf s⁻¹ mE;exact{o5,bj,x1,I0.ok.exfs _ mE,λv z=>by cases z}
  let aj:∀{B:Hp},(∀b∈fp,B b=none)->∀b∈fp,zBq (yT X own F scope (zR s)⁻¹ (zR s) H (s⁻¹::fp)) [(s⁻¹,{cls:=.type "list",data:=.seq a.toArray k})] B b:=λ{B} hn b f=>by
   obtain⟨x1,x2⟩:=I0.ok.exf b (mI _ f);refine{hn b f,x1,I0.ok.exfs b (mI _ f), .inl (mI _ f),x2,λp w=>?_};let z:p=(s⁻¹,{cls:=.type "list",data:=.seq a.toArray k}):=by
    let ba:p∈([]:C7)++ [(s⁻¹,{cls:=.type "list",data:=.seq a.toArray k})]:=w
    simpa using ba
   subst z;exact rM (ak b f)
  rcases az i n ys H5 w5 l5 with⟨stop,hz,q⟩|⟨go,hz,N,hN,step⟩
  ·refine thn (T.done (yT X own F scope (zR s)⁻¹ (zR s) H (s⁻¹::fp)) O O O hc i _ s5 _ H5 (λ_ _=>False) au (aj aw) t5 stop) λr s6 ⟨hr,I6⟩=>?_
   subst hr;obtain⟨a6,b6,_⟩:=I6.pin (s⁻¹,{cls:=.type "list",data:=.seq a.toArray k}) (nB _ (mF.mpr O));let J6:=I6.pins_of (pins':=[]) (λp w=>nomatch w);let I7:=uV I hf ac J6 (nP l5 hz) v5 a6 b6;let hC:H5 (zR s)⁻¹=none:=J6.free;refine hR _ s6 _ (show s⁻¹<=(zR s)⁻¹ by lia) (λz=>by let z':(zR s)⁻¹=s⁻¹:=z;lia) I7 (q _ b6) (by rw[zK (λz=>by let z':(zR s)⁻¹=s⁻¹:=z;lia)];exact hC) ?_;obtain⟨m,hn,_⟩:=J6.loc;exact⟨m,hn⟩
  ·refine thn (T.item (yT X own F scope (zR s)⁻¹ (zR s) H (s⁻¹::fp)) O O O hc i _ s5 _ H5 (λ_ _=>False) au (aj aw) t5 go) λr s6 ⟨u,hr,h6⟩=>?_
   subst hr;refine thn h6 λ_ s7 ⟨x,H7,I7,r7,y7,t7,a9⟩=>?_;let J7:=I7.pinned (aj a9) (T.obj _ _ t7);refine thn (hg _ _ _ _ _ s7 _ H7 x u _ J7 r7 (step x H7 y7)) λ_ s8 ⟨σ8,H8,I8,wk,q8⟩=>?_;refine thn (ht _ _ _ _ _ s8 σ8 H8 _ I8 q8) λok s9 ⟨H9,I9,q9⟩=>?_;let A:∀{σ':St}{B:Hp}{s':V2},Inv (yT X own F scope (zR s)⁻¹ (zR s) H (s⁻¹::fp)) ([(s⁻¹,{cls:=.type "list",data:=.seq a.toArray k})]++gX fp s7.heap) σ' B s'->
     tn (i+1) s'.heap/\(∀b∈fp,B b=none)/\B s⁻¹=none/\s'.heap.get? s⁻¹=some {cls:=.type "list",data:=.seq a.toArray k}:=λ{σ' B s'} J=>by
    let pa:=J.pin (s⁻¹,{cls:=.type "list",data:=.seq a.toArray k}) (nB _ (nW _ (mF.mpr O)));refine⟨T.keep _ _ _ t7 λb f o e=>(J.pin (b,o) (nB _ (nB _ (qG f e)))).1,λb f=>?_,pa.2.1,pa.1⟩;obtain⟨o,e,d⟩:=T.obj _ _ t7 b f;exact(J.pin (b,o) (nB _ (nB _ (qG f e)))).2.1
   cases ok with
   |false=>
    rw[mH mX] at q9⊢;obtain⟨m',hm,w9⟩:=hN _ _ q9;refine xI (A I9) λa1 a2 a3 a4=>?_;exact{m',hm,i+1,ys,H9,a,k,(I9.pins_of (pins':=[]) (λp w=>nomatch w)).weak wk.1 wk.2,a1,a2,a3,v5,a4,sY l5,w9}
   |true=>
    rw[mJ O] at q9⊢;let hJ:=he _ _ _ _ ([(s⁻¹,{cls:=.type "list",data:=.seq a.toArray k})]++gX fp s7.heap) (λe s'=>∃σ' H1 s1,Inv (yT X own F scope (zR s)⁻¹ (zR s) H (s⁻¹::fp)) ([(s⁻¹,{cls:=.type "list",data:=.seq a.toArray k})]++gX fp s7.heap) σ' H1 s1/\CXE φ X.prog X.w X.stack H1 s1 (xUp E) e s')
     (λbg σ' H1 s1 e s' I1 hx=>{σ',H1,s1,I1.unpend I9.ok,hx}) [] s9 σ8 H9 _ I9.pend q9
    refine pC hJ (λu' aa ⟨y,bk,ar,bb,be⟩=>?_) λe aa ⟨σ',H1,s1,I1,hx⟩=>?_
    rotate_left
    ·refine thn (k8 (X:=X) (E:=E) (cs:=[(zR s)⁻¹]) I.ok l.1 l.2.1 ?_ O) λ_ s' bh=>hE _ e s' bh
     ext zY hx x T C d a0 z_;ext wS z_ B bl os am un z_;ext zQ z_ a' ae ab bi bf z_;ext oA z_ fl q;subst bl;let J1:=I1.call' os un a' am (λb z=>absurd z (by simp));refine xI (A J1) λa1 a2 a3 a4=>?_;refine xI (A I1) λb1 b2 b3 b4=>?_;let ap:ys...*<=V9:=nP l5 (tG hz);let D:=uV I hf ac (J1.pins_of (pins':=[]) (λp w=>nomatch w)) ap v5 a4 a3;let ao:=uV I hf ac (I1.pins_of (pins':=[]) (λp w=>nomatch w)) ap v5 b4 b3;let M:=D.base;rw[l.2.2.1] at M;let ay:∀b,s1.heap.get? b=none->X.s₀.heap.get? b=none:=λb f=>by
      cases e:X.s₀.heap.get? b with
      |none=>rfl|some o=>
       obtain⟨o',e'⟩:=ao.base.there b o e (by rw[l.2.2.1];exact λz=>nomatch z);rw[f] at e';cases e'
     let ah:∀b,s1.heap.get? b=none->b≠s⁻¹:=λb f z=>by rw[<-z,f] at b4;cases b4
     let a5:∀b,s1.heap.get? b=none->b∉frs X.stack:=λb f z=>by
      obtain⟨o,e,_⟩:=kA ao.stack b z;rw[f] at e;cases e
     let an:(zR s)⁻¹≠s⁻¹:=λz=>by lia
     refine{x,T,C,d,a0,_,_,O,D.os,D.bare,M,D.hok,ay x ae,ay T ab,by rw[zK (ah x ae)];exact bi,by rw[zK (ah T ab)];exact bf,fl,q _ _ a3,D.stack,D.stkFree,a5 x ae,a5 T ab,λc hc=>?_};rw[mF.mp hc];obtain⟨m,hm,_⟩:=J1.loc;obtain⟨m1,⟨o1,_,_,al,_⟩,_⟩:=I1.loc;refine{⟨m,hm⟩,rE (nP I.sz ∅),by rw[zK an];exact J1.free,λz=>?_,λz=>?_,λz=>?_}
     ·obtain⟨o,e,_⟩:=kA I.stack _ z
      let:(zR s)⁻¹<s⁻¹:=mQ e
      lia
     ·let t:s1.heap.get? (zR s)⁻¹=Y o1:=al
      rw[z,ae] at t;cases t
     ·let t:s1.heap.get? (zR s)⁻¹=Y o1:=al
      rw[z,ab] at t;cases t
    let a7:=ar.unpend I9.ok;obtain⟨m',hm,bd⟩:=hN _ _ be;refine xI (A a7) λa1 a2 a3 a4=>?_;let hl:=v5...*;refine tD pU ⟨_,a4,O⟩ PySem.F.entry_list_append (PySem.F.args_list_append_2 _ _) (cI s⁻¹ a.toArray k u' (by rw[mT];lia)) {a4, ?_};let q:=PySem.IsL.update a4 (λxs:Array V0=>xs.push u');let eq:a.toArray.push u'=(a++ [u']).toArray:=by simp
    rw[eq] at q;obtain⟨x1,x2⟩:=I0.ok.exf s⁻¹ mE;let bc:=(a7.pins_of (pins':=[]) (λp w=>nomatch w)).turned (it:=s⁻¹) (t':=aa.toks) (h':=aa.heap.update s⁻¹ (Obj.mapSeq (λxs:Array V0=>xs.push u'))) (λb o f e=>(mZ aa.heap _ (Ne.symm f)).trans e) a3 x1 (.inl mE) x2 (λp w=>absurd (show p∈([]:C7) from w) (by simp));refine{m',hm,i+1,ys++ [y],bk,a++ [u'],_,bc.weak wk.1 wk.2, ?_,a2,a3,v5.append (.cons bb .nil),q,by rw[mK,nM];lia,bd};exact T.keep _ _ _ a1 λb f o e=>(mZ aa.heap _ (rM (ak b f))).trans e
 let L:=rX av (R':=λr s'=>Value.ref s⁻¹= .ref s⁻¹/\RR (zR s)⁻¹ r s') λr s' z=>⟨O,z⟩;exact codeAny_compStart_list L (T.self X.A 0 _ _ _ ax L)
end
end L2
namespace L2
open PySem PySem.Spec PyProof.Rows PySem.W PySem.Builtin PySem.Builtin.ObjectAttr
structure Xp(K:Frag)(nm:Str)(C B:V1):Prop where
 obj:∃(N:V1)(o:Obj),K.lookup C=Y o/\XObj nm C N (.ref B::veMro) o/\nsOkIn K N=true/\nsIn K N "__init__" =Y none
 tl:tailIn K veMro (.ref B::veMro)=true
 kp:keepIn K (.ref C)=true
section
variable{X:Cx}{C B:V1}{nm:Str}
theorem zQf{a:C7}{σ:St}{H:Hp}{s:V2}{w:C9}{EE:C9}{us:B7}(c:Xp X.K nm C B)(hex:X.ex= [])(I:Inv X a σ H s)(hl:us...*<=100)
  (q:∀x s',X.s₀.heap.get? x=none->H x=none->Inv X a σ (upd H x (exO x C none)) s'->w (.ref x) s'):V8 (S5 X.prog X.w) X.A (call (.ref C) us) w EE s:=by
 obtain⟨N,o,lk,⟨q',bs,D,sn,sub,ab,E,dd,k0,k1,k2,k3,k5,rfl⟩,f,u⟩:=c.obj;let M:=tail_of_in I.kIn c.tl;let J:=I.kIn _ _ lk;let hn:s.heap.Ns N (s.heap.nsMap N):=.of_isNs (isNs_of_in I.kIn f);let L:s.heap.nsMap N "__init__" =none:=nsMap_none_of_in I.kIn f u;let d:=I;obtain⟨h,g,dr,t,os⟩:=s;refine wpAny_call_exc_subT PySem.F.excBase_ValueError M J hn L (λh' x k=>?_) (by rw[mV];lia);obtain⟨t',Q,_⟩:=k.there;let r:∀b o,h.get? b=Y o->b≠x:=λb o e z=>by rw[z,k.new] at e;cases e
 let i:H x=none:=by
  cases e:H x with
  |none=>rfl|some o=>
   obtain⟨ob,l⟩:=i4 (d.hok x o e);rw[k.new] at l;cases l
 let j:X.s₀.heap.get? x=none:=by
  cases e:X.s₀.heap.get? x with
  |none=>rfl|some o=>
   obtain⟨o',A⟩:=d.base.there x o e (by rw[hex];exact λz=>nomatch z);rw[k.new] at A;cases A
 refine q x _ j i ((d.kept (t':=t) k.keeps).track i j (λz=>?_) (λy c e z=>?_) (λp hp z=>?_) (zCp Q O O O))
 ·obtain⟨m,⟨o,_,_,n,_⟩,_⟩:=d.loc
  exact r _ _ n z.symm
 ·refine wB (d.cell y c e) λv o n _=>?_
  exact r _ _ n z
 ·exact r _ _ (d.pin p hp).1 z
theorem zWt{H:Hp}{x:V1}{o:HO}(a:H x=none):drp (upd H x o) x=H:=by
 funext b
 by_cases z:b=x
 ·subst z;rw[gW,a]
 ·rw[vD z,zK z]
def zJa(C:V1)(E:XK)(t:TA):TS:=λ_ σ H=>t σ H λb a=>b...*<=100/\E (.ref C) none a
structure Xr0(K:Frag)(mg:C8)(cn:Str)(C:V1):Prop where
 ex:∃(nm:Str)(B:V1),Xp K nm C B/\mg cn=Y (.ref C)
theorem zRm{φ:V0->Prop}{E:XK}{i:Str}{p a b:Pos}{e:Expr}{f:C5}{t:TA}(R:Xr0 X.K X.mg i C)(L:Gl X i)(d:X.calm=true)(l:Lvs φ X E)(ha:PA X (e::f) t)(n:(i==("__debug__" :Str))=false:=by decide)
  (he:A2 (e::f) X.env=(false,eval e X.env)::A2 f X.env:=by rfl) (w:(S2 a (A2 f X.env)).any (·.1)=false:=by rfl):PS X (.Raise ↥(.Call (.Name i p) (e::f) [] a) none b) (zJa C E t):=by
 intro g s σ H D I h;refine wB (R.ex) λnm B c hm=>?_;ext vS l hs hf hex A k;rw[arm_exec_Raise];refine mC (rR ?_);show V8 _ _ (raiseStmt X.env ↥(do let v <-eval (.Call (.Name i p) (e::f) [] a) X.env;S0 b;pure v) none) _ _ _;refine yM (c.obj) λN o lk hX _=>?_;refine zEh (nm:=nm) (C:=C) (N:=N) (bm:=.ref B::veMro) (by rw[sH,show veMro.contains (.type "BaseException")=true by decide,tH]) (I.ok.hd d) (mC ?_);refine rF (qO I L hm ?_ n);refine callWith_K (h₀:=X.base) I.ok.mod.kin c.kp (thn (ha a g s σ H _ I h) λus s1 ⟨vs,H1,y,r,J,q⟩=>⟨y.kIn, ?_⟩) he w;refine zQf c hex y (by show us...*<=100;rw[<-r...*];exact J) λx s2 m hx u=>?_;refine mC (rR (mY ?_));let z:upd H1 x (exO x C none) x=Y (exO x C none):=zC;refine qD (zAg u z) λj M h6 Q h2=>?_;refine{x,_,_,j,O,u.kIn _ _ lk,hX,M,O,O,Q,k _ _ (zGf u hs hf hex z m A ?_)};rw[zWt hx];exact q
end
section
variable{prog:V3}{w:V4}{A:Around}{K:Frag}{C x:V1}{ox:Obj}{od:Option Obj}{name:Str}{E:C9}{s:V2}
end
section
variable{X:Cx}{pins:C7}{σ:St}{H:Hp}{s:V2}{x C:V1}
end
section
variable{X:Cx}
end
end L2
namespace L2
open PySem PySem.Spec PyProof.Rows
def ItD(lo:Int)(n:Nat):It:={λi _=>i<n,λi H x a=>a=H/\x= .int (lo - i),λi _=>n<=i}
theorem zRf{P:V3}{w:V4}{K:PySem.W.Frag}{J:Expr}(it:V1)(lo:Int)(n:Nat):zEx P w K J (ItD lo n) [it] it (λi h=>IsRangeIter h it (lo+(i:Nat)*(-1)) ((n:Int)- (i:Nat)) (-1)) where
 mem:=by simp
 obj:=λi h st b c=>by
  let e:b=it:=by simpa using c
  subst e;exact{_,st,λv z=>by
   let L:Data.fields _=Data.cell v:=z;cases L}
 keep:=λi h g st k=>k it (by simp) _ st
 item:=by
  intro X r u x y i a s σ H E I f st l;subst r u x;refine zQ (f it (by simp)) λA q N j p m=>?_;let W:=Walks.range (prog:=X.prog) (w:=X.w) (I.ok.hd y) it lo (-1) n;refine W.item i s _ _ l st λv g B M d D=>?_;obtain⟨t,rfl⟩:=M;let Q:Inv X a σ H {s with heap:=g,toks:=B}:=I.turned (λb o c e=>D b o (by simpa using c) e) A q j p m;refine{_,O,zIx (s:={s with heap:=g,toks:=B}) (n:="range_iterator") d O O ∎ {.int (lo - i),H,Q,{t, ?_},⟨O,O⟩,d,λb c=>(f b c).1}};let e:lo+((i:Nat):Int)*(-1)=lo - i:=by lia
  rw[e]
 done:=by
  intro X r u x y i a s σ H E I f st l;subst r u x;refine zQ (f it (by simp)) λA q N j p m=>?_;exact wpAny_pyNext_range_end (I.ok.hd y) st (by let:n<=i:=l;lia) λg eb=>{O,I.turned (t':=s.toks) (λb o c e=>eb b o c e) A q j p m}
 self:=λ_ _ _ _ _ st h=>wpAny_pyIter_rangeiter st h
theorem uJ(lo:Int)(h: -1<=lo):S4 lo (-1) (-1)=lo+1:=by
 unfold S4;simp
 lia
theorem zLs{lo:Int}(a: -1<=lo)(b:lo<1000):Builtin.Range.small lo (-1) (-1)=true:=by
 unfold Builtin.Range.small;rw[uJ lo a];simp[Builtin.Range.rangeFitsLong]
 lia
section
variable{X:Cx}{tg:Expr}
def yAb(ta:TA):TI:=λσ H R=>ta σ H λb a=>∃i:Int,b= [.int i, .int (-1), .int (-1)]/\-1<=i/\i<1000/\R (ItD i (i+1).toNat) a
theorem zZc{a b c:Expr}{ta:TA}{p j:Pos}(w:Gl X "range")(N:X.mg "range" =none)(B:PA X [a,b,c] ta)(D:A2 [a,b,c] X.env= [(false,eval a X.env),(false,eval b X.env),(false,eval c X.env)]:=by rfl)(k:A2 [b,c] X.env= [(false,eval b X.env),(false,eval c X.env)]:=by rfl):
  PI X tg (.Call (.Name "range" p) [a,b,c] [] j) (yAb ta):=by
 intro d s σ H R I h;refine Call_ (gJ I w N boot_range (rC (thn (B j d s σ H _ I h) λQ f ⟨vs,n,E,v,L⟩=>?_) (by rw[D,k]) (by rw[k];rfl)));ext qD L i e u y q;subst e
 cases v with
 |cons r g=>
  cases g with
  |cons M g=>
   cases g with
   |cons z g=>
    cases g;obtain⟨t,rfl⟩:=r;obtain⟨l,rfl⟩:=M;obtain⟨t2,rfl⟩:=z;refine call_range_3 ∎ ?_ (nR (PyProof.noPylong_small ∅));refine wpAny_pyIter_range (IsRange.new ..) (zLs u y) ?_;let m:Inv X d σ n {f with heap:=f.heap.push {cls:=.type "range",data:=.fields #[.int i t, .int (-1) l, .int (-1) t2]},toks:=f.toks}:=E.kept λb o e=>mL _ e;refine⟨(f.heap.push {cls:=.type "range",data:=.fields #[.int i t, .int (-1) l, .int (-1) t2]}).objs.size,[(f.heap.push {cls:=.type "range",data:=.fields #[.int i t, .int (-1) l, .int (-1) t2]}).objs.size],_,_,n,rfl,
     m.kept (t':=f.toks) λb o e=>mL _ e,zRf _ i (i+1).toNat, ?_,λb A=>?_,q⟩
    ·let x:i+((0:Nat):Int)*(-1)=i:=by simp
     let J:((((i+1).toNat:Nat):Int))- ((0:Nat):Int)=S4 i (-1) (-1):=by rw[uJ i u];lia
     show IsRangeIter _ _ (i+((0:Nat):Int)*(-1)) ((((i+1).toNat:Nat):Int)- ((0:Nat):Int)) (-1);rw[x,J];exact nI _ O
    ·let e:b=(f.heap.push {cls:=.type "range",data:=.fields #[.int i t, .int (-1) l, .int (-1) t2]}).objs.size:=by simpa using A
     subst e;exact m.fpOk (mD _) (m.hok.fresh (mD _))
theorem zQg{lo:Int}{n:Nat}{g:TG}{tb:TS}{D:gB}{σ:St}{H:Hp}(Pv:Nat->St->Hp->Prop)(f:Pv 0 σ H)
  (h:∀i σ H,i<n->Pv i σ H->g (.int (lo - i)) σ H λσ2 H2=>tb {D with nx:=Pv (i+1),ct:=Pv (i+1),bk:=D.nx} σ2 H2) (b:∀σ H,Pv n σ H->D.nx σ H):zRj g tb D σ (ItD lo n) H:=by
 refine{λi m σ H=>m=n - i/\i<=n/\Pv i σ H,{n,by simp,nL _,f}, ?_};rintro i m σ H ⟨rfl,k,p⟩
 by_cases a:i<n
 ·refine .inr {a,Pv (i+1),λj c d=>{n - (i+1),∅,O,a,d},λx c y=>?_}
  obtain⟨e,y⟩:=y;subst e y;exact h i σ _ a p
 ·let e:i=n:=by lia
  subst e;exact .inl {mD _,b σ H p}
theorem zJp:wP X (.type "dict") (λxs H Q=>∃p kvs,xs= [.ref p]/\H p=Y (.dK kvs)/\∀l,H l=none->Q (.ref l) (upd H l (.dK kvs))):=by
 intro g s σ H xs y Q I r h;ext yM h p kvs c t q;subst c;obtain⟨u,rfl,n⟩:=jR r;cases n;obtain⟨z,m,v,a,i⟩:=I.hok p _ t;let x:=a...*;refine kt_call_dict m i ∅ λw d k=>?_;let f:(s⁻¹==A4)=false:=by
  let:=I.big;exact rT.mpr (rM this)
 refine{.ref s⁻¹,_,I.laid (t':=s.toks) (h':=w) (λb o e=>?_) (mD _) (o:=.dK kvs) ⟨z,f,v,a,d⟩,O,q _ (I.hok.fresh (mD _))};let j:b≠s⁻¹:=nN (mQ e);rw[k.2 b j];exact mL _ e
end
theorem FunD.okx{P:V3}{w:V4}{K:A6}{m:C8}{base:V5}{x b:Str}{st:V6}{f:V1}{l:V7}{N ps:C1}{k:Nat}{sp:Sp}(F:FunD K x b st f l)(S:wC N ps (zW st))(len:∀e H Q E,sp e H Q E->e...*=ps...*)
  (d:∀(c:V0)(A:Around)(a:List S7)(s:V2)(H:Hp)(e:B3)(Q:VK)(E:XK),Room k (A.deeper (envOfC b (zW st) s⁻¹ f c))->sp e H Q E->
   ∃t,PSs (zBi (CXE φ P w) P w K m base N b (zW st) f c A a s H E) (xD st) t/\t {nx:=λ_ H'=>Q .non H',rt:=Q} (qS N e) H):FnOk P w K m base (CXE φ P w) (k+1) f l ps sp:=by
 refine zY (F.ex) λy v z kV o h=>?_;ext zY h u q c r n h;ext oAA h g lk i;subst g;exact zOe lk i S len λA a s H e Q E p j=>d c A a s H e Q E p j
structure Ddx(φ:V0->Prop)(P:V3)(w:V4)(K:A6)(mg:C8)(base:V5)(k:Nat)(x:Str)(ps:C1)(dvs:B3)(sp:Sp):Prop where
 ex:∃(f:V1)(fd:V7)(ds:B7),FnOk P w K mg base (CXE φ P w) k f fd ps sp/\Binds K fd ps ds/\Vals dvs ds/\A7 K (.ref f)=true/\mg x=Y (.ref f)
section
variable{X:Cx}{k j:Nat}{x:Str}{ps:C1}{dvs:B3}{sp:Sp}{e:Expr}{es:C5}{t:TA}{p pos:Pos}{E:XK}
end
theorem Reps.set{H:Hp}{v:V}{t:T}(b:Rep H v t):∀{xs:B3}{us:B0}(i:Nat),Reps H xs us->Reps H (xs.set i v) (us.set i t)
 |_,[],i,h=>by
  let e:_= []:=h;subst e;exact O
 |_,u::us,0,⟨x,r,e,c,a⟩=>by subst e;exact⟨v,r,O,b,a⟩|_,u::us,i+1,⟨x,r,e,c,a⟩=>by subst e;exact{x,_,O,c,Reps.set b i a}
section
variable{X:Cx}
def rIns:V->List V->Hp->VK->Prop:=λx b H Q=>∃l a i y,x= .ref l/\b= [.int i,y]/\H l=Y (.lst a)/\0<=i/\i<=(a...*:Int)/\a...*<V9/\a...*<=100000/\Q .non (upd H l (.lst (a.take i.toNat++y::a.drop i.toNat)))
theorem zQp:MtM X "list.insert" rIns:=by
 intro k s σ H x vs v M Q I B A h;ext yK h l J i y f d;ext zQ d j m N E D d;ext oA d h5 q;subst f j;cases B;refine yM (A.two) λu w c p g=>?_;subst c;obtain⟨t,rfl⟩:=p;obtain⟨z,a,n,r,L,e⟩:=I.lstM m;let b:¬(!Builtin.List.listFitsIndex i)=true:=by
  rw[fitsIndex_both ∅ ∅];decide
 refine tD F.slot_list_insert ⟨_,e,O⟩ F.entry_list_insert (F.args_list_insert_3 _ _ _) (AutoSeq1.list_insert_list_int_val_1 l a.toArray n i t w b (by rw[mT];lia)) {e, ?_};refine{.non,_,I.lset (its':=a.take i.toNat++w::a.drop i.toNat) m e ?_ ((r.take _).append (.cons g (r.drop _))) ?_,O,q}
 ·let o:(if i<0 then(i+(a.toArray.size:Int)).toNat else min i.toNat a.toArray.size)=i.toNat:=by
   rw[mH ∅,mT]
   lia
  show(a.toArray.extract 0 (if i<0 then(i+(a.toArray.size:Int)).toNat else min i.toNat a.toArray.size)).push w++a.toArray.extract (if i<0 then(i+(a.toArray.size:Int)).toNat else min i.toNat a.toArray.size)=_;rw[o];apply Array.ext';simp;exact rH (by rw[pZ];exact mD _)
 ·rw[mK,mP,nQ,pZ]
  lia
end
section
variable{X:Cx}{tg:Expr}
end
theorem zFk{a b:TS}{D:gB}{σ:St}{H:Hp}(h:∀R:TS,R=b->jP a R D σ H):jP a b D σ H:=h b O
theorem cut3{a b c d:TS}{D:gB}{σ:St}{H:Hp}(h:∀R:TS,R=d->jP a (jP b (jP c R)) D σ H):jP a (jP b (jP c d)) D σ H:=h d O
theorem cut6{a b c d e f g:TS}{D:gB}{σ:St}{H:Hp}(h:∀R:TS,R=g->jP a (jP b (jP c (jP d (jP e (jP f R))))) D σ H):jP a (jP b (jP c (jP d (jP e (jP f g))))) D σ H:=h g O
end L2
namespace L2
open PySem PySem.Spec PyProof.Rows PySem.W
def PEat(X:Cx)(σ:St)(e:Expr)(t:TE):Prop:=
 ∀(a:C7)(s:V2)(H:Hp)(Q:VK),Inv X a σ H s->t σ H Q->V8 (S5 X.prog X.w) X.A (eval e X.env) (EP X a σ Q) X.xe s
def PSat(X:Cx)(σ:St)(st:List V6)(t:TS):Prop:=
 ∀(a:C7)(s:V2)(H:Hp)(D:gB),Inv X a σ H s->t D σ H->V8 (S5 X.prog X.w) X.A (execs st X.env) (SP X a D) X.xe s
def zEe(CX:CXT)(X:Cx)(σ:St)(E:XK):Prop:=∀(a:C7)(H:Hp)(s:V2)(e:V0)(b:V2),Inv X a σ H s->CX X.stack H s E e b->X.xe e b
section
variable{X:Cx}{CX:CXT}{k j:Nat}{f:V1}{fd:V7}{ps:C1}{sp:Sp}{dvs:B3}{ds:B7}{E:XK}{x:Str}{p pos:Pos}{e:Expr}{es:C5}{t:TA}{te:TE}{σ:St}
theorem zTu{a:C7}{H:Hp}{s:V2}{Q:VK}{us:B7}{vs:B3}(F:FnOk X.prog X.w X.K X.mg X.base CX k f fd ps sp)(o:Room k X.A)(d:Binds X.K fd ps ds)(i:Vals dvs ds)(g:zEe CX X σ E)
  (I:Inv X a σ H s) (r:Vals vs us) (h:sp (vs++dvs) H Q E):V8 (S5 X.prog X.w) X.A (call (.ref f) us) (EP X a σ Q) X.xe s:=by
 let c:Vals (vs++dvs) (us++ds):=r.append i;let l:(us++ds)...*=ps...*:=by rw[<-c...*];exact F.len _ _ _ _ h
 refine aO (rX (F.run X.A X.stack s H {us,[]} (us++ds) (vs++dvs) Q E o I.env0 (d s us I.kIn l) c h) λr m b=>?_)
 cases r with
 |error e=>exact g a H s e m I b|ok n=>
  cases n with|ret u=>exact I.after b|next=>exact False.elim b|brk=>exact False.elim b|cont=>exact False.elim b
theorem yEh{φ:V0->Prop}(D:Dx φ X.prog X.w X.K X.mg X.base k x ps sp)(y:Room j X.A)(i:k<=j)(o:Gl X x)(l:zEe (CXE φ X.prog X.w) X σ E)(w:PA X (e::es) t)(b:(x==("__debug__" :Str))=false:=by decide)
  (n:A2 (e::es) X.env=(false,eval e X.env)::A2 es X.env:=by rfl) (c:(S2 pos (A2 es X.env)).any (·.1)=false:=by rfl):PEat X σ (.Call (.Name x p) (e::es) [] pos) (jY sp [] E t):=by
 refine zX (D.ex) λf fd v g m u=>?_;intro a s H Q I h;refine rF (qO I o u ?_ b);refine PySem.W.callWith_K (h₀:=X.base) I.ok.mod.kin m (thn (w pos a s σ H _ I h) λB A ⟨J,z,d,r,q⟩=>{d.kIn, ?_}) n c;exact zTu v (y.mono i) g .nil l d r q
theorem zWa(b:PEat X σ e te):PSat X σ [.Return ↥e pos] (zFi te):=by
 intro a s H D I h;exact bA (wpAny_Return_some (thn (b a s H _ I h) λv l ⟨x,g,c,i,d⟩=>⟨x,σ,g,c,i,d⟩))
end
section
variable{X:Cx}{B:V1}{bn:Str}{body suite:List V6}{b₀:V6}{bp hp pos:Pos}{tb:XK->TS}{ts:TS}{φ:V0->Prop}
end
end L2
namespace L2
open PySem PySem.Spec PyProof.Rows PySem.W
end L2
namespace L2
open PySem PySem.Spec PyProof.Rows PySem.W
theorem zFj:entryFor table "proto.unchain" =some Builtin.«proto.unchain»:=entryFor_of_fast (by kernel_rfl)
section
variable{prog:V3}{w:V4}{A:Around}{E:C9}{s:V2}{env:S7}{e h:V1}{oh oe:Obj}{vh ve:Array V0}
theorem zMd{α:Type}{Q:α->V2->Prop}(d:A.handled=Y (.ref h))(j:h≠e)(f:s.heap.get? h=Y oh)(a:oh.data= .fields vh)(g:vh[2]? =some .none)(c:s.heap.get? e=Y oe)(b:oe.data= .fields ve)(i:2<ve.size)
  (q:E (.ref e) {s with heap:=s.heap.update e (Obj.mapFields λxs=>xs.setIfInBounds 2 (.ref h))}):V8 (S5 prog w) A (raiseNew (.ref e):Sem α) Q E s:=by
 unfold raiseNew;refine mC (wpAny_handled ?_);rw[d];dsimp only;rw[mJ (by
  refine bne_iff_ne.mpr λz=>j ?_;cases z;rfl)]
 refine mC (rD (runValue_entry zFj ?_));unfold Builtin.«proto.unchain»;dsimp only;refine mC (rJ f a g ?_);rw[mJ (by rfl)];refine mY {_,O, ?_};refine mC (sG c b i ?_);exact wpAny_throw q
theorem XObj.cls{nm:Str}{C N:V1}{bm:B7}{o:Obj}(h:XObj nm C N bm o):∃c,o.data= .cls c:=by
 ext zY h g m d r sub b;ext zY b n f i k p b;ext zSz b l q j a;subst a;exact⟨_,O⟩
theorem zKx{nm:Str}{C N:V1}{bm:B7}{m:String}{j:Obj}{Q:C9}(o:bm.contains (.type "BaseException")=true)(n:s.heap.get? C=Y j)(p:XObj nm C N bm j)(i:s.heap.get? e=Y oe)(b:oe.cls= .ref C)(k:oe.data= .fields ve)
  (q:Q (.ref e) s):V8 (S5 prog w) A (excFromValue (.ref e) m) Q E s:=by
 ext zY p r y g I sub f;ext zY f B l t v D f;ext zSz f x H u a;subst a;let d:∀c:ClassData,oe.data≠ .cls c:=λc z=>by rw[k] at z;cases z
 unfold excFromValue isExcClass;refine mC (mC (tY i d ?_));rw[mH mX];refine mY ?_;rw[mH mX];unfold PySem.isInstance;refine mC (mC (rQ i ?_));rw[b];refine bS n ?_;rw[show(Value.ref C::bm).contains (Value.type "BaseException")=true by
  rw[sH,o,tH],mJ O]
 exact mY q
theorem zMo{nm nmb:Str}{C N B Nb:V1}{bm bmb:B7}{x c:Sem V0}{Q:Flow->V2->Prop}(d:bm.contains (.type "BaseException")=true)(y:bmb.contains (.type "BaseException")=true)(hh:A.handled=Y (.ref h))
  (H:V8 (S5 prog w) A x (λv s1=>V8 (S5 prog w) A c (λu a=>∃(e:V1)(oe oC oh D:Obj)(f vh:Array V0),v= .ref e/\u= .ref h/\a.heap.get? C=Y oC/\XObj nm C N bm oC/\a.heap.get? B=Y D/\XObj nmb B Nb bmb D/\a.heap.get? e=Y oe/\oe.cls= .ref C/\oe.data= .fields f/\f.size=6/\f[1]? =some .none/\
   h≠e/\a.heap.get? h=Y oh/\oh.cls= .ref B/\oh.data= .fields vh/\vh[2]? =some .none/\
   ∀h' vs',h'.get? e=some {oe with data:=.fields vs'}->(∀b,b≠e->h'.get? b=a.heap.get? b)->vs'.size=6->vs'[1]? =some .none->E (.ref e) {a with heap:=h'}) E s1) E s):
  V8 (S5 prog w) A (raiseStmt env ↥x ↥c) Q E s:=by
 unfold raiseStmt;refine mC (thn H λv s1 H1=>?_);refine mC (rD (thn H1 λu a ⟨e,oe,oC,oh,D,f,vh,ev,eu,n,hX,hB,hY,r,j,p,h6,h1,ne,l,t,k,J,q⟩=>?_));subst ev eu;refine mC (mY ?_);refine mC (rD (zKx d n hX r j p ?_));dsimp only;rw[mH (by intro z;cases z)];refine mC (rD (zKx y hB hY l t k ?_));let nC:C≠e:=λz=>by
  obtain⟨c,hc⟩:=hX.cls;rw[z,r] at n;cases n;rw[p] at hc;cases hc
 let L:=gM r p 3 (.ref h);let o3:∀b,b≠e->(a.heap.update e (Obj.mapFields λg=>g.setIfInBounds 3 (.ref h))).get? b=a.heap.get? b:=λb d=>mZ _ _ (Ne.symm d);refine mC (sG r p ∅ ?_);generalize a.heap.update e (Obj.mapFields λg=>g.setIfInBounds 3 (.ref h))=k3 at L o3⊢;let i:=gM L O 4 (.bool true);let o:∀b,b≠e->(k3.update e (Obj.mapFields λg=>g.setIfInBounds 4 (.bool true))).get? b=a.heap.get? b:=λb d=>(mZ _ _ (Ne.symm d)).trans (o3 b d);refine mC (sG L O (by rw[sJ];lia) ?_);generalize k3.update e (Obj.mapFields λg=>g.setIfInBounds 4 (.bool true))=k4 at i o⊢;dsimp only at i⊢;let M:∀c:ClassData,({oe with data:=.fields ((f.setIfInBounds 3 (.ref h)).setIfInBounds 4 (.bool true))}:Obj).data≠ .cls c:=λc z=>nomatch z;refine mC (tY i M ?_);rw[mH mX];ext zY hX q' bs aa sn sub z_;ext zY z_ ab ac dd k0 k1 z_;ext zSz z_ k2 ae k5 m;subst m;let I:=(o C nC).trans n;unfold raisedInstance;refine mC (mC (rQ i ?_));rw[j];refine mC (rQ I ?_);rw[mJ (by rfl)];refine mY ?_;let f1:((f.setIfInBounds 3 (.ref h)).setIfInBounds 4 (.bool true))[1]? =Y Value.none:=by
  rw[pQ ∎,pQ ∎];exact h1
 let fz:((f.setIfInBounds 3 (.ref h)).setIfInBounds 4 (.bool true)).size=6:=by
  rw[sJ,sJ];exact h6
 refine mC ?_;unfold setFlight;refine mC (rJ i O f1 ?_);rw[mH (by intro z;cases z)];refine mY ?_;refine zMd hh ne ((o h ne).trans l) k J i O (by rw[fz];decide) ?_;refine q _ _ (gM i O 2 (.ref h)) (λb d=>(mZ _ _ (Ne.symm d)).trans (o b d)) ?_ ?_
 ·rw[sJ];exact fz
 ·rw[pQ ∎];exact f1
end
end L2
namespace L2
open PySem PySem.Spec PyProof.Rows PySem.W
theorem RoomH.make{k:Nat}{A:Around}(r:RoomH (k+1) A)(C:V1)(us:B7)(a:List (Str×V0)):RoomH k (A.under (.builtin "type.__call__" {.ref C::us,a})):=
 {by let:=r.dp;rw[zFa];lia,by let:=r.un;rw[zEm];lia}
section
variable{X:Cx}{C B fI:V1}{nm f:Str}{k:Nat}{fd:V7}{ps:C1}
theorem zSa{o b:Expr}{j m:Pos}{E ta:TE}(c:zCc X.K nm C B fI)(A:findIn X.K (.ref C) f=Y none)(Q:PE X b E)(ha:PE X o ta)(hs:S1 b ↥(.Attribute o f j) m.line X.env=pure false:=by rfl):PS X (.Assign [.Attribute o f j] b m) (zZy C f E ta):=by
 intro i s σ H D I h;refine bG (thn (Q i s σ H _ I h) λu s1 ⟨y,H1,I1,ry,q⟩=>thn (ha i s1 σ H1 _ I1 q) λM l ⟨z,r,n,rx,x,ez,v,q2⟩=>?_) hs;subst ez;obtain rfl:M=Value.ref x:=rx;refine qD (zAg n v) λvs he h6 h1 N=>?_;refine yX (c.cd) λcd hc hm hd=>?_;refine zZq n.kIn hc hm hd he O (λ_ z=>by cases z) O c.set A λL t' t g2 J=>?_;let d:r l⁻¹=none:=n.fresh;let w:l⁻¹≠x:=λz=>by rw[z,v] at d;cases d
 let p:Mut (r x):=by rw[v];exact mS
 let u1:Un X.fs [] r (upd r x (exO x C ↥l⁻¹)) l.heap L:=Un.write (e:=x) p (.inl O) J ⟨_,t⟩;let k1:HOk X.prog X.w (upd r x (exO x C ↥l⁻¹)) L:=n.hok.write (e:=x) p (.inl O) J ⟨_,t⟩ (zCp t h6 h1 N);refine{σ,_,n.un (t':=t') (u1.also (a:=l⁻¹) (o:=.xd [(f,y)]) (mD _) d) (k1.also (by rw[zK w];exact d) ?_),q2 _ d};refine{_,g2,λg=>?_};show RelO (List.lookup g [(f,y)]) _;rw[rY,List.lookup_nil]
 by_cases z:g=f
 ·subst z
  rw[mJ O,cM];exact ry
 ·rw[mH z,show(g==f)=false from rT.mpr z]
  trivial
def zOm(C:V1)(f:Str):Sp:=λb H Q _=>∃x a v,b= [.ref x,a,v]/\H x=Y (exO x C none)/\∀d,H d=none->Q .non (upd (upd H x (exO x C ↥d)) d (.xd [(f,v)]))
theorem zRh{l:C7}{σ:St}{H:Hp}{s:V2}{Q:C9}{EE:C9}{us:B7}{w v:V}(c:zCc X.K nm C B fI)(F:zKv X.prog X.w X.K X.mg X.base k fI fd ps (zOm C f))(hr:RoomH (k+1) X.A)(hb:Binds X.K fd ps [])(I:Inv X l σ H s)(r:Vals [w,v] us)
  (q:∀x d y,X.s₀.heap.get? x=none->s.heap.get? x=none->H x=none->H d=none->d≠x->Inv X l σ (upd (upd H x (exO x C ↥d)) d (.xd [(f,v)])) y->Q (.ref x) y):V8 (S5 X.prog X.w) X.A (call (.ref C) us) Q EE s:=by
 refine wB (c.obj) λN o lk hX=>?_;let L:us...*<=100:=by rw[<-r...*];show(2:Nat)<=100;decide
 let D:X.s₀.heap.get? (s⁻¹+1)=none:=rE (nP I.sz (pP _));let E:s.heap.get? (s⁻¹+1)=none:=rE (pP _);let A:H (s⁻¹+1)=none:=I.hok.fresh (pP _);let he:((s.heap.push {cls:=.type "tuple",data:=.seq us.toArray}).push (jS C s⁻¹)).get? (s⁻¹+1)=Y (jS C s⁻¹):=by
  rw[<-(tE .. :(s.heap.push {cls:=.type "tuple",data:=.seq us.toArray}).objs.size=s⁻¹+1)];exact nI _ O
 let J:=I.laid (t':=s.toks) (a:=s⁻¹+1) (o:=exO (s⁻¹+1) C none) (h':=(s.heap.push {cls:=.type "tuple",data:=.seq us.toArray}).push (jS C s⁻¹)) (λb ob e=>mL _ (mL _ e)) (pP _) (zCp he O O O);let r2:Vals [V.ref (s⁻¹+1),w,v] (Value.ref (s⁻¹+1)::us):=.cons O r;let n:zOm C f [V.ref (s⁻¹+1),w,v] (upd H (s⁻¹+1) (exO (s⁻¹+1) C none)) (λu H2=>u= .non/\∃d,H d=none/\d≠s⁻¹+1/\H2=upd (upd H (s⁻¹+1) (exO (s⁻¹+1) C ↥d)) d (.xd [(f,v)])) E0:=by
  refine{_,w,v,O,zC,λd m=>{O,d, ?_}};let j:d≠s⁻¹+1:=λz=>by rw[z,zC] at m;cases m
  rw[zK j] at m;exact{m,j,by rw[zHh]}
 let hl:((Value.ref (s⁻¹+1)::us)++ [])...*=ps...*:=by
  rw[nS,<-r2...*];exact F.len _ _ _ _ n
 let p:=hb _ (Value.ref (s⁻¹+1)::us) J.kIn hl;rw[nS] at p;let run:=F.run _ X.stack _ _ {Value.ref (s⁻¹+1)::us,[]} (Value.ref (s⁻¹+1)::us) _ _ E0 (hr.make C us []) (J.env0.make C us []) p r2 n;let I1:=I;obtain⟨h,g,dr,t,os⟩:=s;refine aO (zSg I1.kIn lk hX c.tl c.init c.fn L (rX run λr y i=>?_))
 cases r with
 |error e=>exact False.elim i|ok fl=>
  cases fl with
  |ret u=>
   refine zX (J.after i) λv' H' I3 rv ev z_=>?_;ext yX z_ d m j M;subst M;subst ev;exact{rv,q _ d y D E A m j I3}
  |next=>exact False.elim i|brk=>exact False.elim i|cont=>exact False.elim i
end
end L2
namespace L2
open PySem PySem.Spec PyProof.Rows PySem.W
def nC(v:V0):Prop:=v= .none
def aC(_:V0):Prop:=True
section
variable{X:Cx}{pins:C7}{σ:St}{H:Hp}{s:V2}{x C:V1}{d:Option V1}{φ:V0->Prop}{vs:Array V0}{a0:V0}{ψ:V5->Prop}{EE:C9}
theorem zYc{Q:Unit->V2->Prop}(I:Inv X pins σ H s)(u:X.stack=X.env::X.outer)(h:X.env.frame=Y X.env.locals)(hex:X.ex= [])(D:H x=Y (.ext ψ))(ab:X.s₀.heap.get? x=none)(he:s.heap.get? x=some {cls:=.ref C,dict:=d,data:=.fields vs})(h0:vs[0]? =Y a0)(f:vs[1]? =some .none)(E:∃cx,vs[2]? =Y cx/\φ cx)
  (q:∀T f,Inv X pins σ (drp H x) {s with heap:=f}->Fl φ f x T (.ref C) d a0 (rawInt X.env.locals)->X.s₀.heap.get? T=none->drp H x T=none->x∉frs X.stack->T∉frs X.stack->Q () {s with heap:=f}):
  V8 (S5 X.prog X.w) X.A (noteFrame (.ref x) X.env) Q EE s:=by
 let aa:frs X.stack=X.env.locals::X.fs:=by
  rw[u];unfold frs;rw[pV,h];rfl
 let l:=I.ok.frames;rw[u] at l;let nx:x∉frs X.stack:=λz=>by
  let:=I.stkFree x z;rw[D] at this;cases this
 let st:=I.stack;let t:=nx;rw[u] at t st;refine zKu (φ:=φ) l st h he t O h0 f E λf g M i v=>?_;rw[<-u] at i;let a:=I.base;rw[hex] at a;let p:H g=none:=by
  cases e:H g with
  |none=>rfl|some o=>
   obtain⟨ob,m⟩:=i4 (I.hok g o e);rw[v] at m;cases m
 let r:X.s₀.heap.get? g=none:=by
  cases e:X.s₀.heap.get? g with
  |none=>rfl|some o=>
   obtain⟨o',L⟩:=a.there g o e (λz=>nomatch z);rw[v] at L;cases L
 let nT:g∉frs X.stack:=λz=>by
  obtain⟨o,e,_⟩:=kA I.stack g z;rw[v] at e;cases e
 let k:∀b o,H b=Y o->(∀φ,o≠ .ext φ)->b≠x:=λb o e n z=>by
  subst z;rw[D] at e;exact n _ (mW e).symm
 let w:∀b,H b=none->drp H x b=none:=λb e=>by
  unfold drp;split
  ·rfl
  ·exact e
 let j:∀b,H b=none->b∉ [x]:=λb n z=>by
  rw[mF.mp z,D] at n;cases n
 let A:HOk X.prog X.w (drp H x) s.heap:=λb o e=>by
  by_cases z:b=x
  ·subst z;rw[gW] at e;cases e
  ·rw[vD z] at e
   exact(I.hok b o e).stay (λ_ _ _ q=>q) (λc q=>by rw[vD (k c _ q λ_ y=>nomatch y)];exact q) λc N q=>by rw[vD (k c _ q λ_ y=>nomatch y)];exact q
 let un:Un (frs X.stack) [] H (drp H x) s.heap f:={λb o e n h _=>i.keep b o e h (j b n),λb o e n h _=>i.slot b o e h (j b n),λb o e n _=>w b n,λb o e _=>by
   by_cases z:b=x
   ·ext yK M oe _ _ _ e1 _
    rw[z];exact⟨oe,e1⟩
   ·let J:b∉ [x]:=λy=>z (mF.mp y)
    by_cases h:b∈frs X.stack
    ·obtain⟨sl,e2⟩:=i.slot b o e h J
     exact⟨_,e2⟩
    ·exact⟨o,i.keep b o e h J⟩,
  λb N e=>by rw[vD (k b _ e λ_ y=>nomatch y)];exact e,
  λb ob N e=>by rw[vD (k b _ e λ_ y=>nomatch y)];exact e,
  λb ps e=>{#[],by rw[Array.append_empty,vD (k b _ e λ_ y=>nomatch y)];exact e}}
 let I1:Inv X pins σ (drp H x) {s with heap:=f}:=I.call' (s':={s with heap:=f}) O un (kF A i (λb B=>w b (I.stkFree b B)) λb B=>by rw[mF.mp B];exact gW) I.bare (λb z=>nomatch z);exact q g f I1 M r (w _ p) nx nT
theorem CXF.of{E:XK}{T:V1}{g f:V0}(I:Inv X pins σ H s)(hex:X.ex= [])(F:Fl φ s.heap x T g d a0 f)(b:X.s₀.heap.get? x=none)(a:X.s₀.heap.get? T=none)(e:H x=none)(h:H T=none)(nx:x∉frs X.stack)(k:T∉frs X.stack)(q:E g d H):CXF φ X E [] (.ref x) s:=by
 let i:=I.base;rw[hex] at i;exact{x,T,g,d,a0,f,H,O,I.os,I.bare,i,I.hok,b,a,e,h,F,q,I.stack,I.stkFree,nx,k,λc j=>nomatch j}
theorem Fl.same{h h':V5}{T a:V1}{c f:V0}(F:Fl φ h x T c d a0 f)(i:x≠a)(g:T≠a)(k:Heap.SameBut a h h'):Fl φ h' x T c d a0 f:=by
 ext yK F n vs m ts l b;ext zQ b j t u q e b;ext oAA b p o r;exact{n,vs,m,ts,(k.2 _ i).trans l,j,t,u,q,e,p,(k.2 _ g).trans o,r}
theorem CXF.has{E:XK}{cs:B9}{e:V0}(h:CXF φ X E cs e s):∃a c vs T,e= .ref a/\s.heap.get? a=Y c/\c.data= .fields vs/\vs[1]? =Y (.ref T):=by
 ext zY h x T C d a0 b;ext zX b f w g os i b;ext zQ b B k p t n b;ext xI b u l q _;subst g;ext yK l c vs v ts m b;ext zQ b y z o A j r;exact⟨x,c,vs,T,O,m,o,j⟩
theorem n9{E:XK}{e:V0}{W:C9}(g:X.Ok)(l:X.stack=X.env::X.outer)(j:X.env.frame=Y X.env.locals)(h:CXF φ X E [] e s)(q:∀b,CXF φ X E [] e b->W e b):cameBackBy (S5 X.prog X.w) X.A X.env W e s:=by
 refine yK (h.has) λa o vs T c k=>?_;ext oAA k i m f;subst c;show V8 _ _ _ _ _ _;refine mC (rJ i m f ?_);rw[mH (by intro z;cases z)];exact thn (j6 g l j h) λ_ b n=>q b n
end
end L2
namespace L2
open PySem PySem.Spec PyProof.Rows PySem.W
noncomputable def exG(x C:V1)(d:Option V1):HO:=.ext λh=>∃(a:Obj)(b:Array V0),h.get? x=Y a/\a.cls= .ref C/\a.dict=d/\a.data= .fields b/\b[2]? =some .none
theorem yDq{P:V3}{w:V4}{H:Hp}{h:V5}{x C:V1}{d:Option V1}{b:Obj}{vs:Array V0}(e:h.get? x=Y b)(g:b.cls= .ref C)(c:b.dict=d)(i:b.data= .fields vs)(f:vs[2]? =some .none):ObjOk P w H h x (exG x C d):=
 {⟨b,vs,e,g,c,i,f⟩,⟨_,e⟩,λ_ _ ⟨b,vs,e,a⟩ k=>{b,vs,k _ e,a}}
noncomputable def exK(x C:V1)(d:Option V1):HO:=.ext λh=>∃a:Array V0,h.get? x=some {cls:=.ref C,dict:=d,data:=.fields a}/\a.size=6/\a[1]? =some .none
theorem yCm{P:V3}{w:V4}{H:Hp}{h:V5}{x C:V1}{d:Option V1}{vs:Array V0}(e:h.get? x=some {cls:=.ref C,dict:=d,data:=.fields vs})(c:vs.size=6)(b:vs[1]? =some .none):ObjOk P w H h x (exK x C d):=
 {⟨vs,e,c,b⟩,⟨_,e⟩,λ_ _ ⟨vs,e,a⟩ k=>{vs,k _ e,a}}
structure Xh(P:V3)(w:V4)(K:Frag)(mg:C8)(base:V5)(k:Nat)(cn:Str)(C:V1)(f:Str):Prop where
 ex:∃(nm:Str)(B fI:V1)(fd:V7)(ps:C1),zCc K nm C B fI/\zKv P w K mg base k fI fd ps (zOm C f)/\Binds K fd ps []/\mg cn=Y (.ref C)
structure Xb(K:Frag)(mg:C8)(bn:Str)(B:V1):Prop where
 ex:∃(nm:Str)(BB fB:V1),zCc K nm B BB fB/\mg bn=Y (.ref B)/\exmOne K (.ref B) (.ref B)=Y true
def zOv(B C:V1)(i:Nat)(f:Str)(ta:TA)(E:XK)(σ:St):XK:=λh d c=>h= .ref B/\∀x,c x=none->ta (σ.set i ↥(.ref x)) (upd c x (exG x B d)) λg b=>b x=Y (exG x B d)/\∃e v,g= [e,v]/\∀a,b a=none->E (.ref C) ↥a (upd b a (.xd [(f,v)]))
def zJo(B C:V1)(i:Nat)(f:Str)(ta:TA)(E:XK)(tb:XK->TS):TS:=λD σ H=>tb (zOv B C i f ta E σ) D σ H
section
variable{X:Cx}{B C:V1}{bn cn n f:Str}{i j k:Nat}{body:List V6}{bp hp pos p np cpos rpos:Pos}{e:Expr}{es:C5}{tb:XK->TS}{ta:TA}{E:XK}{φ:V0->Prop}
theorem zRc{H:Hp}{x d:V1}{o a u:HO}(c:H x=none)(g:d≠x):drp (upd (upd (upd H x o) d u) x a) x=upd H d u:=by
 funext b
 by_cases z:b=x
 ·subst z
  rw[gW,zK (Ne.symm g),c]
 ·rw[vD z,zK z]
  by_cases y:b=d
  ·subst y;rw[zC,zC]
  ·rw[zK y,zK z,zK y]
theorem zMb(R:Xh X.prog X.w X.K X.mg X.base k cn C f)(RB:Xb X.K X.mg bn B)(hr:Room j X.A)(hj:k+1<=j)(bt:Gl X cn)(cq:Gl X bn)(hN:X.N.Nodup)(hi:X.N[i]? =Y n)(hl:X.env.scope.names.lookup n=some .local)(hv:Vis X.env.scope n)(l:Lvs φ X E)(hφ:∀v,φ v)
  (t:∀a W E' σ,zEe (CXE nC X.prog X.w) (X.pend a W) σ E'->PSat (X.pend a W) σ body (tb E')) (ha:∀v,PA (X.mark v) (e::es) ta)
  (bv:(bn==("__debug__" :Str))=false:=by decide) (bs:(cn==("__debug__" :Str))=false:=by decide) (ce:(n==("__debug__" :Str))=false:=by decide) (cc:(n==("__classdict__" :Str))=false:=by decide)
  (he:A2 (e::es) X.env=(false,eval e X.env)::A2 es X.env:=by rfl) (cr:(S2 cpos (A2 es X.env)).any (·.1)=false:=by rfl):
  PS X (.Try body [.ExceptHandler ↥(.Name bn bp) ↥n [.Raise ↥(.Call (.Name cn p) (e::es) [] cpos) ↥(.Name n np) rpos] hp] [] [] pos) (zJo B C i f ta E tb):=by
 intro a s σ H D I h;ext vS l g hf hex cv bk;refine zZ (RB.ex) λck BB fB cB ca a8=>?_;refine zY (R.ex) λnm BC fI fd ps L=>?_;ext xI L cC FI bx cd;refine wpAny_Try_except ?_;let J:=t a (λe s'=>∃H1 s1,Inv X a σ H1 s1/\CXE nC X.prog X.w X.stack H1 s1 (zOv B C i f ta E σ) e s') (zOv B C i f ta E σ) σ
  (λb6 A s1 e s' I1 hx=>{A,s1,I1.unpend I.ok,hx}) [] s H D I.pend h
 refine pC J (λf s1 q=>?_) λe s1 ⟨H0,s0,I0,hx⟩=>?_
 ·cases f with
  |next=>obtain⟨σ',A,I',q⟩:=q;exact tL {σ',A,I'.unpend I.ok,q}
  |brk=>obtain⟨σ',A,I',q⟩:=q;exact{σ',A,I'.unpend I.ok,q}
  |cont=>obtain⟨σ',A,I',q⟩:=q;exact{σ',A,I'.unpend I.ok,q}
  |ret u=>obtain⟨v,σ',A,I',r,q⟩:=q;exact{v,σ',A,I'.unpend I.ok,r,q}
 ext zY hx x T Cv d a0 L;ext wS L A cl os ae un L;ext zQ L ai ac ax al b0 L;ext oAA L fl au q;subst cl au;let I2:Inv X a σ A s1:=I0.call' os un ai ae (λb z=>absurd z (by simp));let be:∀b,s0.heap.get? b=none->b∉frs X.stack:=λb t z=>by
  obtain⟨o,e,_⟩:=kA I0.stack b z;rw[t] at e;cases e
 let a3:=I0.ok.frames;let nx:=be x ac;let nT:=be T ax;let st:=I2.stack;rw[g] at a3;let bc:=nx;let aq:=nT;rw[g] at bc aq st;refine zIf a3 st hf bc aq fl λh1 T1 f1 k1 n1=>?_;refine vM f1 λh2 f2 k2=>?_;rw[<-g] at k1;let ay:A T1=none:=by
  cases e:A T1 with
  |none=>rfl|some o=>
   obtain⟨ob,bb⟩:=i4 (I2.hok T1 o e);rw[n1] at bb;cases bb
 let a4:s0.heap.get? T1=none:=by
  cases e:s0.heap.get? T1 with
  |none=>rfl|some o=>
   obtain⟨o',e'⟩:=un.there T1 o e (λz=>nomatch z);rw[n1] at e';cases e'
 let k3:Kp (frs X.stack) [x,T,T1] s1.heap h2:=k1.trans (wO k2 λb t=>nomatch t) λc hc=>by
  rcases hc with z | z
  ·rcases mG.mp z with z | z
   ·rw[z];simp
   ·rw[mF.mp z];simp
  ·rw[mF.mp z.1];simp
 let aa:∀b∈ [x,T,T1],s0.heap.get? b=none/\A b=none:=λb t=>by
  rcases mG.mp t with z | z
  ·rw[z];exact⟨ac,al⟩
  ·rcases mG.mp z with z | z
   ·rw[z];exact⟨ax,b0⟩
   ·rw[mF.mp z];exact⟨a4,ay⟩
 let I3:Inv X a σ A {s1 with heap:=h2}:=I0.call' (s':={s1 with heap:=h2}) os (zAu un k3 λb t=>(aa b t).1) (kF ai k3 I2.stkFree λb t=>(aa b t).2) ae (λb z=>absurd z (by simp));let LT:Looks (S5 X.prog X.w) h2 (typeOf (.ref x)) (.ref B):=by
  ext yK f2 oe vs oT cj e1 L;ext oA L e2 _;exact e2▸(Looks.ld e1).andThen .now
 refine wpAny_handleBy_cons (codeAny_handlers_test ?_) (by intro z;cases z);refine qO (X:=X.mark (.ref x)) (I3.mark) cq ca ?_ bv;refine exm_one (M:=S5 X.prog X.w) I3.kIn LT a8 _ _ _ {s1 with heap:=h2} (λ_ _ e=>e) ?_;refine codeAny_handlers_suite_as ?_;refine vM f2 λh3 f3 k4=>?_;let k5:Kp (frs X.stack) [x,T,T1] s1.heap h3:=k3.trans (wO k4 λb t=>nomatch t) λc hc=>by
  rcases hc with z | z
  ·exact z
  ·rw[mF.mp z.1];simp
 let I4:Inv X a σ A {s1 with heap:=h3}:=I0.call' (s':={s1 with heap:=h3}) os (zAu un k5 λb t=>(aa b t).1) (kF ai k5 I2.stkFree λb t=>(aa b t).2) ae (λb z=>absurd z (by simp));let bo:X.s₀.heap.get? x=none:=by
  cases e:X.s₀.heap.get? x with
  |none=>rfl|some o=>
   obtain⟨o',e'⟩:=I0.base.there x o e (by rw[hex];exact λz=>nomatch z);rw[ac] at e';cases e'
 ext yK f3 oe vs oT cj e1 L;ext zQ L e2 e3 e4 _ _ L;ext yAv L _ _ _ _ cx L;ext oA L bw b';let I5:Inv X a σ (upd A x (exG x B d)) {s1 with heap:=h3}:=by
  refine I4.track al bo (λz=>?_) (λy c e z=>?_) (λp hp z=>?_) (yDq e1 e2 e3 e4 (bw.trans (by rw[show cx=Value.none from b'])))
  ·obtain⟨m,⟨o,_,_,ho,_⟩,_⟩:=I0.loc
   rw[<-z,ac] at ho;cases ho
  ·refine wB (I0.cell y c e) λv o ho _=>?_
   rw[z,ac] at ho;cases ho
  ·let ho:=(I0.pin p hp).1
   rw[z,ac] at ho;cases ho
 refine zBa (v:=.ref x) I5 hN hi (.inl hl) O (λs4 I7=>?_) (.inr hl);let hq:=q x al;refine bA ?_;rw[arm_exec_Raise];refine mC (rR ?_);show V8 _ _ (raiseStmt X.env ↥(do let v <-eval (.Call (.Name cn p) (e::es) [] cpos) X.env;S0 rpos;pure v) ↥(do let v <-eval (.Name n np) X.env;S0 rpos;pure v)) _ _ _;refine wB (cC.obj) λN o lk hX=>?_;refine wB (cB.obj) λNB oB cm bl=>?_;let ba:∀b:V0,(b::veMro).contains (Value.type "BaseException")=true:=λb=>by rw[sH,show veMro.contains (.type "BaseException")=true by decide,tH]
 refine zMo (h:=x) (nm:=nm) (C:=C) (N:=N) (bm:=.ref BC::veMro) (B:=B) (nmb:=ck) (Nb:=NB) (bmb:=.ref BB::veMro) (ba _) (ba _) O (mC ?_);refine rF (qO (X:=X.mark (.ref x)) I7.mark bt cd ?_ bs);refine callWith_K (h₀:=X.base) I7.ok.mod.kin cC.kp (pC (ha (.ref x) cpos a s4 _ _ _ I7.mark hq) (λus s5 ⟨cu,H5,I9,r5,ak,v0,v,ev,q5⟩=>{I9.kIn, ?_}) λ_ _ z=>False.elim z) he cr;subst ev;refine zRh (X:=X.mark (.ref x)) cC FI ((hr.h (v:=Y (.ref x))).mono hj) bx I9 r5 λw Q s6 ag cs ab aj am cp=>?_;refine mC (rR (mY ?_));let a5:x≠w:=λz=>by rw[<-z,ak] at ab;cases ab
 let bu:x≠Q:=λz=>by rw[<-z,ak] at aj;cases aj
 let bz:i<σ...*:=by rw[I.len];exact(mN.mp hi).1
 let a9:jE i (σ.set i ↥(V.ref x)) (upd (upd H5 w (exO w C ↥Q)) Q (.xd [(f,v)])) λy bd=>y= .ref x/\bd=upd (upd H5 w (exO w C ↥Q)) Q (.xd [(f,v)]):=
  by unfold jE;rw[sU bz];exact⟨O,O⟩
 refine mC (pC (zVa (X:=X.mark (.ref x)) hi hv ce cc a s6 _ _ _ cp a9) (λu s7 ⟨y,bd,af,ry,ey,eH⟩=>?_) λ_ _ z=>False.elim z);subst ey eH;obtain rfl:u=Value.ref x:=ry;refine mC (rR (mY ?_));let bf:upd (upd H5 w (exO w C ↥Q)) Q (.xd [(f,v)]) w=Y (exO w C ↥Q):=by rw[zK (Ne.symm am),zC]
 let a7:upd (upd H5 w (exO w C ↥Q)) Q (.xd [(f,v)]) x=Y (exG x B d):=by rw[zK bu,zK a5];exact ak
 refine qD (zAg af bf) λve g0 h6 g1 g2=>?_;obtain⟨⟨ob,vh,b1,b2,b3,b4,b5⟩,_⟩:=af.hok x _ a7;refine{w,_,o,ob,oB,ve,vh,O,O,af.kIn _ _ lk,hX,af.kIn _ _ cm,bl,g0,O,O,h6,g1,a5,b1,b2,b4,b5,λh' ao c1 c2 c3 c4=>?_};let cg:Inv (X.mark (.ref x)) a (σ.set i ↥(V.ref x)) (upd (upd (upd H5 w (exO w C ↥Q)) Q (.xd [(f,v)])) w (exK w C ↥Q)) {s7 with heap:=h'}:=
  Inv.write (t':=s7.toks) af (e:=w) (by rw[bf];exact mS) (.inl O) (λb ob t e=>(c2 b t).trans e) ⟨_,c1⟩ (yCm c1 c3 c4)
 obtain⟨a1,h0⟩:∃a1,ao[0]? =Y a1:={_,pA.mpr {∅,O}};obtain⟨co,av⟩:∃a1,ao[2]? =Y a1:={_,pA.mpr {∅,O}};refine zYc (X:=X.mark (.ref x)) (φ:=φ) cg g hf hex (show _=Y (HO.ext _) from zC) ag c1 h0 c4 {co,av,hφ _} λT2 h4 an bj bg ah aw a6=>?_;rw[zRc ab am] at an ah;let cf:frs X.stack=X.env.locals::X.fs:=by
  rw[g];unfold frs;rw[pV,hf];rfl
 let nl:∀b,b∉frs X.stack->b≠X.env.locals:=λb t z=>t (by rw[cf,z];exact mE);let ap:(X.env.scope.kind== .class ||(X.env.scope.kind== .module && X.env.locals !=X.env.globals))=false:=by rw[I.ok.kind];rfl
 obtain⟨m,hn,_⟩:=an.loc;refine wpAny_nameGoes hl hn ap λh5 m' ci a'=>?_;let bq:=(an.unmark I.ok).wiped (t':=s7.toks+1) ci a';let ar:upd H5 Q (.xd [(f,v)]) w=none:=by rw[zK (Ne.symm am)];exact ab
 let br:=bj.same (nl _ aw) (nl _ a6) a';let bh:CXF φ X E [] (.ref w) {s7 with heap:=h5,toks:=s7.toks+1}:=CXF.of bq hex br ag bg ar ah aw a6 (q5 Q aj);unfold PySem.passOn;refine yK (bh.has) λa2 ct cw T3 ea L=>?_;ext oAA L y1 y2 y3;cases ea;refine mC (rJ y1 y2 y3 ?_);rw[mH (by intro z;cases z)];let az:(X.mark (.ref x)).Ok:=I.ok.mark;refine mC (thn (j6 (X:=X.mark (.ref x)) az g hf bh) λ_ s8 bi=>?_);refine wpAny_throw ?_;refine thn (k8 (X:=X.mark (.ref x)) az g hf bi O) λ_ s9 cb=>?_;exact n9 (X:=X) I.ok g hf cb λcy ch=>bk _ _ (l0 I.ok g hf ch)
end
end L2
namespace L2
open PySem PySem.Spec PyProof.Rows PySem.W
theorem yBz{P:V3}{w:V4}{K:PySem.W.Frag}{mg:C8}{base:V5}{k:Nat}{f:V1}{name d:Str}{i:Arguments}{m:List V6}{a:Scope}{dV kV aa pm h ct oc:V0}{an od:Option V1}
  {ag:Array (Option V0)} {N ps:C1} {sp:Sp} (lk:K.lookup f=Y {oc,od, .func (PySem.W.fnOf name d i m a dV kV aa pm an h ct),ag}) (ah:PySem.W.codeIn K h d=true) (S:wC N ps a)
  (len:∀p H Q E,sp p H Q E->p...*=ps...*)
  (D:∀(A:Around)(c:List S7)(s:V2)(H:Hp)(p:B3)(Q:VK)(E:XK),RoomH k (A.deeper (envOfC d a s⁻¹ f h))->sp p H Q E->
   ∃t,PSs (cxH P w K mg base N d a f h A c s H) m t/\t {nx:=λ_ B=>Q .non B,rt:=Q} (qS N p) H):
  zKv P w K mg base (k+1) f (PySem.W.fnOf name d i m a dV kV aa pm an h ct) ps sp:=by
 refine{len,λA c s H ai us p Q E hr j hb r ab=>?_};let hl:=len _ _ _ _ ab;let KX:K.In s.heap:=j.mod.kin.keeps λb o e=>(j.bs b o e).1;let ae:s.heap.NoLimit:=j.mod.nolimit.keeps λb o e=>(j.bs b o e).1;let L:∀y∈ps.zip us,a.names.lookup y.1=some .local\/(a.names.lookup y.1=some .cell/\((cellsFrom (s⁻¹+1) a.names []).lookup y.1).isSome=true):=fun⟨n,v⟩ hy=>by
  rcases S.par n (bH hy).1 with q | q
  ·exact .inl q
  ·exact .inr {q,PySem.W.cellsFrom_some _ _ _ (.inl q)}
 refine codeAny_call_function hr.depth (KX _ _ lk) O S.co S.gen O (PySem.W.codeRec_of KX ah) (hb _ _ _ _ ?_);refine wpAny_newFunctionEnv_cells S.kind L λaj he s1 x=>?_;subst he;refine{ae.keeps x.toInCall.keep,codeAny_func ?_};obtain⟨t,ht,hq⟩:=D A c s H p Q E (hr.deeper _) ab;let af:Env0 P w K mg base {A with handled:=none} c s H:=⟨j.frames,j.mod,j.bs,j.bsz,j.funs,j.frf,j.hok,j.bare⟩;let l:Inv (zBi CX0 P w K mg base N d a f h {A with handled:=none} c s H E0) [] (qS N p) H s1:=zFx S O af hl r x;let g:=l.ok;let I:Inv (cxH P w K mg base N d a f h A c s H) [] (qS N p) H s1:=
  {{g.mod,g.kind,g.glob,g.blt,g.above,g.inj,g.has,g.cab,(λz=>nomatch z),g.frames,g.stk,g.exf,g.bs,g.bsz,g.noex,g.exfs,g.funs,g.frf},l.os,l.bare,l.base,l.loc,l.cell,l.free,l.freeC,l.pin,l.hok,l.len}
 refine pC (ht [] s1 (qS N p) H _ I hq) (λfl s' M=>?_) λe s' M=>False.elim M;let ac:∀{σ':St}{B:Hp}{v:V}{u:V0},Inv (cxH P w K mg base N d a f h A c s H) [] σ' B s'->RelV v u->Q v B->CE c P w H s Q u s':=
  λ{σ' B v u} J rv q=>⟨v,B,J.os,J.bare,J.base,J.hok,rv,q⟩
 cases fl with
 |ret u=>
  ext zZ M v σ' B J rv q;exact ac J rv q
 |next=>
  ext wB M σ' B J q;exact ac (v:=V.non) (u:=Value.none) J O q
 |brk=>
  ext wB M _ _ _ q;exact False.elim q
 |cont=>
  ext wB M _ _ _ q;exact False.elim q
end L2
namespace L2
open PySem PySem.Spec PyProof.Rows PySem.W
section
variable{X:Cx}{B1 B2:V1}{bn1 bn2 n1 n2:Str}{i1 i2:Nat}{body su1 su2:List V6}{b1 b2:V6}{bp1 bp2 hp1 hp2 pos:Pos}{tb:XK->TS}{ts1 ts2:TS}{φ:V0->Prop}
end
end L2
namespace L2
open PySem PySem.Spec PyProof.Rows PySem.W
section
variable{X:Cx}{B1 B2:V1}{bn1 bn2 n1:Str}{i1:Nat}{body su1 su2:List V6}{b1 b2:V6}{bp1 bp2 hp1 hp2 pos:Pos}{tb:XK->TS}{ts1 ts2:TS}{φ:V0->Prop}
end
end L2
namespace L2
open PySem PySem.Spec PyProof.Rows PySem.W
section
variable{X:Cx}{B2:V1}{bn2:Str}{body su2:List V6}{b2:V6}{bp2 hp2 pos:Pos}{tb:XK->TS}{ts2:TS}{φ:V0->Prop}
def zNe(K:Frag)(B2:V1)(len:Nat)(ts2:TS)(D:gB):XK:=λC d b=>∃a,C= .ref a/\exmOne K (.ref a) (.ref B2)=Y true/\∀x,b x=none->ts2 D (List.replicate len none) (upd b x (exF x a d))
def zTb(K:Frag)(B2:V1)(len:Nat)(tb:XK->TS)(ts2:TS):TS:=λD σ H=>tb (zNe K B2 len ts2 D) D σ H
theorem zNg(au:X.calm=true)(al:Gl X bn2)(aq:X.mg bn2=Y (.ref B2))(A:X.stack=X.env::X.outer)(hf:X.env.frame=Y X.env.locals)(hex:X.ex= [])
  (i:∀a W E,gN (CXE φ X.prog X.w) (X.pend a W) E->PSs (X.pend a W) body (tb E)) (an:∀v,PSs (X.mark v) (b2::su2) ts2) (ao:(bn2==("__debug__" :Str))=false:=by decide):
  PS X (.Try body [.ExceptHandler ↥(.Name bn2 bp2) none (b2::su2) hp2] [] [] pos) (zTb X.K B2 X.N...* tb ts2):=by
 intro a s σ H D I h;refine wpAny_Try_except ?_;let J:=i a (λe s'=>∃k H1 l,Inv X a k H1 l/\CXE φ X.prog X.w X.stack H1 l (zNe X.K B2 X.N...* ts2 D) e s') (zNe X.K B2 X.N...* ts2 D)
  (λak k g l e s' I1 hx=>{k,g,l,I1.unpend I.ok,hx}) [] s σ H D I.pend h
 refine pC J (λf l q=>?_) λe l ⟨k,H0,s0,B,hx⟩=>?_
 ·cases f with
  |next=>obtain⟨k,g,I',q⟩:=q;exact tL {k,g,I'.unpend I.ok,q}
  |brk=>obtain⟨k,g,I',q⟩:=q;exact{k,g,I'.unpend I.ok,q}
  |cont=>obtain⟨k,g,I',q⟩:=q;exact{k,g,I'.unpend I.ok,q}
  |ret u=>obtain⟨v,k,g,I',r,q⟩:=q;exact{v,k,g,I'.unpend I.ok,r,q}
 obtain⟨x,T,C,d,a0,g,rfl,os,w,un,Q,t,ae,aa,av,fl,Ca,rfl,ap,q⟩:=hx;let I2:Inv X a k g l:=B.call' os un Q w (λb z=>absurd z (by simp));let aj:∀b,s0.heap.get? b=none->b∉frs X.stack:=λb i z=>by
  obtain⟨o,e,_⟩:=kA B.stack b z;rw[i] at e;cases e
 let ah:=B.ok.frames;let nx:=aj x t;let nT:=aj T ae;let st:=I2.stack;rw[A] at ah;let ag:=nx;let ab:=nT;rw[A] at ag ab st;refine zIf ah st hf ag ab fl λh1 L f1 k1 n1=>?_;refine vM f1 λh2 f2 k2=>?_;rw[<-A] at k1;let af:g L=none:=by
  cases e:g L with
  |none=>rfl|some o=>
   obtain⟨ob,ac⟩:=i4 (I2.hok L o e);rw[n1] at ac;cases ac
 let ai:s0.heap.get? L=none:=by
  cases e:s0.heap.get? L with
  |none=>rfl|some o=>
   obtain⟨o',e'⟩:=un.there L o e (λz=>nomatch z);rw[n1] at e';cases e'
 let k3:Kp (frs X.stack) [x,T,L] l.heap h2:=k1.trans (wO k2 λb i=>nomatch i) λc hc=>by
  rcases hc with z | z
  ·rcases mG.mp z with z | z
   ·rw[z];simp
   ·rw[mF.mp z];simp
  ·rw[mF.mp z.1];simp
 let n:∀b∈ [x,T,L],s0.heap.get? b=none/\g b=none:=λb i=>by
  rcases mG.mp i with z | z
  ·rw[z];exact⟨t,aa⟩
  ·rcases mG.mp z with z | z
   ·rw[z];exact⟨ae,av⟩
   ·rw[mF.mp z];exact⟨ai,af⟩
 let I3:Inv X a k g {l with heap:=h2}:=B.call' (s':={l with heap:=h2}) os (zAu un k3 λb i=>(n b i).1) (kF Q k3 I2.stkFree λb i=>(n b i).2) w (λb z=>absurd z (by simp));let LT:Looks (S5 X.prog X.w) h2 (typeOf (.ref x)) (.ref Ca):=by
  obtain⟨oe,vs,oT,ar,e1,e2,_⟩:=f2;exact e2▸(Looks.ld e1).andThen .now
 refine wpAny_handleBy_cons (codeAny_handlers_test ?_) (by intro z;cases z);refine qO (X:=X.mark (.ref x)) (I3.mark) al aq ?_ ao;refine exm_one (M:=S5 X.prog X.w) I3.kIn LT ap _ _ _ {l with heap:=h2} (λ_ _ e=>e) ?_;refine codeAny_handlers_suite ?_;refine vM f2 λh3 f3 k4=>?_;let k5:Kp (frs X.stack) [x,T,L] l.heap h3:=k3.trans (wO k4 λb i=>nomatch i) λc hc=>by
  rcases hc with z | z
  ·exact z
  ·rw[mF.mp z.1];simp
 let I4:Inv X a k g {l with heap:=h3}:=B.call' (s':={l with heap:=h3}) os (zAu un k5 λb i=>(n b i).1) (kF Q k5 I2.stkFree λb i=>(n b i).2) w (λb z=>absurd z (by simp));let am:X.s₀.heap.get? x=none:=by
  cases e:X.s₀.heap.get? x with
  |none=>rfl|some o=>
   obtain⟨o',e'⟩:=B.base.there x o e (by rw[hex];exact λz=>nomatch z);rw[t] at e';cases e'
 obtain⟨oe,vs,oT,ar,e1,e2,e3,e4,_⟩:=f3;let I5:Inv X a k (upd g x (exF x Ca d)) {l with heap:=h3}:=by
  refine I4.track aa am (λz=>?_) (λy c e z=>?_) (λp hp z=>?_) (yBv e1 e2 e3 e4)
  ·obtain⟨m,⟨o,_,_,N,_⟩,_⟩:=B.loc
   rw[<-z,t] at N;cases N
  ·obtain⟨v,o,N,_⟩:=B.cell y c e
   rw[z,t] at N;cases N
  ·let N:=(B.pin p hp).1
   rw[z,t] at N;cases N
 let I6:Inv X a (List.replicate X.N...* none) (upd g x (exF x Ca d)) {l with heap:=h3}:=I5.weak (by rw[rN,I5.len]) λj v' e=>by
  rw[aQ] at e;split at e<;>cases e
 refine pC (an (.ref x) a _ _ _ D I6.mark (q x aa)) (λf s5 z=>?_) λ_ _ z=>False.elim z
 cases f with
 |next=>obtain⟨σ5,H5,I8,q5⟩:=z;exact{_,H5,I8.unmark I.ok,q5}
 |brk=>obtain⟨σ5,H5,I8,q5⟩:=z;exact{_,H5,I8.unmark I.ok,q5}
 |cont=>obtain⟨σ5,H5,I8,q5⟩:=z;exact{_,H5,I8.unmark I.ok,q5}
 |ret u=>obtain⟨v,σ5,H5,I8,r5,q5⟩:=z;exact{v,_,H5,I8.unmark I.ok,r5,q5}
end
end L2
namespace PySem.W
open PySem PySem.Calls PyProof.Rows PyProof.V PySem.Spec
theorem zLo:typeLookup (.type "list_reverseiterator") "__len__" =pure none:=by rw[typeLookup_type,builtinLookup_eq_fast];kernel_rfl
theorem zJf:typeLookup (.type "list_reverseiterator") "__length_hint__" =pure ↥(.builtin "list_reverseiterator.__length_hint__"):=by rw[typeLookup_type,builtinLookup_eq_fast];kernel_rfl
section
variable{prog:V3}{w:V4}{A:Around}{E:C9}{s:V2}{r l:V1}{items:Array V0}
theorem zSs{Q:Bool->V2->Prop}(d:s.TypeIs (.ref r) "list_reverseiterator")(h:Q false s):V8 (S5 prog w) A (Builtin.List.listLengthHint (.ref r)) Q E s:=by
 unfold Builtin.List.listLengthHint;refine wpAny_bind (wpAny_specialOf d zLo ?_);refine wpAny_ite_split (λa=>absurd a ∎) (λ_=>?_);refine wpAny_ite_split (λa=>absurd a ∎) (λ_=>?_);refine wpAny_bind (wpAny_specialOf d zJf ?_);generalize hid:("list_reverseiterator.__length_hint__" :String)=c
 wp_delta
 rw[show splitId c=Y ("list_reverseiterator","__length_hint__") from by subst hid;decide+kernel];subst hid;refine wpAny_bind (wpAny_isInstance (T:="list_reverseiterator") (b:=true) d (by rw[isSubtype_type];kernel_rfl) ?_);refine wpAny_ite_split (λa=>absurd a ∎) (λ_=>?_);refine wpAny_ite_split (λ_=>?_) (λa=>absurd (by decide+kernel) a);refine wpAny_ite_split (λa=>absurd a (by decide+kernel)) (λ_=>?_);exact wpAny_pure h
abbrev zXs(items:Array V0):Nat->V0->Prop:=λi v=>items[items.size - 1 - i]? =Y v
theorem zMe{R:Result->V2->Prop}(hh:A.handled=none)(n:s.heap.IsRevIter r l ((items.size:Int)- 1))(hl:s.heap.IsList l items)(N:l≠r)(S:V1)(d:S≠r)(p:S≠l)(c:V0)(Q:Nat)(J:s.heap.get? S=some {cls:=.type "list",data:=.seq #[] Q})
  (hR:∀h' t a i,(∀b o,b≠S->b≠r->s.heap.get? b=Y o->h'.get? b=Y o)->h'.get? S=some {cls:=.type "list",dict:=none,data:=.seq a i,slots:=#[]}->ItemsOf (zXs items) a items.size->R (.ok (.ret c)) {s with heap:=h',toks:=t}) (hn:items.size<=V9):
  V8 (S5 prog w) A.in1 (Builtin.List.listExtendWith (.ref S) (.ref r) c)
   (λL s'=>match L with | .done f=>R (.ok f) s' | .again i=>i.quiet=true/\codeAny (S5 prog w) A i R s') (λe s'=>R (.error e) s') s:=by
 let u:S∉ [r,l]:=by simp only[List.mem_cons,List.not_mem_nil,or_false,not_or];exact⟨d,p⟩
 let W:=Walks.listRev (prog:=prog) (w:=w) (A:=A.in1) hh r l N items;let M:∀h:V5,h.IsRevIter r l ((items.size:Int)- 1)->h.IsRevIter r l ((items.size:Int)- 1 - ((0:Nat):Int)):=λh z=>by
  let e:(items.size:Int)- 1 - ((0:Nat):Int)=(items.size:Int)- 1:=by lia
  rw[e];exact z
 let j:∀(h:V5)(D t:Nat),h.IsRevIter r l ((items.size:Int)- 1)->h.IsList l items->(∀b o,b≠S->s.heap.get? b=Y o->h.get? b=Y o)->
   h.get? S=some {cls:=.type "list",data:=.seq #[] D}->codeAny (S5 prog w) A (.builtin "list.extend.loop" {[.ref S, .ref r,c],[]}) R {s with heap:=h,toks:=t}:=by
  intro h D t I v hk y;refine codeAny_extend_loopS W.toS hn S u c items.size 0 _ #[] D O (Nat.zero_le _) {Nat.zero_le _,M _ I,v} y (ItemsOf.nil _) λs' a i hm x k=>?_;rw[Moved.eq_with hm];refine hR s'.heap s'.toks a i (λb o m B e=>hm.heap b o (λhmem=>?_) (hk b o m e)) x k;rcases List.mem_cons.mp hmem with e' | hmem
  ·exact m e'
  ·exact B (List.mem_singleton.mp hmem)
 unfold Builtin.List.listExtendWith;refine wpAny_bind (wpAny_typeOf (T:="list_reverseiterator") n.typeIs ?_);let h1:Builtin.List.listSameRef (.ref S) (.ref r)=false:=by simp[Builtin.List.listSameRef,d]
 let h2:(Value.type "list_reverseiterator" ==Value.type "list")=false:=by decide
 let h3:(Value.type "list_reverseiterator" ==Value.type "tuple")=false:=by decide
 simp only[h1,h2,h3,Bool.or_false,Bool.false_eq_true,if_false];refine wpAny_bind (wpAny_pyIter_revIter n ?_);refine wpAny_bind (wpAny_holding (zSs n.typeIs ?_));refine wpAny_ite_split (λ_=>?_) (λ_=>wpAny_pure {plainId_quiet PySem.F.plain_extend_loop _,j _ Q _ n hl (λb o _ e=>e) J});refine wpAny_bind (wpAny_rule ?_);refine wpAny_bind ?_;show V8 _ _ (updateSeq S (·.push .none)>>=λ_=>updateSeq S (·.pop)) _ _ _;refine wpAny_bind (wpAny_updateSeq J O ?_);let q:=Heap.get?_update_self (Obj.mapSeq (·.push Value.none)) J O;refine wpAny_updateSeq (hz:=by seq_fits) q O ?_;let H:=Heap.get?_update_self (Obj.mapSeq (·.pop)) q O;let g:∀b o,b≠S->s.heap.get? b=Y o->_:=λb o m e=>(Heap.get?_update_other _ (Obj.mapSeq (·.pop)) (Ne.symm m)).trans ((Heap.get?_update_other _ (Obj.mapSeq (·.push Value.none)) (Ne.symm m)).trans e);exact wpAny_pure ⟨plainId_quiet PySem.F.plain_extend_loop _,j _ _ _ (n.at λo e=>g r o (Ne.symm d) e) (hl.at λo e=>g l o (Ne.symm p) e) g H⟩
theorem zWh{R:Result->V2->Prop}(x:A.handled=none)(z:s.heap.IsRevIter r l ((items.size:Int)- 1))(y:s.heap.IsList l items)(u:l≠r)(S:V1)(h:S≠r)(g:S≠l)(q:s.heap.get? S=some {cls:=.type "list",data:=.seq #[]})
  (D:∀j n a d,(∀b o,b≠S->b≠r->s.heap.get? b=Y o->j.get? b=Y o)->j.get? S=some {cls:=.type "list",dict:=none,data:=.seq a d,slots:=#[]}->ItemsOf (zXs items) a items.size->R (.ok (.ret .none)) {s with heap:=j,toks:=n}) (B:items.size<=V9):
  V8 (S5 prog w) A.in1 (Builtin.«list.__init__» {[.ref S, .ref r],[]})
   (λt s'=>match t with | .done f=>R (.ok f) s' | .again d=>d.quiet=true/\codeAny (S5 prog w) A d R s') (λe s'=>R (.error e) s') s:=by
 show V8 _ _ (do let old <-Builtin.List.listItems (.ref S);Builtin.List.listUpdate (.ref S) (λ_=>#[]);letGo old.toList.reverse;Builtin.List.listExtendWith (.ref S) (.ref r) .none) _ _ s;refine wpAny_bind ?_;unfold Builtin.List.listItems;refine wpAny_bind (wpAny_seqItems q O (wpAny_pure ?_));show V8 _ _ (updateSeq S (λ_=>#[])>>=λ_=>letGo (#[]:Array V0).toList.reverse>>=λ_=>Builtin.List.listExtendWith (.ref S) (.ref r) .none) _ _ s;refine wpAny_bind (wpAny_updateSeq q O ?_);let p:=Heap.get?_update_self (Obj.mapSeq (λ_=>(#[]:Array V0))) q O;let c:∀b o,b≠S->s.heap.get? b=Y o->(s.heap.update S (Obj.mapSeq (λ_=>(#[]:Array V0)))).get? b=Y o:=
  λb o k e=>(Heap.get?_update_other _ _ (Ne.symm k)).trans e
 refine wpAny_bind (wpAny_letGo ?_);refine zMe x (z.at λo e=>c r o (Ne.symm h) e) (y.at λo e=>c l o (Ne.symm g) e) u S h g .none _ p (λj n a d H v i=>?_) B;exact D j n a d (λb o k m e=>H b o k m (c b o k e)) v i
theorem zVt{Q:C9}(y:A.handled=none)(p:s.heap.IsRevIter r l ((items.size:Int)- 1))(n:s.heap.IsList l items)(j:l≠r)(z:items.size<=V9)
  (v:∀c h a g,(∀b o,b≠r->s.heap.get? b=Y o->c.get? b=Y o)->c.get? s⁻¹=some {cls:=.type "list",dict:=none,data:=.seq a g,slots:=#[]}->ItemsOf (zXs items) a items.size->Q (.ref s⁻¹) {s with heap:=c,toks:=h}):
  V8 (S5 prog w) A (call (.type "list") [.ref r]) Q E s:=by
 refine callType_codes (Q₁:=λf m=>f= .ref s⁻¹/\m={s with heap:=s.heap.push {cls:=.type "list",data:=.seq #[]}}) PySem.F.called_list (PySem.F.typeCall_list_1 _) PySem.F.entry_list_init
  (code_list_new _ ⟨O,O⟩) λf m u=>?_
 obtain⟨rfl,rfl⟩:=u;let q:(s.heap.push {cls:=.type "list",data:=.seq #[]}).get? s⁻¹=some {cls:=.type "list",data:=.seq #[]}:=Heap.get?_push_size _ O;let t:r<s⁻¹:=by obtain⟨o,i,_⟩:=p;exact Heap.lt_size i
 let x:l<s⁻¹:=by obtain⟨o,i,_⟩:=n;exact Heap.lt_size i
 refine{⟨_,q,O⟩,PySem.F.args_list_init_2 _ _,zWh (A:=A.in1) y (p.at λo e=>Heap.get?_push_of_some _ e) (n.at λo e=>Heap.get?_push_of_some _ e) j _ (Nat.ne_of_gt t) (Nat.ne_of_gt x) q (λc h a g B k d=>?_) z};exact{O,v c h a g (λb o D e=>B b o (Nat.ne_of_lt (Heap.lt_size e)) D (Heap.get?_push_of_some _ e)) k d}
end
end PySem.W
namespace L2
open PySem PySem.Spec PyProof.Rows PySem.W
theorem zJr:A1 "reversed" =Y (.type "reversed"):=by decide+kernel
theorem zQa{us:B7}{acc:Array V0}(h:ItemsOf (zXs us.toArray) acc us.toArray.size):acc.toList=us.reverse:=by
 let c:acc.toList...*=us...*:=by rw[tI,h.1];simp
 refine List.ext_getElem? λi=>?_
 by_cases b:i<us...*
 ·let e:acc.toList[i]? =Y (acc.toList[i]'∅):=mU ∅
  let z:=h.2 i _ (by rw[<-sE];exact e);rw[e,List.getElem?_reverse b];let a:us.toArray[us.toArray.size - 1 - i]? =Y _:=z
  simpa using a.symm
 ·rw[sF ∅,sF (by rw[bT];lia)]
def tLrev(K:PySem.W.Frag)(ta:TE):TE:=λσ H Q=>ta σ H λx a=>∃l b,x= .ref l/\SqL K a l b/\∀p,a p=none->Q (.ref p) (upd a p (.lst b.reverse))
theorem zLq{X:Cx}{a:Expr}{ta:TE}{p A r c:Pos}(hc:X.calm=true)(hg:Gl X "list")(hm:X.mg "list" =none)(n:Gl X "reversed")(m:X.mg "reversed" =none)(ha:PE X a ta)
  (D:A2 [a] X.env= [(false,eval a X.env)]:=by rfl) (i:A2 [.Call (.Name "reversed" A) [a] [] c] X.env= [(false,eval (.Call (.Name "reversed" A) [a] [] c) X.env)]:=by rfl):
  PE X (.Call (.Name "list" p) [.Call (.Name "reversed" A) [a] [] c] [] r) (tLrev X.K ta):=by
 intro d s σ H Q I h;refine rF (gJ I hg hm xZ ?_);refine rC ?_ i O;rw[i];refine aI (Q:=?_) ?_;refine rF (gJ I n m zJr ?_);refine rC ?_ D O;rw[D];refine aI (thn (ha d s σ H _ I h) λv f ⟨x,w,j,N,l,ys,e,hq,q⟩=>aT ?_);subst e;cases N;refine yX (j.list hq) λg J pl hz=>?_;let y:=pl.isList;refine call_reversed_list y (aT ?_);let aa:=J...*;let t:w f⁻¹=none:=j.hok.fresh (mD _);let ll:l<f⁻¹:=by obtain⟨o,ho,_⟩:=y;exact mQ ho
 let E:Inv X d σ w {f with heap:=f.heap.push (revObj l ((g.toArray.size:Int)- 1))}:=j.kept (t':=f.toks) λb o e=>mL _ e;let fp:=j.fpOk (mD _) t;refine zVt (items:=g.toArray) (l:=l) (I.ok.hd hc) {_,nI _ O,O,O} (y.at λo e=>mL _ e) (nN ll) (by rw[mT];lia) λh' M B L hk k hi=>?_;refine{.ref _,upd w _ (.lst ys.reverse),E.turnedNew (t':=M) (fp:=[f⁻¹]) (λb u=>?_) (λb o u e=>hk b o (λz=>u (by rw[z];exact mF.mpr rfl)) e) (mD _) {by rw[bT];exact hz,B.toList,L, ?_,by simpa using k},O,q _ (E.hok.fresh (mD _))}
 ·rw[mF.mp u];exact fp
 ·rw[zQa hi];exact J.reverse
end L2
namespace L2
open PySem PySem.Spec PyProof.Rows PySem.W
section
variable{X:Cx}{scope:Scope}{own:C1}{F:D4}{elt tg iter:Expr}{ifs:C5}{pos:Pos}{wi:TI}{g:TG}{tt:TT}{te:TE}{E:XK}{φ:V0->Prop}
theorem zUr{i:Nat}{x:Str}{c f:Pos}(hN:X.N.Nodup)(n:X.N[i]? =Y x)(y:Loc X.env.scope x)(S:CompSc X scope own F)(hc:X.calm=true)(hi:PI X tg iter wi)
  (M:∀C s₃ H₃ ex,PG (yT X own F scope C s₃ H₃ ex) tg g) (ht:∀C s₃ H₃ ex,PTs (yT X own F scope C s₃ H₃ ex) ifs tt) (he:∀C s₃ H₃ ex b W,gN (CXE φ X.prog X.w) ((yT X own F scope C s₃ H₃ ex).pend b W) (xUp E)->PE ((yT X own F scope C s₃ H₃ ex).pend b W) elt te) (l:Lvs φ X E)
  (w:S1 (.ListComp elt [{tg,iter,ifs,0}] scope pos) ↥(.Name x c) f.line X.env=pure true:=by rfl)
  (hs:∀x,foldedSetIterable iter X.env x=pure x:=by intro _;rfl) (hf:X.fn x=true\/X.env.scope.names.lookup x=some .local:=by first | exact .inl O | exact .inr O | assumption):
  PS X (.Assign [.Name x c] (.ListComp elt [{tg,iter,ifs,0}] scope pos) f) (zLx (zFb own F wi g tt te) (qU i)):=by
 intro b s σ H D I h;rw[exec_Assign_Name_used x c _ _ w];refine mC (rR (mC ?_));refine mC ?_;refine pC (Q:=λ_ d=>SP X b D .next d) ?_ (λ_ d q=>mY (mY q)) λ_ _ z=>z;refine aL (use:=Y (assign (.Name x c) X.env)) O hs (jO (I.freeCells S)) S.kind S.lc ?_;refine thn (hi b s σ H _ I h) λv s1 N=>thn N λaa o ⟨it,fp,tn,J,H2,e,j,T,k,f2,q2⟩=>?_;subst e;refine thn (zQq (Q:=λx H1=>qU i x σ H1 D.nx) (RR:=λC r d=>compPost (S5 X.prog X.w) X.A X.xe ↥(assign (.Name x c) X.env) (λ_ d=>SP X b D .next d) (.ref o⁻¹) C r d) S hc M ht he l j T k f2 q2 (λC B L p c2 I4 q4 n4 hm=>?_) (λC e d y=>zTp (Q:=λ_ d=>SP X b D .next d) (acc:=.ref o⁻¹) I.ok l y)) λab s3 h3=>thn h3 λA B h4=>rX h4 λr d ⟨ea,hr⟩=>?_
 ·obtain⟨m,hn⟩:=hm
  refine cF (zCq I4 hN n y (v:=.ref o⁻¹) O (λs5 I5 ⟨a,sb,ha⟩=>?_) hf);let aC:a≠C:=by
   rcases ha with z | z
   ·rw[z];exact nN (nF j.lt p)
   ·obtain⟨v,u⟩:=j.cell _ _ z
    exact nN (nF u.lt p)
  exact{m,hn.sameBut sb (Ne.symm aC),λh' t=>{_,L,zAj j p I5 n4 t,q4}}
 ·rw[ea];exact hr
end
end L2
namespace L2
open PySem PySem.Spec PyProof.Rows
theorem pX{X:Cx}{a b:Expr}{ta tb:TE}{c:Pos}{r:R2}(g:IxR X r)(f:PE X a ta)(e:PE X b tb)(d:zPf b:=by intro _ _;rfl):PE X (.Subscript a b c) (tOp r ta tb):=pe_ix g f e d
theorem pE{X:Cx}{a b:Expr}{ta tb:TE}{d:Pos}{c:CmpOp}{r:R2}(f:OpR X (A3 c) r)(i:PE X a ta)(g:PE X b tb)(h:c≠ .In:=by decide)(e:c≠ .NotIn:=by decide):PE X (.Compare a [c] [b] d) (tOp r ta tb):=zHd f i g (zWo _ h e)
theorem pT{X:Cx}{a b:Expr}{ta tb:TE}{d:Pos}{c:CmpOp}{r:R2}(f:OpR X (A3 c) r)(i:PE X a ta)(g:PE X b tb)(h:c≠ .In:=by decide)(e:c≠ .NotIn:=by decide):PT X (.Compare a [c] [b] d) (zLh (tOp r ta tb)):=zYw f i g (zWo _ h e)
end L2
namespace L2
open PySem PySem.Spec PyProof.Rows
theorem pS{X:Cx}{b a:Pos}{x:Str}{e:Expr}{c:TE}(i:Nat)(k:X.N.Nodup)(d:PE X e c)(h:X.N[i]? =Y x:=by rfl)(f:Loc X.env.scope x:=by exact nR O)(j:S1 e ↥(.Name x a) b.line X.env=pure false:=by rfl)(g:X.fn x=true\/X.env.scope.names.lookup x=some .local:=by first | exact .inl O | exact .inr O | assumption):PS X (.Assign [.Name x a] e b) (zLx c (qU i)):=zCm k h f d j g
theorem pD{X:Cx}{k j:Nat}{x:Str}{ps:C1}{sp:Sp}{e:Expr}{b:C5}{t:TA}{p a:Pos}(D:Dn X.prog X.w X.K X.mg X.base k x ps sp)(l:Room j X.A)(i:PA X (e::b) t)(h:k<=j:=by first | decide | lia)(g:Gl X x:=by rfl)(c:(x==("__debug__" :Str))=false:=by decide)
  (f:A2 (e::b) X.env=(false,eval e X.env)::A2 b X.env:=by rfl) (d:(S2 a (A2 b X.env)).any (·.1)=false:=by rfl):PE X (.Call (.Name x p) (e::b) [] a) (jY sp [] E0 t):=pe_cd D l h g i c f d
theorem pI{X:Cx}{a x:Str}{T:String}{e:Expr}{g:TE}{p c b:Pos}(o:X.mg a=none)(r:A1 a=Y (.builtin "isinstance"))(l:X.mg x=none)(s:A1 x=Y (.type T))(q:PE X e g)(i:T∈tyL:=by decide)(m:Gl X a:=by rfl)(g2:Gl X x:=by rfl)(f:a≠ "__name__":=by decide)(d:(a==("__debug__" :Str))=false:=by decide)(n:x≠ "__name__":=by decide)(k:(x==("__debug__" :Str))=false:=by decide)
  (h:A2 [e, .Name x c] X.env=(false,eval e X.env)::A2 [.Name x c] X.env:=by rfl) (j:(S2 b (A2 [.Name x c] X.env)).any (·.1)=false:=by rfl):PE X (.Call (.Name a p) [e, .Name x c] [] b) (tCB (λxs H Q=>∃x t,xs= [x, .ty T]/\tyS H x=Y t/\Q (.bl (zT t T)) H) (vA g (vA (tC (.ty T)) zBe))):=
 zN (zEt i) m o r (zA q (zA (wY (v:=.ty T) g2 l s O n k) zB) h) f d h j
theorem len1{α:Type}{us:List α}(h:us...*=1):∃a,us= [a]:=
 match us,h with|[a],_=>⟨a,O⟩
theorem len2{α:Type}{us:List α}(h:us...*=2):∃a b,us= [a,b]:=
 match us,h with|[a,b],_=>⟨a,b,O⟩
theorem len3{α:Type}{us:List α}(h:us...*=3):∃a b c,us= [a,b,c]:=
 match us,h with|[a,b,c],_=>⟨a,b,c,O⟩
theorem len4{α:Type}{us:List α}(h:us...*=4):∃a b c d,us= [a,b,c,d]:=
 match us,h with|[a,b,c,d],_=>⟨a,b,c,d,O⟩
end L2
section
open PySem L2
local macro_rules | `(tactic| walk_at "b") => `(tactic| (intro _ F; refine F.binds ?_; intro _ _ _ _ _ _ us hl; first | (obtain ⟨_,e⟩ := len1 hl; subst e; rfl) | (obtain ⟨_,_,e⟩ := len2 hl; subst e; rfl) | (obtain ⟨_,_,_,e⟩ := len3 hl; subst e; rfl) | (obtain ⟨_,_,_,_,e⟩ := len4 hl; subst e; rfl) | (cases List.eq_nil_of_length_eq_zero hl; rfl)))
local macro_rules | `(tactic| walk_at "ln") => `(tactic| (intro vs H Q E h; repeat (first | (obtain ⟨e,_⟩ := h; subst e; rfl) | (obtain ⟨_,h⟩ := h))))
local macro_rules|`(tactic|walk_at "rd3")=>let a:Array Lean.Term:=(("zTf zIm zXr yEg tIsT zZp zFd yDl zUh zSh zUd yAn zUy zGy zTx zFb jP zTs zLx qU zFi yAl yBs zRq tOp tUn jE tC jY vA zBe zLh tB yBa tOr yBc zWe yBi yAd tIf tCB tBM zFb zCz zSp zHl tSl zIl yCh zRv zTd yCf zWs zMx zMi rI0 rI rU rEq rNe zTr yCa zSw yBn yCb CMul yDh zYz List.getElem?_cons_zero List.getElem?_cons_succ List.set_cons_zero List.set_cons_succ List.map_cons List.map_nil List.length_cons List.length_nil Nat.reduceAdd Option.join_some Option.join_none".splitOn " ").map fun n=>⟨Lean.mkIdent n.toName⟩).toArray;`(tactic|first|(dsimp only [$[$a:term],*];try walk_at "rd3s")|walk_at "rd3s")
local macro_rules|`(tactic|walk_at "rd3s")=>let a:Array Lean.Term:=(("zTf zIm zXr yEg tIsT zZp zFd yDl zUh zSh zUd yAn zUy zGy zTx zFb yBl nox_K zTy jP zTs zLx qU zFi yAl yBs zRq tOp tUn jE tC jY vA zBe zLh tB yBa tOr yBc zWe yBi yAd tIf tCB tBM zFb zCz zSp zHl tSl zIl yCh zRv zTd yCf zXe zWs zMx zMi rI0 rI rU rEq rNe zTr yCa zSw yBn yCb CMul yDh zYz List.append_nil List.getElem?_cons_zero List.getElem?_cons_succ List.set_cons_zero List.set_cons_succ List.map_cons List.map_nil List.length_cons List.length_nil sizeLine_eq Nat.reduceAdd Nat.reduceLeDiff Option.join_some Option.join_none Option.some.injEq V.int.injEq V.str.injEq V.bl.injEq V.ref.injEq V.ty.injEq List.cons.injEq and_true true_and and_self exists_eq_left' exists_eq_left exists_and_left exists_and_right decide_eq_true_eq Bool.not_eq_eq_eq_not Bool.not_true Bool.not_false decide_eq_false_iff_not Int.reduceLT Int.reduceLE Int.reduceNeg Int.reducePow Int.reduceAdd Int.reduceSub Int.reduceMul Int.reduceToNat zRw Nat.reduceLT Nat.reducePow or_true true_or if_true if_false Bool.false_eq_true ite_true ite_false reduceCtorEq".splitOn " ").map fun n=>⟨Lean.mkIdent n.toName⟩).toArray;`(tactic|simp only [$[$a:term],*])
local macro_rules | `(tactic| walk_at "sc") => `(tactic| exact ⟨rfl,rfl,rfl,by decide +kernel,rfl,by decide +kernel,by decide +kernel⟩)
local macro_rules | `(tactic| walk_at "st") => `(tactic| simp only [qS,List.map_cons,List.map_nil,List.length_cons,List.length_nil,Nat.reduceAdd,Nat.reduceSub,List.replicate_succ,List.replicate_zero,List.cons_append,List.nil_append])
local macro_rules | `(tactic| walk_at "wu") => `(tactic| with_unfolding_all rfl)
namespace K47
open PySem L2
section
variable{P:V3}{w:V4}{K:A6}{mg:C8}{base:V5}{x qual:Str}{st:V6}{f:V1}{fd:V7}{N ps:C1}{k:Nat}{sp:Sp}
theorem _root_.L2.Fun.okn(F:Fun K x qual st f fd)
  (j:∀(cdv:V0)(A:Around)(outer:List S7)(s:V2)(H:Hp)(vs:B3)(Q:VK)(E:XK),N.Nodup->Room k (A.deeper (PyProof.Rows.envOfC qual (zW st) s⁻¹ f cdv))->sp vs H Q E->
   ∃t,PSs (zBi CX0 P w K mg base N qual (zW st) f cdv A outer s H E).nox (xD st) t/\t {nx:=λ_ H'=>Q .non H',rt:=Q} (qS N vs) H) (S:wC N ps (zW st):=by walk_at "sc") (len:∀vs H Q E,sp vs H Q E->vs...*=ps...*:=by walk_at "ln"):FnOk P w K mg base CX0 (k+1) f fd ps sp:=F.ok S len λa b c d e g h i=>j a b c d e g h i S.nd
theorem _root_.L2.Fun.okxn{φ:V0->Prop}(F:Fun K x qual st f fd)
  (j:∀(cdv:V0)(A:Around)(outer:List S7)(s:V2)(H:Hp)(vs:B3)(Q:VK)(E:XK),N.Nodup->Room k (A.deeper (PyProof.Rows.envOfC qual (zW st) s⁻¹ f cdv))->sp vs H Q E->
   ∃t,PSs (zBi (CXE φ P w) P w K mg base N qual (zW st) f cdv A outer s H E) (xD st) t/\t {nx:=λ_ H'=>Q .non H',rt:=Q} (qS N vs) H) (S:wC N ps (zW st):=by walk_at "sc") (len:∀vs H Q E,sp vs H Q E->vs...*=ps...*:=by walk_at "ln"):FnOk P w K mg base (CXE φ P w) (k+1) f fd ps sp:=F.okx S len λa b c d e g h i=>j a b c d e g h i S.nd
end
seal L2.PSs L2.PS L2.PE L2.PT L2.PW L2.PA L2.PI L2.PG L2.PGs L2.PPs L2.PTs
def top(i:Nat):V6:=PySem.Challenge.pw_cabinet_k47_whole_apart_turns.main.body.getD i (.Pass {0,0,0,0})
abbrev yAq:V6:=top 52
abbrev sNum:V6:=top 56
noncomputable def xM(a:List Int)(k:Int):Int:=
 let m:=if a= [] then k*7919 else(k*7919+k / a...**104729+a.getD (k % a...*).toNat 0*48271)% 1000003
 (m*m / 11+13*m)% 1000003
theorem wR(a:List Int)(k:Int):0<=xM a k:=rW _ ∎
theorem wV(a:List Int)(k:Int):xM a k<1000003:=rP _ ∎
def gL(K:A6):Sp:=λd H Q _=>∃(a:V1)(b:List Int)(k:Int),d= [.ref a, .int k]/\SqL K H a (b.map V.int)/\b...*<=63/\0<=k/\k<1000000/\∀c,Same H c->Q (.int (xM b k)) c
theorem vF{K:A6}{H:Hp}{Q:VK}{E:XK}{a:V1}{b:List Int}{k:Int}(d:SqL K H a (b.map V.int))(c:b...*<=63)(f:0<=k)(e:k<1000000)(q:∀H',Same H H'->Q (.int (xM b k)) H'):
  gL K [.ref a, .int k] H Q E:=⟨a,b,k,O,d,c,f,e,q⟩
section
variable{P:V3}{w:V4}{K:A6}{mg:C8}{base:V5}{f:V1}{fd:V7}
theorem zZh(F:Fun K "_law_cell" "_law_cell" yAq f fd)(B:Bl mg):FnOk P w K mg base CX0 1 f fd ["_law_script","_law_k"] (gL K):=by
 refine F.okn (N:=["_law_script","_law_k","_law_more"]) λL A r s H vs Q E m y h=>?_;ext zZ h a b k j J x;ext xI x I h0 M q;subst j;let n:=y.units0;refine{_,(zD (pS 2 m (zH qY (pv 1) zE))
  (zD (zU (pT (zXf n) (pv 0) (yJ zB)) (zD (pS 2 m (zH xH (pv 2) (zH qY (zH yF (pv 1) (zN yA O B.len yR (zA (pv 0) zB))) zE)))
  (zG (pS 2 m (zH yE (zH xH (pv 2) (zH qY (pX zS (pv 0) (zH yE (pv 1) (zN yA O B.len yR (zA (pv 0) zB)))) zE)) zE)))) zL)
  (zG (zI (zH yE (zH xH (zH yF (zH qY (pv 2) (pv 2)) zE) (zH qY zE (pv 2))) zE))))), ?_}
 walk_at "st";lk;intro p t;let c:=(zF t (.lst [])).seq J;refine yDw c (SqL.of zC) (zPv b) O {_,O, ?_};rw[zUf]
 by_cases i:b= []
 ·subst i
  refine zPy {.inl ∅, ?_};exact q _ (zF t _)
 ·let u:0<b...*:=List.length_pos_iff.mpr i
  let v:(b.map V.int).isEmpty=false:=by cases b with | nil=>exact absurd O i | cons _ _=>rfl
  rw[mJ O,v];let g:(b.map V.int)...*=b...*:=mM _;let l:0<=k % (b...*:Int):=rW _ ∅;let o:k % (b...*:Int)<b...*:=rP _ ∅;refine zMk {b.map V.int,c,by rw[g];lia,b.map V.int,c,by rw[g];lia, ?_};rw[g];refine yG c (zVl (d:=.int 0) l (by rw[g];exact o)) {b.getD (k % b...*).toNat 0, ?_, .inl ?_, ?_}
  ·simp[List.getD,nG]
  ·generalize (k*7919+k / b...**104729+b.getD (k % b...*).toNat 0*48271)=z
   lia
  ·let e:xM b k=_:=rfl
   let D:xM b k=(((k*7919+k / b...**104729+b.getD (k % b...*).toNat 0*48271)% 1000003*((k*7919+k / b...**104729+b.getD (k % b...*).toNat 0*48271)% 1000003)/ 11+13*((k*7919+k / b...**104729+b.getD (k % b...*).toNat 0*48271)% 1000003))% 1000003):=by
    unfold xM;rw[mH i]
   rw[<-D];exact q _ (zF t _)
def zPc:Sp:=λb H Q _=>∃(m:Int),b= [.int m]/\0<=m/\m<2000000/\∀(i:Int),-(10 ^ 12)<=i->i<=10 ^ 12->∀a,Same H a->Q (.int i) a
theorem yCk(F:Fun K "_law_number_by" "_law_number_by" sNum f fd):FnOk P w K mg base CX0 1 f fd ["_law_more"] zPc:=by
 refine F.okn (N:=["_law_more"]) λd A a s H k Q E j o h=>?_;ext qD h m b l n q;subst b;refine{_,(zD (zU (pT xC (zH yE (pv 0) zE) zE) (zG (zI (zH vC (zH yE (zH yF (pv 0) zE) zE) zE))) zL)
  (zD (zU (pT xC (zH yE (pv 0) zE) zE) (zG (zI (zH vC (zH yE (zH uA (pv 0) zE) (zH xH (zH qY zE (zH uA zE zE)) zE)) (zH uA zE zE)))) zL)
  (zG (zI (pX zS (yJ (zA (zH uA zE zE) (zA (xY xJ (zH uA zE zE)) (zA (zH vC (zH uA zE zE) zE) (zA zE (zA zE (zA (xY xJ zE) (zA (zH uA zE zE) (zA zE zB))))))))) (zH yE (zH yF (pv 0) zE) zE)))))), ?_}
 walk_at "st";lk;split
 ·exact q _ ∅ ∅ _ (Same.refl H)
 ·split
  ·refine{∅,q _ ?_ ?_ _ (Same.refl H)}
   ·let:=rW (m ^ 4) (show(2000000000001:Int)≠0 by decide)
    lia
   ·let:=rP (m ^ 4) (show(0:Int)<2000000000001 by decide)
    lia
  ·intro p g
   obtain⟨v,e,c⟩:=uH (xs:=[V.int 1000000000000,V.int (-1000000000000),V.int 999999999999,V.int 0,V.int 1,V.int (-1),V.int 100000000000,V.int 999]) (i:=m / 3 % 8) ∅ (by simp only[mP,pL];lia);refine yG (SqL.of zC) e ?_;simp only[mG,pG,sT] at c;rcases c with rfl | rfl | rfl | rfl | rfl | rfl | rfl | rfl<;>exact q _ ∎ ∎ _ (zF g _)
abbrev zZm:V6:=top 53
def zEc:Sp:=λb H Q _=>∃(m:Int),b= [.int m]/\0<=m/\m<2000000/\∀(x:List Nat),xA x=true->∀a,Same H a->Q (.str (tx x)) a
theorem zYu(F:Fun K "_law_name_by" "_law_name_by" zZm f fd)(B:Bl mg):FnOk P w K mg base CX0 1 f fd ["_law_more"] zEc:=by
 refine F.okn (N:=["_law_more","_law_letters","_law_size","_law_at","_law_word","_law_by","_law_signs_here"]) λab A M s H vs Q E o hr h=>?_;ext qD h m J h0 h1 q;subst J;refine{_,(zD (zCm (i:=1) o O (aX O) zO)
  (zD (pS 2 o (pX zS (yJ (zA zE (zA (zH xH zE (zH yE (zH yF (pv 0) zE) zE)) (zA (zH xH zE (zH yE (zH yF (pv 0) zE) zE)) zB)))) (zH yE (pv 0) zE)))
  (zD (zU (pT xC (zH yE (zH yF (pv 0) zE) zE) zE) (zD (pS 3 o (zH yE (zH yF (pv 0) zE) (pv 2)))
  (zD (pS 4 o (zH jN (zH jN (zH gE zO (pv 3)) (pX zCa (pv 1) (zH yE (zH yF (pv 0) zE) zE))) (zH gE zO (zH vC (zH vC (pv 2) (pv 3)) zE))))
  (zG (zI (pv 4))))) zL)
  (zD (zCm (i:=5) o O (aX O) (zH xH zE (zH yE (zH yF (pv 0) zE) zE)))
  (zD (zBp (i:=6) o O (nR O) (own:=["_law_j"]) (F:=[("_law_letters",1),("_law_more",0),("_law_by",5)]) {O,tb_g%,tb_g%,tb_g%,(.cons O O O (.cons O O O (.cons O O O .nil)))} O (wZ O B.range (zA (zH vC (pv 2) zE) zB)) (λ_ _ _ _=>yH (i:=0) (by show(wN ["_law_j"] [("_law_letters",1),("_law_more",0),("_law_by",5)]).Nodup;decide+kernel) O (nR O)) (λ_ _ _ _=>xU) (λ_ _ _ _=>(pX zCa (pv 1) (zH yE (zH xH (zH yF (pv 2) zE) (zH qY (pv 0) (pv 3))) zE))))
  (zG (zI (zH jN (pX zCa (pv 1) (zH yE (zH yF (pv 0) zE) zE)) (qZ PySem.F.plainAttrs_str PySem.F.slot_str_join PySem.F.type_str_join zPo zO (zA (pv 6) zB)))))))))), ?_}
 walk_at "st";lk;intro p hp;obtain⟨v,hv,hm⟩:=uH (xs:=[V.int 1,V.int (1+m / 3 % 4),V.int (1+m / 3 % 12)]) (i:=m % 3) ∅ (by simp only[mP,pL];lia);obtain⟨n,rfl,n1,aa⟩:∃n:Int,v= .int n/\1<=n/\n<=12:=by
  simp only[mG,pG,sT] at hm;rcases hm with rfl | rfl | rfl<;>exact{_,O,∅,∅}
 refine yG (SqL.of zC) hv ?_;simp only[ts_a,zDb,zWq];split
 ·let a0:=rW (m / 72) (show n≠0 by lia)
  let a1:=rP (m / 72) (show 0<n by lia);refine oEA (zSq (i:=m / 864 % 26) ∅ ∅) λc u a=>?_;refine yBy n O ∅ ∎ ∅ (nA ∅ (zCk ∎ (by rw[zHw];exact u) {_,O, ?_,n,O,by decide,∅,∅, ?_, ?_}))
  ·rw[kG,kG];simp only[rN,nM];lia
  ·rw[zDy,kG,kG];simp only[mK,rN,nM];lia
  ·let e:tx (List.replicate (m / 72 % n).toNat 97)++tx [c]++tx (List.replicate (n - m / 72 % n - 1).toNat 97)=tx (List.replicate (m / 72 % n).toNat 97++ [c]++List.replicate (n - m / 72 % n - 1).toNat 97):=by rw[zDy,zDy]
   rw[e];refine q _ (zFq ?_ ?_ ?_) _ (zF hp _)
   ·simp only[mK,rN,nM];lia
   ·cases e:(m / 72 % n).toNat with|zero=>exact⟨c,_,O,a⟩|succ k=>exact{97,_,O,zLu}
   ·intro d l
    simp only[nE,List.mem_replicate,mF] at l;rcases l with(⟨_,rfl⟩| rfl)|⟨_,rfl⟩
    ·exact zBo zLu
    ·exact zBo a
    ·exact zBo zLu
 ·refine zJx n O ∅ ∅ (zAv (λi D y=>Same (upd H p (.lst [V.int 1,V.int (1+m / 3 % 4),V.int (1+m / 3 % 12)])) y/\∃b:List Nat,D=(b.map λc=>tx [c]).map V.str/\b...*=i/\∀c∈b,c∈letL++zEu) (by rw[mV];lia) {Same.refl _,[],O,O,λ_ h=>nomatch h} ?_ ?_)
  ·rintro i D y hi _ ⟨I,b,rfl,L,g⟩
   lk;refine oEA (yCj (i:=(m / 7+(0+(i:Int))*(1+m / 11 % 35))% 36) ∅ ∅) λc u a=>?_;refine{.inl ∅,zCk ∎ (by rw[zHw];exact u) {I,b++ [c],by simp,by simp[L], ?_}};intro d l;rcases nE.mp l with z | z
   ·exact g d z
   ·rw[mF.mp z];exact a
  ·rintro D y L ⟨I,b,rfl,t,g⟩ p' x
   refine oEA (zSq (i:=m / 72 % 26) ∅ ∅) λc u a=>?_;let j:((b.map λc=>tx [c]).map ts).flatten=b:=by
    clear t L g
    induction b with|nil=>rfl|cons d r ih=>simp only[nD,sB,ih,vJ];rfl
   refine zCk ∎ (by rw[zHw];exact u) {O,p',b.map λc=>tx [c],O,O,SqL.of zC,by rw[j];lia,_,O,_,O, ?_, ?_}
   ·rw[j,kG,kG,nM];lia
   ·rw[j,zDy]
    refine q _ (zFq ?_ ⟨c,b,O,a⟩ ?_) _ ((zF hp _).trans (I.trans (zF x _)))
    ·show(c::b)...*<=12
     rw[mP];lia
    ·intro d l
     rcases mG.mp l with z | z
     ·rw[z];exact zBo a
     ·exact g d z
abbrev zSi:V6:=top 54
abbrev zZk:V6:=top 55
def zPq:Sp:=λa H Q _=>a= []/\Q (.str (tx zBl)) H
theorem zVf(F:Fun K "_law_signs" "_law_signs" zSi f fd):FnOk P w K mg base CX0 1 f fd [] zPq:=by
 refine F.okn (N:=["_law_some"]) λb A a s H e Q E c d h=>?_;obtain⟨rfl,q⟩:=h;refine{_,(zD (pS 0 c zO)
  (zG (zI (zH jN (pv 0) zO)))), ?_}
 walk_at "st";lk;refine{by decide, ?_};rw[yBo];exact q
def zIj:Sp:=λb H Q _=>∃(m:Int),b= [.int m]/\0<=m/\m<2000000/\∀(x:List Nat),zCf x=true->∀a,Same H a->Q (.str (tx x)) a
theorem zXp(F:Fun K "_law_text_by" "_law_text_by" zZk f fd)(B:Bl mg)(a:Dn P w K mg base 1 "_law_signs" [] zPq):FnOk P w K mg base CX0 2 f fd ["_law_more"] zIj:=by
 refine F.okn (N:=["_law_more","_law_signs_here","_law_size","_law_half","_law_sign","_law_by"]) λaa A x s H vs Q E j hr h=>?_;ext qD h m u h0 h1 q;subst u;refine{_,(zD (zCm (i:=1) j O (aX O) (yEj a hr ∅ O))
  (zD (pS 2 j (pX zS (yJ (zA (zH yE (zH yF (pv 0) zE) zE) (zA (zH yE (zH yF (pv 0) zE) zE) (zA (zH yE (zH yF (pv 0) zE) zE) zB)))) (zH yE (pv 0) zE)))
  (zD (zU (pT xC (zH yE (zH yF (pv 0) zE) zE) zE) (zD (pS 3 j (zH yF (pv 2) zE))
  (zD (pS 4 j (pX zCa (pv 1) (zH yE (zH yF (pv 0) zE) zE)))
  (zG (zI (zH jN (zH gE zO (pv 3)) (zH gE (pv 4) (zH vC (pv 2) (pv 3)))))))) zL)
  (zD (zCm (i:=5) j O (aX O) (zH xH zE (zH yE (zH yF (pv 0) zE) zE)))
  (zG (zI (qZ PySem.F.plainAttrs_str PySem.F.slot_str_join PySem.F.type_str_join zPo zO (zA (wW (own:=["_law_j"]) (F:=[("_law_signs_here",1),("_law_more",0),("_law_by",5)]) {O,tb_g%,tb_g%,tb_g%,(.cons O O O (.cons O O O (.cons O O O .nil)))} O (wZ O B.range (zA (pv 2) zB)) (λ_ _ _ _=>yH (i:=0) (by show(wN ["_law_j"] [("_law_signs_here",1),("_law_more",0),("_law_by",5)]).Nodup;decide+kernel) O (nR O)) (λ_ _ _ _=>xU) (λ_ _ _ _=>(pX zCa (pv 1) (zH yE (zH xH (zH yF (pv 2) zE) (zH qY (pv 0) (pv 3))) zE)))) zB)))))))), ?_}
 walk_at "st";lk;refine{O,λp L=>?_};obtain⟨v,hv,I⟩:=uH (xs:=[V.int (m / 5 % 4),V.int (m / 5 % 9),V.int (m / 5 % 31)]) (i:=m % 3) ∅ (by simp only[mP,pL];lia);obtain⟨n,rfl,n0,M⟩:∃n:Int,v= .int n/\0<=n/\n<=30:=by
  simp only[mG,pG,sT] at I;rcases I with rfl | rfl | rfl<;>exact{_,O,∅,∅}
 refine yG (SqL.of zC) hv ?_;simp only[ts_q,zDb,zWq];split
 ·refine oEA (zWj (i:=m / 465 % 94) ∅ ∅) λc y g=>?_
  refine nEA n O (zCk ∎ y {by decide,∅,∅,n,O,_,O,(show(1:Nat)<=1000 by decide),∅,∅, ?_, ?_})
  ·rw[vJ,zDb,kG,kG];simp only[rN];lia
  ·rw[vJ,zDb,zDy]
   refine q _ (zFp ?_ ?_) _ (zF L _)
   ·simp only[mK,rN];lia
   ·intro d k
    simp only[nE,List.mem_replicate] at k;rcases k with⟨_,rfl⟩|⟨_,rfl⟩
    ·exact yCv
    ·exact g
 ·refine zMy O n O ∅ ∅ (zAv (λi r o=>Same (upd H p (.lst [V.int (m / 5 % 4),V.int (m / 5 % 9),V.int (m / 5 % 31)])) o/\∃b:List Nat,r=(b.map λc=>tx [c]).map V.str/\b...*=i/\∀c∈b,c∈zBl) (by rw[mV];lia) {Same.refl _,[],O,O,λ_ h=>nomatch h} ?_ ?_)
  ·rintro i r o hi _ ⟨t,b,rfl,J,e⟩
   lk;refine oEA (zWj (i:=(m / 7+(0+(i:Int))*(1+m / 13 % 93))% 94) ∅ ∅) λc y g=>?_;refine{.inl ∅,zCk ∎ y {t,b++ [c],by simp,by simp[J], ?_}};intro d k;rcases nE.mp k with z | z
   ·exact e d z
   ·rw[mF.mp z];exact g
  ·rintro r o J ⟨t,b,rfl,D,e⟩ p' l
   refine{p',b.map λc=>tx [c],O,O,SqL.of zC,by rw[zJv];lia, ?_};rw[zJv];exact q _ (zFp ∅ e) _ ((zF L _).trans (t.trans (zF l _)))
abbrev zEr:V6:=top 57
def uW(K:A6)(d:Nat):Sp:=λe H Q _=>∃(a:V1)(c:List Int)(k:Int),e= [.ref a, .int k, .int d]/\SqL K H a (c.map V.int)/\c...*<=63/\0<=k/\(k+2)*5 ^ d<=1000000/\
 ∀v b t,Same H b->Rep b v t->Nice d t->Q v b
theorem scThing:wC ["_law_script","_law_k","_law_deep","_law_more","_law_kind_here","_law_some","_law_result","_law_j"] ["_law_script","_law_k","_law_deep"] (zW zEr):=by walk_at "sc"
def DInv(g:Hp)(d:V1)(ts:B0)(i:Nat)(e:Hp):Prop:=∃(b:D0)(a:C6)(c:B0),e d=Y (.dK b)/\b.map (·.1)=a.map nK/\Reps g (b.map (·.2)) c/\a.Nodup/\(∀n∈a,xA n=true)/\(∀u∈c,u∈ts)/\a...*<=i
theorem pow5(e:Nat):(1:Int)<=5 ^ e:=by
 induction e with|zero=>decide|succ n a=>rw[Int.pow_succ];lia
theorem zQh(F:Fun K "_law_thing_by" "_law_thing_by" zEr f fd)(B:Bl mg)(e:Dn P w K mg base 1 "_law_cell" ["_law_script","_law_k"] (gL K))(b:Dn P w K mg base 1 "_law_number_by" ["_law_more"] zPc)
  (d:Dn P w K mg base 2 "_law_text_by" ["_law_more"] zIj):FnOk P w K mg base CX0 3 f fd ["_law_script","_law_k","_law_deep"] (uW K 0):=by
 refine F.ok scThing (by walk_at "ln") λc A o s H vs Q E n h=>?_;ext zZ h a l k m L D;ext xI D r J h1 q;subst m;let t:=scThing.nd;refine{_,(zD (pS 3 t (pD e n (zA (pv 0) (zA (pv 1) zB))))
  (zD (pS 4 t (zH yE (pv 3) (pX zS (yJ (zA zE (zA zE zB))) (yU xX O B.int vX (zA (pE uG (pv 2) zE) zB)))))
  (zD (zU (pT xC (pv 4) zE) (zG (zI (pX zS (yJ (zA kZ (zA qT (zA qT zB)))) (zH yE (zH yF (pv 3) zE) zE)))) zL)
  (zD (zU (pT kL (pv 4) zE) (zG (zI (pD b n (zA (zH yF (pv 3) zE) zB)))) zL)
  (zD (zU (pT kL (pv 4) zE) (zG (zI (pD d n (zA (zH yF (pv 3) zE) zB)))) zL)
  zCe))))), ?_}
 walk_at "st";lk;refine vF L r J ∅ λH1 I p N=>yG (SqL.of zC) (v:=.int 5) O {_,O,5,O,by decide, ?_};let c0:=wR l k;let c1:=wV l k;let j:=I.trans (zF N (.lst [V.int 5,V.int 9]));split
 ·intro p2 g
  refine nEA _ O ?_;obtain⟨v,z,u⟩:=uH (xs:=[V.non,V.bl true,V.bl false]) (i:=xM l k / 9 % 3) ∅ (by simp only[mP,pL];lia);refine yG (SqL.of zC) z ?_;simp only[mG,pG,sT] at u;rcases u with rfl | rfl | rfl
  ·exact q _ _ .non (j.trans (zF g _)) O trivial
  ·exact q _ _ (.bl true) (j.trans (zF g _)) O trivial
  ·exact q _ _ (.bl false) (j.trans (zF g _)) O trivial
 ·split
  ·exact{_,O,_,O,∅,∅,λi i0 y H2 g2=>q _ _ (.int i) (j.trans g2) O ⟨i0,y⟩}
  ·rw[mJ ∅]
   exact{_,O,_,O,∅,∅,λx M H2 g2=>q _ _ (.str x) (j.trans g2) O M}
theorem zQy{e:Nat}(F:Fun K "_law_thing_by" "_law_thing_by" zEr f fd)(B:Bl mg)(g:Dn P w K mg base 1 "_law_cell" ["_law_script","_law_k"] (gL K))(d:Dn P w K mg base 1 "_law_number_by" ["_law_more"] zPc)
  (l:Dn P w K mg base 2 "_law_text_by" ["_law_more"] zIj) (m:Dn P w K mg base 1 "_law_name_by" ["_law_more"] zEc)
  (j:Dn P w K mg base (3+e) "_law_thing_by" ["_law_script","_law_k","_law_deep"] (uW K e)):FnOk P w K mg base CX0 (3+e+1) f fd ["_law_script","_law_k","_law_deep"] (uW K (e+1)):=by
 refine F.ok scThing (by walk_at "ln") λc A o s H vs Q E hr h=>?_;ext zZ h a I k aj hS z_;ext xI z_ aa h0 h1 q;subst aj;let nd:=scThing.nd;let hu:=vO hr;refine{_,(zD (pS 3 nd (pD g hr (zA (pv 0) (zA (pv 1) zB))))
  (zD (pS 4 nd (zH yE (pv 3) (pX zS (yJ (zA zE (zA zE zB))) (yU xX O B.int vX (zA (pE uG (pv 2) zE) zB)))))
  (zD (zU (pT xC (pv 4) zE) (zG (zI (pX zS (yJ (zA kZ (zA qT (zA qT zB)))) (zH yE (zH yF (pv 3) zE) zE)))) zL)
  (zD (zU (pT kL (pv 4) zE) (zG (zI (pD d hr (zA (zH yF (pv 3) zE) zB)))) zL)
  (zD (zU (pT kL (pv 4) zE) (zG (zI (pD l hr (zA (zH yF (pv 3) zE) zB)))) zL)
  (zD (zBp (i:=5) nd O (nR O) (own:=["_law_j"]) (F:=[("_law_script",0),("_law_k",1),("_law_deep",2)]) {O,tb_g%,tb_g%,tb_g%,(.cons O O O (.cons O O O (.cons O O O .nil)))} O (wZ O B.range (zA (zH yE (zH yF (pv 3) zE) zE) zB)) (λ_ _ _ _=>yH (i:=0) (by show(wN ["_law_j"] [("_law_script",0),("_law_k",1),("_law_deep",2)]).Nodup;decide+kernel) O (nR O)) (λ_ _ _ _=>xU) (λ_ _ _ _=>(pD j hr (zA (pv 1) (zA (zH xH (zH xH (zH qY (pv 2) zE) zE) (pv 0)) (zA (zH vC (pv 3) zE) zB))))))
  (zD (zU (pT kL (pv 4) zE) (zG (zI (pv 5))) zL)
  (zD (pS 6 nd zIp)
  (zD (qI PassesOwn.never O (wZ O B.range (zA (zN yA O B.len yR (zA (pv 5) zB)) zB)) (yH (i:=7) nd O (nR O)) (zG (zBj hu (pv 6) (pD m hr (zA (zH xH (zH yF (pD g hr (zA (pv 0) (zA (zH xH (zH xH (zH qY (pv 1) zE) zE) (pv 7)) zB))) zE) (pv 7)) zB)) (pX zS (pv 5) (pv 7)) O)))
  (zG (zI (pv 6)))))))))))), ?_}
 walk_at "st";lk;let af:(1:Int)<=5 ^ e:=pow5 e;let ab:(5:Int)^ (e+1)=5 ^ e*5:=Int.pow_succ ..;let h2:(k+2)*5*5 ^ e<=1000000:=by rw[Int.mul_assoc,Int.mul_comm 5 (5 ^ e),<-ab];exact h1
 let h3:(k+2)*5<=1000000:=by
  let:(k+2)*5*1<=(k+2)*5*5 ^ e:=Int.mul_le_mul_of_nonneg_left af ∅
  lia
 refine vF hS aa h0 ∅ λH1 g1 p hp=>yG (SqL.of zC) (v:=.int 9) ?_ {_,O,9,O,by decide, ?_}
 ·rw[mJ ∅];rfl
 let c0:=wR I k;let c1:=wV I k;let N:=g1.trans (zF hp (.lst [V.int 5,V.int 9]));split
 ·intro p2 y
  refine nEA _ O ?_;obtain⟨v,hv,hm⟩:=uH (xs:=[V.non,V.bl true,V.bl false]) (i:=xM I k / 9 % 3) ∅ (by simp only[mP,pL];lia);refine yG (SqL.of zC) hv ?_;simp only[mG,pG,sT] at hm;rcases hm with rfl | rfl | rfl
  ·exact q _ _ .non (N.trans (zF y _)) O trivial
  ·exact q _ _ (.bl true) (N.trans (zF y _)) O trivial
  ·exact q _ _ (.bl false) (N.trans (zF y _)) O trivial
 ·split
  ·exact{_,O,_,O,∅,∅,λi i0 i1 H2 g2=>q _ _ (.int i) (N.trans g2) O ⟨i0,i1⟩}
  ·split
   ·exact{_,O,_,O,∅,∅,λx hx H2 g2=>q _ _ (.str x) (N.trans g2) O hx}
   ·refine zJx _ O ∅ ∅ (zAv (λi r J=>Same (upd H1 p (.lst [V.int 5,V.int 9])) J/\∃ts,Reps J r ts/\ts...*=i/\NiceL e ts) (by rw[mV];lia) {Same.refl _,[],O,O,trivial} ?_ ?_)
    ·rintro i r J hi _ ⟨hs,ts,hR,hl,hN⟩
     lk;refine{a,I,k*5+1+(0+(i:Int)), ?_,hs.seq (N.seq hS),aa,∅, ?_,λv H2 t g2 hv hn=>{hs.trans g2,ts++ [t],Reps.snoc hv (Reps.same g2 _ _ hR),by simp[hl],NiceL.snoc hn hN}}
     ·rw[show((e+1:Nat):Int)- 1=(e:Int) by lia]
     ·let:(k*5+1+(0+(i:Int))+2)*5 ^ e<=(k+2)*5*5 ^ e:=Int.mul_le_mul_of_nonneg_right ∅ ∅
      lia
    ·rintro r J hl ⟨hs,ts,hR,ao,hN⟩ L ae
     let gl:=N.trans (hs.trans (zF ae (.lst r)));let ag:Reps (upd J L (.lst r)) r ts:=Reps.same (zF ae _) _ _ hR
     by_cases h7:xM I k % 9<7
     ·rw[mJ h7]
      exact q _ _ (.lst ts) gl ⟨L,r,O,zC,ag⟩ {∅,∅,hN}
     rw[mH h7];intro p2 y;let gd:=zF y (.dK []);let aq:=hR...*;let ah:SqL K (upd (upd J L (.lst r)) p2 (.dK [])) L r:=SqL.of (gd _ _ zC);refine zEw L O r ah ∅ (nA ∅ ?_);rw[tR];refine gT (λi σ H2=>(∃o,σ= [Y (V.ref a),Y (V.int k),Y (V.int ((e+1:Nat):Int)),Y (V.int (xM I k)),Y (V.int (xM I k % 9)),Y (V.ref L),Y (V.ref p2),o])/\Same (upd J L (.lst r)) H2/\DInv (upd J L (.lst r)) p2 ts i H2) {⟨_,O⟩,gd,[],[],[],zC,O,O,bV,λ_ h=>(nomatch h),λ_ h=>(nomatch h),mD _} ?_ ?_
     ·rintro i σ H2 hi ⟨⟨o,rfl⟩,g2,ps,ks,us,hd,hk,hU,ac,M,D,ak⟩
      lk;obtain⟨v,hv⟩:∃v,r[i]? =Y v:={r[i],by simp[hi]};refine oEA (ag.get hv) λt ht al=>?_;refine yG (SqL.of (g2 _ _ zC)) (by rw[Int.zero_add];exact yC hv) (vF (g2.seq (gl.seq hS)) aa ∅ ∅ λH3 g3=>?_);let ar:=wR I (k*5+1+(0+(i:Int)));let ap:=wV I (k*5+1+(0+(i:Int)));refine{_,O,_,O,∅,∅,λx hx H4 g4=>{_,DPut.k (k:=nK x) (g4 _ _ (g3 _ _ hd)) ?_,⟨_,O⟩, ?_, ?_}}
      ·let:=congrArg List.length hk
       simp only[mM] at this;rw[mV];lia
      ·intro b o' hb
       let an:b≠p2:=λz=>by rw[z,y] at hb;cases hb
       rw[zK an];exact g4 _ _ (g3 _ _ (g2 _ _ hb))
      ·refine zX (zWu (n:=x) hk hU ac al) λam ai e1 e2 e3 z_=>?_
       ext oAA z_ e4 e5 e6;refine{_,am,ai,zC,e1,e2,e3,λn hn=>?_,λu hu=>?_,∅}
       ·rcases e4 n hn with z | z
        ·exact M n z
        ·rw[z];exact hx
       ·rcases e5 u hu with z | z
        ·exact D u z
        ·rw[z];exact mO ht
     ·rintro σ H2 ⟨⟨o,rfl⟩,g2,ps,ks,us,hd,hk,hU,ac,M,D,ak⟩
      lk;let l1:=congrArg List.length hk;simp only[mM] at l1;let l2:=hU...*;simp only[mM] at l2;refine q _ _ (.dic ks us) (gl.trans g2) {p2,ps,O,hd,hk,Reps.same g2 _ _ hU} {∅,∅,∅,ac,M,NiceL_iff.mpr λu hu=>NiceL_iff.mp hN u (D u hu)}
abbrev zZl:V6:=top 58
abbrev zOq:V6:=top 9
noncomputable def xS(t:String):V:=if t= "NoneType" then .str "nothing" else if t= "bool" then .str "truth" else if t= "int" then .str "number" else if t= "str" then .str "text" else if t= "list" then .str "row" else if t= "dict" then .str "record" else .non
def zEj:Sp:=λb H Q _=>∃(v:V)(t:String),b= [v]/\tyS H v=Y t/\∀a,Same H a->Q (xS t) a
theorem kB{H:Hp}{v:V}(h:tyS H v=some "NoneType"):v= .non:=by
 cases v with
 |non=>rfl|ref a=>
  let c:(match H a with | some (.lst _)=>some "list" | some (.tup _)=>some "tuple" | some (.dK _)=>some "dict" | _=>none)=some "NoneType":=h
  split at c<;>first | exact absurd (mW c) ∎| cases c
 |bl b=>exact absurd (mW h) ∎|int b=>exact absurd (mW h) ∎|str b=>exact absurd (mW h) ∎|byt b=>cases h|flt b=>cases h|ty b=>cases h
theorem zVr{H:Hp}{v:V}{t:String}{Q:VK}(a:tyS H v=Y t)(q:Q (xS t) H):
  if v=V.non then Q (V.str (A5 "nothing")) H else∃x,tyS H v=Y x/\if zT x "bool" =true then Q (V.str (A5 "truth")) H else
   ∃x,tyS H v=Y x/\if zT x "int" =true then Q (V.str (A5 "number")) H else∃x,tyS H v=Y x/\if zT x "str" =true then Q (V.str (A5 "text")) H else
   ∃x,tyS H v=Y x/\if zT x "list" =true then Q (V.str (A5 "row")) H else∃x,tyS H v=Y x/\if zT x "dict" =true then Q (V.str (A5 "record")) H else Q V.non H:=by
 let c:=vG a;simp only[a,Option.some.injEq,cR]
 by_cases b:v= .non
 ·subst b;cases a;rw[mJ O];exact q
 ·rw[mH b]
  simp only[tyL,mG,pG,sT] at c;rcases c with rfl | rfl | rfl | rfl | rfl | rfl | rfl
  ·exact absurd (kB a) b
  all_goals (simpa [zT,xS] using q)
theorem zXj(F:Fun K "_law_kind" "_law_kind" zZl f fd)(B:Bl mg):FnOk P w K mg base CX0 1 f fd ["_law_thing"] zEj:=by
 refine F.okn (N:=["_law_thing"]) λd A b s H g Q E e i h=>?_;ext yM h v t a c q;subst a;refine{_,(zD (zU (zAh (zCn (pv 0))) (zG (zI zO)) zL)
  (zD (zU (yI (pI B.isinstance zJ B.bool zOf (pv 0))) (zG (zI zO)) zL)
  (zD (zU (yI (pI B.isinstance zJ B.int vX (pv 0))) (zG (zI zO)) zL)
  (zD (zU (yI (pI B.isinstance zJ B.str vY (pv 0))) (zG (zI zO)) zL)
  (zD (zU (yI (pI B.isinstance zJ B.list xZ (pv 0))) (zG (zI zO)) zL)
  (zD (zU (yI (pI B.isinstance zJ B.dict xV (pv 0))) (zG (zI zO)) zL)
  (zG (zI kZ)))))))), ?_}
 walk_at "st";lk;exact zVr c (q H (Same.refl H))
abbrev zNz:V6:=top 59
abbrev zVx:V6:=top 60
def zJz(n:Nat):Sp:=λc H Q _=>∃(v u:V)(t a:T),c= [v,u]/\Rep H v t/\Rep H u a/\T.few t/\T.few a/\l7 t<=n/\l7 a<=n/\∀b,Same H b->Q (.int (xL (zM t) (zM a))) b
def zSe(n:Nat):Sp:=λi H Q _=>∃(a b:V1)(e h:B3)(c d:B0),i= [.ref a, .ref b]/\H a=Y (.lst e)/\H b=Y (.lst h)/\Reps H e c/\Reps H h d/\d9 c/\d9 d/\c...*<=100000/\d...*<=100000/\i8 c<=n/\i8 d<=n/\∀g,Same H g->Q (.int (vB (xE c) (xE d))) g
theorem zXx{n:Nat}(F:Fun K "_law_rows_compare" "_law_rows_compare" zNz f fd)(B:Bl2 mg)(c:Dn P w K mg base (2+2*n) "_law_compare" ["_law_one","_law_other"] (zJz n)):
  FnOk P w K mg base CX0 (2+2*n+1) f fd ["_law_one","_law_other"] (zSe n):=by
 refine F.okn (N:=["_law_one","_law_other","_law_k","_law_result"]) λag A ae s H vs Q E nd hr h=>?_;ext zY h a b j d l r;ext wS r k ac D y hx r;ext zQ r hy fx fy lx ly r;ext oAA r wx wy q;subst ac;refine{_,(zD (qI PassesOwn.never O (wZ O B.range (zA (zN (zCd O) O B.min zMh (zA (zN yA O B.len yR (zA (pv 0) zB)) (zA (zN yA O B.len yR (zA (pv 1) zB)) zB))) zB)) (yH (i:=2) nd O (nR O)) (zD (pS 3 nd (pD c hr (zA (pX zS (pv 0) (pv 2)) (zA (pX zS (pv 1) (pv 2)) zB))))
  (zG (zU (pT zGq (pv 3) zE) (zG (zI (pv 3))) zL))))
  (zG (zI (zH vC (yU xX O B.int vX (zA (pE uG (zN yA O B.len yR (zA (pv 0) zB)) (zN yA O B.len yR (zA (pv 1) zB))) zB)) (yU xX O B.int vX (zA (pE kL (zN yA O B.len yR (zA (pv 0) zB)) (zN yA O B.len yR (zA (pv 1) zB))) zB)))))), ?_}
 walk_at "st";lk;let af:=hx...*;let aa:=hy...*;refine qW j (SqL.of D) d (SqL.of y) j...* (zJx d...* ⟨O,O⟩ (by split<;>lia) (by split<;>lia) ?_);let em:(if(d...*:Int)<j...* then(d...*:Int) else j...*).toNat=min (xE l)...* (xE k)...*:=by
  rw[wT,wT];split<;>lia
 rw[em];let ab:min (xE l)...* (xE k)...*<=l...*/\min (xE l)...* (xE k)...*<=k...*:=by
  rw[wT,wT];exact{Nat.min_le_left _ _,Nat.min_le_right _ _}
 generalize hm:min (xE l)...* (xE k)...*=m at ab⊢;refine gT (λi σ I=>(∃o2 L,σ= [Y (V.ref a),Y (V.ref b),o2,L])/\Same H I/\vB (xE l) (xE k)=vB ((xE l).drop i) ((xE k).drop i)) {⟨_,_,O⟩,Same.refl _,O} ?_ ?_
 ·rintro i σ I hi ⟨⟨o2,L,rfl⟩,g,e⟩
  lk;let h1:i<j...*:=by lia
  let h2:i<d...*:=by lia
  refine oEA (hx.get (i:=i) (v:=j[i]) (by simp[h1])) λt1 u M=>?_;refine oEA (hy.get (i:=i) (v:=d[i]) (by simp[h2])) λt2 p J=>?_;let t:=mO u;let o:=mO p;let w1:=j8 t;let w2:=j8 o;let hd:=zMr (gF u) (gF p);refine{a,j,i,j[i],O,by simp,SqL.of (g _ _ D), ?_,b,d,i,d[i],O,by simp,SqL.of (g _ _ y), ?_,j[i],d[i],t1,t2,O,Rep.same g _ _ M,Rep.same g _ _ J,b9 fx t,b9 fy o,∅,∅,λH3 g3=>?_}
  ·exact yC (by simp[h1])
  ·exact yC (by simp[h2])
  ·rw[e,hd] at q
   by_cases x:xL (zM t1) (zM t2)=0
   ·exact yAw O false (by rw[x];rfl) (zPy {⟨_,O⟩,g.trans g3,by rw[e,hd,mJ x]})
   ·rw[mH x] at q
    refine yAw O true ?_ (zMk (q _ (g.trans g3)));simp[x]
 ·rintro σ I ⟨⟨o2,L,rfl⟩,g,e⟩
  lk;let he:=zQk (xs:=xE l) (ys:=xE k) hm.symm;rw[wT,wT] at he;let z:=q I g;rw[e,he,sgI,<-af,<-aa] at z;exact qW j (SqL.of (g _ _ D)) d (SqL.of (g _ _ y)) j (yAw (SqL.of (g _ _ D)) d (SqL.of (g _ _ y)) z)
theorem iP{c A B:Prop} [Decidable c] (h:c) (a:A):if c then A else B:=by rw[mJ h];exact a
theorem iN{c A B:Prop} [Decidable c] (h:¬c) (b:B):if c then A else B:=by rw[mH h];exact b
noncomputable def wordsS:List Str:=["nothing","truth","number","text","row","record"]
theorem uP(t:T)(h:T.few t):∃k,xS (tyT t)= .str k/\wordsS[(zM t).ord]? =Y k/\∀i,i<(zM t).ord->wordsS[i]?≠Y k:=by
 cases t with|non=>exact{"nothing",by decide+kernel,O,λi h=>absurd h (sK i)}|bl b=>exact{"truth",by show xS "bool" =_;decide+kernel,O,by show∀i,i<1->_;decide+kernel}|int b=>exact{"number",by show xS "int" =_;decide+kernel,O,by show∀i,i<2->_;decide+kernel}|str b=>exact{"text",by show xS "str" =_;decide+kernel,O,by show∀i,i<3->_;decide+kernel}|lst b=>exact{"row",by show xS "list" =_;decide+kernel,O,by show∀i,i<4->_;decide+kernel}|dic a b=>exact{"record",by show xS "dict" =_;decide+kernel,O,by show∀i,i<5->_;decide+kernel}|tup b=>exact h.elim
theorem zEf{x n:Str}{j:Nat}{d l:V1}{ps:D0}{ks:C6}{us:B0}{c:C1}{σ:St}{Q:VK}{H1:Hp}(hd:H1 d=Y (.dK ps))(hl:H1 l=none)(N:ks...*<64)(nk:ks.Nodup)
  (L:ps.map (·.1)=ks.map λk=>(Sum.inr (tx k):Key)) (hs:Reps H1 (ps.map (·.2)) us) (o:c.Perm (ks.map tx)) (E:PyProof.Rows.sortedS c=true) (J:(σ[j]?).join=Y (.ref d))
  (q:∀p e a,Same H1 a->a p=Y (.lst e)->Reps a e (gP ks us)->Q (.ref p) a):
  wG [x] [(n,j)] (qU 0) zCz (zTd (vA (jE 0) (vA (zGy (jE 1) (jE 0)) zBe))) σ Q (Itl K l) (upd H1 l (.lst (c.map V.str))):=by
 let M:=zHx o E;let H:Same H1 (upd H1 l (.lst (c.map V.str))):=zF hl _;let s:upd H1 l (.lst (c.map V.str)) l=Y (.lst (c.map V.str)):=zC;let m:(c.map V.str)...*=ks...*:=by rw[mM,o.length_eq,mM]
 generalize upd H1 l (.lst (c.map V.str))=H2 at H s⊢;refine qL (K:=K) (xs:=c.map V.str) (λi e a=>Same H2 a/\Reps a e ((gP ks us).take i)) ?_ {Same.refl _,O} (λi e a _ h=>SqL.of (h.1 _ _ s)) ?_ ?_
 ·rw[mV,m];lia
 ·rintro i y e a t _ ⟨g,A⟩
  rw[M,sC,nG] at t
  cases b:(vL ks)[i]? with
  |none=>rw[b] at t;cases t|some k=>
   rw[b] at t;let ey:V.str (tx k)=y:=mW t;subst ey;let z:(gP ks us)[i]? =Y (.lst [.str k,zV k ks us]):=by rw[gP,nG,b];rfl
   let I:=H.trans g;obtain⟨v,B,D⟩:=d8 nk L (Reps.same I _ _ hs) (mem_sortK.mp (mO b));lk;rw[J];refine kW d O v (.inl {ps,Sum.inr (tx k), .inl (I _ _ hd),O,B.symm}) (λp o=>{g.trans (zF o _), ?_});rw[yN z];let u:Rep (upd a p (.lst [V.str (tx k),v])) (.ref p) (.lst [.str k,zV k ks us]):={p,_,O,zC,_,_,O,O,_,_,O,Rep.same (zF o _) _ _ D,O};exact Reps.snoc u (Reps.same (zF o _) _ _ A)
 ·rintro e a _ ⟨g,A⟩ p r
  rw[m,<-zEk ks us,pH] at A;exact q p e _ (H.trans (g.trans (zF r _))) zC (Reps.same (zF r _) _ _ A)
theorem scCmp:wC ["_law_one","_law_other","_law_words","_law_first","_law_second","_law_left","_law_right"] ["_law_one","_law_other"] (zW zVx):=by walk_at "sc"
theorem zXa{n:Nat}(F:Fun K "_law_compare" "_law_compare" zVx f fd)(B:Bl2 mg)(e:Dn P w K mg base 1 "_law_kind" ["_law_thing"] zEj)(d:Dn P w K mg base (2+2*n+1) "_law_rows_compare" ["_law_one","_law_other"] (zSe n)):
  FnOk P w K mg base CX0 (2+2*n+1+1) f fd ["_law_one","_law_other"] (zJz (n+1)):=by
 refine F.ok scCmp (by walk_at "ln") λc A o s H vs Q E hr h=>?_;ext yK h v u t x ak z_;ext zQ z_ hv k f1 f2 w1 z_;ext oA z_ w2 q;subst ak;let nd:=scCmp.nd;let hu:=vO hr;refine{_,(zD (pS 2 nd (yJ (zA zO (zA zO (zA zO (zA zO (zA zO (zA zO zB))))))))
  (zD (pS 3 nd (qZ nV sR tJ zBb (pv 2) (zA (pD e hr (zA (pv 0) zB)) zB)))
  (zD (pS 4 nd (qZ nV sR tJ zBb (pv 2) (zA (pD e hr (zA (pv 1) zB)) zB)))
  (zD (zU (pT zGq (pv 3) (pv 4)) (zG (zI (zH vC (yU xX O B.int vX (zA (pE uG (pv 3) (pv 4)) zB)) (yU xX O B.int vX (zA (pE kL (pv 3) (pv 4)) zB))))) zL)
  (zD (zU (pT xC (pv 3) zE) (zG (zI zE)) zL)
  (zD (zU (pT kL (pv 3) zE) (zG (zI (zH vC (yU xX O B.int vX (zA (pE zNq (pv 0) (pv 1)) zB)) (yU xX O B.int vX (zA (pE zPl (pv 0) (pv 1)) zB))))) zL)
  (zD (zU (pT xC (pv 3) zE) (zG (zI (pD d hr (zA (pv 0) (zA (pv 1) zB))))) zL)
  (zD (zBp (i:=5) nd O (nR O) (own:=["_law_name"]) (F:=[("_law_one",0)]) {O,tb_g%,tb_g%,tb_g%,(.cons O O O .nil)} O (wM (zN (qP O) O B.sorted uM (zA (pv 0) zB))) (λ_ _ _ _=>yH (i:=0) (by show(wN ["_law_name"] [("_law_one",0)]).Nodup;decide+kernel) O (nR O)) (λ_ _ _ _=>xU) (λ_ _ _ _=>(yJ (zA (pv 0) (zA (vV hu (pv 1) (pv 0) (λ_ _=>O)) zB)))))
  (zD (zBp (i:=6) nd O (nR O) (own:=["_law_name"]) (F:=[("_law_other",1)]) {O,tb_g%,tb_g%,tb_g%,(.cons O O O .nil)} O (wM (zN (qP O) O B.sorted uM (zA (pv 1) zB))) (λ_ _ _ _=>yH (i:=0) (by show(wN ["_law_name"] [("_law_other",1)]).Nodup;decide+kernel) O (nR O)) (λ_ _ _ _=>xU) (λ_ _ _ _=>(yJ (zA (pv 0) (zA (vV hu (pv 1) (pv 0) (λ_ _=>O)) zB)))))
  (zG (zI (pD d hr (zA (pv 5) (zA (pv 6) zB)))))))))))))), ?_}
 walk_at "st";lk;intro p hp;refine yX (uP t f1) λk1 e1 i1 n1=>?_;refine yX (uP x f2) λk2 e2 i2 n2=>?_;let o1:(zM t).ord<1000000:=by cases (zM t)<;>simp[C.ord]
 let o2:(zM x).ord<1000000:=by cases (zM x)<;>simp[C.ord]
 let g0:Same H (upd H p (.lst (wordsS.map V.str))):=zF hp _;let r:upd H p (.lst (wordsS.map V.str)) p=Y (.lst (wordsS.map V.str)):=zC;rw[show[V.str (A5 "nothing"),V.str (A5 "truth"),V.str (A5 "number"),V.str (A5 "text"),V.str (A5 "row"),V.str (A5 "record")]=wordsS.map V.str from O];generalize upd H p (.lst (wordsS.map V.str))=H1 at g0 r⊢;refine{nR {O,_,SqL.of r},v,_,O,(Rep.same g0 _ _ hv).ty,λH2 g2=>?_};refine{p,wordsS,k1,_,O,by rw[e1],SqL.of (g2 _ _ r),i1,n1,o1,nR {O,_,SqL.of (g2 _ _ r)},u,_,O,(Rep.same (g0.trans g2) _ _ k).ty,λH3 g3=>?_};let j:=g0.trans (g2.trans g3);refine{p,wordsS,k2,_,O,by rw[e2],SqL.of (g3 _ _ (g2 _ _ r)),i2,n2,o2,O, ?_}
 by_cases y:(zM t).ord=(zM x).ord
 ·refine nEA false (by simp[y]) (zPy {O, ?_})
  let zq:=q
  cases t with
  |non=>
   cases x with|non=>exact iP (by simp[zM,C.ord]) (q _ j)|_=>exact absurd y (by simp[zM,C.ord])
  |bl b=>
   cases x with
   |bl m=>
    cases (show v=_ from hv);cases (show u=_ from k);refine iN (by simp[zM,C.ord]) {_,O,iP (by simp[zM,C.ord]) {_,O,_,O,_,O,_,O, ?_}};let z:=q _ j;rw[show xL (zM (.bl b)) (zM (.bl m))=(if(b && !m)=true then 1 else 0)- (if(m && !b)=true then 1 else 0) by cases b<;>cases m<;>rfl] at z;exact z
   |_=>exact absurd y (by simp[zM,C.ord])
  |int b=>
   cases x with
   |int m=>
    cases (show v=_ from hv);cases (show u=_ from k);refine iN (by simp[zM,C.ord]) {_,O,iP (by simp[zM,C.ord]) {_,O,_,O,_,O,_,O, ?_}};let z:=q _ j;rw[show xL (zM (.int b)) (zM (.int m))=(if m<b then 1 else 0)- (if b<m then 1 else 0) by rw[zM,zM,xL];rfl] at z
    simpa using z
   |_=>exact absurd y (by simp[zM,C.ord])
  |str b=>
   cases x with
   |str m=>
    cases (show v=_ from hv);cases (show u=_ from k);refine iN (by simp[zM,C.ord]) {_,O,iP (by simp[zM,C.ord]) {_,O,_,O,_,O,_,O, ?_}};let z:=q _ j;rw[show xL (zM (.str b)) (zM (.str m))=(if m<b then 1 else 0)- (if b<m then 1 else 0) by rw[zM,zM,xL];rfl] at z;simp only[vJ,pO];exact z
   |_=>exact absurd y (by simp[zM,C.ord])
  |lst N=>
   cases x with
   |lst ws=>
    ext yM hv a xs g ha hx;subst g;ext yM k b ys g hb hy;subst g;refine iN (by simp[zM,C.ord]) {_,O,iN (by simp[zM,C.ord]) {O,iP (by simp[zM,C.ord]) ?_}};let ao:i8 N+1<=n+1:=w1;let ah:i8 ws+1<=n+1:=w2;refine{a,b,xs,ys,N,ws,O,j _ _ ha,j _ _ hb,Reps.same j _ _ hx,Reps.same j _ _ hy,f1.2,f2.2,f1.1,f2.1,∅,∅,λH4 g4=>?_};let z:=q _ (j.trans g4);rw[zM,zM,xL] at z;exact z
   |_=>exact absurd y (by simp[zM,C.ord])
  |dic ks N=>
   cases x with
   |dic aa ws=>
    ext zX hv a ps g ha hk hx;subst g;ext zX k b af g hb ab hy;subst g;ext xI f1 nk ac ae fx;ext xI f2 al I J fy;let ao:i8 N+2<=n+1:=w1;let ah:i8 ws+2<=n+1:=w2;let r1:=zNs ae;let r2:=zNs J;let l1:=zEk ks N;let l2:=zEk aa ws;refine iN (by simp[zM,C.ord]) {_,O,iN (by simp[zM,C.ord]) {O,iN (by simp[zM,C.ord]) ?_}};refine qW a O ps (.inl (j _ _ ha)) (ks.map tx) (nAA (by rw[hk,sC];rfl) (by rw[mM];exact ac) (λl ss hl M L=>{{_,SqL.of zC},zEf (j _ _ ha) hl ac nk hk (Reps.same j _ _ hx) M L O λp1 ai H4 g4 am an=>?_}));let D:=j.trans g4;refine qW b O af (.inl (D _ _ hb)) (aa.map tx) (nAA (by rw[ab,sC];rfl) (by rw[mM];exact I) (λl ss hl M L=>{{_,SqL.of zC},zEf (D _ _ hb) hl I al ab (Reps.same D _ _ hy) M L O λp2 ap H5 g5 aj ag=>?_}));refine{p1,p2,ai,ap,gP ks N,gP aa ws,O,g5 _ _ am,aj,Reps.same g5 _ _ an,ag,zKm ae fx,zKm J fy,∅,∅,∅,∅,λH6 g6=>?_};let z:=q _ (D.trans (g5.trans g6));rw[zM,zM,xL,<-zDz,<-zDz] at z;exact z
   |_=>exact absurd y (by simp[zM,C.ord])
  |tup N=>exact f1.elim
 ·refine nEA true ?_ (zMk {_,O,_,O,_,O,_,O, ?_})
  ·simpa [Int.ofNat_inj] using y
  ·let z:=q H3 j
   rw[zBf _ _ y,sgI] at z;exact z
theorem zXq(F:Fun K "_law_compare" "_law_compare" zVx f fd)(B:Bl2 mg)(a:Dn P w K mg base 1 "_law_kind" ["_law_thing"] zEj):
  FnOk P w K mg base CX0 2 f fd ["_law_one","_law_other"] (zJz 0):=by
 refine F.ok scCmp (by walk_at "ln") λc A o s H vs Q E r h=>?_;ext yK h v u t i y n;ext zQ n l g D f2 L n;ext oA n w2 q;subst y;let x:=scCmp.nd;let hu:=vO r;refine{_,(zD (pS 2 x (yJ (zA zO (zA zO (zA zO (zA zO (zA zO (zA zO zB))))))))
  (zD (pS 3 x (qZ nV sR tJ zBb (pv 2) (zA (pD a r (zA (pv 0) zB)) zB)))
  (zD (pS 4 x (qZ nV sR tJ zBb (pv 2) (zA (pD a r (zA (pv 1) zB)) zB)))
  (zD (zU (pT zGq (pv 3) (pv 4)) (zG (zI (zH vC (yU xX O B.int vX (zA (pE uG (pv 3) (pv 4)) zB)) (yU xX O B.int vX (zA (pE kL (pv 3) (pv 4)) zB))))) zL)
  (zD (zU (pT xC (pv 3) zE) (zG (zI zE)) zL)
  (zD (zU (pT kL (pv 3) zE) (zG (zI (zH vC (yU xX O B.int vX (zA (pE zNq (pv 0) (pv 1)) zB)) (yU xX O B.int vX (zA (pE zPl (pv 0) (pv 1)) zB))))) zL)
  zCe)))))), ?_}
 walk_at "st";lk;intro p hp;refine yX (uP t D) λk1 e1 i1 M=>?_;refine yX (uP i f2) λk2 e2 i2 n2=>?_;let o1:(zM t).ord<1000000:=by cases (zM t)<;>simp[C.ord]
 let o2:(zM i).ord<1000000:=by cases (zM i)<;>simp[C.ord]
 let m:Same H (upd H p (.lst (wordsS.map V.str))):=zF hp _;let e:upd H p (.lst (wordsS.map V.str)) p=Y (.lst (wordsS.map V.str)):=zC;rw[show[V.str (A5 "nothing"),V.str (A5 "truth"),V.str (A5 "number"),V.str (A5 "text"),V.str (A5 "row"),V.str (A5 "record")]=wordsS.map V.str from O];generalize upd H p (.lst (wordsS.map V.str))=H1 at m e⊢;refine{nR {O,_,SqL.of e},v,_,O,(Rep.same m _ _ l).ty,λH2 g2=>?_};refine{p,wordsS,k1,_,O,by rw[e1],SqL.of (g2 _ _ e),i1,M,o1,nR {O,_,SqL.of (g2 _ _ e)},u,_,O,(Rep.same (m.trans g2) _ _ g).ty,λN J=>?_};let k:=m.trans (g2.trans J);refine{p,wordsS,k2,_,O,by rw[e2],SqL.of (J _ _ (g2 _ _ e)),i2,n2,o2,O, ?_}
 by_cases j:(zM t).ord=(zM i).ord
 ·refine nEA false (by simp[j]) (zPy {O, ?_})
  let zq:=q
  cases t with
  |non=>
   cases i with|non=>exact iP (by simp[zM,C.ord]) (q _ k)|_=>exact absurd j (by simp[zM,C.ord])
  |bl b=>
   cases i with
   |bl d=>
    cases (show v=_ from l);cases (show u=_ from g);refine iN (by simp[zM,C.ord]) {_,O,iP (by simp[zM,C.ord]) {_,O,_,O,_,O,_,O, ?_}};let z:=q _ k;rw[show xL (zM (.bl b)) (zM (.bl d))=(if(b && !d)=true then 1 else 0)- (if(d && !b)=true then 1 else 0) by cases b<;>cases d<;>rfl] at z;exact z
   |_=>exact absurd j (by simp[zM,C.ord])
  |int b=>
   cases i with
   |int d=>
    cases (show v=_ from l);cases (show u=_ from g);refine iN (by simp[zM,C.ord]) {_,O,iP (by simp[zM,C.ord]) {_,O,_,O,_,O,_,O, ?_}};let z:=q _ k;rw[show xL (zM (.int b)) (zM (.int d))=(if d<b then 1 else 0)- (if b<d then 1 else 0) by rw[zM,zM,xL];rfl] at z
    simpa using z
   |_=>exact absurd j (by simp[zM,C.ord])
  |str b=>
   cases i with
   |str d=>
    cases (show v=_ from l);cases (show u=_ from g);refine iN (by simp[zM,C.ord]) {_,O,iP (by simp[zM,C.ord]) {_,O,_,O,_,O,_,O, ?_}};let z:=q _ k;rw[show xL (zM (.str b)) (zM (.str d))=(if d<b then 1 else 0)- (if b<d then 1 else 0) by rw[zM,zM,xL];rfl] at z;simp only[vJ,pO];exact z
   |_=>exact absurd j (by simp[zM,C.ord])
  |lst I=>exact absurd L (tX _)|dic ks I=>exact absurd L (tX _)|tup I=>exact D.elim
 ·refine nEA true ?_ (zMk {_,O,_,O,_,O,_,O, ?_})
  ·simpa [Int.ofNat_inj] using j
  ·let z:=q N k
   rw[zBf _ _ j,sgI] at z;exact z
theorem zNv{d:V1}{c:V7}(F:Fun K "_law_compare" "_law_compare" zVx f fd)(g:Fun K "_law_rows_compare" "_law_rows_compare" zNz d c)(B:Bl2 mg)(e:Dn P w K mg base 1 "_law_kind" ["_law_thing"] zEj)
  (b:Binds K fd ["_law_one","_law_other"] []) (i:A7 K (.ref f)=true) (m:mg "_law_compare" =Y (.ref f)) (j:Binds K c ["_law_one","_law_other"] []) (a:A7 K (.ref d)=true) (h:mg "_law_rows_compare" =Y (.ref d)):
  ∀n:Nat,FnOk P w K mg base CX0 (2+2*n) f fd ["_law_one","_law_other"] (zJz n)
 |0=>zXq F B e|n+1=>zXa F B e {_,_,zXx g B {_,_,zNv F g B e b i m j a h n,b,i,m},j,a,h}
abbrev zZr:V6:=top 61
def zMu(n:Nat):Sp:=λc H Q _=>∃(v u:V)(t a:T),c= [v,u]/\Rep H v t/\Rep H u a/\T.few t/\T.few a/\l7 t<=n/\l7 a<=n/\∀b,Same H b->Q (.bl (decide (xL (zM t) (zM a)=0))) b
theorem zRd:∀{t t':T},T.few t->T.few t'->xS (tyT t)≠xS (tyT t')->xL (zM t) (zM t')≠0:=by
 intro t t' h b c;let a:(zM t).ord≠(zM t').ord:=by
  intro e;apply c;cases t<;>cases t'<;>first | rfl | exact h.elim | exact b.elim | exact absurd e (by simp[zM,C.ord])
 rw[zBf _ _ a,sgI];split<;>split<;>lia
theorem zXh{n:Nat}(F:Fun K "_law_same" "_law_same" zZr f fd)(B:Bl2 mg)(a:Dn P w K mg base 1 "_law_kind" ["_law_thing"] zEj)(b:Dn P w K mg base (2+2*n) "_law_compare" ["_law_one","_law_other"] (zJz n)):
  FnOk P w K mg base CX0 (2+2*n+1) f fd ["_law_one","_law_other"] (zMu n):=by
 refine F.okn (N:=["_law_one","_law_other"]) λJ A p s H vs Q E nd d h=>?_;ext yK h v u t x r j;ext zQ j g c k l w1 j;ext oA j I q;subst r;refine nEA _ (zG (zI (qA (zIk (zNk (pD a d (zA (pv 0) zB)))) (qA (pE xC (pD a d (zA (pv 0) zB)) (pD a d (zA (pv 1) zB))) (vR (pE xC (pD b d (zA (pv 0) (zA (pv 1) zB))) zE)))))) ?_;walk_at "st";lk;obtain⟨M,i,-,-⟩:=uP t k;obtain⟨D,y,-,-⟩:=uP x l;refine{v,_,O,g.ty,λH1 m=>{true,by rw[i];rfl,zMk {v,_,O,(Rep.same m _ _ g).ty,λH2 g2=>{u,_,O,(Rep.same (m.trans g2) _ _ c).ty,λH3 L=>?_}}}};let e:=m.trans (g2.trans L);rw[i,y];refine{O, ?_}
 by_cases o:V.str M=V.str D
 ·refine iP o {v,u,t,x,O,Rep.same e _ _ g,Rep.same e _ _ c,k,l,w1,I,λH4 g4=>{O, ?_}}
  let z:=q _ (e.trans g4)
  simpa using z
 ·let z:=q _ e
  rw[nJ (zRd k l (by rw[i,y];exact o))] at z;exact iN o z
end
mutual
def T.gd:T->Prop
 |.str _=>True|.lst a=>m6 a|.tup a=>m6 a|.dic ks a=>ks.Nodup/\ks...*=a...*/\True/\m6 a|.non=>True|.bl _=>True|.int _=>True
def m6:List T->Prop
 |[]=>True|u::a=>T.gd u/\m6 a
end
mutual
noncomputable def qX:T->Nat
 |.lst a=>xW a+1|.dic _ a=>xW a+1|.tup _=>0|.non=>0|.bl _=>0|.int _=>0|.str _=>0
noncomputable def xW:List T->Nat
 |[]=>0|u::a=>max (qX u) (xW a)
end
mutual
noncomputable def lsz:T->Nat
 |.lst a=>vP a+1|.dic _ a=>vP a+1|.tup _=>1|.non=>1|.bl _=>1|.int _=>1|.str _=>1
noncomputable def vP:List T->Nat
 |[]=>0|u::a=>lsz u+vP a
end
mutual
noncomputable def jU:T->Bool
 |.lst a=>decide (a...*<=60)&& wA a|.dic ks a=>decide (ks...*<=30)&& wA a|.tup _=>true|.non=>true|.bl _=>true|.int _=>true|.str _=>true
noncomputable def wA:List T->Bool
 |[]=>true|u::a=>jU u && wA a
end
noncomputable def jQ:T->List T
 |.lst a=>a|.dic _ a=>a|_=>[]
noncomputable def wJ:T->Bool
 |.lst _=>true|.dic _ _=>true|_=>false
theorem ty_hT(t:T):(zT (tyT t) "list" || zT (tyT t) "dict")=wJ t:=by
 cases t<;>(simp only[tyT,wJ];decide+kernel)
theorem zDn{t:T}(h:wJ t=true):T.dep t=T.deps (jQ t)+1/\T.sz t=T.szs (jQ t)+1/\qX t=xW (jQ t)+1/\lsz t=vP (jQ t)+1:=by
 cases t<;>first | exact⟨O,O,O,O⟩| cases h
noncomputable def xK(t:T):Bool:=jU t && decide (qX t<9)&& decide (lsz t<201)
abbrev sCp:V6:=top 17
section
variable{P:V3}{w:V4}{K:A6}{mg:C8}{base:V5}{f:V1}{fd:V7}
def zQm(n:Nat):Sp:=λd H Q _=>∃(v:V)(t:T),d= [v]/\Rep H v t/\T.pure t/\T.dep t<n/\T.sz t<=100000/\∀c a D,Same H a->Sp1 a c t D->(∀b∈D,H b=none)->Q c a
theorem scCp:wC ["thing"] ["thing"] (zW sCp):=by walk_at "sc"
theorem yBx{n:Nat}(F:Fun K "copied" "copied" sCp f fd)(B:Bl mg)(m:Dn P w K mg base (1+n) "copied" ["thing"] (zQm n)):FnOk P w K mg base CX0 (1+n+1) f fd ["thing"] (zQm (n+1)):=by
 refine F.ok scCp (by walk_at "ln") λc A o s H vs Q E hr h=>?_;ext zX h v t aa r hp z_;ext oAA z_ hd hz q;subst aa;let nd:=scCp.nd;let hu:=vO hr;refine{_,(zD (zU (yI (pI B.isinstance zJ B.list xZ (pv 0))) (zG (zI (wW (own:=["part"]) (F:=[]) {O,tb_g%,tb_g%,tb_g%, .nil} O (wM (pv 0)) (λ_ _ _ _=>yH (i:=0) (by show(wN ["part"] []).Nodup;decide+kernel) O (nR O)) (λ_ _ _ _=>xU) (λ_ _ _ _=>(pD m hr (zA (pv 0) zB)))))) zL)
  (zD (zU (yI (pI B.isinstance zJ B.dict xV (pv 0))) (zG (zI (yU (zCt O) O B.dict xV (zA (zHq (wW (own:=["name","part"]) (F:=[]) {O,tb_g%,tb_g%,tb_g%, .nil} O (zUk (yDd aR PySem.F.slot_dict_items PySem.F.type_dict_items zTo (pv 0))) (λ_ _ _ _=>zPi (K:=K) (n:=2) O O (qQ (yH (i:=0) (by show(wN ["name","part"] []).Nodup;decide+kernel) O (nR O)) (qQ (yH (i:=1) (by show(wN ["name","part"] []).Nodup;decide+kernel) O (nR O)) zDd))) (λ_ _ _ _=>xU) (λ_ _ _ _=>(vW (zA (pv 0) (zA (pD m hr (zA (pv 1) zB)) zB)))))) zB)))) zL)
  (zD (zU (yI (pI B.isinstance zJ B.tuple zKr (pv 0))) (zG (zI (yU zFl O B.tuple zKr (zA (wW (own:=["part"]) (F:=[]) {O,tb_g%,tb_g%,tb_g%, .nil} O (wM (pv 0)) (λ_ _ _ _=>yH (i:=0) (by show(wN ["part"] []).Nodup;decide+kernel) O (nR O)) (λ_ _ _ _=>xU) (λ_ _ _ _=>(pD m hr (zA (pv 0) zB)))) zB)))) zL)
  (zG (zI (pv 0)))))), ?_}
 walk_at "st";lk
 cases t with
 |lst M=>
  ext yM r a xs aa ha hs;subst aa;let ay:=i3 M;let ap:T.szs M+1<=100000:=hz;let av:T.deps M+1<n+1:=hd;refine nEA ("list") (zAb ha) ?_;rw[mJ ∎];refine zUs a O {xs,SqL.of ha} (qL (K:=K) (xs:=xs) (λi L J=>Same H J/\∃D,Sps J L (M.take i) D/\∀b∈D,H b=none) ?_ {Same.refl _,[],⟨O,O⟩,λ_ h=>(nomatch h)} (λi L J _ h=>SqL.of (h.1 _ _ ha)) ?_ ?_)
  ·let:=hs...*
   rw[mV];lia
  ·rintro i u L J an _ ⟨g,D,hR,hD⟩
   refine oEA (hs.get an) λt' ab ag=>?_;let hm:=mO ab;let d1:=b7 hm;let d2:=d4 hm;lk;refine{u,t',O,Rep.same g u t' ag,i5 hp hm,∅,∅,λv' H4 D1 g4 af ac=>{g.trans g4,D++D1, ?_,λb y=>?_}}
   ·rw[yN ab]
    refine Sps.snoc af (hR.same g4) λb y z=>?_;obtain⟨o,ho⟩:=Sps.there _ _ _ hR y;rw[ac b z] at ho;cases ho
   ·rcases nE.mp y with z | z
    ·exact hD b z
    ·exact yQ g (ac b z)
  ·rintro L J _ ⟨g,D,hR,hD⟩ p x
   rw[hs...*,pH] at hR;let aq:p∉D:=λz=>by
    obtain⟨o,ho⟩:=Sps.there _ _ _ hR z;rw[x] at ho;cases ho
   refine q (.ref p) _ (p::D) (g.trans (zF x _)) {p,L,D,O,zC,O,aq,hR.same (zF x _)} λb y=>?_;rcases mG.mp y with z | z
   ·rw[z];exact yQ g x
   ·exact hD b z
 |dic ks M=>
  ext zX r d I aa N hk hs;subst aa;obtain⟨nk,hp⟩:=hp;let ay:=i3 M;let ap:T.szs M+1<=100000:=hz;let av:T.deps M+1<n+1:=hd;let az:I...*=M...*:=by let:=hs...*;rwa [mM] at this
  let ar:(I.map (·.1)).Nodup:=by rw[hk];exact zBn nk
  refine nEA ("dict") (gU N) ?_;rw[mH ∎];refine nEA ("dict") (gU N) ?_;rw[mJ ∎];refine{.inr (.inr (.inl {O, .inl ⟨I,N⟩})),d,I,O,O, .inl N,λpv ax=>?_};let s1:=zF ax (zFo pv d);let am:=s1 _ _ N;refine kE pv d I O zC (.inl {am,λo=>?_});let gf:Same (upd H d (.frz o (.dK I))) (upd (upd H pv (zFo pv d)) d (.frz o (.dK I))):=λb u e=>by
   by_cases y:b=d
   ·subst y;rw[zC] at e⊢;exact e
   ·rw[zK y] at e⊢
    exact s1 _ _ e
  let gH:∀b,upd (upd H pv (zFo pv d)) d (.frz o (.dK I)) b=none->H b=none:=λb e=>by
   by_cases y:b=d
   ·subst y;rw[zC] at e;cases e
   ·rw[zK y] at e
    exact yQ s1 e
  let ak:Reps (upd (upd H pv (zFo pv d)) d (.frz o (.dK I))) (I.map (·.2)) M:=j5 am hk (Reps.same s1 _ _ hs);let ah:upd (upd H pv (zFo pv d)) d (.frz o (.dK I)) d=Y (.frz o (.dK I)):=zC;generalize upd (upd H pv (zFo pv d)) d (.frz o (.dK I))=Hf at gf gH ak ah⊢;refine zMt (K:=K) (λi L J=>Same Hf J/\∃(k:D0)(D:B9),k...*=L...*/\k.map (·.1)=(I.take i).map (·.1)/\Sps J (k.map (·.2)) (M.take i) D/\(∀b∈D,H b=none)/\∀(j:Nat) kv,k[j]? =Y kv->∃a,L[j]? =Y (.ref a)/\J a=Y (.tup [kV kv.1,kv.2])) ?_ {Same.refl _,[],[],O,O,⟨O,O⟩,λ_ h=>(nomatch h),by intro j kv h;simp at h} (λi L J h=>h.1 _ _ ah) ?_ ?_
  ·rw[mV];lia
  ·rintro i kv L J pt al _ ⟨g,k,D,l1,l2,hR,hD,ht⟩ aw
   let s2:=zF aw (.tup [kV kv.1,kv.2]);let g2:=g.trans s2;lk;obtain⟨t',ab,ag⟩:=ak.get (i:=i) (v:=kv.2) (by rw[nG,al];rfl);let hm:=mO ab;let d1:=b7 hm;let d2:=d4 hm;refine{kv.2,t',O,Rep.same g2 _ t' ag,i5 hp hm,∅,∅,λv' H1 D1 g1 af ac p ae=>{(g2.trans g1).trans (zF ae _),k++ [(kv.1,v')],by simp[l1], ?_,D++D1, ?_,λb y=>?_, ?_}}
   ·rw[yN al,nH,nH,l2];rfl
   ·rw[yN ab,nH]
    refine Sps.snoc (af.same (zF ae _)) (hR.same (s2.trans (g1.trans (zF ae _)))) λb y z=>?_;obtain⟨ob,ho⟩:=Sps.there _ _ _ (hR.same s2) y;rw[ac b z] at ho;cases ho
   ·rcases nE.mp y with z | z
    ·exact hD b z
    ·exact gH b (yQ g2 (ac b z))
   ·intro j a0 hj
    by_cases au:j<k...*
    ·rw[pB au] at hj
     refine oEA (ht j a0 hj) λa e1 e2=>?_;exact nEA a (by rw[pB ∅];exact e1) (zF ae _ _ _ (g1 _ _ (s2 _ _ e2)))
    ·rw[nU ∅] at hj
     let ai:j - k...*=0:=by
      let:=(mN.mp hj).1
      simpa using this
     rw[ai] at hj;simp only[pJ,Option.some.injEq] at hj;subst hj;exact nEA p (by rw[nU ∅,<-l1,ai];rfl) zC
  ·rintro L J _ ⟨g,k,D,l1,l2,hR,hD,ht⟩ p x
   rw[az,pH] at hR;rw[pH] at l2;let gs:Same H (thaw H (upd J p (.lst L))):=uS (o:=o) N (gf.trans (g.trans (zF x _)));let aj:Sps (thaw H (upd J p (.lst L))) (k.map (·.2)) M D:=(hR.same (zF x _)).thaw;refine qW p O L (wX zC (by intro o v z;cases z)) k (nAA l1 (λj kv hj=>?_) (λl hl=>?_))
   ·refine oEA (ht j kv hj) λa e1 e2=>?_
    exact nEA a e1 (wX (zF x _ _ _ e2) (by intro o v z;cases z))
   ·let em:jT [] k=k:=gO k [] (by rw[aE,l2];exact ar)
    rw[em];let ao:l∉D:=λz=>by
     obtain⟨ob,ho⟩:=Sps.there _ _ _ aj z;rw[hl] at ho;cases ho
    refine q (.ref l) _ (l::D) (gs.trans (zF hl _)) {l,k,D,O,zC,l2.trans hk,O,ao,aj.same (zF hl _)} λb y=>?_;rcases mG.mp y with z | z
    ·rw[z];exact yQ gs hl
    ·exact hD b z
 |tup M=>exact hp.elim|non=>exact{_,r.ty,by rw[mH (by simp[tyT,zT])];exact{_,r.ty,by rw[mH (by simp[tyT,zT])];exact{_,r.ty,by rw[mH (by simp[tyT,zT])];exact q _ _ [] (Same.refl _) ⟨O,r⟩ (λ_ h=>nomatch h)}}}|bl b=>exact{_,r.ty,by rw[mH (by simp[tyT,zT])];exact{_,r.ty,by rw[mH (by simp[tyT,zT])];exact{_,r.ty,by rw[mH (by simp[tyT,zT])];exact q _ _ [] (Same.refl _) ⟨O,r⟩ (λ_ h=>nomatch h)}}}|int b=>exact{_,r.ty,by rw[mH (by simp[tyT,zT])];exact{_,r.ty,by rw[mH (by simp[tyT,zT])];exact{_,r.ty,by rw[mH (by simp[tyT,zT])];exact q _ _ [] (Same.refl _) ⟨O,r⟩ (λ_ h=>nomatch h)}}}|str b=>exact{_,r.ty,by rw[mH (by simp[tyT,zT])];exact{_,r.ty,by rw[mH (by simp[tyT,zT])];exact{_,r.ty,by rw[mH (by simp[tyT,zT])];exact q _ _ [] (Same.refl _) ⟨O,r⟩ (λ_ h=>nomatch h)}}}
abbrev sCo:V6:=top 62
theorem scCo:wC ["_law_thing"] ["_law_thing"] (zW sCo):=by walk_at "sc"
def zIn(n:Nat):Sp:=λd H Q _=>∃(v:V)(t:T),d= [v]/\Rep H v t/\T.few t/\T.dep t<n/\∀c a D,Same H a->Sp1 a c t D->(∀b∈D,H b=none)->Q c a
theorem yCt{n:Nat}(F:Fun K "_law_held" "_law_held" sCo f fd)(B:Bl mg)(m:Dn P w K mg base (1+n) "_law_held" ["_law_thing"] (zIn n)):FnOk P w K mg base CX0 (1+n+1) f fd ["_law_thing"] (zIn (n+1)):=by
 refine F.ok scCo (by walk_at "ln") λc A o s H vs Q E hr h=>?_;ext zX h v t aa y hp z_;ext oA z_ hd q;subst aa;let nd:=scCo.nd;let hu:=vO hr;refine{_,(zD (zU (yI (pI B.isinstance zJ B.list xZ (pv 0))) (zG (zI (wW (own:=["_law_one"]) (F:=[]) {O,tb_g%,tb_g%,tb_g%, .nil} O (wM (pv 0)) (λ_ _ _ _=>yH (i:=0) (by show(wN ["_law_one"] []).Nodup;decide+kernel) O (nR O)) (λ_ _ _ _=>xU) (λ_ _ _ _=>(pD m hr (zA (pv 0) zB)))))) zL)
  (zD (zU (yI (pI B.isinstance zJ B.dict xV (pv 0))) (zG (zI (yU (zCt O) O B.dict xV (zA (zHq (wW (own:=["_law_name"]) (F:=[("_law_thing",0)]) {O,tb_g%,tb_g%,tb_g%,(.cons O O O .nil)} O (zPh (pv 0)) (λ_ _ _ _=>yH (i:=0) (by show(wN ["_law_name"] [("_law_thing",0)]).Nodup;decide+kernel) O (nR O)) (λ_ _ _ _=>xU) (λ_ _ _ _=>(vW (zA (pv 0) (zA (pD m hr (zA (vV hu (pv 1) (pv 0) (λ_ _=>O)) zB)) zB)))))) zB)))) zL)
  (zG (zI (pv 0))))), ?_}
 walk_at "st";lk
 cases t with
 |lst us=>
  ext yM y a xs aa ha hs;subst aa;obtain⟨av,hp⟩:=hp;let au:T.deps us+1<n+1:=hd;refine nEA ("list") (zAb ha) ?_;rw[mJ ∎];refine zUs a O {xs,SqL.of ha} (qL (K:=K) (xs:=xs) (λi J x=>Same H x/\∃D,Sps x J (us.take i) D/\∀b∈D,H b=none) ?_ {Same.refl _,[],⟨O,O⟩,λ_ h=>(nomatch h)} (λi J x _ h=>SqL.of (h.1 _ _ ha)) ?_ ?_)
  ·let:=hs...*
   rw[mV];lia
  ·rintro i u J x ao _ ⟨g,D,M,hD⟩
   refine oEA (hs.get ao) λt' ab ai=>?_;let hm:=mO ab;let d1:=b7 hm;lk;refine{u,t',O,Rep.same g u t' ai,b9 hp hm,∅,λv' H4 D1 g4 ah ae=>{g.trans g4,D++D1, ?_,λb I=>?_}}
   ·rw[yN ab]
    refine Sps.snoc ah (M.same g4) λb I z=>?_;obtain⟨o,ho⟩:=Sps.there _ _ _ M I;rw[ae b z] at ho;cases ho
   ·rcases nE.mp I with z | z
    ·exact hD b z
    ·exact yQ g (ae b z)
  ·rintro J x _ ⟨g,D,M,hD⟩ p r
   rw[hs...*,pH] at M;let aq:p∉D:=λz=>by
    obtain⟨o,ho⟩:=Sps.there _ _ _ M z;rw[r] at ho;cases ho
   refine q (.ref p) _ (p::D) (g.trans (zF r _)) {p,J,D,O,zC,O,aq,M.same (zF r _)} λb I=>?_;rcases mG.mp I with z | z
   ·rw[z];exact yQ g r
   ·exact hD b z
 |dic ks us=>
  ext zX y d L aa ac hk hs;subst aa;ext xI hp nk ay av hp;let au:T.deps us+1<n+1:=hd;let aw:L...*=us...*:=by let:=hs...*;rwa [mM] at this
  let am:(L.map (·.1)).Nodup:=by rw[hk];exact zBn nk
  refine nEA ("dict") (gU ac) ?_;rw[mH ∎];refine nEA ("dict") (gU ac) ?_;rw[mJ ∎];refine nEAE d O L (.inl {ac,λo=>?_});let gf:Same (upd H d (.frz o (.dK L))) (upd H d (.frz o (.dK L))):=Same.refl _;let gH:∀b,upd H d (.frz o (.dK L)) b=none->H b=none:=λb e=>by
   by_cases I:b=d
   ·subst I;rw[zC] at e;cases e
   ·rw[zK I] at e
    exact e
  let an:Reps (upd H d (.frz o (.dK L))) (L.map (·.2)) us:=j5 ac hk hs;let ag:upd H d (.frz o (.dK L)) d=Y (.frz o (.dK L)):=zC;generalize hHf:upd H d (.frz o (.dK L))=Hf at gf gH an ag⊢;refine zGt (λi J x=>Same Hf x/\∃(k:D0)(D:B9),k...*=J...*/\k.map (·.1)=(L.take i).map (·.1)/\Sps x (k.map (·.2)) (us.take i) D/\(∀b∈D,H b=none)/\∀(j:Nat) N,k[j]? =Y N->∃a,J[j]? =Y (.ref a)/\x a=Y (.tup [kV N.1,N.2])) ?_ {Same.refl _,[],[],O,O,⟨O,O⟩,λ_ h=>(nomatch h),by intro j N h;simp at h} (λi J x h=>h.1 _ _ ag) ?_ ?_
  ·rw[mV];lia
  ·rintro i N J x aj _ ⟨g,k,D,l1,l2,M,hD,ht⟩
   let s2:=Same.refl x;let g2:=g.trans s2;lk;obtain⟨t',ab,ai⟩:=an.get (i:=i) (v:=N.2) (by rw[nG,aj];rfl);let hm:=mO ab;let d1:=b7 hm;refine{N.2, .inl {L,N.1, .inr {o,g _ _ ag},O,(zDf am aj).symm},N.2,t',O,Rep.same g2 _ t' ai,b9 hp hm,∅,λv' H1 D1 g1 ah ae p af=>{(g2.trans g1).trans (zF af _),k++ [(N.1,v')],by simp[l1], ?_,D++D1, ?_,λb I=>?_, ?_}}
   ·rw[yN aj,nH,nH,l2];rfl
   ·rw[yN ab,nH]
    refine Sps.snoc (ah.same (zF af _)) (M.same (s2.trans (g1.trans (zF af _)))) λb I z=>?_;obtain⟨ob,ho⟩:=Sps.there _ _ _ (M.same s2) I;rw[ae b z] at ho;cases ho
   ·rcases nE.mp I with z | z
    ·exact hD b z
    ·exact gH b (yQ g2 (ae b z))
   ·intro j ax hj
    by_cases ar:j<k...*
    ·rw[pB ar] at hj
     refine oEA (ht j ax hj) λa e1 e2=>?_;exact nEA a (by rw[pB ∅];exact e1) (zF af _ _ _ (g1 _ _ (s2 _ _ e2)))
    ·rw[nU ∅] at hj
     let ak:j - k...*=0:=by
      let:=(mN.mp hj).1
      simpa using this
     rw[ak] at hj;simp only[pJ,Option.some.injEq] at hj;subst hj;exact nEA p (by rw[nU ∅,<-l1,ak];rfl) zC
  ·rintro J x _ ⟨g,k,D,l1,l2,M,hD,ht⟩ p r
   rw[aw,pH] at M;rw[pH] at l2;let gs:Same H (thaw H (upd x p (.lst J))):=uS (o:=o) ac (by rw[hHf];exact g.trans (zF r _));let al:Sps (thaw H (upd x p (.lst J))) (k.map (·.2)) us D:=(M.same (zF r _)).thaw;refine qW p O J (wX zC (by intro o v z;cases z)) k (nAA l1 (λj N hj=>?_) (λl hl=>?_))
   ·refine oEA (ht j N hj) λa e1 e2=>?_
    exact nEA a e1 (wX (zF r _ _ _ e2) (by intro o v z;cases z))
   ·let em:jT [] k=k:=gO k [] (by rw[aE,l2];exact am)
    rw[em];let ap:l∉D:=λz=>by
     obtain⟨ob,ho⟩:=Sps.there _ _ _ al z;rw[hl] at ho;cases ho
    refine q (.ref l) _ (l::D) (gs.trans (zF hl _)) {l,k,D,O,zC,l2.trans hk,O,ap,al.same (zF hl _)} λb I=>?_;rcases mG.mp I with z | z
    ·rw[z];exact yQ gs hl
    ·exact hD b z
 |tup us=>exact hp.elim|non=>exact{_,y.ty,by rw[mH (by simp[tyT,zT])];exact{_,y.ty,by rw[mH (by simp[tyT,zT])];exact q _ _ [] (Same.refl _) ⟨O,y⟩ (λ_ h=>nomatch h)}}|bl b=>exact{_,y.ty,by rw[mH (by simp[tyT,zT])];exact{_,y.ty,by rw[mH (by simp[tyT,zT])];exact q _ _ [] (Same.refl _) ⟨O,y⟩ (λ_ h=>nomatch h)}}|int b=>exact{_,y.ty,by rw[mH (by simp[tyT,zT])];exact{_,y.ty,by rw[mH (by simp[tyT,zT])];exact q _ _ [] (Same.refl _) ⟨O,y⟩ (λ_ h=>nomatch h)}}|str b=>exact{_,y.ty,by rw[mH (by simp[tyT,zT])];exact{_,y.ty,by rw[mH (by simp[tyT,zT])];exact q _ _ [] (Same.refl _) ⟨O,y⟩ (λ_ h=>nomatch h)}}
theorem yBw(F:Fun K "copied" "copied" sCp f fd):FnOk P w K mg base CX0 1 f fd ["thing"] (zQm 0):=by
 refine F.ok scCp (by walk_at "ln") λc A o s H i Q E j h=>?_;ext zX h v t a e g d;ext oA d b _;subst a;exact absurd b (sK _)
theorem yDj(F:Fun K "_law_held" "_law_held" sCo f fd):FnOk P w K mg base CX0 1 f fd ["_law_thing"] (zIn 0):=by
 refine F.ok scCo (by walk_at "ln") λc A o s H i Q E j h=>?_;ext zX h v t a e g d;ext oA d b _;subst a;exact absurd b (sK _)
theorem zTi(F:Fun K "copied" "copied" sCp f fd)(B:Bl mg)(b:Binds K fd ["thing"] [])(a:A7 K (.ref f)=true)(m:mg "copied" =Y (.ref f)):∀n:Nat,FnOk P w K mg base CX0 (1+n) f fd ["thing"] (zQm n)
 |0=>yBw F|n+1=>yBx F B {_,_,zTi F B b a m n,b,a,m}
theorem zSj(F:Fun K "_law_held" "_law_held" sCo f fd)(B:Bl mg)(b:Binds K fd ["_law_thing"] [])(a:A7 K (.ref f)=true)(m:mg "_law_held" =Y (.ref f)):∀n:Nat,FnOk P w K mg base CX0 (1+n) f fd ["_law_thing"] (zIn n)
 |0=>yDj F|n+1=>yCt F B {_,_,zSj F B b a m n,b,a,m}
end
mutual
def T.gk:T->Prop
 |.int i=>-(10 ^ 12)<=i/\i<=10 ^ 12|.str x=>x...*<=30/\∀c∈x,c∈zBl|.lst ts=>j7 ts|.dic ks ts=>(∀k∈ks,xA k=true)/\j7 ts|.tup _=>False|.non=>True|.bl _=>True
def j7:List T->Prop
 |[]=>True|t::ts=>T.gk t/\j7 ts
end
theorem c7{t:T}:∀{ts:B0},j7 ts->t∈ts->T.gk t
 |[],_,h=>nomatch h|u::ts,h,a=>(mG.mp a).elim (λe=>e▸h.1) (c7 h.2)
theorem i6{ts:B0}(h:∀t∈ts,T.gk t):j7 ts:=by
 induction ts with|nil=>exact mS|cons t ts a=>exact{h t mE,a λu b=>h u (mI _ b)}
structure Fig(d z:Nat)(t:T):Prop where
 few:T.few t
 gk:T.gk t
 dep:T.dep t<=d
 sz:T.sz t<=z
theorem Fig.row{d z:Nat}{us:B0}(h:∀u∈us,T.few u/\T.gk u/\T.dep u+1<=d)(c:1<=d)(hz:T.szs us+1<=z)(b:T.szs us<=100000):Fig d z (.lst us):=by
 refine{{nP (zPe us) b,zHa λu a=>(h u a).1},i6 λu a=>(h u a).2.1, ?_,hz};let:T.deps us<=d - 1:=d5 λu a=>by let:=(h u a).2.2;lia
 show T.deps us+1<=d
 lia
theorem m9{d z:Nat}{ks:C6}{us:B0}(b:∀k∈ks,xA k=true)(c:ks.Nodup)(f:ks...*<64)(e:ks...*=us...*)(h:∀u∈us,T.few u/\T.gk u/\T.dep u+1<=d)(g:1<=d)(hz:T.szs us+1<=z):Fig d z (.dic ks us):=by
 refine{{c,f,e,zHa λu a=>(h u a).1},{b,i6 λu a=>(h u a).2.1}, ?_,hz};let:T.deps us<=d - 1:=d5 λu a=>by let:=(h u a).2.2;lia
 show T.deps us+1<=d
 lia
theorem zBc:∀(d:Nat)(t:T),d<=4->Nice d t->Fig d (gQ d) t
 |d, .non,_,_=>{mS,mS,nL _,uO d}|d, .bl _,_,_=>{mS,mS,nL _,uO d}|d, .int _,_,h=>{mS,h,nL _,uO d}|d, .str x,_,h=>by
  let g:zCf x=true:=h;unfold zCf at g;simp only[nX,pO,pW] at g;exact{mS,g,nL _,uO d}
 |0, .lst ts,_,h=>absurd h.1 ∎|d+1, .lst ts,i,h=>by
  obtain⟨_,e,f⟩:=h;let k:∀t∈ts,Fig d (gQ d) t:=λt a=>zBc d t ∅ (NiceL_iff.mp f t a);let z:=zBy λt a=>(k t a).sz;let l:ts...**gQ d<=4*gQ d:=tW _ e;let o:=zSr d ∅;refine Fig.row (λu b=>{(k u b).few,(k u b).gk,rA (k u b).dep}) (rA (nL _)) ?_ ∅;show _<=4*gQ d+1
  lia
 |0, .dic n ts,_,h=>absurd h.1 ∎|d+1, .dic n ts,i,h=>by
  ext zQ h _ e c m j f;let k:∀t∈ts,Fig d (gQ d) t:=λt a=>zBc d t ∅ (NiceL_iff.mp f t a);let z:=zBy λt a=>(k t a).sz;let l:ts...**gQ d<=4*gQ d:=tW _ e;refine m9 j m ∅ c (λu b=>{(k u b).few,(k u b).gk,rA (k u b).dep}) (rA (nL _)) ?_;show _<=4*gQ d+1
  lia
 |d, .tup ts,_,h=>by cases d<;>exact h.elim
abbrev sLo:V6:=top 33
noncomputable def zP:T->Key->Option T
 |.lst a, .inl i=>a[i.toNat]?|.dic ks a, .inr s=>if ts s∈ks then Y (zV (ts s) ks a) else none|_,_=>none
def okK:Key->Prop
 |.inl i=>0<=i/\i<=59|.inr _=>True
theorem zRy{H:Hp}{ps:D0}{ks:C6}{us:B0}(f:ks.Nodup)(c:ps.map (·.1)=ks.map nK)(g:Reps H (ps.map (·.2)) us)(s:Str):(jD ps (Sum.inr s)).isSome=decide (ts s∈ks):=by
 by_cases a:ts s∈ks
 ·obtain⟨v,b,_⟩:=d8 f c g a
  rw[qC] at b;rw[b,nO a]
  rfl
 ·rw[nJ a,zCb (by
   rw[c];intro z;obtain⟨k,b,d⟩:=nZ.mp z;let e:tx k=s:=Sum.inr.inj d;rw[<-e,vJ] at a;exact a b)]
  rfl
theorem zSb{K:A6}{H:Hp}{v:V}{t:T}{k:Key}{Q:VK}(h:Rep H v t)(m:T.pure t)(u:okK k)(q:Q (.bl (zP t k).isSome) H):∃x,tyS H (kV k)=Y x/\if zT x "str" =true then∃x,tyS H v=Y x/\if zT x "dict" =true then zYs (jE 1) (jE 0) [Y v,Y (kV k)] H Q else Q (V.bl false) H
  else∃x,tyS H v=Y x/\if zT x "list" =true then∃p,v=V.ref p/\∃ys,SqL K H p ys/\∃i,kV k=V.int i/\Q (V.bl (decide (i<(ys...*:Int)))) H else Q (V.bl false) H:=by
 cases k with
 |inl i=>
  let y:0<=i:=u.1;refine nEA ("int") O (iN ∎ {_,h.ty, ?_})
  cases t with
  |lst d=>
   ext yM h a o f n l;subst f;refine iP O {a,O,o,SqL.of n,i,O, ?_};let w:=l...*;let e:(zP (.lst d) (.inl i)).isSome=decide (i<(o...*:Int)):=by
    show(d[i.toNat]?).isSome=_
    by_cases c:i.toNat<d...*
    ·rw[mU c,nO ∅]
     rfl
    ·rw[sF ∅,nJ ∅]
     rfl
   rw[<-e];exact q
  |non=>exact iN (by simp[tyT,zT]) q|bl b=>exact iN (by simp[tyT,zT]) q|int b=>exact iN (by simp[tyT,zT]) q|str b=>exact iN (by simp[tyT,zT]) q|dic g d=>exact iN (by simp[tyT,zT]) q|tup d=>exact m.elim
 |inr s=>
  refine nEA ("str") O (iP ∎ {_,h.ty, ?_})
  cases t with
  |dic g d=>
   ext zX h a r f n j l;subst f;refine iP O {a,_,O, .inl {r, .inr s, .inl n,O,O}, ?_};rw[zRy m.1 j l];let e:(zP (.dic g d) (.inr s)).isSome=decide (ts s∈g):=by
    show(if ts s∈g then Y (zV (ts s) g d) else none).isSome=_
    by_cases c:ts s∈g
    ·rw[mJ c,nO c];rfl
    ·rw[mH c,nJ c];rfl
   rw[<-e];exact q
  |non=>exact iN (by simp[tyT,zT]) q|bl b=>exact iN (by simp[tyT,zT]) q|int b=>exact iN (by simp[tyT,zT]) q|str b=>exact iN (by simp[tyT,zT]) q|lst d=>exact iN (by simp[tyT,zT]) q|tup d=>exact m.elim
section
variable{P:V3}{w:V4}{K:A6}{mg:C8}{base:V5}{f:V1}{fd:V7}
def zRn:Sp:=λb H Q _=>∃(v:V)(t:T)(k:Key),b= [v,kV k]/\Rep H v t/\T.pure t/\T.sz t<=100000/\okK k/\∀a,Same H a->Q (.bl (zP t k).isSome) a
theorem ok_lo(F:Fun K "leads_on" "leads_on" sLo f fd)(B:Bl mg):FnOk P w K mg base CX0 1 f fd ["thing","step"] zRn:=by
 refine F.okn (N:=["thing","step"]) λe A a s H o Q E m l h=>?_;ext zZ h v t k b g j;ext xI j i n d q;subst b;let c:=vO l;refine{_,(zD (zU (yI (pI B.isinstance zJ B.str vY (pv 1))) (zG (zI (qA (pI B.isinstance zJ B.dict xV (pv 0)) (vR (zIk (zLv c (pv 1) (pv 0))))))) zL)
  (zG (zI (qA (pI B.isinstance zJ B.list xZ (pv 0)) (vR (pE kL (pv 1) (zN yA O B.len yR (zA (pv 0) zB)))))))), ?_}
 walk_at "st";lk;exact zSb g i d (q _ (Same.refl _))
noncomputable def goT:T->List Key->List T
 |t,[]=>[t]|t,k::a=>match zP t k with
  |none=>[t]|some u=>t::goT u a
theorem zNn{H:Hp}{c:V}{u m:T}{k:Key}(L:Rep H c u)(h:T.pure u)(r:T.sz u<=100000)(hk:okK k)(d:zP u k=Y m):
  ∃p,Rep H p m/\T.pure m/\T.sz m<=100000/\((∃b zs j,c= .ref b/\H b=Y (.lst zs)/\kV k= .int j/\atI zs j=Y p)\/(∃b y,c= .ref b/\H b=Y (.dK y)/\jD y k=Y p)):=by
 cases k with
 |inl j=>
  let hj:0<=j:=hk.1
  cases u with
  |lst n=>
   let a:n[j.toNat]? =Y m:=d;ext yM L b zs g B q;subst g;let i:=mO a;let aa:=q...*;let N:=(mN.mp a).1;let v:j.toNat<zs...*:=by lia
   obtain⟨t',s,D⟩:=q.get (mU v);rw[a] at s;cases s;let Q:=d4 i;let I:T.szs n+1<=100000:=r;let E:atI zs j=some zs[j.toNat]:=by
    let z:=yC (j:=j.toNat) (mU v)
    rwa [show((j.toNat:Nat):Int)=j by lia] at z
   exact zJx _ D (i5 h i) ∅ (.inl ⟨b,zs,j,O,B,O,E⟩)
  |non=>cases d|bl b=>cases d|int b=>cases d|str b=>cases d|dic e l=>cases d|tup l=>cases d
 |inr z=>
  cases u with
  |dic e n=>
   let a:(if ts z∈e then Y (zV (ts z) e n) else none)=Y m:=d
   by_cases i:ts z∈e
   ·rw[mJ i] at a
    cases a;ext zX L b y g B o t;subst g;obtain⟨p,J,M⟩:=d8 h.1 o t i;rw[qC] at J;let I:T.szs n+1<=100000:=r;let A:e...*=n...*:=by
     let e1:=congrArg List.length o;let e2:=t...*;rw[mM,mM] at e1;rw[mM] at e2
     lia
    let x:=yY i A;let Q:=d4 x;exact zJx p M (i5 h.2 x) ∅ (.inr ⟨b,y,O,B,J⟩)
   ·rw[mH i] at a
    cases a
  |non=>cases d|bl b=>cases d|int b=>cases d|str b=>cases d|lst l=>cases d|tup l=>cases d
inductive Wd where
 |put | ins | tak
noncomputable def Wd.s:Wd->Str
 |.put=>A5 "put"|.ins=>A5 "insert"|.tak=>A5 "take"
noncomputable def xO:Wd->T->Key->Bool
 |.tak,t,k=>(zP t k).isSome|.put, .dic _ _, .inr _=>true|.put, .lst us, .inl i=>decide (i<=(us...*:Int))|.ins, .lst us, .inl i=>decide (i<=(us...*:Int))|_,_,_=>false
noncomputable def yS(n:List Nat):List (List Nat)->List T->List T
 |k::b,u::a=>if k=n then yS n b a else u::yS n b a|_,_=>[]
noncomputable def xF(n:List Nat):List (List Nat)->List (List Nat)
 |k::a=>if k=n then xF n a else k::xF n a|[]=>[]
noncomputable def yB:Wd->T->Key->T->T
 |.put, .dic ks a, .inr s,n=>.dic (yZ (ks,a) (ts s) n).1 (yZ (ks,a) (ts s) n).2|.tak, .dic ks a, .inr s,_=>.dic (xF (ts s) ks) (yS (ts s) ks a)|.put, .lst a, .inl i,n=>.lst (a.take i.toNat++n::a.drop (i.toNat+1))|.ins, .lst a, .inl i,n=>.lst (a.take i.toNat++n::a.drop i.toNat)|.tak, .lst a, .inl i,_=>.lst (a.take i.toNat++a.drop (i.toNat+1))|_,t,_,_=>t
noncomputable def bld(st:B0)(ks:B8):Nat->T->T
 |0,r=>r|m+1,r=>bld st ks m (yB .put (st.getD m .non) (ks.getD m (.inl 0)) r)
noncomputable def chG(w:Wd)(a:T->Key->T)(t:T)(ks:B8)(n:T):Sum Nat T:=
 match ks.getLast? with
 |none=>match w with
  |.put=>.inr n|_=>.inl 0
 |some k=>if(goT t ks.dropLast)...*<ks...* then .inl ((goT t ks.dropLast)...* - 1) else
  match (goT t ks.dropLast).getLast? with|none=>.inl 0|some s=>if xO w s k=true then .inr (bld (goT t ks.dropLast) ks (ks...* - 1) (a s k)) else .inl (ks...* - 1)
theorem dropN_mem{n k:List Nat}:∀{ks:C6},k∈xF n ks↔k∈ks/\k≠n
 |[]=>by simp[xF]|k'::ks=>by
  unfold xF;split
  ·rename_i e
   rw[dropN_mem (ks:=ks),e];constructor
   ·exact λh=>{mI _ h.1,h.2}
   ·rintro⟨h1,a⟩
    rcases mG.mp h1 with z | z
    ·exact absurd z a
    ·exact⟨z,a⟩
  ·rename_i e
   rw[mG,dropN_mem (ks:=ks),mG];constructor
   ·rintro(h | h)
    ·exact{.inl h,by rw[h];exact e}
    ·exact{.inr h.1,h.2}
   ·rintro⟨h1 | h1,a⟩
    ·exact .inl h1
    ·exact .inr ⟨h1,a⟩
theorem vK{n:List Nat}:∀{ks:C6},ks.Nodup->(xF n ks).Nodup
 |[],_=>by simp[xF]|k::ks,h=>by
  rw[nY] at h;unfold xF;split
  ·exact vK h.2
  ·rw[nY]
   exact{λz=>h.1 (dropN_mem.mp z).1,vK h.2}
theorem zBd{n:List Nat}:∀{ks:C6}{us:B0},ks...*=us...*->(xF n ks)...*=(yS n ks us)...*/\(yS n ks us)...*<=us...*
 |[],[],_=>{O,mD _}|[],_::_,h=>by simp at h|_::_,[],h=>by simp at h|k::ks,u::us,h=>by
  obtain⟨b,a⟩:=zBd (n:=n) (ks:=ks) (us:=us) (by simpa using h);unfold xF yS;split
  ·exact{b,sY a}
  ·exact{by rw[mP,mP,b],rA a}
theorem uZ{n:List Nat}{u:T}:∀{ks:C6}{us:B0},u∈yS n ks us->u∈us
 |[],us,h=>by cases us<;>simp[yS] at h|_::_,[],h=>by simp[yS] at h|k::ks,v::us,h=>by
  unfold yS at h;split at h
  ·exact mI _ (uZ h)
  ·rcases mG.mp h with z | z
   ·rw[z];exact mE
   ·exact mI _ (uZ z)
theorem kP{n k:List Nat}(b:k≠n):∀{ks:C6}{us:B0},ks...*=us...*->zV k (xF n ks) (yS n ks us)=zV k ks us
 |[],[],_=>rfl|[],_::_,h=>by simp at h|_::_,[],h=>by simp at h|k'::ks,u::us,h=>by
  let a:=kP b (ks:=ks) (us:=us) (by simpa using h);unfold xF yS;split
  ·rename_i e
   rw[a];show _=if k'=k then u else zV k ks us;rw[mH (by rw[e];exact Ne.symm b)]
  ·show(if k'=k then u else zV k (xF n ks) (yS n ks us))=if k'=k then u else zV k ks us
   rw[a]
theorem uE{k n:List Nat}{t:T}:∀{ks:C6}{us:B0},ks...*=us...*->k∈ks->zV k (ks++ [n]) (us++ [t])=zV k ks us
 |[],_,_,h=>nomatch h|_::_,[],h,_=>by simp at h|k'::ks,u::us,a,h=>by
  show(if k'=k then u else zV k (ks++ [n]) (us++ [t]))=if k'=k then u else zV k ks us
  by_cases e:k'=k
  ·rw[mJ e,mJ e]
  ·rw[mH e,mH e]
   rcases mG.mp h with z | z
   ·exact absurd z.symm e
   ·exact uE (by simpa using a) z
theorem gC{n:List Nat}{t:T}:∀{ks:C6}{us:B0},ks...*=us...*->n∉ks->zV n (ks++ [n]) (us++ [t])=t
 |[],[],_,_=>mJ O|[],_::_,h,_=>by simp at h|_::_,[],h,_=>by simp at h|k'::ks,u::us,a,h=>by
  show(if k'=n then u else zV n (ks++ [n]) (us++ [t]))=t;rw[mH (λe=>h (by rw[e];exact mE))];exact gC (by simpa using a) λz=>h (mI _ z)
theorem jK{n k:List Nat}{t:T}:∀{ks:C6}{us:B0},ks...*=us...*->n∈ks->zV k ks (yL n t ks us)=if k=n then t else zV k ks us
 |[],_,_,h=>nomatch h|_::_,[],h,_=>by simp at h|k'::ks,u::us,i,h=>by
  show(if k'=k then(if k'=n then t else u) else zV k ks (yL n t ks us))=if k=n then t else if k'=k then u else zV k ks us
  by_cases e:k'=k
  ·rw[mJ e,mJ e,e]
  ·rw[mH e,mH e]
   by_cases c:n∈ks
   ·exact jK (by simpa using i) c
   ·let g:k'=n:=by
     rcases mG.mp h with z | z
     ·exact z.symm
     ·exact absurd z c
    rw[mH (by rw[<-g];exact Ne.symm e)];let:∀(ks:C6)(us:B0),n∉ks->yL n t ks us=us:=by
     intro ks
     induction ks with
     |nil=>intro us _;unfold yL;rfl|cons a ks j=>
      intro us d
      cases us with
      |nil=>rfl|cons b us=>
       show(if a=n then t else b)::yL n t ks us=b::us;rw[mH (λz=>d (by rw[z];exact mE)),j us λz=>d (mI _ z)]
    rw[this ks us c]
theorem uQ{n k:List Nat}{t:T}{ks:C6}{us:B0}(d:ks...*=us...*)(g:k∈ks\/k=n):k∈(yZ (ks,us) n t).1/\zV k (yZ (ks,us) n t).1 (yZ (ks,us) n t).2=if k=n then t else zV k ks us:=by
 by_cases c:n∈ks
 ·let e:yZ (ks,us) n t=(ks,yL n t ks us):=mJ c
  rw[e];refine{?_,jK d c};rcases g with z | z
  ·exact z
  ·rw[z];exact c
 ·let e:yZ (ks,us) n t=(ks++ [n],us++ [t]):=mH c
  rw[e]
  by_cases a:k=n
  ·rw[mJ a,a]
   exact{by simp,gC d c}
  ·rw[mH a]
   let b:k∈ks:=g.resolve_right a;exact{nW _ b,uE d b}
theorem zGl{n:List Nat}{t:T}:∀{ks:C6}{us:B0},ks.Nodup->ks...*=us...*->n∈ks->T.szs (yL n t ks us)=T.szs (yS n ks us)+T.sz t
 |[],_,_,_,h=>nomatch h|_::_,[],_,h,_=>by simp at h|k::ks,u::us,d,c,h=>by
  rw[nY] at d
  by_cases e:k=n
  ·let o:∀(ks:C6)(us:B0),ks...*=us...*->n∉ks->yL n t ks us=us/\yS n ks us=us:=by
    intro ks
    induction ks with
    |nil=>intro us c _;cases us with
     |nil=>exact⟨O,O⟩|cons _ _=>simp at c
    |cons a ks m=>
     intro us c j
     cases us with
     |nil=>simp at c|cons b us=>
      obtain⟨g,i⟩:=m us (by simpa using c) λz=>j (mI _ z);let l:¬a=n:=λz=>j (by rw[z];exact mE);refine{?_, ?_}
      ·show(if a=n then t else b)::yL n t ks us=b::us
       rw[mH l,g]
      ·show(if a=n then yS n ks us else b::yS n ks us)=b::us
       rw[mH l,i]
   obtain⟨g,i⟩:=o ks us (by simpa using c) (by rw[<-e];exact d.1);show T.szs ((if k=n then t else u)::yL n t ks us)=T.szs (if k=n then yS n ks us else u::yS n ks us)+T.sz t;rw[mJ e,mJ e,g,i];show T.sz t+T.szs us=_
   lia
  ·let p:n∈ks:=by
    rcases mG.mp h with z | z
    ·exact absurd z.symm e
    ·exact z
   let m:=zGl (t:=t) d.2 (by simpa using c) p (us:=us);show T.szs ((if k=n then t else u)::yL n t ks us)=T.szs (if k=n then yS n ks us else u::yS n ks us)+T.sz t;rw[mH e,mH e];show T.sz u+T.szs (yL n t ks us)=T.sz u+T.szs (yS n ks us)+T.sz t
   lia
theorem zBw{n:List Nat}:∀{ks:C6}{us:B0},T.szs (yS n ks us)<=T.szs us
 |[],us=>by
  let e:yS n [] us= []:=by cases us<;>rfl
  rw[e];exact nL _
 |_::_,[]=>mD _|k::ks,u::us=>by
  let a:=zBw (n:=n) (ks:=ks) (us:=us);show T.szs (if k=n then yS n ks us else u::yS n ks us)<=T.sz u+T.szs us;split
  ·lia
  ·show T.sz u+_<=_;lia
theorem zFu{n:List Nat}:∀{ks:C6}{us:B0},ks...*=us...*->n∉ks->yS n ks us=us/\xF n ks=ks
 |[],[],_,_=>⟨O,O⟩|[],_::_,h,_=>by simp at h|_::_,[],h,_=>by simp at h|k::ks,u::us,c,b=>by
  obtain⟨e,d⟩:=zFu (n:=n) (ks:=ks) (us:=us) (by simpa using c) λz=>b (mI _ z);let a:¬k=n:=λz=>b (by rw[z];exact mE);refine{?_, ?_}
  ·show(if k=n then yS n ks us else u::yS n ks us)=_
   rw[mH a,e]
  ·show(if k=n then xF n ks else k::xF n ks)=_
   rw[mH a,d]
theorem zJk{n:List Nat}{t:T}{ks:C6}{us:B0}(c:ks.Nodup)(b:ks...*=us...*):T.szs (yZ (ks,us) n t).2=T.szs (yS n ks us)+T.sz t:=by
 by_cases a:n∈ks
 ·let e:yZ (ks,us) n t=(ks,yL n t ks us):=mJ a
  rw[e];exact zGl c b a
 ·let e:yZ (ks,us) n t=(ks++ [n],us++ [t]):=mH a
  rw[e,(zFu b a).1];show T.szs (us++ [t])=_;rw[d3];rfl
theorem l6{H:Hp}:∀{us:B0}{vs:B3}{D:B9}{i:Nat}{t:T},Sps H vs us D->us[i]? =Y t->∃v d,vs[i]? =Y v/\Sp1 H v t d/\(∀b∈d,b∈D)/\
  ∀g c t',(∀b∈D,g b=none)->Rep (uD g c) v t'->Keep d H c->Reps (uD g c) vs (us.set i t')
 |[],_,_,i,t,_,h=>by simp at h|u::us,_,_,0,t,⟨v,r,d,A,rfl,rfl,m,l,p⟩,h=>by
  let e:u=t:=by simpa using h
  subst e;refine zDt v d O m (λb a=>nW _ a) (λg c t' k n j=>{v,r,O,n, ?_});exact Sps.rep _ _ _ (Sps.keep _ _ _ (λb a o _ e=>by
   rw[wL (k b (nB _ a))];exact j b o (λz=>p b z a) e) l)
 |u::us,_,_,i+1,t,⟨v,r,d,A,rfl,rfl,m,l,p⟩,h=>by
  refine zX (l6 (i:=i) l (by simpa using h)) λw s x g2 q y=>?_;refine zDt w s (by simpa using x) g2 (λb a=>nB _ (q b a)) (λg c t' k n j=>{v,r,O, ?_,y g c t' (λb a=>k b (nB _ a)) n j});exact Sp1.rep _ _ _ (Sp1.keep _ _ _ (λb a o _ e=>by
   rw[wL (k b (nW _ a))];exact j b o (λz=>p b a (q b z)) e) m)
theorem kI{n:List Nat}{t:T}:∀(ks:C6)(us:B0),ks.Nodup->ks...*=us...*->n∈ks->yL n t ks us=us.set (ks.idxOf n) t
 |[],_,_,_,h=>nomatch h|_::_,[],_,h,_=>by simp at h|k::ks,u::us,g,o,m=>by
  rw[nY] at g;let e:yL n t (k::ks) (u::us)=(if k=n then t else u)::yL n t ks us:=rfl;rw[e]
  by_cases h:k=n
  ·subst h
   let c:∀(b:C6)(a:B0),k∉b->yL k t b a=a:=by
    intro b
    induction b with
    |nil=>intro a _;unfold yL;rfl|cons l b p=>
     intro a i
     cases a with
     |nil=>unfold yL;rfl|cons w a=>
      let j:yL k t (l::b) (w::a)=(if l=k then t else w)::yL k t b a:=rfl;rw[j,mH (λz=>i (by rw[z];exact mE)),p a λz=>i (mI _ z)]
   rw[mJ O,c ks us g.1,List.idxOf_cons_self]
   rfl
  ·let d:(k::ks).idxOf n=ks.idxOf n+1:=by rw[List.idxOf_cons,show(k==n)=false from rT.mpr h];rfl
   rw[mH h,d,kI ks us g.2 (by simpa using o) ((mG.mp m).resolve_left (Ne.symm h))]
   rfl
theorem zDc{α:Type}{us:List α}{i:Nat}{r:α}(h:i<us...*):us.set i r=us.take i++r::us.drop (i+1):=aZ.trans (mJ h)
theorem wF{H a:Hp}{d:V1}{o:HO}(g:Same H a)(h:H d=none):Same H (upd a d o):=λb u e=>by
 let c:b≠d:=λz=>by subst z;rw[h] at e;cases e
 rw[zK c];exact g _ _ e
theorem zYa(ks:B8)(k:Key):ks.map kV++ [kV k]=(ks++ [k]).map kV:=by rw[nH];rfl
theorem zZd{H:Hp}{a:V1}{ps:D0}{ks:C6}{us:B0}(e:ks.Nodup)(l:ps.map (·.1)=ks.map λk=>(Sum.inr (tx k):Key))(j:Reps H (ps.map (·.2)) us)(i:H a=Y (.dK ps)){k:List Nat}(h:k∈ks):∃v,(∀b,Same H b->DGet b a (.str (tx k)) ↥v)/\Rep H v (zV k ks us):=by
 obtain⟨v,d,c⟩:=d8 e l j h;exact nEA v (λb g=>.inl {ps,Sum.inr (tx k), .inl (g _ _ i),O,d.symm}) c
theorem zIw{H:Hp}{a:V1}{ps:D0}{ks:C6}(g:ps.map (·.1)=ks.map λk=>(Sum.inr (tx k):Key))(d:H a=Y (.dK ps)){k:List Nat}(b:k∉ks):DGet H a (.str (tx k)) none:=by
 refine .inl {ps,Sum.inr (tx k), .inl d,O,(zCb λz=>b ?_).symm};rw[g] at z;obtain⟨h,e,c⟩:=nZ.mp z;rw[<-zBv c];exact e
noncomputable def doT(w:Wd)(n:T):List Key->T->Option T
 |[],_=>match w with
  |.put=>Y n|_=>none
 |[k],t=>if xO w t k=true then Y (yB w t k n) else none|k::a::b,t=>match zP t k with
  |some s=>(doT w n (a::b) s).map λr=>yB .put t k r|none=>none
structure Cx2(H0 H:Hp)(v:V)(up:T->T)(x:V)(s:T)(D:B9):Prop where
 sp:Sp1 H x s D
 new:∀b∈D,H0 b=none
 few:T.few s
 cls:∀H' s',Rep (uD H0 H') x s'->Keep D H H'->Rep (uD H0 H') v (up s')
theorem Cx2.refl{a H:Hp}{v:V}{t:T}{D:B9}(h:Sp1 H v t D)(d:∀b∈D,a b=none)(c:T.few t):Cx2 a H v (λr=>r) v t D:={h,d,c,λ_ _ r _=>r}
theorem Cx2.row{j H:Hp}{v:V}{p:T->T}{a:V1}{us:B0}{D:B9}(C:Cx2 j H v p (.ref a) (.lst us) D){i:Int}(h0:0<=i){u:T}(l:us[i.toNat]? =Y u):∃xs y E,H a=Y (.lst xs)/\xs...*=us...*/\xs[i.toNat]? =Y y/\Cx2 j H v (λr=>p (yB .put (.lst us) (.inl i) r)) y u E:=by
 refine zZ (C.sp) λN xs Q e s M=>?_;ext oAA M m A t;subst m;cases e;refine zX (l6 t l) λy o J x g I=>?_;let B:=mO l;let L:=C.few;refine{xs,y,o,s,t...*,J,x,λb c=>C.new b (mI _ (g b c)),b9 L.2 B,λn q r k=>?_};let d:a∉o:=λz=>A (g a z);let h:=(mN.mp l).1;refine C.cls n (.lst (us.take i.toNat++q::us.drop (i.toNat+1))) {a,xs,O, ?_, ?_} (k.mono λb c=>mI _ (g b c))
 ·rw[wL (C.new a mE)];exact k a _ d s
 ·rw[<-zDc h]
  exact I j n q (λb c=>C.new b (mI _ c)) r k
theorem Cx2.rcd{p H:Hp}{v:V}{B:T->T}{a:V1}{ks:C6}{us:B0}{D:B9}(C:Cx2 p H v B (.ref a) (.dic ks us) D){z:Str}(k:ts z∈ks):∃ps y M,H a=Y (.dK ps)/\ps.map (·.1)=ks.map nK/\jD ps (nK (ts z))=Y y/\Cx2 p H v (λr=>B (yB .put (.dic ks us) (.inr z) r)) y (zV (ts z) ks us) M:=by
 refine zZ (C.sp) λa' ps D1 e x z_=>?_;ext xI z_ c n J hs;subst n;cases e;let g:=C.few;let u:=zXu k;let A:ks.idxOf (ts z)<us...*:=by rw[<-g.2.2.1];exact bZ k
 let s:us[ks.idxOf (ts z)]? =Y (zV (ts z) ks us):=by
  rw[mU A];exact congrArg some (zEa g.1 u (mU A)).symm
 refine zX (l6 hs s) λy E t I o Q=>?_;let hm:=mO s;let L:jD ps (nK (ts z))=Y y:=by
  rw[nG] at t;obtain⟨kv,j,rfl⟩:=rG.mp t;refine zDf (i:=ks.idxOf (ts z)) (by rw[c];exact zBn g.1) ?_;let:(ps.map (·.1))[ks.idxOf (ts z)]? =Y (nK (ts z)):=by rw[c,nG,u];rfl
  rw[nG,j] at this;rw[j,<-mW this]
 refine{ps,y,E,x,c,L,I,λb h=>C.new b (mI _ (o b h)),b9 g.2.2.2 hm,λq d r l=>?_};let m:a∉E:=λz=>J (o a z);let N:yZ (ks,us) (ts z) d=(ks,us.set (ks.idxOf (ts z)) d):=by
  let:yZ (ks,us) (ts z) d=(ks,yL (ts z) d ks us):=mJ k;rw[this,kI ks us g.1 g.2.2.1 k]
 refine C.cls q (.dic (yZ (ks,us) (ts z) d).1 (yZ (ks,us) (ts z) d).2) ?_ (l.mono λb h=>mI _ (o b h));rw[N];refine{a,ps,O, ?_,c,Q p q d (λb h=>C.new b (mI _ h)) r l};rw[wL (C.new a mE)];exact l a _ m x
theorem Reps.dropK{H:Hp}{n:List Nat}:∀{ps:D0}{ks:C6}{us:B0},ps.map (·.1)=ks.map nK->Reps H (ps.map (·.2)) us->(L2.dropK ps (nK n)).map (·.1)=(xF n ks).map nK/\Reps H ((L2.dropK ps (nK n)).map (·.2)) (yS n ks us)
 |[],[],us,_,h=>by
  let e:us= []:=by
   cases us with
   |nil=>rfl|cons _ _=>obtain⟨v,r,e,_⟩:=h;cases e
  subst e;exact⟨O,O⟩
 |[],_::_,_,e,_=>by simp at e|_::_,[],_,e,_=>by simp at e|p::ps,k::ks,[],_,h=>by
  let x:(p::ps).map (·.2)= []:=h;cases x
 |p::ps,k::ks,u::us,e,⟨q,r,l,s,g⟩=>by
  let m:p.2::ps.map (·.2)=q::r:=l;injection m with o i;subst o i;let j:p.1::ps.map (·.1)=nK k::ks.map nK:=e;injection j with c t;obtain⟨b,d⟩:=Reps.dropK (n:=n) t g;unfold L2.dropK at b d⊢;rw[cK];unfold xF yS
  by_cases a:k=n
  ·rw[mH (by simp[c,a]),mJ a,mJ a]
   exact⟨b,d⟩
  ·rw[mJ (by rw[c];exact nO λz=>a (zBv z)),mH a,mH a]
   exact{by rw[nD,nD,c,b],_,_,O,s,d}
abbrev sPi:V6:=top 63
theorem uC{c H H1:Hp}{a:V1}{o:HO}{xs:B3}{us:B0}{D:B9}(i:Sps H xs us D)(h:a∉D)(j:∀b∈D,c b=none)(g:Same H H1):Reps (uD c (upd H1 a o)) xs us:=
 Sps.rep _ _ _ (Sps.keep _ _ _ (λb d u _ e=>by
  rw[wL (j b d),zK λz=>h (by rw[<-z];exact d)];exact g _ _ e) i)
theorem zHc{d H H1:Hp}{a:V1}{o i:HO}{v:V}{u:T}{D:B9}(j:Sp1 H1 v u D)(h:∀b∈D,H b=none)(k:Same d H)(g:H a=Y i):Rep (uD d (upd H1 a o)) v u:=
 Sp1.rep _ _ _ (Sp1.keep _ _ _ (λb c u _ e=>by
  rw[wL (yQ k (h b c)),zK λz=>by rw[z] at c;rw[h a c] at g;cases g];exact e) j)
def spPi:Sp:=λg H Q _=>∃(c:Hp)(x e:V)(a:Wd)(k:Key)(s u:T)(D:B9),g= [x, .str a.s,kV k,e]/\Same c H/\Sp1 H x s D/\(∀b∈D,c b=none)/\T.few s/\okK k/\Rep H e u/\T.few u/\T.dep u<20/\T.sz s<=100000/\(xO a s k=true->∀d,Keep D H d->Rep (uD c d) x (yB a s k u)->Q (.bl true) d)/\(xO a s k=false->Q (.bl false) H)
theorem ok_pi{k:Nat}(F:Fun K "_law_put_in" "_law_put_in" sPi f fd)(B:Bl mg)(c:Dn P w K mg base k "_law_held" ["_law_thing"] (zIn 20)):FnOk P w K mg base CX0 (k+1) f fd ["_law_thing","_law_word","_law_step","_law_new"] spPi:=by
 refine F.okn (N:=["_law_thing","_law_word","_law_step","_law_new"]) λav A au s H vs Q E nd hr h=>?_;ext zY h H0 x vn wd ky z_;ext zZ z_ t u D an g0 z_;ext zQ z_ ai e hf hk ac z_;ext vS z_ af ae al q qn;subst an;let hu:=vO hr;refine{_,(zD (zU (i9 (qH (yI (pI B.isinstance zJ B.dict xV (pv 0))) (jG (yI (pI B.isinstance zJ B.str vY (pv 2)))))) (zD (zU (pT xC (pv 1) zO) (zG (zBj hu (pv 0) (pv 2) (pD c hr (zA (pv 3) zB)) O)) zL)
  (zD (zU (i9 (qH (pT xC (pv 1) zO) (jG (zAh (zLv hu (pv 2) (pv 0)))))) (zD (wD (zKo (pv 0) (pv 2) ⟨O,O,O,O⟩))
  (zG (zI qT))) zL)
  (zG (zI (pE xC (pv 1) zO))))) zL)
  (zD (zU (i9 (gR (vE (yI (pI B.isinstance zJ B.list xZ (pv 0)))) (gZ (yI (pI B.isinstance zJ B.str vY (pv 2)))))) (zG (zI qT)) zL)
  (zD (zU (i9 (gR (i9 (qH (pT xC (pv 1) zO) (jG (pT uB (pv 2) (zN yA O B.len yR (zA (pv 0) zB)))))) (gZ (i9 (qH (pT xC (pv 1) zO) (jG (pT xC (pv 2) (zN yA O B.len yR (zA (pv 0) zB))))))))) (zD (wD (qZ nV PySem.F.slot_list_insert PySem.F.type_list_insert zQp (pv 0) (zA (pv 2) (zA (pD c hr (zA (pv 3) zB)) zB))))
  (zG (zI qT))) zL)
  (zD (zU (pT op_ge (pv 2) (zN yA O B.len yR (zA (pv 0) zB))) (zG (zI qT)) zL)
  (zD (zU (pT xC (pv 1) zO) (zG (wD (qZ nV PySem.F.slot_list_pop PySem.F.type_list_pop zSk (pv 0) (zA (pv 2) zB)))) zL)
  (zD (zU (pT xC (pv 1) zO) (zG (yDu (pD c hr (zA (pv 3) zB)) (yAx (pv 0) (pv 2) zVv))) zL)
  (zG (zI qT)))))))), ?_}
 walk_at "st";unfold zYs zSy gSub;lk;let n1:(A5 "put" =A5 "take")=False:=cP (by decide+kernel);let n2:(A5 "put" =A5 "insert")=False:=cP (by decide+kernel);let n3:(A5 "insert" =A5 "take")=False:=cP (by decide+kernel);let n4:(A5 "insert" =A5 "put")=False:=cP (by decide+kernel);let n5:(A5 "take" =A5 "put")=False:=cP (by decide+kernel);let n6:(A5 "take" =A5 "insert")=False:=cP (by decide+kernel);let L:=(Sp1.rep _ _ _ ai).ty;refine nEA _ L ?_;let l:xO wd t ky=false->zT (tyT t) "dict" =false->zT (tyT t) "list" =false->∀{R1 R2:Prop},(if zT (tyT t) "dict" =true then R1 else∃ak,tyS H x=Y ak/\if zT ak "list" =false then Q (V.bl false) H else R2):=λap h1 h2=>iN (by rw[h1];decide) {_,L,iP h2 (qn ap)}
 cases t with
 |dic ks d=>
  refine iP (by simp only[tyT];decide+kernel) ?_;ext zZ ai a ps D1 ah j z_;ext xI z_ J ar na hs;subst ah ar;let m:∀b∈D1,H0 b=none:=λb hb=>e b (mI _ hb);let aa:=hs...*;let ao:=i3 d;let am:T.szs d+1<=100000:=al;rw[mM] at aa
  cases ky with
  |inl i=>exact{"int",O,iN ∎ {_,L,iP (by simp only[tyT];decide+kernel) (qn (by cases wd<;>rfl))}}|inr z=>
   refine nEA ("str") O (iP ∎ ?_);let ex:(Sum.inr z:Key)=nK (ts z):=by show(Sum.inr z:Key)=Sum.inr (tx (ts z));rw[qC]
   cases wd with
   |put=>
    refine iP O {vn,u,O,ac,af,ae,λv' M D2 y I r=>?_};refine kW a O _ (DPut.k (k:=Sum.inr z) (y _ _ j) (by rw[mV];lia)) (iN (by show¬(A5 "put" =_);rw[n1];exact id) ?_);rw[ex];obtain⟨p1,p2⟩:=zJb (H:=uD H0 (upd M a (.dK (vQ ps (nK (ts z)) v')))) (p:=(ks,d)) (n:=ts z) (v:=v') (t:=u) J (uC hs na m y) (zHc I r g0 j);exact q O _ ((Keep.of y).put _ mE) {a,_,O,by rw[wL (e a mE)];exact zC,p1,p2}
   |ins=>
    exact iN (by show¬(A5 "insert" =_);rw[n4];exact id) (iN (by show¬(A5 "insert" =_);rw[n3];exact id) (qn O))
   |tak=>
    refine iN (by show¬(A5 "take" =_);rw[n5];exact id) (iP O ?_)
    by_cases hz:ts z∈ks
    ·refine oEA (d8 hf.1 J (Sps.rep _ _ _ hs) hz) λxv aj _=>?_
     refine kW a O ↥xv (.inl {ps,Sum.inr z, .inl j,O,by rw[ex];exact aj.symm}) (iP O {a,O, .inl {ps, .inl j},ps,j,Sum.inr z,O,{xv,by rw[ex];exact aj}, ?_});rw[ex];obtain⟨p1,p2⟩:=Reps.dropK (n:=ts z) J (uC (H1:=H) (a:=a) (o:=.dK (dropK ps (nK (ts z)))) hs na m (Same.refl _));refine q ?_ _ (Keep.refl.put _ mE) {a,_,O,by rw[wL (e a mE)];exact zC,p1,p2};show(if ts z∈ks then Y (zV (ts z) ks d) else none).isSome=true;rw[mJ hz];rfl
    ·refine kW a O _ (by let:=zIw J j hz;rw[qC] at this;exact this) (iN ∎ (qn ?_))
     show(if ts z∈ks then Y (zV (ts z) ks d) else none).isSome=false;rw[mH hz];rfl
 |lst d=>
  refine iN (by simp only[tyT];decide+kernel) {_,L,iN (by simp only[tyT];decide+kernel) ?_};ext zZ ai a g D1 ah j z_;ext oAA z_ aq na hs;subst ah aq
  cases ky with
  |inr z=>exact{"str",O,iP ∎ (qn (by cases wd<;>rfl))}|inl i=>
   refine nEA ("int") O (iN ∎ ?_);let ag:0<=i:=hk.1;let m:∀b∈D1,H0 b=none:=λb hb=>e b (mI _ hb);let aa:=hs...*;let ao:=i3 d;let am:T.szs d+1<=100000:=al;let tv:tyV K "list" (V.ref a) H:=.inl {O,g,SqL.of j};let ab:(∀H',Keep (a::D1) H H'->Rep (uD H0 H') (.ref a) (.lst (d.take i.toNat++u::d.drop i.toNat))->Q (.bl true) H')->i<=(g...*:Int)->zIn 20 [vn] H (λx M=>rIns (V.ref a) [kV (Sum.inl i),x] M λx M=>Q (V.bl true) M) E0:=λqq hi=>by
    refine{vn,u,O,ac,af,ae,λv' M D2 y I r=>?_};refine{a,g,i,v',O,O,y _ _ j,ag,hi,by rw[mV];lia,∅, ?_};let r1:=uC (H1:=M) (a:=a) (o:=.lst (g.take i.toNat++v'::g.drop i.toNat)) hs na m y;exact qq _ ((Keep.of y).put _ mE) {a,_,O,by rw[wL (e a mE)];exact zC,Reps.append (vs:=u::d.drop i.toNat) (show Reps _ (v'::g.drop i.toNat) (u::d.drop i.toNat) from{v',_,O,zHc I r g0 j,Reps.drop _ r1}) (Reps.take _ r1)}
   cases wd with
   |put=>
    refine iN (by show¬(A5 "put" =_);rw[n2];exact id) (iP O {a,O,g,SqL.of j,O, ?_});let hc:xO .put (.lst d) (.inl i)=decide (i<=(d...*:Int)):=rfl
    by_cases hi:i=(g...*:Int)
    ·refine iP (by rw[hi];rfl) {tv,ab (λH' k' r'=>q (by rw[hc];exact nO ∅) H' k' ?_) ∅}
     show Rep _ _ (.lst (d.take i.toNat++u::d.drop (i.toNat+1)));rw[pY (show d...*<=i.toNat by lia)] at r';rw[pY ∅];exact r'
    ·refine iN (λz=>hi (V.int.inj z)) {a,O,g,SqL.of j,i,O, ?_}
     by_cases hj:(g...*:Int)<=i
     ·exact iP hj (qn (by rw[hc];exact nJ ∅))
     ·refine iN hj (iN (by show¬(A5 "put" =_);rw[n1];exact id) (iP O ?_))
      refine{vn,u,O,ac,af,ae,λv' M D2 y I r=>?_};refine{a,g,i,i.toNat,O,O,y _ _ j,by unfold ixN;rw[mJ ag,mJ ∅], ?_};let r1:=uC (H1:=M) (a:=a) (o:=.lst (g.set i.toNat v')) hs na m y;refine q (by rw[hc];exact nO ∅) _ ((Keep.of y).put _ mE) ?_;show Rep _ _ (.lst (d.take i.toNat++u::d.drop (i.toNat+1)));rw[<-zDc ∅];exact{a,_,O,by rw[wL (e a mE)];exact zC,Reps.set (zHc I r g0 j) _ r1}
   |ins=>
    let hc:xO .ins (.lst d) (.inl i)=decide (i<=(d...*:Int)):=rfl;refine iP O {a,O,g,SqL.of j,i,O, ?_}
    by_cases hi:i<=(g...*:Int)
    ·exact iP hi {tv,ab (q (by rw[hc];exact nO ∅)) hi}
    ·exact iN hi (iN (by show¬(A5 "insert" =_);rw[n4];exact id) {a,O,g,SqL.of j,i,O,iP ∅ (qn (by rw[hc];exact nJ ∅))})
   |tak=>
    let hc:xO .tak (.lst d) (.inl i)=(d[i.toNat]?).isSome:=rfl;refine iN (by show¬(A5 "take" =_);rw[n6];exact id) (iN (by show¬(A5 "take" =_);rw[n5];exact id) {a,O,g,SqL.of j,i,O, ?_})
    by_cases hj:(g...*:Int)<=i
    ·exact iP hj (qn (by rw[hc,sF ∅];rfl))
    ·refine iN hj (iP O ?_)
     refine{tv,a,g,i,i.toNat,_,O,O,j,∅,∅,(zHz (by unfold ixN;rw[mJ ag,mJ ∅])).1,mU ∅, ?_};refine iN (by show¬(A5 "take" =_);rw[n5];exact id) ?_;let r1:=uC (H1:=H) (a:=a) (o:=.lst (g.eraseIdx i.toNat)) hs na m (Same.refl _);refine q (by rw[hc,mU ∅];rfl) _ (Keep.refl.put _ mE) {a,_,O,by rw[wL (e a mE)];exact zC, ?_};rw[List.eraseIdx_eq_take_drop_succ] at r1⊢;exact Reps.append (Reps.drop _ r1) (Reps.take _ r1)
 |tup d=>exact hf.elim|non=>exact l (by cases wd<;>rfl) (by simp only[tyT];decide+kernel) (by simp only[tyT];decide+kernel)|bl _=>exact l (by cases wd<;>rfl) (by simp only[tyT];decide+kernel) (by simp only[tyT];decide+kernel)|int _=>exact l (by cases wd<;>rfl) (by simp only[tyT];decide+kernel) (by simp only[tyT];decide+kernel)|str _=>exact l (by cases wd<;>rfl) (by simp only[tyT];decide+kernel) (by simp only[tyT];decide+kernel)
abbrev sDo:V6:=top 64
def yAk(H:Hp)(d:V1)(b:Wd)(ks:B8)(u:T):Prop:=∃a r c,H d=Y (.tup (.str b.s:: .ref a::r))/\H a=Y (.lst (ks.map kV))/\(.str b.s:: .ref a::r:B3).getLast? =Y c/\r...*<=1/\Rep H c u
structure zZs(ks:B8)(u:T):Prop where
 l:ks...*<=100
 s:∀k∈ks,okK k
 f:T.few u
 d:T.dep u<20
theorem wH{w:Wd}{n:T}{k:Key}{ks:B8}{t:T}(h:ks≠ []):doT w n (k::ks) t=match zP t k with
  |some s=>(doT w n ks s).map λr=>yB .put t k r|none=>none:=by
 cases ks with|nil=>exact absurd O h|cons a ks=>rfl
def spDo:Sp:=λe H Q _=>∃(v:V)(d:V1)(c:Wd)(b:B8)(t u:T),e= [v, .ref d]/\Rep H v t/\T.few t/\T.dep t<20/\T.sz t<=100000/\yAk H d c b u/\zZs b u/\(∀r,doT c u b t=Y r->∀l x a,Same H a->a l=Y (.lst [.bl true,x])->Rep (uD H a) x r->Q (.ref l) a)/\(doT c u b t=none->∀l x a,Same H a->a l=Y (.lst [.bl false,x])->Q (.ref l) a)
theorem ok_do{k:Nat}(F:Fun K "_law_deed_on" "_law_deed_on" sDo f fd)(B:Bl mg)(n:Dn P w K mg base k "_law_held" ["_law_thing"] (zIn 20))(I:Dn P w K mg base k "_law_put_in" ["_law_thing","_law_word","_law_step","_law_new"] spPi):FnOk P w K mg base CX0 (k+1) f fd ["_law_thing","_law_deed_here"] spDo:=by
 refine F.okn (N:=["_law_thing","_law_deed_here","_law_new","_law_whole","_law_there","_law_step"]) λbg A bc s H vs Q E nd hr h=>?_;obtain⟨v,d,wd,ks,t,u,rfl,hv,hf,hd,hz,⟨pd,r,vn,bd,an,ae,a9,aq⟩,hI,q,qn⟩:=h;let hu:=vO hr;let a':=hr.units0;refine{_,(zD (pS 2 nd (pX vZ (pv 1) (xY xJ zE)))
  (zD (zU (pT (zNo a') (pX vZ (pv 1) zE) (yJ zB)) (zG (zI (yJ (zA (pE xC (pX vZ (pv 1) zE) zO) (zA (pD n hr (zA (pv 2) zB)) zB))))) zL)
  (zD (pS 3 nd (pD n hr (zA (pv 0) zB)))
  (zD (pS 4 nd (pv 3))
  (zD (qI PassesOwn.never O (wM (qB jW (pX vZ (pv 1) zE) jF (jH (xY xJ zE)))) (yH (i:=5) nd O (nR O)) (zG (zU (i9 (qH (yI (pI B.isinstance zJ B.dict xV (pv 4))) (qH (yI (pI B.isinstance zJ B.str vY (pv 5))) (jG (zAh (zLv hu (pv 5) (pv 4))))))) (zG (pS 4 nd (vV hu (pv 4) (pv 5) (λ_ _=>O)))) (zG (zU (i9 (qH (yI (pI B.isinstance zJ B.list xZ (pv 4))) (qH (vE (yI (pI B.isinstance zJ B.str vY (pv 5)))) (jG (pT kL (pv 5) (zN yA O B.len yR (zA (pv 4) zB))))))) (zG (pS 4 nd (pX zS (pv 4) (pv 5)))) (zG (zI (yJ (zA qT (zA kZ zB))))))))))
  (zG (zI (yJ (zA (pD I hr (zA (pv 4) (zA (pX vZ (pv 1) zE) (zA (pX zS (pX vZ (pv 1) zE) (xY xJ zE)) (zA (pv 2) zB))))) (zA (pv 3) zB)))))))))), ?_}
 walk_at "st";lk;let M:∀{H':Hp},Same H H'->SqT K H' d (.str wd.s:: .ref pd::r):=λg=>SqT.of (g _ _ bd);let a7:atI (.str wd.s:: .ref pd::r:B3) (-1)=Y vn:=by
  rcases r with _ |⟨y,_ |⟨z,r⟩⟩
  ·simpa [atI,ixN] using ae
  ·simpa [atI,ixN] using ae
  ·exact absurd a9 (by simp)
 let ar:=Same.refl H;refine wU (M ar) a7 (wU (M ar) (yC (j:=1) O) λp hp=>?_);let s1:=zF hp (.lst []);refine{pd,p,ks.map kV,O,O,SqL.of (s1 _ _ an),SqL.of zC,_,O, ?_};generalize upd H p (.lst [])=H1 at s1⊢
 by_cases ak:ks= []
 ·subst ak
  refine iP O (wU (M s1) (yC (j:=0) O) {O,vn,u,O,Rep.same s1 _ _ aq,hI.f,hI.d,λx H2 D2 g2 ao ai l hl=>?_});let s3:=zF hl (.lst [V.bl (decide (V.str wd.s=V.str (A5 "put"))),x]);let bb:=Sp1.new (ao.same s3) λb hb=>yQ s1 (ai b hb)
  cases wd with|put=>exact q u O l x _ (s1.trans (g2.trans s3)) (by rw[zC,nO (show V.str (Wd.put).s=V.str (A5 "put") from O)]) bb|ins=>exact qn O l x _ (s1.trans (g2.trans s3)) (by rw[zC,nJ (show¬V.str (Wd.ins).s=V.str (A5 "put") from λz=>absurd (V.str.inj z) (by decide+kernel))])|tak=>exact qn O l x _ (s1.trans (g2.trans s3)) (by rw[zC,nJ (show¬V.str (Wd.tak).s=V.str (A5 "put") from λz=>absurd (V.str.inj z) (by decide+kernel))])
 ·refine iN (by cases ks<;>simp_all) {v,t,O,Rep.same s1 _ _ hv,hf,hd,λx H2 D2 g2 ao ai=>?_}
  let ah:=s1.trans g2;refine wU (M ah) (yC (j:=1) O) {pd,_,O,SqL.of (ah _ _ an),λpc a0=>{pc,O,{_,SqL.of zC}, ?_}};rw[zLf];obtain⟨m,L,rfl⟩:∃m L,ks=m++ [L]:={ks.dropLast,ks.getLast ak,(tT ak).symm};let ek:List.take (((m++ [L]).map kV)...* - 1) ((m++ [L]).map kV)=m.map kV:=by
   rw[nH,mK,mM];exact bO (by simp)
  rw[ek] at*;let s3:=zF a0 (.lst (m.map kV));let e3:=zC (H:=H2) (a:=pc) (o:=.lst (m.map kV));generalize upd H2 pc (.lst (m.map kV))=H3 at s3 e3⊢;let J:=ah.trans s3;let C0:Cx2 H H3 x (λr=>r) x t D2:=Cx2.refl (ao.same s3) (λb hb=>yQ s1 (ai b hb)) hf;let ab:doT wd u (m++ [L]) t=none->∀(l:V1),H3 l=none->Q (V.ref l) (upd H3 l (.lst [V.bl false,V.non])):=λhn l hl=>qn hn l .non _ (J.trans (zF hl _)) zC;refine kM (K:=K) (a:=pc) (xs:=m.map kV) (λi σ H'=>H'=H3/\∃(y:V)(s:T)(D:B9)(up:T->T)(o:Option V),σ= [Y v,Y (V.ref d),Y vn,Y x,Y y,o]/\Cx2 H H3 x up y s D/\T.sz s<=100000/\doT wd u (m++ [L]) t=(doT wd u (m.drop i++ [L]) s).map up) {O,_,_,_,_,_,O,C0,hz,by simp} (λi σ H' _ h=>by rw[h.1];exact SqL.of e3) ?_ ?_
  ·rintro i kv σ H' av ⟨rfl,y,s,D,up,o,rfl,C,ag,c⟩
   rw[nG] at av;refine oEA (rG.mp av) λk hk ay=>?_;subst ay;let ax:=hI.s k (nW _ (mO hk));let az:m.drop i++ [L]=k::(m.drop (i+1)++ [L]):=by
    obtain⟨a6,e⟩:=mN.mp hk;rw[pM a6,e];rfl
   rw[az,wH (by simp)] at c;let ac:=(Sp1.rep _ _ _ C.sp).ty;unfold zYs zGy;lk;refine nEA _ ac ?_
   cases s with
   |dic hs us=>
    refine iP (by simp only[tyT];decide+kernel) ?_
    cases k with
    |inl i=>exact{"int",O,iN ∎ {_,ac,iN (by simp only[tyT];decide+kernel) (ab c)}}|inr z=>
     refine nEA ("str") O (iP ∎ ?_);let ex:(Sum.inr z:Key)=nK (ts z):=by show(Sum.inr z:Key)=Sum.inr (tx (ts z));rw[qC]
     refine zZ (C.sp) λa ps D1 am ha z_=>?_;ext xI z_ aw _ _ _;subst am;let aa:zP (.dic hs us) (.inr z)=if ts z∈hs then Y (zV (ts z) hs us) else none:=rfl;rw[aa] at c
     by_cases hz:ts z∈hs
     ·refine zZ (C.rcd hz) λap y' D' af be z_=>?_
      ext oA z_ al C';rw[<-ex] at al;rw[mJ hz] at c;let a4:=C.few;let a3:=d4 (yY hz a4.2.2.1);let a2:T.szs us+1<=100000:=ag;exact kW a O _ (.inl {ap,Sum.inr z, .inl af,O,al.symm}) (iP O {a,O,_, .inl {ap,Sum.inr z, .inl af,O,al.symm},y',⟨O,_,O⟩,_,_,_,C',∅,by rw[c,Option.map_map];rfl})
     ·rw[mH hz] at c
      exact kW a O none (by let:=zIw aw ha hz;rw[qC] at this;exact this) (iN ∎ {_,ac,iN (by simp only[tyT];decide+kernel) (ab c)})
   |lst us=>
    refine iN (by simp only[tyT];decide+kernel) {_,ac,iP (by simp only[tyT];decide+kernel) ?_}
    cases k with
    |inr z=>exact{"str",O,iN ∎ (ab c)}|inl i=>
     let a1:0<=i:=ax.1;refine nEA ("int") O (iP ∎ ?_);refine zZ (C.sp) λa xs D1 am ha z_=>?_;ext oAA z_ _ _ hs;subst am;let hl:=hs...*;refine qW a O xs (SqL.of ha) i (nA O ?_)
     by_cases hi:i<(xs...*:Int)
     ·obtain⟨w0,aj⟩:∃w0,us[i.toNat]? =Y w0:={us[i.toNat]'∅,mU _}
      refine zZ (C.row a1 aj) λbh y' D' af bf z_=>?_;ext oA z_ a5 C';let aa:zP (.lst us) (.inl i)=us[i.toNat]?:=rfl;rw[aa,aj] at c;let a3:=d4 (mO aj);let a2:T.szs us+1<=100000:=ag;rw[ha] at af;cases af;let ey:atI xs i=Y y':=by rw[show i=((i.toNat:Nat):Int) by lia];exact yC a5
      exact iP hi (yG (SqL.of ha) ey {O,y',⟨O,_,O⟩,_,_,_,C',∅,by rw[c,Option.map_map];rfl})
     ·let aa:zP (.lst us) (.inl i)=us[i.toNat]?:=rfl
      rw[aa,sF ∅] at c;exact iN hi (ab c)
   |tup _=>exact C.few.elim|_=>exact iN (by simp only[tyT];decide+kernel) {_,ac,iN (by simp only[tyT];decide+kernel) (ab c)}
  ·rintro σ H' ⟨rfl,y,s,D,up,o,rfl,C,ag,c⟩
   let au:=hI.s L (nB _ mE);rw[mM,sS] at c;let ba:doT wd u ([]++ [L]) s=if xO wd s L=true then Y (yB wd s L u) else none:=rfl;rw[ba] at c;lk;let el:atI ((m++ [L]).map kV) (-1)=Y (kV L):=by
    rw[nH];exact xR _ _
   refine wU (M J) (yC (j:=0) O) (wU (M J) (yC (j:=1) O) (yG (SqL.of (J _ _ an)) el ?_));refine{H,y,vn,wd,L,s,u,D,O,J,C.sp,C.new,C.few,au,Rep.same J _ _ aq,hI.f,hI.d,ag,λhc H4 hk a8 l hl=>?_,λhc l hl=>?_}
   ·rw[mJ hc] at c
    let s5:=zF hl (.lst [V.bl true,x]);exact q _ c l x _ ((hk.old J C.new).trans s5) zC (Rep.same (zRk s5) _ _ (C.cls H4 _ a8 hk))
   ·rw[mH (by rw[hc];decide)] at c
    exact qn c l x _ (J.trans (zF hl _)) zC
theorem yEb{us:B0}:us...*<=T.szs us:=i3 us
theorem zRb{m:Nat}{a b:B0}(h:d6 m b)(s:∀t∈a,t∈b):d6 m a:=d7 λt c=>c8 h (s t c)
theorem zNr{us:B0}{i j:Nat}(h:i<=j):T.szs (us.take i)+T.szs (us.drop j)<=T.szs us:=by
 let e:us=us.take i++us.drop i:=(tU i us).symm;let b:T.szs us=T.szs (us.take i)+T.szs (us.drop i):=by conv=>lhs;rw[e,d3]
 let a:us.drop i=(us.drop i).take (j - i)++us.drop j:=by
  let:=(tU (j - i) (us.drop i)).symm;rw[List.drop_drop,show i+(j - i)=j by lia] at this;exact this
 let c:T.szs (us.drop i)=T.szs ((us.drop i).take (j - i))+T.szs (us.drop j):=by conv=>lhs;rw[a,d3]
 lia
theorem zVm{a b:B0}{d:Nat}(h:T.deps b<=d)(s:∀t∈a,t∈b):T.deps a<=d:=d5 λt c=>nP (b7 (s t c)) h
theorem yBd{m:Nat}{us:B0}{n:T}{i j:Nat}(b:i<=j)(d:T.fewm m (.lst us))(g:T.fewm m n)(hz:T.sz (.lst us)<=50000):
  T.fewm m (.lst (us.take i++n::us.drop j))/\T.dep (.lst (us.take i++n::us.drop j))<=max (T.dep (.lst us)) (T.dep n+1)/\T.sz (.lst (us.take i++n::us.drop j))<=T.sz (.lst us)+T.sz n:=by
 let e:T.szs us+1<=50000:=hz;let k:=yEb (us:=us);let h:=zNr (us:=us) b;let c:∀t∈us.take i++n::us.drop j,t∈us\/t=n:=λt a=>by
  rcases nE.mp a with z | z
  ·exact .inl (sL z)
  ·rcases mG.mp z with z | z
   ·exact .inr z
   ·exact .inl (tZ z)
 refine nAA {?_,d7 λt a=>?_} ?_ ?_
 ·rw[mK,mP,nQ,pZ];lia
 ·rcases c t a with z | z
  ·exact c8 d.2 z
  ·rw[z];exact g
 ·show T.deps (us.take i++n::us.drop j)+1<=max (T.deps us+1) (T.dep n+1)
  let:T.deps (us.take i++n::us.drop j)<=max (T.deps us) (T.dep n):=d5 λt a=>by
   rcases c t a with z | z
   ·let:=b7 z;lia
   ·rw[z];lia
  lia
 ·show T.szs (us.take i++n::us.drop j)+1<=T.szs us+1+T.sz n
  rw[d3];show T.szs (us.take i)+(T.sz n+T.szs (us.drop j))+1<=_
  lia
theorem zVg{m:Nat}{ks a:C6}{us vs:B0}{n:T}(h:T.fewm m (.dic ks us))(j:T.fewm m n)(g:a.Nodup)(i:a...*=vs...*)(c:vs...*<=us...*+1)(d:∀t∈vs,t∈us\/t=n)(hz:T.szs vs<=T.szs us+T.sz n):
  T.fewm (m+1) (.dic a vs)/\T.dep (.dic a vs)<=max (T.dep (.dic ks us)) (T.dep n+1)/\T.sz (.dic a vs)<=T.sz (.dic ks us)+T.sz n:=by
 ext xI h l o e k;refine nAA {g,∅,i,d7 λt b=>?_} ?_ ?_
 ·rcases d t b with z | z
  ·exact b8 (pP m) _ (c8 k z)
  ·rw[z];exact b8 (pP m) _ j
 ·show T.deps vs+1<=max (T.deps us+1) (T.dep n+1)
  let:T.deps vs<=max (T.deps us) (T.dep n):=d5 λt b=>by
   rcases d t b with z | z
   ·let:=b7 z;lia
   ·rw[z];lia
  lia
 ·show T.szs vs+1<=T.szs us+1+T.sz n
  lia
theorem gK{m:Nat}{t n:T}(a:T.fewm m t):T.fewm (m+1) t/\T.dep t<=max (T.dep t) (T.dep n+1)/\T.sz t<=T.sz t+T.sz n:={b8 (pP m) _ a,cQ _ _,sD _ _}
theorem zPg{m:Nat}{us:B0}{n:T}{i j:Nat}(a:i<=j)(g:T.fewm m (.lst us))(c:T.fewm m n)(hz:T.sz (.lst us)<=50000):
  T.fewm (m+1) (.lst (us.take i++n::us.drop j))/\T.dep (.lst (us.take i++n::us.drop j))<=max (T.dep (.lst us)) (T.dep n+1)/\T.sz (.lst (us.take i++n::us.drop j))<=T.sz (.lst us)+T.sz n:=by
 obtain⟨e,b,d⟩:=yBd a g c hz;exact nAA (b8 (pP m) _ e) b d
theorem zYb{m:Nat}{us:B0}{n:T}{i:Nat}(a:T.fewm m (.lst us)):
  T.fewm (m+1) (.lst (us.take i++us.drop (i+1)))/\T.dep (.lst (us.take i++us.drop (i+1)))<=max (T.dep (.lst us)) (T.dep n+1)/\T.sz (.lst (us.take i++us.drop (i+1)))<=T.sz (.lst us)+T.sz n:=by
 let d:=zNr (us:=us) (i:=i) (j:=i+1) ∅;let b:∀t∈us.take i++us.drop (i+1),t∈us:=λt c=>(nE.mp c).elim sL tZ;refine nAA {?_,i7 (pP m) _ (zRb a.2 b)} ?_ ?_
 ·let:=a.1
  rw[mK,nQ,pZ];lia
 ·show T.deps (us.take i++us.drop (i+1))+1<=max (T.deps us+1) (T.dep n+1)
  let:=zVm (mD (T.deps us)) b
  lia
 ·show T.szs (us.take i++us.drop (i+1))+1<=T.szs us+1+T.sz n
  rw[d3];lia
theorem zRs{m:Nat}{ks:C6}{us:B0}{n:T}{x:List Nat}(a:T.fewm m (.dic ks us))(d:T.fewm m n):
  T.fewm (m+1) (.dic (xF x ks) (yS x ks us))/\T.dep (.dic (xF x ks) (yS x ks us))<=max (T.dep (.dic ks us)) (T.dep n+1)/\T.sz (.dic (xF x ks) (yS x ks us))<=T.sz (.dic ks us)+T.sz n:=by
 obtain⟨c,e⟩:=zBd (n:=x) a.2.2.1;let:=zBw (n:=x) (ks:=ks) (us:=us);exact zVg a d (vK a.1) c ∅ (λt b=>.inl (uZ b)) ∅
theorem zTj{m:Nat}{w:Wd}{t n:T}{k:Key}(a:T.fewm m t)(c:T.fewm m n)(hz:T.sz t<=50000):T.fewm (m+1) (yB w t k n)/\T.dep (yB w t k n)<=max (T.dep t) (T.dep n+1)/\T.sz (yB w t k n)<=T.sz t+T.sz n:=by
 cases t with
 |dic e d=>
  cases k with
  |inr x=>
   cases w with
   |put=>
    obtain⟨h,g⟩:=uI (ks:=e) (us:=d) (n:=ts x) (t:=n) a.2.2.1;let:=zBw (n:=ts x) (ks:=e) (us:=d);let l:=zJk (n:=ts x) (t:=n) a.1 a.2.2.1;exact zVg a c (kY a.1) h g (λt j=>zIo j) ∅
   |ins=>exact gK a|tak=>exact zRs a c
  |inl i=>cases w<;>exact gK a
 |lst d=>
  cases k with
  |inl i=>
   cases w with|put=>exact zPg (pP _) a c hz|ins=>exact zPg (mD _) a c hz|tak=>exact zYb a
  |inr x=>cases w<;>exact gK a
 |tup d=>exact a.elim|non=>cases w<;>exact gK a|bl b=>cases w<;>exact gK a|int b=>cases w<;>exact gK a|str b=>cases w<;>exact gK a
theorem zBr:∀(t:T)(ks:B8),1<=(goT t ks)...*/\(goT t ks)...*<=ks...*+1
 |t,[]=>{mD _,mD _}|t,k::ks=>by
  show 1<=(match zP t k with | none=>[t] | some u=>t::goT u ks)...*/\(match zP t k with | none=>[t] | some u=>t::goT u ks)...*<=ks...*+1+1
  cases zP t k with
  |none=>exact{mD _,by show 1<=_;lia}|some u=>
   let:=zBr u ks;exact{by show 1<=(goT u ks)...*+1;lia,by show(goT u ks)...*+1<=_;lia}
theorem zOo{r:T}:∀{us:B0}{i:Nat}{u:T},us[i]? =Y u->T.szs (us.set i r)+T.sz u=T.szs us+T.sz r
 |[],_,_,h=>by simp at h|v::us,0,u,h=>by
  let e:v=u:=by simpa using h
  subst e;show T.sz r+T.szs us+T.sz v=T.sz v+T.szs us+T.sz r
  lia
 |v::us,i+1,u,h=>by
  let a:=zOo (r:=r) (us:=us) (i:=i) (u:=u) (by simpa using h);show T.sz v+T.szs (us.set i r)+T.sz u=T.sz v+T.szs us+T.sz r
  lia
theorem zJw{n:List Nat}{r:T}:∀{ks:C6}{us:B0},ks.Nodup->ks...*=us...*->n∈ks->T.szs (yL n r ks us)+T.sz (zV n ks us)=T.szs us+T.sz r
 |[],_,_,_,h=>nomatch h|_::_,[],_,h,_=>by simp at h|k::ks,u::us,c,g,h=>by
  rw[nY] at c;show T.szs ((if k=n then r else u)::yL n r ks us)+T.sz (if k=n then u else zV n ks us)=T.sz u+T.szs us+T.sz r
  by_cases e:k=n
  ·rw[mJ e,mJ e]
   let j:yL n r ks us=us:=by
    let z:=zJk (n:=n) (t:=r) c.2 (by simpa using g) (us:=us);let d:n∉ks:=by rw[<-e];exact c.1
    let:∀(ks:C6)(us:B0),n∉ks->yL n r ks us=us:=by
     intro ks
     induction ks with
     |nil=>intro us _;unfold yL;rfl|cons a ks i=>
      intro us d
      cases us with
      |nil=>rfl|cons b us=>
       show(if a=n then r else b)::yL n r ks us=b::us;rw[mH (λz=>d (by rw[z];exact mE)),i us λz=>d (mI _ z)]
    exact this ks us d
   rw[j];show T.sz r+T.szs us+T.sz u=_
   lia
  ·rw[mH e,mH e]
   let l:n∈ks:=by
    rcases mG.mp h with z | z
    ·exact absurd z.symm e
    ·exact z
   let i:=zJw (r:=r) c.2 (by simpa using g) l (us:=us);show T.sz u+T.szs (yL n r ks us)+T.sz (zV n ks us)=_
   lia
theorem vN{t u:T}{k:Key}(a:zP t k=Y u):(∃us i,t= .lst us/\k= .inl i/\us[i.toNat]? =Y u/\∀r,yB .put t k r= .lst (us.set i.toNat r))\/(∃ks us x,t= .dic ks us/\k= .inr x/\ts x∈ks/\u=zV (ts x) ks us/\∀r,yB .put t k r= .dic ks (yL (ts x) r ks us)):=by
 cases t with
 |lst us=>
  cases k with
  |inl i=>
   let h:us[i.toNat]? =Y u:=a;refine .inl {us,i,O,O,h,λr=>?_};show T.lst (us.take i.toNat++r::us.drop (i.toNat+1))=_;let g:=(mN.mp h).1;rw[aZ,mJ g]
  |inr x=>cases a
 |dic ks us=>
  cases k with
  |inl i=>cases a|inr x=>
   let d:(if ts x∈ks then Y (zV (ts x) ks us) else none)=Y u:=a
   by_cases c:ts x∈ks
   ·rw[mJ c] at d
    refine .inr {ks,us,x,O,O,c,(mW d).symm,λr=>?_};let e:yZ (ks,us) (ts x) r=(ks,yL (ts x) r ks us):=mJ c;show T.dic (yZ (ks,us) (ts x) r).1 (yZ (ks,us) (ts x) r).2=_;rw[e]
   ·rw[mH c] at d;cases d
 |non=>cases a|bl b=>cases a|int b=>cases a|str b=>cases a|tup us=>cases a
theorem yBq{m:Nat}{t u r:T}{k:Key}(b:T.fewm m t)(d:zP t k=Y u):T.sz (yB .put t k r)+T.sz u=T.sz t+T.sz r:=by
 rcases vN d with⟨a,i,rfl,rfl,h,e⟩|⟨g,a,x,rfl,rfl,c,rfl,e⟩
 ·rw[e]
  let:=zOo (r:=r) h;show T.szs _+1+_=T.szs a+1+_
  lia
 ·rw[e]
  let:=zJw (r:=r) b.1 b.2.2.1 c;show T.szs _+1+_=T.szs a+1+_
  lia
theorem yEf{m:Nat}{t u r:T}{k:Key}(d:T.fewm m t)(j:zP t k=Y u)(g:T.fewm m r):T.fewm m (yB .put t k r)/\T.dep (yB .put t k r)<=max (T.dep t) (T.dep r+1):=by
 rcases vN j with⟨b,i,rfl,rfl,h,e⟩|⟨l,b,x,rfl,rfl,n,rfl,e⟩
 ·rw[e]
  let c:∀t∈b.set i.toNat r,t∈b\/t=r:=λt a=>List.mem_or_eq_of_mem_set a;refine{{by rw[bJ];exact d.1,d7 λt a=>?_}, ?_}
  ·rcases c t a with z | z
   ·exact c8 d.2 z
   ·rw[z];exact g
  ·show T.deps _+1<=max (T.deps b+1) (T.dep r+1)
   let:T.deps (b.set i.toNat r)<=max (T.deps b) (T.dep r):=d5 λt a=>by
    rcases c t a with z | z
    ·let:=b7 z;lia
    ·rw[z];lia
   lia
 ·rw[e]
  refine{{d.1,d.2.1,by rw[kO];exact d.2.2.1,d7 λt a=>?_}, ?_}
  ·rcases uN _ _ _ _ _ a with z | z
   ·exact c8 d.2.2.2 z
   ·rw[z];exact g
  ·show T.deps _+1<=max (T.deps b+1) (T.dep r+1)
   let:T.deps (yL (ts x) r l b)<=max (T.deps b) (T.dep r):=d5 λt a=>by
    rcases uN _ _ _ _ _ a with z | z
    ·let:=b7 z;lia
    ·rw[z];lia
   lia
theorem zGx{m:Nat}{t u:T}{k:Key}(c:T.fewm m t)(g:zP t k=Y u):T.fewm m u/\T.dep u+1<=T.dep t/\T.sz u<=T.sz t:=by
 rcases vN g with⟨b,i,rfl,rfl,h,e⟩|⟨j,b,x,rfl,rfl,d,rfl,e⟩
 ·let a:=mO h
  let:=b7 a;let:=d4 a;exact nAA (c8 c.2 a) (show _<=T.deps b+1 by lia) (show _<=T.szs b+1 by lia)
 ·let a:=yY d c.2.2.1
  let:=b7 a;let:=d4 a;exact nAA (c8 c.2.2.2 a) (show _<=T.deps b+1 by lia) (show _<=T.szs b+1 by lia)
theorem zJn:∀(ks:B8)(t:T)(i:Nat),i+1<(goT t ks)...*->∃k u v,ks[i]? =Y k/\(goT t ks)[i]? =Y u/\(goT t ks)[i+1]? =Y v/\zP u k=Y v
 |[],t,i,h=>by
  let x:i+1<1:=h
  lia
 |k::ks,t,i,h=>by
  let e:goT t (k::ks)=(match zP t k with | none=>[t] | some u=>t::goT u ks):=rfl
  cases j:zP t k with
  |none=>
   rw[j] at e;rw[e] at h;let x:i+1<1:=h
   lia
  |some u=>
   rw[j] at e;let n:goT t (k::ks)=t::goT u ks:=e;rw[n] at h⊢
   cases i with
   |zero=>
    let y:=(zBr u ks).1;obtain⟨v,a⟩:∃v,(goT u ks)[0]? =Y v:={(goT u ks)[0],by simp};let g:v=u:=by
     cases ks with
     |nil=>let:(goT u [])[0]? =Y u:=rfl;rw[this] at a;exact(mW a).symm|cons d ks=>
      let:goT u (d::ks)=(match zP u d with | none=>[u] | some c=>u::goT c ks):=rfl
      rw[this] at a
      cases b:zP u d with|none=>rw[b] at a;exact(mW a).symm|some _=>rw[b] at a;exact(mW a).symm
    refine kE k t u O O (nA ?_ j);show(goT u ks)[0]? =Y u;rw[a,g]
   |succ i=>
    refine zZ (zJn ks u i (by simpa using h)) λo c q r l s=>?_;ext oA s m p;exact kE o c q (by simpa using r) (by simpa using l) (nA (by simpa using m) p)
theorem zFf{m:Nat}:∀(ks:B8)(t:T)(i:Nat)(u:T),T.fewm m t->(goT t ks)[i]? =Y u->T.fewm m u/\T.dep u+i<=T.dep t/\T.sz u<=T.sz t
 |[],t,i,u,a,h=>by
  let d: [t][i]? =Y u:=h
  cases i with|zero=>rw[<-mW d];exact{a,mD _,mD _}|succ i=>cases d
 |k::ks,t,i,u,a,h=>by
  let e:goT t (k::ks)=(match zP t k with | none=>[t] | some u=>t::goT u ks):=rfl
  cases c:zP t k with
  |none=>
   rw[c] at e;let b:goT t (k::ks)= [t]:=e;rw[b] at h
   cases i with|zero=>rw[<-mW h];exact{a,mD _,mD _}|succ i=>cases h
  |some v=>
   rw[c] at e;let b:goT t (k::ks)=t::goT v ks:=e;rw[b] at h
   cases i with
   |zero=>rw[<-mW h];exact{a,mD _,mD _}|succ i=>
    obtain⟨g,p,l⟩:=zGx a c;obtain⟨j,n,o⟩:=zFf ks v i u g (by simpa using h);exact nAA j ∅ ∅
def okS:Key->Prop
 |.inl i=>0<=i/\i<=59|.inr s=>xA (ts s)=true
theorem okS.k{k:Key}(h:okS k):okK k:=by
 cases k with|inl i=>exact h|inr s=>exact mS
theorem putT_in{ks:C6}{us:B0}{n k:List Nat}{t:T}:k∈(yZ (ks,us) n t).1↔k∈ks\/k=n:=by
 unfold yZ;split
 ·rename_i h
  exact{.inl,λz=>z.elim id λe=>by rw[e];exact h}
 ·show k∈ks++ [n]↔_
  rw[nE,mF]
theorem zSt{us:B0}{n:T}{i j:Nat}(a:j7 us)(b:T.gk n):j7 (us.take i++n::us.drop j):=i6 λu c=>by
 rcases nE.mp c with z | z
 ·exact c7 a (sL z)
 ·rcases mG.mp z with z | z
  ·rw[z];exact b
  ·exact c7 a (tZ z)
theorem zOb{w:Wd}{t n:T}{k:Key}(d:T.gk t)(h:T.gk n)(j:okS k):T.gk (yB w t k n):=by
 cases t with
 |lst g=>
  let a:j7 g:=d
  cases k with
  |inr s=>cases w<;>exact a|inl i=>
   cases w with|put=>exact zSt a h|ins=>exact zSt a h|tak=>exact i6 λu c=>(nE.mp c).elim (λz=>c7 a (sL z)) λz=>c7 a (tZ z)
 |dic l g=>
  let a:(∀k∈l,xA k=true)/\j7 g:=d
  cases k with
  |inl i=>cases w<;>exact a|inr s=>
   cases w with|put=>exact{λk b=>(putT_in.mp b).elim (a.1 k) λe=>by rw[e];exact j,i6 λu c=>(zIo c).elim (c7 a.2) λe=>by rw[e];exact h}|ins=>exact a|tak=>exact{λk b=>a.1 k (dropN_mem.mp b).1,i6 λu c=>c7 a.2 (uZ c)}
 |tup g=>exact d.elim|_=>cases k<;>cases w<;>exact d
theorem zOw{t u:T}{k:Key}(b:T.few t)(a:T.gk t)(d:zP t k=Y u):T.gk u:=by
 rcases vN d with⟨e,i,rfl,_,h,_⟩|⟨g,e,x,rfl,_,c,rfl,_⟩
 ·exact c7 a (mO h)
 ·exact c7 a.2 (yY c b.2.2.1)
theorem zDj{m:Nat}{w:Wd}{n:T}(D:m<63)(l:T.fewm m n)(i:T.gk n):∀(ks:B8)(t r:T),doT w n ks t=Y r->T.fewm m t->T.gk t->(∀k∈ks,okS k)->T.sz t<=50000->T.fewm (m+1) r/\T.gk r/\T.dep r<=max (T.dep t) (ks...*+T.dep n)/\T.sz r<=T.sz t+T.sz n
 |[],t,r,h,a,c,_,_=>by
  cases w with
  |put=>
   let e:n=r:=mW h;subst e;exact zYx (b8 (pP m) _ l) i (by show T.dep n<=max (T.dep t) (0+T.dep n);lia) ∅
  |ins=>cases h|tak=>cases h
 |[k],t,r,h,a,c,d,o=>by
  let g:(if xO w t k=true then Y (yB w t k n) else none)=Y r:=h
  by_cases u:xO w t k=true
  ·rw[mJ u] at g
   let e:=mW g;subst e;obtain⟨B,a2,z⟩:=zTj (w:=w) (k:=k) a l o;exact zYx B (zOb c i (d k mE)) (by show _<=max (T.dep t) (1+T.dep n);lia) z
  ·rw[mH u] at g;cases g
 |k::H::ks,t,r,h,a,c,d,o=>by
  rw[wH (by simp)] at h
  cases b:zP t k with
  |none=>rw[b] at h;cases h|some s=>
   rw[b] at h;obtain⟨p,j,e⟩:=rG.mp h;subst e;obtain⟨E,J,N⟩:=zGx a b;refine xI (zDj D l i (H::ks) s p j E (zOw (c6 ∅ _ a) c b) (λq I=>d q (mI _ I)) ∅) λv A x L=>?_;obtain⟨y,Q⟩:=yEf (b8 (pP m) _ a) b v;let M:=yBq (r:=p) a b;refine zYx y (zOb c A (d k mE)) ?_ ∅;rw[mP] at x⊢;rw[mP];let:1<=T.dep t:=by lia
   lia
theorem zHe{n a:T}:∀(ks:B8)(t:T),doT .tak n ks t=doT .tak a ks t
 |[],_=>rfl|[k],t=>by
  show(if xO .tak t k=true then Y (yB .tak t k n) else none)=if xO .tak t k=true then Y (yB .tak t k a) else none;let e:yB .tak t k n=yB .tak t k a:=by cases t<;>cases k<;>rfl
  rw[e]
 |k::b::ks,t=>by
  rw[wH (by simp),wH (by simp)]
  cases zP t k with|none=>rfl|some s=>dsimp only;rw[zHe (b::ks) s]
abbrev Dd:=Wd×List Key×T
noncomputable def wE:List Dd->T->Option T
 |[],t=>Y t|d::a,t=>(doT d.1 d.2.2 d.2.1 t).bind (wE a)
abbrev _root_.C4:=List Dd
theorem zAc:∀(a b:C4)(t:T),wE (a++b) t=(wE a t).bind (wE b)
 |[],b,t=>rfl|d::a,b,t=>by
  show(doT d.1 d.2.2 d.2.1 t).bind (wE (a++b))=((doT d.1 d.2.2 d.2.1 t).bind (wE a)).bind (wE b)
  cases doT d.1 d.2.2 d.2.1 t with|none=>rfl|some r=>exact zAc a b r
theorem kD{d:Dd}{ds:C4}{t r:T}(h:doT d.1 d.2.2 d.2.1 t=Y r):wE (d::ds) t=wE ds r:=by
 show(doT d.1 d.2.2 d.2.1 t).bind (wE ds)=_;rw[h];rfl
theorem zVe{ds:C4}{d:Dd}{t r:T}(h:wE ds t=Y r):wE (ds++ [d]) t=doT d.1 d.2.2 d.2.1 r:=by
 rw[zAc,h];show(doT d.1 d.2.2 d.2.1 r).bind (wE [])=_;cases doT d.1 d.2.2 d.2.1 r<;>rfl
theorem yBk:∀t:T,1<=T.sz t
 |.lst a=>by show 1<=T.szs a+1;lia|.dic _ a=>by show 1<=T.szs a+1;lia|.tup a=>by show 1<=T.szs a+1;lia|.non=>mD _|.bl _=>mD _|.int _=>mD _|.str _=>mD _
noncomputable def zCw:V->Bool
 |.str x=>xA (ts x)|_=>false
def zWr:Sp:=λb H Q _=>∃(v:V)(t:String),b= [v]/\tyS H v=Y t/\(∀x,v= .str x->x...*<=1000)/\∀a,Same H a->Q (.bl (zCw v)) a
theorem zWv{H:Hp}{v:V}{t:String}(a:tyS H v=Y t)(h:zT t "str" =false):zCw v=false:=by
 cases v with|str x=>cases a;exact absurd h ∎|_=>rfl
theorem yDk{H:Hp}{v:V}{t:String}(c:tyS H v=Y t)(h:¬zT t "str" =false):∃x,v= .str x:=by
 cases v with
 |str x=>exact⟨x,O⟩|ref a=>
  let d:(match H a with | some (.lst _)=>some "list" | some (.tup _)=>some "tuple" | some (.dK _)=>some "dict" | _=>none)=Y t:=c
  split at d<;>first |(cases d;exact absurd ∎ h)| cases d
 |non=>cases c;exact absurd ∎ h|bl b=>cases c;exact absurd ∎ h|int b=>cases c;exact absurd ∎ h|byt b=>cases c|flt b=>cases c|ty b=>cases c
structure Ms(mg:C8):Prop where
 LETTERS:∃t,mg "LETTERS" =Y (.str (A5 "abcdefghijklmnopqrstuvwxyz") t)
 NAME_SIGNS:∃t,mg "NAME_SIGNS" =Y (.str (A5 "abcdefghijklmnopqrstuvwxyz0123456789") t)
 MOST_IN_NAME:∃t,mg "MOST_IN_NAME" =Y (.int 12 t)
 MOST_IN_TEXT:∃t,mg "MOST_IN_TEXT" =Y (.int 30 t)
 MOST_IN_ROW:∃t,mg "MOST_IN_ROW" =Y (.int 60 t)
 MOST_IN_RECORD:∃t,mg "MOST_IN_RECORD" =Y (.int 30 t)
 MOST_DEPTH:∃t,mg "MOST_DEPTH" =Y (.int 8 t)
 MOST_SIZE:∃t,mg "MOST_SIZE" =Y (.int 200 t)
abbrev zPr:V6:=top 10
theorem zLp(F:Fun K "is_name" "is_name" zPr f fd)(B:Bl mg)(M:Ms mg):FnOk P w K mg base CX0 1 f fd ["thing"] zWr:=by
 refine F.okn (N:=["thing"]) λaa A y s H vs Q E nd hr h=>?_;ext zX h v t l o hl q;subst l;refine{_,(zD (zU (i9 (gR (vE (yI (pI B.isinstance zJ B.str vY (pv 0)))) (gZ (vE (zWc uB uB zE (zN zBm O B.len yR (zA (pv 0) zB)) (zEb O M.MOST_IN_NAME)))))) (zG (zI qT)) zL)
  (zG (zI (qA (zHd zOi (pX zCa (pv 0) zE) (yAm O M.LETTERS) (by with_unfolding_all rfl)) (vR (zN (kJ O) O B.all zBx (zA (wW (own:=["sign"]) (F:=[]) {O,tb_g%,tb_g%,tb_g%, .nil} O (zTv (pv 0)) (λ_ _ _ _=>yH (i:=0) (by show(wN ["sign"] []).Nodup;decide+kernel) O (nR O)) (λ_ _ _ _=>xU) (λ_ _ _ _=>(zHd zOi (pv 0) (yAm O M.NAME_SIGNS) (by with_unfolding_all rfl)))) zB))))))), ?_}
 walk_at "st";lk;refine nEA t o ?_
 by_cases k:zT t "str" =false
 ·rw[mJ k]
  let e:zCw v=false:=zWv o k;rw[<-e];exact q H (Same.refl H)
 ·rw[mH k]
  obtain⟨x,rfl⟩:=yDk o k;let hx:=hl x O;let b:=zLz x;refine zUs x O ∅ ?_
  by_cases z:(1:Int)<=(x...*:Int)
  ·rw[mJ z]
   by_cases g:¬(x...*:Int)<=12
   ·rw[mJ g]
    let e:zCw (.str x)=false:=by
     show xA (ts x)=false;unfold xA;rw[show decide ((ts x)...*<=12)=false from nJ ∅];simp
    rw[<-e];exact q H (Same.refl H)
   rw[mH g];obtain⟨c,r,I⟩:∃c r,ts x=c::r:=by
    cases e:ts x with|nil=>rw[e] at b;simp at b;lia|cons c r=>exact⟨c,r,O⟩
   refine zCk (by rw[mV];lia) (c:=c) (by rw[I];exact yC (j:=0) O) {c,O, ?_};let D:zCw (.str x)=(decide (c∈letL)&& (ts x).all λc=>decide (c∈letL++zEu)):=by
    show xA (ts x)=_;unfold xA;rw[show decide ((ts x)...*<=12)=true from nO ∅,show decide (1<=(ts x)...*)=true from nO ∅,I];simp
   simp only[yDb]
   by_cases a:c∈letL
   ·rw[mJ a]
    refine nEA x O (zIq (λi n m=>Same H m/\n=(((ts x).take i).map λc=>decide (c∈letL++zEu)).map V.bl) (by rw[mV];lia) {Same.refl _,O} ?_ ?_)
    ·rintro i d n m L _ ⟨u,rfl⟩
     lk;refine zUs d O u ?_;let e:(ts x).take (i+1)=(ts x).take i++ [d]:=by rw[List.take_add_one,L];rfl
     rw[e,zHw];simp only[nH,nD,tS]
    ·rintro n m J ⟨u,rfl⟩ p hp
     refine kW p O _ (SqL.of zC) ?_;let e:zCw (.str x)=((((ts x).take (ts x)...*).map λc=>decide (c∈letL++zEu)).all id):=by
      rw[D,nO a,aB,pH,aK];rfl
     rw[<-e];exact q _ (u.trans (zF hp _))
   ·rw[mH a]
    let e:zCw (.str x)=false:=by rw[D,nJ a];rfl
    rw[<-e];exact q H (Same.refl H)
  ·rw[mH z]
   let e:zCw (.str x)=false:=by
    let:ts x= []:=tQ ∅;show xA (ts x)=false;rw[this];rfl
   rw[<-e];exact q H (Same.refl H)
def zHg:Sp:=λb H Q _=>∃(v:V)(t:String),b= [v]/\tyR H v=Y t/\∀a,Same H a->Q (xS t) a
theorem zWy{H:Hp}{v:V}(h:tyR H v=some "NoneType"):v= .non:=by
 cases v with
 |ref a=>
  let c:(match H a with | some (.frz _ (.dK _))=>some "dict" | _=>tyS H (.ref a))=some "NoneType":=h
  split at c
  ·exact absurd (mW c) ∎
  ·exact kB c
 |non=>rfl|bl b=>exact kB (H:=H) (show tyS H (.bl b)=_ from h)|int b=>exact kB (H:=H) (show tyS H (.int b)=_ from h)|str b=>exact kB (H:=H) (show tyS H (.str b)=_ from h)|byt b=>exact kB (H:=H) (show tyS H (.byt b)=_ from h)|flt b=>exact kB (H:=H) (show tyS H (.flt b)=_ from h)|ty b=>exact kB (H:=H) (show tyS H (.ty b)=_ from h)
theorem zEs(F:Fun K "kind_of" "kind_of" zOq f fd)(B:Bl mg):FnOk P w K mg base CX0 1 f fd ["thing"] zHg:=by
 refine F.okn (N:=["thing"]) λg A c s H j Q E i k h=>?_;ext yM h v t b a q;subst b;refine{_,(zD (zU (zAh (zCn (pv 0))) (zG (zI zO)) zL)
  (zD (zU (yI (zN (jI (T:="bool") ∎) O B.isinstance zJ (zA (pv 0) (zA (wY (v:=.ty "bool") O B.bool zOf O) zB)))) (zG (zI zO)) zL)
  (zD (zU (yI (zN (jI (T:="int") ∎) O B.isinstance zJ (zA (pv 0) (zA (wY (v:=.ty "int") O B.int vX O) zB)))) (zG (zI zO)) zL)
  (zD (zU (yI (zN (jI (T:="str") ∎) O B.isinstance zJ (zA (pv 0) (zA (wY (v:=.ty "str") O B.str vY O) zB)))) (zG (zI zO)) zL)
  (zD (zU (yI (zN (jI (T:="list") ∎) O B.isinstance zJ (zA (pv 0) (zA (wY (v:=.ty "list") O B.list xZ O) zB)))) (zG (zI zO)) zL)
  (zD (zU (yI (zN (jI (T:="dict") ∎) O B.isinstance zJ (zA (pv 0) (zA (wY (v:=.ty "dict") O B.dict xV O) zB)))) (zG (zI zO)) zL)
  (zG (zI kZ)))))))), ?_}
 walk_at "st";lk;let q:=q H (Same.refl H);let e:=zWw a;simp only[a,Option.some.injEq,cR]
 by_cases d:v= .non
 ·subst d;cases a;rw[mJ O];exact q
 ·rw[mH d]
  simp only[tyL,mG,pG,sT] at e;rcases e with rfl | rfl | rfl | rfl | rfl | rfl | rfl
  ·exact absurd (zWy a) d
  all_goals (simpa [zT,xS] using q)
abbrev zVn:V6:=top 28
def zOs:Sp:=λb H Q _=>∃(v:V)(t:T),b= [v]/\Rep H v t/\∀a,Same H a->Q (xS (tyT t)) a
theorem yDt{k:Nat}{ps:C1}(h:FnOk P w K mg base CX0 k f fd ps zHg):FnOk P w K mg base CX0 k f fd ps zOs:=
 h.imp λb H Q E ⟨v,t,e,a,q⟩=>{v,tyT t,e,(Rep.rp _ _ a).ty,q}
noncomputable def zAm:T->Bool
 |.int i=>decide (0<=i/\i<60)|_=>false
def zDl:Sp:=λb H Q _=>∃(v:V)(t:T),b= [v]/\Rep H v t/\∀a,Same H a->Q (.bl (zAm t)) a
theorem zWf(F:Fun K "is_place" "is_place" zVn f fd)(B:Bl mg)(M:Ms mg)(a:Dn P w K mg base 1 "kind_of" ["thing"] zOs):FnOk P w K mg base CX0 2 f fd ["thing"] zDl:=by
 refine F.okn (N:=["thing"]) λn A j s H r Q E p o h=>?_;ext yM h v t g k q;subst g;refine nEA _ (zG (zI (qA (pE xC (pD a o (zA (pv 0) zB)) zO) (vR (zLi uB kL zE (pv 0) (zEb O M.MOST_IN_ROW)))))) ?_;walk_at "st";lk;refine{v,t,O,k,λl m=>?_};let q:=q l m
 cases t with
 |int i=>
  cases (show v=_ from k);refine{O,iP (show xS "int" =V.str (A5 "number") by decide+kernel) {i,O, ?_}}
  by_cases d:0<=i
  ·refine iP d {i,O, ?_}
   let e:zAm (.int i)=decide (i<60):=by simp[zAm,d]
   rw[<-e];exact q
  ·refine iN d ?_
   let e:zAm (.int i)=false:=by simp[zAm,d]
   rw[<-e];exact q
 |non=>exact{O,iN (show¬xS "NoneType" =V.str (A5 "number") by decide+kernel) q}|bl b=>exact{O,iN (show¬xS "bool" =V.str (A5 "number") by decide+kernel) q}|str b=>exact{O,iN (show¬xS "str" =V.str (A5 "number") by decide+kernel) q}|lst b=>exact{O,iN (show¬xS "list" =V.str (A5 "number") by decide+kernel) q}|dic b c=>exact{O,iN (show¬xS "dict" =V.str (A5 "number") by decide+kernel) q}|tup b=>exact{O,iN (show¬xS "tuple" =V.str (A5 "number") by decide+kernel) q}
abbrev sLw:V6:=top 39
abbrev sCc:V6:=top 40
abbrev sRec:V6:=top 42
abbrev sRow:V6:=top 43
abbrev zZx:V6:=top 41
theorem zKg{k:Key}(h:okK k)(i:Int)(e:k= .inl i):zAm (.int i)=true:=by
 subst e;let a:0<=i/\i<=59:=h;simp only[zAm,pO]
 lia
theorem cutTo(xs:B3){i:Int}(h:0<=i):jV xs none ↥i=xs.take i.toNat:=by
 obtain⟨n,rfl⟩:=sQ h;unfold jV;rw[HT.sIx_nat,HT.sIx_none,tF,cN,tR]
 by_cases c:n<=xs...*
 ·rw[bM c]
 ·rw[bC ∅,rH (mD _),rH ∅]
theorem zIg(xs:B3){i:Int}(h:0<=i):jV xs ↥i none=xs.drop i.toNat:=by
 obtain⟨n,rfl⟩:=sQ h;unfold jV;rw[HT.sIx_nat,HT.sIx_none,tR]
 by_cases c:n<=xs...*
 ·rw[bM c,rH (by rw[pZ];exact mD _)]
 ·rw[bC ∅,pY (mD _),pY ∅,List.take_nil]
theorem ok_lw(F:Fun K "leads_within" "leads_within" sLw f fd)(B:Bl mg)(a:Dn P w K mg base 1 "leads_on" ["thing","step"] zRn)(b:Dn P w K mg base 2 "is_place" ["thing"] zDl):FnOk P w K mg base CX0 3 f fd ["thing","step"] zRn:=by
 refine F.okn (N:=["thing","step"]) λr A d s H J Q E I n h=>?_;ext zZ h v t k e u z;ext xI z y p m q;subst e;refine nEA _ (zG (zI (qA (pD a n (zA (pv 0) (zA (pv 1) zB))) (vR (yAg (pI B.isinstance zJ B.str vY (pv 1)) (vR (pD b n (zA (pv 1) zB)))))))) ?_;walk_at "st";lk;refine{v,t,k,O,u,y,p,m,λo l=>{_,O, ?_}};let c:=q o l
 cases g:(zP t k).isSome with
 |false=>rw[g] at c;exact iN ∎ c|true=>
  refine iP O ?_
  cases k with
  |inr x=>rw[g] at c;exact{"str",O,iP ∎ c}|inl i=>
   refine nEA ("int") O (iN ∎ {_, .int i,O,O,λD g2=>?_});rw[zKg m i O];let j:=q D (l.trans g2);rw[g] at j;exact j
def spCc:Sp:=λb H Q _=>∃(v:V)(t:T)(w:Wd)(k:Key),b= [v, .str w.s,kV k]/\Rep H v t/\T.pure t/\T.sz t<=100000/\okK k/\∀a,Same H a->Q (.bl (xO w t k)) a
theorem ok_cc(F:Fun K "can_change" "can_change" sCc f fd)(B:Bl mg)(a:Dn P w K mg base 3 "leads_within" ["thing","step"] zRn)(g:Dn P w K mg base 2 "is_place" ["thing"] zDl):FnOk P w K mg base CX0 4 f fd ["holder","word","step"] spCc:=by
 refine F.okn (N:=["holder","word","step"]) λaa A J s H vs Q E nd hr h=>?_;ext yK h v t l k L z_;ext vS z_ j hp hz hk q;subst L;refine{_,(zD (zU (pT xC (pv 1) zO) (zG (zI (pD a hr (zA (pv 0) (zA (pv 2) zB))))) zL)
  (zD (zU (yI (pI B.isinstance zJ B.str vY (pv 2))) (zG (zI (qA (pE xC (pv 1) zO) (vR (pI B.isinstance zJ B.dict xV (pv 0)))))) zL)
  (zG (zI (qA (pI B.isinstance zJ B.list xZ (pv 0)) (qA (pD g hr (zA (pv 2) zB)) (vR (pE uB (pv 2) (zN yA O B.len yR (zA (pv 0) zB)))))))))), ?_}
 walk_at "st";lk;let D:=q H (Same.refl H);let r:¬Wd.put.s=A5 "take":=by decide+kernel
 let m:¬Wd.ins.s=A5 "take":=by decide+kernel
 let n:¬Wd.ins.s=A5 "put":=by decide+kernel
 let u:∀(l:Wd)(i:Int),k= .inl i->(∀d,t= .lst d->xO l t k=decide (i<=(d...*:Int)))->((∀d,t≠ .lst d)->xO l t k=false)->(∀H',Same H H'->Q (.bl (xO l t k)) H')->∃x,tyS H v=Y x/\if zT x "list" =true then zDl [kV k] H (λx I=>∃c,x=V.bl c/\if c=true then∃p,v=V.ref p/\∃ys,SqL K I p ys/\∃i,kV k=V.int i/\Q (V.bl (decide (i<=(ys...*:Int)))) I else Q (V.bl false) I) E0 else Q (V.bl false) H:=by
  intro l i ek h1 h2 q;subst ek;let o:(∀d,t≠ .lst d)->Q (.bl false) H:=λM=>by let:=q H (Same.refl H);rw[h2 M] at this;exact this
  cases t with
  |lst d=>
   ext yM j b xs y hb hx;subst y;refine nEA ("list") (zAb hb) (iP ∎ {_, .int i,O,O,λH2 g2=>{_,O, ?_}});rw[zKg hk i O];refine iP O {b,O,xs,SqL.of (g2 _ _ hb),i,O, ?_};let q2:=q H2 g2;rw[h1 d O] at q2;rw[hx...*];exact q2
  |dic ks d=>exact{_,j.ty,iN (by simp[tyT,zT]) (o (by intro d z;cases z))}|tup d=>exact hp.elim|non=>exact{_,j.ty,iN (by simp[tyT,zT]) (o (by intro d z;cases z))}|bl b=>exact{_,j.ty,iN (by simp[tyT,zT]) (o (by intro d z;cases z))}|int b=>exact{_,j.ty,iN (by simp[tyT,zT]) (o (by intro d z;cases z))}|str b=>exact{_,j.ty,iN (by simp[tyT,zT]) (o (by intro d z;cases z))}
 cases l with
 |tak=>exact iP O ⟨v,t,k,O,j,hp,hz,hk,q⟩|put=>
  refine iN r ?_
  cases k with
  |inr x=>
   refine nEA ("str") O (iP ∎ (iP O {_,j.ty, ?_}));let e:zT (tyT t) "dict" =xO .put t (.inr x):=by cases t<;>first | rfl |(simp[tyT,zT,xO])
   rw[e];exact D
  |inl i=>exact{"int",O,iN ∎ (u .put i O (λd e=>by subst e;rfl) (λh=>by cases t<;>first | rfl | exact absurd O (h _)) q)}
 |ins=>
  refine iN m ?_
  cases k with
  |inr x=>
   refine nEA ("str") O (iP ∎ (iN n ?_));let e:xO .ins t (.inr x)=false:=by cases t<;>rfl
   rw[e] at D;exact D
  |inl i=>exact{"int",O,iN ∎ (u .ins i O (λd e=>by subst e;rfl) (λh=>by cases t<;>first | rfl | exact absurd O (h _)) q)}
def yAp:Sp:=λh H Q _=>∃(a:V1)(d:D0)(b:C6)(c:B0)(w:Wd)(x:Str)(g:V)(n:T),h= [.ref a, .str w.s, .str x,g]/\H a=Y (.dK d)/\d.map (·.1)=b.map nK/\Reps H (d.map (·.2)) c/\b.Nodup/\b...*=c...*/\c...*<=1000/\(w= .put\/w= .tak/\ts x∈b)/\Rep H g n/\∀p e,Same H e->Rep e (.ref p) (yB w (.dic b c) (.inr x) n)->Q (.ref p) e
theorem yDi(F:Fun K "record_changed" "record_changed" sRec f fd)(B:Bl mg):FnOk P w K mg base CX0 1 f fd ["record","word","name","new"] yAp:=by
 refine F.okn (N:=["record","word","name","new","changed"]) λaa A u s H vs Q E nd hr h=>?_;ext zY h a d ks D wd g;ext zZ g x vn n v M g;ext zQ g c i nk L ac g;ext oAA g hw hn q;subst v;let J:=vO hr;refine{_,(zD (pS 4 nd (yU zJp O B.dict xV (zA (pv 0) zB)))
  (zD (zU (pT xC (pv 1) zO) (zG (wD (zKo (pv 4) (pv 2) ⟨O,O,O,O⟩))) (zG (zBj J (pv 4) (pv 2) (pv 3) O)))
  (zG (zI (pv 4))))), ?_}
 walk_at "st";lk;refine nEA d M (λl z=>?_);let s1:=zF z (.dK d);let e:=zC (H:=H) (a:=l) (o:=.dK d);let b:∀o,Same H (upd (upd H l (.dK d)) l o):=λo=>by rw[zHh];exact zF z o
 let ab:d...*=D...*:=by let:=i...*;rwa [mM] at this
 let y:(Sum.inr x:Key)=nK (ts x):=by show(Sum.inr x:Key)=Sum.inr (tx (ts x));rw[qC]
 rcases hw with rfl |⟨rfl,hx⟩
 ·refine iN (by decide+kernel) {_,DPut.k (k:=Sum.inr x) e (by rw[mV];lia), ?_}
  refine q l _ (b _) ?_;rw[y];obtain⟨m,r⟩:=zJb (p:=(ks,D)) (n:=ts x) (t:=n) c i hn;exact{l,_,O,zC,m,Reps.same (b _) _ _ r}
 ·refine iP O ?_
  refine oEA (d8 nk c i hx) λI j _=>?_;refine{l,O, .inl {d, .inl e},d,nK (ts x),I,e,by rw[<-y];rfl,j, ?_};obtain⟨m,r⟩:=Reps.dropK (n:=ts x) c i;refine q l _ (b _) {l,_,O,zC,m,Reps.same (b _) _ _ r}
def zZn:Sp:=λg H Q _=>∃(a:V1)(d:B3)(c:B0)(w:Wd)(i:Int)(e:V)(n:T),g= [.ref a, .str w.s, .int i,e]/\H a=Y (.lst d)/\Reps H d c/\c...*<=100000/\0<=i/\Rep H e n/\∀p b,Same H b->Rep b (.ref p) (yB w (.lst c) (.inl i) n)->Q (.ref p) b
theorem yDv(F:Fun K "row_changed" "row_changed" sRow f fd)(B:Bl mg):FnOk P w K mg base CX0 1 f fd ["row","word","place","new"] zZn:=by
 refine F.okn (N:=["row","word","place","new","ahead","behind"]) λaf A ae s H vs Q E nd hr h=>?_;ext zY h a b D wd i z_;ext zX z_ e n ab y z z_;ext xI z_ ah hi hn q;subst ab;refine{_,(zD (pS 4 nd (qB jW (pv 0) jF (jH (pv 2))))
  (zD (pS 5 nd (zJd (pT xC (pv 1) zO) (qB jW (pv 0) (jH (pv 2)) jF) (qB jW (pv 0) (jH (zH xH (pv 2) zE)) jF)))
  (zD (zU (pT xC (pv 1) zO) (zG (zI (zH zAf (pv 4) (pv 5)))) zL)
  (zG (zI (zH zAf (zH zAf (pv 4) (yJ (zA (pv 3) zB))) (pv 5))))))), ?_}
 walk_at "st";lk;let ag:=z...*;refine{a,b,O,SqL.of y,λu aa=>?_};rw[cutTo b hi];let r:=zF aa (.lst (b.take i.toNat));let e1:=zC (H:=H) (a:=u) (o:=.lst (b.take i.toNat));generalize upd H u (.lst (b.take i.toNat))=g at r e1⊢;let hT:Reps H (b.take i.toNat) (D.take i.toNat):=Reps.take _ z;let v:∀(j:Nat)(c:V1),g c=none->(∀p L,Same H L->Rep L (.ref p) (.lst (D.take i.toNat++n::D.drop j))->Q (.ref p) L)->∀(p:V1),upd g c (.lst (b.drop j)) p=none->zXm (V.ref u) (V.ref p) (upd (upd g c (.lst (b.drop j))) p (HO.lst [e])) λx g=>zXm x (V.ref c) g Q:=λj c d q m k=>by
  let l:=zF d (.lst (b.drop j));let t:=zC (H:=g) (a:=c) (o:=.lst (b.drop j));generalize upd g c (.lst (b.drop j))=H2 at l t k⊢;let I:=zF k (.lst [e]);let e3:=zC (H:=H2) (a:=m) (o:=.lst [e]);generalize upd H2 m (.lst [e])=H3 at I e3⊢;refine{u,m,_,_,O,O,I _ _ (l _ _ e1),e3,by rw[mV,nQ,nM];lia,λp4 M=>?_};let J:=zF M (.lst (b.take i.toNat++ [e]));let e4:=zC (H:=H3) (a:=p4) (o:=.lst (b.take i.toNat++ [e]));generalize upd H3 p4 (.lst (b.take i.toNat++ [e]))=H4 at J e4⊢;refine{p4,c,_,_,O,O,e4,J _ _ (I _ _ t),by rw[mV,mK,nQ,pZ,nM];lia,λp5 ac=>?_};let G:=r.trans (l.trans (I.trans (J.trans (zF ac (.lst (b.take i.toNat++ [e]++b.drop j))))));refine q p5 _ G {p5,_,O,zC,Reps.same G _ _ ?_};rw[sM];exact Reps.append (show Reps H ([e]++b.drop j) (n::D.drop j) from{e,_,O,hn,Reps.drop _ z}) hT
 let i1:(i+1).toNat=i.toNat+1:=by lia
 cases wd with
 |put=>
  refine iN (by decide+kernel) {a,b,O,SqL.of (r _ _ y),λc d=>iN (by decide+kernel) ?_};rw[zIg b ∅,i1] at*;exact v _ c d q
 |ins=>
  refine iP O {a,b,O,SqL.of (r _ _ y),λc d=>iN (by decide+kernel) ?_};rw[zIg b hi] at*;exact v _ c d q
 |tak=>
  refine iN (by decide+kernel) {a,b,O,SqL.of (r _ _ y),λc d=>iP O ?_};rw[zIg b ∅,i1] at*;let l:=zF d (.lst (b.drop (i.toNat+1)));let t:=zC (H:=g) (a:=c) (o:=.lst (b.drop (i.toNat+1)));generalize upd g c (.lst (b.drop (i.toNat+1)))=H2 at l t⊢;refine{u,c,_,_,O,O,l _ _ e1,t,by rw[mV,nQ,pZ];lia,λm k=>?_};let G:=r.trans (l.trans (zF k (.lst (b.take i.toNat++b.drop (i.toNat+1)))));exact q m _ G {m,_,O,zC,Reps.same G _ _ (Reps.append (Reps.drop _ z) hT)}
def zTk:Sp:=λd H Q _=>∃(v:V)(t:T)(w:Wd)(k:Key)(c:V)(n:T)(m:Nat),d= [v, .str w.s,kV k,c]/\Rep H v t/\T.fewm m t/\m<=63/\T.sz t<=50000/\okK k/\xO w t k=true/\Rep H c n/\∀b a,Same H a->Rep a b (yB w t k n)->Q b a
theorem zYp(F:Fun K "part_changed" "part_changed" zZx f fd)(B:Bl mg)(c:Dn P w K mg base 1 "record_changed" ["record","word","name","new"] yAp)(d:Dn P w K mg base 1 "row_changed" ["row","word","place","new"] zZn):FnOk P w K mg base CX0 2 f fd ["holder","word","step","new"] zTk:=by
 refine F.okn (N:=["holder","word","step","new"]) λae A ab s H vs Q E nd hr h=>?_;ext zY h v t e k vn L;ext zX L n m aa hv y L;ext zQ L hm hz hk j hn q;subst aa;refine{_,(zD (zU (yI (pI B.isinstance zJ B.dict xV (pv 0))) (zG (zI (pD c hr (zA (pv 0) (zA (pv 1) (zA (pv 2) (zA (pv 3) zB))))))) zL)
  (zG (zI (pD d hr (zA (pv 0) (zA (pv 1) (zA (pv 2) (zA (pv 3) zB)))))))), ?_}
 walk_at "st";lk
 cases t with
 |dic z u=>
  ext zX hv a ps l r D M;subst l;let J:=y.2.2.1;let ac:=y.2.1;refine nEA ("dict") (gU r) (iP ∎ ?_)
  cases k with
  |inl i=>cases e<;>cases j|inr x=>
   refine{a,ps,z,u,e,x,vn,n,O,r,D,M,y.1,J,∅, ?_,hn,λp I g h=>q _ I g h}
   cases e with
   |put=>exact .inl O|ins=>cases j|tak=>
    refine .inr {O, ?_};let o:(if ts x∈z then Y (zV (ts x) z u) else none).isSome=true:=j
    by_cases h:ts x∈z
    ·exact h
    ·rw[mH h] at o;cases o
 |lst u=>
  ext yM hv a xs l r M;subst l;refine nEA ("list") (zAb r) (iN ∎ ?_)
  cases k with|inl i=>exact{a,xs,u,e,i,vn,n,O,r,M,y.1,hk.1,hn,λp I g h=>q _ I g h}|inr x=>cases e<;>cases j
 |tup u=>exact y.elim|non=>cases e<;>cases k<;>cases j|bl b=>cases e<;>cases k<;>cases j|int b=>cases e<;>cases k<;>cases j|str b=>cases e<;>cases k<;>cases j
end
end K47
namespace K47
open PySem L2 PySem.W
seal L2.PSs L2.PS L2.PE L2.PT L2.PW L2.PA L2.PI L2.PG L2.PGs L2.PPs L2.PTs
def yAr(s:V6):V6:=match s with|.ClassDef _ _ _ (f::_) _ _ _ _ _ _ _=>f|_=>s
abbrev qJ:V6:=yAr (top 25)
theorem zZb:wC ["self","text","at"] ["self","text","at"] (zW qJ):=by walk_at "sc"
section
variable{P:V3}{w:V4}{K:PySem.W.Frag}{mg:C8}{base:V5}{C B fI dT:V1}{nm:Str}{oc kV doc pm cdv ct:V0}{od an:Option V1}{osl:Array (Option V0)}
theorem zVb(lk:K.lookup fI=Y {oc,od, .func (fnOf "__init__" "NoPlace.__init__" (xP qJ) (xD qJ) (zW qJ) (.ref dT) kV doc pm an cdv ct),osl})(g:codeIn K cdv "NoPlace.__init__" =true)(c:zCc K nm C B fI)(b:zOx K B)(e:mg "CabinetError" =Y (.ref B)):
  FnOk P w K mg base CX0 1 fI (fnOf "__init__" "NoPlace.__init__" (xP qJ) (xD qJ) (zW qJ) (.ref dT) kV doc pm an cdv ct) ["self","text","at"] (zDh C):=by
 refine zOe (k:=0) lk g zZb (λm H Q E h=>?_) λA f s H m Q E n h=>?_
 ·ext zAr h x i v a _
  subst a
  rfl
 ext zZ h x i v a j q;subst a;refine nEA _ (zD (wD (zLj c b O e (zA (pv 0) (zA (pv 1) zB)))) (zG (zYq c (pv 2) (pv 0)))) ?_;refine{x,i,O,j,x,O,j,λd l=>q d l}
theorem zKw{o:Obj}{items:Array V0}{n:Nat}(e:K.lookup dT=Y o)(g:o.data= .seq items n)(f:items.size=1):Binds K (fnOf "__init__" "NoPlace.__init__" (xP qJ) (xD qJ) (zW qJ) (.ref dT) kV doc pm an cdv ct) ["self","text","at"] []:=λs i h d=>by
 rw[nS] at d⊢;obtain⟨l⟩:=items
 match l,f with
 |[i0],_=>
  match i,d with|[a,b,c],_=>exact binds_K h O e g O O
end
def XAt(C:V1)(n:Int)(H:Hp)(E:XK):Prop:=∀d a,Same H a->a d=Y (.xd [("at", .int n)])->E (.ref C) ↥d a
theorem XAt.of{C:V1}{n:Int}{H H1:Hp}{E:XK}{d:V1}(h:XAt C n H E)(g:Same H H1)(a:H1 d=none):E (.ref C) ↥d (upd H1 d (.xd [("at", .int n)])):=h d _ (g.trans (zF a _)) zC
theorem jL(t:T)(ks:B8):∃u,(goT t ks).getLast? =Y u/\u∈goT t ks:=by
 let h:=(zBr t ks).1
 cases e:(goT t ks).getLast? with|none=>rw[aG.mp e] at h;exact absurd h ∎|some u=>exact{u,O,List.mem_of_getLast? e}
theorem zBg{α:Type}{xs:List α}{v:α}(h:xs.getLast? =Y v):atI xs (-1)=Y v:=by
 rcases List.eq_nil_or_concat xs with e |⟨a,y,e⟩
 ·rw[e] at h;cases h
 ·rw[List.concat_eq_append] at e
  subst e;rw[List.getLast?_concat] at h;cases h;exact xR _ _
theorem k9{H:Hp}{vs:B3}{us:B0}{u:T}(h:Reps H vs us)(b:us.getLast? =Y u):∃v,vs.getLast? =Y v/\Rep H v u:=by
 let d:=h...*;rw[aH] at b;let f:=(mN.mp b).1;let a:us...* - 1<vs...*:=by lia
 obtain⟨t,c,e⟩:=h.get (mU a);rw[b] at c;cases c;refine nEA _ ?_ e;rw[aH,d];exact mU a
abbrev sWc:V6:=top 37
abbrev sSl:V6:=top 38
abbrev sCs:V6:=top 36
theorem zXy(ks:B8):jV (ks.map kV) none ↥(-1)=ks.dropLast.map kV:=by
 let e:HT.sIx (ks.map kV)...* (ks.map kV)...* ↥(-1)=ks...* - 1:=by
  show(if(-1:Int)<0 then((-1:Int)+((ks.map kV)...*:Int)).toNat else min (-1:Int).toNat (ks.map kV)...*)=_;rw[mJ ∎,mM]
  lia
 unfold jV;rw[e,HT.sIx_none,tF,cN,List.dropLast_eq_take,List.map_take]
structure Tq(m:Nat)(H:Hp)(v:V)(t:T)(pa:V1)(ks:B8):Prop where
 v:Rep H v t
 few:T.fewm m t
 m:m<62
 sz:T.sz t<=50000
 pa:H pa=Y (.lst (ks.map kV))
 ok:∀k∈ks,okK k
 l8:ks...*<=8
theorem Tq.pure{m:Nat}{H:Hp}{v:V}{t:T}{a:V1}{ks:B8}(h:Tq m H v t a ks):T.pure t:=kH _ t (mD _) (c6 (by let:=h.m;lia) _ h.few)
theorem zYj{t u:T}{k:Key}(b:okK k)(a:zP t k=Y u):xO .put t k=true:=by
 rcases vN a with⟨c,i,rfl,rfl,h,_⟩|⟨g,c,x,rfl,rfl,f,rfl,_⟩
 ·let e:=(mN.mp h).1
  let d:0<=i/\i<=59:=b;exact nO ∅
 ·rfl
section
variable{P:V3}{w:V4}{K:PySem.W.Frag}{mg:C8}{base:V5}{f:V1}{fd:V7}{C:V1}
def spWc(C:V1):Sp:=λd H Q E=>∃(a:Wd)(c:V),d= [.str a.s,c]/\(a= .put->∀b,Same H b->Q c b)/\(a≠ .put->XAt C 0 H E)
theorem ok_wc(F:Fun K "whole_changed" "whole_changed" sWc f fd)(B:Bl mg)(a:Xr P w K mg base 1 "NoPlace" C):FnOk P w K mg base (CXE nC P w) 3 f fd ["word","new"] (spWc C):=by
 refine F.okxn (N:=["word","new"]) λj A e s H o Q E m l h=>?_;ext yM h g n c q k;subst c;refine{_,(zD (zU (pT zGq (pv 0) zO) (zG (zCr a l ∅ O O lvs (zA zO (zA zE zB)))) zL)
  (zG (zI (pv 1)))), ?_}
 walk_at "st";unfold zDg;lk;let b:g≠ .put->∀d,H d=none->E (Value.ref C) ↥d (upd H d (HO.xd [(A5 "at",V.int 0)])):=λh d i=>(k h).of (Same.refl _) i
 cases g with|put=>exact{false,by decide+kernel,iN ∎ (q O H (Same.refl _))}|ins=>exact{true,by decide+kernel,iP O {_,_,⟨O,O⟩,b (by intro z;cases z)}}|tak=>exact{true,by decide+kernel,iP O {_,_,⟨O,O⟩,b (by intro z;cases z)}}
def spSl(C:V1):Sp:=λe H Q E=>∃(v:V)(t:T)(d:V1)(a:B8)(m:Nat),e= [v, .ref d]/\Tq m H v t d a/\(a...*<=(goT t a.dropLast)...*->∀p c b,Same H b->b p=Y (.lst c)->Reps b c (goT t a.dropLast)->Q (.ref p) b)/\((goT t a.dropLast)...*<a...*->XAt C (((goT t a.dropLast)...*:Int)- 1) H E)
theorem ok_sl(F:Fun K "stops_to_last" "stops_to_last" sSl f fd)(B:Bl mg)(l:Dn P w K mg base 3 "leads_within" ["thing","step"] zRn)(r:Xr P w K mg base 1 "NoPlace" C):FnOk P w K mg base (CXE nC P w) 4 f fd ["thing","path"] (spSl C):=by
 refine F.okxn (N:=["thing","path","stops","step"]) λaw A au s H vs Q E nd hr h=>?_;ext zY h v t pa ks m p;ext xI p I hT q qx;subst I;let hu:=vO hr;refine{_,(zD (pS 2 nd (yJ (zA (pv 0) zB)))
  (zD (qI PassesOwn.leaving O (wM (qB jW (pv 1) jF (jH (xY xJ zE)))) (yH (i:=3) nd O (nR O)) (zD (zU (vE (yI (pD l hr (zA (pX zS (pv 2) (xY xJ zE)) (zA (pv 3) zB))))) (zG (zCr r hr ∅ O O lvs (zA zO (zA (zH vC (zN yA O B.len yR (zA (pv 2) zB)) zE) zB)))) zL)
  (zG (wD (qZ nV pU rO qF (pv 2) (zA (zCl (pX zS (pX zS (pv 2) (xY xJ zE)) (pv 3)) (vV hu (pX zS (pv 2) (xY xJ zE)) (pv 3) (λ_ _=>O))) zB))))))
  (zG (zI (pv 2))))), ?_}
 walk_at "st";unfold zDg;lk;intro L al;let s1:=zF al (.lst [v]);let e1:=zC (H:=H) (a:=L) (o:=.lst [v]);let hz:=hT.sz;let h8:=hT.l8;generalize hH1:upd H L (.lst [v])=H1 at s1 e1⊢;refine{pa,_,O,SqL.of (s1 _ _ hT.pa),λpl aj=>{pl,O,{_,SqL.of zC}, ?_}};rw[zXy];let s2:=zF aj (.lst (ks.dropLast.map kV));let e2:=zC (H:=H1) (a:=pl) (o:=.lst (ks.dropLast.map kV));generalize upd H1 pl (.lst (ks.dropLast.map kV))=H2 at s2 e2⊢;let ap:ks.dropLast...*=ks...* - 1:=List.length_dropLast;let ah:∀k∈ks.dropLast,okK k:=λk hk=>hT.ok k (List.dropLast_subset ks hk);let ae:pl≠L:=λz=>by rw[z,e1] at aj;cases aj
 generalize ks.dropLast=n at ap ah e2 q qx⊢;let av:=zBr t n;refine kM (K:=K) (a:=pl) (xs:=n.map kV) (λi σ' H'=>∃o us u ys c,σ'= [Y v,Y (.ref pa),Y (.ref L),o]/\Same H H'/\H' pl=Y (.lst (n.map kV))/\H' L=Y (.lst (ys++ [c]))/\Reps H ys us/\Rep H c u/\us...*=i/\goT t n=us++goT u (n.drop i)/\T.pure u/\T.sz u<=100000)
  {none,[],t,[],v,O,s1.trans s2,e2,s2 _ _ e1,O,hT.v,O,O,hT.pure,∅} (λi σ' H' _ h=>by
   ext zY h o us u ys c p;ext xI p _ g h _;exact SqL.of h) ?_ ?_
 ·intro i x σ' H' hx p
  ext zY p o us u ys c p;ext zQ p I g ac hS hR p;ext vS p hc hl J ai af;subst I;lk;let ar:=hR...*;rw[nG] at hx
  cases y:n[i]? with
  |none=>rw[y] at hx;cases hx|some k=>
   rw[y] at hx;let ex:kV k=x:=mW hx;subst ex;let ao:=(mN.mp y).1;let an:n.drop i=k::n.drop (i+1):=by
    rw[pM ao,(mN.mp y).2]
   rw[an] at J;refine yG (SqL.of hS) (xR _ _) {c,u,k,O,Rep.same g _ _ hc,ai,af,ah _ (mO y),λH2 g2=>{_,O, ?_}};let D:=g2 _ _ hS;let gg:=g.trans g2
   cases hs:zP u k with
   |none=>
    let e:goT u (k::n.drop (i+1))= [u]:=by show(match zP u k with | none=>[u] | some M=>u::goT M (n.drop (i+1)))=_;rw[hs]
    rw[e] at J;let aa:(goT t n)...*=i+1:=by rw[J,mK,hl];rfl
    refine iP O {_,SqL.of D,_,_,⟨O,O⟩,λd hd=>?_};let qq:=(qx ∅).of gg hd;rw[aa] at qq;rw[mK,ar,hl,nM];exact qq
   |some M=>
    let e:goT u (k::n.drop (i+1))=u::goT M (n.drop (i+1)):=by show(match zP u k with | none=>[u] | some M=>u::goT M (n.drop (i+1)))=_;rw[hs]
    rw[e] at J;refine iN (by simp) {nR {O,_,SqL.of D}, ?_};let ab:∀c',Rep H c' M->T.pure M->T.sz M<=100000->zDo (V.ref L) [c'] H2 (λ_ H1=>Same H H1/\H1 pl=Y (.lst (n.map kV))/\∃ag u1 ak c1,H1 L=Y (.lst (ak++ [c1]))/\Reps H ak ag/\Rep H c1 u1/\ag...*=i+1/\goT t n=ag++goT u1 (n.drop (i+1))/\T.pure u1/\T.sz u1<=100000):=λc' h1 h2 h3=>
     {L,ys++ [c],c',O,O,D,by rw[mV,mK];show ys...*+1<_;lia,gg.put al _,by rw[zK ae];exact g2 _ _ ac,us++ [u],M,ys++ [c],c',zC,Reps.snoc hc hR,h1,by rw[mK,hl];rfl,by rw[J,sM];rfl,h2,h3}
    obtain⟨c',h1,h2,h3,⟨b,zs,j,rfl,hb,ej,aq⟩|⟨b,qs,rfl,hb,am⟩⟩:=zNn hc ai af (ah _ (mO y)) hs
    ·refine .inl ?_
     lk;refine yG (SqL.of D) (xR _ _) ?_;rw[ej];exact yG (SqL.of (gg _ _ hb)) aq (ab _ h1 h2 h3)
    ·refine .inr ?_
     lk;exact yG (SqL.of D) (xR _ _) {b,O,c', .inl {qs,k, .inl (gg _ _ hb),O,am.symm},ab _ h1 h2 h3}
 ·intro σ' H' p
  ext zY p o us u ys c p;ext zQ p I g ac hS hR p;ext vS p hc hl J ai af;subst I;lk;rw[mM,sS] at J;rw[mM] at hl;let aa:(goT t n)...*=n...*+1:=by rw[J,mK,hl];rfl
  refine q ∅ L _ _ g hS ?_;rw[J];exact Reps.snoc (Rep.same g _ _ hc) (Reps.same g _ _ hR)
def zWx(C:V1):Sp:=λh H Q E=>∃(v:V)(t:T)(a:Wd)(d:V1)(c:B8)(g:V)(n:T)(m:Nat),h= [v, .str a.s, .ref d,g]/\Tq m H v t d c/\Rep H g n/\(∀r,chG a (λs k=>yB a s k n) t c n= .inr r->∀e b,Same H b->Rep b e r->Q e b)/\(∀j:Nat,chG a (λs k=>yB a s k n) t c n= .inl j->XAt C (j:Int) H E)
theorem scCs:wC ["thing","word","path","new","stops","changed","place"] ["thing","word","path","new"] (zW sCs):=by walk_at "sc"
theorem ok_cs(F:FunD K "change_shared" "change_shared" sCs f fd)(B:Bl mg)(l:Dx nC P w K mg base 3 "whole_changed" ["word","new"] (spWc C))(u:Dx nC P w K mg base 4 "stops_to_last" ["thing","path"] (spSl C))(x:Dn P w K mg base 4 "can_change" ["holder","word","step"] spCc)(b:Dn P w K mg base 2 "part_changed" ["holder","word","step","new"] zTk)(D:Xr P w K mg base 1 "NoPlace" C):FnOk P w K mg base (CXE nC P w) 5 f fd ["thing","word","path","new"] (zWx C):=by
 refine F.okx scCs (by walk_at "ln") λc A o s H vs Q E hr h=>?_;ext zY h v t N pa a I;ext zZ I vn n m a0 y I;ext oAA I hn q L;subst a0;let nd:=scCs.nd;refine{_,(zD (zU (vE (zKz (pv 2) (λ_=>O))) (zG (zI (zDw l hr ∅ O lvs (zA (pv 1) (zA (pv 3) zB))))) zL)
  (zD (pS 4 nd (zDw u hr ∅ O lvs (zA (pv 0) (zA (pv 2) zB))))
  (zD (zU (vE (yI (pD x hr (zA (pX zS (pv 4) (xY xJ zE)) (zA (pv 1) (zA (pX zS (pv 2) (xY xJ zE)) zB)))))) (zG (zCr D hr ∅ O O lvs (zA zO (zA (zH vC (zN yA O B.len yR (zA (pv 2) zB)) zE) zB)))) zL)
  (zD (pS 5 nd (pD b hr (zA (pX zS (pv 4) (xY xJ zE)) (zA (pv 1) (zA (pX zS (pv 2) (xY xJ zE)) (zA (pv 3) zB))))))
  (zD (qI PassesOwn.leaving O (zZc O B.range (zA (zH vC (zN yA O B.len yR (zA (pv 2) zB)) zE) (zA (xY xJ zE) (zA (xY xJ zE) zB)))) (yH (i:=6) nd O (nR O)) (zG (pS 5 nd (pD b hr (zA (pX zS (pv 4) (pv 6)) (zA zO (zA (pX zS (pv 2) (pv 6)) (zA (pv 5) zB))))))))
  (zG (zI (pv 5)))))))), ?_}
 walk_at "st";unfold zDg yAb;lk;refine nEA _ (.inl {_,SqL.of y.pa,O}) ?_;let hz:=y.sz;let h8:=y.l8;let hm:=y.m
 cases hk:a.getLast? with
 |none=>
  let e0:a= []:=aG.mp hk;subst e0;refine iP O {N,vn,O,λe H' g=>?_,λe=>?_}
  ·subst e
   exact q n O vn H' g (Rep.same g _ _ hn)
  ·refine L 0 ?_
   cases N with|put=>exact absurd O e|ins=>rfl|tak=>rfl
 |some k=>
  let aq:a≠ []:=λz=>by rw[z] at hk;cases hk
  let a':0<a...*:=List.length_pos_iff.mpr aq;let ax:(a.map kV).isEmpty=false:=by cases a with | nil=>exact absurd O aq | cons _ _=>rfl
  let a4:∀pt:T->Key->T,chG N pt t a n=if(goT t a.dropLast)...*<a...* then .inl ((goT t a.dropLast)...* - 1) else
    match (goT t a.dropLast).getLast? with|none=>.inl 0|some s=>if xO N s k=true then .inr (bld (goT t a.dropLast) a (a...* - 1) (pt s k)) else .inl (a...* - 1):=λpt=>by unfold chG;rw[hk]<;>rfl
  rw[a4] at q L;let bb:=zBr t a.dropLast;let bc:a.dropLast...*=a...* - 1:=List.length_dropLast;refine iN (by rw[ax];decide) {v,t,pa,a,m,O,y,λbd p xs H1 g1 af hR=>?_,λa5=>?_}
  ·let ak:¬(goT t a.dropLast)...*<a...*:=by lia
   rw[mH ak] at q L;let al:(goT t a.dropLast)...*=a...*:=by lia
   refine oEA (jL t a.dropLast) λs hs ba=>?_;rw[hs] at q L;refine oEA (k9 hR hs) λxv am ar=>?_;let az:(goT t a.dropLast)[a...* - 1]? =Y s:=by rw[aH,al] at hs;exact hs
   refine oAA (zFf a.dropLast t _ s y.few az) λs1 s2 s3=>?_;let ao:k∈a:=List.mem_of_getLast? hk;let an:atI (a.map kV) (-1)=Y (kV k):=zBg (by rw[List.getLast?_map,hk];rfl);let sp:T.pure s:=kH _ s (mD _) (c6 ∅ _ s1);refine yG (SqL.of af) (zBg am) (yG (SqL.of (g1 _ _ y.pa)) an {xv,s,N,k,O,ar,sp,∅,y.ok k ao,λH2 g2=>{_,O, ?_}});let J:=g1.trans g2
   by_cases hc:xO N s k=true
   ·let q:=q _ (mJ hc)
    refine iN (by rw[hc];decide) (yG (SqL.of (g2 _ _ af)) (zBg am) (yG (SqL.of (J _ _ y.pa)) an {xv,s,N,k,vn,n,m,O,Rep.same g2 _ _ ar,s1,∅,∅,y.ok k ao,hc,Rep.same J _ _ hn,λv' H3 g3 av=>?_}));let ai:=J.trans g3;let ay:=g3 _ _ (g2 _ _ af);let ac:=ai _ _ y.pa;let a6:=Reps.same (g2.trans g3) _ _ hR;let be:=hR...*;refine nEA _ (SqL.of ac) ?_;rw[mM];refine nAA ∅ ∅ ?_;rw[show((a...*:Int)- 2+1).toNat=a...* - 1 by lia];refine zQg (λi σ' H'=>∃o c r,σ'= [Y v,Y (.str N.s),Y (.ref pa),Y vn,Y (.ref p),Y c,o]/\Same H3 H'/\Rep H' c r/\i<=a...* - 1/\bld (goT t a.dropLast) a (a...* - 1 - i) r=bld (goT t a.dropLast) a (a...* - 1) (yB N s k n)) {_,v',_,O,Same.refl _,av,nL _,O} ?_ ?_
    ·intro i σ' H' hi I
     ext zZ I o c r ag g I;ext oAA I ab au hb;subst ag;lk;obtain⟨M,hM⟩:∃M,a...* - 1 - i=M+1:={a...* - 2 - i,∅};let a9:(a...*:Int)- 2 - (i:Int)=(M:Int):=by lia
     rw[a9];refine zZ (zJn a.dropLast t M ∅) λk' u' u2 h1 h2 I=>?_;ext oA I h3 h4;let ae:a[M]? =Y k':=by
      rw[List.getElem?_dropLast,mJ ∅] at h1;exact h1
     refine oAA (zFf a.dropLast t M u' y.few h2) λa1 a2 a3=>?_;let aj:M<xs...*:=by lia
     refine oEA (a6.get (i:=M) (v:=xs[M]) (mU aj)) λu1 ap a7=>?_;rw[h2] at ap;cases ap;let ah:=y.ok k' (mO ae);refine yG (SqL.of (g _ _ ay)) (yC (mU aj)) (yG (SqL.of (g _ _ ac)) (yC (j:=M) (by rw[nG,ae];rfl)) {_,u', .put,k',c,r,m,O,Rep.same g _ _ a7,a1,∅,∅,ah,zYj ah h4,ab,λv4 H4 g4 a8=>{_,v4,⟨O,O⟩,g.trans g4,_,a8,∅, ?_}});let e1:(goT t a.dropLast).getD M .non=u':=by rw[aA,h2];rfl
     let e2:a.getD M (.inl 0)=k':=by rw[aA,ae];rfl
     rw[hM] at hb;let aa:bld (goT t a.dropLast) a M (yB .put ((goT t a.dropLast).getD M .non) (a.getD M (.inl 0)) r)=_:=hb;rw[e1,e2] at aa;rw[show a...* - 1 - (i+1)=M by lia];exact aa
    ·intro σ' H' I
     ext zZ I o c r ag g I;ext oAA I ab au hb;subst ag;lk;rw[show a...* - 1 - (a...* - 1)=0 by lia] at hb;let aa:r=_:=hb;rw[aa] at ab;exact q c H' (ai.trans g) ab
   ·let aw:xO N s k=false:=by cases hq:xO N s k with | true=>exact absurd hq hc | false=>rfl
    let L:=L _ (mH hc);refine iP aw {_,SqL.of (J _ _ y.pa),_,_,⟨O,O⟩,λd hd=>?_};let qq:=L.of J hd;rw[show(((a...* - 1:Nat)):Int)=((a.map kV)...*:Int)- 1 by rw[mM];lia] at qq;exact qq
  ·let L:=L _ (mJ a5)
   rw[show((((goT t a.dropLast)...* - 1:Nat)):Int)=((goT t a.dropLast)...*:Int)- 1 by lia] at L;exact L
end
theorem zLb{t:T}{k:Key}{st:B0}{ks:B8}:∀(m:Nat)(r:T),bld (t::st) (k::ks) (m+1) r=yB .put t k (bld st ks m r)
 |0,r=>rfl|m+1,r=>by
  show bld (t::st) (k::ks) (m+1) (yB .put (st.getD m .non) (ks.getD m (.inl 0)) r)=_;rw[zLb m]
  rfl
theorem zNa{w:Wd}{n:T}:∀(ks:B8)(t r:T),doT w n ks t=Y r->chG w (λs k=>yB w s k n) t ks n= .inr r
 |[],t,r,h=>by
  cases w with|put=>exact congrArg Sum.inr (mW h)|ins=>cases h|tak=>cases h
 |[k],t,r,h=>by
  let p:(if xO w t k=true then Y (yB w t k n) else none)=Y r:=h
  by_cases i:xO w t k=true
  ·rw[mJ i] at p
   let e:=mW p;subst e;show(if 1<1 then Sum.inl 0 else(if xO w t k=true then Sum.inr (yB w t k n) else Sum.inl 0:Sum Nat T))=_;rw[mH ∎,mJ i]
  ·rw[mH i] at p;cases p
 |k::d::ks,t,r,h=>by
  rw[wH (by simp)] at h
  cases y:zP t k with
  |none=>rw[y] at h;cases h|some s=>
   rw[y] at h;obtain⟨B,x,e⟩:=rG.mp h;subst e;let f:=zNa (d::ks) s B x;let v:goT t (k::(d::ks).dropLast)=t::goT s (d::ks).dropLast:=by
    show(match zP t k with | none=>[t] | some u=>t::goT u (d::ks).dropLast)=_
    rw[y]
   unfold chG at f⊢;obtain⟨o,l⟩:∃o,(d::ks).getLast? =Y o:={_,bQ (List.cons_ne_nil _ _)};let m:(k::d::ks).getLast? =Y o:=by rw[tK];exact l
   rw[l] at f;rw[m];let q:(k::d::ks).dropLast=k::(d::ks).dropLast:=rfl;dsimp only at f⊢;rw[q,v]
   by_cases c:(goT s (d::ks).dropLast)...*<(d::ks)...*
   ·rw[mJ c] at f;cases f
   rw[mH c] at f;rw[mP,mP (as:=d::ks),mH ∅];obtain⟨A,g,_⟩:=jL s (d::ks).dropLast;let j:(t::goT s (d::ks).dropLast).getLast? =Y A:=by
    cases z:goT s (d::ks).dropLast with|nil=>rw[z] at g;cases g|cons a b=>rw[tK,<-z];exact g
   rw[g] at f;rw[j];dsimp only at f⊢
   by_cases i:xO w A o=true
   ·rw[mJ i] at f⊢
    let e:=Sum.inr.inj f;rw[show(d::ks)...*+1 - 1=((d::ks)...* - 1)+1 by rw[mP];lia,zLb,e]
   ·rw[mH i] at f;cases f
end K47
namespace K47
open PySem L2 PySem.W
seal L2.PSs L2.PS L2.PE L2.PT L2.PW L2.PA L2.PI L2.PG L2.PGs L2.PPs L2.PTs
theorem zTg{w:Wd}{n:T}:∀(ks:B8)(t:T),doT w n ks t=none->∃j:Nat,chG w (λs k=>yB w s k n) t ks n= .inl j
 |[],t,h=>by
  cases w with|put=>cases h|ins=>exact{0,O}|tak=>exact{0,O}
 |[k],t,h=>by
  let x:(if xO w t k=true then Y (yB w t k n) else none)=none:=h
  by_cases q:xO w t k=true
  ·rw[mJ q] at x;cases x
  ·refine{0, ?_}
   show(if 1<1 then Sum.inl 0 else(if xO w t k=true then Sum.inr (yB w t k n) else Sum.inl 0:Sum Nat T))=_;rw[mH ∎,mH q]
 |k::d::ks,t,h=>by
  rw[wH (by simp)] at h;obtain⟨v,o⟩:∃v,(d::ks).getLast? =Y v:={_,bQ (List.cons_ne_nil _ _)};let g:(k::d::ks).getLast? =Y v:=by rw[tK];exact o
  let m:(k::d::ks).dropLast=k::(d::ks).dropLast:=rfl
  cases y:zP t k with
  |none=>
   let l:goT t (k::(d::ks).dropLast)= [t]:=by
    show(match zP t k with | none=>[t] | some u=>t::goT u (d::ks).dropLast)=_
    rw[y]
   refine{0, ?_};unfold chG;rw[g];dsimp only;rw[m,l,mJ (by simp only[mP,pL];lia)]
   rfl
  |some s=>
   rw[y] at h;let x:doT w n (d::ks) s=none:=by
    cases e:doT w n (d::ks) s with
    |none=>rfl|some r=>
     let z:(doT w n (d::ks) s).map (λr=>yB .put t k r)=none:=h;rw[e] at z;cases z
   obtain⟨j,i⟩:=zTg (d::ks) s x;let l:goT t (k::(d::ks).dropLast)=t::goT s (d::ks).dropLast:=by
    show(match zP t k with | none=>[t] | some u=>t::goT u (d::ks).dropLast)=_
    rw[y]
   unfold chG at i⊢;rw[o] at i;rw[g];dsimp only at i⊢;rw[m,l]
   by_cases c:(goT s (d::ks).dropLast)...*<(d::ks)...*
   ·rw[mJ (by rw[mP,mP (as:=d::ks)];lia)]
    exact⟨_,O⟩
   rw[mH c] at i;rw[mP,mP (as:=d::ks),mH ∅];obtain⟨B,f,_⟩:=jL s (d::ks).dropLast;let p:(t::goT s (d::ks).dropLast).getLast? =Y B:=by
    cases A:goT s (d::ks).dropLast with|nil=>rw[A] at f;cases f|cons a b=>rw[tK,<-A];exact f
   rw[f] at i;rw[p];dsimp only at i⊢
   by_cases q:xO w B v=true
   ·rw[mJ q] at i;cases i
   ·rw[mH q]
    exact⟨_,O⟩
abbrev sAd:V6:=top 47
abbrev qK:V6:=yAr (top 26)
theorem zXw:wC ["self","text","number"] ["self","text","number"] (zW qK):=by walk_at "sc"
section
variable{P:V3}{w:V4}{K:PySem.W.Frag}{mg:C8}{base:V5}{C B fI dT:V1}{nm:Str}{oc kV doc pm cdv ct:V0}{od an:Option V1}{osl:Array (Option V0)}
theorem zVz(lk:K.lookup fI=Y {oc,od, .func (fnOf "__init__" "NoDeed.__init__" (xP qK) (xD qK) (zW qK) (.ref dT) kV doc pm an cdv ct),osl})(g:codeIn K cdv "NoDeed.__init__" =true)(c:zCc K nm C B fI)(i:findIn K (.ref C) "number" =Y none)(b:zOx K B)(e:mg "CabinetError" =Y (.ref B)):
  zKv P w K mg base 1 fI (fnOf "__init__" "NoDeed.__init__" (xP qK) (xD qK) (zW qK) (.ref dT) kV doc pm an cdv ct) ["self","text","number"] (zOm C "number"):=by
 refine yBz (k:=0) lk g zXw (λn H Q E h=>?_) λA f s H n Q E o h=>?_
 ·ext zAr h x j v a _
  subst a
  rfl
 ext zZ h x j v a l q;subst a;refine nEA _ (zD (wD (zLj c b O e (zA (pv 0) (zA (pv 1) zB)))) (zG (zSa c i (pv 2) (pv 0)))) ?_;refine{x,j,O,l,x,O,l,λd m=>q d m}
theorem zJj{o:Obj}{items:Array V0}{n:Nat}(e:K.lookup dT=Y o)(g:o.data= .seq items n)(f:items.size=1):Binds K (fnOf "__init__" "NoDeed.__init__" (xP qK) (xD qK) (zW qK) (.ref dT) kV doc pm an cdv ct) ["self","text","number"] []:=λs i h d=>by
 rw[nS] at d⊢;obtain⟨l⟩:=items
 match l,f with
 |[i0],_=>
  match i,d with|[a,b,c],_=>exact binds_K h O e g O O
end
def XNo(C:V1)(j:Int)(H:Hp)(E:XK):Prop:=∀d a,Same H a->a d=Y (.xd [("number", .int j)])->E (.ref C) ↥d a
theorem XNo.of{C:V1}{n:Int}{H H1:Hp}{E:XK}{d:V1}(h:XNo C n H E)(g:Same H H1)(a:H1 d=none):E (.ref C) ↥d (upd H1 d (.xd [("number", .int n)])):=h d _ (g.trans (zF a _)) zC
def Dlay(H:Hp)(v:V)(d:Dd):Prop:=∃a b r,v= .ref a/\H a=Y (.tup (.str d.1.s:: .ref b::r))/\H b=Y (.lst (d.2.1.map kV))/\((d.1= .tak/\r= [])\/(d.1≠ .tak/\∃x,r= [x]/\Rep H x d.2.2))
theorem Dlay.same{H e:Hp}{v:V}{d:Dd}(g:Same H e)(h:Dlay H v d):Dlay e v d:=by
 ext zZ h f m r k i l;ext oA l n j;exact{f,m,r,k,g _ _ i,g _ _ n,j.imp id fun⟨a,x,b,c⟩=>{a,x,b,Rep.same g _ _ c}}
section
variable{P:V3}{w:V4}{K:PySem.W.Frag}{mg:C8}{base:V5}{f:V1}{fd:V7}{C C2:V1}
def spAd(C2:V1):Sp:=λc H Q E=>∃(v x:V)(j:Int)(s:T)(d:Dd)(m:Nat),c= [v,x, .int j]/\Rep H v s/\T.fewm m s/\m<62/\T.sz s<=50000/\Dlay H x d/\(∀k∈d.2.1,okS k)/\d.2.1...*<=8/\(∀r,doT d.1 d.2.2 d.2.1 s=Y r->∀b a,Same H a->Rep a b r->Q b a)/\(doT d.1 d.2.2 d.2.1 s=none->XNo C2 j H E)
theorem ok_ad(F:Fun K "after_deed" "after_deed" sAd f fd)(B:Bl mg)(Gx:Dx nC P w K mg base 5 "change_shared" ["thing","word","path","new"] (zWx C))(a:Xh P w K mg base 1 "NoDeed" C2 "number")(RB:Xb K mg "NoPlace" C):FnOk P w K mg base (CXE aC P w) 6 f fd ["thing","deed","number"] (spAd C2):=by
 refine F.okxn (N:=["thing","deed","number","new","refusal"]) λac A aa s H vs Q E nd hr h=>?_;obtain⟨v,x,j,s,d,m,rfl,hv,hf,hm,hz,⟨tp,D,rr,rfl,c,I,z⟩,t,J,q,qx⟩:=h;refine{_,(zD (pS 3 nd (zJd (pT uG (zN zAw O B.len yR (zA (pv 1) zB)) zE) (pX vZ (pv 1) zE) kZ))
  (zG (zMb (tb:=λE'=>zFi (jY (zWx C) [] E' (vA (jE 0) (vA (tOp (zTz K) (jE 1) (tC (.int 0))) (vA (tOp (zTz K) (jE 1) (tC (.int 1))) (vA (jE 3) zBe)))))) (ta:=vA (tC (.str "a deed whose path doesn't lead as it wants it")) (vA (jE 2) zBe)) (φ:=aC) (E:=E) (i:=4) (f:="number") a RB hr ∅ O O nd O O (nR O) lvs (λ_=>mS) (λab W E' σ l=>zWa (yEh Gx hr ∅ O l (zA (pv 0) (zA (pX vZ (pv 1) zE) (zA (pX vZ (pv 1) zE) (zA (pv 3) zB)))))) (λ_=>zA zO (zA (pv 2) zB))))), ?_}
 walk_at "st";unfold zJo;lk;let hT:Tq m H v s D d.2.1:={hv,hf,hm,hz,I,λk hk=>(t k hk).k,J};let fx:∀(y:V)(n:T),doT d.1 n d.2.1 s=doT d.1 d.2.2 d.2.1 s->∀i:Nat,chG d.1 (λs k=>yB d.1 s k n) s d.2.1 n= .inl i->XAt C (i:Int) H (zOv C C2 4 (A5 "number") (vA (tC (V.str (A5 "a deed whose path doesn't lead as it wants it"))) (vA (jE 2) zBe)) E [Y v,Y (V.ref tp),Y (V.int j),Y y,none]):=λy n o i b=>by
  let L:doT d.1 d.2.2 d.2.1 s=none:=by
   cases e:doT d.1 n d.2.1 s with|none=>rw[<-o];exact e|some r=>rw[zNa _ _ _ e] at b;cases b
  exact λdx p g _=>{O,λx hx=>{zC,_,_,O,λd2 M=>(qx L).of (g.trans (zF hx _)) M}}
 let fr:∀(n r:T),doT d.1 n d.2.1 s=doT d.1 d.2.2 d.2.1 s->chG d.1 (λs k=>yB d.1 s k n) s d.2.1 n= .inr r->∀v' p,Same H p->Rep p v' r->Q v' p:=λn r o b=>by
  cases e:doT d.1 n d.2.1 s with
  |none=>obtain⟨i,u⟩:=zTg _ _ e;rw[u] at b;cases b
  |some r'=>
   rw[zNa _ _ _ e] at b;let e2:=Sum.inr.inj b;rw[e2] at e;exact q r (by rw[<-o];exact e)
 rcases z with⟨hw,rfl⟩|⟨hw,y,rfl,hy⟩
 ·let o:doT d.1 .non d.2.1 s=doT d.1 d.2.2 d.2.1 s:=by rw[hw];exact zHe _ _
  exact nEA _ (.inr (SqT.of c)) (iN (by show¬(2:Int)<((2:Nat):Int);decide) (wU (SqT.of c) (yC (j:=0) O) (wU (SqT.of c) (yC (j:=1) O) {v,s,d.1,D,d.2.1, .non, .non,m,O,hT,O,λr h=>fr _ r o h,fx _ _ o})))
 ·exact nEA _ (.inr (SqT.of c)) (iP (by show(2:Int)<((3:Nat):Int);decide) (wU (SqT.of c) (yC (j:=2) O) (wU (SqT.of c) (yC (j:=0) O) (wU (SqT.of c) (yC (j:=1) O) {v,s,d.1,D,d.2.1,y,d.2.2,m,O,hT,hy,λr h=>fr _ r O h,fx _ _ O}))))
end
end K47
namespace K47
open PySem L2
seal L2.PSs L2.PS L2.PE L2.PT L2.PW L2.PA L2.PI L2.PG L2.PGs L2.PPs L2.PTs
abbrev sSgn:V6:=top 11
abbrev sSnd:V6:=top 13
abbrev sHp:V6:=top 14
abbrev sPo:V6:=top 15
abbrev sPz:V6:=top 16
abbrev sTh:V6:=top 12
noncomputable def wQ(us:B0):List T:=(us.map jQ).flatten
theorem zMp(us:B0)(u:T):wQ (us++ [u])=wQ us++jQ u:=by simp[wQ]
theorem zKa:∀us:List T,T.szs (us.filter wJ)<=T.szs us
 |[]=>mD _|u::us=>by
  let b:=zKa us;show _<=T.sz u+T.szs us
  cases a:wJ u with
  |true=>
   rw[rZ a];show T.sz u+_<=_
   lia
  |false=>
   rw[sA (by rw[a];decide)]
   lia
theorem zNp:∀us:List T,T.szs (wQ (us.filter wJ))+us...*<=T.szs us
 |[]=>mD _|u::us=>by
  let b:=zNp us;show _<=T.sz u+T.szs us;rw[mP]
  cases a:wJ u with
  |true=>
   rw[rZ a];let e:wQ (u::us.filter wJ)=jQ u++wQ (us.filter wJ):=rfl;rw[e,d3];let:=(zDn a).2.1
   lia
  |false=>
   rw[sA (by rw[a];decide)];let:=yBk u
   lia
theorem zKj(a:B0)(i:Nat):T.szs (a.take i)<=T.szs a:=by
 let:=szs_append (a.take i) (a.drop i);rw[tU] at this
 lia
noncomputable def zAl:T->Bool
 |.lst us=>decide (us...*<=60)|.dic ks _=>decide (ks...*<=30)|_=>true
noncomputable def thL:Nat->Nat->List T->Bool
 |0,_,_=>false|n+1,z,a=>decide (z+a...*<=200)&& (a.all zAl && ((a.filter wJ).isEmpty || thL n (z+a...*) (wQ (a.filter wJ))))
theorem zGm:∀us a:List T,wA (us++a)=(wA us && wA a)
 |[],_=>rfl|u::us,a=>by
  show(jU u && wA (us++a))=((jU u && wA us)&& wA a);rw[zGm us a,Bool.and_assoc]
theorem zLc:∀us a:List T,vP (us++a)=vP us+vP a
 |[],a=>by show vP a=0+vP a;lia|u::us,a=>by
  show lsz u+vP (us++a)=(lsz u+vP us)+vP a;rw[zLc us a];lia
theorem zFy:∀us a:List T,xW (us++a)=max (xW us) (xW a)
 |[],a=>by show xW a=max 0 (xW a);lia|u::us,a=>by
  show max (qX u) (xW (us++a))=max (max (qX u) (xW us)) (xW a);rw[zFy us a];lia
theorem zDk{u:T}(h:wJ u=false):qX u=0/\lsz u=1/\jU u=true/\zAl u=true:=by
 cases u with|lst a=>cases h|dic b a=>cases h|_=>exact⟨O,O,O,O⟩
theorem zUc{u:T}(h:wJ u=true):jU u=(zAl u && wA (jQ u)):=by
 cases u with|lst a=>rfl|dic b a=>rfl|_=>cases h
theorem zCg(u:T)(us:B0):wQ (u::us)=jQ u++wQ us:=rfl
theorem zKk:∀us:List T,wA us=(us.all zAl && wA (wQ (us.filter wJ)))
 |[]=>rfl|u::us=>by
  let b:=zKk us;show(jU u && wA us)=_;rw[List.all_cons,b]
  cases a:wJ u with
  |true=>
   rw[rZ a,zCg,zGm,zUc a];cases zAl u<;>cases us.all zAl<;>cases wA (jQ u)<;>rfl
  |false=>
   rw[sA (by rw[a];decide),(zDk a).2.2.1,(zDk a).2.2.2,aB,aB]
theorem zNh:∀us:List T,vP us=us...*+vP (wQ (us.filter wJ))
 |[]=>rfl|u::us=>by
  let b:=zNh us;show lsz u+vP us=_;rw[mP]
  cases a:wJ u with
  |true=>
   rw[rZ a,zCg,zLc,(zDn a).2.2.2]
   lia
  |false=>
   rw[sA (by rw[a];decide),(zDk a).2.1]
   lia
theorem zNd(n:Nat):∀us:List T,xW us<n+1↔((us.filter wJ)= []\/xW (wQ (us.filter wJ))<n)
 |[]=>{λ_=>.inl O,λ_=>Nat.succ_pos n}|u::us=>by
  let b:=zNd n us;let e:xW (u::us)=max (qX u) (xW us):=rfl;rw[e]
  cases a:wJ u with
  |true=>
   let k:=(zDn a).2.2.1;rw[rZ a,zCg,zFy];constructor
   ·intro h
    let c:=b.mp ∅;refine .inr ?_;rcases c with z | z
    ·rw[z]
     let d:xW (wQ [])=0:=rfl;rw[d];lia
    ·lia
   ·intro h
    rcases h with z | z
    ·cases z
    ·let:=b.mpr (.inr ∅)
     lia
  |false=>
   let k:=(zDk a).1;rw[sA (by rw[a];decide)];constructor
   ·exact λh=>b.mp ∅
   ·intro h
    let:=b.mpr h
    lia
theorem zIv:∀(n z:Nat)(us:B0),thL n z us=(wA us && (decide (xW us<n)&& decide (z+vP us<=200)))
 |0,z,us=>by
  rw[show decide (xW us<0)=false from nJ ∅,aM,aP]
  rfl
 |n+1,z,us=>by
  let e:thL (n+1) z us=(decide (z+us...*<=200)&& (us.all zAl && ((us.filter wJ).isEmpty || thL n (z+us...*) (wQ (us.filter wJ))))):=rfl
  rw[e,zIv n,zKk us,zNh us,tM];let b:=zNd n us;simp only[nX,Bool.or_eq_true,decide_eq_true_iff,List.isEmpty_iff];constructor
  ·rintro⟨f,a,c⟩
   rcases c with z' |⟨d,g,i⟩
   ·rw[z']
    let h:vP (wQ [])=0:=rfl;exact nAA ⟨a,O⟩ (b.mpr (.inl z')) (by rw[h];lia)
   ·exact nAA ⟨a,d⟩ (b.mpr (.inr g)) ∅
  ·rintro⟨⟨f,a⟩,c,d⟩
   refine nAA ∅ f ?_;rcases b.mp c with z' | z'
   ·exact .inl z'
   ·exact .inr {a,z',∅}
theorem zYn(t:T):thL 9 0 [t]=xK t:=by
 rw[zIv];let b:wA [t]=(jU t && true):=rfl;let a:xW [t]=max (qX t) 0:=rfl;let c:vP [t]=lsz t+0:=rfl;rw[b,a,c,Bool.and_true];unfold xK;rw[Bool.and_assoc]
 congr 1
 congr 1
 ·exact bD.mpr ∅
 ·exact bD.mpr ∅
theorem yCo{t u:T}(h:T.gk t)(a:u∈jQ t):T.gk u:=by
 cases t with|lst b=>exact c7 (show j7 b from h) a|dic c b=>exact c7 (show(∀k∈c,xA k=true)/\j7 b from h).2 a|_=>cases a
theorem zOp{t u:T}(h:T.few t)(a:u∈jQ t):T.few u:=by
 cases t with|lst b=>exact b9 h.2 a|dic c b=>exact b9 h.2.2.2 a|_=>cases a
section
variable{P:V3}{w:V4}{K:A6}{mg:C8}{base:V5}{f:V1}{fd:V7}
def zZw:Sp:=λb H Q _=>∃c:Nat,b= [.str (tx [c])]/\∀a,Same H a->Q (.bl (decide (c∈zBl))) a
theorem zHu(c:Nat):c∈zBl↔32<=c/\c<=126/\c≠37:=by
 unfold zBl;rw[aD,nZ];constructor
 ·rintro⟨⟨i,b,rfl⟩,h⟩
  let:=bU.mp b;simp at h
  lia
 ·rintro⟨e,d,a⟩
  exact{{c - 32,bU.mpr ∅,∅},by simp[a]}
theorem yBr(F:Fun K "is_text_sign" "is_text_sign" sSgn f fd)(B:Bl5 mg):FnOk P w K mg base CX0 1 f fd ["sign"] zZw:=by
 refine F.okn (N:=["sign"]) λn A g s H t Q E r u h=>?_;ext oEA h c i q;subst i;refine nEA _ (zG (zI (qA (zLi zGc zGc zO (pv 0) zO) (vR (pE zGq (zN zSm O B.ord yDy (zA (pv 0) zB)) zE))))) ?_;walk_at "st";lk;let o:ts (A5 " ")= [32]:=by decide+kernel
 let l:ts (A5 "~")= [126]:=by decide+kernel
 let m:ts (tx [c])= [c]:=rfl;let p:(↑((#[c]:Array Nat).getD 0 0):Int)=(c:Int):=rfl;let d:∀a b:Nat,([a]:List Nat)< [b]↔a<b:=λa b=>by
  constructor
  ·intro h
   cases h with|rel h=>exact h|cons h=>cases h
  ·exact λh=>.rel h
 let z:=q H (Same.refl H);rw[o,l,m,p]
 by_cases j:c<32
 ·refine nEA false (by rw[nO ((d _ _).mpr j)];rfl) (zPy ?_)
  rw[nJ (λh=>by let:=(zHu c).mp h;lia)] at z;exact z
 ·refine nEA true (by rw[nJ (λh=>j ((d _ _).mp h))];rfl) (zMk ?_)
  by_cases k:126<c
  ·refine nEA false (by rw[nO ((d _ _).mpr k)];rfl) (zPy ?_)
   rw[nJ (λh=>by let:=(zHu c).mp h;lia)] at z;exact z
  ·refine nEA true (by rw[nJ (λh=>k ((d _ _).mp h))];rfl) (zMk {O, ?_})
   let e:decide (c∈zBl)= !decide ((c:Int)=37):=by
    rw[tM,decide_eq_true_iff,zHu];simp
    lia
   rw[e] at z;exact z
theorem zKl(n:Nat):(List.replicate n true).all id=true:=by simp
theorem zLm(i:Nat):(List.replicate i true).map V.bl++ [V.bl true]=(List.replicate (i+1) true).map V.bl:=by rw[List.replicate_succ',nH];rfl
def yAe:Sp:=λb H Q _=>∃(v:V)(t:T),b= [v]/\Rep H v t/\T.gk t/\T.few t/\T.sz t<=5000/\∀a,Same H a->Q (.bl (zAl t)) a
theorem yCl(F:Fun K "is_sound_outside" "is_sound_outside" sSnd f fd)(B:Bl5 mg)(M:Ms mg)(m:Dn P w K mg base 1 "kind_of" ["thing"] zHg)(j:Dn P w K mg base 1 "is_text_sign" ["sign"] zZw)(l:Dn P w K mg base 1 "is_name" ["thing"] zWr):FnOk P w K mg base CX0 2 f fd ["thing"] yAe:=by
 refine F.okn (N:=["thing","kind"]) λaj A ah s H vs Q E nd hr h=>?_;ext zX h v u n y r z_;ext oAA z_ am ak q;subst n;refine{_,(zD (pS 1 nd (pD m hr (zA (pv 0) zB)))
  (zD (zU (pT xC (pv 1) zO) (zG (zI (pE uB (zN zUe O B.abs yBt (zA (pv 0) zB)) (zH uA zE zE)))) zL)
  (zD (zU (pT xC (pv 1) zO) (zG (zI (qA (pE uB (zN zBm O B.len yR (zA (pv 0) zB)) (zEb O M.MOST_IN_TEXT)) (vR (zN (kJ O) O B.all zBx (zA (wW (own:=["sign"]) (F:=[]) {O,tb_g%,tb_g%,tb_g%, .nil} O (zTv (pv 0)) (λ_ _ _ _=>yH (i:=0) (by show(wN ["sign"] []).Nodup;decide+kernel) O (nR O)) (λ_ _ _ _=>xU) (λ_ _ _ _=>(pD j hr (zA (pv 0) zB)))) zB)))))) zL)
  (zD (zU (pT xC (pv 1) zO) (zG (zI (pE uB (zN yA O B.len yR (zA (pv 0) zB)) (zEb O M.MOST_IN_ROW)))) zL)
  (zD (zU (pT xC (pv 1) zO) (zG (zI (qA (pE uB (zN zQx O B.len yR (zA (pv 0) zB)) (zEb O M.MOST_IN_RECORD)) (vR (zN (kJ O) O B.all zBx (zA (zHq (wW (own:=["name"]) (F:=[]) {O,tb_g%,tb_g%,tb_g%, .nil} O (zPh (pv 0)) (λ_ _ _ _=>yH (i:=0) (by show(wN ["name"] []).Nodup;decide+kernel) O (nR O)) (λ_ _ _ _=>xU) (λ_ _ _ _=>(pD l hr (zA (pv 0) zB))))) zB)))))) zL)
  (zG (zI (zIk (zNk (pv 1)))))))))), ?_}
 walk_at "st";lk;refine{v,_,O,(Rep.rp _ _ y).ty,λH1 g1=>?_};let y:=Rep.same g1 _ _ y;let z:=q _ g1
 cases u with
 |lst J=>
  rw[show xS (tyT (T.lst J))= .str "row" from by show xS "list" =_;decide+kernel];ext yM y a vs n ha hs;subst n;let hl:=hs...*;refine{O,iN (by decide+kernel) {O,iN (by decide+kernel) {O,iP O {a,O,vs,SqL.of ha, ?_}}}};rw[show decide ((vs...*:Int)<=60)=decide (J...*<=60) from bD.mpr ∅];exact z
 |dic D J=>
  rw[show xS (tyT (T.dic D J))= .str "record" from by show xS "dict" =_;decide+kernel];ext zX y a ps n ha hk hs;subst n;let ag:∀k∈D,xA k=true:=(show(∀k∈D,xA k=true)/\j7 J from r).1;let ab:ps...*=D...*:=by let:=congrArg List.length hk;simpa using this
  refine{O,iN (by decide+kernel) {O,iN (by decide+kernel) {O,iN (by decide+kernel) {O,iP O {a,O,ps, .inl ha, ?_}}}}};let z0:Q (.bl (decide (D...*<=30))) H1:=z
  by_cases al:30<D...*
  ·rw[mH (by rw[ab];lia)]
   rw[nJ ∅] at z0;exact z0
  let ac:D...*<=30:=by lia
  rw[mJ (by rw[ab];lia)];refine nEAE a O ps (.inl {ha,λo=>?_});refine zGt (λi zs I=>Same (upd H1 a (.frz o (.dK ps))) I/\zs=(List.replicate i true).map V.bl) (by rw[mV];lia) {Same.refl _,O} (λi zs I h=>h.1 _ _ zC) ?_ ?_
  ·rintro i kv zs I af _ ⟨g,rfl⟩
   let t:(D.map nK)[i]? =Y kv.1:=by rw[<-hk,nG,af];rfl
   rw[nG] at t;refine oEA (rG.mp t) λk t e=>?_;let aa:=ag k (mO t);let L:=zMc aa;rw[<-e];lk;refine{_,"str",O,O,λx e=>?_,λH3 g3=>{g.trans g3, ?_}}
   ·let e':tx k=x:=V.str.inj e
    rw[<-e',kG];lia
   ·show _++ [V.bl (xA (ts (tx k)))]=_
    rw[vJ,aa];exact zLm i
  ·rintro zs I _ ⟨g,rfl⟩ p hp
   let g2:=g.trans (zF hp (.lst ((List.replicate ps...* true).map V.bl)));refine kW p O _ (SqL.of (wX zC (by intro o v z;cases z))) ?_;rw[zKl];let q2:Q (.bl (decide (D...*<=30))) _:=q _ (g1.trans (uS (o:=o) ha g2));rw[nO ac] at q2;exact q2
 |non=>
  cases (show v=_ from y);exact{by decide+kernel,iN (by decide+kernel) {by decide+kernel,iN (by decide+kernel) {by decide+kernel,iN (by decide+kernel) {by decide+kernel,iN (by decide+kernel) z}}}}
 |bl b=>
  cases (show v=_ from y);rw[show xS (tyT (T.bl b))= .str "truth" from by show xS "bool" =_;decide+kernel];exact{O,iN (by decide+kernel) {O,iN (by decide+kernel) {O,iN (by decide+kernel) {O,iN (by decide+kernel) z}}}}
 |int i=>
  cases (show v=_ from y);obtain⟨c1,c2⟩:=(show -(10 ^ 12)<=i/\i<=10 ^ 12 from r);rw[show xS (tyT (T.int i))= .str "number" from by show xS "int" =_;decide+kernel];refine{O,iP O {i,O, ?_}};rw[show decide ((if i<0 then -i else i)<=1000000000000)=true from nO (by split<;>lia)];exact z
 |str b=>
  cases (show v=_ from y);obtain⟨ac,ae⟩:=(show b...*<=30/\∀c∈b,c∈zBl from r);rw[show xS (tyT (T.str b))= .str "text" from by show xS "str" =_;decide+kernel];let L:=kG b;refine{O,iN (by decide+kernel) {O,iP O {tx b,O,∅, ?_}}};rw[mJ ∅];refine nEA (tx b) O (zIq (λi ys I=>Same H1 I/\ys=(List.replicate i true).map V.bl) (by rw[mV,vJ];lia) {Same.refl _,O} ?_ ?_)
  ·rintro i d ys I hd _ ⟨hS,rfl⟩
   lk;refine{d,O,λH3 g3=>{hS.trans g3, ?_}};rw[vJ] at hd;rw[nO (ae d (mO hd))];exact zLm i
  ·rintro ys I ai ⟨hS,rfl⟩ p hp
   refine kW p O _ (SqL.of zC) ?_;rw[zKl];exact q _ (g1.trans (hS.trans (zF hp _)))
 |tup J=>exact(show False from r).elim
def spHp:Sp:=λb H Q _=>∃(v:V)(t:T),b= [v]/\Rep H v t/\∀a,Same H a->Q (.bl (wJ t)) a
theorem ok_hp(F:Fun K "holds_parts" "holds_parts" sHp f fd)(B:Bl mg):FnOk P w K mg base CX0 1 f fd ["thing"] spHp:=by
 refine F.okn (N:=["thing"]) λc A b s H j Q E i k h=>?_;ext yM h v u a d q;subst a;refine nEA _ (zG (zI (zN (zMl (T:="list") (W:="dict") ∎ ∎) O B.isinstance zJ (zA (pv 0) (zA (vW (zA (wY (v:=.ty "list") O B.list xZ O) (zA (wY (v:=.ty "dict") O B.dict xV O) zB))) zB))))) ?_;walk_at "st";lk;intro p e;let g:=zF e (.tup [V.ty "list",V.ty "dict"]);refine kE v (tyT u) p ⟨O,O⟩ zC (nA ((Rep.rp _ _ (Rep.same g _ _ d)).ty) ?_);let z:=q _ g;rw[<-ty_hT] at z;exact z
def spPo:Sp:=λd H Q _=>∃(a:Hp)(v:V)(t:T),d= [v]/\Same a H/\Rep a v t/\wJ t=true/\∀l c b,Same H b->b l=Y (.lst c)->Reps a c (jQ t)->Q (.ref l) b
theorem ok_po(F:Fun K "parts_of" "parts_of" sPo f fd)(B:Bl mg):FnOk P w K mg base CX0 1 f fd ["thing"] spPo:=by
 refine F.okn (N:=["thing"]) λz A n s H vs Q E M L h=>?_;ext zZ h H0 v u j o t;ext oAA t i x q;subst j;refine{_,(zD (zU (yI (zN (jI (T:="dict") ∎) O B.isinstance zJ (zA (pv 0) (zA (wY (v:=.ty "dict") O B.dict xV O) zB)))) (zG (zI (yU (zJt O) O B.list xZ (zA (yDa aR PySem.F.slot_dict_values PySem.F.type_dict_values zQv (pv 0)) zB)))) zL)
  (zG (zI (yU zAy O B.list xZ (zA (pv 0) zB))))), ?_}
 walk_at "st";lk;let d:=(Rep.rp _ _ (Rep.same o _ _ i)).ty
 cases u with
 |lst y=>
  ext yM i a r b c k;subst b;exact nEA ("list") d (iN (by decide+kernel) {a,O,r, .inl (SqL.of (o _ _ c)),λl m=>q l r _ (zF m _) zC k})
 |dic J y=>
  ext zX i a e b c I k;subst b;refine nEA ("dict") d (iP (by decide+kernel) ?_);let c:=o _ _ c;refine{{a,e,O, .inl c},a,e,O,O, .inl c,λp D=>?_};let g:=zF D (zIr p a);exact qW p O a zC e (nA (.inl (g _ _ c)) (λl m=>q l _ _ (g.trans (zF m _)) zC k))
 |_=>cases x
def spPz:Sp:=λg H Q _=>∃(a:V1)(d:B3)(c:B0),g= [.ref a]/\H a=Y (.lst d)/\Reps H d c/\(∀u∈c,wJ u=true)/\T.szs c<=10000/\∀l e b,Same H b->b l=Y (.lst e)->Reps b e (wQ c)->Q (.ref l) b
theorem zKh:∀us:List T,(∀u∈us,wJ u=true)->(wQ us)...*<=T.szs us
 |[],_=>mD _|u::us,h=>by
  let:=zKh us λx a=>h x (mI _ a);let e:wQ (u::us)=jQ u++wQ us:=rfl;rw[e,mK];show _<=T.sz u+T.szs us;let c:=i3 (jQ u);let b:=(zDn (h u mE)).2.1
  lia
theorem yCr(F:Fun K "parts_of_all" "parts_of_all" sPz f fd)(B:Bl mg)(b:Dn P w K mg base 1 "parts_of" ["thing"] spPo):FnOk P w K mg base CX0 2 f fd ["holders"] spPz:=by
 refine F.okn (N:=["holders","parts","holder"]) λaa A v s H vs Q E M hr h=>?_;ext zZ h a xs m n I z_;ext xI z_ J hh hz q;subst n;refine{_,(zD (pS 1 M (yJ zB))
  (zD (qI PassesOwn.never O (wM (pv 0)) (yH (i:=2) M O (nR O)) (zG (wD (qZ nV PySem.F.slot_list_extend PySem.F.type_list_extend zQl (pv 1) (zA (pD b hr (zA (pv 2) zB)) zB)))))
  (zG (zI (pv 1))))), ?_}
 walk_at "st";lk;intro p hp;let g0:=zF hp (.lst []);refine{{_,SqL.of (g0 _ _ I)}, ?_};refine kM (K:=K) (a:=a) (xs:=xs) (λi σ j=>(∃o,σ= [Y (V.ref a),Y (V.ref p),o])/\Same H j/\∃d,j p=Y (.lst d)/\Reps H d (wQ (m.take i))) {⟨_,O⟩,g0,[],zC,O} (λi σ j _ h=>SqL.of (h.2.1 _ _ I)) ?_ ?_
 ·rintro i x σ j y ⟨⟨o,rfl⟩,g,d,c,k⟩
  refine oEA (J.get y) λu z r=>?_;let hm:=mO z;lk;refine{nR {O,_,SqL.of c},H,x,u,O,g,r,hh u hm,λl D H3 g3 t L=>?_};let h1:=k...*;let h2:=L...*;let h3:=zKh (m.take (i+1)) λx y=>hh x (sL y);let h4:=zKj m (i+1);let e:=zMp (m.take i) u;rw[<-yN z] at e;let h5:=congrArg List.length e;rw[mK] at h5;refine{p,l,d,D,O,O,g3 _ _ c,t,by rw[mV];lia,⟨_,O⟩,(g.trans g3).put hp _,d++D,zC, ?_};rw[e];exact Reps.append L k
 ·rintro σ j ⟨⟨o,rfl⟩,g,d,c,k⟩
  lk;let t:=J...*;rw[t,pH] at k;exact q p d j g c (Reps.same g _ _ k)
def zZi:Sp:=λb H Q _=>∃(v:V)(t:T),b= [v]/\Rep H v t/\T.gk t/\T.few t/\T.sz t<=5000/\∀a,Same H a->Q (.bl (xK t)) a
theorem ok_th(F:Fun K "is_thing" "is_thing" sTh f fd)(B:Bl mg)(M:Ms mg)(c:Dn P w K mg base 2 "is_sound_outside" ["thing"] yAe)(k:Dn P w K mg base 1 "holds_parts" ["thing"] spHp)(d:Dn P w K mg base 2 "parts_of_all" ["holders"] spPz):FnOk P w K mg base CX0 3 f fd ["thing"] zZi:=by
 refine F.okn (N:=["thing","level","size","depth","holders"]) λa8 A a0 s H vs Q E nd hr h=>?_;ext zX h v u ai hv av J;ext oAA J a4 a9 q;subst ai;refine{_,(zD (pS 1 nd (yJ (zA (pv 0) zB)))
  (zD (pS 2 nd zE)
  (zD (pS 3 nd zE)
  (zD (zWp PassesOwn.never (pT uB (pv 3) (zEb O M.MOST_DEPTH)) (zD (zTm (i:=2) nd O (nR O) (zN yA O B.len yR (zA (pv 1) zB)) zSf)
  (zD (zU (i9 (gR (pT uG (pv 2) (zEb O M.MOST_SIZE)) (gZ (vE (yI (zN (kJ O) O B.all zBx (zA (wW (own:=["part"]) (F:=[]) {O,tb_g%,tb_g%,tb_g%, .nil} O (wM (pv 1)) (λ_ _ _ _=>yH (i:=0) (by show(wN ["part"] []).Nodup;decide+kernel) O (nR O)) (λ_ _ _ _=>xU) (λ_ _ _ _=>(pD c hr (zA (pv 0) zB)))) zB))))))) (zG (zI qT)) zL)
  (zD (zBp (i:=4) nd O (nR O) (own:=["part"]) (F:=[]) {O,tb_g%,tb_g%,tb_g%, .nil} O (wM (pv 1)) (λ_ _ _ _=>yH (i:=0) (by show(wN ["part"] []).Nodup;decide+kernel) O (nR O)) (λ_ _ _ _=>(zYh (yI (pD k hr (zA (pv 0) zB))))) (λ_ _ _ _=>(pv 0)))
  (zD (zU (vE (zKz (pv 4) (λ_=>O))) (zG (zI qT)) zL)
  (zD (pS 1 nd (pD d hr (zA (pv 4) zB)))
  (zG (zTm (i:=3) nd O (nR O) zE zSf))))))))
  (zG (zI qT)))))), ?_}
 walk_at "st";lk;intro p hp;let g0:=zF hp (.lst [v]);rw[<-zYn] at q;refine{λm σ H2=>∃(i z:Nat)(a:V1)(xs:B3)(b:B0)(o:Option V),m=9 - i/\i<=9/\σ= [Y v,Y (V.ref a),Y (V.int z),Y (V.int i),o]/\Same H H2/\H2 a=Y (.lst xs)/\Reps H2 xs b/\(∀t∈b,T.gk t/\T.few t)/\T.szs b<=5000/\z<=200/\thL (9 - i) z b=thL 9 0 [u], ?_};refine{{9,0,0,p,[v],[u],none,O,by decide,O,g0,zC,{v,[],O,Rep.same g0 _ _ hv,O},λt ht=>by rw[mF.mp ht];exact⟨av,a4⟩, ?_,by decide,O}, ?_}
 ·show T.sz u+0<=5000
  lia
 intro m σ H2 J;ext zY J i z a xs b J;ext wS J o az hi ay g J;ext zQ J ha hs ab a7 a6 hb;subst az ay;let aa:=hs...*;let ba:=i3 b;lk
 by_cases h9:i=9
 ·subst h9
  rw[mH ∅];let e:thL (9 - 9) z b=false:=rfl;rw[e] at hb;rw[<-hb] at q;exact q _ g
 obtain⟨n,hn⟩:∃n,9 - i=n+1:={8 - i,∅};let r:(decide (z+b...*<=200)&& (b.all zAl && ((b.filter wJ).isEmpty || thL n (z+b...*) (wQ (b.filter wJ)))))=thL 9 0 [u]:=by rw[hn] at hb;exact hb
 rw[mJ ∅];refine{λσ' D=>∃(a':V1)(ac:B3)(I:B0)(o':Option V),σ'= [Y v,Y (V.ref a'),Y (V.int ((z+b...*:Nat):Int)),Y (V.int ((i+1:Nat):Int)),o']/\Same H D/\D a'=Y (.lst ac)/\Reps D ac I/\(∀t∈I,T.gk t/\T.few t)/\T.szs I<=5000/\z+b...*<=200/\thL n (z+b...*) I=thL 9 0 [u], ?_, ?_}
 ·intro σ' D J
  ext yK J a' ac I o' aw J;ext zQ J g' a1 aq h1 h2 J;ext oA J h3 h4;subst aw;exact zEw (9 - (i+1)) ∅ (i+1) O ∅ (yDs (z+b...*) a' ⟨o',O⟩ g' ac (zMy a1 I aq h1 h2 (nA h3 (by rw[show 9 - (i+1)=n by lia];exact h4))))
 ·lk
  simp only[tAug,ipI];lk;refine nEA xs (SqL.of ha) ?_
  by_cases a5:200<z+b...*
  ·rw[mJ (by rw[aa];lia)]
   rw[nJ ∅,aM] at r;rw[<-r] at q;exact q _ g
  let ah:z+b...*<=200:=by lia
  rw[nO ah,aB] at r;rw[mH (by rw[aa];lia)];refine{{xs,SqL.of ha},qL (K:=K) (xs:=xs) (λj y D=>Same H2 D/\y=((b.take j).map zAl).map V.bl) (by rw[mV];lia) {Same.refl _,O} (λj y D _ h=>SqL.of (h.1 _ _ ha)) ?_ ?_}
  ·rintro j x y D hx _ ⟨g3,rfl⟩
   refine oEA (hs.get hx) λu' hu ae=>?_;let hm:=mO hu;lk;refine{x,u',O,Rep.same g3 _ _ ae,(ab _ hm).1,(ab _ hm).2,by let:=d4 hm;lia,λH4 g4=>{g3.trans g4, ?_}};rw[yN hu,nH,nH]
   rfl
  ·rintro y D _ ⟨g3,rfl⟩ p1 ao
   rw[show b.take xs...*=b by rw[aa,pH]];let g4:=g3.trans (zF ao (.lst ((b.map zAl).map V.bl)));refine kW p1 O _ (SqL.of zC) ?_;generalize upd D p1 (.lst ((b.map zAl).map V.bl))=H3 at g4⊢;let ak:(b.map zAl).all id=b.all zAl:=by rw[aK];rfl
   rw[ak]
   cases af:b.all zAl with
   |false=>
    rw[af,aM] at r;rw[<-r] at q;rw[mJ O];exact q _ (g.trans g4)
   |true=>
   rw[af,aB] at r;rw[mH ∎];let al:=g4 _ _ ha;let a3:=Reps.same g4 _ _ hs;refine{{xs,SqL.of al},qL (K:=K) (xs:=xs) (λj y D=>Same H3 D/\Reps H3 y ((b.take j).filter wJ)) (by rw[mV];lia) {Same.refl _,O} (λj y D _ h=>SqL.of (h.1 _ _ al)) ?_ ?_}
   ·rintro j x y D hx _ ⟨g5,L⟩
    refine oEA (a3.get hx) λu' hu ae=>?_;lk;refine{x,u',O,Rep.same g5 _ _ ae,λH4 g6=>{wJ u',O, ?_}};rw[yN hu,List.filter_append]
    cases hh:wJ u' with
    |true=>
     rw[mJ O,rZ hh];exact{g5.trans g6,Reps.snoc ae L}
    |false=>
     rw[mH ∎,sA (by rw[hh];decide),List.filter_nil,nS];exact{g5.trans g6,L}
   ·rintro y D _ ⟨g5,L⟩ p2 au
    rw[aa,pH] at L;let g6:=g5.trans (zF au (.lst y));let aj:=L...*;refine nEA (!y.isEmpty) (.inl {y,SqL.of zC,O}) ?_;let ag:upd D p2 (.lst y) p2=Y (.lst y):=zC;generalize upd D p2 (.lst y)=H4 at g6 ag⊢
    cases y with
    |nil=>
     let e0:b.filter wJ= []:=List.length_eq_zero_iff.mp aj.symm;rw[e0] at r;let ap:true=thL 9 0 [u]:=r;rw[<-ap] at q;exact iP O (q _ (g.trans (g4.trans g6)))
    |cons y0 y=>
     refine iN (by simp) ?_;let a2:(b.filter wJ).isEmpty=false:=by
      cases hf:b.filter wJ with|nil=>rw[hf] at aj;cases aj|cons h0 _=>rfl
     rw[a2,Bool.false_or] at r;let bc:=zNp b;let bb:=zKa b;refine{p2,y0::y,b.filter wJ,O,ag,Reps.same g6 _ _ L,λu' an=>(aD.mp an).2,∅,λl zs H5 g7 hl ax=>?_};let hk:∀t∈wQ (b.filter wJ),T.gk t/\T.few t:=λt ht=>by
      refine oEA (List.mem_flatten.mp ht) λl' ar hm=>?_;refine oEA (nZ.mp ar) λx hx ai=>?_;subst ai;let am:=(aD.mp hx).1;exact{yCo (ab x am).1 hm,zOp (ab x am).2 hm}
     refine{_,O,_,_,O,O,l,{Y (V.ref p2), ?_},g.trans (g4.trans (g6.trans g7)),zs,hl,wQ (b.filter wJ),ax,hk,∅,ah,r};simp only[cA,cD,aa,Int.natCast_add,Int.cast_ofNat_Int]
end
end K47
namespace K47
open PySem L2 PySem.W
seal L2.PSs L2.PS L2.PE L2.PT L2.PW L2.PA L2.PI L2.PG L2.PGs L2.PPs L2.PTs
abbrev sSou:V6:=top 35
abbrev sSo:V6:=top 46
abbrev zZv:V6:=top 45
theorem zPt{K:PySem.W.Frag}{l:V1}{xs:B3}{g:TG}{tb:TS}{D:gB}{σ:St}{H:Hp}(Pv:Nat->St->Hp->Prop)(n:Pv 0 σ H)(m:∀i σ H,Pv i σ H->SqL K H l xs)
  (t:∀i x σ H p,xs[i]? =Y x->Pv i σ H->H p=none->g (.ref p) σ (upd H p (.tup [.int i,x])) λσ2 H2=>tb {D with nx:=Pv (i+1),ct:=Pv (i+1),bk:=D.nx} σ2 H2)
  (h:∀σ H,Pv xs...* σ H->D.nx σ H):zRj g tb D σ (Ite K l) H:=by
 refine{λi k σ H=>k=xs...* - i/\i<=xs...*/\Pv i σ H,{_,O,nL _,n}, ?_};rintro i k σ H ⟨rfl,w,p⟩;let b:=m i σ H p
 by_cases f:i<xs...*
 ·refine .inr {{xs,xs[i],b,by simp[f]},Pv (i+1),λu j q=>{_,∅,O,f,q}, ?_}
  intro v j r;ext zX r a x s c o d;subst c d;exact t i x σ H a (o xs b) p s
 ·let e:i=xs...*:=by lia
  subst e;exact .inl {{xs,b,mD _},h σ H p}
noncomputable def xT:Nat->List Dd->T->Sum Nat T
 |_,[],t=>.inr t|i,d::a,t=>match doT d.1 d.2.2 d.2.1 t with
  |none=>.inl i|some r=>xT (i+1) a r
noncomputable def stands:List Dd->T->List T
 | [],t=>[t]|d::a,t=>t::(match doT d.1 d.2.2 d.2.1 t with
  | some r=>stands a r|none=>[])
theorem uY{d:Dd}{ds:C4}{t r:T}(h:doT d.1 d.2.2 d.2.1 t=Y r):stands (d::ds) t=t::stands ds r:=by
 show t::(match doT d.1 d.2.2 d.2.1 t with
  | some r=>stands ds r|none=>[])=_
 rw[h]
theorem jZ{i:Nat}{d:Dd}{ds:C4}{t:T}(h:doT d.1 d.2.2 d.2.1 t=none):xT i (d::ds) t= .inl i:=by
 show(match doT d.1 d.2.2 d.2.1 t with | none=>Sum.inl i | some r=>xT (i+1) ds r)=_
 rw[h]
theorem jB{i:Nat}{d:Dd}{ds:C4}{t r:T}(h:doT d.1 d.2.2 d.2.1 t=Y r):xT i (d::ds) t=xT (i+1) ds r:=by
 show(match doT d.1 d.2.2 d.2.1 t with | none=>Sum.inl i | some r=>xT (i+1) ds r)=_
 rw[h]
structure Od(d:Dd):Prop where
 s:∀k∈d.2.1,okS k
 l:d.2.1...*<=8
 f:T.fewm 31 d.2.2
 g:T.gk d.2.2
 dd:d.2.1...*+T.dep d.2.2<=15
 z:T.sz d.2.2<=200
structure RJ(m:Nat)(ds:C4)(s:T):Prop where
 f:T.fewm m s
 m0:31<=m
 m1:m+ds...*<61
 g:T.gk s
 d:T.dep s<=15
 z:T.sz s+200*ds...*<=5000
 o:∀d∈ds,Od d
theorem RJ.few{m:Nat}{ds:C4}{s:T}(h:RJ m ds s):T.few s:=c6 (by let:=h.m1;lia) _ h.f
theorem RJ.step{m:Nat}{d:Dd}{ds:C4}{s r:T}(h:RJ m (d::ds) s)(k:doT d.1 d.2.2 d.2.1 s=Y r):RJ (m+1) ds r:=by
 let o:=h.o d mE;let q:=h.m0;let l:=h.m1;let g:=h.z;let i:=h.d;let p:=o.z;let n:=o.dd;rw[mP] at l g;refine xI (zDj ∅ (b8 h.m0 _ o.f) o.g _ _ _ k h.f h.g o.s ∅) λa b c e=>?_;exact{a,∅,∅,b,∅,∅,λj f=>h.o j (mI _ f)}
def Dlays(H:Hp)(xs:B3)(ds:C4):Prop:=xs...*=ds...*/\∀(i:Nat) v d,xs[i]? =Y v->ds[i]? =Y d->Dlay H v d
theorem Dlays.same{H a:Hp}{xs:B3}{ds:C4}(g:Same H a)(h:Dlays H xs ds):Dlays a xs ds:={h.1,λi v d b c=>(h.2 i v d b c).same g}
theorem zAk{H a:Hp}{d:V1}{o:Obj}{xs:B3}(f:H d=Y (.lst xs))(g:Same (upd H d (.frz o (.lst xs))) a):Same H (L2.thaw H a):=zGk λb u e=>by
 by_cases c:b=d
 ·subst c
  rw[f] at e;cases e;exact .inr {{o,g _ _ zC},λ_ _ z=>by cases z}
 ·exact .inl (g _ _ (by rw[zK c];exact e))
section
variable{P:V3}{w:V4}{K:PySem.W.Frag}{mg:C8}{base:V5}{f:V1}{fd:V7}{C2 C3:V1}
def zUi(C3:V1):Sp:=λb H Q E=>∃(v:V)(t:T),b= [v]/\Rep H v t/\T.gk t/\T.few t/\T.sz t<=5000/\(xK t=true->∀a,Same H a->Q v a)/\(xK t=false->∀a,Same H a->E (.ref C3) none a)
theorem zSl(F:Fun K "sound" "sound" sSou f fd)(a:Dn P w K mg base 3 "is_thing" ["thing"] zZi)(b:Xr0 K mg "TooGreat" C3):FnOk P w K mg base (CXE aC P w) 4 f fd ["thing"] (zUi C3):=by
 refine F.okxn (N:=["thing"]) λj A d s H x Q E r p h=>?_;ext zX h v t c l k o;ext xI o m i q n;subst c;refine{_,(zD (zU (vE (yI (pD a p (zA (pv 0) zB)))) (zG (zRm b O O lvs (zA zO zB))) zL)
  (zG (zI (pv 0)))), ?_}
 walk_at "st";unfold zJa;lk;refine{v,t,O,l,k,m,i,λu g=>?_}
 cases e:xK t with|false=>exact{false,O,iP O (n e _ g)}|true=>exact{true,O,iN ∎ (q e _ g)}
def yCp(C2 C3:V1):Sp:=λg H Q E=>∃(v:V)(d:V1)(c:B3)(t:T)(b:C4)(m:Nat),g= [v, .ref d]/\Rep H v t/\H d=Y (.lst c)/\Dlays H c b/\RJ m b t/\
 (∀r,xT 0 b t= .inr r->xK r=true->∀l e y a,Same H a->a l=Y (.lst (e++ [y]))->Rep a y r->T.few r->T.dep r<=15->T.sz r<=5000->Reps a (e++ [y]) (stands b t)->Q (.ref l) a)/\
 (∀r,xT 0 b t= .inr r->xK r=false->∀a,Same H a->E (.ref C3) none a)/\(∀i:Nat,xT 0 b t= .inl i->XNo C2 (i:Int) H E)
theorem ok_so(F:Fun K "stands_of" "stands_of" sSo f fd)(B:Bl4 mg)(j:Dx aC P w K mg base 6 "after_deed" ["thing","deed","number"] (spAd C2))(aa:Dx aC P w K mg base 6 "sound" ["thing"] (zUi C3)):FnOk P w K mg base (CXE aC P w) 7 f fd ["thing","paper"] (yCp C2 C3):=by
 refine F.okxn (N:=["thing","paper","stands","number","deed"]) λaz A av s H vs Q E nd hr h=>?_;ext zY h v pa xs t M u;ext wS u m I hv aj hD u;ext xI u hI q qx qn;subst I;let hu:=vO hr;refine{_,(zD (pS 2 nd (yJ (zA (pv 0) zB)))
  (zD (qI PassesOwn.leaving O (zOd O B.enumerate (zA (pv 1) zB)) (zLr (n:=2) O (qQ (yH (i:=3) nd O (nR O)) (qQ (yH (i:=4) nd O (nR O)) zDd))) (zG (wD (qZ nV pU rO qF (pv 2) (zA (zDi (zDw j hr ∅ O lvs (zA (pX zS (pv 2) (xY xJ zE)) (zA (pv 4) (zA (pv 3) zB))))) zB)))))
  (zD (wD (zDw aa hr ∅ O lvs (zA (pX zS (pv 2) (xY xJ zE)) zB)))
  (zG (zI (pv 2)))))), ?_}
 walk_at "st";unfold zSx;lk;intro r ab;let s1:=zF ab (.lst [v]);let e1:=zC (H:=H) (a:=r) (o:=.lst [v]);let ak:Rep (xN (upd H r (.lst [v])) r) v t:=Rep.same (λb o e=>by
  let hb:b≠r:=λz=>by subst z;rw[ab] at e;cases e
  rw[xG hb,zK hb];exact e) _ _ hv
 generalize upd H r (.lst [v])=H1 at s1 e1 ak⊢;let aw:=hD.1;let ay:M...*<61:=by let:=hI.m1;lia
 refine{{_,SqL.of (s1 _ _ aj)}, ?_};refine zPt (K:=K) (l:=pa) (xs:=xs) (λi σ H'=>∃(o1 o2:Option V)(ys:B3)(y:V)(s:T)(m':Nat),σ= [Y v,Y (.ref pa),Y (.ref r),o1,o2]/\Same H H'/\H' r=Y (.lst (ys++ [y]))/\ys...*=i/\Rep (xN H' r) y s/\RJ m' (M.drop i) s/\xT i (M.drop i) s=xT 0 M t/\∃us,Reps (xN H' r) ys us/\us++stands (M.drop i) s=stands M t) {_,_,[],v,t,m,O,s1,e1,O,ak,hI,O,[],O,O} (λi σ H' h=>?_) ?_ ?_
 ·ext zY h o1 o2 ys y s u
  ext yX u m' I g _;subst I;exact SqL.of (g _ _ aj)
 ·intro i x σ H2 p hx u
  ext zY u o1 o2 ys y s u;ext wS u m' I g2 J aq u;ext zSd u hy c k us ah L;subst I;intro hp;lk;let s3:=zF hp (.tup [V.int (i:Int),x]);let e3:=zC (H:=H2) (a:=p) (o:=.tup [V.int (i:Int),x]);let g3:=g2.trans s3;let D:=s3 _ _ J;let ag:=Rep.same (yV (d:=r) s3) _ _ hy;let ae:=Reps.same (yV (d:=r) s3) _ _ ah;generalize upd H2 p (.tup [V.int (i:Int),x])=H3 at s3 e3 g3 D ag ae⊢;let ax:=(mN.mp hx).1;let ao:M[i]? =some M[i]:=mU ∅;let an:M.drop i=M[i]::M.drop (i+1):=pM ∅;rw[an] at c k L;let hz:=c.z;let au:=c.m1;let od:=c.o _ mE;refine yBj _ (SqT.of e3) O _ _ (yEl O _ _ O O (nA (nR {O,_,SqL.of D}) ?_));unfold zHi zOg;refine{r, .inr {_,D,λo=>?_}};let gf:Same H (upd H3 r (.frz o (.lst (ys++ [y])))):=wF g3 ab;lk;refine yG (.inl (.inr ⟨o,zC⟩)) (xR _ _) {y,x,_,s,M[i],m',O,Rep.same zFh _ _ ag,c.f,∅,∅,(hD.2 i x _ hx ao).same gf,od.s,od.l,λr' af v' Hc gc ap=>?_,λar=>?_}
  ·let gt:=zAk D gc
   let am:Rep (xN (L2.thaw H3 Hc) r) v' r':=Rep.off (gc _ _ zC) ap;rw[jB af] at k;rw[uY af] at L;let al:=Rep.same (yV (d:=r) gt) _ _ ag;let ac:=Reps.same (yV (d:=r) gt) _ _ ae;dsimp only;generalize L2.thaw H3 Hc=H6 at gt am al ac⊢;refine{r,ys++ [y],v',O,O,gt _ _ D,by rw[mV,mK,nM];lia, ?_};exact yCz ⟨_,O⟩ (wF (g3.trans gt) ab) (ys++ [y]) v' zC (zMy (by rw[mK,nM];lia) r' (by rw[qV];exact am) {m'+1,c.step af} k (nEA (us++ [s]) (by rw[qV];exact Reps.snoc al ac) (by rw[sM];exact L)))
  ·rw[jZ ar] at k
   exact λd H' g hd=>qn i k.symm d H' (gf.trans g) hd
 ·intro σ H2 u
  ext zY u o1 o2 ys y s u;ext wS u m' I g2 J aq u;ext zSd u hy c k us ah L;subst I;lk;rw[aw,sS] at k c L;let hz:=c.z;let a0:=c.d;let au:=c.m1;refine yG (SqL.of J) (xR _ _) {y,s,O,Rep.same hide_self _ _ hy,c.g,c.few,∅,λai H3 g3=>?_,λai H3 g3=>qx s k.symm ai H3 (g2.trans g3)};exact q s k.symm ai r ys y H3 (g2.trans g3) (g3 _ _ J) (Rep.same g3 _ _ (Rep.same hide_self _ _ hy)) c.few ∅ ∅ (by rw[<-L];exact Reps.snoc (Rep.same g3 _ _ (Rep.same hide_self _ _ hy)) (Reps.same g3 _ _ (Reps.same hide_self _ _ ah)))
def zCo(C2 C3:V1):Sp:=λg H Q E=>∃(v:V)(e:V1)(d:B3)(t:T)(c:C4)(m:Nat),g= [v, .ref e]/\Rep H v t/\H e=Y (.lst d)/\Dlays H d c/\RJ m c t/\
 (∀r,xT 0 c t= .inr r->xK r=true->∀y a D,Same H a->Sp1 a y r D->(∀b∈D,H b=none)->Q y a)/\
 (∀r,xT 0 c t= .inr r->xK r=false->∀a,Same H a->E (.ref C3) none a)/\(∀i:Nat,xT 0 c t= .inl i->XNo C2 (i:Int) H E)
theorem zOy(F:Fun K "done" "done" zZv f fd)(a:Dx aC P w K mg base 25 "stands_of" ["thing","paper"] (yCp C2 C3))(c:Dn P w K mg base 25 "copied" ["thing"] (zQm 20)):FnOk P w K mg base (CXE aC P w) 26 f fd ["thing","paper"] (zCo C2 C3):=by
 refine F.okxn (N:=["thing","paper"]) λaa A k s H vs Q E nd o h=>?_;ext zY h v pa xs t ds g;ext wS g m j B d u g;ext xI g hI q J L;subst j;refine nEA _ (zG (zI (pD c o (zA (pX zS (zDw a o ∅ O lvs (zA (pv 0) (zA (pv 1) zB))) (xY xJ zE)) zB)))) ?_;walk_at "st";lk;refine{v,pa,xs,t,ds,m,O,B,d,u,hI,λr i z l ys y H1 p hl hy n hd hz _=>yG (SqL.of hl) (xR _ _) {y,r,O,hy,kH _ r (mD _) n,∅,∅,λI H2 D g2 x e=>q r i z I H2 D (p.trans g2) x λb M=>yQ p (e b M)},J,L}
end
end K47
namespace K47
open PySem L2
section
variable{P:V3}{w:V4}{K:A6}{mg:C8}{base:V5}{f:V1}{fd:V7}
theorem zFw(F:Fun K "_law_thing_by" "_law_thing_by" zEr f fd)(B:Bl mg)(e:Dn P w K mg base 1 "_law_cell" ["_law_script","_law_k"] (gL K))(a:Dn P w K mg base 1 "_law_number_by" ["_law_more"] zPc)
  (c:Dn P w K mg base 2 "_law_text_by" ["_law_more"] zIj) (g:Dn P w K mg base 1 "_law_name_by" ["_law_more"] zEc) (b:Binds K fd ["_law_script","_law_k","_law_deep"] []) (h:A7 K (.ref f)=true) (m:mg "_law_thing_by" =Y (.ref f)):
  ∀d:Nat,FnOk P w K mg base CX0 (3+d) f fd ["_law_script","_law_k","_law_deep"] (uW K d)
 |0=>zQh F B e a c|d+1=>zQy F B e a c g {_,_,zFw F B e a c g b h m d,b,h,m}
def zAi(K:A6)(n:Nat):Sp:=λa H Q E=>∃d,d<=n/\uW K d a H Q E
theorem zRi{n:Nat}(h:∀d:Nat,FnOk P w K mg base CX0 (3+d) f fd ["_law_script","_law_k","_law_deep"] (uW K d)):FnOk P w K mg base CX0 (3+n) f fd ["_law_script","_law_k","_law_deep"] (zAi K n):=
 {λc H Q E ⟨d,_,q⟩=>(h d).len c H Q E q,λA a s H b e c Q E l g j i ⟨d,m,k⟩=>(h d).run A a s H b e c Q E (l.mono ∅) g j i k}
end
noncomputable def kT:Key->T
 |.inl i=>.int i|.inr s=>.str (ts s)
theorem zSc{H:Hp}:∀ks:List Key,Sps H (ks.map kV) (ks.map kT) []
 |[]=>⟨O,O⟩|k::ks=>{kV k,ks.map kV,[],[],O,O,by
   cases k with
   |inl i=>exact⟨O,O⟩|inr s=>exact{O,by show V.str s=V.str (tx (ts s));rw[qC]},zSc ks,λ_ h=>nomatch h}
theorem zOt{H:Hp}{a:V1}{ks:B8}(h:H a=Y (.lst (ks.map kV))):Sp1 H (.ref a) (.lst (ks.map kT)) [a]:={a,ks.map kV,[],O,h,O,by simp,zSc ks}
noncomputable def ddT:Dd->T
 |(.tak,a,_)=>.tup [.str (ts Wd.tak.s), .lst (a.map kT)]|(w,a,n)=>.tup [.str (ts w.s), .lst (a.map kT),n]
theorem zTn{H:Hp}(z:Str):Sp1 H (.str z) (.str (ts z)) []:={O,by rw[qC]}
theorem yCe{H:Hp}{b a:V1}{ks:B8}{n:T}(h:H b=Y (.tup [.str Wd.tak.s, .ref a]))(d:H a=Y (.lst (ks.map kV))):Sp1 H (.ref b) (ddT (.tak,ks,n)) [b,a]:=by
 let c:b≠a:=λz=>by subst z;rw[h] at d;cases d
 refine{b,_,[a],O,h,O,λz=>c (mF.mp z),{_,_,[],[a],O,O,zTn _,{_,_,[a],[],O,O,zOt d,⟨O,O⟩,λ_ _ z=>nomatch z},λ_ z=>nomatch z}}
theorem yAy{H:Hp}{c a:V1}{ks:B8}{w:Wd}{n:T}{x:V}{D:B9}(k:w≠ .tak)(h:H c=Y (.tup [.str w.s, .ref a,x]))(d:H a=Y (.lst (ks.map kV)))(i:Sp1 H x n D)(j:c∉D)(g:a∉D):Sp1 H (.ref c) (ddT (w,ks,n)) (c::a::D):=by
 let f:c≠a:=λz=>by subst z;rw[h] at d;cases d
 let e:ddT (w,ks,n)= .tup [.str (ts w.s), .lst (ks.map kT),n]:=by
  cases w with|tak=>exact absurd O k|_=>rfl
 rw[e];refine{c,_,a::D,O,h,O,λz=>(mG.mp z).elim f j,{_,_,[],a::D,O,O,zTn _,{_,_,[a],D,O,O,zOt d,{_,_,D,[],O,by simp,i,⟨O,O⟩,λ_ _ z=>nomatch z},λb l=>by rw[mF.mp l];exact g},λ_ z=>nomatch z}}
theorem zOj{H:Hp}:∀{ks:B8}{xs:B3},Reps H xs (ks.map kT)->xs=ks.map kV
 |[],xs,h=>h|k::ks,xs,h=>by
  ext yM h v r a b c;subst a;rw[zOj c]
  cases k with
  |inl i=>exact congrArg (· ::ks.map kV) (show v=V.int i from b)|inr s=>
   let e:v=V.str (tx (ts s)):=b;rw[qC] at e;exact congrArg (· ::ks.map kV) e
theorem zWd{H:Hp}{v:V}{d:Dd}(h:Rep H v (ddT d)):Dlay H v d:=by
 obtain⟨w,s,n⟩:=d;let f:∀r,Rep H v (.tup (.str (ts w.s):: .lst (s.map kT)::r))->∃a b c,v= .ref a/\H a=Y (.tup (.str w.s:: .ref b::c))/\H b=Y (.lst (s.map kV))/\Reps H c r:=λr h=>by
  obtain⟨a,c,rfl,u,t,I,rfl,m,E,A,rfl,⟨b,D,rfl,l,o⟩,B⟩:=h;let m:t=V.str (tx (ts w.s)):=m;rw[qC] at m;rw[zOj o] at l;subst m;exact kE a b A O u (nA l B)
 cases w with
 |tak=>
  refine zZ (f [] h) λa b c k g y=>?_;ext oA y i j;let e:c= []:=j;subst e;exact{a,b,[],k,g,i, .inl ⟨O,O⟩}
 |put=>
  obtain⟨a,b,c,k,g,i,x,r,e,j,q⟩:=f [n] h;let p:r= []:=q;subst e p;exact{a,b,[x],k,g,i,aX {(by intro z;cases z),x,O,j}}
 |ins=>
  obtain⟨a,b,c,k,g,i,x,r,e,j,q⟩:=f [n] h;let p:r= []:=q;subst e p;exact{a,b,[x],k,g,i,aX {(by intro z;cases z),x,O,j}}
theorem Dlays.of{H:Hp}{xs:B3}{ds:C4}(h:Reps H xs (ds.map ddT)):Dlays H xs ds:=by
 let a:=h...*;rw[mM] at a;refine{a,λi v d e f=>?_};obtain⟨t,b,c⟩:=h.get e;rw[nG,f] at b;rw[<-mW b] at c;exact zWd c
seal L2.PSs L2.PS L2.PE L2.PT L2.PW L2.PA L2.PI L2.PG L2.PGs L2.PPs L2.PTs
abbrev sSa:V6:=top 66
section
variable{P:V3}{w:V4}{K:A6}{mg:C8}{base:V5}{f:V1}{fd:V7}
def yDg:Sp:=λb H Q _=>∃(v:V)(t:T)(m:Int),b= [v, .int m]/\Rep H v t/\T.few t/\T.gk t/\0<=m/\m<2000000/\∀k a,Same H a->okS k->Q (kV k) a
theorem ok_sa(F:Fun K "_law_step_at" "_law_step_at" sSa f fd)(B:Bl2 mg)(c:Dn P w K mg base 1 "_law_name_by" ["_law_more"] zEc):FnOk P w K mg base CX0 2 f fd ["_law_there","_law_more"] yDg:=by
 refine F.okn (N:=["_law_there","_law_more"]) λab A J s H vs Q E nd hr h=>?_;ext zZ h v t m y e z_;ext vS z_ hf D h0 h1 q;subst y;let hu:=vO hr;refine{_,(zD (zU (yI (pI B.isinstance zJ B.list xZ (pv 0))) (zG (zI (zN (zCd O) O B.min zMh (zA zE (zA (zH yE (pv 1) (zH xH (zN yA O B.len yR (zA (pv 0) zB)) zE)) zB))))) zL)
  (zD (zU (i9 (qH (yI (pI B.isinstance zJ B.dict xV (pv 0))) (qH (pT uG (zN zCj O B.len yR (zA (pv 0) zB)) zE) (jG (pT uG (zH yE (pv 1) zE) zE))))) (zG (zI (pX zS (zN (qP O) O B.sorted uM (zA (pv 0) zB)) (zH yE (zH yF (pv 1) zE) (zN zCj O B.len yR (zA (pv 0) zB)))))) zL)
  (zG (zI (pD c hr (zA (zH yF (pv 1) zE) zB)))))), ?_}
 walk_at "st";lk;let j:zEc [V.int (m / 3)] H Q E0:={_,O,∅,∅,λx L H' g=>q (.inr (tx x)) H' g (by show xA (ts (tx x))=true;rw[vJ];exact L)}
 cases t with
 |lst us=>
  ext yM e a xs d i L;subst d;refine nEA ("list") (zAb i) ?_;rw[mJ ∎];refine zEw a O xs (SqL.of i) ∅ (nEEA _ _ ⟨O,O⟩ (q (.inl _) H (Same.refl _) ?_));let e1:=rW m (show(xs...*:Int)+1≠0 by lia);show 0<=_/\_<=(59:Int);split<;>lia
 |dic ks us=>
  ext zX e a r d i hk L;subst d;refine nEA ("dict") (gU i) ?_;rw[mH ∎];refine nEA ("dict") (gU i) ?_;rw[mJ ∎];refine kW a O r i ?_;split
  ·rename_i hp
   split
   ·refine qW a O r (.inl i) (ks.map tx) (nAA (by rw[hk,sC];rfl) (by rw[mM];exact hf.2.1) (λl ss hl o aa=>?_))
    let n:=congrArg List.length hk;rw[mM,mM] at n;let p:=o.length_eq;rw[mM] at p;refine zEw a O r (zF hl _ _ _ i) hp (zAs zC (rW _ ∅) (by rw[mM,p,<-n];exact rP _ hp) λx I=>?_);refine oEA (nZ.mp I) λz hz d=>?_;subst d;let M:=o.mem_iff.mp hz;refine oEA (nZ.mp M) λk u d=>?_;subst d;exact q (.inr (tx k)) _ (zF hl _) (by show xA (ts (tx k))=true;rw[vJ];exact D.1 k u)
   ·exact j
  ·exact j
 |non=>exact{_,e.ty,by rw[mH (by simp[tyT,zT])];exact{_,e.ty,by rw[mH (by simp[tyT,zT])];exact j}}|bl b=>exact{_,e.ty,by rw[mH (by simp[tyT,zT])];exact{_,e.ty,by rw[mH (by simp[tyT,zT])];exact j}}|int b=>exact{_,e.ty,by rw[mH (by simp[tyT,zT])];exact{_,e.ty,by rw[mH (by simp[tyT,zT])];exact j}}|str b=>exact{_,e.ty,by rw[mH (by simp[tyT,zT])];exact{_,e.ty,by rw[mH (by simp[tyT,zT])];exact j}}|tup us=>exact hf.elim
abbrev sWk:V6:=top 65
def spWk(K:A6):Sp:=λe H Q _=>∃(a:V1)(d:List Int)(k:Int)(v:V)(t:T),e= [.ref a, .int k,v]/\SqL K H a (d.map V.int)/\d...*<=63/\0<=k/\k<100000/\Rep H v t/\T.few t/\T.gk t/\∀(l p:V1)(c:B8)(x:V)(s:T)(b:Hp),Same H b->b l=Y (.lst [.ref p,x])->b p=Y (.lst (c.map kV))->c...*<=7->(∀k∈c,okS k)->Rep H x s->T.few s->T.gk s->Q (.ref l) b
theorem ok_wk(F:Fun K "_law_walk" "_law_walk" sWk f fd)(B:Bl2 mg)(e:Dn P w K mg base 1 "_law_cell" ["_law_script","_law_k"] (gL K)):FnOk P w K mg base CX0 2 f fd ["_law_script","_law_k","_law_thing"] (spWk K):=by
 refine F.okn (N:=["_law_script","_law_k","_law_thing","_law_path","_law_j","_law_more","_law_step"]) λa2 A ax s H vs Q E nd hr h=>?_;ext zY h a ns k v t n;ext zQ n ay ha ao a1 a4 n;ext xI n hv hf av q;subst ay;let hu:=vO hr;refine{_,(zD (pS 3 nd (yJ zB))
  (zD (qI PassesOwn.never O (wZ O B.range (zA zE zB)) (yH (i:=4) nd O (nR O)) (zD (pS 5 nd (pD e hr (zA (pv 0) (zA (zH xH (pv 1) (pv 4)) zB))))
  (zD (zU (i9 (gR (pT xC (zH yE (pv 5) zE) zE) (gR (vE (yI (zN (uR (T:="list") (U:="dict") ∎ ∎) O B.isinstance zJ (zA (pv 2) (zA (vW (zA (wY (v:=.ty "list") O B.list xZ O) (zA (wY (v:=.ty "dict") O B.dict xV O) zB))) zB))))) (gZ (pT xC (zN zCx O B.len yR (zA (pv 2) zB)) zE))))) (zG (zI (yJ (zA (pv 3) (zA (pv 2) zB))))) zL)
  (zD (pS 6 nd (zN (zCd O) O B.min zMh (zA zE (zA (zH yE (zH yF (pv 5) zE) (zN zCx O B.len yR (zA (pv 2) zB))) zB))))
  (zD (zU (yI (pI B.isinstance zJ B.dict xV (pv 2))) (zG (pS 6 nd (pX zS (zN (qP O) O B.sorted uM (zA (pv 2) zB)) (pv 6)))) zL)
  (zD (wD (qZ nV pU rO qF (pv 3) (zA (pv 6) zB)))
  (zG (pS 2 nd (zCl (pX zS (pv 2) (pv 6)) (vV hu (pv 2) (pv 6) (λ_ _=>O)))))))))))
  (zG (zI (yJ (zA (pv 3) (zA (pv 2) zB))))))), ?_}
 walk_at "st";lk;intro p hp;let s1:=zF hp (.lst []);refine gT (λi σ H'=>∃(y:V)(s:T)(D:B8)(o1 o2 o3:Option V),σ= [Y (V.ref a),Y (V.int k),Y y,Y (V.ref p),o1,o2,o3]/\Same H H'/\Rep H y s/\T.few s/\T.gk s/\H' p=Y (.lst (D.map kV))/\D...*=i/\(∀k∈D,okS k)) {_,t,[],_,_,_,O,s1,hv,hf,av,zC,O,λ_ h=>nomatch h} ?_ ?_
 ·intro i σ H2 hi n
  ext zY n y s D o1 o2 n;ext wS n o3 ak g2 hy d n;ext xI n u ab hl I;subst ak;lk;obtain⟨c,hc,a7,az⟩:∃c:Int,xM ns (k+(0+(i:Int)))=c/\0<=c/\c<1000003:={_,O,wR _ _,wV _ _};refine{a,ns,_,O,g2.seq ha,ao,∅,∅,λH3 g3=>{c,by rw[hc], ?_}};rw[hc];let g4:=g2.trans g3;let ret:∀{H':Hp},Same H3 H'->∀l,H' l=none->Q (V.ref l) (upd H' l (.lst [V.ref p,y])):=λ{H'} g l ai=>by
   let s3:=zF ai (.lst [V.ref p,y]);exact q l p D y s _ (g4.trans (g.trans s3)) zC (s3 _ _ (g _ _ (g3 _ _ ab))) ∅ I hy d u
  by_cases h5:c % 5=0
  ·exact iP h5 (ret (Same.refl _))
  refine iN h5 λp1 aa=>?_;let s5:=zF aa (.tup [V.ty "list",V.ty "dict"]);refine kE y _ p1 ⟨O,O⟩ zC (nA ((Rep.same (g4.trans s5) _ _ hy).ty) ?_);let ac:=s5 _ _ (g3 _ _ ab);let o:=ret s5;let L:=g4.trans s5;generalize upd H3 p1 (.tup [V.ty "list",V.ty "dict"])=H5 at s5 o ac L⊢;let an:H p=none:=hp
  cases s with
  |lst us=>
   refine iN (by simp only[tyT];decide+kernel) ?_;let ag:=hy;ext yM hy b r m hb hx;subst m;let a5:=hx...*;refine kW b O r...* (.inl {r,SqL.of (L _ _ hb),O}) ?_
   by_cases h0:(r...*:Int)=0
   ·exact iP h0 o
   refine iN h0 {c,O,b,O,r...*, .inl {r,SqL.of (L _ _ hb),O},∅,_,_,⟨O,O⟩,_,(Rep.same L _ _ ag).ty,iN (by simp only[tyT];decide+kernel) ?_};let e1:=rW (c / 5) h0;let e2:=rP (c / 5) (show(0:Int)<r...* by lia);obtain⟨j,hj,M,a3⟩:∃j:Nat,(if c / 5 % (r...*:Int)<59 then c / 5 % (r...*:Int) else 59)=(j:Int)/\j<r...*/\j<=59:={(if c / 5 % (r...*:Int)<59 then c / 5 % (r...*:Int) else 59).toNat,by split<;>lia,by split<;>lia,by split<;>lia};rw[hj];refine oEA (hx.get (i:=j) (v:=r[j]) (by simp[M])) λt' am au=>?_;refine{.inl {O,_,SqL.of ac},p,_,_,O,O,ac,by rw[mM,mV];lia, .inl ?_};let g6:Same H (upd H5 p (.lst (D.map kV++ [V.int (j:Int)]))):=wF L an;lk;refine yG (SqL.of (g6 _ _ hb)) (yC (j:=j) (v:=r[j]) (by simp[M])) {r[j],⟨O,_,O⟩,g6,t',au,b9 d.2 (mO am),c7 u (mO am),D++ [.inl (j:Int)], ?_,by rw[mK,nM,hl], ?_}
   ·rw[zC];exact congrArg (λz=>Y (HO.lst z)) (zYa D (.inl (j:Int)))
   ·intro k' ah
    rcases nE.mp ah with z | z
    ·exact I _ z
    ·rw[mF.mp z];exact{∅,∅}
  |dic hs us=>
   refine iN (by simp only[tyT];decide+kernel) ?_;let ag:=hy;ext zX hy b J m hb af hx;subst m;let a6:J...*=hs...*:=by let:=congrArg List.length af;simpa using this
   refine kW b O J...* (.inr {J,L _ _ hb,O}) ?_
   by_cases h0:(J...*:Int)=0
   ·exact iP h0 o
   refine iN h0 {c,O,b,O,J...*, .inr {J,L _ _ hb,O},∅,_,_,⟨O,O⟩,_,(Rep.same L _ _ ag).ty,iP (by simp only[tyT];decide+kernel) ?_};let e1:=rW (c / 5) h0;let e2:=rP (c / 5) (show(0:Int)<J...* by lia);obtain⟨j,hj,M⟩:∃j:Int,(if c / 5 % (J...*:Int)<59 then c / 5 % (J...*:Int) else 59)=j/\0<=j/\j<J...*:={_,O,by split<;>lia,by split<;>lia};rw[hj];refine qW b O J (.inl (L _ _ hb)) (hs.map tx) (nAA (by rw[af,sC];rfl) (by rw[mM];exact d.2.1) (λl ss aq aa a0=>?_));let s6:=zF aq (.lst (ss.map V.str));let al:=aa.length_eq;rw[mM] at al;refine zAs zC M.1 (by rw[mM,al];lia) λx ap=>?_;refine oEA (nZ.mp ap) λz hz m=>?_;subst m;refine oEA (nZ.mp (aa.mem_iff.mp hz)) λkk ae m=>?_;subst m;let aj:=s6 _ _ ac;let g6:=L.trans s6;generalize upd H5 l (.lst (ss.map V.str))=H6 at aj g6⊢;refine{.inl {O,_,SqL.of aj},p,_,_,O,O,aj,by rw[mM,mV];lia, .inr ?_};let g7:Same H (upd H6 p (.lst (D.map kV++ [V.str (tx kk)]))):=wF g6 an;refine oEA (zZd d.1 af hx hb ae) λy' aw ar=>?_;unfold zGy;lk;refine zEw y' (aw _ g7) y' ⟨O,_,O⟩ g7 (yAz _ ar (b9 d.2.2.2 (yY ae d.2.2.1)) (c7 u.2 (yY ae d.2.2.1)) (D++ [nK kk]) (nAA ?_ (by rw[mK,nM,hl]) ?_))
   ·rw[zC];exact congrArg (λz=>Y (HO.lst z)) (zYa D (nK kk))
   ·intro k' ah
    rcases nE.mp ah with z | z
    ·exact I _ z
    ·rw[mF.mp z];show xA (ts (tx kk))=true;rw[vJ];exact u.1 kk ae
  |tup us=>exact d.elim|_=>exact iP (by simp only[tyT];decide+kernel) o
 ·intro σ H2 n
  ext zY n y s D o1 o2 n;ext wS n o3 ak g2 hy d n;ext xI n u ab hl I;subst ak;lk;intro l ai;let s3:=zF ai (.lst [V.ref p,y]);exact q l p D y s _ (g2.trans s3) zC (s3 _ _ ab) ∅ I hy d u
end
abbrev sDe:V6:=top 67
mutual
theorem Nice.fewm{d:Nat}:∀(t:T),Nice d t->T.fewm 30 t
 |.lst a,h=>{by let:=h.2.1;lia,NiceL.fewm a h.2.2}|.dic ks a,h=>{h.2.2.2.1,by let:=h.2.1;let:=h.2.2.1;lia,h.2.2.1,NiceL.fewm a h.2.2.2.2.2}|.tup _,h=>h.elim|.non,_=>mS|.bl _,_=>mS|.int _,_=>mS|.str _,_=>mS
theorem NiceL.fewm{d:Nat}:∀(us:B0),NiceL d us->d6 30 us
 |[],_=>mS|t::us,h=>{Nice.fewm t h.1,NiceL.fewm us h.2}
end
theorem yCi{H:Hp}(k:Key):Rep H (kV k) (kT k):=by
 cases k with|inl i=>exact O|inr s=>show V.str s=V.str (tx (ts s));rw[qC]
theorem zPk{H:Hp}:∀ks:List Key,Reps H (ks.map kV) (ks.map kT)
 |[]=>rfl|k::ks=>{kV k,_,O,yCi k,zPk ks}
theorem zOh:∀ks:List Key,d6 30 (ks.map kT)/\T.deps (ks.map kT)=0/\T.szs (ks.map kT)=ks...*
 |[]=>⟨mS,O,O⟩|k::ks=>by
  obtain⟨c,a,b⟩:=zOh ks;let e:T.fewm 30 (kT k)/\T.dep (kT k)=0/\T.sz (kT k)=1:=by cases k<;>exact⟨mS,O,O⟩
  refine nAA ⟨e.1,c⟩ ?_ ?_
  ·show max (T.dep (kT k)) (T.deps (ks.map kT))=0
   rw[e.2.1,a];rfl
  ·show T.sz (kT k)+T.szs (ks.map kT)=ks...*+1
   rw[e.2.2,b];lia
structure DrI(ks:B8)(u:T):Prop where
 l:ks...*<=8
 s:∀k∈ks,okS k
 f:T.fewm 30 u
 g:T.gk u
 d:T.dep u<=2
 z:T.sz u<=30
theorem DrI.od{w:Wd}{ks:B8}{u:T}(h:DrI ks u):Od (w,ks,u):=
 {h.s,h.l,b8 ∎ _ h.f,h.g,by let:=h.l;let:=h.d;show ks...*+T.dep u<=15;lia,by let:=h.z;show T.sz u<=200;lia}
theorem Dlay.dr{H:Hp}{v:V}{d:Dd}(h:Dlay H v d)(o:Od d):∃p u,v= .ref p/\yAk H p d.1 d.2.1 u/\zZs d.2.1 u/\∀t,doT d.1 u d.2.1 t=doT d.1 d.2.2 d.2.1 t:=by
 ext zZ h f a r e i s;ext oA s c j;subst e;let y:=o.l;let l:=o.dd;let b:∀k∈d.2.1,okK k:=λk b=>(o.s k b).k;rcases j with⟨g,rfl⟩|⟨g,x,rfl,n⟩
 ·obtain⟨q,w,z⟩:=zOh d.2.1
  refine zDt f (.lst (d.2.1.map kT)) O {a,[],V.ref a,i,c,O,by decide,{a,_,O,c,zPk _}} {∅,b,c6 (m:=30) ∎ _ {by rw[mM];lia,q}, ?_} (λt=>?_)
  ·show T.deps (d.2.1.map kT)+1<20
   lia
  ·rw[g];exact zHe _ _
 ·exact zDt f d.2.2 O {a,[x],x,i,c,O,mD _,n} {∅,b,c6 ∎ _ o.f,∅} (λ_=>O)
section
variable{P:V3}{w:V4}{K:A6}{mg:C8}{base:V5}{f:V1}{fd:V7}
def spDe(K:A6):Sp:=λh H Q _=>∃(a:V1)(e:List Int)(k:Int)(v:V)(t:T),h= [.ref a, .int k,v]/\SqL K H a (e.map V.int)/\e...*<=63/\0<=k/\k<10000/\Rep H v t/\T.few t/\T.gk t/\∀(d:V1)(g:Wd)(c:B8)(u:T)(b:Hp),Same H b->Dlay b (.ref d) (g,c,u)->DrI c u->Q (.ref d) b
theorem ok_de{kk:Nat}(F:Fun K "_law_deed" "_law_deed" sDe f fd)(B:Bl2 mg)(y:Dn P w K mg base kk "_law_cell" ["_law_script","_law_k"] (gL K))(aa:Dn P w K mg base kk "_law_walk" ["_law_script","_law_k","_law_thing"] (spWk K))(L:Dn P w K mg base kk "_law_step_at" ["_law_there","_law_more"] yDg)(D:Dn P w K mg base kk "_law_thing_by" ["_law_script","_law_k","_law_deep"] (zAi K 3)):FnOk P w K mg base CX0 (kk+1) f fd ["_law_script","_law_k","_law_thing"] (spDe K):=by
 refine F.okn (N:=["_law_script","_law_k","_law_thing","_law_pair","_law_path","_law_there","_law_more","_law_word"]) λbf A a3 s H vs Q E nd hr h=>?_;ext zY h a ns k v t z_;ext zQ z_ bb ha af a8 be z_;ext xI z_ hv hf a9 q;subst bb;let hu:=vO hr;let a':=hr.units0;refine{_,(zD (pS 3 nd (pD aa hr (zA (pv 0) (zA (pv 1) (zA (pv 2) zB)))))
  (zD (pS 4 nd (pX zS (pv 3) zE))
  (zD (pS 5 nd (pX zS (pv 3) zE))
  (zD (pS 6 nd (pD y hr (zA (pv 0) (zA (zH xH (pv 1) zE) zB))))
  (zD (pS 7 nd (pX zS (yJ (zA zO (zA zO (zA zO (zA zO zB))))) (zH yE (pv 6) zE)))
  (zD (zAq (zU (i9 (gR (yI (zN (uR (T:="list") (U:="dict") ∎ ∎) O B.isinstance zJ (zA (pv 5) (zA (vW (zA (wY (v:=.ty "list") O B.list xZ O) (zA (wY (v:=.ty "dict") O B.dict xV O) zB))) zB)))) (gR (pT (zNo a') (pv 4) (yJ zB)) (gZ (pT xC (zH yE (zH yF (pv 6) zE) zE) zE))))) (zG (pS 4 nd (zH zAf (pv 4) (yJ (zA (pD L hr (zA (pv 5) (zA (pD y hr (zA (pv 0) (zA (zH xH (pv 1) zE) zB))) zB))) zB))))) zL))
  (zD (zAq (zU (i9 (qH (pT xC (pv 7) zO) (qH (yI (pI B.isinstance zJ B.str vY (pX zS (pv 4) (xY xJ zE)))) (jG (pT uG (zH yE (zH yF (pv 6) zE) zE) zE))))) (zG (pS 7 nd zO)) zL))
  (zD (zAq (zU (pT xC (zH yE (zH yF (pv 6) zE) zE) zE) (zG (pS 4 nd (zH zAf (qB jW (pv 4) jF (jH (xY xJ zE))) (yJ (zA (pX zS (yJ (zA zO (zA zE (zA zO (zA zE zB))))) (zH yE (zH yF (pv 6) zE) zE)) zB))))) zL))
  (zD (zAq (zU (pT xC (zH yE (zH yF (pv 6) zE) zE) zE) (zG (pS 4 nd (yJ zB))) zL))
  (zD (zU (pT xC (pv 7) zO) (zG (zI (vW (zA (pv 7) (zA (pv 4) zB))))) zL)
  (zG (zI (vW (zA (pv 7) (zA (pv 4) (zA (pD D hr (zA (pv 0) (zA (zH xH (pv 1) zE) (zA (zH yE (zH yF (pv 6) zE) zE) zB)))) zB)))))))))))))))), ?_}
 walk_at "st";refine cut6 λR hR=>?_;lk;unfold zJg;lk;refine{a,ns,k,v,t,O,ha,af,a8,∅,hv,hf,a9,λl p0 e x s H1 g1 aq an g ah hx az a5=>?_};refine yG (SqL.of aq) (yC (j:=0) O) (yG (SqL.of aq) (yC (j:=1) O) ?_);obtain⟨c,hc,bg,bd⟩:∃c:Int,xM ns (k+8)=c/\0<=c/\c<1000003:={_,O,wR _ _,wV _ _};refine{a,ns,_,O,g1.seq ha,af,∅,∅,λH2 g2 pw a0=>{c,by rw[hc], ?_}};rw[hc];refine zAs zC ∅ (by show _<((4:Nat):Int);lia) λwv ac=>?_;obtain⟨I,rfl⟩:∃I:Wd,wv=V.str I.s:=by
  simp only[mG,pG,sT] at ac;rcases ac with rfl | rfl | rfl | rfl
  ·exact{.put,O}
  ·exact{.put,O}
  ·exact{.ins,O}
  ·exact{.tak,O}
 let g3:=g2.trans (zF a0 (.lst [V.str (A5 "put"),V.str (A5 "put"),V.str (A5 "insert"),V.str (A5 "take")]));generalize upd H2 pw (.lst [V.str (A5 "put"),V.str (A5 "put"),V.str (A5 "insert"),V.str (A5 "take")])=H3 at g3⊢;let ar:=g1.trans g3;refine{λσ' H'=>∃(m:V1)(b:B8)(I:Wd),σ'= [Y (V.ref a),Y (V.int k),Y v,Y (V.ref l),Y (V.ref m),Y x,Y (V.int c),Y (V.str I.s)]/\Same H H'/\H' m=Y (.lst (b.map kV))/\b...*<=8/\(∀k∈b,okS k)/\b≠ [], ?_, ?_}
 ·intro p hp
  let s4:=zF hp (.tup [V.ty "list",V.ty "dict"]);refine kE x _ p ⟨O,O⟩ zC (nA ((Rep.same (ar.trans s4) _ _ hx).ty) ?_);generalize upd H3 p (.tup [V.ty "list",V.ty "dict"])=H4 at s4⊢;let ag:=ar.trans s4;let ext:∀H5,Same H4 H5->gL K [V.ref a,V.int (k+9)] H5 (λa2 H1=>yDg [x,a2] H1 (λba H1=>∀(p:V1),H1 p=none->zXm (V.ref p0) (V.ref p) (upd H1 p (HO.lst [ba])) λay H1=>∃(m:V1)(b:B8)(ae:Wd),[Y (V.ref a),Y (V.int k),Y v,Y (V.ref l),Y ay,Y x,Y (V.int c),Y (V.str I.s)]= [Y (V.ref a),Y (V.int k),Y v,Y (V.ref l),Y (V.ref m),Y x,Y (V.int c),Y (V.str ae.s)]/\Same H H1/\H1 m=Y (.lst (b.map kV))/\b...*<=8/\(∀k∈b,okS k)/\b≠ []) E0) E0:=λH5 g5=>by
   let r:=ag.trans g5;let c0:=wR ns (k+9);let c1:=wV ns (k+9);refine{a,ns,_,O,r.seq ha,af,∅,∅,λH6 g6=>{x,s,_,O,Rep.same (r.trans g6) _ _ hx,az,a5,c0,∅,λkk H7 g7 ai p7 al=>?_}};let av:=(g3.trans (s4.trans (g5.trans (g6.trans g7))));let s8:=zF al (.lst [kV kk]);refine{p0,p7,_,_,O,O,s8 _ _ (av _ _ an),zC,by rw[mM,nM,mV];lia,λm n=>?_};let s9:=zF n (.lst (e.map kV++ [kV kk]));refine kE m (e++ [kk]) I O (g1.trans (av.trans (s8.trans s9))) (zYx ?_ (by rw[mK,nM];lia) (λk' aj=>?_) (by simp))
   ·rw[zC];exact congrArg (λz=>Y (HO.lst z)) (zYa e kk)
   ·rcases nE.mp aj with z | z
    ·exact ah _ z
    ·rw[mF.mp z];exact ai
  by_cases hh:(zT (tyT s) "list" || zT (tyT s) "dict")=true
  ·exact iP hh (ext _ (Same.refl _))
  refine iN hh λp2 a7=>?_;let s5:=zF a7 (.lst []);refine{p0,p2,_,O,O,SqL.of ((g3.trans (s4.trans s5)) _ _ an),SqL.of zC,_,O, ?_}
  by_cases h0:e= []
  ·exact iP (by rw[h0];rfl) (ext _ s5)
  refine iN (by cases e with | nil=>exact absurd O h0 | cons _ _=>simp) {c,O, ?_}
  by_cases h9:c / 4 % 9=1
  ·exact iP h9 (ext _ s5)
  ·exact iN h9 {p0,e,I,O,ag.trans s5,(g3.trans (s4.trans s5)) _ _ an,∅,ah,h0}
 ·intro σ4 H4 z_
  ext zZ z_ m b I ak ag z_;ext xI z_ n g J ab;subst ak;subst hR;refine zFk λR hR=>?_;lk;unfold zJg;lk;refine{λσ' H'=>∃(m:V1)(b:B8)(I:Wd),σ'= [Y (V.ref a),Y (V.int k),Y v,Y (V.ref l),Y (V.ref m),Y x,Y (V.int c),Y (V.str I.s)]/\Same H H'/\H' m=Y (.lst (b.map kV))/\b...*<=8/\(∀k∈b,okS k)/\b≠ [], ?_, ?_}
  ·let M:∀(ae:Wd),∃(ap:V1)(b:B8)(ax:Wd),[Y (V.ref a),Y (V.int k),Y v,Y (V.ref l),Y (V.ref m),Y x,Y (V.int c),Y (V.str ae.s)]= [Y (V.ref a),Y (V.int k),Y v,Y (V.ref l),Y (V.ref ap),Y x,Y (V.int c),Y (V.str ax.s)]/\Same H H4/\H4 ap=Y (.lst (b.map kV))/\b...*<=8/\(∀k∈b,okS k)/\b≠ []:=λae=>⟨m,b,ae,O,ag,n,g,J,ab⟩
   by_cases hi:I.s=A5 "insert"
   ·refine iP hi ?_
    obtain⟨e,kl,rfl⟩:∃e kl,b=e++ [kl]:={b.dropLast,b.getLast ab,(tT ab).symm};refine yG (SqL.of n) (v:=kV kl) (by rw[nH];exact xR _ _) ?_
    cases kl with
    |inl i=>exact{"int",O,iN ∎ (M I)}|inr z=>
     refine nEA ("str") O (iP ∎ ?_)
     by_cases h5:0<c / 36 % 5
     ·exact iP h5 (M .put)
     ·exact iN h5 (M I)
   ·exact iN hi (M I)
  ·intro σ5 H5 z_
   ext zZ z_ m b I ak r z_;ext xI z_ n g J ab;subst ak;subst hR;refine zFk λR hR=>?_;lk;unfold zJg;lk;refine{λσ' H'=>∃(m:V1)(b:B8),σ'= [Y (V.ref a),Y (V.int k),Y v,Y (V.ref l),Y (V.ref m),Y x,Y (V.int c),Y (V.str I.s)]/\Same H H'/\H' m=Y (.lst (b.map kV))/\b...*<=8/\(∀k∈b,okS k), ?_, ?_}
   ·by_cases ao:c / 180 % 17=1
    ·refine iP ao {m,_,O,SqL.of n,λpc a6=>?_}
     obtain⟨e,kl,rfl⟩:∃e kl,b=e++ [kl]:={b.dropLast,b.getLast ab,(tT ab).symm};let ek:List.take (((e++ [kl]).map kV)...* - 1) ((e++ [kl]).map kV)=e.map kV:=by
      rw[nH,mK,mM];exact bO (by simp)
     rw[zLf,ek];let s6:=zF a6 (.lst (e.map kV));let e6:=zC (H:=H5) (a:=pc) (o:=.lst (e.map kV));generalize upd H5 pc (.lst (e.map kV))=H6 at s6 e6⊢;intro p7 al;let s7:=zF al (.lst [V.str (A5 "a"),V.int 59,V.str (A5 "zz9"),V.int 0]);refine zAs zC ∅ (by show _<((4:Nat):Int);lia) λwv ac p8 aw=>?_;obtain⟨kk,rfl,ai⟩:∃kk,wv=kV kk/\okS kk:=by
      simp only[mG,pG,sT] at ac;rcases ac with rfl | rfl | rfl | rfl
      ·exact nEA (.inr _) O (by show xA (ts (A5 "a"))=true;decide+kernel)
      ·exact nEA (.inl 59) O (by show(0:Int)<=59/\(59:Int)<=59;decide)
      ·exact nEA (.inr _) O (by show xA (ts (A5 "zz9"))=true;decide+kernel)
      ·exact nEA (.inl 0) O (by show(0:Int)<=0/\(0:Int)<=59;decide)
     generalize upd H6 p7 (.lst [V.str (A5 "a"),V.int 59,V.str (A5 "zz9"),V.int 0])=H7 at s7 aw⊢;let s8:=zF aw (.lst [kV kk]);rw[mK,nM] at g;refine{pc,p8,_,_,O,O,s8 _ _ (s7 _ _ e6),zC,by rw[mM,nM,mV];lia,λpe a1=>?_};let s9:=zF a1 (.lst (e.map kV++ [kV kk]));refine zDt pe (e++ [kk]) O (r.trans (s6.trans (s7.trans (s8.trans s9)))) ?_ (nA (by rw[mK,nM];lia) (λk' aj=>?_))
     ·rw[zC];exact congrArg (λz=>Y (HO.lst z)) (zYa e kk)
     ·rcases nE.mp aj with z | z
      ·exact J _ (nW _ z)
      ·rw[mF.mp z];exact ai
    ·exact iN ao ⟨m,b,O,r,n,g,J⟩
   ·clear n g J ab r H5 b m
    intro σ5 H5 z_;ext zX z_ m b am r n z_;ext oA z_ g J;subst am;subst hR;refine zFk λR hR=>?_;lk;unfold zJg;lk;refine{λσ' H'=>∃(m:V1)(b:B8),σ'= [Y (V.ref a),Y (V.int k),Y v,Y (V.ref l),Y (V.ref m),Y x,Y (V.int c),Y (V.str I.s)]/\Same H H'/\H' m=Y (.lst (b.map kV))/\b...*<=8/\(∀k∈b,okS k), ?_, ?_}
    ·by_cases au:c / 180 % 29=2
     ·exact iP au λp hp=>{p,[],O,r.trans (zF hp _),zC,by decide,λ_ h=>nomatch h}
     ·exact iN au ⟨m,b,O,r,n,g,J⟩
    ·clear n g J r H5 b m
     intro σ5 H5 z_;ext zX z_ m b am r n z_;ext oA z_ g J;subst am;subst hR;lk
     by_cases ht:I.s=A5 "take"
     ·refine iP ht λd hd=>?_
      let s6:=zF hd (.tup [V.str I.s,V.ref m]);let hw:I= .tak:=by
       cases I with|tak=>rfl|put=>exact absurd ht ∎|ins=>exact absurd ht ∎
      exact q d I b .non _ (r.trans s6) {d,m,[],O,zC,s6 _ _ n, .inl ⟨hw,O⟩} {∅,J,mS,mS,nL _,by decide}
     ·obtain⟨dd,a4,bc⟩:∃dd:Nat,c / 7 % 3=(dd:Int)/\dd<=2:={(c / 7 % 3).toNat,∅,∅}
      rw[a4];let p5:(5:Int)^ dd<=25:=by
       rcases(show dd=0\/dd=1\/dd=2 by lia) with z | z | z<;>subst z<;>decide
      let p0:=pow5 dd;refine iN ht {dd,∅,a,ns,_,O,r.seq ha,af,∅, ?_,λx H6 u g6 hx hn d hd=>?_}
      ·let:=Int.mul_le_mul (show k+10+2<=10020 by lia) p5 ∅ ∎
       lia
      ·let s6:=g6.trans (zF hd (.tup [V.str I.s,V.ref m,x]))
       let z1:=Nice.sz u hn;let z2:=Nice.dep u hn;let p25:5 ^ dd<=25:=by
        rcases(show dd=0\/dd=1\/dd=2 by lia) with z | z | z<;>subst z<;>decide
       exact q d I b u _ (r.trans s6) {d,m,[x],O,zC,s6 _ _ n, .inr {λz=>ht (by let z':I= .tak:=z;rw[z'];rfl),x,O,Rep.same (zF hd _) _ _ hx}} {∅,J,Nice.fewm u hn,(zBc dd u ∅ hn).gk,∅,∅}
abbrev sDs:V6:=top 68
theorem Dlay.off{H k:Hp}{p:V1}{o:Obj}{w:HO}{v:V}{d:Dd}(i:k p=Y (.frz o w))(h:Dlay k v d):Dlay (xN (L2.thaw H k) p) v d:=by
 ext zZ h l n r g j m;ext oA m e q;subst g;refine{l,n,r,O, ?_, ?_,q.imp id fun⟨a,x,b,c⟩=>{a,x,b,Rep.off i c}}
 ·rw[xG λz=>by rw[z,i] at j;cases j]
  exact wX j λ_ _ z=>by cases z
 ·rw[xG λz=>by rw[z,i] at e;cases e]
  exact wX e λ_ _ z=>by cases z
theorem zRe{H a:Hp}{q:V1}:L2.thaw H (xN a q)=xN (L2.thaw H a) q:=by
 funext b
 by_cases z:b=q
 ·subst z;rw[kC,zGn kC]
 ·rw[xG z]
  unfold L2.thaw;rw[xG z]
theorem zBt{H:Hp}{p q:V1}:xN (xN H p) q=xN (xN H q) p:=by
 funext b
 unfold xN
 by_cases z:b=q<;>by_cases y:b=p<;>simp[z,y]
theorem m5{H a:Hp}{p q:V1}{o:Obj}{w:HO}{v:V}{d:Dd}(b:a p=Y (.frz o w))(c:p≠q)(h:Dlay (xN a q) v d):Dlay (xN (xN (L2.thaw H a) p) q) v d:=by
 let z:=Dlay.off (H:=H) (show xN a q p=Y (.frz o w) by rw[xG c];exact b) h;rw[zRe,zBt] at z;exact z
theorem Dlays.snoc{H:Hp}{xs:B3}{ds:C4}{v:V}{d:Dd}(h:Dlays H xs ds)(l:Dlay H v d):Dlays H (xs++ [v]) (ds++ [d]):=by
 obtain⟨j,h⟩:=h;refine{by rw[mK,mK,j];rfl,λi m k b a=>?_}
 by_cases c:i<xs...*
 ·rw[pB c] at b
  rw[pB ∅] at a;exact h i m k b a
 ·rw[nU ∅] at b
  rw[nU ∅,<-j] at a;let g:=(mN.mp b).1;rw[nM] at g;let e:i - xs...*=0:=by lia
  rw[e] at b a;cases b;cases a;exact l
theorem zCh{d:Dd}:∀(ds:C4)(i:Nat)(t u:T),xT i ds t= .inr u->xT i (ds++ [d]) t=match doT d.1 d.2.2 d.2.1 u with
  |none=>.inl (i+ds...*)|some r=>.inr r
 |[],i,t,u,h=>by
  let e:t=u:=Sum.inr.inj h;subst e;show(match doT d.1 d.2.2 d.2.1 t with | none=>Sum.inl i | some r=>xT (i+1) [] r)=_
  cases doT d.1 d.2.2 d.2.1 t<;>rfl
 |d0::ds,i,t,u,h=>by
  rw[cO]
  cases e:doT d0.1 d0.2.2 d0.2.1 t with
  |none=>rw[jZ e] at h;cases h|some r=>
   rw[jB e] at h⊢;rw[zCh ds (i+1) r u h,mP,show i+1+ds...*=i+(ds...*+1) by lia]
theorem zFz{d:Dd}{j:Nat}:∀(ds:C4)(i:Nat)(t:T),xT i ds t= .inl j->xT i (ds++ [d]) t= .inl j
 |[],i,t,h=>by cases h|d0::ds,i,t,h=>by
  rw[cO]
  cases e:doT d0.1 d0.2.2 d0.2.1 t with
  |none=>rw[jZ e] at h⊢;exact h|some r=>
   rw[jB e] at h⊢;exact zFz ds (i+1) r h
def TrR(ds:C4)(t:T)(o:V)(u:T):Prop:=(o= .non/\xT 0 ds t= .inr u)\/∃j:Nat,o= .int j/\xT 0 ds t= .inl j
theorem o7{ds:C4}{t u r:T}{d:Dd}(h:xT 0 ds t= .inr u)(a:doT d.1 d.2.2 d.2.1 u=Y r):TrR (ds++ [d]) t .non r:=.inl {O,by rw[zCh ds 0 t u h,a]}
theorem o8{ds:C4}{t u b:T}{d:Dd}(h:xT 0 ds t= .inr u)(a:doT d.1 d.2.2 d.2.1 u=none):TrR (ds++ [d]) t (.int (ds...*:Nat)) b:=.inr {ds...*,O,by rw[zCh ds 0 t u h,a,Nat.zero_add]}
theorem o6{ds:C4}{t a:T}{d:Dd}{j:Nat}(h:xT 0 ds t= .inl j):TrR (ds++ [d]) t (.int j) a:=.inr {j,O,zFz ds 0 t h}
def spDs(K:A6):Sp:=λp H Q _=>∃(a:V1)(h:List Int)(k:Int)(v:V)(n:Int)(t:T),p= [.ref a, .int k,v, .int n]/\SqL K H a (h.map V.int)/\h...*<=63/\0<=k/\k<9000/\0<=n/\n<=12/\Rep H v t/\T.fewm 30 t/\T.gk t/\T.dep t<=9/\T.sz t<=300/\∀(l j i:V1)(o:V)(g m:B3)(x:V)(e:C4)(c:T)(b:Hp),Same H b->b l=Y (.lst [.ref j, .ref i,o])->b j=Y (.lst g)->Dlays b g e->(∀d∈e,Od d/\T.dep d.2.2<=2)->e...*<=12->b i=Y (.lst (m++ [x]))->Rep b x c->TrR e t o c->T.fewm 42 c->T.gk c->T.dep c<=10->T.sz c<=700->Q (.ref l) b
theorem ok_ds{kk:Nat}(F:Fun K "_law_deeds" "_law_deeds" sDs f fd)(B:Bl2 mg)(M:Dn P w K mg base kk "_law_held" ["_law_thing"] (zIn 20))(J:Dn P w K mg base kk "_law_deed" ["_law_script","_law_k","_law_thing"] (spDe K))(I:Dn P w K mg base kk "_law_deed_on" ["_law_thing","_law_deed_here"] spDo):FnOk P w K mg base CX0 (kk+1) f fd ["_law_script","_law_k","_law_thing","_law_many"] (spDs K):=by
 refine F.okn (N:=["_law_script","_law_k","_law_thing","_law_many","_law_paper","_law_rows","_law_stopped","_law_j","_law_pair"]) λbr A bc s H vs Q E nd hr h=>?_;ext zY h a ns k v n z_;ext wS z_ t bk ha ba bq z_;ext zQ z_ bo bn bl hv hf z_;ext xI z_ bj hd hz q;subst bk;let hu:=vO hr;let bu:=hr.units0;refine{_,(zD (pS 4 nd (yJ zB))
  (zD (pS 5 nd (yJ (zA (pD M hr (zA (pv 2) zB)) zB)))
  (zD (pS 6 nd kZ)
  (zD (qI PassesOwn.never O (wZ O B.range (zA (pv 3) zB)) (yH (i:=7) nd O (nR O)) (zD (wD (qZ nV pU rO qF (pv 4) (zA (zDi (zDi (pD J hr (zA (pv 0) (zA (zH xH (pv 1) (zH qY zE (pv 7))) (zA (pX zS (pv 5) (xY xJ zE)) zB)))))) zB)))
  (zG (zU (zAh (zCn (pv 6))) (zD (pS 8 nd (pD I hr (zA (pX zS (pv 5) (xY xJ zE)) (zA (pX zS (pv 4) (xY xJ zE)) zB))))
  (zG (zU (yI (pX zS (pv 8) zE)) (zG (wD (qZ nV pU rO qF (pv 5) (zA (pX zS (pv 8) zE) zB)))) (zG (pS 6 nd (pv 7)))))) zL))))
  (zG (zI (yJ (zA (pv 4) (zA (pv 5) (zA (pv 6) zB)))))))))), ?_}
 walk_at "st";lk;intro c ay;let s1:=zF ay (.lst []);let e1:=zC (H:=H) (a:=c) (o:=.lst []);generalize upd H c (.lst [])=H1 at s1 e1⊢;refine{v,t,O,Rep.same s1 _ _ hv,c6 ∎ _ hf,∅,λx H2 D g2 sp hD p aj=>?_};let s3:=zF aj (.lst [x]);let e3:=zC (H:=H2) (a:=p) (o:=.lst [x]);let a1:Rep (xN (xN (upd H2 p (.lst [x])) c) p) x t:=by
  refine Sp1.rep _ _ _ (Sp1.keep _ _ _ (λb hb o _ e=>?_) (sp.same s3));rw[xG,xG]
  ·exact e
  ·intro z;subst z;rw[hD b hb] at e1;cases e1
  ·intro z;subst z
   obtain⟨o',a8⟩:=Sp1.there _ _ _ sp hb;rw[aj] at a8;cases a8
 let ao:p≠c:=λz=>by subst z;rw[g2 _ _ e1] at aj;cases aj
 let a6:=s1.trans (g2.trans s3);let au:=s3 _ _ (g2 _ _ e1);let ar:=yQ (s1.trans g2) aj;generalize upd H2 p (.lst [x])=H3 at s3 e3 a1 a6 au⊢;refine nAA ∅ ∅ ?_;let bv:n.toNat<=12:=by lia
 refine gT (λi σ H'=>∃(g rs:B3)(x:V)(t':T)(st:V)(o1 o2:Option V)(ds:C4),σ= [Y (V.ref a),Y (V.int k),Y v,Y (V.int n),Y (V.ref c),Y (V.ref p),Y st,o1,o2]/\TrR ds t st t'/\Same H H'/\H' c=Y (.lst g)/\H' p=Y (.lst (rs++ [x]))/\Rep (xN (xN H' c) p) x t'/\Dlays (xN (xN H' c) p) g ds/\(∀d∈ds,Od d/\T.dep d.2.2<=2)/\ds...*=i/\T.fewm (30+i) t'/\T.gk t'/\T.dep t'<=10/\T.sz t'<=300+30*i/\rs...*<=i) {[],[],x,t, .non,_,_,[],O, .inl ⟨O,O⟩,a6,au,e3,a1,{O,λi v d h=>by cases h},(λd h=>nomatch h),O,hf,bj,∅,∅,mD _} ?_ ?_
 ·rintro i σ H5 hi ⟨g,rs,y,u,st,o1,o2,ds,rfl,a0,g5,af,ap,hy,am,aw,ax,aa,ah,bh,bf,bi⟩
  let bm:g...*<=i:=by rw[am.1];lia
  lk;refine{.inl {O,_,SqL.of af}, ?_};unfold zHi zOg;refine{c, .inr {g,af,λo=>?_}};let a9:upd H5 c (.frz o (.lst g)) p=Y (.lst (rs++ [y])):=by rw[zK ao];exact ap
  refine{p, .inr {_,a9,λo'=>?_}};let a4:∀{w w':HO},Same (xN (xN H5 c) p) (upd (upd H5 c w) p w'):=λb u e=>by
   let n2:b≠p:=λz=>by subst z;rw[kC] at e;cases e
   rw[xG n2] at e;rw[zK n2];exact zFh _ _ e
  let gf:Same H (upd (upd H5 c (.frz o (.lst g))) p (.frz o' (.lst (rs++ [y])))):=wF (wF g5 ay) ar;lk;refine yG (.inl (.inr ⟨o',zC⟩)) (xR _ _) {a,ns,_,y,u,O,gf.seq ha,ba,∅,∅,Rep.same a4 _ _ hy,c6 ∅ _ aa,ah,λd wd ks z Hc gc bd hI=>?_};let gi:Same (upd H5 c (.frz o (.lst g))) (L2.thaw (upd H5 c (.frz o (.lst g))) Hc):=zAk a9 gc;let a':Dlay (xN (L2.thaw (upd H5 c (.frz o (.lst g))) Hc) p) (.ref d) (wd,ks,z):=Dlay.off (gc _ _ zC) bd;let a3:=gi _ _ (zC (H:=H5) (a:=c) (o:=.frz o (.lst g)));dsimp only;generalize L2.thaw (upd H5 c (.frz o (.lst g))) Hc=Hi at gi a' a3⊢;let gt:=zAk af gi;let al:Dlay (xN (xN (L2.thaw H5 Hi) c) p) (.ref d) (wd,ks,z):=m5 a3 ao.symm a';let a5:Dlay (xN (L2.thaw H5 Hi) c) (.ref d) (wd,ks,z):=al.same hide_self;generalize L2.thaw H5 Hi=H6 at gt a5 al⊢;refine{c,g,_,O,O,gt _ _ af,by rw[mV];lia, ?_};let an:Rep (xN (xN (upd H6 c (.lst (g++ [V.ref d]))) c) p) y u:=by
   rw[qV];exact Rep.same (yV (yV gt)) _ _ hy
  let a7:Od (wd,ks,z):=hI.od;let a2:Dlay (upd H6 c (.lst (g++ [V.ref d]))) (.ref d) (wd,ks,z):=a5.same zFh;let ae:Dlays (xN (xN (upd H6 c (.lst (g++ [V.ref d]))) c) p) (g++ [V.ref d]) (ds++ [(wd,ks,z)]):=by
   rw[qV];exact(am.same (yV (yV gt))).snoc al
  let g7:Same H (upd H6 c (.lst (g++ [V.ref d]))):=wF (g5.trans gt) ay;let ab:upd H6 c (.lst (g++ [V.ref d])) c=_:=zC;let L:upd H6 c (.lst (g++ [V.ref d])) p=Y (.lst (rs++ [y])):=by rw[zK ao];exact gt _ _ ap
  generalize upd H6 c (.lst (g++ [V.ref d]))=H7 at an a2 ae g7 ab L⊢;let ai:∀d'∈ds++ [(wd,ks,z)],Od d'/\T.dep d'.2.2<=2:=λd' h=>(nE.mp h).elim (aw d') λy=>by rw[mF.mp y];exact⟨a7,hI.d⟩
  let ak:(ds++ [((wd,ks,z):Dd)])...*=i+1:=by rw[mK,ax];rfl
  refine zX (a2.dr a7) λp' u' ep bb bg av=>?_;cases ep;dsimp only;let bt:=hI.l;let bs:=hI.d;let bp:=hI.z;rcases a0 with⟨rfl,ac⟩|⟨j,rfl,ac⟩
  ·refine iP O (yG (SqL.of L) (xR _ _) (yG (SqL.of ab) (xR _ _) ?_))
   refine{y,d,wd,ks,u,u',O,Rep.same (λb o e=>hide_self _ _ (hide_self _ _ e)) _ _ an,c6 ∅ _ aa,∅,∅,bb,bg,λr ag l x2 H8 g8 aq be=>?_,λag l x2 H8 g8 aq=>?_}
   ·let az:=g7.trans g8
    rw[av u] at ag;refine xI (zDj (m:=30+i) ∅ (b8 ∅ _ hI.f) hI.g ks u r ag aa ah hI.s ∅) λb1 b2 b3 b4=>?_;refine yG (SqL.of aq) (yC (j:=0) O) {true,O, ?_};refine iP O {.inl {O,_,SqL.of (g8 _ _ L)},yG (SqL.of aq) (yC (j:=1) O) {p,_,_,O,O,g8 _ _ L,by rw[mV,mK,nM];lia, ?_}};refine{g++ [V.ref d],rs++ [y],x2,r, .non,⟨O,_,O⟩,ds++ [(wd,ks,z)],o7 ac ag,wF az ar,by rw[zK ao.symm];exact g8 _ _ ab,zC,Rep.same (λb o e=>?_) _ _ be,by rw[zBt,qV,zBt];exact ae.same (yV (yV g8)),ai,ak,b1,b2,∅,∅,by rw[mK,nM];lia};let hb:=zKc e;let n1:b≠c:=λz=>by subst z;rw[hb] at ab;cases ab
    let n2:b≠p:=λz=>by subst z;rw[hb] at L;cases L
    rw[xG n2,xG n1,zK n2];rw[wL hb] at e;exact e
   ·let az:=g7.trans g8
    rw[av u] at ag;refine yG (SqL.of aq) (yC (j:=0) O) {false,O, ?_};refine iN ∎ ?_;exact{g++ [V.ref d],rs,y,u,_,⟨O,_,O⟩,ds++ [(wd,ks,z)],by rw[Int.zero_add,<-ax];exact o8 ac ag,az,g8 _ _ ab,g8 _ _ L,Rep.same (yV (yV g8)) _ _ an,ae.same (yV (yV g8)),ai,ak,b8 ∅ _ aa,ah,∅,∅,∅}
  ·refine iN (by intro z;cases z) ?_
   exact{g++ [V.ref d],rs,y,u,_,⟨O,_,O⟩,ds++ [(wd,ks,z)],o6 ac,g7,ab,L,an,ae,ai,ak,b8 ∅ _ aa,ah,∅,∅,∅}
 ·rintro σ H5 ⟨g,rs,y,u,st,o1,o2,ds,rfl,a0,g5,af,ap,hy,am,aw,ax,aa,ah,bh,bf,bi⟩
  lk;intro l hl;let s6:=zF hl (.lst [V.ref c,V.ref p,st]);let gg:Same (xN (xN H5 c) p) (upd H5 l (.lst [V.ref c,V.ref p,st])):=λb o e=>s6 _ _ (hide_self _ _ (hide_self _ _ e));exact q l c p st g rs y ds u _ (g5.trans s6) zC (s6 _ _ af) (am.same gg) aw ∅ (s6 _ _ ap) (Rep.same gg _ _ hy) a0 (b8 ∅ _ aa) ah ∅ ∅
abbrev sSt:V6:=top 32
abbrev sHas:V6:=top 31
def yBu:Sp:=λe H Q _=>∃(v:V)(t:T)(d:V1)(a:B8),e= [v, .ref d]/\Rep H v t/\T.pure t/\T.sz t<=100000/\H d=Y (.lst (a.map kV))/\(∀k∈a,okK k)/\a...*<=8/\∀p c b,Same H b->b p=Y (.lst c)->Reps b c (goT t a)->Q (.ref p) b
theorem ok_st(F:Fun K "stops_on" "stops_on" sSt f fd)(B:Bl mg)(l:Dn P w K mg base 1 "leads_on" ["thing","step"] zRn):FnOk P w K mg base CX0 2 f fd ["thing","path"] yBu:=by
 refine F.okn (N:=["thing","path","stops","step"]) λan A am s H vs Q E nd hr h=>?_;ext yK h v t pa n ak d;ext zQ d hv hp hz r ag d;ext oA d h8 q;subst ak;let hu:=vO hr;refine{_,(zD (pS 2 nd (yJ (zA (pv 0) zB)))
  (zD (qI PassesOwn.never O (wM (pv 1)) (yH (i:=3) nd O (nR O)) (zD (zU (vE (yI (pD l hr (zA (pX zS (pv 2) (xY xJ zE)) (zA (pv 3) zB))))) (zG (zI (pv 2))) zL)
  (zG (wD (qZ nV pU rO qF (pv 2) (zA (zCl (pX zS (pX zS (pv 2) (xY xJ zE)) (pv 3)) (vV hu (pX zS (pv 2) (xY xJ zE)) (pv 3) (λ_ _=>O))) zB))))))
  (zG (zI (pv 2))))), ?_}
 walk_at "st";lk;intro I y;let ap:pa≠I:=λz=>by rw[z,y] at r;cases r
 refine{{_,SqL.of (zF y _ _ _ r)},kM (K:=K) (a:=pa) (xs:=n.map kV) (λi σ' H'=>∃o us u L c,σ'= [Y v,Y (.ref pa),Y (.ref I),o]/\Same H H'/\H' I=Y (.lst (L++ [c]))/\Reps H L us/\Rep H c u/\us...*=i/\goT t n=us++goT u (n.drop i)/\T.pure u/\T.sz u<=100000)
  {none,[],t,[],v,O,zF y _,zC,O,hv,O,O,hp,hz} (λi σ' H' _ h=>by
   ext zY h o us u L c d;ext oAA d _ g _;exact SqL.of (g _ _ r)) ?_ ?_}
 ·intro i x σ' H' hx d
  ext zY d o us u L c d;ext zQ d ae g hS hR hc d;ext xI d hl M ac aa;subst ae;lk;let ao:=hR...*;rw[nG] at hx
  cases m:n[i]? with
  |none=>rw[m] at hx;cases hx|some k=>
   rw[m] at hx;let ex:kV k=x:=mW hx;subst ex;let aj:=(mN.mp m).1;let ai:n.drop i=k::n.drop (i+1):=by
    rw[pM aj,(mN.mp m).2]
   rw[ai] at M;refine yG (SqL.of hS) (xR _ _) {c,u,k,O,Rep.same g _ _ hc,ac,aa,ag _ (mO m),λH2 g2=>{_,O, ?_}};let p:=g2 _ _ hS;let gg:=g.trans g2
   cases hs:zP u k with
   |none=>
    refine iP O (q I _ _ gg p ?_);let e:goT u (k::n.drop (i+1))= [u]:=by show(match zP u k with | none=>[u] | some D=>u::goT D (n.drop (i+1)))=_;rw[hs]
    rw[M,e];exact Reps.snoc (Rep.same gg _ _ hc) (Reps.same gg _ _ hR)
   |some D=>
    let e:goT u (k::n.drop (i+1))=u::goT D (n.drop (i+1)):=by show(match zP u k with | none=>[u] | some D=>u::goT D (n.drop (i+1)))=_;rw[hs]
    rw[e] at M;refine iN (by simp) {nR {O,_,SqL.of p}, ?_};let J:∀c',Rep H c' D->T.pure D->T.sz D<=100000->zDo (V.ref I) [c'] H2 (λ_ H1=>Same H H1/\∃ab u1 af c1,H1 I=Y (.lst (af++ [c1]))/\Reps H af ab/\Rep H c1 u1/\ab...*=i+1/\goT t n=ab++goT u1 (n.drop (i+1))/\T.pure u1/\T.sz u1<=100000):=λc' h1 h2 h3=>
     {I,L++ [c],c',O,O,p,by rw[mV,mK];show L...*+1<_;lia,gg.put y _,us++ [u],D,L++ [c],c',zC,Reps.snoc hc hR,h1,by rw[mK,hl];rfl,by rw[M,sM];rfl,h2,h3}
    obtain⟨c',h1,h2,h3,⟨b,zs,j,rfl,hb,ej,al⟩|⟨b,qs,rfl,hb,ah⟩⟩:=zNn hc ac aa (ag _ (mO m)) hs
    ·refine .inl ?_
     lk;refine yG (SqL.of p) (xR _ _) ?_;rw[ej];exact yG (SqL.of (gg _ _ hb)) al (J _ h1 h2 h3)
    ·refine .inr ?_
     lk;exact yG (SqL.of p) (xR _ _) {b,O,c', .inl {qs,k, .inl (gg _ _ hb),O,ah.symm},J _ h1 h2 h3}
 ·intro σ' H' d
  ext zY d o us u L c d;ext zQ d ae g hS hR hc d;ext xI d hl M ac aa;subst ae;lk;rw[mM,sS] at M;refine q I _ _ g hS ?_;rw[M];exact Reps.snoc (Rep.same g _ _ hc) (Reps.same g _ _ hR)
def yAj:Sp:=λd H Q _=>∃(v:V)(t:T)(b:V1)(a:B8),d= [v, .ref b]/\Rep H v t/\T.pure t/\T.sz t<=100000/\H b=Y (.lst (a.map kV))/\(∀k∈a,okK k)/\a...*<=8/\∀c,Same H c->Q (.bl (decide (a...*<(goT t a)...*))) c
theorem yAu(F:Fun K "has" "has" sHas f fd)(B:Bl mg)(a:Dn P w K mg base 2 "stops_on" ["thing","path"] yBu):FnOk P w K mg base CX0 3 f fd ["thing","path"] yAj:=by
 refine F.okn (N:=["thing","path"]) λy A j s H M Q E J l h=>?_;ext yK h v t D c k i;ext zQ i u z r b d i;ext oA i x q;subst k;let I:=vO l;refine nEA _ (zG (zI (pE uG (zN yA O B.len yR (zA (pD a l (zA (pv 0) (zA (pv 1) zB))) zB)) (zN yA O B.len yR (zA (pv 1) zB))))) ?_;walk_at "st";lk;refine{v,t,D,c,O,u,z,r,b,d,x,λp m L n g o=>?_};refine qW p O m (SqL.of g) _ (nA (SqL.of (n _ _ b)) ?_);let e:decide (((c.map kV)...*:Int)<(m...*:Int))=decide (c...*<(goT t c)...*):=by
  rw[mM,o...*];exact bD.mpr ∅
 rw[e];exact q _ n
end
end K47
namespace K47
open PySem L2 PySem.W
seal L2.PSs L2.PS L2.PE L2.PT L2.PW L2.PA L2.PI L2.PG L2.PGs L2.PPs L2.PTs
theorem zUg{t u:T}{k:Key}(f:T.few t)(h:zP t k=Y u):T.few u/\T.dep u<=T.dep t/\T.sz u<=T.sz t:=by
 let c:∀a:List T,d9 a->u∈a->T.few u/\T.dep u<=T.deps a+1/\T.sz u<=T.szs a+1:=λa f d=>by
  let j:=b7 d;let l:=d4 d;exact nAA (b9 f d) ∅ ∅
 cases t with
 |lst a=>
  cases k with
  |inl i=>
   let e:a[i.toNat]? =Y u:=h;exact c a f.2 (mO e)
  |inr x=>cases h
 |dic g a=>
  cases k with
  |inl i=>cases h|inr x=>
   let e:(if ts x∈g then Y (zV (ts x) g a) else none)=Y u:=h
   by_cases d:ts x∈g
   ·rw[mJ d] at e
    rw[<-mW e] at c⊢;exact c a f.2.2.2 (yY d f.2.2.1)
   ·rw[mH d] at e;cases e
 |non=>cases h|bl b=>cases h|int b=>cases h|str b=>cases h|tup a=>cases h
theorem zHk:∀(ks:B8)(t u:T),T.few t->u∈goT t ks->T.few u/\T.dep u<=T.dep t/\T.sz u<=T.sz t
 |[],t,u,a,h=>by
  let e:u=t:=mF.mp h;rw[e];exact{a,mD _,mD _}
 |k::ks,t,u,a,h=>by
  let b:u∈(match zP t k with | none=>[t] | some u=>t::goT u ks):=h
  cases c:zP t k with
  |none=>
   rw[c] at b;let e:u=t:=mF.mp b;rw[e];exact{a,mD _,mD _}
  |some g=>
   rw[c] at b;rcases mG.mp b with z | z
   ·rw[z];exact{a,mD _,mD _}
   ·obtain⟨d,m,i⟩:=zUg a c
    obtain⟨f,j,l⟩:=zHk ks g u d z;exact nAA f ∅ ∅
abbrev sTa:V6:=top 30
section
variable{P:V3}{w:V4}{K:PySem.W.Frag}{mg:C8}{base:V5}{f:V1}{fd:V7}{C:V1}
structure Tp(H:Hp)(v:V)(t:T)(pa:V1)(ks:B8):Prop where
 v:Rep H v t
 few:T.few t
 dep:T.dep t<=16
 sz:T.sz t<=5000
 pa:H pa=Y (.lst (ks.map kV))
 ok:∀k∈ks,okK k
 l8:ks...*<=8
theorem Tp.pure{H:Hp}{v:V}{t:T}{a:V1}{ks:B8}(h:Tp H v t a ks):T.pure t:=kH 16 t h.dep h.few
def lds(t:T)(ks:B8):Prop:=ks...*<(goT t ks)...*
noncomputable instance (t:T) (ks:B8):Decidable (lds t ks):=inferInstanceAs (Decidable (_<_))
def spTa:Sp:=λg H Q _=>∃(v:V)(t:T)(d:V1)(a:B8),g= [v, .ref d]/\Tp H v t d a/\lds t a/\∀u e c D,(goT t a).getLast? =Y u->Same H c->Sp1 c e u D->(∀b∈D,H b=none)->Q e c
theorem ok_ta(F:Fun K "thing_at" "thing_at" sTa f fd)(B:Bl mg)(a:Dn P w K mg base 2 "stops_on" ["thing","path"] yBu)(c:Dn P w K mg base (1+20) "copied" ["thing"] (zQm 20)):FnOk P w K mg base CX0 22 f fd ["thing","path"] spTa:=by
 refine F.okn (N:=["thing","path","stops"]) λaa A l s H vs Q E nd y h=>?_;ext yK h v t pa g m L;ext oAA L d z q;subst m;let z:g...*<(goT t g)...*:=z;refine{_,(zD (pS 2 nd (pD a y (zA (pv 0) (zA (pv 1) zB))))
  (zD (zU (pT uB (zN yA O B.len yR (zA (pv 2) zB)) (zN yA O B.len yR (zA (pv 1) zB))) zCe zL)
  (zG (zI (pD c y (zA (pX zS (pv 2) (xY xJ zE)) zB)))))), ?_}
 walk_at "st";lk;let hz:=d.sz;refine{v,t,pa,g,O,d.v,d.pure,∅,d.pa,d.ok,d.l8,λp xs H1 k e o=>?_};let ab:=o...*;refine oEA (jL t g) λu r i=>?_;refine oAA (zHk g t u d.few i) λfu du zu=>?_;refine oEA (k9 o r) λx hx n=>?_;let hd:=d.dep;refine qW p O xs (SqL.of e) _ (nA (SqL.of (k _ _ d.pa)) (iN (by rw[mM];lia) (yG (SqL.of e) (zBg hx) {x,u,O,n,kH 16 u ∅ fu,∅,∅,λJ H2 D g2 j I=>q u J H2 D r (k.trans g2) j λb M=>yQ k (I b M)})))
end
end K47
namespace K47
open PySem L2
theorem zDx:∀(n:Nat)(t:T),T.few t->T.dep t<n->xL (zM t) (zM t)=0
 |0,_,_,h=>absurd h (sK _)|n+1,t,d,j=>by
  cases t with
  |non=>decide+kernel|bl b=>cases b<;>decide+kernel|int i=>show xL (.int i) (.int i)=0;rw[xL];unfold sgI;rw[mH ∅];rfl|str x=>show xL (.str x) (.str x)=0;rw[zHo,uX]|lst a=>
   let e:T.deps a+1<n+1:=j;refine(zIc a a).mpr {O,λi t p m g=>?_};rw[m] at g;cases g;let c:=mO m;let:=b7 c;exact zDx n t (b9 d.2 c) ∅
  |dic q a=>
   let e:T.deps a+1<n+1:=j;ext xI d o _ f d;refine(wK o).mpr {O,λk l=>{l, ?_}};let c:=yY l f;let:=b7 c;exact zDx n _ (b9 d c) ∅
  |tup a=>exact d.elim
def Eqc(t u:T):Prop:=xL (zM t) (zM u)=0
theorem Eqc.refl{t:T}(h:T.few t):Eqc t t:=zDx (T.dep t+1) t h (tV _)
noncomputable def atT:List Key->T->Option T
 |[],t=>Y t|k::a,t=>(zP t k).bind (atT a)
noncomputable def bkD(s:T)(d:Dd):Dd:=match atT d.2.1 s with
 |none=>(.tak,d.2.1, .non)|some g=>match d.1 with
  |.ins=>(.tak,d.2.1, .non)|.put=>(.put,d.2.1,g)|.tak=>match d.2.1.getLast? with
   |some (.inl _)=>(.ins,d.2.1,g)|_=>(.put,d.2.1,g)
theorem jC{us:B0}{i:Nat}{t:T}(h:d9 us)(a:us[i]? =Y t):T.few t:=b9 h (mO a)
theorem zLy{us a:B0}(h:us=a)(f:T.few (.lst a)):Eqc (.lst us) (.lst a):=by rw[h];exact Eqc.refl f
theorem kX{s u r:T}{k:Key}(h:T.few s)(d:zP s k=Y u):zP (yB .put s k r) k=Y r:=by
 cases s with
 |lst c=>
  cases k with
  |inl i=>
   let f:c[i.toNat]? =Y u:=d;let j:=(mN.mp f).1;show(c.take i.toNat++r::c.drop (i.toNat+1))[i.toNat]? =Y r;rw[nU (by rw[nQ];lia),nQ,show i.toNat - min i.toNat c...*=0 by lia]
   rfl
  |inr z=>cases d
 |dic a c=>
  cases k with
  |inl i=>cases d|inr z=>
   let f:(if ts z∈a then Y (zV (ts z) a c) else none)=Y u:=d
   by_cases g:ts z∈a
   ·let e:yZ (a,c) (ts z) r=(a,yL (ts z) r a c):=mJ g
    show(if ts z∈(yZ (a,c) (ts z) r).1 then Y (zV (ts z) (yZ (a,c) (ts z) r).1 (yZ (a,c) (ts z) r).2) else none)=Y r;rw[e];show(if ts z∈a then Y (zV (ts z) a (yL (ts z) r a c)) else none)=Y r;rw[mJ g,jK h.2.2.1 g,mJ O]
   ·rw[mH g] at f;cases f
 |non=>cases d|bl b=>cases d|int b=>cases d|str b=>cases d|tup b=>cases d
theorem wI{k:List Nat}{ks:C6}{us:B0}(a:ks...*=us...*)(b:k∈ks)(h:d9 us):T.few (zV k ks us):=b9 h (yY b a)
theorem yBe{us:B0}{i:Nat}{u c:T}(h:d9 us)(d:us[i]? =Y u)(e:Eqc c u):Eqc (.lst (us.take i++c::us.drop (i+1))) (.lst us):=by
 let f:=(mN.mp d).1;rw[<-zDc f];refine(zIc _ _).mpr {bJ,λj t g b a=>?_}
 by_cases z:i=j
 ·subst z
  rw[sU f] at b;rw[d] at a;cases b;cases a;exact e
 ·rw[sZ z,a] at b
  cases b;exact Eqc.refl (jC h a)
theorem zHp{s u f r:T}{k:Key}(l:T.few s)(d:zP s k=Y u)(e:Eqc f u):Eqc (yB .put (yB .put s k r) k f) s:=by
 cases s with
 |lst c=>
  cases k with
  |inl i=>
   let g:c[i.toNat]? =Y u:=d;let j:=(mN.mp g).1;show Eqc (.lst ((c.take i.toNat++r::c.drop (i.toNat+1)).take i.toNat++f::(c.take i.toNat++r::c.drop (i.toNat+1)).drop (i.toNat+1))) _;rw[bO (by rw[nQ];lia),List.drop_append,nQ,show i.toNat+1 - min i.toNat c...*=1 by lia,aY (by rw[nQ];lia)];exact yBe l.2 g e
  |inr z=>cases d
 |dic a c=>
  cases k with
  |inl i=>cases d|inr z=>
   let g:(if ts z∈a then Y (zV (ts z) a c) else none)=Y u:=d
   by_cases h:ts z∈a
   ·let n:∀(p:B0)(r:T),yZ (a,p) (ts z) r=(a,yL (ts z) r a p):=λ_ _=>mJ h
    rw[mJ h] at g;cases g;show Eqc (.dic (yZ ((yZ (a,c) (ts z) r).1,(yZ (a,c) (ts z) r).2) (ts z) f).1 (yZ ((yZ (a,c) (ts z) r).1,(yZ (a,c) (ts z) r).2) (ts z) f).2) _;rw[n c r];show Eqc (.dic (yZ (a,yL (ts z) r a c) (ts z) f).1 (yZ (a,yL (ts z) r a c) (ts z) f).2) _;rw[n];let j:=l.2.2.1;let m:a...*=(yL (ts z) r a c)...*:=by rw[kO];exact j
    refine(wK l.1).mpr {O,λq o=>{o, ?_}};show xL (zM (zV q a (yL (ts z) f a (yL (ts z) r a c)))) _=0;rw[jK m h,jK j h]
    by_cases w:q=ts z
    ·subst w;rw[mJ O];exact e
    ·rw[mH w,mH w];exact Eqc.refl (wI j o l.2.2.2)
   ·rw[mH h] at g;cases g
 |non=>cases d|bl b=>cases d|int b=>cases d|str b=>cases d|tup b=>cases d
theorem zKb{n:List Nat}{t:T}:∀{ks:C6}{us:B0},ks...*=us...*->n∉ks->xF n (ks++ [n])=ks/\yS n (ks++ [n]) (us++ [t])=us
 |[],[],_,_=>by
  constructor
  ·show(if n=n then[] else[n])= []
   rw[mJ O]
  ·show(if n=n then yS n [] [] else[t])= []
   rw[mJ O];rfl
 |k::ks,u::us,c,h=>by
  let d:k≠n:=λe=>h (e▸mE);obtain⟨a,b⟩:=zKb (t:=t) (ks:=ks) (us:=us) (Nat.succ.inj c) λz=>h (mI _ z);constructor
  ·show(if k=n then _ else k::xF n (ks++ [n]))=_
   rw[mH d,a]
  ·show(if k=n then _ else u::yS n (ks++ [n]) (us++ [t]))=_
   rw[mH d,b]
 |[],_::_,c,_=>nomatch c|_::_,[],c,_=>nomatch c
theorem zFr{n:List Nat}:∀{ks:C6},n∉ks->xF n ks=ks
 |[],_=>rfl|k::ks,h=>by
  show(if k=n then _ else k::xF n ks)=_;rw[mH (λe:k=n=>h (e▸mE)),zFr λz=>h (mI _ z)]
theorem uT{n:List Nat}:∀{ks:C6},ks.Nodup->n∈ks->(xF n ks)...*+1=ks...*
 |k::ks,c,h=>by
  obtain⟨a,b⟩:=nY.mp c;show(if k=n then xF n ks else k::xF n ks)...*+1=_
  by_cases e:k=n
  ·rw[mJ e,zFr (e▸a)];rfl
  ·rw[mH e,mP,uT b ((mG.mp h).resolve_left (Ne.symm e))];rfl
theorem vT{s u:T}{k:Key}(d:T.few s)(a:zP s k=Y u):T.few u:=by
 cases s with
 |lst g=>
  cases k with|inl i=>exact jC (i:=i.toNat) d.2 a|inr z=>cases a
 |dic f g=>
  cases k with
  |inl i=>cases a|inr z=>
   let c:(if ts z∈f then Y (zV (ts z) f g) else none)=Y u:=a
   by_cases e:ts z∈f
   ·rw[mJ e] at c;cases c;exact wI d.2.2.1 e d.2.2.2
   ·rw[mH e] at c;cases c
 |non=>cases a|bl b=>cases a|int b=>cases a|str b=>cases a|tup b=>cases a
theorem gY{w:Wd}{n s:T}{k:Key}(h:xO w s k=true):doT w n [k] s=Y (yB w s k n):=mJ h
theorem zEq{α:Type}{us a:List α}{i:Nat}(h:i<=us...*):(us.take i++a).take i=us.take i:=bO (by rw[nQ];lia)
theorem zIt{α:Type}{us a:List α}{i:Nat}(h:i<=us...*):(us.take i++a).drop i=a:=List.drop_left' (by rw[nQ];lia)
theorem zGv{α:Type}{us a:List α}{x:α}{i:Nat}(h:i<=us...*):(us.take i++x::a).drop (i+1)=a:=by
 rw[<-List.drop_drop,zIt h];rfl
theorem zPj{α:Type}{us a:List α}{x:α}{i:Nat}(h:i<=us...*):(us.take i++x::a)[i]? =Y x:=by
 rw[nU (by rw[nQ];lia),nQ,show i - min i us...*=0 by lia];rfl
theorem zAt{s g:T}{w:Wd}{n:T}{k:Key}(h:zP s k=Y g):bkD s (w,[k],n)=match w with
  |.ins=>(.tak,[k], .non)|.put=>(.put,[k],g)|.tak=>match k with
   |.inl _=>(.ins,[k],g)|.inr _=>(.put,[k],g):=by
 unfold bkD;show(match (zP s k).bind (atT []) with | none=>_ | some g=>_)=_
 rw[h];cases w<;>cases k<;>rfl
theorem zHv{s:T}{w:Wd}{n:T}{k:Key}(h:zP s k=none):bkD s (w,[k],n)=(.tak,[k], .non):=by
 unfold bkD;show(match (zP s k).bind (atT []) with | none=>_ | some g=>_)=_
 rw[h];rfl
theorem zWg{us:B0}{w:Wd}{n r:T}{i:Int}(b:T.few (.lst us))(l:0<=i)(d:xO w (.lst us) (.inl i)=true)(k:r=yB w (.lst us) (.inl i) n):∃s',doT (bkD (.lst us) (w,[.inl i],n)).1 (bkD (.lst us) (w,[.inl i],n)).2.2 [.inl i] r=Y s'/\Eqc s' (.lst us):=by
 subst k
 cases w with
 |ins=>
  let h:i<=(us...*:Int):=sX d;let e:bkD (.lst us) (.ins,[.inl i],n)=(.tak,[.inl i], .non):=by
   cases a:zP (.lst us) (.inl i) with|none=>exact zHv a|some g=>exact zAt a
  rw[e];refine nEA _ (gY (by show((us.take i.toNat++n::us.drop i.toNat)[i.toNat]?).isSome=true;rw[zPj ∅];rfl)) (zLy ?_ b);show(us.take i.toNat++n::us.drop i.toNat).take i.toNat++(us.take i.toNat++n::us.drop i.toNat).drop (i.toNat+1)=us;rw[zEq ∅,zGv ∅,tU]
 |put=>
  let h:i<=(us...*:Int):=sX d
  cases a:zP (.lst us) (.inl i) with
  |some g=>
   rw[zAt a];let c:=(mN.mp (show us[i.toNat]? =Y g from a)).1;refine nEA _ (gY ?_) (zHp b a (Eqc.refl (vT b a)));show decide (i<=((us.take i.toNat++n::us.drop (i.toNat+1))...*:Int))=true;refine nO ?_;rw[mK,nQ,mP]
   lia
  |none=>
   rw[zHv a];let c:=List.getElem?_eq_none_iff.mp (show us[i.toNat]? =none from a);refine nEA _ (gY (by show((us.take i.toNat++n::us.drop (i.toNat+1))[i.toNat]?).isSome=true;rw[zPj ∅];rfl)) (zLy ?_ b);show(us.take i.toNat++n::us.drop (i.toNat+1)).take i.toNat++(us.take i.toNat++n::us.drop (i.toNat+1)).drop (i.toNat+1)=us;rw[zEq ∅,zGv ∅,rH c,aY ∅,nS]
 |tak=>
  cases a:zP (.lst us) (.inl i) with
  |none=>rw[show xO .tak (.lst us) (.inl i)=(zP (.lst us) (.inl i)).isSome from O,a] at d;cases d|some g=>
   rw[zAt a];let f:us[i.toNat]? =Y g:=a;let c:=(mN.mp f).1;refine nEA _ (gY ?_) (zLy ?_ b)
   ·show decide (i<=((us.take i.toNat++us.drop (i.toNat+1))...*:Int))=true
    refine nO ?_;rw[mK,nQ,pZ]
    lia
   ·show(us.take i.toNat++us.drop (i.toNat+1)).take i.toNat++g::(us.take i.toNat++us.drop (i.toNat+1)).drop i.toNat=us
    rw[zEq ∅,zIt ∅,<-zDc c];refine List.ext_getElem? λj=>?_
    by_cases z:i.toNat=j
    ·subst z;rw[sU c,f]
    ·rw[sZ z]
theorem zUv{ks:C6}{us:B0}{w:Wd}{n r:T}{z:Str}(d:T.few (.dic ks us))(k:xO w (.dic ks us) (.inr z)=true)(u:r=yB w (.dic ks us) (.inr z) n):∃s',doT (bkD (.dic ks us) (w,[.inr z],n)).1 (bkD (.dic ks us) (w,[.inr z],n)).2.2 [.inr z] r=Y s'/\Eqc s' (.dic ks us):=by
 subst u;let j:=d.2.2.1
 cases w with
 |ins=>cases k|put=>
  by_cases c:ts z∈ks
  ·let g:zP (.dic ks us) (.inr z)=Y (zV (ts z) ks us):=mJ c
   rw[zAt g];exact nEA _ (gY O) (zHp d g (Eqc.refl (vT d g)))
  ·let g:zP (.dic ks us) (.inr z)=none:=mH c
   rw[zHv g];let e:yZ (ks,us) (ts z) n=(ks++ [ts z],us++ [n]):=mH c;obtain⟨a,b⟩:=zKb (t:=n) j c;refine nEA _ (gY ?_) ?_
   ·show(if ts z∈(yZ (ks,us) (ts z) n).1 then Y (zV (ts z) (yZ (ks,us) (ts z) n).1 (yZ (ks,us) (ts z) n).2) else none).isSome=true
    rw[e,mJ (by simp)];rfl
   ·show Eqc (.dic (xF (ts z) (yZ (ks,us) (ts z) n).1) (yS (ts z) (yZ (ks,us) (ts z) n).1 (yZ (ks,us) (ts z) n).2)) _
    rw[e];show Eqc (.dic (xF (ts z) (ks++ [ts z])) (yS (ts z) (ks++ [ts z]) (us++ [n]))) _;rw[a,b];exact Eqc.refl d
 |tak=>
  by_cases c:ts z∈ks
  ·let g:zP (.dic ks us) (.inr z)=Y (zV (ts z) ks us):=mJ c
   rw[zAt g];refine nEA _ (gY O) ?_;let f:ts z∉xF (ts z) ks:=λh=>(dropN_mem.mp h).2 O;show Eqc (.dic (yZ (xF (ts z) ks,yS (ts z) ks us) (ts z) (zV (ts z) ks us)).1 (yZ (xF (ts z) ks,yS (ts z) ks us) (ts z) (zV (ts z) ks us)).2) _;rw[show yZ (xF (ts z) ks,yS (ts z) ks us) (ts z) (zV (ts z) ks us)=(xF (ts z) ks++ [ts z],yS (ts z) ks us++ [zV (ts z) ks us]) from mH f];let i:=(zBd (n:=ts z) j).1;refine(wK ?_).mpr {?_,λq o=>?_}
   ·refine aV.mpr {vK d.1,nY.mpr ⟨pG,bV⟩,λa s b p e=>?_}
    rw[mF.mp p] at e;exact f (e▸s)
   ·rw[mK];exact uT d.1 c
   ·rcases nE.mp o with h1 | h1
    ·obtain⟨l,m⟩:=dropN_mem.mp h1
     refine{l, ?_};rw[uE i h1,kP m j];exact Eqc.refl (wI j l d.2.2.2)
    ·rw[mF.mp h1]
     refine{c, ?_};rw[gC i f];exact Eqc.refl (wI j c d.2.2.2)
  ·rw[show xO .tak (.dic ks us) (.inr z)=(zP (.dic ks us) (.inr z)).isSome from O,show zP (.dic ks us) (.inr z)=none from mH c] at k;cases k
theorem zVo{w:Wd}{n s r:T}{k:Key}(d:T.few s)(f:okK k)(h:doT w n [k] s=Y r):∃s',doT (bkD s (w,[k],n)).1 (bkD s (w,[k],n)).2.2 [k] r=Y s'/\Eqc s' s:=by
 let c:(if xO w s k=true then Y (yB w s k n) else none)=Y r:=h
 by_cases a:xO w s k=true
 ·rw[mJ a] at c
  let e:=(mW c).symm
  cases s with
  |lst g=>
   cases k with|inl i=>exact zWg d f.1 a e|inr z=>cases w<;>cases a
  |dic j g=>
   cases k with|inl i=>cases w<;>cases a|inr z=>exact zUv d a e
  |non=>cases w<;>cases a|bl b=>cases w<;>cases a|int b=>cases w<;>cases a|str b=>cases w<;>cases a|tup b=>exact d.elim
 ·rw[mH a] at c;cases c
theorem zYr{s u:T}{w:Wd}{n:T}{k k':Key}{ks:B8}(h:zP s k=Y u):(bkD s (w,k::k'::ks,n)).1=(bkD u (w,k'::ks,n)).1/\(bkD s (w,k::k'::ks,n)).2.2=(bkD u (w,k'::ks,n)).2.2:=by
 let b:atT (k::k'::ks) s=atT (k'::ks) u:=by show(zP s k).bind (atT (k'::ks))=_;rw[h];rfl
 let a:(k::k'::ks).getLast? =(k'::ks).getLast?:=rfl;unfold bkD;simp only[b,a]
 cases atT (k'::ks) u with
 |none=>exact⟨O,O⟩|some g=>
  cases w with
  |ins=>exact⟨O,O⟩|put=>exact⟨O,O⟩|tak=>
   cases (k'::ks).getLast? with|none=>exact⟨O,O⟩|some q=>cases q<;>exact⟨O,O⟩
theorem zPd{w:Wd}{n:T}:∀(ks:B8)(s r:T),T.few s->(∀k∈ks,okK k)->doT w n ks s=Y r->∃s',doT (bkD s (w,ks,n)).1 (bkD s (w,ks,n)).2.2 ks r=Y s'/\Eqc s' s
 |[],s,r,b,_,h=>by
  cases w with|put=>exact{s,O,Eqc.refl b}|ins=>cases h|tak=>cases h
 |[k],s,r,b,f,h=>zVo b (f k mE) h|k::a::ks,s,r,b,f,h=>by
  cases c:zP s k with
  |none=>
   rw[show doT w n (k::a::ks) s=match zP s k with
    |some u=>(doT w n (a::ks) u).map λr=>yB .put s k r|none=>none from O,c] at h
   cases h
  |some u=>
   let d:(doT w n (a::ks) u).map (λr=>yB .put s k r)=Y r:=by
    rw[<-h];show _=(match zP s k with
    | some u=>(doT w n (a::ks) u).map λr=>yB .put s k r|none=>none)
    rw[c]
   cases e:doT w n (a::ks) u with
   |none=>rw[e] at d;cases d|some g=>
    rw[e] at d;let i:=mW d;obtain⟨m,p,j⟩:=zPd (a::ks) u g (vT b c) (λq t=>f q (mI _ t)) e;obtain⟨o,l⟩:=zYr (w:=w) (n:=n) (k':=a) (ks:=ks) c;rw[o,l];refine nEA (yB .put r k m) ?_ ?_
    ·show(match zP r k with
     | some u=>(doT _ _ (a::ks) u).map λx=>yB .put r k x|none=>none)=_
     rw[<-i,kX b c];show(doT _ _ (a::ks) g).map _=_;rw[p];rfl
    ·rw[<-i]
     exact zHp b c j
theorem yP{t u:T}(h:Eqc t u):(zM t).ord=(zM u).ord:=by
 refine Decidable.byContradiction λa=>?_;let z:xL (zM t) (zM u)≠0:=by
  rw[zBf _ _ a,sgI];split<;>split<;>lia
 exact z h
theorem jX{us:B0}{t:T}(h:Eqc (.lst us) t)(c:T.few t):∃a,t= .lst a:=by
 cases t with|lst a=>exact⟨a,O⟩|tup a=>exact c.elim|non=>exact absurd (yP h) (by simp[zM,C.ord])|bl b=>exact absurd (yP h) (by simp[zM,C.ord])|int b=>exact absurd (yP h) (by simp[zM,C.ord])|str b=>exact absurd (yP h) (by simp[zM,C.ord])|dic d a=>exact absurd (yP h) (by simp[zM,C.ord])
theorem gI{ks:C6}{us:B0}{t:T}(h:Eqc (.dic ks us) t)(d:T.few t):∃a c,t= .dic a c:=by
 cases t with|dic a c=>exact⟨a,c,O⟩|tup c=>exact d.elim|non=>exact absurd (yP h) (by simp[zM,C.ord])|bl b=>exact absurd (yP h) (by simp[zM,C.ord])|int b=>exact absurd (yP h) (by simp[zM,C.ord])|str b=>exact absurd (yP h) (by simp[zM,C.ord])|lst c=>exact absurd (yP h) (by simp[zM,C.ord])
def Eqs(us b:B0):Prop:=us...*=b...*/\∀(i:Nat) t a,us[i]? =Y t->b[i]? =Y a->Eqc t a
theorem eqs_iff{us a:B0}:Eqc (.lst us) (.lst a)↔Eqs us a:=zIc us a
theorem Eqs.app{us f b a:B0}(h:Eqs us f)(h':Eqs b a):Eqs (us++b) (f++a):=by
 refine{by rw[mK,mK,h.1,h'.1],λi t e d c=>?_}
 by_cases z:i<us...*
 ·rw[pB z] at d
  rw[pB (h.1▸z)] at c;exact h.2 i t e d c
 ·rw[nU ∅] at d
  rw[nU (by let:=h.1;lia),<-h.1] at c;exact h'.2 _ t e d c
theorem Eqs.take{us c:B0}(n:Nat)(h:Eqs us c):Eqs (us.take n) (c.take n):=by
 refine{by rw[nQ,nQ,h.1],λi t d a b=>?_};rw[List.getElem?_take] at a b
 by_cases z:i<n
 ·rw[mJ z] at a b;exact h.2 i t d a b
 ·rw[mH z] at a;cases a
theorem Eqs.drop{us a:B0}(n:Nat)(h:Eqs us a):Eqs (us.drop n) (a.drop n):=by
 refine{by rw[pZ,pZ,h.1],λi t d c b=>?_};rw[List.getElem?_drop] at c b;exact h.2 _ t d c b
theorem Eqs.cons{us b:B0}{t t':T}(e:Eqc t t')(h:Eqs us b):Eqs (t::us) (t'::b):=by
 refine{by rw[mP,mP,h.1],λi x d c a=>?_}
 cases i with|zero=>cases c;cases a;exact e|succ i=>exact h.2 i x d c a
theorem zKd{t t' u:T}{k:Key}(p:T.few t)(e:T.few t')(h:Eqc t t')(c:zP t k=Y u):∃n,zP t' k=Y n/\Eqc u n:=by
 cases t with
 |lst l=>
  obtain⟨j,rfl⟩:=jX h e
  cases k with
  |inl i=>
   let d:l[i.toNat]? =Y u:=c;let q:=(mN.mp d).1;let z:=eqs_iff.mp h;let m:j[i.toNat]? =Y (j[i.toNat]'(z.1▸q)):=mU _;exact nEA _ m (z.2 _ _ _ d m)
  |inr z=>cases c
 |dic g l=>
  obtain⟨o,j,rfl⟩:=gI h e
  cases k with
  |inl i=>cases c|inr z=>
   let d:(if ts z∈g then Y (zV (ts z) g l) else none)=Y u:=c
   by_cases f:ts z∈g
   ·rw[mJ f] at d
    cases d;obtain⟨a,b⟩:=((wK p.1).mp h).2 _ f;exact nEA _ (mJ a) b
   ·rw[mH f] at d;cases d
 |non=>cases c|bl b=>cases c|int b=>cases c|str b=>cases c|tup b=>cases c
theorem zXt{t t':T}{w:Wd}{k:Key}(m:T.few t)(c:T.few t')(h:Eqc t t')(a:xO w t k=true):xO w t' k=true:=by
 cases w with
 |tak=>
  cases f:zP t k with
  |none=>rw[show xO .tak t k=(zP t k).isSome from O,f] at a;cases a|some u=>
   obtain⟨o,l,_⟩:=zKd m c h f;show(zP t' k).isSome=true;rw[l];rfl
 |put=>
  cases t with
  |lst e=>
   obtain⟨g,rfl⟩:=jX h c
   cases k with
   |inl i=>
    let d:i<=(e...*:Int):=sX a;rw[(eqs_iff.mp h).1] at d;exact nO d
   |inr z=>cases a
  |dic n e=>
   obtain⟨j,g,rfl⟩:=gI h c
   cases k with|inl i=>cases a|inr z=>rfl
  |non=>cases k<;>cases a|bl b=>cases k<;>cases a|int b=>cases k<;>cases a|str b=>cases k<;>cases a|tup b=>cases k<;>cases a
 |ins=>
  cases t with
  |lst e=>
   obtain⟨g,rfl⟩:=jX h c
   cases k with
   |inl i=>
    let d:i<=(e...*:Int):=sX a;rw[(eqs_iff.mp h).1] at d;exact nO d
   |inr z=>cases a
  |dic n e=>cases k<;>cases a|non=>cases k<;>cases a|bl b=>cases k<;>cases a|int b=>cases k<;>cases a|str b=>cases k<;>cases a|tup b=>cases k<;>cases a
theorem kY{ks:C6}{us:B0}{n:List Nat}{t:T}(h:ks.Nodup):(yZ (ks,us) n t).1.Nodup:=by
 by_cases c:n∈ks
 ·rw[show yZ (ks,us) n t=(ks,yL n t ks us) from mJ c];exact h
 ·rw[show yZ (ks,us) n t=(ks++ [n],us++ [t]) from mH c]
  refine aV.mpr {h,nY.mpr ⟨pG,bV⟩,λa f b d e=>?_};rw[mF.mp d] at e;exact c (e▸f)
theorem uI{ks:C6}{us:B0}{n:List Nat}{t:T}:(yZ (ks,us) n t).1...*=if n∈ks then ks...* else ks...*+1:=by
 by_cases a:n∈ks
 ·rw[show yZ (ks,us) n t=(ks,yL n t ks us) from mJ a,mJ a]
 ·rw[show yZ (ks,us) n t=(ks++ [n],us++ [t]) from mH a,mH a,mK];rfl
theorem zJu{t u:T}{k:Key}(a:zP t k=Y u):xO .put t k=true:=by
 cases t with
 |lst c=>
  cases k with
  |inl i=>
   let d:=(mN.mp (show c[i.toNat]? =Y u from a)).1;exact nO ∅
  |inr z=>cases a
 |dic e c=>
  cases k with|inl i=>cases a|inr z=>rfl
 |non=>cases a|bl b=>cases a|int b=>cases a|str b=>cases a|tup b=>cases a
theorem zDp{t t' n r:T}{w:Wd}{k:Key}(p:T.few t)(g:T.few t')(h:Eqc t t')(j:xO w t k=true)(e:Eqc n r):Eqc (yB w t k n) (yB w t' k r):=by
 cases t with
 |lst o=>
  obtain⟨v,rfl⟩:=jX h g;let z:=eqs_iff.mp h
  cases k with
  |inl i=>
   cases w with|put=>exact eqs_iff.mpr ((z.take i.toNat).app (Eqs.cons e (z.drop (i.toNat+1))))|ins=>exact eqs_iff.mpr ((z.take i.toNat).app (Eqs.cons e (z.drop i.toNat)))|tak=>exact eqs_iff.mpr ((z.take i.toNat).app (z.drop (i.toNat+1)))
  |inr z=>cases w<;>cases j
 |dic f o=>
  obtain⟨d,v,rfl⟩:=gI h g;let P:=(wK p.1).mp h;let u:f.Perm d:=qR p.1 (λk I=>(P.2 k I).1) P.1.symm;let E:=p.2.2.1;let s:=g.2.2.1
  cases k with
  |inl i=>cases w<;>cases j|inr z=>
   cases w with
   |ins=>cases j|put=>
    show Eqc (.dic (yZ (f,o) (ts z) n).1 (yZ (f,o) (ts z) n).2) (.dic (yZ (d,v) (ts z) r).1 (yZ (d,v) (ts z) r).2);refine(wK (kY p.1)).mpr {?_,λq B=>?_}
    ·rw[uI,uI,P.1]
     by_cases l:ts z∈f
     ·rw[mJ l,mJ (u.mem_iff.mp l)]
     ·rw[mH l,mH λx=>l (u.mem_iff.mpr x)]
    ·let m:=putT_in.mp B
     let D:q∈d\/q=ts z:=m.imp u.mem_iff.mp id;obtain⟨a,b⟩:=uQ (t:=r) s D;refine{a, ?_};rw[b,(uQ (t:=n) E m).2]
     by_cases y:q=ts z
     ·rw[mJ y,mJ y];exact e
     ·rw[mH y,mH y];exact(P.2 q (m.resolve_right y)).2
   |tak=>
    by_cases l:ts z∈f
    ·show Eqc (.dic (xF (ts z) f) (yS (ts z) f o)) (.dic (xF (ts z) d) (yS (ts z) d v))
     refine(wK (vK p.1)).mpr {?_,λq B=>?_}
     ·let a:=uT p.1 l
      let b:=uT g.1 (u.mem_iff.mp l);let c:=P.1
      lia
     ·obtain⟨H,A⟩:=dropN_mem.mp B
      obtain⟨J,L⟩:=P.2 q H;refine{dropN_mem.mpr ⟨J,A⟩, ?_};rw[kP A E,kP A s];exact L
    ·rw[show xO .tak (.dic f o) (.inr z)=(zP (.dic f o) (.inr z)).isSome from O,show zP (.dic f o) (.inr z)=none from mH l] at j;cases j
 |non=>cases w<;>cases j|bl b=>cases w<;>cases j|int b=>cases w<;>cases j|str b=>cases w<;>cases j|tup b=>exact p.elim
theorem zMf{w:Wd}{n j:T}(e:Eqc n j):∀(ks:B8)(t t' r:T),T.few t->T.few t'->Eqc t t'->doT w n ks t=Y r->∃p,doT w j ks t'=Y p/\Eqc r p
 |[],t,t',r,_,_,_,h=>by
  cases w with|put=>cases h;exact⟨j,O,e⟩|ins=>cases h|tak=>cases h
 |[k],t,t',r,d,a,q,h=>by
  let b:(if xO w t k=true then Y (yB w t k n) else none)=Y r:=h
  by_cases i:xO w t k=true
  ·rw[mJ i] at b
   cases b;exact nEA _ (gY (zXt d a q i)) (zDp d a q i e)
  ·rw[mH i] at b;cases b
 |k::c::ks,t,t',r,d,a,q,h=>by
  cases g:zP t k with
  |none=>
   rw[show doT w n (k::c::ks) t=match zP t k with
    |some u=>(doT w n (c::ks) u).map λr=>yB .put t k r|none=>none from O,g] at h
   cases h
  |some u=>
   let b:(doT w n (c::ks) u).map (λr=>yB .put t k r)=Y r:=by
    rw[<-h];show _=(match zP t k with
    | some u=>(doT w n (c::ks) u).map λr=>yB .put t k r|none=>none)
    rw[g]
   cases l:doT w n (c::ks) u with
   |none=>rw[l] at b;cases b|some v=>
    rw[l] at b;let A:=mW b;obtain⟨o,f,y⟩:=zKd d a q g;obtain⟨m,z,s⟩:=zMf e (c::ks) u o v (vT d g) (vT a f) y l;refine nEA (yB .put t' k m) ?_ (A▸zDp d a q (zJu g) s);show(match zP t' k with
     | some u=>(doT _ _ (c::ks) u).map λx=>yB .put t' k x|none=>none)=_
    rw[f];show(doT _ _ (c::ks) o).map _=_;rw[z];rfl
theorem zEy{i:Int}{u:T}(a:T.few u)(h:Eqc (.int i) u):u= .int i:=by
 cases u with
 |int j=>
  let z:xL (.int i) (.int j)=0:=h;rw[xL] at z;let e:j=i:=by
   unfold sgI at z;split at z<;>split at z<;>lia
  rw[e]
 |tup c=>exact a.elim|non=>exact absurd (yP h) (by simp[zM,C.ord])|bl b=>exact absurd (yP h) (by simp[zM,C.ord])|lst b=>exact absurd (yP h) (by simp[zM,C.ord])|str b=>exact absurd (yP h) (by simp[zM,C.ord])|dic d c=>exact absurd (yP h) (by simp[zM,C.ord])
theorem zDr{x:List Nat}{u:T}(a:T.few u)(h:Eqc (.str x) u):u= .str x:=by
 cases u with
 |str y=>
  let z:xL (.str x) (.str y)=0:=h;rw[zHo] at z;rw[(uX _ _).mp z]
 |tup c=>exact a.elim|non=>exact absurd (yP h) (by simp[zM,C.ord])|bl b=>exact absurd (yP h) (by simp[zM,C.ord])|lst b=>exact absurd (yP h) (by simp[zM,C.ord])|int b=>exact absurd (yP h) (by simp[zM,C.ord])|dic d c=>exact absurd (yP h) (by simp[zM,C.ord])
theorem zFe{u:T}(a:T.few u)(h:Eqc .non u):u= .non:=by
 cases u with|non=>rfl|tup c=>exact a.elim|str y=>exact absurd (yP h) (by simp[zM,C.ord])|bl b=>exact absurd (yP h) (by simp[zM,C.ord])|lst b=>exact absurd (yP h) (by simp[zM,C.ord])|int b=>exact absurd (yP h) (by simp[zM,C.ord])|dic d c=>exact absurd (yP h) (by simp[zM,C.ord])
theorem zHs{b:Bool}{u:T}(a:T.few u)(h:Eqc (.bl b) u):u= .bl b:=by
 cases u with
 |bl c=>
  let z:xL (.bl b) (.bl c)=0:=h
  revert z
  cases b<;>cases c<;>first |(intro _;rfl)|(intro z;exact absurd z (by decide+kernel))
 |tup d=>exact a.elim|str y=>exact absurd (yP h) (by simp[zM,C.ord])|non=>exact absurd (yP h) (by simp[zM,C.ord])|lst b=>exact absurd (yP h) (by simp[zM,C.ord])|int b=>exact absurd (yP h) (by simp[zM,C.ord])|dic e d=>exact absurd (yP h) (by simp[zM,C.ord])
theorem zDq:∀(n:Nat)(t u:T),T.few t->T.few u->T.dep t<n->Eqc t u->Eqc u t
 |0,_,_,_,_,f,_=>absurd f (sK _)|n+1,t,u,d,c,f,h=>by
  cases t with
  |non=>rw[zFe c h];exact Eqc.refl d|bl b=>rw[zHs c h];exact Eqc.refl d|int i=>rw[zEy c h];exact Eqc.refl d|str x=>rw[zDr c h];exact Eqc.refl d|tup g=>exact d.elim|lst g=>
   obtain⟨w,rfl⟩:=jX h c;let z:=eqs_iff.mp h;let m:T.deps g+1<n+1:=f;refine eqs_iff.mpr {z.1.symm,λi a b o j=>?_};let:=b7 (mO j);exact zDq n b a (jC d.2 j) (jC c.2 o) ∅ (z.2 i b a j o)
  |dic v g=>
   obtain⟨l,w,rfl⟩:=gI h c;let m:T.deps g+1<n+1:=f;let P:=(wK d.1).mp h;let s:v.Perm l:=qR d.1 (λk r=>(P.2 k r).1) P.1.symm;refine(wK c.1).mpr {P.1.symm,λq p=>?_};let e:=s.mem_iff.mpr p;let:=b7 (yY e d.2.2.1);exact{e,zDq n _ _ (wI d.2.2.1 e d.2.2.2) (wI c.2.2.1 p c.2.2.2) ∅ (P.2 q e).2}
theorem zBs:∀(n:Nat)(t u v:T),T.few t->T.few u->T.few v->T.dep t<n->Eqc t u->Eqc u v->Eqc t v
 |0,_,_,_,_,_,_,l,_,_=>absurd l (sK _)|n+1,t,u,v,j,e,g,l,h,f=>by
  cases t with
  |non=>rw[zFe e h] at f;exact f|bl b=>rw[zHs e h] at f;exact f|int i=>rw[zEy e h] at f;exact f|str x=>rw[zDr e h] at f;exact f|tup m=>exact j.elim|lst m=>
   obtain⟨r,rfl⟩:=jX h e;obtain⟨D,rfl⟩:=jX f g;let z:=eqs_iff.mp h;let w:=eqs_iff.mp f;let p:T.deps m+1<n+1:=l;refine eqs_iff.mpr {z.1.trans w.1,λi a c k y=>?_};let:=b7 (mO k);let E:=(mN.mp k).1;let o:r[i]? =Y (r[i]'(z.1▸E)):=mU _;exact zBs n a _ c (jC j.2 k) (jC e.2 o) (jC g.2 y) ∅ (z.2 i _ _ k o) (w.2 i _ _ o y)
  |dic I m=>
   obtain⟨H,r,rfl⟩:=gI h e;obtain⟨B,D,rfl⟩:=gI f g;let p:T.deps m+1<n+1:=l;let P:=(wK j.1).mp h;let A:=(wK e.1).mp f;refine(wK j.1).mpr {P.1.trans A.1,λq s=>?_};obtain⟨a,b⟩:=P.2 q s;obtain⟨c,d⟩:=A.2 q a;let:=b7 (yY s j.2.2.1);exact{c,zBs n _ _ _ (wI j.2.2.1 s j.2.2.2) (wI e.2.2.1 a e.2.2.2) (wI g.2.2.1 c g.2.2.2) ∅ b d}
theorem Eqc.symm{t u:T}(b:T.few t)(a:T.few u)(h:Eqc t u):Eqc u t:=zDq (T.dep t+1) t u b a (tV _) h
theorem Eqc.trans{t u v:T}(c:T.few t)(a:T.few u)(b:T.few v)(h:Eqc t u)(d:Eqc u v):Eqc t v:=zBs (T.dep t+1) t u v c a b (tV _) h d
noncomputable def qE:List Dd->T->List Dd
 |[],_=>[]|d::a,t=>match doT d.1 d.2.2 d.2.1 t with
  |some r=>qE a r++ [bkD t d]|none=>[]
theorem zAz{d:Dd}{ds:C4}{t r:T}(h:doT d.1 d.2.2 d.2.1 t=Y r):qE (d::ds) t=qE ds r++ [bkD t d]:=by
 show(match doT d.1 d.2.2 d.2.1 t with
  | some r=>qE ds r++ [bkD t d]|none=>[])=_
 rw[h]
theorem zXi{s:T}{d:Dd}:(bkD s d).2.1=d.2.1:=by
 obtain⟨w,a,n⟩:=d;unfold bkD;simp only
 cases atT a s with
 |none=>rfl|some g=>
  cases w with
  |ins=>rfl|put=>rfl|tak=>
   cases a.getLast? with|none=>rfl|some q=>cases q<;>rfl
theorem RJ.pre{m:Nat}{a b:C4}{s:T}(h:RJ m (a++b) s):RJ m a s:=by
 let e:=h.m1;let c:=h.z;rw[mK] at e c;exact{h.f,h.m0,∅,h.g,h.d,∅,λd f=>h.o d (nW _ f)}
theorem RJ.run:∀{a b:C4}{m:Nat}{s r:T},RJ m (a++b) s->wE a s=Y r->RJ (m+a...*) b r
 |[],b,m,s,r,h,e=>by cases e;exact h|d::a,b,m,s,r,h,e=>by
  cases c:doT d.1 d.2.2 d.2.1 s with
  |none=>
   rw[show wE (d::a) s=(doT d.1 d.2.2 d.2.1 s).bind (wE a) from O,c] at e;cases e
  |some q=>
   rw[kD c] at e;let z:=RJ.run (RJ.step (ds:=a++b) h c) e;rw[show m+(d::a)...*=m+1+a...* by rw[mP];lia];exact z
theorem zGh:∀(ds:C4)(m l:Nat)(t u b:T),RJ m ds t->wE ds t=Y u->RJ l (qE ds t) b->Eqc u b->∃t',wE (qE ds t) b=Y t'/\Eqc t t'
 |[],m,l,t,u,b,_,h,_,e=>by
  cases h;exact nEA b O e
 |d::ds,m,l,t,u,b,J,h,p,e=>by
  cases i:doT d.1 d.2.2 d.2.1 t with
  |none=>
   rw[show wE (d::ds) t=(doT d.1 d.2.2 d.2.1 t).bind (wE ds) from O,i] at h;cases h
  |some r=>
   rw[kD i] at h;rw[zAz i] at p⊢;let a:=J.step i;obtain⟨z,y,B⟩:=zGh ds (m+1) l r u b a h p.pre e;let n:=p.run y;let o:=n.o _ mE;let x:=J.o d mE;let c:=J.few;let s:=a.few;let j:=n.few;obtain⟨A,w,I⟩:=zPd d.2.1 t r c (λk D=>(x.s k D).k) i;let N:=a.m1;let M:=a.m0;let Q:=a.z;obtain⟨H,-⟩:=zDj (m:=m+1) ∅ (b8 ∅ _ o.f) o.g _ _ _ w a.f a.g x.s ∅;let f:T.few A:=c6 ∅ _ H;obtain⟨q,E,L⟩:=zMf (Eqc.refl (c6 ∅ _ o.f)) d.2.1 r z A s j B w;let g:doT (bkD t d).1 (bkD t d).2.2 (bkD t d).2.1 z=Y q:=by rw[zXi];exact E
   let v:T.few q:=(n.step g).few;exact nEA q (by rw[zVe y];exact g) (Eqc.trans c f v (Eqc.symm f c I) L)
theorem zBh{k q:List Nat}{ks:C6}{u:T}{us:B0}(h:k≠q):zV q (k::ks) (u::us)=zV q ks us:=mH h
theorem zAx{k:List Nat}{ks:C6}{u:T}{us:B0}:zV k (k::ks) (u::us)=u:=mJ O
theorem zJs{w:T}:∀{ks:C6}{d:B0},ks.Nodup->ks...*=d...*->w∈d->∃q∈ks,zV q ks d=w
 |[],[],_,_,h=>nomatch h|k::ks,u::i,g,c,h=>by
  obtain⟨a,b⟩:=nY.mp g;rcases mG.mp h with z | z
  ·exact nEA k mE (by rw[zAx,z])
  ·obtain⟨q,f,e⟩:=zJs b (Nat.succ.inj c) z
   exact nEA q (mI _ f) (by rw[zBh (λz:k=q=>a (z▸f))];exact e)
 |[],_::_,_,c,_=>nomatch c|_::_,[],_,c,_=>nomatch c
theorem zBu:∀{ks:C6}{us:B0},ks.Nodup->ks...*=us...*->vP us=(ks.map λk=>lsz (zV k ks us)).sum
 |[],[],_,_=>rfl|k::ks,u::us,d,c=>by
  obtain⟨a,b⟩:=nY.mp d;show lsz u+vP us=lsz (zV k (k::ks) (u::us))+(ks.map λq=>lsz (zV q (k::ks) (u::us))).sum;rw[zAx,zBu b (Nat.succ.inj c)]
  congr 2
  refine rK λq e=>?_;rw[zBh (λz:k=q=>a (z▸e))]
 |[],_::_,_,c=>nomatch c|_::_,[],_,c=>nomatch c
theorem zHf{u:T}:∀{us:B0},u∈us->qX u<=xW us
 |t::us,h=>by
  show qX u<=max (qX t) (xW us);rcases mG.mp h with z | z
  ·rw[z];lia
  ·let:=zHf z;lia
theorem zEp{d:Nat}:∀{us:B0},(∀u∈us,qX u<=d)->xW us<=d
 |[],_=>nL _|t::us,h=>by
  let a:=h t mE;let b:=zEp λu c=>h u (mI _ c);show max (qX t) (xW us)<=d
  lia
theorem lnars_iff:∀{us:B0},wA us=true↔∀u∈us,jU u=true
 |[]=>{λ_ _ h=>(nomatch h),λ_=>O}|t::us=>by
  show(jU t && wA us)=true↔_;rw[nX,lnars_iff (us:=us),List.forall_mem_cons]
theorem zKf:∀{us b:B0},us...*=b...*->(∀(i:Nat) t t',us[i]? =Y t->b[i]? =Y t'->lsz t=lsz t')->vP us=vP b
 |[],[],_,_=>rfl|u::us,w::b,a,h=>by
  show lsz u+vP us=lsz w+vP b;rw[h 0 u w O O,zKf (Nat.succ.inj a) λi t t' d c=>h (i+1) t t' d c]
 |[],_::_,a,_=>nomatch a|_::_,[],a,_=>nomatch a
theorem zUo:∀(n:Nat)(t u:T),T.few t->T.few u->T.dep t<n->Eqc t u->lsz t=lsz u/\qX u<=qX t/\(jU t=true->jU u=true)
 |0,_,_,_,_,D,_=>absurd D (sK _)|n+1,t,u,p,c,D,h=>by
  cases t with
  |non=>rw[zFe c h];exact{O,mD _,id}|bl b=>rw[zHs c h];exact{O,mD _,id}|int i=>rw[zEy c h];exact{O,mD _,id}|str x=>rw[zDr c h];exact{O,mD _,id}|tup d=>exact p.elim|lst d=>
   obtain⟨g,rfl⟩:=jX h c;let z:=eqs_iff.mp h;let H:T.deps d+1<n+1:=D;let j:∀(i:Nat) a b,d[i]? =Y a->g[i]? =Y b->lsz a=lsz b/\qX b<=qX a/\(jU a=true->jU b=true):=λi a b y B=>by
    let:=b7 (mO y);exact zUo n a b (jC p.2 y) (jC c.2 B) ∅ (z.2 i a b y B)
   let o:∀w∈g,∃a∈d,lsz a=lsz w/\qX w<=qX a/\(jU a=true->jU w=true):=λw l=>by
    obtain⟨i,L⟩:=bF.mp l;let hl:=(mN.mp L).1;let J:d[i]? =Y (d[i]'(z.1▸hl)):=mU _;exact nEA _ (mO J) (j i _ w J L)
   refine nAA ?_ ?_ (λI=>?_)
   ·show vP d+1=vP g+1
    rw[zKf z.1 λi a b y B=>(j i a b y B).1]
   ·show xW g+1<=xW d+1
    refine rA (zEp λw l=>?_);refine qD (o w l) λa s _ e _=>?_;exact nP e (zHf s)
   ·let f:(decide (d...*<=60)&& wA d)=true:=I
    rw[nX] at f;show(decide (g...*<=60)&& wA g)=true;rw[nX,<-z.1];refine{f.1,lnars_iff.mpr λw l=>?_};refine qD (o w l) λa s _ _ e=>?_;exact e (lnars_iff.mp f.2 a s)
  |dic v d=>
   obtain⟨m,g,rfl⟩:=gI h c;let H:T.deps d+1<n+1:=D;let P:=(wK p.1).mp h;let E:v.Perm m:=qR p.1 (λk Q=>(P.2 k Q).1) P.1.symm;let j:∀q∈v,lsz (zV q v d)=lsz (zV q m g)/\qX (zV q m g)<=qX (zV q v d)/\(jU (zV q v d)=true->jU (zV q m g)=true):=λq r=>by
    let:=b7 (yY r p.2.2.1);exact zUo n _ _ (wI p.2.2.1 r p.2.2.2) (wI c.2.2.1 (E.mem_iff.mp r) c.2.2.2) ∅ (P.2 q r).2
   let o:∀w∈g,∃a∈d,qX w<=qX a/\(jU a=true->jU w=true):=λw l=>by
    obtain⟨q,r,e⟩:=zJs c.1 c.2.2.1 l;let A:=E.mem_iff.mpr r;obtain⟨_,N,M⟩:=j q A;rw[e] at N M;exact zUs _ (yY A p.2.2.1) N M
   refine nAA ?_ ?_ (λI=>?_)
   ·show vP d+1=vP g+1
    rw[zBu p.1 p.2.2.1,zBu c.1 c.2.2.1,rK λq r=>(j q r).1,(E.map _).sum_nat]
   ·show xW g+1<=xW d+1
    refine rA (zEp λw l=>?_);refine yX (o w l) λa s e _=>?_;exact nP e (zHf s)
   ·let f:(decide (v...*<=30)&& wA d)=true:=I
    rw[nX] at f;show(decide (m...*<=30)&& wA g)=true;rw[nX,<-P.1];refine{f.1,lnars_iff.mpr λw l=>?_};refine yX (o w l) λa s _ e=>?_;exact e (lnars_iff.mp f.2 a s)
theorem n8{t u:T}(f:T.few t)(e:T.few u)(h:Eqc t u)(d:xK t=true):xK u=true:=by
 obtain⟨a,b,c⟩:=zUo (T.dep t+1) t u f e (tV _) h;unfold xK at d⊢;rw[nX,nX,pO,pO] at d⊢;exact{{c d.1.1,Nat.lt_of_le_of_lt b d.1.2},a▸d.2}
theorem zOr{t u:T}{k:Key}{ks:B8}(h:zP t k=Y u):goT t (k::ks)=t::goT u ks:=by
 show(match zP t k with | none=>[t] | some u=>t::goT u ks)=_
 rw[h]
theorem zXn{t:T}{k:Key}{ks:B8}(h:zP t k=none):goT t (k::ks)= [t]:=by
 show(match zP t k with | none=>[t] | some u=>t::goT u ks)=_
 rw[h]
theorem zVy:∀(ks:B8)(t:T),lds t ks->atT ks t=(goT t ks).getLast?
 |[],t,_=>rfl|k::ks,t,h=>by
  let a:(k::ks)...*<(goT t (k::ks))...*:=h;show(zP t k).bind (atT ks)=_
  cases b:zP t k with
  |none=>rw[zXn b] at a;exact absurd a (by simp)|some u=>
   rw[zOr b] at a⊢;let d:lds u ks:=Nat.lt_of_succ_lt_succ a;show atT ks u=_;rw[zVy ks u d,List.getLast?_cons];obtain⟨x,c,_⟩:=jL u ks;rw[c];rfl
theorem zNm:∀(ks:B8)(t:T),¬lds t ks->atT ks t=none
 |[],t,h=>absurd (show[]...*< [t]...* from Nat.zero_lt_one) h|k::ks,t,h=>by
  show(zP t k).bind (atT ks)=_
  cases a:zP t k with
  |none=>rfl|some u=>
   refine zNm ks u λb=>h ?_;show(k::ks)...*<(goT t (k::ks))...*;rw[zOr a];exact Nat.succ_lt_succ b
end K47
namespace K47
open PySem L2 PySem.W
seal L2.PSs L2.PS L2.PE L2.PT L2.PW L2.PA L2.PI L2.PG L2.PGs L2.PPs L2.PTs
abbrev sBk1:V6:=top 50
theorem zUt:∀(ks:B8)(s u:T),T.few s->T.gk s->atT ks s=Y u->T.gk u
 |[],s,u,_,c,h=>by cases h;exact c|k::ks,s,u,d,c,h=>by
  let b:(zP s k).bind (atT ks)=Y u:=h
  cases a:zP s k with|none=>rw[a] at b;cases b|some t=>rw[a] at b;exact zUt ks t u (vT d a) (zOw d c a) b
section
variable{P:V3}{w:V4}{K:PySem.W.Frag}{mg:C8}{base:V5}{f:V1}{fd:V7}{C3:V1}
def zZj(C3:V1):Sp:=λe H Q E=>∃(v x:V)(s r:T)(d:Dd),e= [v,x]/\Rep H v s/\T.few s/\T.gk s/\T.dep s<=16/\T.sz s<=5000/\Dlay H x d/\(∀k∈d.2.1,okS k)/\d.2.1...*<=8/\doT d.1 d.2.2 d.2.1 s=Y r/\
 ((∀g,atT d.2.1 s=Y g->d.1≠ .ins->xK g=true)->∀c D a,Same H a->Sp1 a c (ddT (bkD s d)) D->(∀b∈D,H b=none)->Q c a)/\
 (∀g,atT d.2.1 s=Y g->d.1≠ .ins->xK g=false->∀a,Same H a->E (.ref C3) none a)
theorem yCg(F:Fun K "deed_back" "deed_back" sBk1 f fd)(B:Bl mg)(ah:Dn P w K mg base 22 "has" ["thing","path"] yAj)(t:Dn P w K mg base 22 "thing_at" ["thing","path"] spTa)(I:Dx aC P w K mg base 22 "sound" ["thing"] (zUi C3)):FnOk P w K mg base (CXE aC P w) 23 f fd ["stand","deed"] (zZj C3):=by
 refine F.okxn (N:=["stand","deed","word","path","gone"]) λap A ao s H vs Q E nd hr h=>?_;obtain⟨v,x,s,r,d,rfl,hv,hf,hg,hd,hz,⟨tp,pd,rr,rfl,hp,an,aq⟩,ac,ae,aj,q,qx⟩:=h;refine{_,(zD (pS 2 nd (pX vZ (pv 1) zE))
  (zD (pS 3 nd (yU zAy O B.list xZ (zA (pX vZ (pv 1) zE) zB)))
  (zD (zU (i9 (gR (pT xC (pv 2) zO) (gZ (vE (yI (pD ah hr (zA (pv 0) (zA (pv 3) zB)))))))) (zG (zI (vW (zA zO (zA (pv 3) zB))))) zL)
  (zD (pS 4 nd (zDw I hr ∅ O lvs (zA (pD t hr (zA (pv 0) (zA (pv 3) zB))) zB)))
  (zD (zU (i9 (qH (pT xC (pv 2) zO) (jG (vE (yI (pI B.isinstance zJ B.str vY (pX zS (pv 3) (xY xJ zE)))))))) (zG (zI (vW (zA zO (zA (pv 3) (zA (pv 4) zB)))))) zL)
  (zG (zI (vW (zA zO (zA (pv 3) (zA (pv 4) zB))))))))))), ?_}
 walk_at "st";lk;obtain⟨L,a,n⟩:=d;refine wU (SqT.of hp) (yC (j:=0) O) (wU (SqT.of hp) (yC (j:=1) O) {pd,O,_, .inl (SqL.of an),λl hl=>{O, ?_}});show(if V.str L.s=V.str (A5 "insert") then _ else _);let J:Same H (upd H l (.lst (a.map kV))):=zF hl _;let ag:∀{H2:Hp}{p:V1},Same (upd H l (.lst (a.map kV))) H2->H2 p=none->l≠p:=λg h z=>by rw[<-z,g _ _ zC] at h;cases h
 let ai:bkD s (L,a,n)=(.tak,a, .non)->(∀g,atT a s=Y g->L≠ .ins->xK g=true)->∀H2,Same (upd H l (.lst (a.map kV))) H2->∀p,H2 p=none->Q (.ref p) (upd H2 p (.tup [.str (A5 "take"), .ref l])):=λeb pr H2 g2 p m=>by
  refine q pr _ [p,l] _ ((J.trans g2).trans (zF m _)) ?_ λb hb=>?_
  ·rw[eb];exact yCe zC (by rw[zK (ag g2 m)];exact g2 _ _ zC)
  ·rcases mG.mp hb with z | z
   ·rw[z];exact yQ (J.trans g2) m
   ·rw[mF.mp z];exact hl
 by_cases hw:L= .ins
 ·subst hw
  refine iP O λp m=>ai ?_ (λ_ _ z=>absurd O z) _ (Same.refl _) p m;unfold bkD;simp only;cases atT a s<;>rfl
 ·refine iN (λz=>hw ?_) ?_
  ·cases L with|ins=>rfl|put=>exact absurd z ∎|tak=>exact absurd z ∎
  ·refine{v,s,l,a,O,Rep.same J _ _ hv,kH 16 s hd hf,∅,zC,λk M=>(ac k M).k,ae,λH2 g2=>{_,O, ?_}}
   by_cases hL:lds s a
   ·rw[nO (show a...*<(goT s a)...* from hL)]
    refine iN ∎ ?_;refine oEA (jL s a) λu hu ak=>?_;refine oAA (zHk a s u hf ak) λfu du zu=>?_;let ha:atT a s=Y u:=(zVy a s hL).trans hu;refine{v,s,l,a,O,{Rep.same (J.trans g2) _ _ hv,hf,hd,hz,g2 _ _ zC,λk M=>(ac k M).k,ae},hL,λu' y H3 D e3 g3 hy hD=>?_};obtain rfl:u=u':=mW (hu.symm.trans e3);refine{y,u,O,Sp1.rep _ _ _ hy,zUt a s u hf hg ha,fu,∅,λaa H4 g4=>{O, ?_},λaf H4 g4=>qx u ha hw af H4 (((J.trans g2).trans g3).trans g4)};let ab:∀w':Wd,w'≠ .tak->bkD s (L,a,n)=(w',a,u)->∀H5,Same H4 H5->∀p,H5 p=none->Q (.ref p) (upd H5 p (.tup [.str w'.s, .ref l,y])):=λw' am eb H5 g5 p c=>by
     let gA:Same (upd H l (.lst (a.map kV))) H5:=(g2.trans g3).trans (g4.trans g5);let g9:=zF c (HO.tup [V.str w'.s,V.ref l,y]);refine q (λg e _=>by rw[ha] at e;cases e;exact aa) _ (p::l::D) _ ((J.trans gA).trans g9) ?_ λb hb=>?_
     ·rw[eb]
      refine yAy am zC (g9 _ _ (gA _ _ zC)) ((hy.same (g4.trans g5)).same g9) (λz=>?_) λz=>?_
      ·obtain⟨o,ho⟩:=Sp1.there _ _ _ (hy.same (g4.trans g5)) z
       rw[c] at ho;cases ho
      ·let e:=hD l z
       rw[g2 _ _ zC] at e;cases e
     ·rcases mG.mp hb with z | z
      ·rw[z];exact yQ (J.trans gA) c
      ·rcases mG.mp z with z | z
       ·rw[z];exact hl
       ·exact yQ (J.trans g2) (hD b z)
    show(if V.str L.s=V.str (A5 "take") then _ else _)
    cases L with
    |ins=>exact absurd O hw|put=>
     refine iN ∎ λp c=>ab .put (by intro z;cases z) ?_ _ (Same.refl _) p c;unfold bkD;simp only[ha]
    |tak=>
     refine iP O ?_
     cases M:a.getLast? with
     |none=>
      let e:a= []:=aG.mp M;subst e;cases aj
     |some k=>
      let al:(a.map kV).getLast? =Y (kV k):=by rw[List.getLast?_map,M];rfl
      refine yG (SqL.of (g4 _ _ (g3 _ _ (g2 _ _ zC)))) (zBg al) ?_
      cases k with
      |inl i=>
       refine nEA _ O (iP ∎ λp c=>ab .ins (by intro z;cases z) ?_ _ (Same.refl _) p c);unfold bkD;simp only[ha,M]
      |inr z=>
       refine nEA _ O (iN ∎ λp c=>ab .put (by intro z;cases z) ?_ _ (Same.refl _) p c);unfold bkD;simp only[ha,M]
   ·rw[nJ (show¬a...*<(goT s a)...* from hL)]
    refine iP O λp m=>ai ?_ (λg e=>by rw[zNm a s hL] at e;cases e) _ g2 p m;unfold bkD;simp only[zNm a s hL]
end
end K47
namespace K47
open PySem L2 PySem.W
seal L2.PSs L2.PS L2.PE L2.PT L2.PW L2.PA L2.PI L2.PG L2.PGs L2.PPs L2.PTs
abbrev zZz:V6:=top 49
noncomputable def gn1(s:T)(d:Dd):Bool:=match atT d.2.1 s with
 |none=>true|some g=>match d.1 with
  |.ins=>true|_=>xK g
theorem gn1_all{s:T}{d:Dd}:gn1 s d=true↔∀g,atT d.2.1 s=Y g->d.1≠ .ins->xK g=true:=by
 unfold gn1
 cases atT d.2.1 s with
 |none=>exact{λ_ g e=>(nomatch e),λ_=>O}|some u=>
  cases a:d.1 with|ins=>exact{λ_ g _ z=>absurd O z,λ_=>O}|put=>exact{λh g e _=>by cases e;exact h,λh=>h u O (by intro z;cases z)}|tak=>exact{λh g e _=>by cases e;exact h,λh=>h u O (by intro z;cases z)}
noncomputable def gns:List Dd->T->Bool
 | [],_=>true|d::a,t=>gn1 t d && (match doT d.1 d.2.2 d.2.1 t with
  | some r=>gns a r|none=>true)
theorem zLw{d:Dd}{ds:C4}{t r:T}(h:doT d.1 d.2.2 d.2.1 t=Y r):gns (d::ds) t=(gn1 t d && gns ds r):=by
 show(gn1 t d && (match doT d.1 d.2.2 d.2.1 t with
  | some r=>gns ds r|none=>true))=_
 rw[h]
theorem zFv:∀(ds:C4)(k m:Nat)(t r:T),xT k ds t= .inr r->RJ m ds t->(stands ds t)...*=ds...*+1/\(qE ds t)...*=ds...*/\
  ∀(i:Nat) d,ds[i]? =Y d->∃s q g,(stands ds t)[i]? =Y s/\doT d.1 d.2.2 d.2.1 s=Y q/\RJ g (d::ds.drop (i+1)) s/\(qE ds t).reverse[i]? =Y (bkD s d)/\(gn1 s d=false->gns ds t=false)
 |[],k,m,t,r,h,J=>{O,O,λi d e=>by cases e}|d0::ds,k,m,t,r,h,J=>by
  cases f:doT d0.1 d0.2.2 d0.2.1 t with
  |none=>rw[jZ f] at h;cases h|some q=>
   rw[jB f] at h;obtain⟨a,b,c⟩:=zFv ds (k+1) (m+1) q r h (J.step f);rw[uY f,zAz f,zLw f];refine nAA (by rw[mP,a];rfl) (by rw[mK,b];rfl) (λi d e=>?_);rw[List.reverse_append]
   cases i with
   |zero=>
    cases e;exact kE t q m O f (nAA J O (λz=>by rw[z];rfl))
   |succ i=>
    refine zZ (c i d e) λs j g o p u=>?_;ext oAA u n v l;exact kE s j g o p (nAA n v (λz=>by rw[l z,aP]))
theorem zNj:∀(ds:C4)(k:Nat)(t r:T),xT k ds t= .inr r->(∀(i:Nat) d s,ds[i]? =Y d->(stands ds t)[i]? =Y s->gn1 s d=true)->gns ds t=true
 |[],k,t,r,h,_=>rfl|d0::ds,k,t,r,h,z=>by
  cases a:doT d0.1 d0.2.2 d0.2.1 t with
  |none=>rw[jZ a] at h;cases h|some q=>
   rw[jB a] at h;rw[zLw a,z 0 d0 t O (by rw[uY a];rfl),zNj ds (k+1) q r h λi d s c b=>z (i+1) d s c (by rw[uY a];exact b)]
   rfl
theorem l9{H:Hp}:∀{vs:B3}{ts:B0}{D:B9},Sps H vs ts D->∃a,Sps H vs.reverse ts.reverse a/\∀b∈a,b∈D
 |vs,[],D,e=>by
  obtain⟨d,c⟩:=e;subst d c;exact nEA ([]) ⟨O,O⟩ (λ_ z=>z)
 |vs,t::ts,D,⟨v,r,i,l,d,c,k,h,n⟩=>by
  subst d c;obtain⟨a,j,g⟩:=l9 h;rw[aU,aU];refine nEA (a++i) (Sps.snoc k j λb f z=>n b z (g b f)) (λb f=>(nE.mp f).elim (λz=>nB _ (g b z)) λz=>nW _ z)
section
variable{P:V3}{w:V4}{K:PySem.W.Frag}{mg:C8}{base:V5}{f:V1}{fd:V7}{C2 C3:V1}
def zMn(C2 C3:V1):Sp:=λh H Q E=>∃(v:V)(e:V1)(d:B3)(t:T)(a:C4)(m:Nat),h= [v, .ref e]/\Rep H v t/\H e=Y (.lst d)/\Dlays H d a/\RJ m a t/\
 (∀r,xT 0 a t= .inr r->xK r=true->gns a t=true->∀l g D c,Same H c->H l=none->c l=Y (.lst g)->Sps c g ((qE a t).map ddT) D->(∀b∈D,H b=none/\b≠l)->Q (.ref l) c)/\
 (∀r,xT 0 a t= .inr r->(xK r && gns a t)=false->∀c,Same H c->E (.ref C3) none c)/\(∀i:Nat,xT 0 a t= .inl i->XNo C2 (i:Int) H E)
theorem zXl(F:Fun K "back" "back" zZz f fd)(B:Bl4 mg)(aj:mg "reversed" =none)(e:Dx aC P w K mg base 25 "stands_of" ["thing","paper"] (yCp C2 C3))(k:Dx aC P w K mg base 25 "deed_back" ["stand","deed"] (zZj C3)):FnOk P w K mg base (CXE aC P w) 26 f fd ["thing","paper"] (zMn C2 C3):=by
 refine F.okxn (N:=["thing","paper","stands","deeds"]) λay A aq s H vs Q E nd hr h=>?_;ext zY h v pa xs t I J;ext wS J m ao hv M hD J;ext xI J hI q qx qn;subst ao;refine{_,(zD (zCm (i:=2) nd O (aX O) (zDw e hr ∅ O lvs (zA (pv 0) (zA (pv 1) zB))))
  (zD (zUr (i:=3) nd O (nR O) (own:=["number","deed"]) (F:=[("stands",2)]) {O,tb_g%,tb_g%,tb_g%,(.cons O O O .nil)} O (zOd O B.enumerate (zA (pv 1) zB)) (λ_ _ _ _=>zPi (K:=K) (n:=2) O O (qQ (yH (i:=0) (by show(wN ["number","deed"] [("stands",2)]).Nodup;decide+kernel) O (nR O)) (qQ (yH (i:=1) (by show(wN ["number","deed"] [("stands",2)]).Nodup;decide+kernel) O (nR O)) zDd))) (λ_ _ _ _=>xU) (λ_ _ _ _ _ _ hp=>(zNy k hr ∅ O hp (zA (pX (zUa (K:=K) O) (pv 2) (pv 0)) (zA (pv 1) zB)))) lvs)
  (zG (zI (zLq O O B.list O aj (pv 3)))))), ?_}
 walk_at "st";unfold zSx;lk;refine{v,pa,xs,t,I,m,O,hv,M,hD,hI,λr c hg l ys y H1 g1 hl hy a6 ax hz hR=>?_,λr c hg=>qx r c (by rw[hg];rfl),qn};refine oAA (zFv I 0 m t r c hI) λa1 a2 a3=>?_;let a5:=hD.1;let a0:=hI.m1;let az:=hR...*;refine{{_,SqL.of (g1 _ _ M)}, ?_};refine zPw (K:=K) (xs:=xs) (λi zs H'=>Same H1 H'/\(∀(j:Nat) d s,j<i->I[j]? =Y d->(stands I t)[j]? =Y s->gn1 s d=true)/\∃D,Sps H' zs (((qE I t).reverse.take i).map ddT) D/\∀b∈D,H1 b=none) (by rw[mV];lia) {Same.refl _,(λj d s h=>absurd h (sK _)),[],⟨O,O⟩,λ_ h=>nomatch h} (λi zs H' _ h=>SqL.of (h.1 _ _ (g1 _ _ M))) ?_ ?_
 ·intro i x zs H2 p hx _ J
  ext yAo J g2 ae D hS ag;intro hp;let av:=(mN.mp hx).1;let ac:I[i]? =some I[i]:=mU ∅;refine zZ (a3 i _ ac) λs q' m' b1 b2 J=>?_;ext oAA J b3 b4 b5;let L:=zF hp (.tup [V.int (i:Int),x]);let g3:=g2.trans L;let aa:=hS.same L;generalize upd H2 p (.tup [V.int (i:Int),x])=H3 at L g3 aa⊢;let ah:(ys++ [y])[i]? =Y ((ys++ [y])[i]'∅):=mU _;generalize (ys++ [y])[i]'∅=sv at ah;refine oEA (hR.get ah) λs' al ak=>?_;obtain rfl:s=s':=mW (b1.symm.trans al);let a4:=b3.z;let aw:=b3.d;let od:=b3.o _ mE;lk;refine yG (SqL.of (g3 _ _ hl)) (yC ah) ⟨sv,x,s,q',I[i],O,Rep.same g3 _ _ ak,b3.few,b3.g,∅,∅,((hD.2 i x _ hx ac).same g1).same g3,od.s,od.l,b2,λan v' D' H4 g4 am ai=>?_,λg e1 e2 e3 H4 g4 a o ha=>?_⟩
  ·let ap:gn1 s I[i]=true:=gn1_all.mpr an
   refine nAAEA (g3.trans g4) (λj d u hj h1 h2=>?_) (D++D') ?_ (λb hb=>(nE.mp hb).elim (ag b) λz=>yQ g3 (ai b z))
   ·rcases(show j<i\/j=i by lia) with z | z
    ·exact ae j d u z h1 h2
    ·subst z
     rw[ac] at h1;rw[b1] at h2;cases h1;cases h2;exact ap
   ·rw[yN b4,nH]
    refine Sps.snoc am (aa.same g4) λb hb z=>?_;obtain⟨o,ho⟩:=Sps.there _ _ _ aa hb;rw[ai b z] at ho;cases ho
  ·let ar:gn1 s I[i]=false:=by
    cases hc:gn1 s I[i] with|false=>rfl|true=>rw[gn1_all.mp hc g e1 e2] at e3;cases e3
   exact qx r c (by rw[b5 ar,aP]) _ (g1.trans (g3.trans (g4.trans (zF ha o))))
 ·intro zs H2 _ J
  ext yAo J g2 ae D hS ag;intro p hp;rw[rH (by rw[bT];lia)] at hS;refine oEA (l9 hS) λD' af au=>?_;rw[<-List.map_reverse,List.reverse_reverse] at af;let L:=zF hp (.lst zs);refine{p,zs,O,SqL.of zC,λp2 ab=>?_};let s4:=zF ab (.lst zs.reverse);refine q r c hg (zNj I 0 t r c λj d u h1 h2=>ae j d u (by let:=(mN.mp h1).1;lia) h1 h2) p2 _ D' _ (g1.trans (g2.trans (L.trans s4))) (yQ (g1.trans (g2.trans L)) ab) zC ((af.same L).same s4) λb hb=>{yQ g1 (ag b (au b hb)),λz=>?_};obtain⟨o,ho⟩:=Sps.there _ _ _ (af.same L) hb;rw[z,ab] at ho;cases ho
end
end K47
namespace K47
open PySem L2
noncomputable def uF:List Key->List Key->Bool
 |k::c,b::a=>if k=b then uF c a else k.isRight && b.isRight|_,_=>false
noncomputable def zKi(o:Option T)(z:List Nat)(a:C6)(us:B0):T:=match o with|some v=>.dic (yZ (a,us) z v).1 (yZ (a,us) z v).2|none=>.dic (xF z a) (yS z a us)
noncomputable def atN(z:List Nat)(a:C6)(us:B0):Option T:=if z∈a then Y (zV z a us) else none
theorem zVp{w:Wd}{n:T}{z:Str}{r:B8}{c:C6}{us:B0}{j:T}(h:doT w n (.inr z::r) (.dic c us)=Y j):∃o,j=zKi o (ts z) c us/\(o=none->ts z∈c)/\∀a b,atN (ts z) a b=atN (ts z) c us->doT w n (.inr z::r) (.dic a b)=Y (zKi o (ts z) a b):=by
 cases r with
 |nil=>
  let f:(if xO w (.dic c us) (.inr z)=true then Y (yB w (.dic c us) (.inr z) n) else none)=Y j:=h
  cases w with
  |ins=>cases f|put=>
   cases f;exact{Y n,O,(λe=>nomatch e),λa b _=>O}
  |tak=>
   by_cases g:ts z∈c
   ·let k:∀a b,ts z∈a->xO .tak (.dic a b) (.inr z)=true:=λa b d=>by
     show(zP (.dic a b) (.inr z)).isSome=true;rw[show zP (.dic a b) (.inr z)=Y (zV (ts z) a b) from mJ d];rfl
    rw[mJ (k c us g)] at f;cases f;refine{none,O,λ_=>g,λa b e=>?_};let d:ts z∈a:=by
     unfold atN at e;rw[mJ g] at e
     by_cases y:ts z∈a
     ·exact y
     ·rw[mH y] at e;cases e
    exact mJ (k a b d)
   ·rw[mH (by
     show¬(zP (.dic c us) (.inr z)).isSome=true;rw[show zP (.dic c us) (.inr z)=none from mH g];exact mX)] at f
    cases f
 |cons m r=>
  let st:∀a b,zP (.dic a b) (.inr z)=atN (ts z) a b:=λ_ _=>O;rw[wH (by simp),st] at h
  cases l:atN (ts z) c us with
  |none=>rw[l] at h;cases h|some s=>
   rw[l] at h
   cases i:doT w n (m::r) s with
   |none=>simp only[i] at h;cases h|some v=>
    simp only[i] at h;cases h;refine{Y v,O,(λe=>nomatch e),λa b e=>?_};rw[wH (by simp),st,e];simp only[i]
    rfl
theorem vU(o:Option T)(z:List Nat)(c:C6)(us:B0):∃a b,zKi o z c us= .dic a b/\(c.Nodup->a.Nodup)/\(c...*=us...*->a...*=b...*)/\(∀q,q∈a↔(q=z/\o.isSome)\/(q≠z/\q∈c))/\(c...*=us...*->∀q,q≠z->q∈c->zV q a b=zV q c us)/\(c...*=us...*->∀v,o=Y v->zV z a b=v):=by
 cases o with
 |some v=>
  refine{_,_,O,kY,λh=>(L2.uI h).1,λq=>?_,λh q d f=>?_,λh g e=>?_}
  ·rw[putT_in]
   by_cases e:q=z
   ·exact{λ_=>.inl ⟨e,O⟩,λ_=>.inr e}
   ·exact{λx=>.inr {e,x.resolve_right e},λx=>.inl ((x.resolve_left λy=>e y.1).2)}
  ·rw[(uQ h (.inl f)).2,mH d]
  ·cases e
   rw[(uQ h (.inr O)).2,mJ O]
 |none=>
  refine{_,_,O,vK,λh=>(zBd h).1,λq=>?_,λh q d _=>kP d h,λh v e=>nomatch e};rw[dropN_mem];exact{λx=>.inr ⟨x.2,x.1⟩,λx=>x.elim (λy=>nomatch y.2) λy=>⟨y.2,y.1⟩}
theorem zGd{o:Option T}{z q:List Nat}{c:C6}{us:B0}(i:c...*=us...*)(f:q≠z){b:C6}{d:B0}(e:zKi o z c us= .dic b d):atN q b d=atN q c us:=by
 obtain⟨j,h,g,_,_,m,l,_⟩:=vU o z c us;rw[e] at g;cases g;unfold atN
 by_cases y:q∈c
 ·rw[mJ y,mJ ((m q).mpr (.inr ⟨f,y⟩)),l i q f y]
 ·rw[mH y,mH λx=>((m q).mp x).elim (λa=>f a.1) λa=>y a.2]
theorem zVi{o r:Option T}{z g:List Nat}{j a b c d:C6}{us B s w t:B0}(hz:z≠g)(nd:j.Nodup)(k:j...*=us...*)(I:T.few (.dic b s))
  (e1:zKi o z j us= .dic a B) (e2:zKi r g a B= .dic b s) (e3:zKi r g j us= .dic c w) (e4:zKi o z c w= .dic d t):Eqc (.dic b s) (.dic d t):=by
 obtain⟨_,_,N,n1,l1,D,k1,v1⟩:=vU o z j us;rw[e1] at N;cases N;obtain⟨_,_,Q,n2,l2,E,J,v2⟩:=vU r g a B;rw[e2] at Q;cases Q;obtain⟨_,_,L,n3,l3,m3,k3,v3⟩:=vU r g j us;rw[e3] at L;cases L;obtain⟨_,_,M,n4,l4,m4,k4,v4⟩:=vU o z c w;rw[e4] at M;cases M;let na:=n1 nd;let nb:=n2 na;let nc:=n3 nd;let A:=n4 nc;let H:=l1 k;let lc:=l3 k;let i:∀q,q∈b↔q∈d:=λq=>by
  rw[E,D,m4,m3]
  by_cases y:q=z
  ·subst y
   simp[hz]
  ·by_cases h:q=g
   ·subst h
    simp[Ne.symm hz]
   ·simp[y,h]
 let pm:b.Perm d:=(List.perm_ext_iff_of_nodup nb A).mpr i;refine(wK nb).mpr {pm.length_eq,λq p=>{(i q).mp p, ?_}};let e:zV q b s=zV q d t:=by
  by_cases y:q=z
  ·subst y
   let f:=(((E q).mp p).resolve_left λx=>hz x.1).2;let u:=(((D q).mp f).resolve_right λx=>x.1 O).2;obtain⟨v,m⟩:=aJ.mp u;rw[J H q hz f,v1 k v m,v4 lc v m]
  ·let l:q∈c:=(((m4 q).mp ((i q).mp p)).resolve_left λx=>y x.1).2
   rw[k4 lc q y l]
   by_cases h:q=g
   ·subst h
    let u:=(((m3 q).mp l).resolve_right λx=>x.1 O).2;obtain⟨v,m⟩:=aJ.mp u;rw[v2 H v m,v3 k v m]
   ·let f:=(((E q).mp p).resolve_left λx=>h x.1).2
    let n:=(((D q).mp f).resolve_left λx=>y x.1).2;rw[J H q h f,k1 k q y n,k3 k q h n]
 show Eqc _ _;rw[<-e];exact Eqc.refl (wI I.2.2.1 p I.2.2.2)
theorem yCs{t s a b:T}{k:Key}(f:T.few t)(o:zP t k=Y s):yB .put (yB .put t k a) k b=yB .put t k b:=by
 rcases vN o with⟨m,i,rfl,rfl,y,h⟩|⟨d,m,x,rfl,rfl,n,_,h⟩
 ·let g:=kX (r:=a) f o
  rw[h] at g⊢;rcases vN g with⟨p,v,e,j,_,c⟩|⟨_,_,_,e,_⟩
  ·cases e;cases j
   rw[c,h,List.set_set]
  ·cases e
 ·let g:=kX (r:=a) f o
  rw[h] at g⊢;rcases vN g with⟨_,_,e,_⟩|⟨q,u,w,e,j,_,_,c⟩
  ·cases e
  ·cases e;cases j
   rw[c,h]
   congr 1
   let l:=f.2.2.1;rw[kI d m f.1 l n,kI d m f.1 l n,kI d _ f.1 (by rw[bJ];exact l) n,List.set_set]
theorem zNw{w N:Wd}{n J:T}:∀(ks l:B8)(t M t2:T),uF ks l=true->T.few t->T.few t2->doT w n ks t=Y M->doT N J l M=Y t2->∃A D,doT N J l t=Y A/\doT w n ks A=Y D/\Eqc t2 D
 |[],_,_,_,_,h,_,_,_,_=>by cases h|_::_,[],_,_,_,h,_,_,_,_=>by cases h|k::r,I::H,t,M,t2,h,g,B,j,q=>by
  let p:(if k=I then uF r H else k.isRight && I.isRight)=true:=h
  by_cases e:k=I
  ·subst e
   rw[mJ O] at p;let nr:r≠ []:=λz=>by subst z;cases p
   let x:H≠ []:=λz=>by subst z;cases r<;>cases p
   rw[wH nr] at j
   cases f:zP t k with
   |none=>rw[f] at j;cases j|some s=>
    rw[f] at j
    cases hd:doT w n r s with
    |none=>simp only[hd] at j;cases j|some v=>
     simp only[hd] at j;cases j;rw[wH x,kX g f] at q
     cases m:doT N J H v with
     |none=>simp only[m] at q;cases q|some u=>
      simp only[m] at q;cases q;let fX:T.few (yB .put t k u):=by
       let z:T.few (yB .put (yB .put t k v) k u):=B
       rwa [yCs g f] at z
      let L:=vT fX (kX (r:=u) g f);obtain⟨A,D,a1,a2,a3⟩:=zNw r H s v u p (vT g f) L hd m;refine{yB .put t k A,yB .put (yB .put t k A) k D, ?_, ?_, ?_}
      ·rw[wH x,f]
       simp only[a1]
       rfl
      ·rw[wH nr,kX g f]
       simp only[a2]
       rfl
      ·show Eqc (yB .put (yB .put t k v) k u) _
       rw[yCs g f,yCs g f];exact zDp g g (Eqc.refl g) (zJu f) a3
  ·rw[mH e,nX] at p
   cases k with
   |inl i=>cases p.1|inr z=>
    cases I with
    |inl i=>cases p.2|inr E=>
     let Q:ts z≠ts E:=λy=>e (by rw[<-qC z,<-qC E,y])
     cases t with
     |dic f us=>
      obtain⟨nd,_,hl,fu⟩:=g;obtain⟨o,e1,g1,q1⟩:=zVp j;obtain⟨a,ua,f1,_⟩:=vU o (ts z) f us;rw[f1] at e1;subst e1;obtain⟨o',e2,g2,q2⟩:=zVp q;let aN:=zGd hl Q.symm f1;let h3:=q2 f us aN.symm;obtain⟨c,uc,f3,_⟩:=vU o' (ts E) f us;rw[f3] at h3;let h4:=q1 c uc (zGd hl Q f3);obtain⟨d,ud,f4,_⟩:=vU o (ts z) c uc;rw[f4] at h4;obtain⟨b,ub,f2,_⟩:=vU o' (ts E) a ua;rw[f2] at e2;subst e2;exact{_,_,h3,h4,zVi Q nd hl B f1 f2 f3 f4}
     |_=>cases r<;>cases w<;>cases j
theorem RJ.perm{m:Nat}{a b:C4}{s:T}(h:RJ m a s)(p:a.Perm b):RJ m b s:={h.f,h.m0,by rw[<-p.length_eq];exact h.m1,h.g,h.d,by rw[<-p.length_eq];exact h.z,λd c=>h.o d (p.mem_iff.mpr c)}
theorem zDu{d:Dd}{ds:C4}{t u:T}(h:wE (d::ds) t=Y u):∃r,doT d.1 d.2.2 d.2.1 t=Y r/\wE ds r=Y u:=by
 cases a:doT d.1 d.2.2 d.2.1 t with
 |none=>
  rw[show wE (d::ds) t=(doT d.1 d.2.2 d.2.1 t).bind (wE ds) from O,a] at h;cases h
 |some r=>rw[kD a] at h;exact⟨r,O,h⟩
theorem zIb:∀(ds:C4)(m b:Nat)(t t' u:T),RJ m ds t->RJ b ds t'->Eqc t t'->wE ds t=Y u->∃a,wE ds t'=Y a/\Eqc u a
 |[],m,b,t,t',u,_,_,e,h=>by cases h;exact⟨t',O,e⟩|d::ds,m,b,t,t',u,J,c,e,h=>by
  obtain⟨r,g,i⟩:=zDu h;obtain⟨j,f,l⟩:=zMf (Eqc.refl (c6 ∎ _ (J.o d mE).f)) d.2.1 t t' r J.few c.few e g;obtain⟨a,k,n⟩:=zIb ds (m+1) (b+1) r j u (J.step g) (c.step f) l i;exact{a,by rw[kD f];exact k,n}
theorem zLl{d:Dd}:∀(f:C4)(m:Nat)(t g t2:T),RJ m (d::f) t->(∀e∈f,uF d.2.1 e.2.1=true)->doT d.1 d.2.2 d.2.1 t=Y g->wE f g=Y t2->∃k h,wE f t=Y k/\doT d.1 d.2.2 d.2.1 k=Y h/\Eqc t2 h
 |[],m,t,g,t2,J,_,i,n=>by
  cases n;exact{t,g,O,i,Eqc.refl (J.step i).few}
 |e::f,m,t,g,t2,J,y,i,n=>by
  obtain⟨a,v,q⟩:=zDu n;let H:=J.step i;let l:=H.step v;obtain⟨b,c,w,s,E⟩:=zNw d.2.1 e.2.1 t g a (y e mE) J.few l.few i v;let o:RJ (m+1) (d::f) b:=(J.perm (List.Perm.swap e d f)).step w;let u:=o.step s;obtain⟨j,r,z⟩:=zIb f (m+1+1) (m+1+1) a c t2 l u E q;obtain⟨k,h,x,p,N⟩:=zLl f (m+1) b c j o (λB M=>y B (mI _ M)) s r;let I:T.few t2:=(RJ.run (a:=f) (b:=[]) (by rw[nS];exact l) q).few;let L:T.few j:=(RJ.run (a:=f) (b:=[]) (by rw[nS];exact u) r).few;let A:RJ (m+1+f...*) [d] k:=RJ.run (a:=f) (b:=[d]) (o.perm (sI (l₁:=[d]) (l₂:=f))) x;let D:T.few h:=(A.step p).few;exact{k,h,by rw[kD w];exact x,p,Eqc.trans I L D z N}
theorem zIy:∀(as c:C4)(m:Nat)(t u:T),RJ m (as++c) t->(∀d∈as,∀e∈c,uF d.2.1 e.2.1=true)->wE (as++c) t=Y u->∃z,wE (c++as) t=Y z/\Eqc u z
 |[],c,m,t,u,J,_,h=>by
  let f:T.few u:=(RJ.run (a:=c) (b:=[]) (by rw[nS];exact J) h).few;exact{u,by rw[nS];exact h,Eqc.refl f}
 |d::as,c,m,t,u,J,D,h=>by
  obtain⟨j,w,q⟩:=zDu h;let n:RJ (m+1) (as++c) j:=RJ.step (ds:=as++c) J w;obtain⟨o,g,E⟩:=zIy as c (m+1) j u n (λd' M=>D d' (mI _ M)) q;rw[zAc] at g
  cases k:wE c j with
  |none=>rw[k] at g;cases g|some x=>
   rw[k] at g;let i:wE as x=Y o:=g;let Jd:RJ m (d::c) t:=by
    let p:(d::as++c).Perm ((d::c)++as):=(sI (l₁:=as) (l₂:=c)).cons d;exact(J.perm p).pre
   obtain⟨N,r,B,v,Q⟩:=zLl c m t j x Jd (D d mE) w k;let y:RJ (m+1+c...*) as x:=RJ.run (a:=c) (b:=as) (n.perm sI) k;let s:RJ (m+c...*+1) as r:=(RJ.run (a:=c) (b:=d::as) (J.perm sI) B).step v;obtain⟨l,A,H⟩:=zIb as _ _ x r o y s Q i;let f0:T.few u:=(RJ.run (a:=as++c) (b:=[]) (by rw[nS];exact n) q).few;let I:T.few o:=(RJ.run (a:=as) (b:=[]) (by rw[nS];exact y) i).few;let L:T.few l:=(RJ.run (a:=as) (b:=[]) (by rw[nS];exact s) A).few;refine{l, ?_,Eqc.trans f0 I L E H};rw[zAc,B];show wE (d::as) N=Y l;rw[kD v];exact A
seal L2.PSs L2.PS L2.PE L2.PT L2.PW L2.PA L2.PI L2.PG L2.PGs L2.PPs L2.PTs
abbrev sAre:V6:=top 21
abbrev sAll:V6:=top 20
abbrev zWk:V6:=top 19
theorem zLg:∀{i:Nat}{xs ys:B8}{x y:Key},xs[i]? =Y x->ys[i]? =Y y->uF (xs.drop i) (ys.drop i)=if x=y then uF (xs.drop (i+1)) (ys.drop (i+1)) else x.isRight && y.isRight
 |0,x::xs,y::ys,_,_,b,a=>by
  simp only[pJ,Option.some.injEq] at b a;subst b a
  rfl
 |i+1,x::xs,y::ys,_,_,b,a=>by
  simp only[aS] at b a
  simpa using zLg b a
 |_,[],_,_,_,b,_=>by simp at b|_,_::_,[],_,_,_,a=>by simp at a
theorem zWz{i:Nat}{xs ys:B8}(h:i=xs...*\/i=ys...*):uF (xs.drop i) (ys.drop i)=false:=by
 rcases h with rfl | rfl
 ·rw[sS];rfl
 ·rw[sS]
  cases xs.drop ys...*<;>rfl
theorem zTe{k k':Key}(h:kV k=kV k'):k=k':=by
 cases k with
 |inl i=>cases k' with
  |inl j=>cases h;rfl|inr z=>cases h
 |inr y=>cases k' with
  |inl j=>cases h|inr z=>cases h;rfl
section
variable{P:V3}{w:V4}{K:A6}{mg:C8}{base:V5}{f:V1}{fd:V7}
def zZu:Sp:=λg H Q _=>∃(a b:V1)(c d:B8),g= [.ref a, .ref b]/\H a=Y (.lst (c.map kV))/\H b=Y (.lst (d.map kV))/\c...*<=8/\d...*<=8/\∀e,Same H e->Q (.bl (uF c d)) e
theorem yBb(F:Fun K "are_apart" "are_apart" sAre f fd)(B:Bl6 mg):FnOk P w K mg base CX0 1 f fd ["path","against"] zZu:=by
 refine F.okn (N:=["path","against","step","other"]) λac A v s H vs Q E L hr h=>?_;obtain⟨a,b,u,r,rfl,J,I,ab,aa,q⟩:=h;refine{_,(zD (qI PassesOwn.never O (yCq O B.zip (zA (pv 0) (zA (pv 1) zB))) (zLr (n:=2) O (qQ (yH (i:=2) L O (nR O)) (qQ (yH (i:=3) L O (nR O)) zDd))) (zG (zU (pT zGq (pv 2) (pv 3)) (zG (zI (qA (pI B.isinstance zJ B.str vY (pv 2)) (vR (pI B.isinstance zJ B.str vY (pv 3)))))) zL)))
  (zG (zI qT))), ?_}
 walk_at "st";lk;refine{a,b,⟨O,O⟩,{_,SqL.of J},{_,SqL.of I}, ?_};refine zSo (xs:=u.map kV) (ys:=r.map kV) (λi σ l=>(∃o m,σ= [Y (V.ref a),Y (V.ref b),o,m])/\Same H l/\uF u r=uF (u.drop i) (r.drop i)) {⟨_,_,O⟩,Same.refl _,O} (λi σ l h=>{SqL.of (h.2.1 _ _ J),SqL.of (h.2.1 _ _ I)}) ?_ ?_
 ·rintro i x y σ l p hx M ⟨⟨o,m,rfl⟩,g,d⟩ hp
  let g2:=g.trans (zF hp (.tup [x,y]));rw[nG] at hx M;obtain⟨k,hk,rfl⟩:=rG.mp hx;obtain⟨e,t,rfl⟩:=rG.mp M;rw[zLg hk t] at d;lk;refine{_,SqT.of zC,O,_,_,O,_,[],O,O, ?_,!decide (kV k=kV e),by simp, ?_}
  ·cases k<;>cases e<;>rfl
  by_cases c:k=e
  ·rw[mJ c] at d
   rw[nO (congrArg kV c),mH ∎];exact{⟨_,O⟩,g2,d}
  ·rw[mH c] at d
   rw[nJ λz=>c (zTe z),mJ ∎];rw[d] at q
   cases k with
   |inl j=>exact{"int",O,iN ∎ (q _ g2)}|inr z=>
    refine{"str",O,iP ∎ ?_}
    cases e with|inl j=>exact{"int",O,q _ g2}|inr z'=>exact{"str",O,q _ g2}
 ·rintro i σ l D _ _ ⟨⟨o,m,rfl⟩,g,d⟩
  lk;rw[mM,mM] at D;rw[zWz D] at d;rw[<-d];exact q _ g
def yAh:Sp:=λi H Q _=>∃(a b:V1)(e:B8)(g:B3)(c:C4),i= [.ref a, .ref b]/\H a=Y (.lst (e.map kV))/\e...*<=8/\H b=Y (.lst g)/\Dlays H g c/\c...*<=100/\(∀d∈c,Od d)/\∀h,Same H h->Q (.bl (c.all λd=>uF e d.2.1)) h
theorem yEa(F:Fun K "apart_from_all" "apart_from_all" sAll f fd)(B:Bl6 mg)(c:Dn P w K mg base 1 "are_apart" ["path","against"] zZu):FnOk P w K mg base CX0 2 f fd ["path","paper"] yAh:=by
 refine F.okn (N:=["path","paper"]) λaa A t s H vs Q E nd hr h=>?_;obtain⟨a,b,y,L,n,rfl,M,p,x,z,I,hO,q⟩:=h;let o:=z.1;refine{_,(zG (zI (zN (kJ O) O B.all zBx (zA (wW (own:=["deed"]) (F:=[("path",0)]) {O,tb_g%,tb_g%,tb_g%,(.cons O O O .nil)} O (wM (pv 1)) (λ_ _ _ _=>yH (i:=0) (by show(wN ["deed"] [("path",0)]).Nodup;decide+kernel) O (nR O)) (λ_ _ _ _=>xU) (λ_ _ _ _=>(pD c hr (zA (pv 1) (zA (pX (zOa (K:=K) O) (pv 0) zE) zB))))) zB)))), ?_};walk_at "st";lk;refine{{_,SqL.of x}, ?_};refine qL (K:=K) (xs:=L) (λi k m=>Same H m/\k=((n.take i).map λd=>uF y d.2.1).map V.bl) (by rw[mV];lia) {Same.refl _,O} (λi k m _ h=>SqL.of (h.1 _ _ x)) ?_ ?_
 ·rintro i v k m u _ ⟨g,rfl⟩
  let D:=(mN.mp u).1;let e:n[i]? =some n[i]:=mU ∅;obtain⟨tp,pd,r,rfl,k1,J,_⟩:=z.2 i v _ u e;lk;refine wU (SqT.of (g _ _ k1)) (yC (j:=1) O) {a,pd,y,n[i].2.1,O,g _ _ M,g _ _ J,p,(hO _ (mO e)).l,λH3 g3=>{g.trans g3, ?_}};rw[yN e,nH,nH];rfl
 ·rintro k m _ ⟨g,rfl⟩ l hl
  rw[o,pH];refine{l,O,_,SqL.of zC, ?_};rw[aK];exact q _ (g.trans (zF hl _))
def zOk:Sp:=λi H Q _=>∃(a b:V1)(e g:B3)(as c:C4),i= [.ref a, .ref b]/\H a=Y (.lst e)/\Dlays H e as/\as...*<=100/\(∀d∈as,Od d)/\H b=Y (.lst g)/\Dlays H g c/\c...*<=100/\(∀d∈c,Od d)/\∀h,Same H h->Q (.bl (as.all λa=>c.all λd=>uF a.2.1 d.2.1)) h
theorem zVc(F:Fun K "apart" "apart" zWk f fd)(B:Bl6 mg)(c:Dn P w K mg base 2 "apart_from_all" ["path","paper"] yAh):FnOk P w K mg base CX0 3 f fd ["one","other"] zOk:=by
 refine F.okn (N:=["one","other"]) λaa A p s H vs Q E nd hr h=>?_;obtain⟨a,b,xs,L,as,z,rfl,y,x,J,t,M,hP,n,hO,q⟩:=h;let o:=x.1;refine{_,(zG (zI (zN (kJ O) O B.all zBx (zA (wW (own:=["deed"]) (F:=[("other",1)]) {O,tb_g%,tb_g%,tb_g%,(.cons O O O .nil)} O (wM (pv 0)) (λ_ _ _ _=>yH (i:=0) (by show(wN ["deed"] [("other",1)]).Nodup;decide+kernel) O (nR O)) (λ_ _ _ _=>xU) (λ_ _ _ _=>(pD c hr (zA (pX (zOa (K:=K) O) (pv 0) zE) (zA (pv 1) zB))))) zB)))), ?_};walk_at "st";lk;refine{{_,SqL.of y}, ?_};refine qL (K:=K) (xs:=xs) (λi k m=>Same H m/\k=((as.take i).map λa=>z.all λd=>uF a.2.1 d.2.1).map V.bl) (by rw[mV];lia) {Same.refl _,O} (λi k m _ h=>SqL.of (h.1 _ _ y)) ?_ ?_
 ·rintro i v k m u _ ⟨g,rfl⟩
  let D:=(mN.mp u).1;let e:as[i]? =some as[i]:=mU ∅;obtain⟨tp,pd,r,rfl,k1,I,_⟩:=x.2 i v _ u e;lk;refine wU (SqT.of (g _ _ k1)) (yC (j:=1) O) {pd,b,as[i].2.1,L,z,O,g _ _ I,(t _ (mO e)).l,g _ _ M,hP.same g,n,hO,λH3 g3=>{g.trans g3, ?_}};rw[yN e,nH,nH];rfl
 ·rintro k m _ ⟨g,rfl⟩ l hl
  rw[o,pH];refine{l,O,_,SqL.of zC, ?_};rw[aK];exact q _ (g.trans (zF hl _))
abbrev sBw:V6:=top 69
abbrev sRd:V6:=top 70
noncomputable def blw(z:Str)(d:Dd):Dd:=(d.1,(.inr z::d.2.1).take 8,d.2.2)
def spBw:Sp:=λh H Q _=>∃(g:V1)(z:Str)(c:B3)(b:C4),h= [.ref g, .str z]/\H g=Y (.lst c)/\Dlays H c b/\b...*<=100/\(∀d∈b,Od d)/\∀l e a,Same H a->a l=Y (.lst e)->Dlays a e (b.map (blw z))->Q (.ref l) a
theorem ok_bw{k:Nat}(F:Fun K "_law_below" "_law_below" sBw f fd)(B:Bl mg):FnOk P w K mg base CX0 (k+1) f fd ["_law_deeds_here","_law_name"] spBw:=by
 refine F.okn (N:=["_law_deeds_here","_law_name","_law_rows","_law_deed_here"]) λav A aq s H vs Q E nd hr h=>?_;obtain⟨pa,z,xs,l,rfl,aj,hD,hl,hO,q⟩:=h;let hu:=vO hr;refine{_,(zD (pS 2 nd (yJ zB))
  (zD (qI PassesOwn.never O (wM (pv 0)) (yH (i:=3) nd O (nR O)) (zG (wD (qZ nV pU rO qF (pv 2) (zA (zH zZf (vW (zA (pX vZ (pv 3) zE) (zA (qB jW (zH zAf (yJ (zA (pv 1) zB)) (pX vZ (pv 3) zE)) jF (jH zE)) zB))) (qB zYl (pv 3) (jH zE) jF)) zB)))))
  (zG (zI (pv 2))))), ?_}
 walk_at "st";lk;intro m ae;let s1:=zF ae (.lst []);let e1:=zC (H:=H) (a:=m) (o:=.lst []);generalize upd H m (.lst [])=H1 at s1 e1⊢;let ar:=hD.1;refine{{_,SqL.of (s1 _ _ aj)},kM (K:=K) (a:=pa) (xs:=xs) (λi σ t=>∃(o:Option V)(L:B3),σ= [Y (.ref pa),Y (.str z),Y (.ref m),o]/\Same H t/\t m=Y (.lst L)/\L...*=i/\Dlays (xN t m) L ((l.take i).map (blw z))) {_,[],O,s1,e1,O,{O,λi v d h=>by cases h}} (λi σ t _ h=>by
  obtain⟨o,L,_,g,_⟩:=h;exact SqL.of (g _ _ aj)) ?_ ?_}
 ·rintro i v σ t hv ⟨o,L,rfl,g,c,al,D⟩
  let au:=(mN.mp hv).1;let aa:l[i]? =some l[i]:=mU ∅;obtain⟨tp,pd,r,rfl,k1,k2,k3⟩:=hD.2 i v _ hv aa;lk;let af:∀{Hx:Hp}{b:V1},Same t Hx->Hx b=none->b≠m:=λgx hb e=>by rw[e,gx _ _ c] at hb;cases hb
  refine{.inl {O,_,SqL.of c},wU (SqT.of (g _ _ k1)) (yC (j:=0) O) λp hp=>?_};let s2:=zF hp (.lst [V.str z]);let e2:=zC (H:=t) (a:=p) (o:=.lst [V.str z]);generalize upd t p (.lst [V.str z])=H2 at s2 e2⊢;let g2:=g.trans s2;refine wU (SqT.of (g2 _ _ k1)) (yC (j:=1) O) {p,pd,_,_,O,O,e2,g2 _ _ k2, ?_,λp3 an=>{p3,_,O,SqL.of zC,λI ac p5 n=>?_}}
  ·let:=(hO _ (mO aa)).l
   rw[mV,mM];show 1+_<=_
   lia
  let s3:=zF an (.lst ([V.str z]++l[i].2.1.map kV));generalize upd H2 p3 (.lst ([V.str z]++l[i].2.1.map kV))=H3 at s3 ac n⊢;let ec:jV ([V.str z]++l[i].2.1.map kV) none ↥8=((.inr z::l[i].2.1).take 8).map kV:=by
   rw[List.map_take];exact zRr _ 8
  rw[ec] at n⊢;let s4:=zF ac (.lst (((.inr z::l[i].2.1).take 8).map kV));let e4:=zC (H:=H3) (a:=I) (o:=.lst (((.inr z::l[i].2.1).take 8).map kV));generalize upd H3 I (.lst (((.inr z::l[i].2.1).take 8).map kV))=H4 at s4 e4 n⊢;let s5:=zF n (.tup [V.str l[i].1.s,V.ref I]);let e5:=zC (H:=H4) (a:=p5) (o:=.tup [V.str l[i].1.s,V.ref I]);let ah:=(s2.trans s3).trans (s4.trans s5);let n4:I≠m:=af (s2.trans s3) ac;let n5:p5≠m:=af ((s2.trans s3).trans s4) n;let M:=s5 _ _ e4;generalize upd H4 p5 (.tup [V.str l[i].1.s,V.ref I])=H5 at s5 e5 M ah⊢;let ak:=ah _ _ (g _ _ k1);refine{tp,_,O,SqT.of ak, .inr {λy=>?_,λp6 ap=>?_}}
  ·let z1:=y.1
   rw[show(2:Int)=((2:Nat):Int) from O,HT.sIx_nat,mP,mP] at z1
   lia
  rw[show jV (V.str l[i].1.s::V.ref pd::r) ↥2 none=r from zWm _ 2];let J:=zF ap (.tup r);let e6:=zC (H:=H5) (a:=p6) (o:=.tup r);let ao:=J _ _ ak;generalize upd H5 p6 (.tup r)=H6 at J e6 ao⊢;let ag:=ah.trans J;let ai:∀(y:V)(Hx:Hp),Same H6 Hx->Dlay (xN Hx m) y (blw z l[i])->zDo (V.ref m) [y] Hx λ_ H1=>Same H H1/\∃x,H1 m=Y (HO.lst x)/\x...*=i+1/\Dlays (xN H1 m) x (List.map (blw z) (List.take (i+1) l)):=λy Hx gx hy=>by
   let ab:=ag.trans gx;refine{m,L,y,O,O,ab _ _ c,by rw[mV];lia,wF (g.trans ab) ae,_,zC,by rw[mK,al];rfl, ?_};rw[qV,yN aa,nH];exact(D.same (yV ab)).snoc hy
  rcases k3 with⟨hw,rfl⟩|⟨hw,x,rfl,hx⟩
  ·refine{p5,p6,_,[],O,O,SqT.of (J _ _ e5),SqT.of e6,by simp,by rw[mV];show 2<=_;decide,λ_=>ai _ H6 (Same.refl _) ?_,λh=>absurd O h}
   exact{p5,I,[],O,by rw[xG n5];exact J _ _ e5,by rw[xG n4];exact J _ _ M, .inl ⟨hw,O⟩}
  ·refine{p5,p6,_,[x],O,O,SqT.of (J _ _ e5),SqT.of e6,by simp,by rw[mV];show 3<=_;decide,(λh=>by cases h),λ_ p7 am=>?_}
   let s7:=zF am (.tup ([V.str l[i].1.s,V.ref I]++ [x]));let n7:p7≠m:=af ag am;refine ai _ _ s7 {p7,I,[x],O,by rw[xG n7,zC];rfl,by rw[xG n4];exact s7 _ _ (J _ _ M), .inr {hw,x,O,Rep.same (λb u e=>?_) _ _ hx}};let hb:b≠m:=λe'=>by rw[e',ae] at e;cases e
   rw[xG hb];exact s7 _ _ (ag _ _ (g _ _ e))
 ·rintro σ t ⟨o,L,rfl,g,c,al,D⟩
  lk;rw[ar,pH] at D;exact q m L t g c (D.same hide_self)
def spRd:Sp:=λb H Q _=>∃(c n:Int),b= [.int c, .int n]/\0<=c/\c<1000003/\0<n/\n<=60/\∀v d a,Same H a->Dlay a v d->Od d->Q v a
theorem ok_rd{k:Nat}(F:Fun K "_law_row_deed" "_law_row_deed" sRd f fd)(B:Bl mg):FnOk P w K mg base CX0 (k+1) f fd ["_law_more","_law_size"] spRd:=by
 refine F.okn (N:=["_law_more","_law_size","_law_path"]) λaa A t s H vs Q E nd M h=>?_;obtain⟨c,n,rfl,h0,h1,v,n1,q⟩:=h;let hu:=vO M;refine{_,(zD (pS 2 nd (yJ (zA zO (zA (zH yE (zH yF (pv 0) zE) (pv 1)) zB))))
  (zD (zU (pT xC (zH yE (pv 0) zE) zE) (zG (zI (vW (zA zO (zA (pv 2) zB))))) zL)
  (zG (zI (vW (zA (pX zS (yJ (zA zO (zA zO zB))) (zH yE (pv 0) zE)) (zA (pv 2) (zA (pv 0) zB)))))))), ?_}
 walk_at "st";lk;let m0:=rW (c / 3) (show n≠0 by lia);let m1:=rP (c / 3) v;let x:∀k∈([.inr (A5 "a"), .inl (c / 3 % n)]:B8),okS k:=λk L=>by
  rcases mG.mp L with z | z
  ·rw[z];show xA (ts (A5 "a"))=true;decide+kernel
  ·rw[mF.mp z];exact{m0,∅}
 refine{v,λp hp=>?_};let l:=zF hp (.lst [V.str (A5 "a"),V.int (c / 3 % n)]);let i:upd H p (.lst [V.str (A5 "a"),V.int (c / 3 % n)]) p=Y (.lst (([.inr (A5 "a"), .inl (c / 3 % n)]:B8).map kV)):=zC;generalize upd H p (.lst [V.str (A5 "a"),V.int (c / 3 % n)])=J at l i⊢
 by_cases D:c % 3=2
 ·refine iP D λm d=>?_
  let b:=zF d (.tup [V.str (A5 "take"),V.ref p]);exact q _ (.tak,_, .non) _ (l.trans b) {m,p,[],O,zC,b _ _ i, .inl ⟨O,O⟩} {x,by show 2<=8;decide,mS,mS,by show 2+0<=15;decide,by show 1<=200;decide}
 ·refine iN D λm d=>?_
  let b:=zF d (.lst [V.str (A5 "put"),V.str (A5 "insert")]);let r:=zC (H:=J) (a:=m) (o:=.lst [V.str (A5 "put"),V.str (A5 "insert")]);generalize upd J m (.lst [V.str (A5 "put"),V.str (A5 "insert")])=H2 at b r⊢;let I:∀w:Wd,Od (w,[.inr (A5 "a"), .inl (c / 3 % n)], .int c):=λw=>{x,by show 2<=8;decide,mS,{∅,∅},by show 2+0<=15;decide,by show 1<=200;decide};rcases(show c % 3=0\/c % 3=1 by lia) with z | z
  ·rw[z]
   refine yG (SqL.of r) (yC (j:=0) O) λu e=>?_;let g:=zF e (.tup [V.str (A5 "put"),V.ref p,V.int c]);exact q _ (.put,_, .int c) _ (l.trans (b.trans g)) {u,p,[_],O,zC,g _ _ (b _ _ i), .inr {(by intro y;cases y),_,O,O}} (I _)
  ·rw[z]
   refine yG (SqL.of r) (yC (j:=1) O) λu e=>?_;let g:=zF e (.tup [V.str (A5 "insert"),V.ref p,V.int c]);exact q _ (.ins,_, .int c) _ (l.trans (b.trans g)) {u,p,[_],O,zC,g _ _ (b _ _ i), .inr {(by intro y;cases y),_,O,O}} (I _)
end
structure Og(d:Dd):Prop where
 o:Od d
 g:d.1≠ .tak->xK d.2.2=true
theorem zPu{t u:T}{k:Key}(h:zP t k=Y u):(∃us i,t= .lst us/\k= .inl i)\/∃a us z,t= .dic a us/\k= .inr z:=by
 cases t with
 |lst us=>
  cases k with|inl i=>exact .inl ⟨us,i,O,O⟩|inr z=>cases h
 |dic a us=>
  cases k with|inl i=>cases h|inr z=>exact .inr ⟨a,us,z,O,O⟩
 |_=>cases k<;>cases h
theorem at_in{ks:B8}{s:T}(c:T.few s):T.few ((atT ks s).getD .non)/\T.dep ((atT ks s).getD .non)<=T.dep s/\T.sz ((atT ks s).getD .non)<=max 1 (T.sz s):=by
 by_cases b:lds s ks
 ·obtain⟨u,e,a⟩:=jL s ks
  obtain⟨d,f,g⟩:=zHk ks s u c a;rw[zVy ks s b,e];exact nAA d (by show T.dep u<=_;lia) (by show T.sz u<=_;lia)
 ·rw[zNm ks s b]
  exact nAA mS (nL _) (by show 1<=_;lia)
mutual
theorem zOn:∀t:T,T.few t->lsz t=T.sz t/\qX t=T.dep t
 |.lst c,h=>by
  obtain⟨a,b⟩:=zEn c h.2;exact{congrArg (· +1) a,congrArg (· +1) b}
 |.dic ks c,h=>by
  obtain⟨a,b⟩:=zEn c h.2.2.2;exact{congrArg (· +1) a,congrArg (· +1) b}
 |.tup _,h=>h.elim|.non,_=>⟨O,O⟩|.bl _,_=>⟨O,O⟩|.int _,_=>⟨O,O⟩|.str _,_=>⟨O,O⟩
theorem zEn:∀us:List T,d9 us->vP us=T.szs us/\xW us=T.deps us
 |[],_=>⟨O,O⟩|t::us,h=>by
  obtain⟨a,b⟩:=zOn t h.1;obtain⟨c,d⟩:=zEn us h.2;exact{by show lsz t+vP us=T.sz t+T.szs us;rw[a,c],by show max (qX t) (xW us)=max (T.dep t) (T.deps us);rw[b,d]}
end
mutual
theorem zGe:∀t:T,T.few t->jU t=true->T.fewm 30 t
 |.lst b,h,n=>by
  let a:(decide (b...*<=60)&& wA b)=true:=n;rw[nX] at a;exact{h.1,uK b h.2 a.2}
 |.dic ks b,h,n=>by
  let a:(decide (ks...*<=30)&& wA b)=true:=n;rw[nX,pO] at a;exact{h.1,a.1,h.2.2.1,uK b h.2.2.2 a.2}
 |.tup _,h,_=>h.elim|.non,_,_=>mS|.bl _,_,_=>mS|.int _,_,_=>mS|.str _,_,_=>mS
theorem uK:∀us:List T,d9 us->wA us=true->d6 30 us
 |[],_,_=>mS|t::us,h,n=>by
  let a:(jU t && wA us)=true:=n;rw[nX] at a;exact{zGe t h.1 a.1,uK us h.2 a.2}
end
theorem uU{t:T}(c:T.few t)(h:xK t=true):T.fewm 30 t/\T.dep t<=8/\T.sz t<=200:=by
 unfold xK at h;rw[nX,nX,pO,pO] at h;obtain⟨a,b⟩:=zOn t c;exact nAA (zGe t c h.1.1) ∅ ∅
theorem zEg:∀(ds:C4)(k:Nat)(t u:T),xT k ds t= .inr u->wE ds t=Y u
 |[],k,t,u,h=>by cases h;rfl|d::ds,k,t,u,h=>by
  cases a:doT d.1 d.2.2 d.2.1 t with|none=>rw[jZ a] at h;cases h|some q=>rw[jB a] at h;rw[kD a];exact zEg ds (k+1) q u h
theorem yAa:∀(ds:C4)(k:Nat)(t u:T),wE ds t=Y u->xT k ds t= .inr u
 |[],k,t,u,h=>by cases h;rfl|d::ds,k,t,u,h=>by
  cases a:doT d.1 d.2.2 d.2.1 t with
  |none=>
   rw[show wE (d::ds) t=(doT d.1 d.2.2 d.2.1 t).bind (wE ds) from O,a] at h;cases h
  |some q=>rw[kD a] at h;rw[jB a];exact yAa ds (k+1) q u h
theorem zUx{s g:T}{k:Key}(e:T.few s)(h:zP s k=Y g):1+T.dep g<=T.dep s:=by
 rcases zPu h with⟨b,i,rfl,rfl⟩|⟨d,b,z,rfl,rfl⟩
 ·let a:b[i.toNat]? =Y g:=h
  let:=b7 (mO a);show 1+T.dep g<=T.deps b+1
  lia
 ·let a:(if ts z∈d then Y (zV (ts z) d b) else none)=Y g:=h
  by_cases c:ts z∈d
  ·rw[mJ c] at a
   cases a;let:=b7 (yY c e.2.2.1);show 1+T.dep _<=T.deps b+1
   lia
  ·rw[mH c] at a;cases a
theorem zVw:∀(ks:B8)(s g:T),T.few s->atT ks s=Y g->ks...*+T.dep g<=T.dep s
 |[],s,g,_,h=>by cases h;simp|k::ks,s,g,e,h=>by
  let d:(zP s k).bind (atT ks)=Y g:=h
  cases c:zP s k with
  |none=>rw[c] at d;cases d|some u=>
   rw[c] at d;let a:=zUx e c;let b:=zVw ks u g (vT e c) d;rw[mP]
   lia
theorem bk_og{s:T}{d:Dd}(l:T.few s)(r:T.gk s)(t:T.dep s<=15)(o:Od d)(h:gn1 s d=true):Og (bkD s d):=by
 let p:=gn1_all.mp h;let u:=o.l;let tak:Og (.tak,d.2.1, .non):={{o.s,o.l,mS,mS,by show d.2.1...*+0<=15;lia,by show 1<=200;decide},λz=>absurd O z};let f:∀g w,atT d.2.1 s=Y g->xK g=true->Og (w,d.2.1,g):=λg w e j=>by
  obtain⟨n,_⟩:=at_in (ks:=d.2.1) l;rw[e] at n;obtain⟨a,b,c⟩:=uU n j;let:=zVw _ s g l e;exact{{o.s,o.l,b8 ∎ _ a,zUt _ s g l r e,by show d.2.1...*+T.dep g<=15;lia,c},λ_=>j}
 unfold bkD
 cases k:atT d.2.1 s with
 |none=>exact tak|some g=>
  let i:=p g k
  cases m:d.1 with
  |ins=>exact tak|put=>exact f g _ k (i (by rw[m];intro z;cases z))|tak=>
   let z:=i (by rw[m];intro z;cases z)
   cases d.2.1.getLast? with|none=>exact f g _ k z|some q=>cases q<;>exact f g _ k z
theorem zJy:∀(ds:C4)(k m:Nat)(t r:T),xT k ds t= .inr r->RJ m ds t->gns ds t=true->∀d'∈qE ds t,Og d'
 |[],k,m,t,r,_,_,_,d',h=>nomatch h|d::ds,k,m,t,r,h,J,c,d',b=>by
  cases a:doT d.1 d.2.2 d.2.1 t with
  |none=>rw[jZ a] at h;cases h|some q=>
   rw[jB a] at h;rw[zLw a,nX] at c;rw[zAz a] at b;rcases nE.mp b with z | z
   ·exact zJy ds (k+1) (m+1) q r h (J.step a) c.2 d' z
   ·rw[mF.mp z]
    exact bk_og J.few J.g J.d (J.o d mE) c.1
theorem zGb:∀(ds:C4)(k:Nat)(t r:T),xT k ds t= .inr r->(qE ds t)...*=ds...*
 |[],k,t,r,_=>rfl|d::ds,k,t,r,h=>by
  cases a:doT d.1 d.2.2 d.2.1 t with
  |none=>rw[jZ a] at h;cases h|some q=>
   rw[jB a] at h;rw[zAz a,mK,zGb ds (k+1) q r h]
   rfl
end K47
namespace K47
open PySem L2 PySem.W
seal L2.PSs L2.PS L2.PE L2.PT L2.PW L2.PA L2.PI L2.PG L2.PGs L2.PPs L2.PTs
abbrev sLb:V6:=top 71
abbrev sTr:V6:=top 72
structure Tf(K:Frag)(mg:C8)(Bs C2 C3:V1):Prop where
 mB:mg "CabinetError" =Y (.ref Bs)
 m2:mg "TooGreat" =Y (.ref C3)
 x5:exmOne K (.ref C2) (.ref Bs)=Y true
 x2:exmOne K (.ref C3) (.ref Bs)=Y true
 e22:exmOne K (.ref C3) (.ref C3)=Y true
noncomputable def twS(as a:C4)(t:T):Option T:=match xT 0 as t with
 | .inl _=>none|.inr u=>if xK u=true then(match xT 0 a u with
  | .inl _=>none|.inr r=>if xK r=true then Y r else none) else none
theorem zIs{as b:C4}{t r:T}(h:twS as b t=Y r):∃u,xT 0 as t= .inr u/\xK u=true/\xT 0 b u= .inr r/\xK r=true:=by
 unfold twS at h
 cases c:xT 0 as t with
 |inl i=>rw[c] at h;cases h|inr u=>
  rw[c] at h;simp only at h
  by_cases g:xK u=true
  ·rw[mJ g] at h
   cases a:xT 0 b u with
   |inl i=>rw[a] at h;cases h|inr d=>
    rw[a] at h;simp only at h
    by_cases g2:xK d=true
    ·rw[mJ g2] at h;cases h;exact⟨u,O,g,a,g2⟩
    ·rw[mH g2] at h;cases h
  ·rw[mH g] at h;cases h
section
variable{P:V3}{w:V4}{K:PySem.W.Frag}{mg:C8}{base:V5}{f:V1}{fd:V7}{Bs C2 C3:V1}
def spLb:Sp:=λg H Q _=>∃(v:V)(e:V1)(c:B3)(t r:T)(b:C4)(m:Nat),g= [v, .ref e]/\Rep H v t/\H e=Y (.lst c)/\Dlays H c b/\RJ m b t/\xT 0 b t= .inr r/\xK r=true/\
 (gns b t=true->∀l d D a,Same H a->a l=Y (.lst d)->Sps a d ((qE b t).map ddT) D->Q (.ref l) a)/\(gns b t=false->∀a,Same H a->Q .non a)
theorem ok_lb(F:Fun K "_law_back" "_law_back" sLb f fd)(W:Tf K mg Bs C2 C3)(I:Dx aC P w K mg base 26 "back" ["thing","paper"] (zMn C2 C3)):FnOk P w K mg base CX0 27 f fd ["_law_thing","_law_paper"] spLb:=by
 refine F.okn (N:=["_law_thing","_law_paper"]) λaa A e s H vs Q E nd J h=>?_;obtain⟨v,pa,L,t,r,ds,m,rfl,y,d,n,hI,b,u,q,z⟩:=h;refine{_,(zG (zNg (φ:=aC) (ts2:=zFi (tC .non)) (tb:=λE=>zFi (jY (zMn C2 C3) [] E (vA (jE 0) (vA (jE 1) zBe)))) O O W.m2 O O O
    (λj W' E hp=>zG (zI (zNy I J ∅ O hp (zA (pv 0) (zA (pv 1) zB)))))
    (λv=>zG (zI kZ)))), ?_}
 walk_at "st";unfold zTb;lk;refine{v,pa,L,t,ds,m,O,y,d,n,hI,λM c _ a l B D p g _ o h3 _=>q a l B D p g o h3,λM c a H1 g1=>{C3,O,W.e22,λx hx=>?_},λi k=>by rw[b] at k;cases k};rw[b] at c;cases c;rw[u,aB] at a;exact z a _ (g1.trans (zF hx _))
def spTr:Sp:=λh H Q _=>∃(v:V)(e d:V1)(c g:B3)(t:T)(as b:C4)(m:Nat),h= [v, .ref e, .ref d]/\Rep H v t/\H e=Y (.lst c)/\Dlays H c as/\H d=Y (.lst g)/\Dlays H g b/\RJ m (as++b) t/\
 (∀u,twS as b t=Y u->∀l y a,Same H a->a l=Y (.lst [y])->Rep a y u->Q (.ref l) a)/\(twS as b t=none->∀a,Same H a->Q .non a)
theorem ok_tr(F:Fun K "_law_tried" "_law_tried" sTr f fd)(W:Tf K mg Bs C2 C3)(Gd:Dx aC P w K mg base 26 "done" ["thing","paper"] (zCo C2 C3)):FnOk P w K mg base CX0 27 f fd ["_law_thing","_law_one","_law_other"] spTr:=by
 refine F.okn (N:=["_law_thing","_law_one","_law_other"]) λaf A L s H vs Q E nd hr h=>?_;obtain⟨v,pa,pb,xs,ys,t,as,es,m,rfl,hv,o,hD,J,hE,hI,q,qx⟩:=h;refine{_,(zG (zNg (φ:=aC) (ts2:=zFi (tC .non)) (tb:=λE=>zFi (zTd (vA (jY (zCo C2 C3) [] E (vA (jY (zCo C2 C3) [] E (vA (jE 0) (vA (jE 1) zBe))) (vA (jE 2) zBe))) zBe))) O O W.mB O O O
    (λab W' E k=>zG (zI (yJ (zA (zNy Gd hr ∅ O k (zA (zNy Gd hr ∅ O k (zA (pv 0) (zA (pv 1) zB))) (zA (pv 2) zB))) zB))))
    (λv=>zG (zI kZ)))), ?_}
 walk_at "st";unfold zTb;lk;let l:twS as es t=none->∀C b,exmOne K (.ref C) (.ref Bs)=Y true->Same H b->∀d,zNe K Bs 3 (zFi (tC .non)) {nx:=λx H'=>Q V.non H',rt:=Q} (.ref C) d b:=λhn C b hx a d=>{C,O,hx,λx hx=>qx hn _ (a.trans (zF hx _))};refine{v,pa,xs,t,as,m,O,hv,o,hD,hI.pre,λu g j y b D a sp ae=>?_,λu g j b a=>l (by unfold twS;rw[g];simp[j]) C3 b W.x2 a none,λi I B b a M=>l (by unfold twS;rw[I]) C2 b W.x5 a ↥B};let Ju:=hI.run (zEg _ _ _ _ g);refine{y,pb,ys,u,es,_,O,Sp1.rep _ _ _ sp,a _ _ J,hE.same a,Ju,λr e c z n D2 g2 aa ac p k=>?_,λr e c n g2=>l (by unfold twS;rw[g];simp[j,e,c]) C3 n W.x2 (a.trans g2) none,λi I B n g2 M=>l (by unfold twS;rw[g];simp[j,I]) C2 n W.x5 (a.trans g2) ↥B};exact q r (by unfold twS;rw[g];simp[j,e,c]) p z _ ((a.trans g2).trans (zF k _)) zC (Rep.same (zF k _) _ _ (Sp1.rep _ _ _ aa))
end
end K47
namespace K47
open PySem L2
noncomputable def alk(t t':T):Bool:=decide (xL (zM t) (zM t')=0)
mutual
theorem zMz:∀t:T,l7 t<=2*T.dep t
 |.lst a=>by let:=zDe a;show i8 a+1<=2*(T.deps a+1);lia|.dic _ a=>by let:=zDe a;show i8 a+2<=2*(T.deps a+1);lia|.tup a=>by let:=zDe a;show i8 a+1<=2*(T.deps a+1);lia|.non=>nL _|.bl _=>nL _|.int _=>nL _|.str _=>nL _
theorem zDe:∀us:List T,i8 us<=2*T.deps us
 |[]=>nL _|t::us=>by
  let:=zMz t;let:=zDe us;show max (l7 t) (i8 us)<=2*max (T.dep t) (T.deps us)
  lia
end
theorem zVd{n:Nat}{H:Hp}{v u:V}{t t':T}{Q:VK}(c:Rep H v t)(d:Rep H u t')(e:T.few t)(a:T.few t')(f:2*T.dep t<=n)(b:2*T.dep t'<=n)(q:∀H',Same H H'->Q (.bl (alk t t')) H'):zMu n [v,u] H Q E0:={v,u,t,t',O,c,d,e,a,by let:=zMz t;lia,by let:=zMz t';lia,q}
section
variable{P:V3}{w:V4}{K:A6}{mg:C8}{base:V5}{f:V1}{fd:V7}{C2 C3:V1}
def yDe:Sp:=λg H Q _=>∃(v:V)(e:V1)(d:B3)(t r:T)(c:C4)(m:Nat),g= [v, .ref e]/\Rep H v t/\H e=Y (.lst d)/\Dlays H d c/\RJ m c t/\xT 0 c t= .inr r/\xK r=true/\∀y a D,Same H a->Sp1 a y r D->(∀b∈D,H b=none)->Q y a
theorem dn_of{k:Nat}{ps:C1}(F:FnOk P w K mg base (CXE aC P w) k f fd ps (zCo C2 C3)):FnOk P w K mg base CX0 k f fd ps yDe:=by
 let g:∀c H Q E,yDe c H Q E->zCo C2 C3 c H Q E0:=λc H Q E h=>by
  obtain⟨v,pa,N,t,r,ds,m,e,I,u,h3,D,n,J,q⟩:=h;exact{v,pa,N,t,ds,m,e,I,u,h3,D,(λr' a _=>by rw[n] at a;rw[<-Sum.inr.inj a];exact q),(λr' a o=>by rw[n] at a;rw[<-Sum.inr.inj a,J] at o;cases o),(λi p=>by rw[n] at p;cases p)}
 refine{λc H Q E h=>F.len c H Q E0 (g _ _ _ _ h),λA b s H j us c Q E a he L B M=>rX (F.run A b s H j us c Q E0 a he L B (g _ _ _ _ M)) λr s' h=>?_}
 cases r with
 |error e=>
  ext zY h x T C d a0 l;ext wS l H' _ _ _ _ l;ext zQ l _ _ _ _ _ l;ext oA l _ z;exact z.elim
 |ok y=>cases y<;>exact h
end
theorem Od.blw{d:Dd}{z:Str}(hz:xA (ts z)=true)(h:Od d)(c:T.dep d.2.2<=2):Od (blw z d):=by
 let a:((.inr z::d.2.1).take 8)...*<=8:=List.length_take_le _ _;refine{λk b=>?_,a,h.f,h.g, ?_,h.z}
 ·rcases mG.mp (sL b) with y | y
  ·rw[y];exact hz
  ·exact h.s k y
 ·show((.inr z::d.2.1).take 8)...*+T.dep d.2.2<=15
  lia
theorem zRu{ds:C4}{m:Nat}{t u f:T}(J:RJ m ds t)(v:ds...*<=20)(q:xK t=true)(k:xT 0 ds t= .inr u)(r:T.gk f)(o:T.few f)(h:xK f=true)(i:gns ds t=true)(e:Eqc u f):RJ 31 (qE ds t) f/\∃t',xT 0 (qE ds t) f= .inr t'/\xK t'=true/\Eqc t' t/\T.few t':=by
 obtain⟨a,b,c⟩:=uU o h;let w:=zGb ds 0 t u k;let s:=zJy ds 0 m t u k J i;let g:RJ 31 (qE ds t) f:={b8 ∎ _ a,mD _,∅,r,∅,∅,λd p=>(s d p).o};obtain⟨t',n,l⟩:=zGh ds m 31 t u f J (zEg _ _ _ _ k) g e;let j:RJ (31+(qE ds t)...*) [] t':=RJ.run (a:=qE ds t) (b:=[]) (by rw[nS];exact g) n;exact{g,t',yAa _ _ _ _ n,n8 J.few j.few l q,Eqc.symm J.few j.few l,j.few}
noncomputable def nms:List Str:=["a","b","ab","c"]
structure Bit(u:T):Prop where
 f:T.fewm 30 u
 g:T.gk u
 d:T.dep u<=2
 z:T.sz u<=25
theorem Bit.of{u:T}(h:Nice 2 u):Bit u:={Nice.fewm u h,(zBc 2 u ∎ h).gk,Nice.dep u h,Nice.sz u h}
structure Rc(H:Hp)(p:V1)(i:Nat)(ps:D0)(us:B0):Prop where
 h:H p=Y (.dK ps)
 k:ps.map (·.1)=(nms.take i).map Sum.inr
 r:Reps (xN H p) (ps.map (·.2)) us
 b:∀u∈us,Bit u
theorem zUl{i:Nat}(h:i<=4):i=0\/i=1\/i=2\/i=3\/i=4:=by lia
theorem Rc.len{H:Hp}{p:V1}{i:Nat}{ps:D0}{us:B0}(h:Rc H p i ps us)(c:i<=4):us...*=i/\ps...*=i:=by
 let a:=congrArg List.length h.k;let b:=h.r...*;simp only[mM,nQ] at a b;let:nms...*=4:=rfl
 lia
theorem Rc.rep{H:Hp}{p:V1}{i:Nat}{ps:D0}{us:B0}(h:Rc H p i ps us):Rep H (.ref p) (.dic ((nms.take i).map ts) us):=by
 refine{p,ps,O,h.h, ?_,Reps.same hide_self _ _ h.r};rw[h.k,sC];exact rK λz _=>by show Sum.inr z=Sum.inr (tx (ts z));rw[qC]
theorem zTw{n:Nat}{us:B0}{ds:C4}(f:n<=4)(j:us...*=n)(h:∀u∈us,Bit u)(i:ds...*<=24)(c:∀d∈ds,Od d):RJ 31 ds (.dic ((nms.take n).map ts) us):=by
 let b:((nms.take n).map ts).Nodup/\((nms.take n).map ts)...*=n/\∀k∈(nms.take n).map ts,xA k=true:=by
  rcases zUl f with z | z | z | z | z<;>subst z<;>decide+kernel
 let e:∀us:List T,(∀u∈us,Bit u)->T.szs us<=25*us...*:=λus=>by
  induction us with
  |nil=>exact λ_=>nL _|cons t us g=>
   intro h;let:=g λu a=>h u (mI _ a);let:=(h t mE).z;show T.sz t+T.szs us<=25*(us...*+1)
   lia
 let m:=e us h;let l:T.deps us<=2:=d5 λu a=>(h u a).d;refine{{b.1,∅,∅,d7 λu a=>b8 ∎ _ (h u a).f},mD _,∅,{b.2.2,i6 λu a=>(h u a).g}, ?_, ?_,c}
 ·show T.deps us+1<=15
  lia
 ·show T.szs us+1+200*ds...*<=5000
  lia
theorem zYf{ps:D0}{i:Nat}{v:V}{z:Str}(c:i<4)(hz:nms[i]? =Y z)(b:ps.map (·.1)=(nms.take i).map Sum.inr):vQ ps (.inr z) v=ps++ [(.inr z,v)]:=by
 let e:(ps.any λa=>decide (a.1=(.inr z:Key)))=false:=by
  let:(ps.map (·.1)).any (λk=>decide (k=(.inr z:Key)))=false:=by
   rw[b,List.any_map];rcases(show i=0\/i=1\/i=2\/i=3 by lia) with y | y | y | y<;>subst y<;>cases hz<;>decide+kernel
  rw[List.any_map] at this;exact this
 unfold vQ;rw[e];rfl
theorem Rc.put{H a:Hp}{p:V1}{i:Nat}{ps:D0}{us:B0}{v:V}{t:T}{z:Str}(h:Rc H p i ps us)(c:i<4)(hz:nms[i]? =Y z)(g:Same H a)(b:Rep (xN a p) v t)(d:Bit t):Rc (upd a p (.dK (vQ ps (.inr z) v))) p (i+1) (ps++ [(.inr z,v)]) (us++ [t]):=by
 refine{by rw[zC,zYf c hz h.k], ?_, ?_,λu e=>?_}
 ·rw[nH,h.k,yN hz,nH];rfl
 ·rw[qV,nH]
  exact Reps.snoc b (Reps.same (yV g) _ _ h.r)
 ·rcases nE.mp e with y | y
  ·exact h.b u y
  ·rw[mF.mp y];exact d
theorem Rc.two{H:Hp}{p:V1}{i:Nat}{ps:D0}{us:B0}(h:Rc H p i ps us)(x:2<=i)(y:i<=4):∃c g r k d n,ps=(.inr "a",c)::(.inr "b",g)::r/\us=k::d::n/\Rep (xN H p) c k/\Rep (xN H p) g d/\Reps (xN H p) (r.map (·.2)) n/\r.map (·.1)=((nms.take i).drop 2).map Sum.inr:=by
 obtain⟨_,f,b,_⟩:=h;obtain⟨j,rfl⟩:∃j,i=j+2:={i - 2,∅};let e:nms.take (j+2)=("a" :Str)::("b" :Str)::(nms.drop 2).take j:=rfl;rw[e,nD,nD] at f
 match ps,f with
 |(k0,c)::(w,g)::r,f=>
  injection f with s m;injection m with m o;let v:k0= .inr "a":=s;let q:w= .inr "b":=m;subst v q
  cases us with
  |nil=>cases b|cons k us=>
   obtain⟨_,_,a,t,b⟩:=b;injection a with a l;subst a l
   cases us with
   |nil=>cases b|cons d us=>
    obtain⟨_,_,a,u,b⟩:=b;injection a with a l;subst a l;exact⟨c,g,r,k,d,us,O,O,t,u,b,o⟩
theorem put_a{i:Nat}{v g d:V}{r:D0}(f:i<=4)(j:r.map (·.1)=((nms.take i).drop 2).map Sum.inr):vQ ((.inr "a",g)::(.inr "b",d)::r) (.inr "a") v=(.inr "a",v)::(.inr "b",d)::r:=by
 let e:r.map (λa=>if a.1=(.inr "a" :Key) then(a.1,v) else a)=r:=by
  conv=>rhs;rw[<-List.map_id r]
  refine rK λa c=>?_;let h:a.1∈((nms.take i).drop 2).map Sum.inr:=by rw[<-j];exact List.mem_map_of_mem c
  let b:∀k∈(((nms.take i).drop 2).map Sum.inr:B8),k≠ .inr "a":=by
   rcases zUl f with z | z | z | z | z<;>subst z<;>decide+kernel
  rw[mH (b _ h)];rfl
 unfold vQ;rw[mJ (by rw[cE];simp),nD,nD,e,mJ O,mH (show¬(.inr "b" :Key)= .inr "a" by decide+kernel)]
def Tw(H:Hp)(a:V)(as b:C4)(t:T):Prop:=(∃u l y,twS as b t=Y u/\a= .ref l/\H l=Y (.lst [y])/\Rep H y u)\/(twS as b t=none/\a= .non)
theorem Tw.same{H f:Hp}{i:V}{as e:C4}{t:T}(g:Same H f)(h:Tw H i as e t):Tw f i as e t:=by
 rcases h with⟨u,l,y,a,b,c,d⟩| h
 ·exact .inl {u,l,y,a,b,g _ _ c,Rep.same g _ _ d}
 ·exact .inr h
structure Md(H:Hp)(p pa pb:V1)(xs ys:B3)(t:T)(as es:C4):Prop where
 v:Rep H (.ref p) t
 a:H pa=Y (.lst xs)
 b:H pb=Y (.lst ys)
 da:Dlays H xs as
 db:Dlays H ys es
 j:RJ 31 (as++es) t
 la:as...*<=12
 lb:es...*<=12
theorem Md.same{H a:Hp}{p b c:V1}{xs ys:B3}{t:T}{as d:C4}(g:Same H a)(h:Md H p b c xs ys t as d):Md a p b c xs ys t as d:={Rep.same g _ _ h.v,g _ _ h.a,g _ _ h.b,h.da.same g,h.db.same g,h.j,h.la,h.lb}
theorem Md.apart{H:Hp}{p L z:V1}{xs ys:B3}{t o f g i:T}{as c:C4}(h:Md H p L z xs ys t as c)(k:(as.all λa=>c.all λd=>uF a.2.1 d.2.1)=true)(E:xT 0 as t= .inr o)(u:xT 0 c o= .inr f)(y:xT 0 c t= .inr g)(D:xT 0 as g= .inr i):Eqc f i/\T.few f/\T.few i/\T.few g/\T.gk f/\RJ (31+c...*) as g/\RJ 31 c t:=by
 let J:=h.j;let j:RJ 31 (c++as) t:=J.perm sI;let x:=zEg _ _ _ _ E;let I:=zEg _ _ _ _ u;let r:=zEg _ _ _ _ y;let w:=zEg _ _ _ _ D;let s:wE (as++c) t=Y f:=by rw[zAc,x];exact I
 let l:wE (c++as) t=Y i:=by rw[zAc,r];exact w
 obtain⟨N,q,M⟩:=zIy as c 31 t f J (λd v e A=>pW.mp (pW.mp k d v) e A) s;rw[l] at q;cases q;let m:=RJ.run (a:=as++c) (b:=[]) (by rw[nS];exact J) s;let B:=RJ.run (a:=c++as) (b:=[]) (by rw[nS];exact j) l;let n:=RJ.run (a:=c) (b:=as) j r;exact⟨M,m.few,B.few,n.few,m.g,n,j.pre⟩
theorem Rc.same{H a:Hp}{p:V1}{i:Nat}{ps:D0}{us:B0}(g:Same H a)(h:Rc H p i ps us):Rc a p i ps us:={g _ _ h.h,h.k,Reps.same (yV g) _ _ h.r,h.b}
theorem zVh{H:Hp}{p:V1}{a:V}{r:D0}(h:H p=Y (.dK ((.inr "a",a)::r))):DGet H p (.str (A5 "a")) ↥a:=by
 let z:=DGet.k (k:=.inr "a") h;rw[kN O] at z;exact z
theorem get_b{H:Hp}{p:V1}{b a:V}{r:D0}(h:H p=Y (.dK ((.inr "a",b)::(.inr "b",a)::r))):DGet H p (.str (A5 "b")) ↥a:=by
 let z:=DGet.k (k:=.inr "b") h;rw[kQ (show¬(.inr "a" :Key)= .inr "b" by decide+kernel),kN O] at z;exact z
theorem zKs{H:Hp}:∀cs:List Int,Reps H (cs.map V.int) (cs.map T.int)
 |[]=>rfl|c::cs=>{.int c,_,O,O,zKs cs}
theorem zTh{cs:List Int}(i:cs...*<=20)(h:∀c∈cs,0<=c/\c<1000003):Bit (.lst (cs.map T.int)):=by
 let e:∀cs:List Int,T.szs (cs.map T.int)=cs...*:=λcs=>by
  induction cs with|nil=>rfl|cons c cs j=>show 1+T.szs (cs.map T.int)=cs...*+1;lia
 let b:∀{q:T->Prop},(∀c∈cs,q (.int c))->∀u∈cs.map T.int,q u:=λd u f=>by
  obtain⟨c,a,rfl⟩:=nZ.mp f;exact d c a
 let g:T.deps (cs.map T.int)<=0:=d5 (b λc _=>mD 0);refine{{by rw[mM];lia,d7 (b λc _=>mS)},i6 (b λc a=>?_), ?_, ?_}
 ·let:=h c a
  exact{∅,∅}
 ·show T.deps (cs.map T.int)+1<=2
  lia
 ·show T.szs (cs.map T.int)+1<=25
  rw[e];lia
theorem zYt{H:Hp}{v:V}{d:Dd}{k:Int}(g:0<=k)(f:k<2)(b:Dlay H v d)(c:Od d):∃a,Dlays H (List.replicate k.toNat [v]).flatten a/\a...*<=1/\(∀d∈a,Od d)/\(List.replicate k.toNat [v]).flatten...*<=1:=by
 rcases(show k=0\/k=1 by lia) with z | z
 ·rw[z];exact{[],{O,λi v d h=>nomatch h},nL _,(λ_ h=>nomatch h),nL _}
 ·rw[z];exact{[d],Dlays.snoc (xs:=[]) (ds:=[]) {O,λi v d h=>nomatch h} b,mD _,(λe h=>by rw[mF.mp h];exact c),mD _}
seal L2.PSs L2.PS L2.PE L2.PT L2.PW L2.PA L2.PI L2.PG L2.PGs L2.PPs L2.PTs
abbrev zIu:V6:=top 73
section
variable{P:V3}{w:V4}{K:A6}{mg:C8}{base:V5}{f:V1}{fd:V7}
def zNu(K:A6):Sp:=λd H Q _=>∃(a:V1)(b:List Int),d= [.ref a]/\SqL K H a (b.map V.int)/\b...*<=63/\∀c,Q (.bl true) c
theorem yDc{k:Nat}(F:Fun K "law" "law" zIu f fd)(B:Bl6 mg)(b:Dn P w K mg base k "_law_cell" ["_law_script","_law_k"] (gL K))(ab:Dn P w K mg base k "_law_thing_by" ["_law_script","_law_k","_law_deep"] (zAi K 3))(g:Dn P w K mg base k "_law_row_deed" ["_law_more","_law_size"] spRd)(I:Dn P w K mg base k "_law_below" ["_law_deeds_here","_law_name"] spBw)(J:Dn P w K mg base k "_law_deeds" ["_law_script","_law_k","_law_thing","_law_many"] (spDs K))(L:Dn P w K mg base k "_law_tried" ["_law_thing","_law_one","_law_other"] spTr)(aw:Dn P w K mg base k "apart" ["one","other"] zOk)(aa:Dn P w K mg base k "_law_same" ["_law_one","_law_other"] (zMu 40))(ao:Dn P w K mg base k "done" ["thing","paper"] yDe)(ae:Dn P w K mg base k "_law_back" ["_law_thing","_law_paper"] spLb):FnOk P w K mg base CX0 (k+1) f fd ["_law_script"] (zNu K):=by
 refine F.okn (N:=["_law_script","_law_thing","_law_names","_law_j","_law_more","_law_one","_law_other","_law_first","_law_turned","_law_behind","_law_deeds_here"]) λdu A co s H vs Q E nd hr h=>?_;ext zX h a ns cr ha ac q;subst cr;let hu:=vO hr;let ea:=hr.units0;let dj:=hr.units;refine{_,(zD (pS 1 nd zIp)
  (zD (pS 2 nd (qB jW (yJ (zA zO (zA zO (zA zO (zA zO zB))))) jF (jH (zH xH zE (zH yE (pD b hr (zA (pv 0) (zA zE zB))) zE)))))
  (zD (qI PassesOwn.never O (wZ O B.range (zA (zN yA O B.len yR (zA (pv 2) zB)) zB)) (yH (i:=3) nd O (nR O)) (zG (zBj hu (pv 1) (pX zS (pv 2) (pv 3)) (zDi (pD ab hr (zA (pv 0) (zA (zH xH zE (zH qY zE (pv 3))) (zA zE zB))))) O)))
  (zD (pS 4 nd (pD b hr (zA (pv 0) (zA zE zB))))
  (zD (zAq (zU (pT xC (zH yE (pv 4) zE) zE) (zD (zBj hu (pv 1) zO (wW (own:=["_law_j"]) (F:=[("_law_script",0)]) {O,tb_g%,tb_g%,tb_g%,(.cons O O O .nil)} O (wZ O B.range (zA (zH xH zE (zH yE (zH yF (pv 4) zE) zE)) zB)) (λ_ _ _ _=>yH (i:=0) (by show(wN ["_law_j"] [("_law_script",0)]).Nodup;decide+kernel) O (nR O)) (λ_ _ _ _=>xU) (λ_ _ _ _=>(pD b hr (zA (pv 1) (zA (zH xH zE (pv 0)) zB))))) O)
  (zD (pS 5 nd (yJ (zA (pD g hr (zA (pD b hr (zA (pv 0) (zA zE zB))) (zA (zN yA O B.len yR (zA (vV hu (pv 1) zO (λ_ _=>O)) zB)) zB))) zB)))
  (zG (pS 6 nd (zH zAf (zH yBp (yJ (zA (vW (zA zO (zA (yJ (zA zO zB)) (zA (pv 4) zB)))) zB)) (zH yE (zH yF (pv 4) zE) zE)) (yJ (zA (pD g hr (zA (pD b hr (zA (pv 0) (zA zE zB))) (zA (zN yA O B.len yR (zA (vV hu (pv 1) zO (λ_ _=>O)) zB)) zB))) zB))))))) (zD (pS 5 nd (pD I hr (zA (pX zS (pD J hr (zA (pv 0) (zA zE (zA (vV hu (pv 1) zO (λ_ _=>O)) (zA (zH xH zE (zH yE (pD b hr (zA (pv 0) (zA zE zB))) zE)) zB))))) zE) (zA zO zB))))
  (zG (pS 6 nd (pD I hr (zA (pX zS (pD J hr (zA (pv 0) (zA zE (zA (vV hu (pv 1) zO (λ_ _=>O)) (zA (zH xH zE (zH yE (pD b hr (zA (pv 0) (zA zE zB))) zE)) zB))))) zE) (zA zO zB))))))))
  (zD (zAq (pS 7 nd (pD L hr (zA (pv 1) (zA (pv 5) (zA (pv 6) zB))))))
  (zD (zAq (pS 8 nd (pD L hr (zA (pv 1) (zA (pv 6) (zA (pv 5) zB))))))
  (zD (zU (i9 (gR (vE (yI (pD aw hr (zA (pv 5) (zA (pv 6) zB))))) (gR (zAh (zCn (pv 7))) (gZ (zAh (zCn (pv 8))))))) (zG (zI qT)) zL)
  (zD (zU (vE (yI (pD aa hr (zA (pX zS (pv 7) zE) (zA (pX zS (pv 8) zE) zB))))) (zG (zI qT)) zL)
  (zD (pS 9 nd (pD ao hr (zA (pv 1) (zA (pv 6) zB))))
  (zD (pS 10 nd (pD ae hr (zA (pv 9) (zA (pv 5) zB))))
  (zG (zI (yAg (zIk (zCn (pv 10))) (vR (pD aa hr (zA (pD ao hr (zA (pX zS (pv 7) zE) (zA (pv 10) zB))) (zA (pv 9) zB)))))))))))))))))), ?_}
 walk_at "st";refine cut3 λR hR=>?_;lk;intro p hp p1 bh;let gp:=(zF hp (.dK [])).trans (zF bh (.lst [V.str (A5 "a"),V.str (A5 "b"),V.str (A5 "ab"),V.str (A5 "c")]));let ep:=zF bh (.lst [V.str (A5 "a"),V.str (A5 "b"),V.str (A5 "ab"),V.str (A5 "c")]) _ _ (zC (H:=H) (a:=p) (o:=.dK []));refine vF (gp.seq ha) ac ∎ ∎ λH1 g1=>{_,O,p1,_,O,SqL.of (g1 _ _ zC),λp2 ax=>?_};let bd:=g1 _ _ ep;let b6:=gp.trans g1;clear gp ep g1 bh;obtain⟨n,hn⟩:∃n:Nat,(n:Int)=2+xM ns 0 % 3:={(2+xM ns 0 % 3).toNat,∅};let cb:2<=n:=by lia
 let af:n<=4:=by lia
 let ec:jV [V.str (A5 "a"),V.str (A5 "b"),V.str (A5 "ab"),V.str (A5 "c")] none ↥(2+xM ns 0 % 3)=(nms.take n).map V.str:=by
  rw[<-hn,List.map_take];exact zRr _ _
 rw[ec];let ci:((nms.take n).map V.str)...*=n:=by rw[mM,nQ];let:nms...*=4:=rfl;lia
 let s2:=zF ax (.lst ((nms.take n).map V.str));let e2:=zC (H:=H1) (a:=p2) (o:=.lst ((nms.take n).map V.str));generalize upd H1 p2 (.lst ((nms.take n).map V.str))=H2 at s2 e2⊢;let b':=b6.trans s2;let bt:p2≠p:=λz=>by rw[z,bd] at ax;cases ax
 let bk:=s2 _ _ bd;refine{p2,O,_,SqL.of e2,∅,∅, ?_};rw[tR,ci];refine gT (λi σ H3=>∃(o:Option V)(ps:D0)(us:B0),σ= [Y (.ref a),Y (.ref p),Y (.ref p2),o,none,none,none,none,none,none,none]/\Same H H3/\H3 p2=Y (.lst ((nms.take n).map V.str))/\Rc H3 p i ps us) {_,[],[],O,b',e2,{bk,O,O,λ_ z=>nomatch z}} ?_ ?_
 ·rintro i σ H3 hi ⟨o,ps,us,rfl,g3,a1,ag⟩
  lk;unfold zHi zOg;refine{p, .inl {ps,ag.h,λo'=>?_}};lk;let cu:Same H (upd H3 p (.frz o' (.dK ps))):=wF g3 hp;refine{2,by decide,a,ns,50+300*(0+(i:Int)),O,cu.seq ha,ac,∅,∅,λv H4 t g4 hv hN=>?_};let gt:=uS ag.h g4;let bo:Rep (xN (L2.thaw H3 H4) p) v t:=Rep.off (g4 _ _ zC) hv;dsimp only;generalize L2.thaw H3 H4=H5 at gt bo⊢;let cz:i<nms...*:=nF hi af;obtain⟨z,hz⟩:∃z,nms[i]? =Y z:={nms[i],mU cz};let db:((nms.take n).map V.str)[i]? =Y (V.str z):=by rw[nG,List.getElem?_take,mJ hi,hz];rfl
  let dp:=(ag.len ∅).2;refine yG (SqL.of (gt _ _ a1)) (by rw[Int.zero_add];exact yC db) {_,DPut.k (k:=.inr z) (gt _ _ ag.h) (by rw[mV];lia),wF (g3.trans gt) hp, ?_,_,_,ag.put ∅ hz gt bo (Bit.of hN)};rw[zK bt];exact gt _ _ a1
 rintro σ H3 ⟨o,ps,us,rfl,g3,_,ag⟩;clear ec ci e2 b' b6 bd bk ax s2;show R _ _ _;subst hR;refine zFk λR hR=>?_;lk;refine vF (g3.seq ha) ac (show(0:Int)<=1 by decide) ∎ λH4 g4=>?_;subst hR;refine zFk λR hR=>?_;unfold zJg;lk;let c0:=wR ns 1;let c1:=wV ns 1;let M:=ag.same g4;let ai:=g3.trans g4;refine{λσ' H'=>∃(pa pb:V1)(xs ys:B3)(t:T)(as es:C4),σ'= [Y (.ref a),Y (.ref p),Y (.ref p2),o,Y (.int (xM ns 1)),Y (.ref pa),Y (.ref pb),none,none,none,none]/\Md H' p pa pb xs ys t as es, ?_, ?_}
 ·let cg:=(M.len af).1
  obtain⟨v0,v1,r,u0,u1,ur,rfl,rfl,q0,q1,qr,hk⟩:=M.two cb af;let b0:=M.b _ mE;let b1:=M.b _ (mI _ mE);let c3:xA (ts (A5 "a"))=true:=by decide+kernel
  let cf:xA (ts (A5 "b"))=true:=by decide+kernel
  by_cases h3:xM ns 1 % 3=1
  ·refine iP h3 {∅,∅,zAv (λi zs H'=>Same H4 H'/\∃cs:List Int,zs=cs.map V.int/\cs...*=i/\∀c∈cs,0<=c/\c<1000003) (by rw[mV];lia) {Same.refl _,[],O,O,λ_ z=>nomatch z} ?_ ?_}
   ·rintro i zs H5 hi _ ⟨g5,cs,rfl,hl,hc⟩
    lk;refine vF ((ai.trans g5).seq ha) ac ∅ ∅ λH6 g6=>{g5.trans g6,cs++ [xM ns (9+(0+(i:Int)))],by rw[nH];rfl,by rw[mK,hl];rfl,λc ck=>?_};rcases nE.mp ck with z | z
    ·exact hc c z
    ·rw[mF.mp z];exact{wR _ _,wV _ _}
   rintro zs H5 _ ⟨g5,cs,rfl,hl,hc⟩ l bp;let s6:=zF bp (.lst (cs.map V.int));let e6:=zC (H:=H5) (a:=l) (o:=.lst (cs.map V.int));generalize upd H5 l (.lst (cs.map V.int))=H6 at s6 e6⊢;let am:=g5.trans s6;let ah:=am _ _ M.h;let nl:l≠p:=λz=>by rw[z,ah] at e6;cases e6
   let bx:r...*<=10:=by let:=(M.len af).2;simp only[mP] at this;lia
   refine{_,DPut.k (k:=.inr "a") ah (by rw[mV];simp only[mP];lia), ?_};rw[put_a af hk];let aq:Rc (upd H6 p (.dK ((.inr "a", .ref l)::(.inr "b",v1)::r))) p n ((.inr "a", .ref l)::(.inr "b",v1)::r) (.lst (cs.map T.int)::u1::ur):=by
    refine{zC,M.k, ?_,λu hu=>?_}
    ·rw[qV]
     exact{.ref l,_,O,{l,_,O,by rw[xG nl];exact e6,zKs cs},v1,_,O,Rep.same (yV am) _ _ q1,Reps.same (yV am) _ _ qr}
    ·rcases mG.mp hu with z | z
     ·rw[z];exact zTh ∅ hc
     ·exact M.b u (mI _ z)
   let bc:upd H6 p (.dK ((.inr "a", .ref l)::(.inr "b",v1)::r)) l=_:=(zK nl).trans e6;let bb:Same H (upd H6 p (.dK ((.inr "a", .ref l)::(.inr "b",v1)::r))):=wF (ai.trans am) hp;generalize upd H6 p (.dK ((.inr "a", .ref l)::(.inr "b",v1)::r))=H7 at aq bc bb⊢;clear s6 e6 am ah g5 bp q0 q1 qr b0 b1;let dv:(cs.map V.int)...*=cs...*:=mM ..;refine vF (bb.seq ha) ac ∎ ∎ λH8 g8=>{_,zVh (g8 _ _ aq.h),l,O,_,SqL.of (g8 _ _ bc),_,_,O,wR _ _,wV _ _,∅,∅,λv d H9 g9 hd ho p3 a1 p4 bw p5 bg p6 ah=>?_};let bq:=g8.trans g9;let s1:=zF a1 (.lst [v]);let e1:=zC (H:=H9) (a:=p3) (o:=.lst [v]);generalize upd H9 p3 (.lst [v])=a3 at s1 e1 bw bg ah⊢;let s2:=zF bw (.lst [V.str (A5 "b")]);let e2:=zC (H:=a3) (a:=p4) (o:=.lst [V.str (A5 "b")]);generalize upd a3 p4 (.lst [V.str (A5 "b")])=ay at s2 e2 bg ah⊢;let s3:=zF bg (.tup [V.str (A5 "put"),V.ref p4,V.int (xM ns 1)]);let e3:=zC (H:=ay) (a:=p5) (o:=.tup [V.str (A5 "put"),V.ref p4,V.int (xM ns 1)]);generalize upd ay p5 (.tup [V.str (A5 "put"),V.ref p4,V.int (xM ns 1)])=a0 at s3 e3 ah⊢;let cn:Dlay a0 (.ref p5) (.put,[.inr (A5 "b")], .int (xM ns 1)):={p5,p4,[.int (xM ns 1)],O,e3,s3 _ _ e2, .inr {(λz=>by cases z),_,O,O}};let cl:Od (.put,[.inr (A5 "b")], .int (xM ns 1)):={λk hk=>by rw[mF.mp hk];exact cf,by show 1<=8;decide,mS,{∅,∅},by show 1+0<=15;decide,by show 1<=200;decide};obtain⟨es,bu,dt,dd,c4⟩:=zYt (k:=xM ns 1 / 15 % 2) ∅ ∅ cn cl;let s4:=zF ah (.lst [V.ref p5]);let e4:=zC (H:=a0) (a:=p6) (o:=.lst [V.ref p5]);generalize upd a0 p6 (.lst [V.ref p5])=a' at s4 e4⊢;let an:=s2.trans s3;refine{p6,_,_,O,O,e4,∅,∅,by rw[mV];simp only[mP,pL];lia,λp7 cq=>?_};let s5:=zF cq (.lst (List.replicate (xM ns 1 / 15 % 2).toNat [V.ref p5]).flatten);let e5:=zC (H:=a') (a:=p7) (o:=.lst (List.replicate (xM ns 1 / 15 % 2).toNat [V.ref p5]).flatten);generalize (List.replicate (xM ns 1 / 15 % 2).toNat [V.ref p5]).flatten=fs at bu c4 s5 e5⊢;generalize upd a' p7 (.lst fs)=dz at s5 e5⊢;let ak:=s4.trans s5;let a6:=s1.trans (an.trans ak);let av:=bq.trans a6;refine vF ((bb.trans av).seq ha) ac ∎ ∎ λdq be=>{_,zVh ((av.trans be) _ _ aq.h),l,O,_,SqL.of ((av.trans be) _ _ bc),_,_,O,wR _ _,wV _ _,∅,∅,λv' d' bv cp cx cy p8 cw=>?_};let a7:=zF cw (.lst [v']);let b3:=zC (H:=bv) (a:=p8) (o:=.lst [v']);generalize upd bv p8 (.lst [v'])=ed at a7 b3⊢;let ar:=(be.trans cp).trans a7;refine{p7,p8,_,_,O,O,ar _ _ e5,b3,by rw[mV];simp only[mP,pL];lia,λp9 df=>?_};let b4:=zF df (.lst (fs++ [v']));let aj:=ar.trans b4;let a5:=a6.trans aj;refine{p3,p9,[v],fs++ [v'], .dic ((nms.take n).map ts) (.lst (cs.map T.int)::u1::ur),[d],es++ [d'],O,(aq.same (bq.trans a5)).rep,((an.trans ak).trans aj) _ _ e1,zC,Dlays.snoc (xs:=[]) (ds:=[]) {O,λi v d h=>nomatch h} (hd.same a5),(bu.same (ak.trans aj)).snoc (cx.same (a7.trans b4)), ?_,by show 1<=12;decide, ?_}
   ·refine zTw af cg aq.b ?_ λe he=>?_
    ·simp only[mK,mP,pL];lia
    ·rcases nE.mp he with z | z
     ·rw[mF.mp z];exact ho
     ·rcases nE.mp z with z | z
      ·exact dd e z
      ·rw[mF.mp z];exact cy
   ·rw[mK];show es...*+1<=12;lia
  ·refine iN h3 {_,zVh M.h,vF (ai.seq ha) ac ∎ ∎ λH5 g5=>{_,O,a,ns,2000,v0,_,u0,O,(ai.trans g5).seq ha,ac,by decide,by decide,∅,∅,Rep.same (hide_self.trans g5) _ _ q0,b0.f,b0.g,nP b0.d ∎,nP b0.z ∎,λl pp pr o' qs rs x ds t' H6 g6 hl dc hD hO da _ _ _ _ _ _ _=>?_}}
   refine yG (SqL.of hl) (yC (j:=0) O) {pp,_,qs,ds,O,dc,hD,∅,(λd hd=>(hO d hd).1),λla ya H7 g7 bj c2=>?_};let ap:=g5.trans (g6.trans g7);refine{_,get_b (ap _ _ M.h),vF ((ai.trans ap).seq ha) ac ∎ ∎ λH8 g8=>{_,O,a,ns,3000,v1,_,u1,O,(ai.trans (ap.trans g8)).seq ha,ac,by decide,by decide,∅,∅,Rep.same (hide_self.trans (ap.trans g8)) _ _ q1,b1.f,b1.g,nP b1.d ∎,nP b1.z ∎,λl2 c9 dn o2 c5 d2 x2 b5 dw H9 g9 cv cj ct bi ch _ _ _ _ _ _ _=>?_}};refine yG (SqL.of cv) (yC (j:=0) O) {c9,_,c5,b5,O,cj,ct,∅,(λd hd=>(bi d hd).1),λlb yb a3 ba bs c'=>?_};let au:=g8.trans (g9.trans ba);refine{la,lb,ya,yb,_,ds.map (blw (A5 "a")),b5.map (blw (A5 "b")),O,(M.same (ap.trans au)).rep,au _ _ bj,bs,c2.same au,c',zTw af cg M.b ?_ λe he=>?_,by rw[mM];exact da,by rw[mM];exact ch}
   ·rw[mK,mM,mM];lia
   ·rcases nE.mp he with z | z
    ·obtain⟨d,hd,rfl⟩:=nZ.mp z
     exact(hO d hd).1.blw c3 (hO d hd).2
    ·obtain⟨d,hd,rfl⟩:=nZ.mp z
     exact(bi d hd).1.blw cf (bi d hd).2
 clear ag g3 g4 M ai hn cb af bt;rintro σ1 H5 ⟨pa,pb,xs,ys,t,as,es,rfl,m⟩;show R _ _ _;subst hR;refine zFk λR hR=>?_;unfold zJg;lk;refine{λσ' H'=>∃fv,σ'= [Y (.ref a),Y (.ref p),Y (.ref p2),o,Y (.int (xM ns 1)),Y (.ref pa),Y (.ref pb),Y fv,none,none,none]/\Same H5 H'/\Tw H' fv as es t, ?_, ?_}
 ·exact{.ref p,pa,pb,xs,ys,t,as,es,31,O,m.v,m.a,m.da,m.b,m.db,m.j,λu hu l y H6 g6 h1 h2=>{_,O,g6, .inl ⟨u,l,y,hu,O,h1,h2⟩},λhn H6 g6=>{_,O,g6, .inr ⟨hn,O⟩}}
 rintro σ1 H6 ⟨fv,rfl,g6,hF⟩
 replace m:=m.same g6
 show R _ _ _;subst hR;refine zFk λR hR=>?_;unfold zJg;lk;refine{λσ' H'=>∃tv,σ'= [Y (.ref a),Y (.ref p),Y (.ref p2),o,Y (.int (xM ns 1)),Y (.ref pa),Y (.ref pb),Y fv,Y tv,none,none]/\Same H6 H'/\Tw H' tv es as t, ?_, ?_}
 ·exact{.ref p,pb,pa,ys,xs,t,es,as,31,O,m.v,m.b,m.db,m.a,m.da,m.j.perm sI,λu hu l y H7 g7 h1 h2=>{_,O,g7, .inl ⟨u,l,y,hu,O,h1,h2⟩},λhn H7 g7=>{_,O,g7, .inr ⟨hn,O⟩}}
 rintro σ1 H7 ⟨tv,rfl,g7,hT⟩
 replace m:=m.same g7
 replace hF:=hF.same g7
 show R _ _ _;subst hR;refine zFk λR hR=>?_;lk;let oA:∀d∈as,Od d:=λd hd=>m.j.o d (nW _ hd);let oB:∀d∈es,Od d:=λd hd=>m.j.o d (nB _ hd);let bj:=m.la;let bs:=m.lb;refine{pa,pb,xs,ys,as,es,O,m.a,m.da,∅,oA,m.b,m.db,∅,oB,λH8 g8=>{_,O, ?_}}
 cases cm:as.all λa=>es.all λd=>uF a.2.1 d.2.1 with
 |false=>exact iP O (q _)|true=>
 refine iN ∎ ?_;rcases hF.same g8 with⟨u2,l1,y1,f1,rfl,f3,f4⟩|⟨_,rfl⟩
 rotate_left
 ·exact iP O (q _)
 refine iN (λz=>by cases z) ?_;rcases hT.same g8 with⟨w2,l2,y2,t1,rfl,t3,t4⟩|⟨_,rfl⟩
 rotate_left
 ·exact iP O (q _)
 refine iN (λz=>by cases z) ?_
 replace m:=m.same g8
 clear hF hT g8 g7 g6 oA oB;obtain⟨u1,r1,dx,r2,bn⟩:=zIs f1;obtain⟨w1,r3,a9,r4,b2⟩:=zIs t1;obtain⟨eq,az,a8,cc,dh,J1,J0⟩:=m.apart cm r1 r2 r3 r4;obtain⟨_,d0,_⟩:=uU az bn;obtain⟨_,dk,_⟩:=uU a8 b2;obtain⟨_,dy,_⟩:=uU cc a9;let ce:alk u2 w2=true:=nO eq;subst hR;refine zFk λR hR=>?_;lk;refine yG (SqL.of f3) (yC (j:=0) O) (yG (SqL.of t3) (yC (j:=0) O) (zVd f4 t4 az a8 ∅ ∅ λH9 g9=>{_,O,iN (by rw[ce];decide) ?_}));subst hR;refine zFk λR hR=>?_;lk;refine{.ref p,pb,ys,t,w1,es,31,O,(m.same g9).v,g9 _ _ m.b,m.db.same g9,J0,r3,a9,λyb a3 eb ba bm _=>?_};let al:=g9.trans ba;let br:=Sp1.rep _ _ _ bm;subst hR;lk;refine{yb,pa,xs,w1,w2,as,_,O,br,al _ _ m.a,m.da.same al,J1,r4,b2,λdg lr zs D ay a2 bx di=>?_,λ_ ay a2=>?_}
 rotate_left
 ·exact iP O (q _)
 obtain⟨J2,t',bf,a4,bl,bz⟩:=zRu J1 ∅ a9 r4 dh az bn dg (Eqc.symm az a8 eq);refine oAA (uU bz a4) λ_ dm _=>?_;let cd:alk t' w1=true:=nO bl;refine iN (λz=>by cases z) (yG (SqL.of ((al.trans a2) _ _ f3)) (yC (j:=0) O) {y1,lr,zs,u2,t',_,31,O,Rep.same (al.trans a2) _ _ f4,bx,Dlays.of (Sps.rep _ _ _ di),J2,bf,a4,λy3 a0 d1 de ca _=>?_});refine zVd (Sp1.rep _ _ _ ca) (Rep.same (a2.trans de) _ _ br) bz cc ∅ ∅ λa' dr=>?_;rw[cd];exact q _
end
end K47
namespace K47
open PySem L2 PySem.W
section
variable{K:Frag}{dT:V1}{kV doc pm cdv ct:V0}{an:Option V1}
theorem biCs{o:Obj}{j:V0}{n:Nat}(g:K.lookup dT=Y o)(h:o.data= .seq #[j] n):Binds K (fnOf "change_shared" "change_shared" (xP sCs) (xD sCs) (zW sCs) (.ref dT) kV doc pm an cdv ct) ["thing","word","path","new"] []:=by
 refine λs k i f=>?_;rw[nS] at f⊢;rcases k with _ |⟨a,_ |⟨b,_ |⟨c,_ |⟨d,_ |⟨e,r⟩⟩⟩⟩⟩
 case cons.cons.cons.cons.nil=>exact binds_K i O g h O O
 all_goals exact absurd f (by simp)
end
end K47
namespace K47
open PySem L2 PySem.W
def FA(K:A6)(x:Str)(st:V6)(f:V1):Prop:=A8 K A0 x=Y ↥(.ref f)/\∃e c kV h b g a i d,K.lookup f=Y {e,c, .func (W.fnOf x x (xP st) (xD st) (zW st) .none kV h b g a i),d}/\A9 K a x=true/\A7 K (.ref f)=true
theorem FA.out{K:A6}{h:V5}{b:C8}{x:Str}{st:V6}{f:V1}(a:FA K x st f)(X:K.In h)(G:h.Ns A0 b):b x=Y (.ref f)/\(∃d,Fun K x x st f d)/\A7 K (.ref f)=true:=by
 obtain⟨a,j,g,kV,o,e,m,n,p,i,l,c,k⟩:=a;exact nAA (sN X G a) {_,zRz l c k} k
theorem zCy{P:V3}{w:V4}{K:A6}{a:C8}{base:V5}{k:Nat}{x:Str}{ps:C1}{sp:Sp}(j:Nat)(h:Dn P w K a base k x ps sp)(l:k<=j:=by decide):Dn P w K a base j x ps sp:=by
 obtain⟨_,_,z,b,p,m⟩:=h;exact{_,_,FnOk.mono z l,b,p,m}
section
variable{φ:V0->Prop}{P:V3}{w:V4}{K:A6}{mg:C8}{base h:V5}{k:Nat}{x:Str}{ps:C1}{sp:Sp}{st:V6}{f:V1}(X:K.In h)(G:h.Ns A0 mg)(j:Nat)(a:FA K x st f)
include X G a
theorem dn_mk(o:∀{c},Fun K x x st f c->FnOk P w K mg base CX0 k f c ps sp)(l:k<=j:=by decide)(b:∀c,Fun K x x st f c->Binds K c ps []:=by walk_at "b"):Dn P w K mg base j x ps sp:=by
 obtain⟨m,⟨c,F⟩,p⟩:=a.out X G;exact{_,_,FnOk.mono (o F) l,b _ F,p,m}
theorem yEc(o:∀{c},Fun K x x st f c->Binds K c ps []->A7 K (.ref f)=true->mg x=Y (.ref f)->FnOk P w K mg base CX0 k f c ps sp)(l:k<=j:=by decide)(b:∀c,Fun K x x st f c->Binds K c ps []:=by walk_at "b"):Dn P w K mg base j x ps sp:=by
 obtain⟨m,⟨c,F⟩,p⟩:=a.out X G;exact{_,_,FnOk.mono (o F (b _ F) p m) l,b _ F,p,m}
theorem yAc(o:∀{c},Fun K x x st f c->FnOk P w K mg base (CXE φ P w) k f c ps sp)(l:k<=j:=by decide)(b:∀c,Fun K x x st f c->Binds K c ps []:=by walk_at "b"):Dx φ P w K mg base j x ps sp:=by
 obtain⟨m,⟨c,F⟩,p⟩:=a.out X G;exact{_,_,FnOk.mono (o F) l,b _ F,p,m}
end
theorem all_mk{l:W.OpenLaw}{w:V4}{K:A6}{h:V5}{d:C8}{fa f0 f1 f2 f3 f4 f5 f6 f7 f8 f9 cv fm ck gj ek eb dw g9 hy e4 ge ic cn fu eq dd c' e3 gl ih fk e6 fc g' fw gw ew g6 cj g3 dm es g1 fn g4 ds ii er e5 hh fp aw:V1}(X:K.In h)(G:h.Ns A0 d)(hb:d "law" =Y (.ref fa))
  {bk ah:Option V1} {b4:Array (Option V0)} {bp ae af ag z ac:V0}
  {u0:Tok}
  {u1:Tok}
  {v0:Tok}
  {v1:Tok}
  {v2:Tok}
  {v3:Tok}
  {v4:Tok}
  {v5:Tok}
  {q a i c:V1} {pN pF pD:V1} {pq:Str} {gp:B7} {ep:C1} {bw:B7} {cz:Bool} {bt:Option Bool} {e7:Option V1} {ie gz h5 fg cg:Option V0} {ft gt:Option V1} {ch:Array (Option V0)} {fe go ec ci b5 ey:V0} {hm:Option V1} {ca ex:V0} {hz:Nat} {gc:Array (Option V0)} {dN dF dD:V1} {dq:Str} {h0:B7} {ee:C1} {bz:B7} {e0:Bool} {bc:Option Bool} {fx:Option V1} {fv dn cy dz ea:Option V0} {ef em:Option V1} {cw:Array (Option V0)} {e8 fh g7 cr bi fo:V0} {h':Option V1} {ba f':V0} {eh:Nat} {hf:Array (Option V0)} {tN:V1} {tq:Str} {gb:B7} {df:C1} {b0:B7} {eo:Bool} {bo:Option Bool} {e2:Option V1} {gk cs fi h1 c9:Option V0} {hF hD:V1} {bb ax au al ab am eg:V0} {b6 aj ij:Option V1} {bs ik:Array (Option V0)} {gg:Nat}
  (a0:FA K "kind_of" zOq f0)
  (a1:FA K "is_name" zPr f1)
  (a2:FA K "is_text_sign" sSgn f2)
  (a3:FA K "is_thing" sTh f3)
  (a4:FA K "is_sound_outside" sSnd f4)
  (a5:FA K "holds_parts" sHp f5)
  (a6:FA K "parts_of" sPo f6)
  (a7:FA K "parts_of_all" sPz f7)
  (a8:FA K "copied" sCp f8)
  (a9:FA K "apart" zWk f9)
  (gy:FA K "apart_from_all" sAll cv)
  (gx:FA K "are_apart" sAre fm)
  (ej:FA K "is_place" zVn ck)
  (gd:FA K "thing_at" sTa gj)
  (hi:FA K "has" sHas ek)
  (hp:FA K "stops_on" sSt eb)
  (hd:FA K "leads_on" sLo dw)
  (bm:FA K "sound" sSou g9)
  (hc:FA K "whole_changed" sWc hy)
  (c4:FA K "stops_to_last" sSl e4)
  (cx:FA K "leads_within" sLw ge)
  (di:FA K "can_change" sCc ic)
  (fs:FA K "part_changed" zZx cn)
  (gm:FA K "record_changed" sRec fu)
  (c5:FA K "row_changed" sRow eq)
  (b':FA K "done" zZv dd)
  (h6:FA K "stands_of" sSo c')
  (d1:FA K "after_deed" sAd e3)
  (el:FA K "back" zZz gl)
  (il:FA K "deed_back" sBk1 ih)
  (hj:FA K "_law_cell" yAq fk)
  (h4:FA K "_law_name_by" zZm e6)
  (en:FA K "_law_signs" zSi fc)
  (gf:FA K "_law_text_by" zZk g')
  (ia:FA K "_law_number_by" sNum fw)
  (g8:FA K "_law_thing_by" zEr gw)
  (hr:FA K "_law_kind" zZl ew)
  (h3:FA K "_law_rows_compare" zNz g6)
  (h8:FA K "_law_compare" zVx cj)
  (dt:FA K "_law_same" zZr g3)
  (hx:FA K "_law_held" sCo dm)
  (dk:FA K "_law_put_in" sPi es)
  (cm:FA K "_law_deed_on" sDo g1)
  (ig:FA K "_law_walk" sWk fn)
  (d0:FA K "_law_step_at" sSa g4)
  (cl:FA K "_law_deed" sDe ds)
  (dx:FA K "_law_deeds" sDs ii)
  (hn:FA K "_law_below" sBw er)
  (gs:FA K "_law_row_deed" sRd e5)
  (hv:FA K "_law_back" sLb hh)
  (gu:FA K "_law_tried" sTr fp)
  (dy:A8 K A0 "law" =Y ↥(.ref aw))
  (d':K.lookup aw=Y {bp,bk, .func (W.fnOf "law" "law" (xP zIu) (xD zIu) (zW zIu) .none ae af ag ah z ac),b4})
  (dh:A9 K z "law" =true)
  (fl:A7 K (.ref aw)=true)
  (z0:A8 K A0 "len" =Y none)
  (z1:A8 K A0 "range" =Y none)
  (z2:A8 K A0 "isinstance" =Y none)
  (z3:A8 K A0 "all" =Y none)
  (z4:A8 K A0 "sum" =Y none)
  (z5:A8 K A0 "int" =Y none)
  (z6:A8 K A0 "str" =Y none)
  (z7:A8 K A0 "bool" =Y none)
  (z8:A8 K A0 "list" =Y none)
  (z9:A8 K A0 "dict" =Y none)
  (e9:A8 K A0 "tuple" =Y none)
  (y0:A8 K A0 "max" =Y none)
  (y1:A8 K A0 "min" =Y none)
  (y2:A8 K A0 "sorted" =Y none)
  (r0:A8 K A0 "enumerate" =Y none)
  (q0:A8 K A0 "abs" =Y none)
  (q1:A8 K A0 "ord" =Y none)
  (eu:A8 K A0 "zip" =Y none)
  (s0:A8 K A0 "LETTERS" =Y ↥(.str (A5 "abcdefghijklmnopqrstuvwxyz") u0))
  (s1:A8 K A0 "NAME_SIGNS" =Y ↥(.str (A5 "abcdefghijklmnopqrstuvwxyz0123456789") u1))
  (n0:A8 K A0 "MOST_IN_NAME" =Y ↥(.int 12 v0))
  (n1:A8 K A0 "MOST_IN_TEXT" =Y ↥(.int 30 v1))
  (n2:A8 K A0 "MOST_IN_ROW" =Y ↥(.int 60 v2))
  (n3:A8 K A0 "MOST_IN_RECORD" =Y ↥(.int 30 v3))
  (n4:A8 K A0 "MOST_DEPTH" =Y ↥(.int 8 v4))
  (n5:A8 K A0 "MOST_SIZE" =Y ↥(.int 200 v5))
  (ha:A8 K A0 "change_shared" =Y ↥(.ref hF))
  (hs:K.lookup hF=Y {bb,b6, .func (W.fnOf "change_shared" "change_shared" (xP sCs) (xD sCs) (zW sCs) (.ref hD) ax au al aj ab am),bs})
  (ht:A9 K ab "change_shared" =true)
  (hk:A7 K (.ref hF)=true)
  (hu:K.lookup hD=Y {eg,ij, .seq #[.none] gg,ik})
  (dj:A8 K A0 "CabinetError" =Y ↥(.ref q))
  (db:A8 K A0 "reversed" =Y none)
  (ao:W.tailIn K veMro (.ref q::veMro)=true)
  (fq:W.specialIn K (.ref q) "__getattribute__" =Y ↥(.builtin "type.__getattribute__"))
  (co:W.readsIn K q (.type "type")=true)
  (c2:W.findCls K (.ref q) (.type "type") "__init__" =Y (.val (.builtin "ValueError.__init__")))
  (pa:A8 K A0 "NoPlace" =Y ↥(.ref a))
  (bv:K.lookup a=Y (excClassObj "NoPlace" pq a pN gp (.ref q::veMro) true ep bw cz bt e7 ie gz h5 fg cg "ValueError.__new__"))
  (de:W.findIn K (.ref a) "__init__" =Y ↥(.ref pF))
  (c3:W.typeIn K (.ref pF)=Y (.type "function"))
  (cq:W.findIn K (.ref a) "__setattr__" =Y ↥(.builtin "object.__setattr__"))
  (gi:W.findIn K (.ref a) "at" =Y none)
  (ho:A7 K (.ref a)=true)
  (ff:K.lookup pF=Y {fe,ft, .func (W.fnOf "__init__" "NoPlace.__init__" (xP qJ) (xD qJ) (zW qJ) (.ref pD) go ec ci gt b5 ey),ch})
  (fj:A9 K b5 "NoPlace.__init__" =true)
  (dg:K.lookup pD=Y {ca,hm, .seq #[ex] hz,gc})
  (da:A8 K A0 "NoDeed" =Y ↥(.ref c))
  (bu:K.lookup c=Y (excClassObj "NoDeed" dq c dN h0 (.ref q::veMro) true ee bz e0 bc fx fv dn cy dz ea "ValueError.__new__"))
  (c1:W.findIn K (.ref c) "__init__" =Y ↥(.ref dF))
  (gh:W.typeIn K (.ref dF)=Y (.type "function"))
  (he:W.findIn K (.ref c) "__setattr__" =Y ↥(.builtin "object.__setattr__"))
  (ei:W.findIn K (.ref c) "at" =Y none)
  (dv:A7 K (.ref c)=true)
  (et:K.lookup dF=Y {e8,ef, .func (W.fnOf "__init__" "NoDeed.__init__" (xP qK) (xD qK) (zW qK) (.ref dD) fh g7 cr em bi fo),cw})
  (ib:A9 K bi "NoDeed.__init__" =true)
  (ed:K.lookup dD=Y {ba,h', .seq #[f'] eh,hf})
  (h9:W.findIn K (.ref c) "number" =Y none)
  (ta:A8 K A0 "TooGreat" =Y ↥(.ref i))
  (gr:K.lookup i=Y (excClassObj "TooGreat" tq i tN gb (.ref q::veMro) true df b0 eo bo e2 gk cs fi h1 c9 "ValueError.__new__"))
  (e1:W.nsOkIn K tN=true)
  (h7:A8 K tN "__init__" =Y none)
  (dr:A7 K (.ref i)=true)
  (hw:W.exmOne K (.ref a) (.ref a)=Y true)
  (bf:W.exmOne K (.ref c) (.ref q)=Y true)
  (a':W.exmOne K (.ref i) (.ref q)=Y true)
  (cf:W.exmOne K (.ref i) (.ref i)=Y true):
  ∃fd:V7,(∀(s:V2)(v:V0),BindsTo s fd {[v],[]} [("_law_script",v)])/\∀base:V5,K.In base->base.Ns A0 d->FnOk l.prog w K d base CX0 107 fa fd ["_law_script"] (zNu K):=by
 let e:=hb.symm.trans (sN X G dy);cases e;let b3:=zRz (st:=zIu) d' dh fl;let B:Bl d:={pK X G z0,pK X G z1,pK X G z2,pK X G z3,pK X G z4,pK X G z5,pK X G z6,pK X G z7,pK X G z8,pK X G z9,pK X G e9};let Q:Bl2 d:={B,pK X G y0,pK X G y1,pK X G y2};let B4:Bl4 d:={Q,pK X G r0};let B5:Bl5 d:={Q,pK X G q0,pK X G q1};let B6:Bl6 d:={Q,pK X G eu};let M:Ms d:={{_,sN X G s0},{_,sN X G s1},{_,sN X G n0},{_,sN X G n1},{_,sN X G n2},{_,sN X G n3},{_,sN X G n4},{_,sN X G n5}};refine{W.fnOf "law" "law" (xP zIu) (xD zIu) (zW zIu) .none ae af ag ah z ac,λs v=>.of_eq O,λbase _ _=>?_};let D {k x ps sp st f}:=@dn_mk l.prog w K d base h k x ps sp st f X G;let D3 {k x ps sp st f}:=@yEc l.prog w K d base h k x ps sp st f X G;let EnC {k x ps sp st f}:=@yAc nC l.prog w K d base h k x ps sp st f X G;let EaC {k x ps sp st f}:=@yAc aC l.prog w K d base h k x ps sp st f X G;obtain⟨mR,⟨_,FR⟩,pR⟩:=h3.out X G;let g:=D 1 hj λF=>zZh F B;let bq:=D 1 ia λF=>yCk F;let E:=D 1 h4 λF=>zYu F B;let J:=D 1 en λF=>zVf F;let av:=D 2 gf λF=>zXp F B J;let o:=D3 (3+3) g8 λF b p m=>zRi (n:=3) (zFw F B g bq av E b p m);let ap:=D3 (1+20) hx λF b p m=>zSj F B b p m 20;let bR:Binds K _ ["_law_one","_law_other"] []:=(by walk_at "b" :∀fd,Fun K "_law_rows_compare" "_law_rows_compare" zNz _ fd->Binds K fd ["_law_one","_law_other"] []) _ FR;let A:=D 1 hr λF=>zXj F B;let cb:=D3 (2+2*40) h8 λF b p m=>zNv F FR Q A b p m bR pR mR 40;let ak:=D (2+2*40+1) dt λF=>zXh F Q A cb;let hq:=D 1 a0 λF=>zEs F B;let bx:=D3 (1+20) a8 λF b p m=>zTi F B b p m 20;let cu:=D 6 d0 λF=>ok_sa F Q E;let h2:=D 6 ig λF=>ok_wk F Q g;let N:=zCy 6 g;let gv:=D 23 cl λF=>ok_de F Q N h2 cu o;let dp:=D 22 dk λF=>ok_pi F B ap;let ai:=zCy 22 ap;let gn:=D 23 cm λF=>ok_do F B ai dp;let ay:=zCy 23 ap;let d2:=D 41 dx λF=>ok_ds F Q ay gv gn;let ga:=D 1 a0 λF=>yDt (zEs F B);let r:=D 2 ej λF=>zWf F B M ga;let az:=D 1 hd λF=>ok_lo F B;let bl:=D 3 cx λF=>ok_lw F B az r;let fz:=D 4 di λF=>ok_cc F B bl r;let cc:=D 1 gm λF=>yDi F B;let be:=D 1 c5 λF=>yDv F B;let ar:=D 2 fs λF=>zYp F B cc be;let mB:=sN X G dj;let XC:zCc K "NoPlace" a q pF:={⟨pN,_,bv,_,_,_,_,_,_,_,_,_,_,_,_,_,O⟩,{_,by unfold W.clsIn;rw[bv],O,O},ao,de,c3,cq,gi,ho};let XD:zCc K "NoDeed" c q dF:={⟨dN,_,bu,_,_,_,_,_,_,_,_,_,_,_,_,_,O⟩,{_,by unfold W.clsIn;rw[bu],O,O},ao,c1,gh,he,ei,dv};let XB:zOx K q:=⟨fq,co,c2⟩;let RN:Xr l.prog w K d base 1 "NoPlace" a:={_,_,_,_,_,XC,zVb ff fj XC XB mB,zKw dg O O,sN X G pa};let RB:Xb K d "NoPlace" a:={_,_,_,XC,sN X G pa,hw};let RD:Xh l.prog w K d base 1 "NoDeed" c "number":={_,_,_,_,_,XD,zVz et ib XD h9 XB mB,zJj ed O O,sN X G da};let RT:Xr0 K d "TooGreat" i:={_,_,{{tN,_,gr,⟨_,_,_,_,_,_,_,_,_,_,_,_,_,O⟩,e1,h7},ao,dr},sN X G ta};let TF:Tf K d q c i:={mB,sN X G ta,bf,a',cf};let du:=EnC 3 hc λF=>ok_wc F B RN;let ez:=EnC 4 c4 λF=>ok_sl F B bl RN;let cp:FunD K "change_shared" "change_shared" sCs hF (W.fnOf "change_shared" "change_shared" (xP sCs) (xD sCs) (zW sCs) (.ref hD) ax au al aj ab am):={{bb,b6, .ref hD,ax,au,al,aj,ab,am,bs,O,hs,ht}};let fy:=sN X G ha;let e':Dx nC l.prog w K d base 5 "change_shared" ["thing","word","path","new"] (zWx a):={_,_,ok_cs cp B du ez fz ar RN,biCs hu O,hk,fy};let fb:=EaC 6 d1 λF=>ok_ad F B e' RD RB;let hl:=D 1 a1 λF=>zLp F B M;let fr:=D 1 a2 λF=>yBr F B5;let b2:=D 2 a4 λF=>yCl F B5 M hq fr hl;let c0:=D 1 a5 λF=>ok_hp F B;let hg:=D 1 a6 λF=>ok_po F B;let g5:=D 2 a7 λF=>yCr F B hg;let bd:=D 3 a3 λF=>ok_th F B M b2 c0 g5;let bn:=EaC 6 bm λF=>zSl F bd RT;let aq:=EaC 25 h6 λF=>ok_so F B4 fb bn;let y:=zCy 25 bx;let H:=EaC 26 b' λF=>zOy F aq y;let bh:=D 2 hp λF=>ok_st F B az;let b1:=D 22 hi λF=>yAu F B bh;let ev:=D 22 gd λF=>ok_ta F B bh bx;let aa:=EaC 22 bm λF=>zSl F bd RT;let cd:=EaC 25 il λF=>yCg F B b1 ev aa;let ce:=pK X G db;let L:=EaC 26 el λF=>zXl F B4 ce aq cd;let an:=D 106 b' λF=>dn_of (zOy F aq y);let gq:=D 106 hv λF=>ok_lb F TF L;let g0:=D 106 gu λF=>ok_tr F TF H;let bg:=D 1 gx λF=>yBb F B6;let br:=D 2 gy λF=>yEa F B6 bg;let bj:=D 106 a9 λF=>zVc F B6 br;let ct:=D 106 hn λF=>ok_bw (k:=0) F B;let dc:=D 106 gs λF=>ok_rd (k:=0) F B;let t:=zCy 106 g;let j:=zCy 106 o;let I:=zCy 106 d2;let u:=zCy 106 ak;exact yDc b3 B6 t j dc ct I g0 bj u an gq
theorem walk{l:W.OpenLaw}{q:V3}{b:C1}{i:(Str->Option V0)->V5->Prop}{e:V4->V5->Prop}{d:DefRec}{K:Params->A6}(o:l.most=Y 63)(c:d.params.defaults= [])
  (p:∀(w:V4)(h:V5),e w h->(K w.params).In h)
  (F:∀(w:V4)(mg:C8)(fa:V1)(h:V5),(K w.params).In h->h.Ns A0 mg->mg d.name=Y (.ref fa)->
   ∃fd:V7,(∀(s:V2)(u:V0),BindsTo s fd {[u],[]} [("_law_script",u)])/\∀base:V5,(K w.params).In base->base.Ns A0 mg->FnOk l.prog w (K w.params) mg base CX0 107 fa fd ["_law_script"] (zNu (K w.params))):
  W.WalkO q b i e l.row.toRowW d [] (λf vs=>PySem.call f vs):=
 L2.zOz (n:=63) (k:=107) (x:="_law_script") (CX:=λ_=>CX0) (sp:=λw=>zNu (K w.params)) o ∎ c {O,by decide,by decide} p F (λ_ _ a j m _ g=>{a,j,O,g,m,λ_=>O}) λ_ _ _ _ _ z=>z
end K47
end
end
end
namespace PySem.W.Fast
def tw18387972302485063541:=()
def tw595738807948128838:=()
def tw9865041996422202156:=()
def tw17262574242963158923:=()
def tw54244788924191331:=()
def tw10801215554412403423:=()
def tw16764588526148092424:=()
def tw4415360444433368195:=()
def tw1853004900218129601:=()
def tw14485778243452136521:=()
def tw14696906733236657287:=()
def tw2341275648207352000:=()
def tw5205741327508243117:=()
def tw2040674312544167488:=()
def tw14633910533617568891:=()
def tw10431841853495650835:=()
def tw1989687516461795091:=()
def tw5831864650673336241:=()
def tw11909095279904372161:=()
def tw17414523192776468006:=()
def tw7932641135737011479:=()
def tw351900737134120735:=()
def tw2611401796170679771:=()
def tw3638982074724033263:=()
def tw9998595451135497971:=()
def tw3935223523102760845:=()
def tw7705344278546216264:=()
def tw5819431246159889893:=()
def tw15383219672322779044:=()
def tw15539110215804720655:=()
def tw15232428677017179112:=()
def tw1775516435115252345:=()
def tw11670282292183885036:=()
def tw5196022613446396354:=()
def tw4949019662479449837:=()
def tw8229203574323223491:=()
def tw15762629869376841346:=()
def tw2144220349575708728:=()
def tw4220141915511337963:=()
def tw15007039456112129795:=()
def tw5426178441205368272:=()
def tw2280115082060828333:=()
def tw4404444484195190403:=()
def tw7633744756633019301:=()
def tw3070063851165524155:=()
def tw11585506137882825435:=()
def tw17172197607629593604:=()
def tw12795680359245745699:=()
def tw16843862541416192395:=()
def tw7652609573221604905:=()
def tw9300348423817299152:=()
def tw14014178488791682248:=()
def tw17105212138707341065:=()
def tw5191026120345787949:=()
def tw815553505704199761:=()
def tw17902560565646112005:=()
def tw7876752001493455396:=()
def tw10101591539663421561:=()
def tw2958909932130647438:=()
def tw3558831523113250222:=()
def tw5877606705589459779:=()
def tw15409968772555943337:=()
def tw1466420265727158417:=()
def tw8153811188746432237:=()
def tw13168379255609689364:=()
def tw11449127211759805548:=()
def tw7087900920291999198:=()
def tw4462927994664200261:=()
def tw15689886926004776633:=()
def tw10171625062188465993:=()
def tw13253640751278562461:=()
def tw14865120727994853292:=()
def tw13959950221765870546:=()
def tw5071509731641708932:=()
def tw5440835678302987536:=()
def tw15648525788846211717:=()
def tw1379753034410696226:=()
def tw9718443725557265327:=()
def tw14895505714506167373:=()
def tw11338840918109941605:=()
def tw4219224108300547137:=()
def tw10275664976164237796:=()
def tw6486197260064926497:=()
def tw16052895874002479530:=()
def tw16212633344256080634:=()
def tw3302574932410736083:=()
def tw17186344816632255875:=()
def tw16367091169016329349:=()
def tw7269210933995457709:=()
def tw7553548233702831928:=()
def tw11652020461345264577:=()
def tw5555336697610696647:=()
def tw8660639397273551478:=()
def tw7728374055809721050:=()
def tw7883785283495424916:=()
def tw15110540558889529848:=()
def tw3536576517664622499:=()
def tw6363562861205940366:=()
def tw15893801494241442758:=()
def tw15880575307606113574:=()
def tw1954756087312787861:=()
def tw11927836341138252306:=()
def tw3445248857421045234:=()
def tw2212509266956850363:=()
def tw12552289157218791659:=()
def tw8039860716155241104:=()
def tw15392512207395197927:=()
def tw27973315434052754:=()
def tw15265195460445973729:=()
def tw12067993671519493722:=()
def tw2896248469878563495:=()
def tw8509245032705639669:=()
def tw174533674590191990:=()
def tw1300665987406998308:=()
def tw4285576564577461888:=()
def tw2691315774642664466:=()
def tw13498165151318708328:=()
def tw15321974203168088285:=()
def tw17853964831533532270:=()
def tw7570175914273382203:=()
def tw17565781037820106762:=()
def tw2103540737508848665:=()
def tw5968166752927901562:=()
def tw8695693803061190765:=()
def tw7130556417129207048:=()
def tw424370977675789202:=()
def tw925889239102426671:=()
def tw12726931158595189168:=()
def tw14757144296671197362:=()
def tw10438176759577501458:=()
def tw5996353504525712616:=()
def tw6937390129296134737:=()
def tw4920118459600462773:=()
def tw2292036833645038336:=()
def tw17188167389438262308:=()
def tw17526493019308398521:=()
def tw2967522282702483218:=()
def tw5151098389958865758:=()
def tw15309504304881731736:=()
def tw17539994881065915488:=()
def tw14603017847504711092:=()
def tw9172131821306878240:=()
def tw633408639382104947:=()
def tw12719370116170273313:=()
def tw12707071306000248801:=()
def tw1719042866038240032:=()
def tw9237292964879595102:=()
def tw4292000230649740906:=()
def tw10670234310641906862:=()
def tw11395498641616060180:=()
def tw7282246274160976869:=()
def tw7382044641745277256:=()
def tw17682660633547584851:=()
def tw16133844350550794163:=()
def tw8214906199534733435:=()
def tw1537359247443323653:=()
def tw14265716377804247485:=()
def tw520034595639025969:=()
def tw12442696040145999656:=()
def tw11328522042973122779:=()
def tw7188893389398840712:=()
def tw6366979954773923033:=()
def tw1203540157180066774:=()
def tw2311953700822241266:=()
def tw2883183875886681127:=()
def tw11353429321550823444:=()
def tw3931421989440119023:=()
def tw9487639380274335884:=()
def tw179496189084526172:=()
def tw9235541095786280397:=()
def tw9046022348666101598:=()
def tw18106971802200207375:=()
def tw3468076576208252114:=()
def tw2638993963239858562:=()
def tw12048931680087499499:=()
def tw1749208664003518654:=()
def tw5914042824280035739:=()
def tw2535989814414921120:=()
def tw7419804052045390039:=()
def tw1730841042100972998:=()
def tw17937736744010461494:=()
def tw4479784053544704581:=()
def tw9167876090273198356:=()
def tw3327170236855007430:=()
def tw8801503924405507920:=()
def tw17953941199827044626:=()
def tw14191800279432540135:=()
def tw5610049030818814009:=()
def tw413226699428926400:=()
def tw12204090933979772156:=()
def tw14082960024435950056:=()
def tw4078541986714797467:=()
def tw12122825195946852989:=()
def tw4931607341438964039:=()
def tw4763185367915796398:=()
def tw7447524110265537083:=()
def tw13020648100605894400:=()
def tw16533218231397934429:=()
def tw8634405646036714406:=()
def tw10658686932027159714:=()
def tw2112191993849110012:=()
def tw18006620746902380618:=()
def tw16747337986937471485:=()
def tw549070016593050155:=()
def tw6612394408570395530:=()
def tw9874726165472558499:=()
def tw8744334162762265609:=()
def tw13061900713524739799:=()
def tw591143940929083762:=()
def tw358331513898979156:=()
def tw14283948020187718522:=()
def tw5802012071799106228:=()
def tw9435583503804579800:=()
def tw3133797535562778771:=()
def tw10032624099231047675:=()
def tw6894444728329436166:=()
def tw2615289690139758090:=()
def tw15484065362925065291:=()
def tw5421549884455996964:=()
def tw1327696288497972502:=()
def tw2371333363533480968:=()
def tw7154367241220421715:=()
def tw13094517142916564194:=()
def tw8264252979459544121:=()
def tw12748872459930668798:=()
def tw16887247068241545817:=()
def tw6948863153120385287:=()
def tw8167994357452905051:=()
def tw2898523239831920906:=()
def tw11774915970050602439:=()
def tw10970518787581913743:=()
def tw1973693589486738454:=()
end PySem.W.Fast
open PySem PySem.W PyProof.Rows
set_option maxRecDepth 100000 in
set_option maxHeartbeats 0 in
theorem PySem.Challenge.cw_cabinet_k47_whole_apart_turns_holds : PySem.Challenge.rw_cabinet_k47_whole_apart_turns.Holds := by
  w_on;o_law;k_head;(case hw=>w_witness2)
  k_fill
  refine K47.walk (l:=PySem.Challenge.rw_cabinet_k47_whole_apart_turns) rfl rfl (fun w h Y=>PySem.W.kIn_of Y) ?F
  case F=>
    intro w mg fa h KX G hmg;refine' K47.all_mk KX G hmg ?a0 ?a1 ?a2 ?a3 ?a4 ?a5 ?a6 ?a7 ?a8 ?a9 ?a10 ?a11 ?a12 ?a13 ?a14 ?a15 ?a16 ?a17 ?a18 ?a19 ?a20 ?a21 ?a22 ?a23 ?a24 ?a25 ?a26 ?a27 ?a28 ?a29 ?a30 ?a31 ?a32 ?a33 ?a34 ?a35 ?a36 ?a37 ?a38 ?a39 ?a40 ?a41 ?a42 ?a43 ?a44 ?a45 ?a46 ?a47 ?a48 ?a49 ?a50 ?a51 ?l51 ?c51 ?k51 ?z0 ?z1 ?z2 ?z3 ?z4 ?z5 ?z6 ?z7 ?z8 ?z9 ?z10 ?y0 ?y1 ?y2 ?r0 ?q0 ?q1 ?zz0 ?s0 ?s1 ?n0 ?n1 ?n2 ?n3 ?n4 ?n5 ?ha ?hs ?ht ?hk ?hu ?xaB ?hrv ?xb1 ?xc0 ?xc1 ?xc2 ?pa ?pb0 ?pb2 ?pb3 ?pb4 ?pb5 ?pb6 ?pd0 ?pd1 ?pd2 ?da ?db0 ?db2 ?db3 ?db4 ?db5 ?db6 ?dd0 ?dd1 ?dd2 ?dfn ?ta ?tb0 ?tb2 ?tb3 ?tb6 ?xf1 ?xf5B ?xf2B ?xf22
    case a0 | a1 | a2 | a3 | a4 | a5 | a6 | a7 | a8 | a9 | a10 | a11 | a12 | a13 | a14 | a15 | a16 | a17 | a18 | a19 | a20 | a21 | a22 | a23 | a24 | a25 | a26 | a27 | a28 | a29 | a30 | a31 | a32 | a33 | a34 | a35 | a36 | a37 | a38 | a39 | a40 | a41 | a42 | a43 | a44 | a45 | a46 | a47 | a48 | a49 | a50=>exact⟨by k_is,_,_,_,_,_,_,_,_,_,by k_is,by k_is,by k_is⟩
    case a51 | l51 | c51 | k51 | z0 | z1 | z2 | z3 | z4 | z5 | z6 | z7 | z8 | z9 | z10 | y0 | y1 | y2 | r0 | q0 | q1 | zz0 | s0 | s1 | n0 | n1 | n2 | n3 | n4 | n5 | ha | hs | ht | hk | hu | xaB | hrv=>k_is
    case xb1=>first | rfl | kernel_rfl
    case xc0 | xc1 | xc2 | pa | pb0 | pb2 | pb3 | pb4 | pb5 | pb6 | pd0 | pd1 | pd2 | da | db0 | db2 | db3 | db4 | db5 | db6 | dd0 | dd1 | dd2 | dfn | ta | tb0=>k_is
    case tb2=>first | rfl | kernel_rfl
    case tb3 | tb6=>k_is
    case xf1 | xf5B | xf2B | xf22=>first | rfl | kernel_rfl
