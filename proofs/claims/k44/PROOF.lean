import PyProof.Rows.All
import Wide.All
import OpenK.AllK
import Wide.FinOn
import Lean
import PyProof.EqAt
import PyProof.EqKinds
import PyProof.TupleCall
import PyProof.StrReplace2
import PyProof.DictItems
import PyProof.EnumStmt
import PyProof.EnumFor
import PyProof.DictItemsLoops
import PyProof.ZipIter
import PyProof.IsRules
import PyProof.Rows.SortRev
import KE.KIntText
import OpenK.KRaise
import KE.TryInHelper
import PyProof.RulesRaise
import PyProof.Rows.RaiseClass
import PyProof.RaisesMany
import PyProof.ExcClass3
import PyProof.ExcBaseAll.ValueError
import KE.KTryMore
import PyProof.InstStoreFacts
import OpenK.KMake
import PyProof.ExcAttrAll.ValueError
import KE.KIsAll
import OpenK.KWalk
import OpenK.KDescr
import PyProof.PureStr
import PyProof.ExcStr
import PyProof.CallStr
import KE.KCallOwn
import KE.KSortTup
import PyProof.Rows.StrCut
import PyProof.StrBlock
import KE.IntTextLaws
import PyProof.DictValues
import PyProof.DictWalks
import PyProof.Rows.Range3
import KE.KDictOf
import PySem.Challenge.RW_cabinet_k44_differences
set_option compiler.extract_closed false
set_option Elab.async false
set_option linter.all false
set_option maxRecDepth 100000
set_option maxHeartbeats 4000000
section
variable{t1 t2 t3 t4 t5:Type}{G:Prop}{p00 p01 p02 p03 p04 p05:Prop}{p11 p12 p13 p14 p15:t1→Prop}{p22 p23 p24 p25:t1→t2→Prop}{p33 p34 p35:t1→t2→t3→Prop}{p44 p45:t1→t2→t3→t4→Prop}{p55:t1→t2→t3→t4→t5→Prop}
theorem oA(h:p00∧p01)(k:p00→p01→G):G:=by obtain⟨a,b⟩:=h;exact k a b
theorem oAA(h:p00∧p01∧p02)(k:p00→p01→p02→G):G:=by obtain⟨a,b,c⟩:=h;exact k a b c
theorem xI(h:p00∧p01∧p02∧p03)(k:p00→p01→p02→p03→G):G:=by obtain⟨a,b,c,d⟩:=h;exact k a b c d
theorem vS(h:p00∧p01∧p02∧p03∧p04)(k:p00→p01→p02→p03→p04→G):G:=by obtain⟨a,b,c,d,e⟩:=h;exact k a b c d e
theorem yR(h:p00∧p01∧p02∧p03∧p04∧p05)(k:p00→p01→p02→p03→p04→p05→G):G:=by obtain⟨a,b,c,d,e,f⟩:=h;exact k a b c d e f
theorem oEA(h:∃a,p11 a∧p12 a)(k:∀a,p11 a→p12 a→G):G:=by obtain⟨a,b,c⟩:=h;exact k a b c
theorem xD(h:∃a,p11 a∧p12 a∧p13 a)(k:∀a,p11 a→p12 a→p13 a→G):G:=by obtain⟨a,b,c,d⟩:=h;exact k a b c d
theorem jZ(h:∃a,p11 a∧p12 a∧p13 a∧p14 a)(k:∀a,p11 a→p12 a→p13 a→p14 a→G):G:=by obtain⟨a,b,c,d,e⟩:=h;exact k a b c d e
theorem qB(h:∃a,p11 a∧p12 a∧p13 a∧p14 a∧p15 a)(k:∀a,p11 a→p12 a→p13 a→p14 a→p15 a→G):G:=by obtain⟨a,b,c,d,e,f⟩:=h;exact k a b c d e f
theorem oEE(h:∃a,∃b,p22 a b)(k:∀a,∀b,p22 a b→G):G:=by obtain⟨a,b,c⟩:=h;exact k a b c
theorem wA(h:∃a,∃b,p22 a b∧p23 a b)(k:∀a,∀b,p22 a b→p23 a b→G):G:=by obtain⟨a,b,c,d⟩:=h;exact k a b c d
theorem yN(h:∃a,∃b,p22 a b∧p23 a b∧p24 a b)(k:∀a,∀b,p22 a b→p23 a b→p24 a b→G):G:=by obtain⟨a,b,c,d,e⟩:=h;exact k a b c d e
theorem yA(h:∃a,∃b,p22 a b∧p23 a b∧p24 a b∧p25 a b)(k:∀a,∀b,p22 a b→p23 a b→p24 a b→p25 a b→G):G:=by obtain⟨a,b,c,d,e,f⟩:=h;exact k a b c d e f
theorem vZ(h:∃a,∃b,∃c,p33 a b c∧p34 a b c)(k:∀a,∀b,∀c,p33 a b c→p34 a b c→G):G:=by obtain⟨a,b,c,d,e⟩:=h;exact k a b c d e
theorem yC(h:∃a,∃b,∃c,p33 a b c∧p34 a b c∧p35 a b c)(k:∀a,∀b,∀c,p33 a b c→p34 a b c→p35 a b c→G):G:=by obtain⟨a,b,c,d,e,f⟩:=h;exact k a b c d e f
theorem yS(h:∃a,∃b,∃c,∃d,p44 a b c d∧p45 a b c d)(k:∀a,∀b,∀c,∀d,p44 a b c d→p45 a b c d→G):G:=by obtain⟨a,b,c,d,e,f⟩:=h;exact k a b c d e f
theorem yM(h:∃a,∃b,∃c,∃d,∃e,p55 a b c d e)(k:∀a,∀b,∀c,∀d,∀e,p55 a b c d e→G):G:=by obtain⟨a,b,c,d,e,f⟩:=h;exact k a b c d e f

theorem nA(a:p00)(b:p01):p00∧p01:=⟨a,b⟩
theorem nAA(a:p00)(b:p01)(c:p02):p00∧p01∧p02:=⟨a,b,c⟩
theorem zLo(a:p00)(b:p01)(c:p02)(d:p03):p00∧p01∧p02∧p03:=⟨a,b,c,d⟩
theorem zQk(a:p00)(b:p01)(c:p02)(d:p03)(e:p04):p00∧p01∧p02∧p03∧p04:=⟨a,b,c,d,e⟩
theorem zUx(a:p00)(b:p01)(c:p02)(d:p03)(e:p04)(f:p05):p00∧p01∧p02∧p03∧p04∧p05:=⟨a,b,c,d,e,f⟩
theorem zUr(a:p00)(b:p01)(c:t1)(d:t2)(e:p24 c d)(f:p25 c d):p00∧p01∧(∃c,∃d,p24 c d∧p25 c d):=⟨a,b,c,d,e,f⟩
theorem zHa(a:p00)(b:t1)(c:p12 b)(d:p13 b):p00∧(∃b,p12 b∧p13 b):=⟨a,b,c,d⟩
theorem zXk(a:p00)(b:t1)(c:p12 b)(d:p13 b)(e:p14 b):p00∧(∃b,p12 b∧p13 b∧p14 b):=⟨a,b,c,d,e⟩
theorem zMs(a:p00)(b:t1)(c:p12 b)(d:p13 b)(e:p14 b)(f:p15 b):p00∧(∃b,p12 b∧p13 b∧p14 b∧p15 b):=⟨a,b,c,d,e,f⟩
theorem zJj(a:p00)(b:t1)(c:p12 b)(d:t2)(e:p24 b d)(f:p25 b d):p00∧(∃b,p12 b∧(∃d,p24 b d∧p25 b d)):=⟨a,b,c,d,e,f⟩
theorem zTf(a:p00)(b:t1)(c:t2)(d:p23 b c)(e:p24 b c)(f:p25 b c):p00∧(∃b,∃c,p23 b c∧p24 b c∧p25 b c):=⟨a,b,c,d,e,f⟩
theorem nEA(a:t1)(b:p11 a)(c:p12 a):∃a,p11 a∧p12 a:=⟨a,b,c⟩
theorem zCr(a:t1)(b:p11 a)(c:p12 a)(d:p13 a):∃a,p11 a∧p12 a∧p13 a:=⟨a,b,c,d⟩
theorem zBz(a:t1)(b:p11 a)(c:p12 a)(d:p13 a)(e:p14 a):∃a,p11 a∧p12 a∧p13 a∧p14 a:=⟨a,b,c,d,e⟩
theorem zUt(a:t1)(b:p11 a)(c:p12 a)(d:p13 a)(e:p14 a)(f:p15 a):∃a,p11 a∧p12 a∧p13 a∧p14 a∧p15 a:=⟨a,b,c,d,e,f⟩
theorem yBt(a:t1)(b:p11 a)(c:p12 a)(d:p13 a)(e:t2)(f:p25 a e):∃a,p11 a∧p12 a∧p13 a∧(∃e,p25 a e):=⟨a,b,c,d,e,f⟩
theorem zXx(a:t1)(b:p11 a)(c:p12 a)(d:t2)(e:p24 a d)(f:p25 a d):∃a,p11 a∧p12 a∧(∃d,p24 a d∧p25 a d):=⟨a,b,c,d,e,f⟩
theorem zOk(a:t1)(b:p11 a)(c:p12 a)(d:t2)(e:t3)(f:p35 a d e):∃a,p11 a∧p12 a∧(∃d,∃e,p35 a d e):=⟨a,b,c,d,e,f⟩
theorem zVi(a:t1)(b:p11 a)(c:t2)(d:p23 a c):∃a,p11 a∧(∃c,p23 a c):=⟨a,b,c,d⟩
theorem wT(a:t1)(b:p11 a)(c:t2)(d:p23 a c)(e:p24 a c):∃a,p11 a∧(∃c,p23 a c∧p24 a c):=⟨a,b,c,d,e⟩
theorem kZ(a:t1)(b:p11 a)(c:t2)(d:p23 a c)(e:p24 a c)(f:p25 a c):∃a,p11 a∧(∃c,p23 a c∧p24 a c∧p25 a c):=⟨a,b,c,d,e,f⟩
theorem vM(a:t1)(b:p11 a)(c:t2)(d:p23 a c)(e:t3)(f:p35 a c e):∃a,p11 a∧(∃c,p23 a c∧(∃e,p35 a c e)):=⟨a,b,c,d,e,f⟩
theorem zWv(a:t1)(b:p11 a)(c:t2)(d:t3)(e:p34 a c d)(f:p35 a c d):∃a,p11 a∧(∃c,∃d,p34 a c d∧p35 a c d):=⟨a,b,c,d,e,f⟩
theorem nEEA(a:t1)(b:t2)(c:p22 a b)(d:p23 a b):∃a,∃b,p22 a b∧p23 a b:=⟨a,b,c,d⟩
theorem zPg(a:t1)(b:t2)(c:p22 a b)(d:p23 a b)(e:p24 a b):∃a,∃b,p22 a b∧p23 a b∧p24 a b:=⟨a,b,c,d,e⟩
theorem jU(a:t1)(b:t2)(c:p22 a b)(d:p23 a b)(e:p24 a b)(f:p25 a b):∃a,∃b,p22 a b∧p23 a b∧p24 a b∧p25 a b:=⟨a,b,c,d,e,f⟩
theorem yCu(a:t1)(b:t2)(c:p22 a b)(d:p23 a b)(e:t3)(f:p35 a b e):∃a,∃b,p22 a b∧p23 a b∧(∃e,p35 a b e):=⟨a,b,c,d,e,f⟩
theorem qN(a:t1)(b:t2)(c:t3)(d:p33 a b c)(e:p34 a b c)(f:p35 a b c):∃a,∃b,∃c,p33 a b c∧p34 a b c∧p35 a b c:=⟨a,b,c,d,e,f⟩
theorem yEy(a:t1)(b:t2)(c:t3)(d:t4)(e:t5)(f:p55 a b c d e):∃a,∃b,∃c,∃d,∃e,p55 a b c d e:=⟨a,b,c,d,e,f⟩
end

section
open PySem renaming Value→V0,Addr→V1,Shared→V2,Program→V3,World→V4,Heap→V5,Stmt→V6,FuncData→V7,wpAny→V8,sizeLine→V9,mainGlobals→A0,bootBuiltins→A2,starEach→A3,compareOp→A4,sysModules→A5,swapsWith→S1,backTo→S2,model→S6,assignEach→S7,Env→S8
open PySem.Str renaming ofString→A6
open PySem.W renaming Frag→A7,keepIn→A8,nsIn→A9,codeIn→S0
open PySem.NameKind renaming free→S3
open PySem.Builtin.Range renaming rangeSize→S4
open PySem.Builtin.Str renaming strSliceIndices→S5
theorem O.{u}{α:Sort u}{a:α}:a=a:=rfl
section
open Option renaming some→Y
set_option hygiene false
local macro_rules|`(tactic|let $d:letDecl)=>`(tactic|have $d:letDecl)
local macro_rules|`(tactic|lk)=>`(tactic|walk_at "rd3")
local macro_rules|`(∅)=>`(by lia)
local macro_rules|`(∎)=>`(by decide)
local macro_rules|`(tb_g%)=>`(by walk_at "wu")
local macro_rules|`(↥$x)=>`(some $x)
local macro_rules|`($x...*)=>`(($x).length)
local macro_rules|`($x⁻¹)=>`(($x).heap.objs.size)
local macro_rules|`({$x:term,*})=>`(⟨$x,*⟩)
set_option hygiene true
local macro_rules|`(tactic|ext $x*)=>let a:Array Lean.Term:=x.map fun s=>⟨if s.raw[0].isOfKind `Lean.Parser.Tactic.rcasesPat.one then s.raw[0][0] else Lean.mkNode `Lean.Parser.Term.hole #[Lean.mkAtom "_"]⟩;let f:=a[0]!;let z:=a[1]!;let r:=a.extract 2 a.size;`(tactic|(revert $z;intro z_;refine $f z_ fun $r* =>?_;clear z_))
namespace L2
open PySem PySem.Spec PyProof.Rows
abbrev mB:=@Nat.le_refl
abbrev mC:=@List.length_map
abbrev mE:=@List.mem_cons_of_mem
abbrev mF:=@List.mem_of_getElem?
abbrev mG:=@List.mem_cons_self
abbrev mH:=@True.intro
abbrev mI:=@List.mem_cons
abbrev mJ:=@List.getElem?_eq_getElem
abbrev mK:=@List.length_append
abbrev mL:=@if_neg
abbrev mM:=@Option.some.inj
abbrev mN:=@List.map_append
abbrev mO:=@if_pos
abbrev mP:=@List.getElem?_eq_some_iff
abbrev mQ:=@sizeLine_eq
abbrev mS:=@wpAny_bind
abbrev mT:=@Nat.zero_le
abbrev mU:=@Heap.get?_push_of_some
abbrev mV:=@List.map_cons
abbrev mW:=@List.getElem?_map
abbrev mX:=@List.mem_append
abbrev mY:=@List.length_singleton
abbrev mZ:=@List.getD_eq_getElem?_getD
abbrev nB:=@List.mem_map
abbrev nC:=@List.mem_singleton
abbrev nD:=@Heap.lt_size
abbrev nF:=@List.size_toArray
abbrev nG:=@List.length_drop
abbrev nH:=@decide_eq_true
abbrev nI:=@List.length_cons
abbrev nJ:=@List.mem_append_right
abbrev nL:=@decide_eq_false
abbrev nM:=@Bool.false_ne_true
abbrev nN:=@Or.inl
abbrev nO:=@wpAny_pure
abbrev nP:=@Heap.get?_push_size
abbrev nQ:=@PySem.F.plainAttrs_list
abbrev nR:=@Nat.lt_of_lt_of_le
abbrev nS:=@Nat.le_trans
abbrev nT:=@Nat.le_of_ble_eq_true
abbrev nU:=@Bool.and_eq_true
abbrev nV:=@decide_eq_true_eq
abbrev nW:=@List.mem_append_left
abbrev nX:=@Nat.ne_of_lt
abbrev nY:=@Nat.succ_le_succ
abbrev nZ:=@List.nodup_cons
abbrev pA:=@List.take_length
abbrev pB:=@List.drop_eq_getElem_cons
abbrev pC:=@List.mem_of_mem_take
abbrev pE:=@List.not_mem_nil
abbrev pF:=@List.getElem?_append_left
abbrev pG:=@List.getElem?_append_right
abbrev pH:=@List.length_take
abbrev pJ:=@Option.map_eq_some_iff
abbrev pK:=@List.length_reverse
abbrev pL:=@List.getElem?_cons_zero
abbrev pM:=@Nat.not_lt_zero
abbrev pN:=@PySem.F.slot_list_append
abbrev pO:=@List.mem_of_mem_drop
abbrev pP:=@List.length_nil
abbrev pQ:=@Heap.get?_update_other
abbrev pR:=@List.drop_of_length_le
abbrev pT:=@List.all_eq_true
abbrev pU:=@List.map_map
abbrev pV:=@PySem.F.type_list_append
abbrev pW:=@List.take_of_length_le
abbrev pX:=@W.mg_none_of
abbrev pY:=@List.range_succ
abbrev pZ:=@wpAny_truthy_bool
abbrev rA:=@List.mem_filter
abbrev rB:=@List.map_nil
abbrev rC:=@PyProof.Rows.callWith_type1
abbrev rD:=@List.idxOf_lt_length_of_mem
abbrev rE:=@Int.emod_nonneg
abbrev rF:=@Int.emod_lt_of_pos
abbrev rG:=@List.map_congr_left
abbrev rH:=@List.mem_range
abbrev rJ:=@Nat.ne_of_gt
abbrev rK:=@List.take_append_drop
abbrev rL:=@or_false
abbrev rM:=@List.append_nil
abbrev rN:=@List.cons_ne_nil
abbrev rO:=@Nat.le_succ
abbrev rP:=@of_decide_eq_true
abbrev rQ:=@Nat.le_succ_of_le
abbrev rR:=@Int.toNat_natCast
abbrev rT:=@PySem.mem_of_lookup
abbrev rV:=@Nat.le_add_right
abbrev rW:=@List.getElem?_set_ne
abbrev rX:=@wpAny_mono
abbrev rY:=@List.append_assoc
abbrev rZ:=@List.length_pos_iff
abbrev sD:=@List.flatMap_append
abbrev sE:=@wpAny_holding
abbrev sF:=@List.length_replicate
abbrev sG:=@Array.getElem?_toList
abbrev sH:=@Bool.eq_iff_iff
abbrev sI:=@List.length_range
abbrev sJ:=@Nat.lt_irrefl
abbrev sK:=@wpAny_getItem_str_slice
abbrev sL:=@Int.eq_ofNat_of_zero_le
abbrev sM:=@PySem.F.slot_list_index
abbrev sN:=@beq_eq_false_iff_ne
abbrev sO:=@List.Perm.nodup_iff
abbrev sP:=@List.drop_zero
abbrev sQ:=@List.lookup_cons
abbrev sR:=@F.plain_max_loop
abbrev sS:=@List.getElem?_set_self
abbrev sT:=@Calls.callWith_builtin
abbrev sU:=@List.drop_eq_nil_of_le
abbrev sV:=@List.flatMap_singleton
abbrev sW:=@W.kia_one
abbrev sX:=@List.getElem?_drop
abbrev sY:=@wpAny_passesOwn
abbrev sZ:=@List.length_set
abbrev tD:=@wpAny_dictEntries
abbrev tE:=@Around.under_plainId
abbrev tF:=@Array.getElem?_eq_getElem
abbrev tG:=@List.nodup_nil
abbrev tH:=@Nat.min_eq_right
abbrev tI:=@List.getElem_mem
abbrev tJ:=@Array.length_toList
abbrev tK:=@List.replicate_succ
abbrev tL:=@PySem.F.plainAttrs_dict
abbrev tM:=@List.getElem?_cons_succ
abbrev tN:=@PySem.F.type_list_index
abbrev tO:=@List.filter_cons_of_pos
abbrev tP:=@List.filter_cons_of_neg
abbrev tQ:=@W.mg_of
abbrev tR:=@wpAny_Call_Name_kw
abbrev tS:=@call_meets
abbrev tT:=@List.find?_cons
abbrev tU:=@tupleKind_room_in1
abbrev tV:=@List.foldl_cons
abbrev tW:=@List.nil_append
abbrev tX:=@Nat.min_eq_left
abbrev tY:=@wpAny_pyNext_list_item
abbrev tZ:=@List.eq_nil_of_length_eq_zero
abbrev aA:=@Nat.le_of_lt
abbrev aB:=@wpAny_pyNext_list_end
abbrev aD:=@List.getElem?_eq_none
abbrev aE:=@wpAny_tryCatch
abbrev aF:=@List.mem_iff_getElem?
abbrev aG:=@List.dropLast_concat_getLast
abbrev aH:=@List.filter_cons
abbrev aI:=@List.any_eq_true
abbrev aJ:=@Nat.mul_le_mul_right
abbrev aK:=@Nat.not_succ_le_zero
abbrev aL:=@List.drop_length
abbrev aM:=@List.mem_reverse
abbrev aN:=@plainId_quiet
abbrev aO:=@List.perm_ext_iff_of_nodup
abbrev aP:=@List.filterMap_cons
abbrev aQ:=@wpAny_execs_nil
abbrev aR:=@codeAny_builtin
abbrev aS:=@Nat.le_add_left
abbrev aT:=@List.getLast?_eq_getElem?
abbrev aU:=@List.getElem?_take_of_lt
abbrev aV:=@Nat.sub_zero
abbrev aW:=@List.map_singleton
abbrev aX:=@PySem.F.slot_list_extend
abbrev aY:=@PySem.F.type_list_extend
abbrev aZ:=@Bool.false_and
abbrev bA:=@wpAny_pyIter_list
abbrev bB:=@List.reverse_cons
abbrev bC:=@List.flatten_cons
abbrev bE:=@PyProof.noPylong_small
abbrev bF:=@List.set_eq_take_append_cons_drop
abbrev bG:=@List.any_cons
abbrev bH:=@Bool.not_eq_true
abbrev bI:=@List.mem_flatMap
abbrev bJ:=@Heap.get?_update_self
abbrev bK:=@PySem.F.slot_dict_get
abbrev bL:=@codeAny_mono
abbrev bM:=@typeIs_str
abbrev bN:=@Calls.evalArgs_plain
abbrev bO:=@Nat.lt_trans
abbrev bP:=@call_meetsIn
abbrev bQ:=@Or.inr
abbrev bS:=@post_val_or_str
abbrev bT:=@and_congr_right
abbrev bU:=@List.take_left'
abbrev bV:=@F.slot_dict_itemiterator_iter
abbrev bW:=@if_true
abbrev bX:=@if_false
abbrev bY:=@Heap.size_push
abbrev bZ:=@wpAny_seqItems
abbrev cA:=@List.take_zero
abbrev cB:=@W.kitx_dict
abbrev cC:=@wpAny_pyIter_range
abbrev cD:=@Calls.spliced_cons
abbrev cE:=@Bool.false_eq_true
abbrev cF:=@Nat.add_sub_cancel
abbrev cG:=@List.pairwise_cons
abbrev cH:=@List.set_cons_zero
abbrev cI:=@List.set_cons_succ
abbrev cJ:=@decide_eq_true_iff
abbrev cK:=@List.all_cons
abbrev cL:=@List.take_nil
abbrev cM:=@Calls.spliced_nil
abbrev cN:=@Option.isSome_map
abbrev cO:=@List.nodup_append
abbrev cP:=@List.flatMap_cons
abbrev cQ:=@Nat.le_of_eq
abbrev cR:=@Nat.min_le_right
abbrev cS:=@Txt.slice_le
abbrev cT:=@List.all_map
abbrev cU:=@F.entry_max_loop
abbrev cV:=@Nat.lt_succ_self
abbrev cW:=@wpAny_call_entry
abbrev cX:=@decide_eq_decide
abbrev cY:=@eq_false
abbrev cZ:=@List.of_mem_zip
abbrev dA:=@wpAny_updateSeq
abbrev dB:=@Nat.le_max_left
abbrev dC:=@exists_eq_left'
abbrev dD:=@List.filter_nil
abbrev dE:=@W.kitx_list
abbrev dF:=@wpAny_letGo
abbrev Key:=Sum Int Str
def zFw:Key->V0->Bool
 | .inl k,v=>Value.isInt k v
 | .inr x,v=>Value.isStrOf x v
def keyH(w:V4):Key->Int
 | .inl k=>hashInt k
 | .inr x=>hashStr w x
theorem wH:∀{k:Key}{v:V0},zFw k v=true->(∃i t,k=Sum.inl i/\v=Value.int i t)\/(∃x t,k=Sum.inr x/\v=Value.str x t)
 | .inl i,v,h=>by
  obtain⟨t,e⟩:=Value.isInt_shape (k:=i) (v:=v) h;exact .inl ⟨i,t,O,e⟩
 | .inr x,v,h=>by
  obtain⟨t,e⟩:=Value.isStrOf_shape (x:=x) (v:=v) h;exact .inr ⟨x,t,O,e⟩
theorem zRg(i:Int)(t:Tok):zFw (.inl i) (.int i t)=true:=by simp[zFw,Value.isInt]
theorem zSb(x:Str)(t:Tok):zFw (.inr x) (.str x t)=true:=by simp[zFw,Value.isStrOf]
theorem yDw(a b:Int):decide ((Sum.inl a:Key)=Sum.inl b)=(a==b):=by
 by_cases e:a=b
 ·subst e;simp
 ·let h:¬(Sum.inl a:Key)=Sum.inl b:=λq=>e (Sum.inl.inj q)
  rw[nL h];exact(sN.mpr e).symm
theorem yEs(a b:Str):decide ((Sum.inr a:Key)=Sum.inr b)=decide (a=b):=by
 by_cases e:a=b
 ·subst e;simp
 ·let h:¬(Sum.inr a:Key)=Sum.inr b:=λq=>e (Sum.inr.inj q)
  rw[nL h,nL e]
theorem yEg(a:Int)(b:Str):decide ((Sum.inl a:Key)=Sum.inr b)=false:=nL (λq=>nomatch q)
theorem yFh(a:Str)(b:Int):decide ((Sum.inr a:Key)=Sum.inl b)=false:=nL (λq=>nomatch q)
def xC(prog:V3)(w:V4):PySem.KeyKind prog w Key where
 is:=zFw
 hash:=keyH w
 inj:=λv a b ha hb=>by
  rcases wH ha with⟨i,t,rfl,rfl⟩|⟨x,t,rfl,rfl⟩
  ·rcases wH hb with⟨j,u,rfl,e⟩|⟨y,u,rfl,e⟩
   ·injection e with e1 _;rw[e1]
   ·exact nomatch e
  ·rcases wH hb with⟨j,u,rfl,e⟩|⟨y,u,rfl,e⟩
   ·exact nomatch e
   ·injection e with e1 _;rw[e1]
 byValue:=λk v h=>by
  rcases wH h with⟨i,t,rfl,rfl⟩|⟨x,t,rfl,rfl⟩<;>rfl
 pyHash:=λhv h=>by
  rcases wH hv with⟨i,t,rfl,rfl⟩|⟨x,t,rfl,rfl⟩
  ·exact wpAny_pyHash_int h
  ·exact wpAny_pyHash_str h
 eqBool:=λhu hv h=>by
  rcases wH hu with⟨i,t,rfl,rfl⟩|⟨x,t,rfl,rfl⟩
  ·rcases wH hv with⟨j,u,rfl,rfl⟩|⟨y,u,rfl,rfl⟩
   ·rw[yDw] at h;exact wpAny_eqBool_int h
   ·rw[yEg] at h;exact SeqAt.EqAt.int_str i t y u _ _ _ _ h
  ·rcases wH hv with⟨j,u,rfl,rfl⟩|⟨y,u,rfl,rfl⟩
   ·rw[yFh] at h;exact SeqAt.EqAt.str_int x t j u _ _ _ _ h
   ·rw[yEs] at h;exact wpAny_eqBool_str h
 «strs»:=λk x t v h=>by
  rcases wH h with⟨i,u,rfl,e⟩|⟨y,u,rfl,e⟩
  ·exact nomatch e
  ·injection e with e1 _
   subst e1;cases v<;>rfl
theorem zMl(prog:V3)(w:V4)(i:Int)(t:Tok):(xC prog w).is (.inl i) (.int i t)=true:=zRg i t
theorem zKu(prog:V3)(w:V4)(x:Str)(t:Tok):(xC prog w).is (.inr x) (.str x t)=true:=zSb x t
inductive V where
 | non | bl (b:Bool)| int (i:Int)| str (x:Str)| byt (b:Array UInt8)| flt (b:UInt64)| ref (a:V1)| ty (n:String)
 deriving DecidableEq
def RelV:V->V0->Prop
 | .non,u=>u=Value.none
 | .bl b,u=>u=Value.bool b
 | .int i,u=>∃t,u=Value.int i t
 | .str x,u=>∃t,u=Value.str x t
 | .byt b,u=>∃t,u=Value.bytes b t
 | .flt b,u=>∃t,u=Value.float b t
 | .ref a,u=>u=Value.ref a
 | .ty n,u=>u=Value.type n
abbrev Vals:List V->List V0->Prop:=Paired RelV
theorem Vals.length{xs:List V}{us:List V0}(r:Vals xs us):xs...*=us...*:=Paired.length r
theorem Vals.get:∀{xs:List V}{us:List V0}{i:Nat}{x:V},Vals xs us->xs[i]? =Y x->∃u,us[i]? =Y u/\RelV x u
 | _,_,_,_, .nil,e=>by simp at e
 | _,_,0,_, .cons r _,e=>by simp at e;subst e;exact⟨_,O,r⟩
 | _,_,i+1,x, .cons _ t,e=>by
  obtain⟨u,h1,h2⟩:=Vals.get (i:=i) (x:=x) t (by simpa using e);exact{u,by simpa using h1,h2}
theorem Vals.set{x:V}{u:V0}(r:RelV x u):∀{xs:List V}{us:List V0}(i:Nat),Vals xs us->Vals (xs.set i x) (us.set i u)
 | _,_,_, .nil=>.nil
 | _,_,0, .cons _ t=>.cons r t
 | _,_,i+1, .cons q t=>.cons q (Vals.set r i t)
theorem Vals.append:∀{xs ys:List V}{us ws:List V0},Vals xs us->Vals ys ws->Vals (xs++ys) (us++ws)
 | _,_,_,_, .nil,s=>s
 | _,_,_,_, .cons r t,s=>.cons r (Vals.append t s)
theorem Vals.take:∀{xs:List V}{us:List V0}(n:Nat),Vals xs us->Vals (xs.take n) (us.take n)
 | _,_,0,_=>.nil
 | _,_,_+1, .nil=>.nil
 | _,_,n+1, .cons r t=>.cons r (Vals.take n t)
theorem Vals.drop:∀{xs:List V}{us:List V0}(n:Nat),Vals xs us->Vals (xs.drop n) (us.drop n)
 | _,_,0,r=>r
 | _,_,_+1, .nil=>.nil
 | _,_,n+1, .cons _ t=>Vals.drop n t
def RelO:Option V->Option V0->Prop
 | some v,Y u=>RelV v u
 | none,none=>True
 | _,_=>False
def KV{κ:Type}:List (κ×V)->List (κ×V0)->Prop:=Paired fun(p:κ×V) (q:κ×V0)=>p.1=q.1/\RelV p.2 q.2
def kV:Key->V
 | .inl i=>.int i
 | .inr x=>.str x
inductive HO where
 | lst (xs:List V)
 | tup (xs:List V)
 | dK (kvs:List (Key×V))| dT (kvs:List (List Key×V))
 | set (S:Int->Bool) (n:Nat)
 | ins (C dx:V1) (fs:List (Str×V))
 | own (x:V1)
 | xd (fs:List (Str×V))
 | met (f x:V1)
 | rng (lo hi:Int)
 | frz (o:Obj) (u:HO)
 | tbl (ps:Array V0)
 | ext (φ:V5->Prop)
abbrev Hp:=V1->Option HO
def upd(H:Hp)(a:V1)(o:HO):Hp:=λb=>if b=a then Y o else H b
theorem zC{H:Hp}{a:V1}{o:HO}:upd H a o a=Y o:=by unfold upd;rw[mO O]
theorem zV{H:Hp}{a b:V1}{o:HO}(h:b≠a):upd H a o b=H b:=by unfold upd;rw[mL h]
theorem zYw{H:Hp}{a:V1}{o u:HO}:upd (upd H a o) a u=upd H a u:=by
 funext b;unfold upd;split<;>rfl
theorem ne_of{H:Hp}{a b:V1}{o u:HO}(h:H a=Y o)(h':H b=Y u)(d:o≠u):a≠b:=by
 intro e;subst e;rw[h] at h';exact d (mM h')
theorem yZ{H:Hp}{a b:V1}{o:HO}(h:H a=Y o)(h':H b=none):a≠b:=by
 intro e;subst e;rw[h] at h';cases h'
section
variable(P:V3)(w:V4)
def ObjOk(H:Hp)(h:V5)(a:V1):HO->Prop
 | .lst xs=>xs...*<=V9/\∃(its:List V0)(n:Nat),Vals xs its/\h.get? a=some {cls:=.type "list",data:=.seq its.toArray n}
 | .tup xs=>xs...*<=V9/\∃its:List V0,Vals xs its/\IsTup h a its.toArray
 | .dK kvs=>kvs...*<=V9/\(a==A5)=false/\∃vs,KV kvs vs/\h.DictOf (xC P w) a vs
 | .dT kvs=>kvs...*<=V9/\(a==A5)=false/\∃xs:List (List Key×V1×V0),
   Paired (fun(p:List Key×V) (q:List Key×V1×V0)=>p.1=q.1/\H q.2.1=Y (.tup (p.1.map kV))/\RelV p.2 q.2.2) kvs xs/\
   ∃o es ep,h.get? a=Y o/\o.ExactDict/\o.data= .dict es ep/\es.toList=xs.map (entryOfKey (tupleKind (xC P w)))/\(xs.map (·.1)).Nodup
 | .set S n=>h.SetOf (intKind P w) a S n
 | .ins C dx fs=>H dx=Y (.own a)/\fs...*<=1000/\dx≠a/\h.get? a=Y (W.instObj C dx)/\
   ∃mA,h.Ns1 dx mA/\(∀f,RelO (fs.lookup f) (mA f))/\PySem.Within mA (fs.map (·.1))
 | .own _=>∃o,h.get? a=Y o
 | .xd fs=>∃mA,h.Ns1 a mA/\∀f,RelO (fs.lookup f) (mA f)
 | .rng lo hi=>∃t u v,h.get? a=some {cls:=.type "range",data:=.fields #[.int lo t, .int hi u, .int 1 v]}
 | .frz o u=>h.get? a=Y o/\ObjOk H h a u
 | .tbl ps=>h.get? a=some {cls:=.none,data:=.fields ps}
 | .met f x=>h.get? a=Y (W.methodObj (.ref f) (.ref x))
 | .ext φ=>φ h/\(∃o,h.get? a=Y o)/\∀h1 h2:V5,φ h1->(∀o,h1.get? a=Y o->h2.get? a=Y o)->φ h2
def HOk(H:Hp)(h:V5):Prop:=∀a o,H a=Y o->ObjOk P w H h a o
end
section
variable{P:V3}{w:V4}{H H':Hp}{h h':V5}{a:V1}{o:HO}
theorem ObjOk.lt(x:ObjOk P w H h a o):a<h.objs.size:=by
 cases o with
 | lst xs=>obtain⟨_,_,_,_,e⟩:=x;exact nD e
 | tup xs=>obtain⟨_,_,_,p⟩:=x;exact p.lt
 | dK kvs=>obtain⟨_,_,_,_,o,_,_,e,_⟩:=x;exact nD e
 | dT kvs=>obtain⟨_,_,_,_,o,_,_,e,_⟩:=x;exact nD e
 | set S n=>obtain⟨o,_,_,_,e,_⟩:=x;exact nD e
 | ins C dx fs=>obtain⟨_,_,_,e,_⟩:=x;exact nD e
 | own y=>obtain⟨_,e⟩:=x;exact nD e
 | xd fs=>obtain⟨_,⟨_,_,_,e,_⟩,_⟩:=x;exact nD e
 | rng lo hi=>obtain⟨_,_,_,e⟩:=x;exact nD e
 | frz ob u=>obtain⟨e,_⟩:=x;exact nD e
 | tbl ps=>exact nD (show h.get? a=Y _ from x)
 | met f y=>exact nD (show h.get? a=Y _ from x)
 | ext φ=>obtain⟨_,⟨_,e⟩,_⟩:=x;exact nD e
theorem j2{α β:Type}{F G:α->β->Prop}:∀{l₁:List α}{l₂:List β},Paired F l₁ l₂->(∀a b,F a b->G a b)->Paired G l₁ l₂
 | _,_, .nil,_=>.nil
 | _,_, .cons r t,f=>.cons (f _ _ r) (j2 t f)
theorem ObjOk.stay(x:ObjOk P w H h a o)(k:∀b u,(b=a\/H b=Y (.own a))->h.get? b=Y u->h'.get? b=Y u)
  (ho:∀b,H b=Y (.own a)->H' b=Y (.own a)) (ht:∀b xs,H b=Y (.tup xs)->H' b=Y (.tup xs)):ObjOk P w H' h' a o:=by
 induction o with
 | lst xs=>obtain⟨z,its,n,r,e⟩:=x;exact{z,its,n,r,k _ _ (.inl O) e}
 | tup xs=>obtain⟨z,its,r,ob,e,c⟩:=x;exact{z,its,r,ob,k _ _ (.inl O) e,c}
 | dK kvs=>obtain⟨z,y,vs,r,ob,es,ep,e,c⟩:=x;exact{z,y,vs,r,ob,es,ep,k _ _ (.inl O) e,c}
 | dT kvs=>
  obtain⟨z,y,xs,r,ob,es,ep,e,c⟩:=x;exact{z,y,xs,j2 r λp q z=>{z.1,ht _ _ z.2.1,z.2.2},ob,es,ep,k _ _ (.inl O) e,c}
 | set S n=>obtain⟨ob,es,ep,t,e,c⟩:=x;exact{ob,es,ep,t,k _ _ (.inl O) e,c}
 | ins C dx fs=>
  obtain⟨d,z,ne,e,mA,⟨od,es,ep,e2,c⟩,r⟩:=x;exact{ho _ d,z,ne,k _ _ (.inl O) e,mA,{od,es,ep,k _ _ (.inr d) e2,c},r}
 | own y=>obtain⟨ob,e⟩:=x;exact{ob,k _ _ (.inl O) e}
 | xd fs=>obtain⟨mA,⟨od,es,ep,e,c⟩,r⟩:=x;exact{mA,{od,es,ep,k _ _ (.inl O) e,c},r}
 | rng lo hi=>obtain⟨t,u,v,e⟩:=x;exact{t,u,v,k _ _ (.inl O) e}
 | frz ob u ih=>obtain⟨e,q⟩:=x;exact{k _ _ (.inl O) e,ih q}
 | tbl ps=>
  let e:h.get? a=some {cls:=.none,data:=.fields ps}:=x;show h'.get? a=some {cls:=.none,data:=.fields ps};exact k a _ (.inl O) e
 | met f y=>
  let e:h.get? a=Y (W.methodObj (.ref f) (.ref y)):=x;show h'.get? a=Y (W.methodObj (.ref f) (.ref y));exact k a _ (.inl O) e
 | ext φ=>obtain⟨p,⟨o,e⟩,st⟩:=x;exact{st _ _ p λo q=>k _ _ (.inl O) q,{o,k _ _ (.inl O) e},st}
theorem HOk.lt(x:HOk P w H h)(e:H a=Y o):a<h.objs.size:=(x a o e).lt
theorem HOk.fresh(x:HOk P w H h)(e:h.objs.size<=a):H a=none:=by
 cases q:H a with
 | none=>rfl
 | some u=>exact absurd (nR (x.lt q) e) (sJ _)
theorem HOk.kept(x:HOk P w H h)(k:∀b u,h.get? b=Y u->h'.get? b=Y u):HOk P w H h':=λa o e=>
 (x a o e).stay (λb u _ q=>k b u q) (λ_ q=>q) λ_ _ q=>q
theorem HOk.laid(x:HOk P w H h)(k:∀b u,h.get? b=Y u->h'.get? b=Y u)(hp:h.objs.size<=a)(new:ObjOk P w (upd H a o) h' a o):HOk P w (upd H a o) h':=λb u e=>by
 let hn:=x.fresh hp
 by_cases hb:b=a
 ·subst hb;rw[zC] at e;cases e;exact new
 ·rw[zV hb] at e
  exact(x b u e).stay (λc v _ q=>k c v q) (λc q=>by rw[zV (yZ q hn)];exact q) λc xs q=>by rw[zV (yZ q hn)];exact q
end
def Rd(H:Hp)(a:V1)(u:HO):Prop:=H a=Y u\/∃o,H a=Y (.frz o u)
theorem Rd.ok{P:V3}{w:V4}{H:Hp}{h:V5}{a:V1}{u:HO}(r:Rd H a u)(x:HOk P w H h):ObjOk P w H h a u:=by
 rcases r with r |⟨o,r⟩
 ·exact x a u r
 ·obtain⟨_,q⟩:=x a _ r
  exact q
def Mut:Option HO->Prop
 | some (.lst _)=>True
 | some (.dK _)=>True
 | some (.dT _)=>True
 | some (.set _ _)=>True
 | some (.ins _ _ _)=>True
 | some (.ext _)=>True
 | _=>False
section
variable{P:V3}{w:V4}{H:Hp}{h h':V5}{x e:V1}{o':HO}
theorem HOk.write(ok:HOk P w H h)(mu:Mut (H x))(he:e=x\/H e=Y (.own x))(k:∀b u,b≠e->h.get? b=Y u->h'.get? b=Y u)(heo:∃u,h'.get? e=Y u)
  (new:ObjOk P w (upd H x o') h' x o'):HOk P w (upd H x o') h':=λb u q=>by
 let nown:∀c y,H c=Y (.own y)->c≠x:=λc y r z=>by subst z;rw[r] at mu;exact mu
 let ntup:∀c xs,H c=Y (.tup xs)->c≠x:=λc xs r z=>by subst z;rw[r] at mu;exact mu
 by_cases hb:b=x
 ·subst hb;rw[zC] at q;cases q;exact new
 ·rw[zV hb] at q
  by_cases hbe:b=e
  ·let q':H b=Y (.own x):=by
    rcases he with z | z
    ·exact absurd (hbe.trans z) hb
    ·rw[hbe];exact z
   rw[q] at q';cases q';obtain⟨v,hv⟩:=heo;exact{v,by rw[hbe];exact hv}
  ·refine(ok b u q).stay (λc v hc r=>k c v ?_ r) (λc r=>by rw[zV (nown c b r)];exact r) λc xs r=>by rw[zV (ntup c xs r)];exact r
   rcases hc with rfl | hc
   ·exact hbe
   ·rintro rfl
    rcases he with z | z
    ·exact nown c b hc z
    ·rw[hc] at z;cases z;exact hb O
end
structure Un(fs ex:List V1)(H H':Hp)(h h':V5):Prop where
 keep:∀b o,h.get? b=Y o->H b=none->b∉fs->b∉ex->h'.get? b=Y o
 slot:∀b o,h.get? b=Y o->H b=none->b∈fs->b∉ex->∃sl,h'.get? b=some {o with slots:=sl}
 free:∀b o,h.get? b=Y o->H b=none->b∉ex->H' b=none
 there:∀b o,h.get? b=Y o->b∉ex->∃o',h'.get? b=Y o'
 tups:∀b xs,H b=Y (.tup xs)->H' b=Y (.tup xs)
 frzs:∀b o u,H b=Y (.frz o u)->H' b=Y (.frz o u)
 tbls:∀b ps,H b=Y (.tbl ps)->∃more,H' b=Y (.tbl (ps++more))
section
variable{fs fs' ex ex':List V1}{H H1 H2:Hp}{h h1 h2 h':V5}{a x e:V1}{o:HO}
theorem Un.any(u:Un fs ex H H1 h h1){b:V1}{ob:Obj}(q:h.get? b=Y ob)(n:H b=none)(hx:b∉ex):∃sl,h1.get? b=some {ob with slots:=sl}:=by
 by_cases hb:b∈fs
 ·exact u.slot b ob q n hb hx
 ·exact{ob.slots,u.keep b ob q n hb hx}
theorem Un.kept(k:∀b u,h.get? b=Y u->h'.get? b=Y u):Un fs ex H H h h':=
 {λb ob q _ _ _=>k b ob q,λb ob q _ _ _=>{ob.slots,k b ob q},λ_ _ _ n _=>n,λb ob q _=>{ob,k b ob q},λ_ _ q=>q,λ_ _ _ q=>q,λ_ ps q=>{#[],by rw[q];simp}}
theorem Un.refl:Un fs ex H H h h:=Un.kept λ_ _ q=>q
theorem Un.laid(k:∀b u,h.get? b=Y u->h'.get? b=Y u)(hp:h.objs.size<=a)(hn:H a=none):Un fs ex H (upd H a o) h h' where
 keep:=λb u q _ _ _=>k b u q
 slot:=λb u q _ _ _=>{u.slots,k b u q}
 free:=λb u q n _=>by rw[zV (nX (nR (nD q) hp))];exact n
 there:=λb u q _=>{u,k b u q}
 tups:=λb xs q=>by rw[zV (yZ q hn)];exact q
 frzs:=λb u xs q=>by rw[zV (yZ q hn)];exact q
 tbls:=λb ps q=>{#[],by rw[zV (yZ q hn),q];simp}
theorem Un.write(mu:Mut (H x))(he:e=x\/H e=Y (.own x))(k:∀b u,b≠e->h.get? b=Y u->h'.get? b=Y u)(heo:∃u,h'.get? e=Y u):Un fs ex H (upd H x o) h h':=by
 let hx:∀b,H b=none->b≠x:=λb n z=>by subst z;rw[n] at mu;exact mu
 let hb:∀b,H b=none->b≠e:=λb n z=>by
  subst z;rcases he with r | r
  ·exact hx b n r
  ·rw[n] at r;cases r
 let hm:∀b u,H b=Y u->¬Mut ↥u->b≠x:=λb u q nm z=>by subst z;rw[q] at mu;exact nm mu
 refine{λb u q n _ _=>k b u (hb b n) q,λb u q n _ _=>{u.slots,k b u (hb b n) q},λb u q n _=>by rw[zV (hx b n)];exact n,λb u q _=>?_,
  λb xs q=>by rw[zV (hm b _ q λz=>z)];exact q,λb u xs q=>by rw[zV (hm b _ q λz=>z)];exact q,λb ps q=>{#[],by rw[zV (hm b _ q λz=>z),q];simp}}
 by_cases hbe:b=e
 ·subst hbe;exact heo
 ·exact{u,k b u hbe q}
end
def trk(h:V5)(H:Hp):List V1:=(List.range h.objs.size).filter λa=>(H a).isSome
def zKm(h:V5)(H:Hp):V5:=W.hideAll h (trk h H)
theorem zSm(h:V5)(H:Hp):(zKm h H).objs.size=h.objs.size:=W.hideAll_size _ _
theorem zWr{h:V5}{H:Hp}{b:V1}{o:Obj}(e:h.get? b=Y o)(n:H b=none):(zKm h H).get? b=Y o:=
 W.hideAll_get _ e λhm=>by
  let q:(H b).isSome=true:=(rA.mp hm).2;rw[n] at q;simp at q
theorem yAl{h:V5}{H:Hp}{b:V1}{o:Obj}(e:(zKm h H).get? b=Y o):h.get? b=Y o/\H b=none:=by
 let e':h.get? b=Y o:=W.of_hideAll (trk h H) e;refine{e', ?_}
 cases q:H b with
 | none=>rfl
 | some x=>
  let hm:b∈trk h H:=rA.mpr {rH.mpr (nD e'),by simp[q]};let z:(zKm h H).get? b=none:=W.hideAll_none (trk h H) hm;rw[z] at e;cases e
def zYe(g h:V5)(L:V1):List (V1×Obj):=(List.range h.objs.size).filterMap λa=>if a=L\/(g.get? a).isSome=true then none else(h.get? a).map λo=>(a,o)
def uN(g h:V5)(L d:V1):List (V1×Obj):=(zYe g h L).filter λp=>decide (p.1≠d)
structure Mod(K:A7)(mg:Str->Option V0)(base:V5):Prop where
 kin:K.In base
 glob:base.Ns A0 mg
 blt:∃mb,base.Ns builtinsNs mb/\∀x:Str,x≠ "__name__"->mb x=A2 x
 nolimit:base.NoLimit
structure Cx where
 prog:V3
 w:V4
 K:A7
 mg:Str->Option V0
 base:V5
 A:Around
 N:List Str
 s₀:V2
 H₀:Hp
 env:S8
 outer:List S8
 stack:List S8
 ex:List V1
 fn:Str->Bool
 calm:Bool
 pn:List (V1×Obj)
 xe:V0->V2->Prop
def frs(l:List S8):List V1:=l.filterMap (·.frame)
abbrev Cx.fs(X:Cx):List V1:=frs X.outer
def Vis(sc:Scope)(x:Str):Prop:=sc.names.lookup x=some .local\/sc.names.lookup x=some .cell\/sc.names.lookup x=some .free
def Loc(sc:Scope)(x:Str):Prop:=sc.names.lookup x=some .local\/sc.names.lookup x=some .cell
def Look(env:S8)(h:V5)(m:Str->Option V0)(x:Str)(u:V0):Prop:=
 (env.kindOf x=some .local/\m x=Y u)\/((env.kindOf x=some .cell\/env.kindOf x=some .free)/\∃c,env.cells.lookup x=Y c/\h.IsCell c ↥u)
structure Cx.Ok(X:Cx):Prop where
 mod:Mod X.K X.mg X.base
 kind:X.env.scope.kind= .function
 glob:X.env.globals=A0
 blt:X.env.builtins=builtinsNs
 above:X.s₀⁻¹<=X.env.locals
 inj:∀x y c,X.env.cells.lookup x=Y c->X.env.cells.lookup y=Y c->x=y
 has:∀x,(X.env.kindOf x=some .cell\/X.env.kindOf x=some .free)->∃c,X.env.cells.lookup x=Y c
 cab:∀x c,X.fn x=true->X.env.cells.lookup x=Y c->X.s₀⁻¹<=c
 hd:X.calm=true->X.A.handled=none
 frames:X.A.frames=Y X.stack
 stk:X.stack=X.outer\/(X.stack=X.env::X.outer/\X.env.frame=Y X.env.locals)
 exf:∀b∈X.ex,b≠X.env.locals/\∀x c,X.env.cells.lookup x=Y c->c≠b
 bs:∀b o,X.base.get? b=Y o->X.s₀.heap.get? b=Y o/\X.H₀ b=none
 bsz:X.base.objs.size<=X.s₀⁻¹
 noex:∀b o,X.base.get? b=Y o->b∉X.ex
 exfs:∀b∈X.ex,b∉X.fs
 funs:X.s₀.heap.FunFrames X.base X.outer
 frf:∀b∈X.fs,X.H₀ b=none
structure Inv(X:Cx)(pins:List (V1×Obj))(σ:List (Option V))(H:Hp)(s:V2):Prop where
 ok:X.Ok
 os:s.os=X.s₀.os
 bare:AllBare s.gens
 base:Un X.fs X.ex X.H₀ H X.s₀.heap s.heap
 loc:∃m,s.heap.Ns X.env.locals m/\∀(i:Nat)(x:Str)(v:V),X.N[i]? =Y x->σ[i]? =Y ↥v->Vis X.env.scope x->∃u,RelV v u/\Look X.env s.heap m x u
 cell:∀x c,X.env.cells.lookup x=Y c->∃v,s.heap.IsCell c v
 free:H X.env.locals=none
 freeC:∀x c,X.env.cells.lookup x=Y c->H c=none
 pin:∀p∈X.pn++pins,s.heap.get? p.1=Y p.2/\H p.1=none/\p.1≠X.env.locals/\p.1∉X.fs/\∀v,p.2.data≠ .cell v
 hok:HOk X.prog X.w H s.heap
 len:σ...*=X.N...*
section
variable{X:Cx}{pins:List (V1×Obj)}{σ:List (Option V)}{H H':Hp}{s:V2}{h':V5}
theorem Cx.Ok.nofr(ok:X.Ok){b:V1}{o:Obj}(e:X.base.get? b=Y o):b∉X.fs:=λhb=>by
 let:=(ok.funs.mem hb).1;rw[e] at this;cases this
theorem Inv.bs(I:Inv X pins σ H s):∀b o,X.base.get? b=Y o->s.heap.get? b=Y o/\H b=none:=λb o e=>
 ⟨I.base.keep b o (I.ok.bs b o e).1 (I.ok.bs b o e).2 (I.ok.nofr e) (I.ok.noex b o e),I.base.free b o (I.ok.bs b o e).1 (I.ok.bs b o e).2 (I.ok.noex b o e)⟩
theorem Inv.bk(I:Inv X pins σ H s):∀b o,X.base.get? b=Y o->s.heap.get? b=Y o:=λb o e=>(I.bs b o e).1
theorem Inv.mod(I:Inv X pins σ H s):Mod X.K X.mg X.base:=I.ok.mod
theorem Inv.kIn(I:Inv X pins σ H s):X.K.In s.heap:=I.ok.mod.kin.keeps I.bk
theorem Inv.lt(I:Inv X pins σ H s):X.env.locals<s⁻¹:=let ⟨_,hn,_⟩:=I.loc;hn.lt
theorem Inv.sz(I:Inv X pins σ H s):X.s₀⁻¹<=s⁻¹:=nS I.ok.above (aA I.lt)
theorem Inv.nofs(I:Inv X pins σ H s){a:V1}(h:s⁻¹<=a):a∉X.fs:=λhb=>by
 obtain⟨_,o,ho,_⟩:=I.ok.funs.mem hb;exact absurd (nR (nD ho) (nS I.sz h)) (sJ _)
theorem Inv.cne(I:Inv X pins σ H s):∀x c,X.env.cells.lookup x=Y c->c≠X.env.locals:=λx c e z=>by
 refine wA (I.cell x c e) λv o ho hd=>?_;obtain⟨m,⟨o',es,ep,ho',hd',_⟩,_⟩:=I.loc;rw[z,ho'] at ho;cases ho;rw[hd'] at hd;cases hd
theorem Inv.funs(I:Inv X pins σ H s):s.heap.FunFrames X.base X.outer:=by
 let all:∀(l:List S8),(∀b∈frs l,b∈X.fs)->X.s₀.heap.FunFrames X.base l->s.heap.FunFrames X.base l:=by
  intro l
  induction l with
  | nil=>intro _ _;trivial
  | cons env r ih=>
   intro hs hl;obtain⟨hk,⟨L,o,hf,hn,ho,hd⟩,hr⟩:=hl;let hL:L∈X.fs:=hs L (by unfold frs;rw[aP,hf];exact mG);obtain⟨sl,e⟩:=I.base.slot L o ho (I.ok.frf L hL) hL λz=>I.ok.exfs L z hL;exact⟨hk,⟨L,_,hf,hn,e,hd⟩,ih (λb hb=>hs b (by unfold frs;rw[aP,hf];exact mE _ hb)) hr⟩
 exact all X.outer (λ_ hb=>hb) I.ok.funs
theorem Inv.stack(I:Inv X pins σ H s):s.heap.FunFrames X.base X.stack:=by
 rcases I.ok.stk with e |⟨e,hf⟩
 ·rw[e];exact I.funs
 ·rw[e]
  obtain⟨m,hn,_⟩:=I.loc;refine .cons (by rw[I.ok.kind];decide) hf hn ?_ I.funs;exact Heap.get?_none_of_le (nS I.ok.bsz I.ok.above)
theorem Inv.stkSub(I:Inv X pins σ H s):∀b∈frs X.stack,b∈X.env.locals::X.fs:=λb hb=>by
 rcases I.ok.stk with e |⟨e,hf⟩
 ·rw[e] at hb;exact mE _ hb
 ·rw[e] at hb
  unfold frs at hb;rw[aP,hf] at hb;exact hb
theorem Inv.stkFree(I:Inv X pins σ H s):∀b∈frs X.stack,H b=none:=λb hb=>by
 rcases mI.mp (I.stkSub b hb) with e | hb
 ·rw[e];exact I.free
 ·obtain⟨_,o,ho,_⟩:=I.ok.funs.mem hb
  exact I.base.free b o ho (I.ok.frf b hb) λz=>I.ok.exfs b z hb
theorem Inv.step{g':Array GenState}{t':Nat}{d':Drawn}{ch:List V1}(I:Inv X pins σ H s)
  (hch:∀b∈ch,(b∈X.ex\/X.s₀⁻¹<=b)/\b≠X.env.locals/\(∀x c,X.env.cells.lookup x=Y c->c≠b)/\∀p∈X.pn++pins,p.1≠b)
  (keep:∀b o,b≠X.env.locals->b∉X.fs->b∉ch->s.heap.get? b=Y o->H b=none->h'.get? b=Y o)
  (slot:∀b o,b≠X.env.locals->b∈X.fs->b∉ch->s.heap.get? b=Y o->H b=none->∃sl,h'.get? b=some {o with slots:=sl}) (free:∀b o,b∉ch->s.heap.get? b=Y o->H b=none->H' b=none)
  (there:∀b o,b∉ch->s.heap.get? b=Y o->∃o',h'.get? b=Y o')
  (tups:∀b xs,H b=Y (.tup xs)->H' b=Y (.tup xs)) (frzs:∀b o u,H b=Y (.frz o u)->H' b=Y (.frz o u)) (tbls:∀b ps,H b=Y (.tbl ps)->∃more,H' b=Y (.tbl (ps++more)))
  (ns:∀m,s.heap.Ns X.env.locals m->h'.Ns X.env.locals m) (hok:HOk X.prog X.w H' h') (hg:AllBare g'):
  Inv X pins σ H' {s with heap:=h',gens:=g',drawn:=d',toks:=t'}:=by
 let neL:∀b o,X.s₀.heap.get? b=Y o->b≠X.env.locals:=λb o e=>nX (nR (nD e) I.ok.above);let neC:∀b o,X.s₀.heap.get? b=Y o->b∉X.ex->b∉ch:=λb o e hx hb=>by
  rcases(hch b hb).1 with z | z
  ·exact hx z
  ·exact absurd (nR (nD e) z) (sJ _)
 let cellK:∀x c,X.env.cells.lookup x=Y c->∀v,s.heap.IsCell c v->h'.IsCell c v:=λx c e v ⟨o,ho,hd⟩=>by
  let nch:c∉ch:=λz=>(hch c z).2.2.1 x c e O
  by_cases hc:c∈X.fs
  ·obtain⟨sl,q⟩:=slot c o (I.cne x c e) hc nch ho (I.freeC x c e)
   exact⟨_,q,hd⟩
  ·exact⟨o,keep c o (I.cne x c e) hc nch ho (I.freeC x c e),hd⟩
 refine{I.ok,I.os,hg,⟨λb o e n hb hx=>?_,λb o e n hb hx=>?_,λb o e n hx=>?_,λb o e hx=>?_,λb xs e=>tups b xs (I.base.tups b xs e),λb o xs e=>frzs b o xs (I.base.frzs b o xs e),λb ps e=>?_⟩, ?_,λx c e=>?_, ?_,λx c e=>?_,λp hp=>?_,hok,I.len}
 ·exact keep b o (neL b o e) hb (neC b o e hx) (I.base.keep b o e n hb hx) (I.base.free b o e n hx)
 ·obtain⟨sl,e1⟩:=I.base.slot b o e n hb hx
  obtain⟨sl',e2⟩:=slot b _ (neL b o e) hb (neC b o e hx) e1 (I.base.free b o e n hx);exact⟨sl',e2⟩
 ·obtain⟨o',e1⟩:=I.base.there b o e hx
  exact free b o' (neC b o e hx) e1 (I.base.free b o e n hx)
 ·obtain⟨o',e1⟩:=I.base.there b o e hx
  exact there b o' (neC b o e hx) e1
 ·obtain⟨m1,e1⟩:=I.base.tbls b ps e
  obtain⟨m2,e2⟩:=tbls b _ e1;exact{m1++m2,by rw[e2,Array.append_assoc]}
 ·obtain⟨m,hn,hl⟩:=I.loc
  refine{m,ns m hn,λi x v e1 e2 e3=>?_};obtain⟨u,r,l⟩:=hl i x v e1 e2 e3;refine{u,r, ?_};rcases l with l |⟨k,c,e,z⟩
  ·exact .inl l
  ·exact .inr {k,c,e,cellK x c e _ z}
 ·obtain⟨v,z⟩:=I.cell x c e
  exact{v,cellK x c e v z}
 ·obtain⟨m,⟨o,_,_,ho,_⟩,_⟩:=I.loc
  exact free _ o (λz=>(hch _ z).2.1 rfl) ho I.free
 ·refine wA (I.cell x c e) λv o ho hd=>?_
  exact free c o (λz=>(hch c z).2.2.1 x c e rfl) ho (I.freeC x c e)
 ·refine vS (I.pin p hp) λe n ne nf d=>?_
  let nch:p.1∉ch:=λz=>(hch p.1 z).2.2.2 p hp O;exact{keep p.1 p.2 ne nf nch e n,free p.1 p.2 nch e n,ne,nf,d}
theorem Inv.un{t':Nat}(I:Inv X pins σ H s)(u:Un X.fs [] H H' s.heap h')(hok:HOk X.prog X.w H' h'):Inv X pins σ H' {s with heap:=h',toks:=t'}:=by
 obtain⟨m,⟨o,es,ep,ho,r⟩,_⟩:=id I.loc;obtain⟨sl,hL⟩:=u.any ho I.free (by simp);exact I.step (g':=s.gens) (d':=s.drawn) (ch:=[]) (λ_ z=>nomatch z) (λb o _ hb _ e n=>u.keep b o e n hb (by simp)) (λb o _ hb _ e n=>u.slot b o e n hb (by simp)) (λb o _ e n=>u.free b o e n (by simp)) (λb o _ e=>u.there b o e (by simp)) u.tups u.frzs u.tbls (λm' hm=>by
  ext vZ hm o' es' ep' ho' r';rw[ho] at ho';cases ho';exact⟨_,es',ep',hL,r'⟩) hok I.bare
theorem Inv.call{g':Array GenState}{t':Nat}{d':Drawn}{ch:List V1}(I:Inv X pins σ H s)(u:Un (frs X.stack) ch H H' s.heap h')(hok:HOk X.prog X.w H' h')(hg:AllBare g')
  (hch:∀b∈ch,(b∈X.ex\/X.s₀⁻¹<=b)/\b≠X.env.locals/\(∀x c,X.env.cells.lookup x=Y c->c≠b)/\∀p∈X.pn++pins,p.1≠b):
  Inv X pins σ H' {s with heap:=h',gens:=g',drawn:=d',toks:=t'}:=by
 obtain⟨m,⟨o,es,ep,ho,r⟩,_⟩:=id I.loc;obtain⟨sl,hL⟩:=u.any ho I.free λz=>(hch _ z).2.1 O;exact I.step (ch:=ch) hch (λb o hL hb hc e n=>u.keep b o e n (λz=>(mI.mp (I.stkSub b z)).elim hL hb) hc) (λb o _ _ hc e n=>u.any e n hc) (λb o hc e n=>u.free b o e n hc) (λb o hc e=>u.there b o e hc) u.tups u.frzs u.tbls (λm' hm=>by
  ext vZ hm o' es' ep' ho' r';rw[ho] at ho';cases ho';exact⟨_,es',ep',hL,r'⟩) hok hg
theorem Inv.turned{t':Nat}{it:V1}(I:Inv X pins σ H s)(k:∀b o,b≠it->s.heap.get? b=Y o->h'.get? b=Y o)(hn:H it=none)(hL:it≠X.env.locals)
  (h1:it∈X.ex\/X.s₀⁻¹<=it) (h2:∀x c,X.env.cells.lookup x=Y c->c≠it) (h3:∀p∈X.pn++pins,p.1≠it):Inv X pins σ H {s with heap:=h',toks:=t'}:=by
 let nit:∀b u,H b=Y u->b≠it:=λb u e z=>by rw[z,hn] at e;cases e
 refine I.step (g':=s.gens) (d':=s.drawn) (ch:=[it]) (λb hb=>?_) (λb o _ _ hc e _=>k b o (λz=>hc (by simp[z])) e) (λb o _ _ hc e _=>⟨o.slots,k b o (λz=>hc (by simp[z])) e⟩) (λ_ _ _ _ n=>n)
  (λb o hc e=>⟨o,k b o (λz=>hc (by simp[z])) e⟩) (λ_ _ e=>e) (λ_ _ _ e=>e) (λb ps e=>{#[],by rw[e];simp}) (λm hm=>?_) (λb u e=>?_) I.bare
 ·let e:b=it:=by simpa using hb
  subst e;exact⟨h1,hL,h2,h3⟩
 ·ext vZ hm o es ep ho r
  exact⟨o,es,ep,k _ o (Ne.symm hL) ho,r⟩
 ·refine(I.hok b u e).stay (λc v hc q=>k c v ?_ q) (λ_ q=>q) λ_ _ q=>q
  rcases hc with z | z
  ·rw[z];exact nit b u e
  ·exact nit c _ z
theorem Inv.tok(I:Inv X pins σ H s)(t:Nat):Inv X pins σ H {s with toks:=t}:=I.un (h':=s.heap) (t':=t) Un.refl I.hok
theorem Inv.kept{t':Nat}(I:Inv X pins σ H s)(k:∀b u,s.heap.get? b=Y u->h'.get? b=Y u):Inv X pins σ H {s with heap:=h',toks:=t'}:=I.un (Un.kept k) (I.hok.kept k)
theorem Inv.laid{a:V1}{o:HO}{t':Nat}(I:Inv X pins σ H s)(k:∀b u,s.heap.get? b=Y u->h'.get? b=Y u)(hp:s⁻¹<=a)(new:ObjOk X.prog X.w (upd H a o) h' a o):
  Inv X pins σ (upd H a o) {s with heap:=h',toks:=t'}:=I.un (Un.laid k hp (I.hok.fresh hp)) (I.hok.laid k hp new)
theorem Inv.write{x e:V1}{o:HO}{t':Nat}(I:Inv X pins σ H s)(mu:Mut (H x))(he:e=x\/H e=Y (.own x))(k:∀b u,b≠e->s.heap.get? b=Y u->h'.get? b=Y u)(heo:∃u,h'.get? e=Y u)
  (new:ObjOk X.prog X.w (upd H x o) h' x o):Inv X pins σ (upd H x o) {s with heap:=h',toks:=t'}:=I.un (Un.write mu he k heo) (I.hok.write mu he k heo new)
theorem Inv.weak{σ':List (Option V)}(I:Inv X pins σ H s)(hl:σ'...*=σ...*)(w:∀(i:Nat) v,σ'[i]? =Y ↥v->σ[i]? =Y ↥v):Inv X pins σ' H s:=
 {I.ok,I.os,I.bare,I.base,let ⟨m,hn,hl'⟩:=I.loc;{m,hn,λi x v e1 e2 e3=>hl' i x v e1 (w i v e2) e3},I.cell,I.free,I.freeC,I.pin,I.hok,hl.trans I.len}
theorem Inv.pins_of{pins':List (V1×Obj)}(I:Inv X pins σ H s)(h:∀p∈pins',s.heap.get? p.1=Y p.2/\H p.1=none/\p.1≠X.env.locals/\p.1∉X.fs/\∀v,p.2.data≠ .cell v):Inv X pins' σ H s:=
 {I.ok,I.os,I.bare,I.base,I.loc,I.cell,I.free,I.freeC,λp hp=>(mX.mp hp).elim (λz=>I.pin p (nW _ z)) (h p),I.hok,I.len}
theorem zMo{N:List Str}(hN:N.Nodup){i j:Nat}{x:Str}(a:N[i]? =Y x)(b:N[j]? =Y x):i=j:=by
 obtain⟨h1,e1⟩:=mP.mp a;obtain⟨h2,e2⟩:=mP.mp b;exact(List.getElem_inj hN).mp (e1.trans e2.symm)
theorem zIc{M:Model}{A:Around}{E:V0->V2->Prop}{i:Nat}{x:Str}{v:V}{u:V0}{Q:Unit->V2->Prop}(I:Inv X pins σ H s)(hN:X.N.Nodup)(hi:X.N[i]? =Y x)(hx:Loc X.env.scope x)(r:RelV v u)
  (h:∀s',Inv X pins (σ.set i ↥v) H s'->(∃a,Heap.SameBut a s.heap s'.heap/\(a=X.env.locals\/X.env.cells.lookup x=Y a))->Q () s') (hf:X.fn x=true\/X.env.scope.names.lookup x=some .local:=by first | exact .inl O | exact .inr O | assumption):V8 M A (storeName X.env x u) Q E s:=by
 obtain⟨m,hn,hl⟩:=id I.loc;let hcls:(X.env.scope.kind== .class ||(X.env.scope.kind== .module && X.env.locals !=X.env.globals))=false:=by rw[I.ok.kind];rfl
 let hiσ:i<σ...*:=by rw[I.len];exact(mP.mp hi).1
 let cne:=I.cne;let tracked:∀{a:V1}{h':V5},(∃o,s.heap.get? a=Y o/\H a=none)->Heap.SameBut a s.heap h'->HOk X.prog X.w H h':=λ{a h'} ha hs b ob e=>by
  obtain⟨_,_,hfree⟩:=ha;refine(I.hok b ob e).stay (λc w' hc q=>(hs.2 c ?_).trans q) (λ_ q=>q) λ_ _ q=>q;rintro rfl;rcases hc with rfl | hc
  ·rw[hfree] at e;cases e
  ·rw[hfree] at hc;cases hc
 rcases hx with hk | hk
 ·refine wpAny_storeName_local hk hn (λh' hn' hs=>?_) hcls
  refine vZ (id hn) λoL _ _ hoL _=>?_;refine h _ {I.ok,I.os,I.bare,⟨λb o e n hb hx=>?_,λb o e n hb hx=>?_,I.base.free,λb o e hx=>?_,I.base.tups,I.base.frzs,I.base.tbls⟩,{_,hn',λj y v' e1 e2 e3=>?_},λy c e=>?_,I.free,I.freeC,λp hp=>?_,tracked ⟨oL,hoL,I.free⟩ hs,by simpa using I.len} {_,hs, .inl O}
  ·exact(hs.2 b (nX (nR (nD e) I.ok.above))).trans (I.base.keep b o e n hb hx)
  ·obtain⟨sl,e1⟩:=I.base.slot b o e n hb hx
   exact{sl,(hs.2 b (nX (nR (nD e) I.ok.above))).trans e1}
  ·obtain⟨o',e1⟩:=I.base.there b o e hx
   exact{o',(hs.2 b (nX (nR (nD e) I.ok.above))).trans e1}
  ·by_cases hj:j=i
   ·subst hj
    rw[hi] at e1;cases e1;rw[sS hiσ] at e2;cases e2;exact{u,r, .inl {hk,by simp}}
   ·rw[rW (Ne.symm hj)] at e2
    obtain⟨u',r',q⟩:=hl j y v' e1 e2 e3;refine{u',r', ?_};rcases q with⟨k,e⟩|⟨k,c,e,z⟩
    ·refine .inl {k, ?_}
     let:y≠x:=λe=>hj (zMo hN e1 (e▸hi));simp[this,e]
    ·exact .inr {k,c,e,z.sameBut hs (cne y c e)}
  ·obtain⟨w',z⟩:=I.cell y c e
   exact{w',z.sameBut hs (cne y c e)}
  ·refine vS (I.pin p hp) λe n ne nf d=>?_
   exact{(hs.2 p.1 ne).trans e,n,ne,nf,d}
 ·let hfn:X.fn x=true:=by
   rcases hf with z | z
   ·exact z
   ·rw[z] at hk;cases hk
  obtain⟨c,hc⟩:=I.ok.has x (.inl hk);obtain⟨w',z⟩:=I.cell x c hc;refine wpAny_storeName_cell I.ok.kind hk hc z (λh' hc' hs=>?_);obtain⟨oc,hoc,hocd⟩:=id z;refine h {s with heap:=h'} {I.ok,I.os,I.bare,⟨λb o e n hb hx=>?_,λb o e n hb hx=>?_,I.base.free,λb o e hx=>?_,I.base.tups,I.base.frzs,I.base.tbls⟩,{m,hn.sameBut hs (Ne.symm (cne x c hc)),λj y v' e1 e2 e3=>?_},λy c' e=>?_,I.free,I.freeC,λp hp=>?_,tracked {oc,hoc,I.freeC x c hc} hs,by simpa using I.len} {c,hs, .inr hc}
  ·exact(hs.2 b (nX (nR (nD e) (I.ok.cab x c hfn hc)))).trans (I.base.keep b o e n hb hx)
  ·obtain⟨sl,e1⟩:=I.base.slot b o e n hb hx
   exact{sl,(hs.2 b (nX (nR (nD e) (I.ok.cab x c hfn hc)))).trans e1}
  ·obtain⟨o',e1⟩:=I.base.there b o e hx
   exact{o',(hs.2 b (nX (nR (nD e) (I.ok.cab x c hfn hc)))).trans e1}
  ·by_cases hj:j=i
   ·subst hj
    rw[hi] at e1;cases e1;rw[sS hiσ] at e2;cases e2;exact{u,r, .inr {.inl hk,c,hc,hc'}}
   ·rw[rW (Ne.symm hj)] at e2
    obtain⟨u',r',q⟩:=hl j y v' e1 e2 e3;refine{u',r', ?_};rcases q with q |⟨k,c',e,z'⟩
    ·exact .inl q
    ·refine .inr {k,c',e,z'.sameBut hs ?_}
     rintro rfl;exact hj (zMo hN e1 (I.ok.inj _ _ _ e hc▸hi))
  ·by_cases hcc:c'=c
   ·subst hcc;exact⟨_,hc'⟩
   ·obtain⟨w2,z2⟩:=I.cell y c' e
    exact{w2,z2.sameBut hs hcc}
  ·refine vS (I.pin p hp) λe n ne nf d=>?_
   refine{(hs.2 p.1 ?_).trans e,n,ne,nf,d};intro q;rw[q,hoc] at e;let q':oc=p.2:=mM e;exact d w' (by rw[<-q'];exact hocd)
theorem zGc{M:Model}{A:Around}{E:V0->V2->Prop}{i:Nat}{x:Str}{v:V}{u:V0}{Q:Unit->V2->Prop}(I:Inv X pins σ H s)(hN:X.N.Nodup)(hi:X.N[i]? =Y x)(hx:Loc X.env.scope x)(r:RelV v u)
  (h:∀s',Inv X pins (σ.set i ↥v) H s'->Q () s') (hf:X.fn x=true\/X.env.scope.names.lookup x=some .local:=by first | exact .inl O | exact .inr O | assumption):V8 M A (storeName X.env x u) Q E s:=
 zIc I hN hi hx r (λs' I' _=>h s' I') hf
theorem Inv.call'{s':V2}{ch:List V1}(I:Inv X pins σ H s)(ho:s'.os=s.os)(u:Un (frs X.stack) ch H H' s.heap s'.heap)(hok:HOk X.prog X.w H' s'.heap)(hg:AllBare s'.gens)
  (hch:∀b∈ch,(b∈X.ex\/X.s₀⁻¹<=b)/\b≠X.env.locals/\(∀x c,X.env.cells.lookup x=Y c->c≠b)/\∀p∈X.pn++pins,p.1≠b):Inv X pins σ H' s':=by
 obtain⟨h',g',d',t',o'⟩:=s';let e:o'=s.os:=ho;subst e;exact I.call (g':=g') (t':=t') (d':=d') u hok hg hch
end
abbrev XK:=V0->Option V1->Hp->Prop
abbrev St:=List (Option V)
abbrev VK:=V->Hp->Prop
abbrev TE:=St->Hp->VK->Prop
abbrev TT:=St->Hp->(Bool->Hp->Prop)->Prop
abbrev TA:=St->Hp->(List V->Hp->Prop)->Prop
structure uW where
 nx:St->Hp->Prop
 rt:VK
 bk:St->Hp->Prop:=λ_ _=>False
 ct:St->Hp->Prop:=λ_ _=>False
abbrev TS:=uW->St->Hp->Prop
def EP(X:Cx)(pins:List (V1×Obj))(σ:St)(Q:VK)(u:V0)(s':V2):Prop:=∃v H',Inv X pins σ H' s'/\RelV v u/\Q v H'
def TP(X:Cx)(pins:List (V1×Obj))(σ:St)(Q:Bool->Hp->Prop)(b:Bool)(s':V2):Prop:=∃H',Inv X pins σ H' s'/\Q b H'
def AP(X:Cx)(pins:List (V1×Obj))(σ:St)(Q:List V->Hp->Prop)(us:List V0)(s':V2):Prop:=∃vs H',Inv X pins σ H' s'/\Vals vs us/\Q vs H'
def SP(X:Cx)(pins:List (V1×Obj))(D:uW)(f:Flow)(s':V2):Prop:=
 match f with
 | .next=>∃σ' H',Inv X pins σ' H' s'/\D.nx σ' H'
 | .brk=>∃σ' H',Inv X pins σ' H' s'/\D.bk σ' H'
 | .cont=>∃σ' H',Inv X pins σ' H' s'/\D.ct σ' H'
 | .ret u=>∃v σ' H',Inv X pins σ' H' s'/\RelV v u/\D.rt v H'
def PE(X:Cx)(e:Expr)(t:TE):Prop:=
 ∀(pins:List (V1×Obj))(s:V2)(σ:St)(H:Hp)(Q:VK),Inv X pins σ H s->t σ H Q->V8 (S6 X.prog X.w) X.A (eval e X.env) (EP X pins σ Q) X.xe s
def PT(X:Cx)(e:Expr)(t:TT):Prop:=
 ∀(pins:List (V1×Obj))(s:V2)(σ:St)(H:Hp)(Q:Bool->Hp->Prop),Inv X pins σ H s->t σ H Q->V8 (S6 X.prog X.w) X.A (isTrue e X.env (eval e X.env)) (TP X pins σ Q) X.xe s
def PW(X:Cx)(e:Expr)(t:TT):Prop:=
 ∀(whole:Sem V0)(pins:List (V1×Obj))(s:V2)(σ:St)(H:Hp)(Q:Bool->Hp->Prop),Inv X pins σ H s->t σ H Q->V8 (S6 X.prog X.w) X.A (isTrue e X.env whole) (TP X pins σ Q) X.xe s
theorem d9{X:Cx}{e:Expr}{t:TT}(h:PW X e t):PT X e t:=h _
def PA(X:Cx)(es:List Expr)(t:TA):Prop:=
 ∀(pos:Pos)(pins:List (V1×Obj))(s:V2)(σ:St)(H:Hp)(Q:List V->Hp->Prop),Inv X pins σ H s->t σ H Q->V8 (S6 X.prog X.w) X.A (spliced (S2 pos (A3 es X.env))) (AP X pins σ Q) X.xe s
def PS(X:Cx)(st:V6)(t:TS):Prop:=
 ∀(pins:List (V1×Obj))(s:V2)(σ:St)(H:Hp)(D:uW),Inv X pins σ H s->t D σ H->V8 (S6 X.prog X.w) X.A (exec st X.env) (SP X pins D) X.xe s
def PSs(X:Cx)(st:List V6)(t:TS):Prop:=
 ∀(pins:List (V1×Obj))(s:V2)(σ:St)(H:Hp)(D:uW),Inv X pins σ H s->t D σ H->V8 (S6 X.prog X.w) X.A (execs st X.env) (SP X pins D) X.xe s
theorem thn{α:Type}{t:Sem α}{Q Q':α->V2->Prop}{M:Model}{A:Around}{E:V0->V2->Prop}{s:V2}(h:V8 M A t Q E s)(hQ:∀a s,Q a s->Q' a s):V8 M A t Q' E s:=rX h hQ λ_ _ x=>x
section
variable{X:Cx}
def uV(i:Nat):TE:=λσ H Q=>match σ[i]? with
 | some ↥v=>Q v H
 | _=>False
theorem zYd{i:Nat}{σ:St}{H:Hp}{Q:VK}(h:uV i σ H Q):∃v,σ[i]? =Y ↥v/\Q v H:=by
 unfold uV at h;split at h
 ·exact{_,by assumption,h}
 ·exact h.elim
def tC(v:V):TE:=λ_ H Q=>Q v H
theorem yDf{i:Nat}{x:Str}{pos:Pos}(hN:X.N[i]? =Y x)(hv:Vis X.env.scope x)(hd:(x==("__debug__" :Str))=false:=by decide)(hcd:(x==("__classdict__" :Str))=false:=by decide):PE X (.Name x pos) (uV i):=by
 intro pins s σ H Q I h;obtain⟨v,e,h⟩:=zYd h;obtain⟨m,hn,hl⟩:=I.loc;obtain⟨u,r,l⟩:=hl i x v hN e hv;let fin:EP X pins σ Q u s:=⟨v,H,I,r,h⟩;rcases l with⟨hk,hm⟩|⟨hk,c,hc,hcell⟩
 ·exact wpAny_Name (wpAny_loadName_local I.ok.kind hk hn hm fin) hd
 ·rcases hk with hk | hk
  ·exact wpAny_Name (wpAny_loadName_cell I.ok.kind hk hc hcell fin) hd
  ·exact wpAny_Name (wpAny_loadName_free I.ok.kind hk hc hcell fin hcd) hd
theorem zF{i j pos}:PE X (.Constant (.int i) j pos) (tC (.int i)):=λ_ _ _ H _ I h=>wpAny_Constant_int {.int i,H,I.tok _,⟨_,O⟩,h}
theorem wZ{b j pos}:PE X (.Constant (.bool b) j pos) (tC (.bl b)):=λ_ _ _ H _ I h=>Constant_bool {.bl b,H,I,O,h}
theorem jD{j pos}:PE X (.Constant .none j pos) (tC .non):=λ_ _ _ H _ I h=>Constant_none {.non,H,I,O,h}
theorem zU{x j pos}:PE X (.Constant (.str x) j pos) (tC (.str x)):=λ_ _ _ H _ I h=>Calls.Constant_str {.str x,H,I.tok _,⟨_,O⟩,h}
def Gl(X:Cx)(x:Str):Prop:=X.env.kindOf x=some .globalImplicit
theorem zKg{E:V0->V2->Prop}{pins:List (V1×Obj)}{s:V2}{σ:St}{H:Hp}{x:Str}{u:V0}{pos:Pos}{Q:V0->V2->Prop}(I:Inv X pins σ H s)(hg:Gl X x)(hm:X.mg x=Y u)(h:Q u s)
  (hd:(x==("__debug__" :Str))=false:=by decide):V8 (S6 X.prog X.w) X.A (eval (.Name x pos) X.env) Q E s:=
 Calls.Name_function_global I.ok.kind hg (Calls.loadGlobal_global (by rw[I.ok.glob];exact I.mod.glob.keeps I.bk) hm h) hd
theorem gI{E:V0->V2->Prop}{pins:List (V1×Obj)}{s:V2}{σ:St}{H:Hp}{x:Str}{u:V0}{pos:Pos}{Q:V0->V2->Prop}(I:Inv X pins σ H s)(hg:Gl X x)(hm:X.mg x=none)(hv:A2 x=Y u)(h:Q u s)
  (hn:x≠ "__name__":=by decide) (hd:(x==("__debug__" :Str))=false:=by decide):V8 (S6 X.prog X.w) X.A (eval (.Name x pos) X.env) Q E s:=by
 obtain⟨mb,h1,h2⟩:=I.mod.blt;exact Calls.Name_function_global I.ok.kind hg (Calls.loadGlobal_builtin (by rw[I.ok.glob];exact I.mod.glob.keeps I.bk) hm (by rw[I.ok.blt];exact h1.keeps I.bk) ((h2 x hn).trans hv) h) hd
theorem zPr{x:Str}{v:V}{u:V0}{pos:Pos}(hg:Gl X x)(hm:X.mg x=Y u)(r:RelV v u)(hd:(x==("__debug__" :Str))=false:=by decide):PE X (.Name x pos) (tC v):=
 λ_ _ _ H _ I h=>zKg I hg hm ⟨v,H,I,r,h⟩ hd
theorem xZ{x:Str}{v:V}{u:V0}{pos:Pos}(hg:Gl X x)(hm:X.mg x=none)(hv:A2 x=Y u)(r:RelV v u)(hn:x≠ "__name__":=by decide)(hd:(x==("__debug__" :Str))=false:=by decide):PE X (.Name x pos) (tC v):=
 λ_ _ _ H _ I h=>gI I hg hm hv ⟨v,H,I,r,h⟩ hn hd
variable{a b:Expr}{ta tb:TE}{pos:Pos}
def PC(X:Cx)(op:CmpOp)(a b:Expr)(t:TE):Prop:=
 ∀(pins:List (V1×Obj))(s:V2)(σ:St)(H:Hp)(Q:VK),Inv X pins σ H s->t σ H Q->
  V8 (S6 X.prog X.w) X.A (eval a X.env) (λv s₁=>V8 (S6 X.prog X.w) X.A (eval b X.env) (λu s₂=>V8 (S6 X.prog X.w) X.A (A4 op v u) (EP X pins σ Q) X.xe s₂) X.xe s₁) X.xe s
theorem zLh(b:Expr){op:CmpOp}(h:op≠ .In)(h2:op≠ .NotIn):behindInMarks op b=false:=by
 let e1:(op==CmpOp.In)=false:=by cases op<;>first | rfl | exact absurd O h
 let e2:(op==CmpOp.NotIn)=false:=by cases op<;>first | rfl | exact absurd O h2
 cases b<;>simp[behindInMarks,e1,e2]
def yDd(ta:TE):TE:=λσ H Q=>ta σ H λx H1=>Q (.bl (decide (x= .non))) H1
def zWg(ta:TE):TE:=λσ H Q=>ta σ H λx H1=>Q (.bl (!decide (x= .non))) H1
theorem RelV.none_iff{x:V}{v:V0}(r:RelV x v):(v==Value.none)=decide (x= .non):=by
 cases x with
 | non=>cases r;rfl
 | bl _=>cases r;rfl
 | int _=>obtain⟨t,rfl⟩:=r;rfl
 | str _=>obtain⟨t,rfl⟩:=r;rfl
 | byt _=>obtain⟨t,rfl⟩:=r;rfl
 | flt _=>obtain⟨t,rfl⟩:=r;rfl
 | ref _=>cases r;rfl
 | ty _=>cases r;rfl
theorem zJi{j pos'}(ha:PE X a ta):PC X .Is a (.Constant .none j pos') (yDd ta):=by
 intro pins s σ H Q I h;refine thn (ha pins s σ H _ I h) λv s1 ⟨x,H1,I1,r1,q1⟩=>?_;exact Constant_none (is_none_gen {.bl _,H1,I1,by rw[r1.none_iff];rfl,q1})
theorem zIv{j pos'}(ha:PE X a ta):PC X .IsNot a (.Constant .none j pos') (zWg ta):=by
 intro pins s σ H Q I h;refine thn (ha pins s σ H _ I h) λv s1 ⟨x,H1,I1,r1,q1⟩=>?_;exact Constant_none (isnot_none_gen {.bl _,H1,I1,by rw[r1.none_iff];rfl,q1})
def tB(t:TE):TT:=λσ H Q=>t σ H λx H1=>∃c,x= .bl c/\Q c H1
theorem zIr{op:CmpOp}{t:TE}(h:PC X op a b t)(h1:behindInMarks op b=false:=by first | exact zLh _ ∎ ∎| rfl):PE X (.Compare a [op] [b] pos) t:=λpins s σ H Q I hw=>wpAny_Compare1 (h pins s σ H Q I hw) h1
theorem uD{op:CmpOp}{t:TE}(h:PC X op a b t)(h1:behindInMarks op b=false:=by first | exact zLh _ ∎ ∎| rfl):PT X (.Compare a [op] [b] pos) (tB t):=by
 intro pins s σ H Q I hw;refine wpAny_isTrue_Compare1 (thn (h pins s σ H _ I hw) λv s1 h1=>thn h1 λu s2 h2=>thn h2 λc s3 ⟨x,H1,I1,r1,q1⟩=>?_) h1;obtain⟨d,rfl,q⟩:=q1;cases r1;exact pZ ⟨H1,I1,q⟩
theorem yB{e:Expr}{t:TE}(h:PE X e t)(he:∀whole,isTrue e X.env whole=(do let v <-whole;standAt e.pos;holding [v] (truthy v)):=by intro _;rfl):PT X e (tB t):=by
 intro pins s σ H Q I hw;refine isTrue_plain (thn (h pins s σ H _ I hw) λv s1 ⟨x,H1,I1,r1,q1⟩=>?_) (he _);obtain⟨d,rfl,q⟩:=q1;cases r1;exact pZ ⟨H1,I1,q⟩
variable{tA tB':TT}{uN:List Expr}
def yFb(t u:TT):TT:=λσ H Q=>t σ H λc H1=>if c=true then u σ H1 Q else Q false H1
def tOr(t u:TT):TT:=λσ H Q=>t σ H λc H1=>if c=true then Q true H1 else u σ H1 Q
def yBz(t:TT):TT:=λσ H Q=>t σ H λc H1=>Q (!c) H1
theorem wW(ha:PT X a tA):PW X (.BoolOp .And [a] pos) tA:=by
 intro wh pins s σ H Q I h;refine isTrue_and (thn (ha pins s σ H Q I h) λc s1 e=>?_)
 cases c with
 | true=>exact isTrue_and_nil e
 | false=>exact e
theorem jG(ha:PT X a tA):PW X (.BoolOp .Or [a] pos) tA:=by
 intro wh pins s σ H Q I h;refine isTrue_or (thn (ha pins s σ H Q I h) λc s1 e=>?_)
 cases c with
 | false=>exact isTrue_or_nil e
 | true=>exact e
theorem wE(ha:PT X a tA)(hb:PW X (.BoolOp .And (b::uN) pos) tB'):PW X (.BoolOp .And (a::b::uN) pos) (yFb tA tB'):=by
 intro wh pins s σ H Q I h;refine isTrue_and (thn (ha pins s σ H _ I h) λc s1 ⟨H1,I1,q1⟩=>?_)
 cases c with
 | true=>exact hb wh pins s1 σ H1 Q I1 q1
 | false=>exact⟨H1,I1,q1⟩
theorem qM(ha:PT X a tA)(hb:PW X (.BoolOp .Or (b::uN) pos) tB'):PW X (.BoolOp .Or (a::b::uN) pos) (tOr tA tB'):=by
 intro wh pins s σ H Q I h;refine isTrue_or (thn (ha pins s σ H _ I h) λc s1 ⟨H1,I1,q1⟩=>?_)
 cases c with
 | true=>exact⟨H1,I1,q1⟩
 | false=>exact hb wh pins s1 σ H1 Q I1 q1
theorem xR(ha:PT X a tA):PT X (.UnaryOp .Not a pos) (yBz tA):=by
 intro pins s σ H Q I h;exact isTrue_not (ha pins s σ H (λc H1=>Q (!c) H1) I h)
def zPc(ta tb:TE):TE:=λσ H Q=>ta σ H λx H1=>∃c,x= .bl c/\if c=true then tb σ H1 Q else Q (.bl false) H1
def yCr(ta tb:TE):TE:=λσ H Q=>ta σ H λx H1=>∃c,x= .bl c/\if c=true then Q (.bl true) H1 else tb σ H1 Q
def zTb(ta:TE):TE:=λσ H Q=>ta σ H λx H1=>∃c,x= .bl c/\Q (.bl (!c)) H1
theorem vU{op}{t:TE}(h:PE X a t):PE X (.BoolOp op [a] pos) t:=λpins s σ H Q I hw=>BoolOp_one (h pins s σ H Q I hw)
theorem vO(ha:PE X a ta)(hb:PE X (.BoolOp .And (b::uN) pos) tb):PE X (.BoolOp .And (a::b::uN) pos) (zPc ta tb):=by
 intro pins s σ H Q I h;refine BoolOp_and (thn (ha pins s σ H _ I h) λv s1 ⟨x,H1,I1,r1,q1⟩=>?_);obtain⟨c,rfl,q1⟩:=q1;cases r1;refine pZ ?_
 cases c with
 | true=>exact hb pins s1 σ H1 Q I1 q1
 | false=>exact{.bl false,H1,I1,O,q1}
theorem yBo(ha:PE X a ta)(hb:PE X (.BoolOp .Or (b::uN) pos) tb):PE X (.BoolOp .Or (a::b::uN) pos) (yCr ta tb):=by
 intro pins s σ H Q I h;refine BoolOp_or (thn (ha pins s σ H _ I h) λv s1 ⟨x,H1,I1,r1,q1⟩=>?_);obtain⟨c,rfl,q1⟩:=q1;cases r1;refine pZ ?_
 cases c with
 | false=>exact hb pins s1 σ H1 Q I1 q1
 | true=>exact{.bl true,H1,I1,O,q1}
theorem yEa(ha:PE X a ta):PE X (.UnaryOp .Not a pos) (zTb ta):=by
 intro pins s σ H Q I h;refine UnaryOp_ (thn (ha pins s σ H _ I h) λv s1 ⟨x,H1,I1,r1,q1⟩=>?_);obtain⟨c,rfl,q1⟩:=q1;cases r1;exact not_of (pZ {.bl (!c),H1,I1,O,q1})
def tIf(t:TT)(ta tb:TE):TE:=λσ H Q=>t σ H λc H1=>if c=true then ta σ H1 Q else tb σ H1 Q
theorem zMq{c:Expr}(hc:PT X c tA)(ha:PE X a ta)(hb:PE X b tb):PE X (.IfExp c a b pos) (tIf tA ta tb):=by
 intro pins s σ H Q I h;refine wpAny_IfExp (thn (hc pins s σ H _ I h) λd s1 ⟨H1,I1,q1⟩=>?_)
 cases d with
 | true=>exact ha pins s1 σ H1 Q I1 q1
 | false=>exact hb pins s1 σ H1 Q I1 q1
end
def SqL(K:A7)(H:Hp)(a:V1)(xs:List V):Prop:=
 Rd H a (.lst xs)\/
  ∃(o:Obj)(its:Array V0)(n:Nat),K.lookup a=Y o/\o.cls= .type "list"/\o.dict=none/\o.data= .seq its n/\its.size<=V9/\Vals xs its.toList
def SqT(K:A7)(H:Hp)(a:V1)(xs:List V):Prop:=
 Rd H a (.tup xs)\/
  ∃(o:Obj)(its:Array V0)(n:Nat),K.lookup a=Y o/\o.cls= .type "tuple"/\o.data= .seq its n/\its.size<=V9/\Vals xs its.toList
def absV:V0->Option V
 | .none=>some .non
 | .bool b=>Y (.bl b)
 | .int i _=>Y (.int i)
 | .str x _=>Y (.str x)
 | .bytes b _=>Y (.byt b)
 | .float b _=>Y (.flt b)
 | .ref a=>Y (.ref a)
 | .type n=>Y (.ty n)
 | _=>none
theorem RelV.abs{x:V}{u:V0}(r:RelV x u):absV u=Y x:=by
 cases x with
 | non=>cases r;rfl
 | bl _=>cases r;rfl
 | int _=>obtain⟨t,rfl⟩:=r;rfl
 | str _=>obtain⟨t,rfl⟩:=r;rfl
 | byt _=>obtain⟨t,rfl⟩:=r;rfl
 | flt _=>obtain⟨t,rfl⟩:=r;rfl
 | ref _=>cases r;rfl
 | ty _=>cases r;rfl
theorem RelV.inj{x y:V}{u:V0}(r:RelV x u)(q:RelV y u):x=y:=mM (r.abs.symm.trans q.abs)
theorem Vals.inj:∀{xs ys:List V}{us:List V0},Vals xs us->Vals ys us->xs=ys
 | _,_,_, .nil, .nil=>rfl
 | _,_,_, .cons r t, .cons r' t'=>by rw[r.inj r',Vals.inj t t']
section
variable{X:Cx}{pins:List (V1×Obj)}{σ:St}{H:Hp}{s:V2}{a:V1}{xs ys:List V}
theorem SqL.of{K:A7}(h:H a=Y (.lst xs)):SqL K H a xs:=.inl (.inl h)
theorem SqT.of{K:A7}(h:H a=Y (.tup xs)):SqT K H a xs:=.inl (.inl h)
theorem Inv.list(I:Inv X pins σ H s)(h:SqL X.K H a xs):∃its:List V0,Vals xs its/\PlainL s.heap a its.toArray/\xs...*<=V9:=by
 rcases h with h |⟨o,its,n,hk,hc,hd,hs,hz,r⟩
 ·obtain⟨z,its,n,r,e⟩:=h.ok I.hok
  exact{its,r,⟨_,n,e,O,O,O⟩,z}
 ·refine{its.toList,r,⟨o,n,I.kIn a o hk,hc,hd,by simpa using hs⟩, ?_}
  let e:=r...*;simp only[tJ] at e
  lia
theorem Inv.tuple(I:Inv X pins σ H s)(h:SqT X.K H a xs):∃its:List V0,Vals xs its/\IsTup s.heap a its.toArray/\xs...*<=V9:=by
 rcases h with h |⟨o,its,n,hk,hc,hs,hz,r⟩
 ·obtain⟨z,its,r,p⟩:=h.ok I.hok
  exact⟨its,r,p,z⟩
 ·refine{its.toList,r,⟨o,I.kIn a o hk,hc,n,by simpa using hs⟩, ?_}
  let e:=r...*;simp only[tJ] at e
  lia
theorem Inv.list_inj(I:Inv X pins σ H s)(h:SqL X.K H a xs)(h':SqL X.K H a ys):xs=ys:=by
 obtain⟨its,r,⟨o,n,e,_,_,d⟩,_⟩:=I.list h;obtain⟨its',r',⟨o',n',e',_,_,d'⟩,_⟩:=I.list h';rw[e] at e';cases e';rw[d] at d';injection d' with d1 _;let:its=its':=by simpa using congrArg Array.toList d1
 subst this;exact r.inj r'
end
abbrev Cx.wish(X:Cx)(E:V0->V2->Prop):Cx:={X with xe:=E}
abbrev Cx.nox(X:Cx):Cx:=X.wish λ_ _=>False
theorem Cx.Ok.wish{X:Cx}(ok:X.Ok)(E:V0->V2->Prop):(X.wish E).Ok:=
 ⟨ok.mod,ok.kind,ok.glob,ok.blt,ok.above,ok.inj,ok.has,ok.cab,ok.hd,ok.frames,ok.stk,ok.exf,ok.bs,ok.bsz,ok.noex,ok.exfs,ok.funs,ok.frf⟩
theorem Cx.Ok.unwish{X:Cx}{E:V0->V2->Prop}(ok:(X.wish E).Ok):X.Ok:=
 ⟨ok.mod,ok.kind,ok.glob,ok.blt,ok.above,ok.inj,ok.has,ok.cab,ok.hd,ok.frames,ok.stk,ok.exf,ok.bs,ok.bsz,ok.noex,ok.exfs,ok.funs,ok.frf⟩
section
variable{X:Cx}{pins:List (V1×Obj)}{σ:St}{H:Hp}{s:V2}{E:V0->V2->Prop}
theorem Inv.wish(I:Inv X pins σ H s)(E:V0->V2->Prop):Inv (X.wish E) pins σ H s:={I.ok.wish E,I.os,I.bare,I.base,I.loc,I.cell,I.free,I.freeC,I.pin,I.hok,I.len}
theorem Inv.unwish(I:Inv (X.wish E) pins σ H s):Inv X pins σ H s:=⟨I.ok.unwish,I.os,I.bare,I.base,I.loc,I.cell,I.free,I.freeC,I.pin,I.hok,I.len⟩
theorem SP.unwish{D:uW}{f:Flow}{s':V2}(h:SP (X.wish E) pins D f s'):SP X pins D f s':=by
 cases f with
 | next=>obtain⟨σ',H',I,q⟩:=h;exact⟨σ',H',I.unwish,q⟩
 | brk=>obtain⟨σ',H',I,q⟩:=h;exact⟨σ',H',I.unwish,q⟩
 | cont=>obtain⟨σ',H',I,q⟩:=h;exact⟨σ',H',I.unwish,q⟩
 | ret u=>obtain⟨v,σ',H',I,r,q⟩:=h;exact⟨v,σ',H',I.unwish,r,q⟩
theorem PSs.nox{st:List V6}{t:TS}(h:PSs X.nox st t):PSs X st t:=λpins s σ H D I hw=>
 rX (h pins s σ H D (I.wish _) hw) (λ_ _ q=>q.unwish) λ_ _ z=>False.elim z
end
section
variable{X:Cx}{st:V6}{uN:List V6}{t u:TS}{e:Expr}{te:TE}{pos:Pos}
def zTi:TS:=λD σ H=>D.nx σ H
def qR(t u:TS):TS:=λD σ H=>t {D with nx:=u D} σ H
theorem zL:PSs X [] zTi:=λ_ _ σ H _ I h=>aQ ⟨σ,H,I,h⟩
theorem zE(h1:PS X st t)(h2:PSs X uN u):PSs X (st::uN) (qR t u):=by
 intro pins s σ H D I h;refine wpAny_execs_cons (thn (h1 pins s σ H {D with nx:=u D} I h) λf s1 q=>?_)
 cases f with
 | next=>
  ext wA q σ' H' I' q;exact h2 pins s1 σ' H' D I' q
 | ret v=>exact q
 | brk=>exact q
 | cont=>exact q
theorem zG(h1:PS X st t):PSs X [st] t:=by
 intro pins s σ H D I h;refine wpAny_execs_cons (thn (h1 pins s σ H D I h) λf s1 q=>?_)
 cases f with
 | next=>exact aQ q
 | ret v=>exact q
 | brk=>exact q
 | cont=>exact q
theorem Inv.quiet{pins:List (V1×Obj)}{σ:St}{H:Hp}{s:V2}(I:Inv X pins σ H s):interactive X.env=false:=by simp[interactive,I.ok.kind]
def zUs(te:TE):TS:=λD σ H=>te σ H λ_ H1=>D.nx σ H1
theorem wC(he:PE X e te)(hs:S1 e none pos.line X.env=pure false:=by rfl):PS X (.Expr e pos) (zUs te):=by
 intro pins s σ H D I h;exact wpAny_Expr_any (thn (he pins s σ H _ I h) λv s1 ⟨x,H1,I1,r1,q1⟩=>⟨σ,H1,I1,q1⟩) I.quiet hs
def yFa(te:TE):TS:=λD σ H=>te σ H D.rt
theorem zK(he:PE X e te):PS X (.Return ↥e pos) (yFa te):=by
 intro pins s σ H D I h;exact wpAny_Return_some (thn (he pins s σ H _ I h) λv s1 ⟨x,H1,I1,r1,q1⟩=>⟨x,σ,H1,I1,r1,q1⟩)
def yBk:TS:=λD _ H=>D.rt .non H
def yBx(c:TT)(t u:TS):TS:=λD σ H=>c σ H λb H1=>if b=true then t D σ H1 else u D σ H1
theorem zS{c:Expr}{a b:List V6}{tc:TT}(hc:PT X c tc)(ha:PSs X a t)(hb:PSs X b u):PS X (.If c a b pos) (yBx tc t u):=by
 intro pins s σ H D I h;refine wpAny_If (thn (hc pins s σ H _ I h) λd s1 ⟨H1,I1,q1⟩=>?_)
 cases d with
 | true=>exact ha pins s1 σ H1 D I1 q1
 | false=>exact hb pins s1 σ H1 D I1 q1
def zJq:TS:=λ_ _ _=>False
theorem zHq{sts:List V6}:PSs X sts zJq:=λ_ _ _ _ _ _ h=>h.elim
end
abbrev TG:=V->St->Hp->(St->Hp->Prop)->Prop
abbrev TGs:=List V->St->Hp->(St->Hp->Prop)->Prop
def PG(X:Cx)(target:Expr)(t:TG):Prop:=
 ∀(pins:List (V1×Obj))(s:V2)(σ:St)(H:Hp)(v:V)(u:V0)(Q:St->Hp->Prop),Inv X pins σ H s->RelV v u->t v σ H Q->
  V8 (S6 X.prog X.w) X.A (assign target X.env u) (λ_ s'=>∃σ' H',Inv X pins σ' H' s'/\Q σ' H') X.xe s
def PGs(X:Cx)(ts:List Expr)(t:TGs):Prop:=
 ∀(pins:List (V1×Obj))(s:V2)(σ:St)(H:Hp)(vs:List V)(us:List V0)(Q:St->Hp->Prop),Inv X pins σ H s->Vals vs us->t vs σ H Q->
  V8 (S6 X.prog X.w) X.A (assignInOrder ((S7 ts X.env).map (·.2)) us) (λ_ s'=>∃σ' H',Inv X pins σ' H' s'/\Q σ' H') X.xe s
abbrev yBu:=V->V->V->Hp->(Hp->Prop)->Prop
def PSet(X:Cx)(t:yBu):Prop:=
 ∀(pins:List (V1×Obj))(s:V2)(σ:St)(H:Hp)(o i v:V)(ov iv u:V0)(Q:Hp->Prop),Inv X pins σ H s->RelV o ov->RelV i iv->RelV v u->t o i v H Q->
  V8 (S6 X.prog X.w) X.A (setItem ov iv u) (λ_ s'=>∃H',Inv X pins σ H' s'/\Q H') X.xe s
abbrev TIp:=V->V->Hp->VK->Prop
def PIp(X:Cx)(op:Operator)(t:TIp):Prop:=
 ∀(pins:List (V1×Obj))(s:V2)(σ:St)(H:Hp)(x y:V)(v u:V0)(Q:VK),Inv X pins σ H s->RelV x v->RelV y u->t x y H Q->
  V8 (S6 X.prog X.w) X.A (inplaceOp op v u) (EP X pins σ Q) X.xe s
section
variable{X:Cx}{pos:Pos}
def jQ(i:Nat):TG:=λv σ H Q=>Q (σ.set i ↥v) H
theorem yF{i:Nat}{x:Str}(hN:X.N.Nodup)(hi:X.N[i]? =Y x)(hx:Loc X.env.scope x)(hf:X.fn x=true\/X.env.scope.names.lookup x=some .local:=by first | exact .inl O | exact .inr O | assumption):PG X (.Name x pos) (jQ i):=by
 intro pins s σ H v u Q I r h;exact wpAny_assign_Name (zGc I hN hi hx r (λs' I'=>⟨_,H,I',h⟩) hf)
def zYv:TGs:=λvs σ H Q=>vs= []/\Q σ H
def zMh(t:TG)(u:TGs):TGs:=λvs σ H Q=>∃v r,vs=v::r/\t v σ H λσ' H'=>u r σ' H' Q
theorem zEp:PGs X [] zYv:=by
 intro pins s σ H vs us Q I r h;obtain⟨e,h⟩:=h;subst e;cases r;exact assignInOrder_nil ⟨σ,H,I,h⟩
theorem jO{e:Expr}{es:List Expr}{t:TG}{u:TGs}(h1:PG X e t)(h2:PGs X es u)
  (hs:(S7 (e::es) X.env).map (·.2)=assign e X.env::(S7 es X.env).map (·.2):=by rfl):PGs X (e::es) (zMh t u):=by
 intro pins s σ H vs us Q I r h;ext wA h v vr e1 h;subst e1
 cases r with
 | cons r rr=>
  rw[hs];refine assignInOrder_cons (thn (h1 pins s σ H _ _ _ I r h) λ_ s1 ⟨σ1,H1,I1,q1⟩=>?_);exact h2 pins s1 σ1 H1 _ _ Q I1 rr q1
def zWl(K:A7)(n:Nat)(t:TGs):TG:=λv σ H Q=>∃a xs,v= .ref a/\SqT K H a xs/\xs...*=n/\t xs σ H Q
theorem zNe{es:List Expr}{k:Nat}{t:TGs}{n:Nat}(hc:X.calm=true)(h:PGs X es t)
  (hn:(S7 es X.env)...*=n:=by rfl) (hst:(S7 es X.env).findIdx? (·.1)=none:=by rfl):PG X (.Tuple es k pos) (zWl X.K n t):=by
 intro pins s σ H v u Q I r hw;ext yA hw a xs e1 hq hl hw;subst e1;cases r;refine xD (I.tuple hq) λits rv ht hz=>?_;refine assign_Tuple_tuple (I.ok.hd hc) ht (by simp[hn,<-hl,rv...*]) hst λh' hx=>?_;let I1:Inv X pins σ H {s with heap:=h'}:=I.kept (t':=s.toks) λb o e=>hx b o (nX (nD e)) e;exact h pins _ σ H xs _ Q I1 (by simpa using rv) hw
def gSub(to ti:TE)(t:yBu):TG:=λv σ H Q=>to σ H λo H1=>ti σ H1 λi H2=>t o i v H2 λH3=>Q σ H3
theorem yCs{o i:Expr}{to ti:TE}{t:yBu}(ho:PE X o to)(hi:PE X i ti)(hs:PSet X t)
  (ha:∀v,assign (.Subscript o i pos) X.env v=(do
   let ov <-holding [v] (eval o X.env);let iv <-holding [v,ov] (eval i X.env)
   standAt pos
   holding [v,ov,iv] (setItem ov iv v)
   release [v,ov,iv] []):=by intro _;rfl):PG X (.Subscript o i pos) (gSub to ti t):=by
 intro pins s σ H v u Q I r h;rw[ha];refine mS (sE (thn (ho pins s σ H _ I h) λov s1 ⟨x,H1,I1,r1,q1⟩=>?_));refine mS (sE (thn (hi pins s1 σ H1 _ I1 q1) λiv s2 ⟨y,H2,I2,r2,q2⟩=>?_));refine mS (wpAny_standAt (mS (sE (thn (hs pins s2 σ H2 x y v ov iv u _ I2 r1 r2 r q2) λ_ s3 ⟨H3,I3,q3⟩=>?_))));exact wpAny_release ⟨σ,H3,I3,q3⟩
def zRu(te:TE)(g:TG):TS:=λD σ H=>te σ H λx H1=>g x σ H1 D.nx
theorem yCb{tg e:Expr}{te:TE}{g:TG}(he:PE X e te)(hg:PG X tg g)(hs:swapsWithSole [tg] e pos.line X.env=pure false:=by rfl)(hw:swappedStores [tg] e X.env=pure none:=by rfl)
  (h1:(S7 [tg] X.env).map (·.2)= [assign tg X.env]:=by rfl):PS X (.Assign [tg] e pos) (zRu te g):=by
 intro pins s σ H D I h;refine wpAny_Assign_stores (thn (he pins s σ H _ I h) λv s1 ⟨x,H1,I1,r1,q1⟩=>?_) hs hw;rw[h1];exact thn (hg pins s1 σ H1 x v _ I1 r1 q1) λ_ s2 q=>q
theorem zGk{i:Nat}{x:Str}{e:Expr}{te:TE}{pos':Pos}(hN:X.N.Nodup)(hi:X.N[i]? =Y x)(hx:Loc X.env.scope x)(he:PE X e te)(hs:S1 e ↥(.Name x pos') pos.line X.env=pure false:=by rfl)(hf:X.fn x=true\/X.env.scope.names.lookup x=some .local:=by first | exact .inl O | exact .inr O | assumption):
  PS X (.Assign [.Name x pos'] e pos) (zRu te (jQ i)):=by
 intro pins s σ H D I h;refine wpAny_Assign_Name (thn (he pins s σ H _ I h) λv s1 ⟨y,H1,I1,r1,q1⟩=>?_) hs;exact zGc I1 hN hi hx r1 (λs2 I2=>⟨_,H1,I2,q1⟩) hf
def yDt(i:Nat)(te:TE)(ti:TIp):TS:=λD σ H=>∃x,σ[i]? =Y ↥x/\te σ H λy H1=>ti x y H1 λz H2=>D.nx (σ.set i ↥z) H2
theorem zNz{i:Nat}{x:Str}{e:Expr}{te:TE}{op:Operator}{ti:TIp}{pos':Pos}(hN:X.N.Nodup)(hi:X.N[i]? =Y x)(hx:Loc X.env.scope x)(he:PE X e te)(ho:PIp X op ti)(hf:X.fn x=true\/X.env.scope.names.lookup x=some .local:=by first | exact .inl O | exact .inr O | assumption):
  PS X (.AugAssign (.Name x pos') op e pos) (yDt i te ti):=by
 intro pins s σ H D I h;obtain⟨v,e1,h⟩:=h;obtain⟨m,hn,hl⟩:=I.loc;let vis:Vis X.env.scope x:=by rcases hx with k | k;exact .inl k;exact .inr (.inl k)
 obtain⟨u,r,l⟩:=hl i x v hi e1 vis;refine wpAny_AugAssign_Name ?_;let go:V8 (S6 X.prog X.w) X.A (eval e X.env) (λw s₂=>V8 (S6 X.prog X.w) X.A (inplaceOp op u w) (λr s₃=>V8 (S6 X.prog X.w) X.A (storeName X.env x r) (λ_=>SP X pins D .next) X.xe s₃) X.xe s₂) X.xe s:=by
  refine thn (he pins s σ H _ I h) λw s1 ⟨y,H1,I1,r1,q1⟩=>?_;refine thn (ho pins s1 σ H1 v y u w _ I1 r r1 q1) λz s2 ⟨zv,H2,I2,r2,q2⟩=>?_;exact zGc I2 hN hi hx r2 (λs3 I3=>⟨_,H2,I3,q2⟩) hf
 rcases l with⟨hk,hm⟩|⟨hk,c,hc,hcell⟩
 ·exact wpAny_loadName_local I.ok.kind hk hn hm go
 ·rcases hk with hk | hk
  ·exact wpAny_loadName_cell I.ok.kind hk hc hcell go
  ·rcases hx with k | k
   ·let:X.env.scope.names.lookup x=some .free:=hk
    rw[k] at this;cases this
   ·let:X.env.scope.names.lookup x=some .free:=hk
    rw[k] at this;cases this
def ipI(f:Int->Int->Int):TIp:=λx y H Q=>∃i j,x= .int i/\y= .int j/\Q (.int (f i j)) H
theorem zMu:PIp X .Add (ipI λi j=>i+j):=by
 intro pins s σ H x y v u Q I r1 r2 h;ext yN h i j e1 e2 q;subst e1;subst e2;obtain⟨t,rfl⟩:=r1;obtain⟨t',rfl⟩:=r2;exact iadd_int {.int _,H,I.tok _,⟨_,O⟩,q}
def yCg(c:TT)(tb:TS):TS:=λD σ H=>∃W:Nat->St->Hp->Prop,(∃m,W m σ H)/\∀m σ H,W m σ H->
 c σ H λb H1=>if b=true then∃N:St->Hp->Prop,(∀σ' H',N σ' H'->∃m',m'<m/\W m' σ' H')/\tb {D with nx:=N,ct:=N,bk:=D.nx} σ H1 else D.nx σ H1
theorem zSr{c:Expr}{body:List V6}{tc:TT}{tb:TS}(hp:PassesOwn (S6 X.prog X.w) X.A X.env X.xe)(hc:PT X c tc)(hb:PSs X body tb):PS X (.While c body [] pos) (yCg tc tb):=by
 intro pins s σ H D I h;obtain⟨W,⟨m0,w0⟩,turn⟩:=h;refine wpAny_While (codeAny_whileLoop (λn s'=>∃σ' H',Inv X pins σ' H' s'/\W n σ' H') ?_ m0 ⟨σ,H,I,w0⟩);intro n s1 z_;ext wA z_ σ1 H1 I1 w1;refine sY hp (thn (hc pins s1 σ1 H1 _ I1 (turn n σ1 H1 w1)) λb s2 ⟨H2,I2,q2⟩=>?_)
 cases b with
 | true=>
  obtain⟨N,hN,q2⟩:=q2;rw[mO O];refine sY hp (thn (hb pins s2 σ1 H2 _ I2 q2) λf s3 q3=>?_)
  cases f with
  | next=>
   ext wA q3 σ3 H3 I3 n3;obtain⟨m',hm,w3⟩:=hN σ3 H3 n3;exact⟨m',hm,σ3,H3,I3,w3⟩
  | cont=>
   ext wA q3 σ3 H3 I3 n3;obtain⟨m',hm,w3⟩:=hN σ3 H3 n3;exact⟨m',hm,σ3,H3,I3,w3⟩
  | brk=>exact q3
  | ret v=>exact q3
 | false=>
  rw[mL nM];exact aQ ⟨σ1,H2,I2,q2⟩
end
structure It where
 go:Nat->Hp->Prop
 yld:Nat->Hp->V->Hp->Prop
 stop:Nat->Hp->Prop
def zEc(X:Cx)(pins:List (V1×Obj))(H:Hp)(b:V1):Prop:=
 H b=none/\b≠X.env.locals/\b∉X.fs/\(b∈X.ex\/X.s₀⁻¹<=b)/\(∀x c,X.env.cells.lookup x=Y c->c≠b)/\∀p∈X.pn++pins,p.1≠b
theorem Inv.fpOk{X:Cx}{pins:List (V1×Obj)}{σ:St}{H H':Hp}{s:V2}{b:V1}(I:Inv X pins σ H s)(hb:s⁻¹<=b)(hn:H' b=none):zEc X pins H' b:=by
 refine{hn,rJ (nR I.lt hb),I.nofs hb, .inr (nS I.sz hb),λx c e z=>?_,λp hp z=>?_}
 ·obtain⟨v,q⟩:=I.cell x c e
  exact absurd (nR q.lt (by rw[z];exact hb)) (sJ _)
 ·exact absurd (nR (nD (I.pin p hp).1) (by rw[z];exact hb)) (sJ _)
structure zGy(P:V3)(w:V4)(K:A7)(tg:Expr)(J:It)(fp:List V1)(it:V1)(tn:Nat->V5->Prop):Prop where
 mem:it∈fp
 obj:∀i h,tn i h->∀b∈fp,∃o,h.get? b=Y o/\∀v,o.data≠ .cell v
 keep:∀i h h',tn i h->(∀b∈fp,∀o,h.get? b=Y o->h'.get? b=Y o)->tn i h'
 item:∀(X:Cx),X.prog=P->X.w=w->X.K=K->X.calm=true->∀(i:Nat)(pins:List (V1×Obj))(s:V2)(σ:St)(H:Hp)(E:V0->V2->Prop),Inv X pins σ H s->(∀b∈fp,zEc X pins H b)->tn i s.heap->J.go i H->
  V8 (S6 P w) X.A (pyNext (.ref it)) (λr s1=>∃u,r=Y u/\
   V8 (S6 P w) X.A (letOwnedTupleGo tg (.ref it) u) (λ_ s2=>∃x H',Inv X pins σ H' s2/\RelV x u/\J.yld i H x H'/\tn (i+1) s2.heap/\∀b∈fp,H' b=none) E s1) E s
 done:∀(X:Cx),X.prog=P->X.w=w->X.K=K->X.calm=true->∀(i:Nat)(pins:List (V1×Obj))(s:V2)(σ:St)(H:Hp)(E:V0->V2->Prop),Inv X pins σ H s->(∀b∈fp,zEc X pins H b)->tn i s.heap->J.stop i H->
  V8 (S6 P w) X.A (pyNext (.ref it)) (λr s1=>r=none/\Inv X pins σ H s1) E s
 self:∀(A:Around)(i:Nat)(s:V2)(Q:V0->V2->Prop)(E:V0->V2->Prop),tn i s.heap->Q (.ref it) s->V8 (S6 P w) A (pyIter (.ref it)) Q E s
abbrev TI:=St->Hp->(It->Hp->Prop)->Prop
def PIE(X:Cx)(pins:List (V1×Obj))(σ:St)(tg:Expr)(R:It->Hp->Prop)(itv:V0)(s2:V2):Prop:=
 ∃(it:V1)(fp:List V1)(tn:Nat->V5->Prop)(J:It)(H':Hp),itv= .ref it/\Inv X pins σ H' s2/\zGy X.prog X.w X.K tg J fp it tn/\tn 0 s2.heap/\(∀b∈fp,zEc X pins H' b)/\R J H'
def PI(X:Cx)(tg iter:Expr)(wi:TI):Prop:=
 ∀(pins:List (V1×Obj))(s:V2)(σ:St)(H:Hp)(R:It->Hp->Prop),Inv X pins σ H s->wi σ H R->
  V8 (S6 X.prog X.w) X.A (eval iter X.env) (λv s1=>V8 (S6 X.prog X.w) X.A (pyIter v) (PIE X pins σ tg R) X.xe s1) X.xe s
theorem zMi{M:Model}{A:Around}{E:V0->V2->Prop}{s:V2}{tg:Expr}{it:V1}{u:V0}{o:Obj}{n:String}{vs:Array V0}{Q:Unit->V2->Prop}(ho:s.heap.get? it=Y o)(hc:o.cls= .type n)(hd:o.data= .fields vs)
    (hn: ["enumerate","zip","dict_itemiterator","dict_reverseitemiterator","odict_iterator","itertools.zip_longest","itertools.pairwise"].contains n=false) (hQ:Q () s):V8 M A (letOwnedTupleGo tg (.ref it) u) Q E s:=by
  unfold letOwnedTupleGo;cases tg<;>first
    | exact nO hQ
    |(cases u<;>first
        | exact nO hQ
        | (refine mS (wpAny_load ho ?_)
           rw[hc,hd];show V8 M A (if(["enumerate","zip","dict_itemiterator","dict_reverseitemiterator","odict_iterator","itertools.zip_longest","itertools.pairwise"].contains n && vs[0]? ==Y (rawInt _))=true then _ else _) Q E s;rw[mL (by intro h;rw[hn,aZ] at h;cases h)];exact nO hQ))
def Itl(K:A7)(a:V1):It:=
 {λi H=>∃xs x,SqL K H a xs/\xs[i]? =Y x,λi H x H'=>H'=H/\∀xs,SqL K H a xs->xs[i]? =Y x,λi H=>∃xs,SqL K H a xs/\xs...*<=i}
def Itr(lo:Int)(n:Nat):It:={λi _=>i<n,λi H x H'=>H'=H/\x= .int (lo+i),λi _=>n<=i}
theorem zRe{P:V3}{w:V4}{K:A7}{tg:Expr}(a it:V1):zGy P w K tg (Itl K a) [it] it (λi h=>h.IsListIter it a i) where
 mem:=by simp
 obj:=λi h st b hb=>by
  let e:b=it:=by simpa using hb
  subst e;ext xD st o e c d;exact⟨o,e,λv z=>by rw[d] at z;cases z⟩
 keep:=λi h h' st k=>st.at λo e=>k it (by simp) o e
 item:=by
  intro X hP hw hK hc i pins s σ H E I hf st hg;subst hP hw hK;ext wA hg xs x hq hx;refine xD (I.list hq) λits rv p hz=>?_;obtain⟨u,hu,ru⟩:=rv.get hx;refine yR (hf it (by simp)) λf0 f1 f2 f3 f4 f5=>?_;refine tY st p.isList (x:=u) (by simpa using hu) λh' st' sb=>?_;let I1:Inv X pins σ H {s with heap:=h'}:=I.turned (t':=s.toks) (λb o hb e=>(sb.2 b hb).trans e) f0 f1 f3 f4 f5;refine xD (id st') λo e c d=>?_;exact{u,O,zMi (s:={s with heap:=h'}) e c d ∎ {x,H,I1,ru,{O,λys hy=>by rw[I.list_inj hy hq];exact hx},st',λb hb=>(hf b hb).1}}
 done:=by
  intro X hP hw hK hc i pins s σ H E I hf st hg;subst hP hw hK;obtain⟨xs,hq,hx⟩:=hg;refine xD (I.list hq) λits rv p hz=>?_;refine yR (hf it (by simp)) λf0 f1 f2 f3 f4 f5=>?_;let hl:=rv...*;exact aB (I.ok.hd hc) st p.isList (by simp;lia) λh' eb=>{O,I.turned (t':=s.toks) (λb o hb e=>eb b o hb e) f0 f1 f3 f4 f5}
 self:=λ_ _ _ _ _ st h=>wpAny_pyIter_listiter st h
theorem zNb{P:V3}{w:V4}{K:PySem.W.Frag}{tg:Expr}(it:V1)(lo:Int)(n:Nat):zGy P w K tg (Itr lo n) [it] it (λi h=>IsRangeIter h it (lo+(i:Nat)*1) ((n:Int)- (i:Nat)) 1) where
 mem:=by simp
 obj:=λi h st b hb=>by
  let e:b=it:=by simpa using hb
  subst e;exact{_,st,λv z=>by
   let z':Data.fields _=Data.cell v:=z;cases z'}
 keep:=λi h h' st k=>k it (by simp) _ st
 item:=by
  intro X hP hw hK hc i pins s σ H E I hf st hg;subst hP hw hK;refine yR (hf it (by simp)) λf0 f1 f2 f3 f4 f5=>?_;let W:=Walks.range (prog:=X.prog) (w:=X.w) (I.ok.hd hc) it lo 1 n;refine W.item i s _ _ hg st λv h' tk hv st' kk=>?_;obtain⟨t,rfl⟩:=hv;let I1:Inv X pins σ H {s with heap:=h',toks:=tk}:=I.turned (λb o hb e=>kk b o (by simpa using hb) e) f0 f1 f3 f4 f5;refine{_,O,zMi (s:={s with heap:=h',toks:=tk}) (n:="range_iterator") st' O O ∎ {.int (lo+i),H,I1,{t, ?_},⟨O,O⟩,st',λb hb=>(hf b hb).1}};rw[Int.mul_one]
 done:=by
  intro X hP hw hK hc i pins s σ H E I hf st hg;subst hP hw hK;refine yR (hf it (by simp)) λf0 f1 f2 f3 f4 f5=>?_;exact wpAny_pyNext_range_end (I.ok.hd hc) st (by let:n<=i:=hg;lia) λh' eb=>{O,I.turned (t':=s.toks) (λb o hb e=>eb b o hb e) f0 f1 f3 f4 f5}
 self:=λ_ _ _ _ _ st h=>wpAny_pyIter_rangeiter st h
section
variable{X:Cx}{tg:Expr}
def zXf(K:A7)(tl:TE):TI:=λσ H R=>tl σ H λx H1=>∃a,x= .ref a/\(∃xs,SqL K H1 a xs)/\R (Itl K a) H1
theorem xN{l:Expr}{tl:TE}(hl:PE X l tl):PI X tg l (zXf X.K tl):=by
 intro pins s σ H R I h;refine thn (hl pins s σ H _ I h) λv s1 ⟨x,H1,I1,r1,q1⟩=>?_;obtain⟨a,e,⟨xs,hq⟩,q⟩:=q1;subst e;cases r1;refine xD (I1.list hq) λits rv p hz=>?_;refine bA p.isList ?_;refine⟨s1⁻¹,[s1⁻¹],_,_,H1,O,I1.kept (t':=s1.toks) λb o e=>mU _ e,zRe a _,⟨_,nP _ rfl,rfl,rfl⟩,λb hb=>?_,q⟩;let e:b=s1⁻¹:=by simpa using hb
 subst e;exact I1.fpOk (mB _) (I1.hok.fresh (mB _))
theorem zLc{pins:List (V1×Obj)}{σ:St}{H:Hp}{s:V2}{R:It->Hp->Prop}{E:V0->V2->Prop}{lo hi:Int}{t u v:Tok}{tk:Nat}(I:Inv X pins σ H s)(h1: -(2 ^ 62)<=lo)(h2:lo<2 ^ 62)(h3: -(2 ^ 62)<=hi)(h4:hi<2 ^ 62)
  (q:R (Itr lo (hi - lo).toNat) H):V8 (S6 X.prog X.w) X.A (pyIter (.ref s⁻¹)) (PIE X pins σ tg R) E {s with heap:=s.heap.push {cls:=.type "range",data:=.fields #[.int lo t, .int hi u, .int 1 v]},toks:=tk}:=by
 refine cC (IsRange.new ..) (small_one h1 h2 h3 h4) ?_;let I1:Inv X pins σ H {s with heap:=s.heap.push {cls:=.type "range",data:=.fields #[.int lo t, .int hi u, .int 1 v]},toks:=tk}:=I.kept λb o e=>mU _ e;refine⟨(s.heap.push {cls:=.type "range",data:=.fields #[.int lo t, .int hi u, .int 1 v]}).objs.size,[(s.heap.push {cls:=.type "range",data:=.fields #[.int lo t, .int hi u, .int 1 v]}).objs.size],_,_,H,rfl,
  I1.kept (t':=tk) λb o e=>mU _ e,zNb _ lo (hi - lo).toNat, ?_,λb hb=>?_,q⟩
 ·let e1:lo+((0:Nat):Int)*1=lo:=by simp
  let e2:(((hi - lo).toNat:Nat):Int)- ((0:Nat):Int)=S4 lo hi 1:=by rw[rangeSize_one];split<;>lia
  show IsRangeIter _ _ (lo+((0:Nat):Int)*1) ((((hi - lo).toNat:Nat):Int)- ((0:Nat):Int)) 1;rw[e1,e2];exact nP _ O
 ·let e:b=(s.heap.push {cls:=.type "range",data:=.fields #[.int lo t, .int hi u, .int 1 v]}).objs.size:=by simpa using hb
  subst e;exact I1.fpOk (mB _) (I1.hok.fresh (mB _))
def zXn(ta:TA):TI:=λσ H R=>ta σ H λvs H1=>∃j:Int,vs= [.int j]/\-(2 ^ 62)<=j/\j<2 ^ 62/\R (Itr 0 j.toNat) H1
def zVz(ta:TA):TI:=λσ H R=>ta σ H λvs H1=>∃i j:Int,vs= [.int i, .int j]/\(-(2 ^ 62)<=i/\i<2 ^ 62/\-(2 ^ 62)<=j/\j<2 ^ 62)/\R (Itr i (j - i).toNat) H1
theorem wJ{a:Expr}{ta:TA}{p pos:Pos}(hg:Gl X "range")(hm:X.mg "range" =none)(ha:PA X [a] ta)(hs:A3 [a] X.env= [(false,eval a X.env)]:=by rfl):PI X tg (.Call (.Name "range" p) [a] [] pos) (zXn ta):=by
 intro pins s σ H R I h;refine Call_ (gI I hg hm boot_range (rC (thn (ha pos pins s σ H _ I h) λus s1 ⟨vs,H1,I1,r1,q1⟩=>?_) hs O));ext jZ q1 j e q1 q2 q;subst e
 cases r1 with
 | cons r rr=>
  cases rr;obtain⟨t,rfl⟩:=r;exact call_range_1 (zLc I1 ∅ ∅ q1 q2 (by simpa using q))
theorem zIe{a b:Expr}{ta:TA}{p pos:Pos}(hg:Gl X "range")(hm:X.mg "range" =none)(ha:PA X [a,b] ta)(hs:A3 [a,b] X.env= [(false,eval a X.env),(false,eval b X.env)]:=by rfl)(hs2:A3 [b] X.env= [(false,eval b X.env)]:=by rfl):
  PI X tg (.Call (.Name "range" p) [a,b] [] pos) (zVz ta):=by
 intro pins s σ H R I h;refine Call_ (gI I hg hm boot_range (rC (thn (ha pos pins s σ H _ I h) λus s1 ⟨vs,H1,I1,r1,q1⟩=>?_) (by rw[hs,hs2]) (by rw[hs2];rfl)));obtain⟨i,j,e,⟨q1,q2,q3,q4⟩,q⟩:=q1;subst e
 cases r1 with
 | cons r rr=>
  cases rr with
  | cons r' rr=>
   cases rr;obtain⟨t,rfl⟩:=r;obtain⟨t',rfl⟩:=r';exact call_range_2 (zLc I1 q1 q2 q3 q4 q)
def tFor(wi:TI)(g:TG)(tb:TS):TS:=λD σ H=>wi σ H λJ H1=>∃W:Nat->Nat->St->Hp->Prop,(∃m,W 0 m σ H1)/\∀i m σ H,W i m σ H->
 (J.stop i H/\D.nx σ H)\/(J.go i H/\∃N:St->Hp->Prop,(∀σ' H',N σ' H'->∃m',m'<m/\W (i+1) m' σ' H')/\∀x H',J.yld i H x H'->g x σ H' λσ2 H2=>tb {D with nx:=N,ct:=N,bk:=D.nx} σ2 H2)
def zFv(fp:List V1)(h:V5):List (V1×Obj):=fp.filterMap λb=>(h.get? b).map λo=>(b,o)
theorem uG{fp:List V1}{h:V5}{b:V1}{o:Obj}(hb:b∈fp)(e:h.get? b=Y o):(b,o)∈zFv fp h:=List.mem_filterMap.mpr {b,hb,by rw[e];rfl}
theorem zRf{fp:List V1}{h:V5}{p:V1×Obj}(hp:p∈zFv fp h):p.1∈fp/\h.get? p.1=Y p.2:=by
 obtain⟨b,hb,e⟩:=List.mem_filterMap.mp hp
 cases q:h.get? b with
 | none=>rw[q] at e;cases e
 | some o=>
  rw[q] at e;let e':(b,o)=p:=mM e;subst e';exact⟨hb,q⟩
theorem Inv.pinned{pins:List (V1×Obj)}{σ:St}{H:Hp}{s:V2}{fp:List V1}(I:Inv X pins σ H s)(hf:∀b∈fp,zEc X pins H b)(ho:∀b∈fp,∃o,s.heap.get? b=Y o/\∀v,o.data≠ .cell v):Inv X (pins++zFv fp s.heap) σ H s:=
 I.pins_of λp hp=>(mX.mp hp).elim (λz=>I.pin p (nJ _ z)) λz=>by
  obtain⟨hb,e⟩:=zRf z;refine xI (hf p.1 hb) λf0 f1 f2 _=>?_;obtain⟨o,e',d⟩:=ho p.1 hb;rw[e] at e';cases e';exact⟨e,f0,f1,f2,d⟩
theorem Inv.unpinned{pins pl:List (V1×Obj)}{σ:St}{H:Hp}{s:V2}(I:Inv X (pins++pl) σ H s):Inv X pins σ H s:=I.pins_of λp hp=>I.pin p (nJ _ (nW _ hp))
theorem wU{iter:Expr}{body:List V6}{wi:TI}{g:TG}{tb:TS}{pos:Pos}(hp:PassesOwn (S6 X.prog X.w) X.A X.env X.xe)(hc:X.calm=true)(hi:PI X tg iter wi)(hg:PG X tg g)(hb:PSs X body tb)
  (hs:∀x,foldedSetIterable iter X.env x=pure x:=by intro _;rfl):PS X (.For tg iter body [] pos) (tFor wi g tb):=by
 intro pins s σ H D I h;refine wpAny_For (thn (hi pins s σ H _ I h) λv s1 h1=>thn h1 λitv s2 h2=>?_) hs;obtain⟨it,fp,tn,J,H2,e,I2,T,st2,f2,W,⟨m0,w0⟩,turn⟩:=h2;subst e
 -- what stays true of the iterator's objects through the loop
 let stat:∀{H':Hp},(∀b∈fp,H' b=none)->∀b∈fp,zEc X pins H' b:=λhn b hb=>{hn b hb,(f2 b hb).2};refine codeAny_forLoop_any (λn s'=>∃i σ' H',Inv X pins σ' H' s'/\tn i s'.heap/\(∀b∈fp,H' b=none)/\W i n σ' H') ?_ m0 {0,σ,H2,I2,st2,λb hb=>(f2 b hb).1,w0};intro n s3 z_;ext yC z_ i σ3 H3 I3 st3 z_;ext oA z_ fr3 w3;rcases turn i n σ3 H3 w3 with⟨stop,qn⟩|⟨go,N,hN,step⟩
 ·refine sY hp (thn (T.done X O O O hc i pins s3 σ3 H3 X.xe I3 (stat fr3) st3 stop) λr s4 ⟨hr,I4⟩=>?_)
  subst hr;exact aQ ⟨σ3,H3,I4,qn⟩
 ·refine sY hp (thn (T.item X O O O hc i pins s3 σ3 H3 X.xe I3 (stat fr3) st3 go) λr s4 ⟨u,hr,h4⟩=>?_)
  subst hr;refine sY hp (thn h4 λ_ s5 ⟨x,H5,I5,r5,y5,st5,fr5⟩=>?_);let I5':=I5.pinned (stat fr5) (T.obj _ _ st5);refine sY hp (thn (hg _ s5 σ3 H5 x u _ I5' r5 (step x H5 y5)) λ_ s6 ⟨σ6,H6,I6,q6⟩=>?_);refine sY hp (thn (hb _ s6 σ6 H6 _ I6 q6) λf s7 q7=>?_);let again:∀{σ7:St}{H7:Hp},Inv X (pins++zFv fp s5.heap) σ7 H7 s7->N σ7 H7->∃m,m<n/\∃i σ' H',Inv X pins σ' H' s7/\tn i s7.heap/\(∀b∈fp,H' b=none)/\W i m σ' H':=λ{σ7 H7} I7 n7=>by
   obtain⟨m',hm,w7⟩:=hN σ7 H7 n7;refine⟨m',hm,i+1,σ7,H7,I7.unpinned,T.keep _ _ _ st5 λb hb o e=>(I7.pin (b,o) (nJ _ (nJ _ (uG hb e)))).1,λb hb=>?_,w7⟩;obtain⟨o,e,d⟩:=T.obj _ _ st5 b hb;exact(I7.pin (b,o) (nJ _ (nJ _ (uG hb e)))).2.1
  cases f with
  | next=>obtain⟨σ7,H7,I7,n7⟩:=q7;exact again I7 n7
  | cont=>obtain⟨σ7,H7,I7,n7⟩:=q7;exact again I7 n7
  | brk=>obtain⟨σ7,H7,I7,q7⟩:=q7;exact⟨σ7,H7,I7.unpinned,q7⟩
  | ret v=>obtain⟨x7,σ7,H7,I7,r7,q7⟩:=q7;exact⟨x7,σ7,H7,I7.unpinned,r7,q7⟩
end
theorem zTd{K:PySem.W.Frag}{a:V1}{xs:List V}{g:TG}{tb:TS}{D:uW}{σ:St}{H:Hp}(Pv:Nat->St->Hp->Prop)(h0:Pv 0 σ H)(hl:∀i σ H,i<=xs...*->Pv i σ H->SqL K H a xs)
  (hs:∀i x σ H,xs[i]? =Y x->Pv i σ H->g x σ H λσ2 H2=>tb {D with nx:=Pv (i+1),ct:=Pv (i+1),bk:=D.nx} σ2 H2) (hd:∀σ H,Pv xs...* σ H->D.nx σ H):
  ∃W:Nat->Nat->St->Hp->Prop,(∃m,W 0 m σ H)/\∀i m σ H,W i m σ H->
   ((Itl K a).stop i H/\D.nx σ H)\/((Itl K a).go i H/\∃N:St->Hp->Prop,(∀σ' H',N σ' H'->∃m',m'<m/\W (i+1) m' σ' H')/\∀x H',(Itl K a).yld i H x H'->g x σ H' λσ2 H2=>tb {D with nx:=N,ct:=N,bk:=D.nx} σ2 H2):=by
 refine{λi m σ H=>m=xs...* - i/\i<=xs...*/\Pv i σ H,{xs...*,by simp,mT _,h0}, ?_};rintro i m σ H ⟨rfl,hi,p⟩;let q:=hl i σ H hi p
 by_cases hlt:i<xs...*
 ·refine .inr {{xs,xs[i],q,by simp[hlt]},Pv (i+1),λσ' H' p'=>{xs...* - (i+1),∅,O,hlt,p'},λx H' y=>?_}
  obtain⟨e,y⟩:=y;subst e;exact hs i x σ _ (y xs q) p
 ·let e:i=xs...*:=by lia
  subst e;exact .inl {{xs,q,mB _},hd σ H p}
theorem zSk{lo:Int}{n:Nat}{g:TG}{tb:TS}{D:uW}{σ:St}{H:Hp}(Pv:Nat->St->Hp->Prop)(h0:Pv 0 σ H)
  (hs:∀i σ H,i<n->Pv i σ H->g (.int (lo+i)) σ H λσ2 H2=>tb {D with nx:=Pv (i+1),ct:=Pv (i+1),bk:=D.nx} σ2 H2) (hd:∀σ H,Pv n σ H->D.nx σ H):
  ∃W:Nat->Nat->St->Hp->Prop,(∃m,W 0 m σ H)/\∀i m σ H,W i m σ H->
   ((Itr lo n).stop i H/\D.nx σ H)\/((Itr lo n).go i H/\∃N:St->Hp->Prop,(∀σ' H',N σ' H'->∃m',m'<m/\W (i+1) m' σ' H')/\∀x H',(Itr lo n).yld i H x H'->g x σ H' λσ2 H2=>tb {D with nx:=N,ct:=N,bk:=D.nx} σ2 H2):=by
 refine{λi m σ H=>m=n - i/\i<=n/\Pv i σ H,{n,by simp,mT _,h0}, ?_};rintro i m σ H ⟨rfl,hi,p⟩
 by_cases hlt:i<n
 ·refine .inr {hlt,Pv (i+1),λσ' H' p'=>{n - (i+1),∅,O,hlt,p'},λx H' y=>?_}
  obtain⟨e,y⟩:=y;subst e y;exact hs i σ _ hlt p
 ·let e:i=n:=by lia
  subst e;exact .inl {mB _,hd σ H p}
abbrev R2:=V->V->Hp->VK->Prop
def OpR(X:Cx)(f:V0->V0->Sem V0)(r:R2):Prop:=
 ∀(pins:List (V1×Obj))(s:V2)(σ:St)(H:Hp)(x y:V)(v u:V0)(Q:VK),Inv X pins σ H s->RelV x v->RelV y u->r x y H Q->
  V8 (S6 X.prog X.w) X.A (f v u) (EP X pins σ Q) X.xe s
def UnR(X:Cx)(f:V0->Sem V0)(r:V->Hp->VK->Prop):Prop:=
 ∀(pins:List (V1×Obj))(s:V2)(σ:St)(H:Hp)(x:V)(v:V0)(Q:VK),Inv X pins σ H s->RelV x v->r x H Q->
  V8 (S6 X.prog X.w) X.A (f v) (EP X pins σ Q) X.xe s
def wV(X:Cx)(f:V0)(r:List V->Hp->VK->Prop):Prop:=
 ∀(pins:List (V1×Obj))(s:V2)(σ:St)(H:Hp)(xs:List V)(us:List V0)(Q:VK),Inv X pins σ H s->Vals xs us->r xs H Q->
  V8 (S6 X.prog X.w) X.A (call f us) (EP X pins σ Q) X.xe s
def TruR(X:Cx)(r:V->Hp->(Bool->Hp->Prop)->Prop):Prop:=
 ∀(pins:List (V1×Obj))(s:V2)(σ:St)(H:Hp)(x:V)(v:V0)(Q:Bool->Hp->Prop),Inv X pins σ H s->RelV x v->r x H Q->
  V8 (S6 X.prog X.w) X.A (truthy v) (TP X pins σ Q) X.xe s
def tOp(r:R2)(ta tb:TE):TE:=λσ H Q=>ta σ H λx H1=>tb σ H1 λy H2=>r x y H2 Q
def tUn(r:V->Hp->VK->Prop)(ta:TE):TE:=λσ H Q=>ta σ H λx H1=>r x H1 Q
def rI(C:Int->Int->Prop)(g:Int->Int->V):R2:=λx y H Q=>∃i j,x= .int i/\y= .int j/\C i j/\Q (g i j) H
def rI0(g:Int->Int->V):R2:=λx y H Q=>∃i j,x= .int i/\y= .int j/\Q (g i j) H
def rU(g:Int->V):V->Hp->VK->Prop:=λx H Q=>∃i,x= .int i/\Q (g i) H
section
variable{X:Cx}{a b c:Expr}{ta tb tc:TE}{pos:Pos}
theorem yEv(ha:PE X a ta)(hb:PE X b tb){pins:List (V1×Obj)}{s:V2}{σ:St}{H:Hp}{R:V->V->Hp->Prop}(I:Inv X pins σ H s)
  (h:ta σ H λx H1=>tb σ H1 λy H2=>R x y H2) {Q:V0->V2->Prop} {f:V0->V0->Sem V0}
  (hf:∀v u s2 x y H2,Inv X pins σ H2 s2->RelV x v->RelV y u->R x y H2->V8 (S6 X.prog X.w) X.A (f v u) Q X.xe s2):
  V8 (S6 X.prog X.w) X.A (eval a X.env) (λv s₁=>V8 (S6 X.prog X.w) X.A (eval b X.env) (λu s₂=>V8 (S6 X.prog X.w) X.A (f v u) Q X.xe s₂) X.xe s₁) X.xe s:=by
 refine thn (ha pins s σ H _ I h) λv s1 ⟨x,H1,I1,r1,q1⟩=>?_;refine thn (hb pins s1 σ H1 _ I1 q1) λu s2 ⟨y,H2,I2,r2,q2⟩=>?_;exact hf v u s2 x y H2 I2 r1 r2 q2
theorem zI{op:Operator}{r:R2}(ho:OpR X (binaryOp op) r)(ha:PE X a ta)(hb:PE X b tb):PE X (.BinOp a op b pos) (tOp r ta tb):=by
 intro pins s σ H Q I h;exact wpAny_BinOp (yEv ha hb I h λv u s2 x y H2 I2 rx ry q=>ho pins s2 σ H2 x y v u Q I2 rx ry q)
theorem wF{op:UnaryOp}{r:V->Hp->VK->Prop}(ho:UnR X (unaryOp op) r)(ha:PE X a ta):PE X (.UnaryOp op a pos) (tUn r ta):=by
 intro pins s σ H Q I h;exact UnaryOp_ (thn (ha pins s σ H _ I h) λv s1 ⟨x,H1,I1,r1,q1⟩=>ho pins s1 σ H1 x v Q I1 r1 q1)
theorem opI{f:V0->V0->Sem V0}{C:Int->Int->Prop}{g:Int->Int->Int}
  (rule:∀(i j:Int)(t u:Tok)(s:V2)(Q:V0->V2->Prop)(E:V0->V2->Prop),C i j->Q (.int (g i j) s.toks) {s with toks:=s.toks+1}->V8 (S6 X.prog X.w) X.A (f (.int i t) (.int j u)) Q E s):
  OpR X f (rI C λi j=>.int (g i j)):=by
 intro pins s σ H x y v u Q I rx ry h;ext yA h i j r2_ r3_ hc q;subst r2_ r3_;obtain⟨t,rfl⟩:=rx;obtain⟨t',rfl⟩:=ry;exact rule i j t t' s _ _ hc {.int (g i j),H,I.tok _,⟨_,O⟩,q}
theorem opI0{f:V0->V0->Sem V0}{g:Int->Int->Int}
  (rule:∀(i j:Int)(t u:Tok)(s:V2)(Q:V0->V2->Prop)(E:V0->V2->Prop),Q (.int (g i j) s.toks) {s with toks:=s.toks+1}->V8 (S6 X.prog X.w) X.A (f (.int i t) (.int j u)) Q E s):
  OpR X f (rI0 λi j=>.int (g i j)):=by
 intro pins s σ H x y v u Q I rx ry h;ext yN h i j r2_ r3_ q;subst r2_ r3_;obtain⟨t,rfl⟩:=rx;obtain⟨t',rfl⟩:=ry;exact rule i j t t' s _ _ {.int (g i j),H,I.tok _,⟨_,O⟩,q}
theorem zZs{f:V0->V0->Sem V0}{g:Int->Int->Bool}
  (rule:∀(i j:Int)(t u:Tok)(s:V2)(Q:V0->V2->Prop)(E:V0->V2->Prop),Q (.bool (g i j)) s->V8 (S6 X.prog X.w) X.A (f (.int i t) (.int j u)) Q E s):
  OpR X f (rI0 λi j=>.bl (g i j)):=by
 intro pins s σ H x y v u Q I rx ry h;ext yN h i j r2_ r3_ q;subst r2_ r3_;obtain⟨t,rfl⟩:=rx;obtain⟨t',rfl⟩:=ry;exact rule i j t t' s _ _ {.bl (g i j),H,I,O,q}
def yDg(i j:Int):Prop:=0<j/\j<1073741824
def yDx(i j:Int):Prop:=0<=j/\j<=1000000/\i.natAbs<2 ^ 64
def CMul(i j:Int):Prop:=(-(2 ^ 64)<i/\i<2 ^ 64)\/(-(2 ^ 64)<j/\j<2 ^ 64)
theorem CMul.ok{i j:Int}(h:CMul i j):IntMulOk i j:=by
 rcases h with⟨h1,h2⟩|⟨h1,h2⟩
 ·exact .of_left (intBits_le_64 h1 h2)
 ·exact .of_right (intBits_le_64 h1 h2)
theorem xH:OpR X (binaryOp .Add) (rI0 λi j=>.int (i+j)):=opI0 λ_ _ _ _ _ _ _ q=>add_int q
theorem wP:OpR X (binaryOp .Sub) (rI0 λi j=>.int (i - j)):=opI0 λ_ _ _ _ _ _ _ q=>sub_int q
theorem jV:OpR X (binaryOp .Mult) (rI CMul λi j=>.int (i*j)):=opI λ_ _ _ _ _ _ _ hc q=>mul_int q hc.ok
theorem yE:OpR X (binaryOp .FloorDiv) (rI yDg λi j=>.int (i / j)):=opI λi j _ _ _ _ _ hc q=>by
 let h1:(0:Int)<j:=hc.1;let h2:j<1073741824:=hc.2;exact floordiv_int ∅ (by rw[Int.fdiv_eq_ediv_of_nonneg i ∅];exact q) (.inl (bE ∅))
theorem yD:OpR X (binaryOp .Mod) (rI (λ_ j=>0<j) λi j=>.int (i % j)):=opI λi j _ _ _ _ _ hc q=>by
 let h1:(0:Int)<j:=hc;exact mod_int' ∅ (by rw[Int.fmod_eq_emod_of_nonneg i ∅];exact q)
theorem zAv:OpR X (binaryOp .Pow) (rI yDx λi j=>.int (i ^ j.toNat)):=opI λ_ _ _ _ _ _ _ hc q=>pow_int_small hc.1 hc.2.1 hc.2.2 q
theorem unI{f:V0->Sem V0}{g:Int->Int}
  (rule:∀(i:Int)(t:Tok)(s:V2)(Q:V0->V2->Prop)(E:V0->V2->Prop),Q (.int (g i) s.toks) {s with toks:=s.toks+1}->V8 (S6 X.prog X.w) X.A (f (.int i t)) Q E s):
  UnR X f (rU λi=>.int (g i)):=by
 intro pins s σ H x v Q I rx h;obtain⟨i,rfl,q⟩:=h;obtain⟨t,rfl⟩:=rx;exact rule i t s _ _ {.int (g i),H,I.tok _,⟨_,O⟩,q}
theorem xM:UnR X (unaryOp .USub) (rU λi=>.int (-i)):=unI λ_ _ _ _ _ q=>neg_int q
def zXt:V->V->Bool
 | .non, .non=>true | .non, .int _=>true | .int _, .non=>true | .non, .bl _=>true | .bl _, .non=>true | .non, .str _=>true | .str _, .non=>true
 | .int _, .int _=>true | .bl _, .bl _=>true | .str _, .str _=>true | .byt _, .byt _=>true
 | .int _, .str _=>true | .str _, .int _=>true | .bl _, .str _=>true | .str _, .bl _=>true
 | _,_=>false
def rEq:R2:=λx y H Q=>zXt x y=true/\Q (.bl (decide (x=y))) H
def rNe:R2:=λx y H Q=>zXt x y=true/\Q (.bl (!decide (x=y))) H
theorem zPt{i j:Int}:decide (V.int i=V.int j)=(i==j):=by
 rw[sH];simp
theorem zVu{i j:Bool}:decide (V.bl i=V.bl j)=(i==j):=by
 rw[sH];simp
theorem zQr{i j:Str}:decide (V.str i=V.str j)=(i==j):=by
 rw[sH];simp
theorem zQb{i j:Array UInt8}:decide (V.byt i=V.byt j)=(i.toList==j.toList):=by
 rw[sH];cases i;cases j;simp
theorem xE{pins:List (V1×Obj)}{σ:St}{H:Hp}{s:V2}{Q:VK}{k k':Bool}(I:Inv X pins σ H s)(q:Q (.bl k) H)(e:k=k'):EP X pins σ Q (.bool k') s:=by
 subst e;exact{.bl k,H,I,O,q}
theorem xG:OpR X (A4 .Eq) rEq:=by
 intro pins s σ H x y v u Q I rx ry h;obtain⟨hs,q⟩:=h
 cases x with
 | non=>
  cases rx
  cases y with
  | non=>cases ry;exact PySem.EqNone.eq_none_none (xE I q (by simp))
  | bl j=>cases ry;exact PySem.EqNone.eq_none_bool (xE I q (by simp))
  | int j=>obtain⟨t',rfl⟩:=ry;exact PySem.EqNone.eq_none_int (xE I q (by simp))
  | str j=>obtain⟨t',rfl⟩:=ry;exact PySem.EqNone.eq_none_str (xE I q (by simp))
  | _=>exact absurd (show false=true from hs) nM
 | bl i=>
  cases rx
  cases y with
  | non=>cases ry;exact PySem.EqNone.eq_bool_none (xE I q (by simp))
  | bl j=>cases ry;exact eq_bool (xE I q zVu)
  | str j=>obtain⟨t',rfl⟩:=ry;exact PySem.EqMixed.eq_bool_str (xE I q (by simp))
  | _=>exact absurd (show false=true from hs) nM
 | int i=>
  obtain⟨t,rfl⟩:=rx
  cases y with
  | non=>cases ry;exact PySem.EqNone.eq_int_none (xE I q (by simp))
  | int j=>obtain⟨t',rfl⟩:=ry;exact eq_int (xE I q zPt)
  | str j=>obtain⟨t',rfl⟩:=ry;exact PySem.EqMixed.eq_int_str (xE I q (by simp))
  | _=>exact absurd (show false=true from hs) nM
 | str i=>
  obtain⟨t,rfl⟩:=rx
  cases y with
  | non=>cases ry;exact PySem.EqNone.eq_str_none (xE I q (by simp))
  | bl j=>cases ry;exact PySem.EqMixed.eq_str_bool (xE I q (by simp))
  | int j=>obtain⟨t',rfl⟩:=ry;exact PySem.EqMixed.eq_str_int (xE I q (by simp))
  | str j=>obtain⟨t',rfl⟩:=ry;exact eq_str (xE I q zQr)
  | _=>exact absurd (show false=true from hs) nM
 | byt i=>
  obtain⟨t,rfl⟩:=rx
  cases y with
  | byt j=>obtain⟨t',rfl⟩:=ry;exact W.eq_bytes (xE I q zQb)
  | _=>exact absurd (show false=true from hs) nM
 | _=>cases y<;>exact absurd (show false=true from hs) nM
theorem zAj:OpR X (A4 .NotEq) rNe:=by
 intro pins s σ H x y v u Q I rx ry h;obtain⟨hs,q⟩:=h
 cases x with
 | non=>
  cases rx
  cases y with
  | non=>cases ry;exact PySem.EqNone.ne_none_none (xE I q (by simp))
  | bl j=>cases ry;exact PySem.EqNone.ne_none_bool (xE I q (by simp))
  | int j=>obtain⟨t',rfl⟩:=ry;exact PySem.EqNone.ne_none_int (xE I q (by simp))
  | str j=>obtain⟨t',rfl⟩:=ry;exact PySem.EqNone.ne_none_str (xE I q (by simp))
  | _=>exact absurd (show false=true from hs) nM
 | bl i=>
  cases rx
  cases y with
  | non=>cases ry;exact PySem.EqNone.ne_bool_none (xE I q (by simp))
  | bl j=>cases ry;exact ne_bool (xE I q (congrArg not zVu))
  | str j=>obtain⟨t',rfl⟩:=ry;exact PySem.EqMixed.ne_bool_str (xE I q (by simp))
  | _=>exact absurd (show false=true from hs) nM
 | int i=>
  obtain⟨t,rfl⟩:=rx
  cases y with
  | non=>cases ry;exact PySem.EqNone.ne_int_none (xE I q (by simp))
  | int j=>obtain⟨t',rfl⟩:=ry;exact ne_int (xE I q (congrArg not zPt))
  | str j=>obtain⟨t',rfl⟩:=ry;exact PySem.EqMixed.ne_int_str (xE I q (by simp))
  | _=>exact absurd (show false=true from hs) nM
 | str i=>
  obtain⟨t,rfl⟩:=rx
  cases y with
  | non=>cases ry;exact PySem.EqNone.ne_str_none (xE I q (by simp))
  | bl j=>cases ry;exact PySem.EqMixed.ne_str_bool (xE I q (by simp))
  | int j=>obtain⟨t',rfl⟩:=ry;exact PySem.EqMixed.ne_str_int (xE I q (by simp))
  | str j=>obtain⟨t',rfl⟩:=ry;exact ne_str (xE I q (congrArg not zQr))
  | _=>exact absurd (show false=true from hs) nM
 | byt i=>
  obtain⟨t,rfl⟩:=rx
  cases y with
  | byt j=>obtain⟨t',rfl⟩:=ry;exact W.ne_bytes (xE I q (congrArg not zQb))
  | _=>exact absurd (show false=true from hs) nM
 | _=>cases y<;>exact absurd (show false=true from hs) nM
theorem kA:OpR X (A4 .Lt) (rI0 λi j=>.bl (decide (i<j))):=zZs λ_ _ _ _ _ _ _ q=>lt_int q
theorem uR:OpR X (A4 .LtE) (rI0 λi j=>.bl (decide (i<=j))):=zZs λ_ _ _ _ _ _ _ q=>le_int q
theorem qS:OpR X (A4 .Gt) (rI0 λi j=>.bl (decide (j<i))):=zZs λ_ _ _ _ _ _ _ q=>gt_int q
theorem op_ge:OpR X (A4 .GtE) (rI0 λi j=>.bl (decide (j<=i))):=zZs λ_ _ _ _ _ _ _ q=>ge_int q
theorem zRn:OpR X (A4 .In) (λx y H Q=>∃i j,x= .str i/\y= .str j/\Q (.bl (!(Builtin.Str.occurrences j i 0 j...* 1).isEmpty)) H):=by
 intro pins s σ H x y v u Q I rx ry h;ext yN h i j r2_ r3_ q;subst r2_ r3_;obtain⟨t,rfl⟩:=rx;obtain⟨t',rfl⟩:=ry;exact in_str (xE I q O)
theorem zO(b:Expr){op:CmpOp}(h:op≠ .In:=by decide)(h2:op≠ .NotIn:=by decide):behindInMarks op b=false:=by
 let e1:(op==CmpOp.In)=false:=by cases op<;>first | rfl | exact absurd O h
 let e2:(op==CmpOp.NotIn)=false:=by cases op<;>first | rfl | exact absurd O h2
 cases b<;>simp[behindInMarks,e1,e2]
theorem yW{op:CmpOp}{r:R2}(ho:OpR X (A4 op) r)(ha:PE X a ta)(hb:PE X b tb)(hm:behindInMarks op b=false):PE X (.Compare a [op] [b] pos) (tOp r ta tb):=by
 intro pins s σ H Q I h;exact wpAny_Compare1 (yEv ha hb I h λv u s2 x y H2 I2 rx ry q=>ho pins s2 σ H2 x y v u Q I2 rx ry q) hm
def zPs(t:TE):TT:=λσ H Q=>t σ H λx H'=>∃k,x= .bl k/\Q k H'
theorem zQ{op:CmpOp}{r:R2}(ho:OpR X (A4 op) r)(ha:PE X a ta)(hb:PE X b tb)(hm:behindInMarks op b=false):PT X (.Compare a [op] [b] pos) (zPs (tOp r ta tb)):=by
 intro pins s σ H Q I h;refine wpAny_isTrue_Compare1 (thn (ha pins s σ H _ I h) λv s1 ⟨x,H1,I1,r1,q1⟩=>thn (hb pins s1 σ H1 _ I1 q1) λu s2 ⟨y,H2,I2,r2,q2⟩=>
  thn (ho pins s2 σ H2 x y v u _ I2 r1 r2 q2) λc s3 ⟨z,H3,I3,r3,k,e,q3⟩=>?_) hm
 subst e;cases r3;exact pZ ⟨H3,I3,q3⟩
def zKj(r r':R2)(ta tb tc:TE):TE:=λσ H Q=>ta σ H λx H1=>tb σ H1 λy H2=>r x y H2 λz H3=>∃k,z= .bl k/\
 (if k=true then tc σ H3 λw' H4=>r' y w' H4 Q else Q (.bl false) H3)
theorem zLu{op op':CmpOp}{r r':R2}(ho:OpR X (A4 op) r)(ho':OpR X (A4 op') r')(ha:PE X a ta)(hb:PE X b tb)(hc:PE X c tc)
  (hm:lastMarks [op,op'] [b,c]=false:=by with_unfolding_all rfl):PE X (.Compare a [op,op'] [b,c] pos) (zKj r r' ta tb tc):=by
 intro pins s σ H Q I h;refine Compare_chain (thn (ha pins s σ H _ I h) λv s1 ⟨x,H1,I1,r1,q1⟩=>chain_link (thn (hb pins s1 σ H1 _ I1 q1) λu s2 ⟨y,H2,I2,r2,q2⟩=>
  thn (ho pins s2 σ H2 x y v u _ I2 r1 r2 q2) λd s3 ⟨z,H3,I3,r3,k,e,q3⟩=>?_)) hm
 subst e;cases r3;refine pZ ?_
 cases k with
 | false=>exact ite_ff {.bl false,H3,I3,O,q3}
 | true=>exact ite_tt (chain_last (thn (hc pins s3 σ H3 _ I3 q3) λw' s4 ⟨z',H4,I4,r4,q4⟩=>ho' pins s4 σ H4 y z' u w' Q I4 r2 r4 q4))
theorem zLj{op op':CmpOp}{r r':R2}(ho:OpR X (A4 op) r)(ho':OpR X (A4 op') r')(ha:PE X a ta)(hb:PE X b tb)(hc:PE X c tc)
  (hm:lastMarks [op,op'] [b,c]=false:=by with_unfolding_all rfl):PT X (.Compare a [op,op'] [b,c] pos) (zPs (zKj r r' ta tb tc)):=by
 intro pins s σ H Q I h;refine isTrue_chain (thn (ha pins s σ H _ I h) λv s1 ⟨x,H1,I1,r1,q1⟩=>test_link (thn (hb pins s1 σ H1 _ I1 q1) λu s2 ⟨y,H2,I2,r2,q2⟩=>
  thn (ho pins s2 σ H2 x y v u _ I2 r1 r2 q2) λd s3 ⟨z,H3,I3,r3,k,e,q3⟩=>?_)) hm
 subst e;cases r3;refine pZ ?_
 cases k with
 | false=>
  obtain⟨k',e',q'⟩:=q3;cases e';exact ite_ff ⟨H3,I3,q'⟩
 | true=>
  refine ite_tt (test_last (thn (hc pins s3 σ H3 _ I3 q3) λw' s4 ⟨z',H4,I4,r4,q4⟩=>thn (ho' pins s4 σ H4 y z' u w' _ I4 r2 r4 q4) λd' s5 ⟨z2,H5,I5,r5,k2,e2,q5⟩=>?_));subst e2;cases r5;exact pZ ⟨H5,I5,q5⟩
def TruV(K:A7)(x:V)(H:Hp)(k:Bool):Prop:=
 match x with
 | .non=>k=false
 | .bl b=>k=b
 | .int i=>k=(i !=0)
 | .str y=>y...*<=V9/\k=((y...*:Int) !=0)
 | .byt y=>y.size<=V9/\k=((y.size:Int) !=0)
 | .ref p=>(∃xs,SqL K H p xs/\k= !xs.isEmpty)\/(∃xs,SqT K H p xs/\k= !xs.isEmpty)\/∃kvs,H p=Y (.dK kvs)/\k= !kvs.isEmpty
 | _=>False
theorem zNj{κ:Type}{kvs:List (κ×V)}{vs:List (κ×V0)}(r:KV kvs vs):(!vs.isEmpty)= !kvs.isEmpty:=by
 cases r<;>rfl
theorem zEw{xs:List V}{its:List V0}(r:Vals xs its):(!its.toArray.isEmpty)= !xs.isEmpty:=by
 cases r<;>simp
theorem zBt:(V9:Nat)<2 ^ 63:=by rw[mQ];decide
theorem yDz:TruR X (λx H Q=>∃k,TruV X.K x H k/\Q k H):=by
 intro pins s σ H x v Q I rx h;obtain⟨k,e,q⟩:=h;let hl:=zBt;let hs:V9=16777216:=mQ
 cases x with
 | non=>
  cases rx;let e':k=false:=e;subst e';exact truthy_none ⟨H,I,q⟩
 | bl b=>
  cases rx;let e':k=b:=e;subst e';exact pZ ⟨H,I,q⟩
 | int i=>
  obtain⟨t,rfl⟩:=rx;let e':k=(i !=0):=e;subst e';exact PySem.P.truthy_int ⟨H,I,q⟩
 | str y=>
  obtain⟨t,rfl⟩:=rx;obtain⟨hy,e'⟩:y...*<=V9/\k=((y...*:Int) !=0):=e;subst e';exact PySem.P.truthy_str ∅ {H,I.tok _,q}
 | byt y=>
  obtain⟨t,rfl⟩:=rx;obtain⟨hy,e'⟩:y.size<=V9/\k=((y.size:Int) !=0):=e;subst e';exact W.truthy_bytes ∅ {H,I.tok _,q}
 | ref p=>
  cases rx;let e':(∃xs,SqL X.K H p xs/\k= !xs.isEmpty)\/(∃xs,SqT X.K H p xs/\k= !xs.isEmpty)\/∃kvs,H p=Y (.dK kvs)/\k= !kvs.isEmpty:=e;rcases e' with⟨xs,hx,e'⟩|⟨xs,hx,e'⟩|⟨kvs,hx,e'⟩
  ·subst e'
   refine xD (I.list hx) λits r pl hz=>?_;let hlen:=r...*;exact wpAny_truthy_list pl.isList (by simp only[nF];lia) {H,I.tok _,by rw[zEw r];exact q}
  ·subst e'
   refine xD (I.tuple hx) λits r pl hz=>?_;let hlen:=r...*;exact truthy_tuple pl (by simp only[nF];lia) {H,I.tok _,by rw[zEw r];exact q}
  ·subst e'
   obtain⟨hz,hS,vs,r,m⟩:kvs...*<=V9/\(p==A5)=false/\∃vs,KV kvs vs/\s.heap.DictOf (xC X.prog X.w) p vs:=I.hok p _ hx;let hlen:kvs...*=vs...*:=Paired.length r;exact wpAny_truthy_dict hS m ∅ {H,I.tok _,by rw[zNj r];exact q}
 | _=>exact(show False from e).elim
theorem zKq(ha:PE X a ta)(he:∀whole,isTrue a X.env whole=(do let v <-whole;standAt a.pos;holding [v] (truthy v))):
  PT X a (λσ H Q=>ta σ H λx H'=>∃k,TruV X.K x H' k/\Q k H'):=by
 intro pins s σ H Q I h;exact isTrue_plain (thn (ha pins s σ H _ I h) λv s1 ⟨x,H1,I1,r1,q1⟩=>yDz pins s1 σ H1 x v Q I1 r1 q1) (he _)
theorem qJ:OpR X (binaryOp .Add) (λx y H Q=>∃i j,x= .str i/\y= .str j/\i...*+j...*<=V9/\Q (.str (i++j)) H):=by
 intro pins s σ H x y v u Q I rx ry h;ext yA h i j r2_ r3_ hz q;subst r2_ r3_;obtain⟨t,rfl⟩:=rx;obtain⟨t',rfl⟩:=ry;exact add_str (λt' tk=>{.str (i++j),H,I.tok _,⟨_,O⟩,q}) hz
theorem jC{x:V}{us:List V0}(r:Vals [x] us):∃u,us= [u]/\RelV x u:=by
 cases r with
 | cons r1 r2=>cases r2;exact⟨_,O,r1⟩
theorem zDu{x y:V}{us:List V0}(r:Vals [x,y] us):∃u w',us= [u,w']/\RelV x u/\RelV y w':=by
 cases r with
 | cons r1 r2=>
  cases r2 with
  | cons r3 r4=>cases r4;exact⟨_,_,O,r1,r3⟩
theorem zXc:wV X (.builtin "abs") (λxs H Q=>∃i,xs= [.int i]/\Q (.int (if i<0 then -i else i)) H):=by
 intro pins s σ H xs us Q I r h;obtain⟨i,rfl,q⟩:=h;obtain⟨u,rfl,t,rfl⟩:=jC r;exact call_abs_int λu tk=>{.int (if i<0 then -i else i),H,I.tok _,⟨_,O⟩,q}
theorem zBg(hc:X.calm=true):wV X (.builtin "min") (λxs H Q=>∃i j,xs= [.int i, .int j]/\Q (.int (if j<i then j else i)) H):=by
 intro pins s σ H xs us Q I r h;ext wA h i j r2_ q;subst r2_;obtain⟨u,w',rfl,⟨t,rfl⟩,⟨t',rfl⟩⟩:=zDu r;refine min_two_ints (I.ok.hd hc) λh' tk k=>{_,H,I.kept k, ?_,q}
 by_cases hj:j<i
 ·rw[mO hj,mO hj];exact⟨_,O⟩
 ·rw[mL hj,mL hj];exact⟨_,O⟩
theorem zHb:wV X (.type "int") (λxs H Q=>(∃i,xs= [.int i]/\Q (.int i) H)\/∃k,xs= [.bl k]/\Q (.int (if k then 1 else 0)) H):=by
 intro pins s σ H xs us Q I r h;rcases h with⟨i,rfl,q⟩|⟨k,rfl,q⟩
 ·obtain⟨u,rfl,t,rfl⟩:=jC r
  exact call_int_int {.int i,H,I,⟨_,O⟩,q}
 ·obtain⟨u,rfl,r1⟩:=jC r
  cases r1;exact call_int_bool {.int (if k then 1 else 0),H,I.tok _,⟨_,O⟩,q}
theorem zCk:wV X (.type "str") (λxs H Q=>∃i,xs= [.int i]/\i.natAbs.log2<1920/\Q (.str (toString i)) H):=by
 intro pins s σ H xs us Q I r h;ext xD h i r1_ hz q;subst r1_;obtain⟨u,rfl,t,rfl⟩:=jC r;exact PySem.P.str_of_int hz {.str _,H,I.tok _,⟨_,O⟩,q}
theorem zSy:wV X (.builtin "ord") (λxs H Q=>∃x,xs= [.str x]/\x...*=1/\Q (.int (x.cps.getD 0 0:Nat)) H):=by
 intro pins s σ H xs us Q I r h;ext xD h x r1_ hz q;subst r1_;obtain⟨u,rfl,t,rfl⟩:=jC r;exact ord_of_one hz {.int _,H,I.tok _,⟨_,O⟩,q}
end
structure ObjM(h:V5)(x dx C:V1)(mA:Str->Option V0):Prop where
 obj:h.get? x=Y (W.instObj C dx)
 ns:h.Ns1 dx mA
 ne:dx≠x
theorem zSh{h:V5}{dx:V1}{mA:Str->Option V0}(n:h.Ns1 dx mA):∃od,h.get? dx=Y od/\∀name,W.lookIn name od=Y (mA name):=by
 ext yC n o es ep ho hd z_;ext oAA z_ hk _ hm;refine⟨o,ho,λname=>?_⟩;let e:=hm name;unfold nsFind findBy at e;rw[<-Array.find?_toList] at e;unfold W.lookIn;rw[hd];dsimp only;split
 ·rename_i y q
  rw[q] at e;exact congrArg some e
 ·rename_i q
  rw[q] at e;let a:es.toList.any (·.refKey)=false:=by
   rw[List.any_eq_false];intro y hy;obtain⟨z,t,hkey⟩:=hk y (Array.mem_toList_iff.mp hy);simp[DictEntry.refKey,hkey]
  let a':¬es.toList.any (·.refKey)=true:=by rw[a];exact nM
  rw[mL a'];exact congrArg some e
theorem ObjM.look{h:V5}{x dx C:V1}{mA:Str->Option V0}(I:ObjM h x dx C mA):∃od,W.InstAt h x (W.instObj C dx) C ↥od/\∀name,W.lookIn name od=Y (mA name):=
 let ⟨od,ho,hl⟩:=zSh I.ns
 {od,⟨I.obj,O,O,ho⟩,hl}
section
variable{prog:V3}{w:V4}{A:Around}{E:V0->V2->Prop}{s:V2}{K:A7}{x dx C f:V1}{mA:Str->Option V0}{name:Str}{v:V0}
end
theorem j0{v:V}{o:Option V0}(r:RelO ↥v o):∃u,o=Y u/\RelV v u:=by
 cases o with
 | none=>exact(show False from r).elim
 | some u=>exact⟨u,O,r⟩
section
variable{P:V3}{w:V4}{H H':Hp}{h h':V5}{a C dx:V1}{fs fs':List (Str×V)}
theorem yAg(hok:HOk P w H h)(e:H a=Y (.ins C dx fs)):∃mA,ObjM h a dx C mA/\(∀f,RelO (fs.lookup f) (mA f))/\PySem.Within mA (fs.map (·.1))/\fs...*<=1000/\H dx=Y (.own a):=by
 obtain⟨d,z,ne,ob,mA,n,r,q⟩:=(show ObjOk P w H h a (.ins C dx fs) from hok a _ e);exact{mA,⟨ob,n,ne⟩,r,q,z,d}
end
structure Cls(K:A7)(C:V1):Prop where
 pg:W.plainGet K C Str.empty=true
 hd:W.hasDictIn K C=true
 po:W.plainOver K C=true
 sa:W.findIn K (.ref C) "__setattr__" =Y ↥(.builtin "object.__setattr__")
theorem Cls.get{K:A7}{C:V1}(c:Cls K C)(f:Str):W.plainGet K C f=true:=c.pg
structure Con(K:A7)(C:V1)(f:Str)(v:V)(u:V0):Prop where
 at_:W.findIn K (.ref C) f=Y ↥u
 rel:RelV v u
 get:W.specialIn K u "__get__" =Y none
 cp:W.copiedNames.contains f=false
structure Meth(K:A7)(C:V1)(m:Str)(f:V1):Prop where
 at_:W.findIn K (.ref C) m=Y ↥(.ref f)
 fn:W.isFn K (.ref f)=true
 kp:A8 K (.ref f)=true
section
variable{X:Cx}{pins:List (V1×Obj)}{σ:St}{H:Hp}{s:V2}{a C dx:V1}{fs:List (Str×V)}{f:Str}{v:V}{A:Around}{E:V0->V2->Prop}
end
section
variable{X:Cx}{o e value:Expr}{f:Str}{pos pos' tpos:Pos}{ta tv:TE}
end
section
variable{X:Cx}{pins:List (V1×Obj)}{σ:St}{H:Hp}{s:V2}{A:Around}{E:V0->V2->Prop}{Q:V0->V2->Prop}{c:V0}{b:Bool}
inductive zDe (K:A7) (H:Hp):V->V0->Prop where
 | non:zDe K H .non (.type "NoneType")
 | bl (x:Bool):zDe K H (.bl x) (.type "bool")
 | int (i:Int):zDe K H (.int i) (.type "int")
 | str (x:Str):zDe K H (.str x) (.type "str")
 | flt (x:UInt64):zDe K H (.flt x) (.type "float")
 | lst {a:V1} {xs:List V} (e:H a=Y (.lst xs)):zDe K H (.ref a) (.type "list")
 | frz {a:V1} {o:Obj} {xs:List V} (e:H a=Y (.frz o (.lst xs))):zDe K H (.ref a) (.type "list")
 | tup {a:V1} {xs:List V} (e:H a=Y (.tup xs)):zDe K H (.ref a) (.type "tuple")
 | dK {a:V1} {kvs:List (Key×V)} (e:H a=Y (.dK kvs)):zDe K H (.ref a) (.type "dict")
 | dT {a:V1} {kvs:List (List Key×V)} (e:H a=Y (.dT kvs)):zDe K H (.ref a) (.type "dict")
 | ins {a C dx:V1} {fs:List (Str×V)} (e:H a=Y (.ins C dx fs)) (cl:Cls K C) (ha:W.findIn K (.ref C) "__class__" =Y ↥(.builtin "object.__class__"))
   (hn:W.specialIn K (.builtin "object.__class__") "__get__" =Y ↥(.builtin "getset_descriptor.__get__")) (htk:W.takesIn K (.builtin "object.__class__")=Y true)
   (hm:W.mroIn K C (.type "object")=Y true):zDe K H (.ref a) (.ref C)
theorem zSj{x:V}{u t:V0}(I:Inv X pins σ H s)(rx:RelV x u)(ty:zDe X.K H x t)(e:W.kitOne X.K t c=Y b)(h:∀tk,Q (.bool b) {s with toks:=tk}):
  V8 (S6 X.prog X.w) A (call (.builtin "isinstance") [u,c]) Q E s:=by
 cases ty with
 | non=>cases (show u=Value.none from rx);exact sW W.kitx_none I.kIn mH e (λz=>nomatch z) h
 | bl y=>cases (show u=Value.bool y from rx);exact sW W.kitx_bool I.kIn mH e (λz=>nomatch z) h
 | int i=>obtain⟨t,q⟩:=(show∃t,u=Value.int i t from rx);cases q;exact sW W.kitx_int I.kIn mH e (λz=>nomatch z) h
 | str y=>obtain⟨t,q⟩:=(show∃t,u=Value.str y t from rx);cases q;exact sW W.kitx_str I.kIn mH e (λz=>nomatch z) h
 | flt y=>obtain⟨t,q⟩:=(show∃t,u=Value.float y t from rx);cases q;exact sW W.kitx_float I.kIn mH e (λz=>nomatch z) h
 | @lst a xs ea=>
  cases (show u=Value.ref a from rx);obtain⟨_,_,n,_,h1⟩:=(show ObjOk X.prog X.w H s.heap a (.lst xs) from I.hok a _ ea);exact sW dE I.kIn ⟨_,h1,O⟩ e (λz=>nomatch z) h
 | @frz a ob xs ea=>
  cases (show u=Value.ref a from rx);obtain⟨_,_,_,n,_,h1⟩:=(show ObjOk X.prog X.w H s.heap a (.frz ob (.lst xs)) from I.hok a _ ea);exact sW dE I.kIn ⟨_,h1,O⟩ e (λz=>nomatch z) h
 | @tup a xs ea=>
  cases (show u=Value.ref a from rx);obtain⟨_,_,_,p⟩:=(show ObjOk X.prog X.w H s.heap a (.tup xs) from I.hok a _ ea);ext xD p o h1 h2 _;exact sW W.kitx_tuple I.kIn ⟨o,h1,h2⟩ e (λz=>nomatch z) h
 | @dK a kvs ea=>
  cases (show u=Value.ref a from rx);obtain⟨_,_,vs,_,p⟩:=(show ObjOk X.prog X.w H s.heap a (.dK kvs) from I.hok a _ ea);ext yC p o es ep h1 h2 _;exact sW cB I.kIn ⟨o,h1,h2.1⟩ e (λz=>nomatch z) h
 | @dT a kvs ea=>
  cases (show u=Value.ref a from rx);obtain⟨_,_,xs,_,o,es,ep,h1,h2,_⟩:=(show ObjOk X.prog X.w H s.heap a (.dT kvs) from I.hok a _ ea);exact sW cB I.kIn ⟨o,h1,h2.1⟩ e (λz=>nomatch z) h
 | @ins a C dx fs ea cl ha hn htk hm=>
  cases (show u=Value.ref a from rx);obtain⟨mA,Oy,_⟩:=yAg I.hok ea;obtain⟨od,J,_⟩:=Oy.look;exact sW (W.kitx_own (cl.get _) cl.hd ha hn htk hm) I.kIn J e (λz=>nomatch z) h
end
structure Room(k:Nat)(A:Around):Prop where
 hd:A.handled=none
 dp:A.depth+3*k+5<recursionLimit
 un:A.units+16*k+200<cLine
theorem Room.mono{j k:Nat}{A:Around}(r:Room k A)(h:j<=k):Room j A:={r.hd,by let:=r.dp;lia,by let:=r.un;lia}
theorem Room.deeper{k:Nat}{A:Around}(r:Room (k+1) A)(env:S8):Room k (A.deeper env):=
 {r.hd,by let:=r.dp;show A.depth+1+3*k+5<_;lia,by let:=r.un;show A.units+3+16*k+200<_;lia}
theorem Room.depth{k:Nat}{A:Around}(r:Room k A):A.depth<recursionLimit:=by let:=r.dp;lia
theorem Room.units{k:Nat}{A:Around}(r:Room k A):A.units+64<cLine:=by let:=r.un;lia
theorem Room.units0{k:Nat}{A:Around}(r:Room k A):A.units<cLine:=by let:=r.un;lia
def zGv:TA:=λ_ H Q=>Q [] H
def zAa(ta:TE)(tr:TA):TA:=λσ H Q=>ta σ H λx H1=>tr σ H1 λxs H2=>Q (x::xs) H2
section
variable{X:Cx}{e:Expr}{es:List Expr}{te:TE}{t:TA}{pos:Pos}
theorem zB:PA X [] zGv:=λ_ _ _ _ H Q I h=>cM {[],H,I, .nil,h}
theorem zA(ha:PE X e te)(hr:PA X es t)(hs:A3 (e::es) X.env=(false,eval e X.env)::A3 es X.env:=by rfl):PA X (e::es) (zAa te t):=by
 intro pos pins s σ H Q I h;rw[hs];show V8 _ _ (spliced ((false,eval e X.env)::S2 pos (A3 es X.env))) _ _ s;refine cD (thn (ha pins s σ H _ I h) λu s1 ⟨x,H1,I1,r1,q1⟩=>?_);exact thn (hr pos pins s1 σ H1 _ I1 q1) λus s2 ⟨xs,H2,I2,r2,q2⟩=>{x::xs,H2,I2, .cons r1 r2,q2}
def yEi(t:TA):TE:=λσ H Q=>t σ H λxs H1=>xs...*<=V9/\∀p,H1 p=none->Q (.ref p) (upd H1 p (.tup xs))
def zZg(t:TA):TE:=λσ H Q=>t σ H λxs H1=>xs...*<=V9/\∀p,H1 p=none->Q (.ref p) (upd H1 p (.lst xs))
theorem wX{x1}(h:PA X es t):PE X (.Tuple es x1 pos) (yEi t):=by
 intro pins s σ H Q I hq;refine wpAny_Tuple_spliced (thn (h pos pins s σ H _ I hq) λus s1 ⟨xs,H1,I1,r,z,q⟩=>{by rw[<-r...*];exact z, ?_});let hf:H1 s1⁻¹=none:=I1.hok.fresh (mB _);refine{.ref s1⁻¹,upd H1 s1⁻¹ (.tup xs),I1.laid (t':=s1.toks) (λb u e=>mU _ e) (mB _) ?_,O,q _ hf};exact{z,us,r,{_,nP _ O,O,_,O}}
theorem yG(h:PA X es t):PE X (.List es pos) (zZg t):=by
 intro pins s σ H Q I hq;refine wpAny_List_spliced (thn (h pos pins s σ H _ I hq) λus s1 ⟨xs,H1,I1,r,z,q⟩=>{by rw[<-r...*];exact z, ?_});let hf:H1 s1⁻¹=none:=I1.hok.fresh (mB _);refine{.ref s1⁻¹,upd H1 s1⁻¹ (.lst xs),I1.laid (t':=s1.toks) (λb u e=>mU _ e) (mB _) ?_,O,q _ hf};exact{z,us,0,r,nP _ O}
end
abbrev Sp:=List V->Hp->VK->XK->Prop
abbrev CXT:=List S8->Hp->V2->XK->V0->V2->Prop
structure zUj(P:V3)(w:V4)(K:A7)(mg:Str->Option V0)(base:V5)(A:Around)(outer:List S8)(s:V2)(H:Hp):Prop where
 frames:A.frames=Y outer
 mod:Mod K mg base
 bs:∀b o,base.get? b=Y o->s.heap.get? b=Y o/\H b=none
 bsz:base.objs.size<=s⁻¹
 funs:s.heap.FunFrames base outer
 frf:∀b∈frs outer,H b=none
 hok:HOk P w H s.heap
 bare:AllBare s.gens
def CE(outer:List S8)(P:V3)(w:V4)(H:Hp)(s:V2)(Q:VK)(u:V0)(s':V2):Prop:=
 ∃v H',s'.os=s.os/\AllBare s'.gens/\Un (frs outer) [] H H' s.heap s'.heap/\HOk P w H' s'.heap/\RelV v u/\Q v H'
def CR(CX:CXT)(outer:List S8)(P:V3)(w:V4)(H:Hp)(s:V2)(Q:VK)(E:XK)(r:Result)(s':V2):Prop:=
 match r with
 | .ok (.ret u)=>CE outer P w H s Q u s'
 | .ok _=>False
 | .error e=>CX outer H s E e s'
structure FnOk(P:V3)(w:V4)(K:A7)(mg:Str->Option V0)(base:V5)(CX:CXT)(k:Nat)(f:V1)(fd:V7)(ps:List Str)(sp:Sp):Prop where
 len:∀vs H Q E,sp vs H Q E->vs...*=ps...*
 run:∀(A:Around)(outer:List S8)(s:V2)(H:Hp)(args:Args)(us:List V0)(vs:List V)(Q:VK)(E:XK),Room k A->zUj P w K mg base A outer s H->BindsTo s fd args (ps.zip us)->Vals vs us->sp vs H Q E->
  codeAny (S6 P w) A (.call (.ref f) args) (CR CX outer P w H s Q E) s
theorem FnOk.mono{P:V3}{w:V4}{K:A7}{mg:Str->Option V0}{base:V5}{CX:CXT}{j k:Nat}{f:V1}{fd:V7}{ps:List Str}{sp:Sp}(F:FnOk P w K mg base CX j f fd ps sp)(h:j<=k):
  FnOk P w K mg base CX k f fd ps sp:={F.len,λA outer s H args us vs Q E hr=>F.run A outer s H args us vs Q E (hr.mono h)}
theorem FnOk.imp{P:V3}{w:V4}{K:A7}{mg:Str->Option V0}{base:V5}{CX:CXT}{k:Nat}{f:V1}{fd:V7}{ps:List Str}{sp sp':Sp}(F:FnOk P w K mg base CX k f fd ps sp)
  (h:∀vs H Q E,sp' vs H Q E->sp vs H Q E):FnOk P w K mg base CX k f fd ps sp':=
 {λvs H Q E q=>F.len vs H Q E (h _ _ _ _ q),λA outer s H args us vs Q E hr he hb hv hs=>F.run A outer s H args us vs Q E hr he hb hv (h _ _ _ _ hs)}
section
variable{X:Cx}{pins:List (V1×Obj)}{σ:St}{H:Hp}{s s':V2}
theorem Inv.env0(I:Inv X pins σ H s):zUj X.prog X.w X.K X.mg X.base X.A X.stack s H:=
 {I.ok.frames,I.ok.mod,I.bs,nS I.ok.bsz I.sz,I.stack,I.stkFree,I.hok,I.bare}
theorem Inv.after{Q:VK}{u:V0}(I:Inv X pins σ H s)(h:CE X.stack X.prog X.w H s Q u s'):EP X pins σ Q u s':=by
 ext yA h v H' os bare un z_;ext oAA z_ hok r q;obtain⟨hh,g,d,t,os'⟩:=s';obtain rfl:os'=s.os:=os;exact{v,H',I.call (h':=hh) (g':=g) (d':=d) (t':=t) (ch:=[]) un hok bare (λb z=>absurd z (by simp)),r,q}
end
def zCe(sp:Sp)(dvs:List V)(E:XK)(t:TA):TE:=λσ H Q=>t σ H λvs H1=>sp (vs++dvs) H1 Q E
def Binds(K:A7)(fd:V7)(ps:List Str)(ds:List V0):Prop:=
 ∀(s:V2)(us:List V0),K.In s.heap->(us++ds)...*=ps...*->BindsTo s fd {us,[]} (ps.zip (us++ds))
theorem Binds.all{K:A7}{fd:V7}{ps:List Str}(h:∀us:List V0,us...*=ps...*->bindArgs fd {us,[]}=pure (ps.zip us)):Binds K fd ps []:=λs us _ hl=>by
 rw[rM] at hl⊢;exact .of_eq (h us hl)
def zJl(CX:CXT)(X:Cx)(E:XK):Prop:=∀(pins:List (V1×Obj))(σ:St)(H:Hp)(s:V2)(e:V0)(s':V2),Inv X pins σ H s->CX X.stack H s E e s'->X.xe e s'
section
variable{X:Cx}{CX:CXT}{k:Nat}{f C:V1}{fd:V7}{ps:List Str}{sp:Sp}{dvs:List V}{ds:List V0}{E:XK}{x m:Str}{p pos apos:Pos}{e o:Expr}{es:List Expr}{ta:TE}{t:TA}
theorem zWz{pins:List (V1×Obj)}{σ:St}{H:Hp}{s:V2}{Q:VK}{us:List V0}{vs:List V}(F:FnOk X.prog X.w X.K X.mg X.base CX k f fd ps sp)(hr:Room k X.A)(hb:Binds X.K fd ps ds)(hd:Vals dvs ds)(hx:zJl CX X E)
  (I:Inv X pins σ H s) (r:Vals vs us) (h:sp (vs++dvs) H Q E):V8 (S6 X.prog X.w) X.A (call (.ref f) us) (EP X pins σ Q) X.xe s:=by
 let r2:Vals (vs++dvs) (us++ds):=r.append hd;let hl:(us++ds)...*=ps...*:=by rw[<-r2...*];exact F.len _ _ _ _ h
 refine wpAny_call (bL (F.run X.A X.stack s H {us,[]} (us++ds) (vs++dvs) Q E hr I.env0 (hb s us I.kIn hl) r2 h) λr s' hq=>?_)
 cases r with
 | error e=>exact hx pins σ H s e s' I hq
 | ok fl=>
  cases fl with
  | ret u=>exact I.after hq
  | next=>exact False.elim hq
  | brk=>exact False.elim hq
  | cont=>exact False.elim hq
theorem yAs(F:FnOk X.prog X.w X.K X.mg X.base CX k f fd ps sp)(hr:Room k X.A)(hg:Gl X x)(hm:X.mg x=Y (.ref f))(hk:A8 X.K (.ref f)=true)(hb:Binds X.K fd ps ds)(hd:Vals dvs ds)(hx:zJl CX X E)
  (ha:PA X (e::es) t) (hdb:(x==("__debug__" :Str))=false:=by decide) (he:A3 (e::es) X.env=(false,eval e X.env)::A3 es X.env:=by rfl) (hpl:(S2 pos (A3 es X.env)).any (·.1)=false:=by rfl):
  PE X (.Call (.Name x p) (e::es) [] pos) (zCe sp dvs E t):=by
 intro pins s σ H Q I h;refine tR (zKg I hg hm ?_ hdb);refine W.callWith_K (h₀:=X.base) I.ok.mod.kin hk (thn (ha pos pins s σ H _ I h) λus s1 ⟨vs,H1,I1,r,q⟩=>{I1.kIn, ?_}) he hpl;exact zWz F hr hb hd hx I1 r q
theorem zUe(F:FnOk X.prog X.w X.K X.mg X.base CX k f fd ps sp)(hr:Room k X.A)(hg:Gl X x)(hm:X.mg x=Y (.ref f))(hk:A8 X.K (.ref f)=true)(hb:Binds X.K fd ps ds)(hd:Vals dvs ds)(hx:zJl CX X E)
  (hdb:(x==("__debug__" :Str))=false:=by decide):PE X (.Call (.Name x p) [] [] pos) (zCe sp dvs E zGv):=by
 intro pins s σ H Q I h;refine tR (zKg I hg hm ?_ hdb);exact W.callWith_K0 I.kIn hk (zWz (us:=[]) F hr hb hd hx I .nil h)
structure Mk(K:A7)(C f:V1):Prop where
 makes:W.makesIn K C=true
 init:W.findIn K (.ref C) "__init__" =Y ↥(.ref f)
 fn:W.isFn K (.ref f)=true
 kp:A8 K (.ref C)=true
end
section
variable{X:Cx}{CX:CXT}{k:Nat}{f C:V1}{fd:V7}{ps ks:List Str}{sp:Sp}{E:XK}{x m:Str}{p pos apos kpos:Pos}{e o:Expr}{es:List Expr}{kws:List Keyword}{te ta:TE}{t tk:TA}{nm:Option Str}
structure KBinds(K:A7)(fd:V7)(ps ks:List Str)(g:List V0->List V0->List V0)(gV:List V->List V->List V):Prop where
 to:∀(s:V2)(us ws:List V0),K.In s.heap->(g us ws)...*=ps...*->BindsTo s fd {us,ks.zip ws} (ps.zip (g us ws))
 rel:∀{vs:List V}{us:List V0}{zs:List V}{ws:List V0},Vals vs us->Vals zs ws->Vals (gV vs zs) (g us ws)
variable{g:List V0->List V0->List V0}{gV:List V->List V->List V}
end
structure zY(N P:List Str)(sc:Scope):Prop where
 kind:sc.kind= .function
 co:sc.isCoroutine=false
 gen:sc.isGenerator=false
 nd:N.Nodup
 pre:N.take P...*=P
 par:∀x∈P,sc.names.lookup x=some .local\/sc.names.lookup x=some .cell
 nofree:∀y∈sc.names,y.2≠ .free
theorem zIl{kindOf:Str->Option NameKind}{x:Str}:∀{binds:List (Str×V0)}{m:Str->Option V0},(∀v,(x,v)∉binds)->bindL kindOf binds m x=m x
 | [],_,_=>rfl
 |(n,v)::r,m,h=>by
  unfold bindL;rw[zIl λw hw=>h w (mE _ hw)];split
  ·let:x≠n:=by rintro rfl;exact h v mG
   simp[this]
  ·rfl
theorem zIa{kindOf:Str->Option NameKind}{x:Str}:∀{binds:List (Str×V0)}{m:Str->Option V0},(∀v,(x,v)∉binds)->bindC kindOf binds m x=m x
 | [],_,_=>rfl
 |(n,v)::r,m,h=>by
  unfold bindC;rw[zIa λw hw=>h w (mE _ hw)];split
  ·rfl
  ·let:x≠n:=by rintro rfl;exact h v mG
   simp[this]
theorem zHp{kindOf:Str->Option NameKind}{x:Str}{v:V0}:∀{P:List Str}{vs:List V0}{i:Nat}{m:Str->Option V0},P.Nodup->P[i]? =Y x->vs[i]? =Y v->kindOf x=some .local->
  bindL kindOf (P.zip vs) m x=Y v
 | [],_,_,_,_,h,_,_=>by simp at h
 | _::_,[],_,_,_,_,h,_=>by simp at h
 | p::P,w::vs,0,m,nd,h1,h2,hk=>by
  simp at h1 h2;subst h1;subst h2;show bindL kindOf ((p,w)::P.zip vs) m p=_;unfold bindL;rw[zIl λv hv=>(nZ.mp nd).1 (cZ hv).1,mO hk];simp
 | p::P,w::vs,i+1,m,nd,h1,h2,hk=>by
  show bindL kindOf ((p,w)::P.zip vs) m x=_;unfold bindL;exact zHp (i:=i) (nZ.mp nd).2 (by simpa using h1) (by simpa using h2) hk
theorem zIk{kindOf:Str->Option NameKind}{x:Str}{v:V0}:∀{P:List Str}{vs:List V0}{i:Nat}{m:Str->Option V0},P.Nodup->P[i]? =Y x->vs[i]? =Y v->kindOf x≠some .local->
  bindC kindOf (P.zip vs) m x=Y v
 | [],_,_,_,_,h,_,_=>by simp at h
 | _::_,[],_,_,_,_,h,_=>by simp at h
 | p::P,w::vs,0,m,nd,h1,h2,hk=>by
  simp at h1 h2;subst h1;subst h2;show bindC kindOf ((p,w)::P.zip vs) m p=_;unfold bindC;rw[zIa λv hv=>(nZ.mp nd).1 (cZ hv).1,mL hk];simp
 | p::P,w::vs,i+1,m,nd,h1,h2,hk=>by
  show bindC kindOf ((p,w)::P.zip vs) m x=_;unfold bindC;exact zIk (i:=i) (nZ.mp nd).2 (by simpa using h1) (by simpa using h2) hk
def zBl(N:List Str)(vs:List V):St:=vs.map some++List.replicate (N...* - vs...*) none
def zKo(CX:CXT)(P:V3)(w:V4)(K:A7)(mg:Str->Option V0)(base:V5)(N:List Str)(qual:Str)(scope:Scope)(f:V1)(cd:V0)(A:Around)(outer:List S8)(s:V2)(H:Hp)(E:XK):Cx where
 prog:=P
 w:=w
 K:=K
 mg:=mg
 base:=base
 A:=A.deeper (envOfC qual scope s⁻¹ f cd)
 N:=N
 s₀:=s
 H₀:=H
 env:=envOfC qual scope s⁻¹ f cd
 outer:=outer
 stack:=envOfC qual scope s⁻¹ f cd::outer
 ex:=[]
 calm:=true
 fn:=λ_=>true
 pn:=[]
 xe:=λe s'=>V8 (S6 P w) (A.deeper (envOfC qual scope s⁻¹ f cd)) (leaving (envOfC qual scope s⁻¹ f cd) e) (λ_ s''=>CX outer H s E e s'') (λe' s''=>CX outer H s E e' s'') s'
theorem zLy{sc:Scope}{n:Nat}{x:Str}(h:sc.names.lookup x=some .cell):∃c,(cellsFrom n sc.names []).lookup x=Y c:=by
 let q:=W.cellsFrom_some sc.names n [] (.inl h);exact Option.isSome_iff_exists.mp q
theorem zSg{CX:CXT}{P:V3}{w:V4}{K:A7}{mg:Str->Option V0}{base:V5}{N ps:List Str}{qual:Str}{scope:Scope}{f:V1}{cd:V0}{A:Around}{outer:List S8}{s s1:V2}{H:Hp}{E:XK}{us:List V0}{vs:List V}
  (S:zY N ps scope) (hd:A.handled=none) (e0:zUj P w K mg base A outer s H) (hl:vs...*=ps...*) (r:Vals vs us)
  (x:InCallC s s⁻¹ (bindL (envOfC qual scope s⁻¹ f cd).kindOf (ps.zip us) λ_=>none) (cellsFrom (s⁻¹+1) scope.names []) (bindC (envOfC qual scope s⁻¹ f cd).kindOf (ps.zip us) λ_=>none) s1):
  Inv (zKo CX P w K mg base N qual scope f cd A outer s H E) [] (zBl N vs) H s1:=by
 let hpl:ps...*<=N...*:=by let:=congrArg List.length S.pre;rw[pH] at this;lia
 refine wA (x.done) λh1 tk r2_ hk=>?_;subst r2_;let noA:∀b:V1,b∉(zKo CX P w K mg base N qual scope f cd A outer s H E).ex:=λb z=>absurd (show b∈([]:List V1) from z) (by simp);refine{{e0.mod,S.kind,O,O,mB _,λy z c h1 h2=>?_,λy hy=>?_,λy c _ h=>?_,λ_=>hd,Around.frames_deeper e0.frames, .inr ⟨O,O⟩,λb z=>absurd z (noA b),e0.bs,e0.bsz,λb _ _=>noA b,λb z=>absurd z (noA b),e0.funs,e0.frf},
  rfl,e0.bare,Un.kept hk,{_,x.toInCall.ns,λi y v h1 h2 h3=>?_},λy c h=>{_,x.cell y c h},e0.hok.fresh (mB _),λy c h=>?_,λp hp=>absurd (show p∈([]:List (V1×Obj)) from hp) (by simp),e0.hok.kept hk, ?_}
 ·exact name_of_addr x.apart (rT h1) (rT h2)
 ·let hy:scope.names.lookup y=some .cell\/scope.names.lookup y=some .free:=hy
  rcases hy with hy | hy
  ·exact zLy hy
  ·exact absurd O (S.nofree _ (rT hy))
 ·exact aA (x.above y c (rT h))
 ·let hi:i<vs...*:=by
   unfold zBl at h2
   by_cases hi:i<vs...*
   ·exact hi
   ·rw[pG (by simpa using hi)] at h2
    rw[List.getElem?_replicate] at h2;split at h2<;>cases h2
  let ha:vs[i]? =Y v:=by
   unfold zBl at h2;rw[pF (by simpa using hi),mW] at h2
   cases e:vs[i]? with
   | none=>rw[e] at h2;cases h2
   | some a=>rw[e] at h2;cases h2;rfl
  obtain⟨u,hu,rv⟩:=r.get ha;let hp:ps[i]? =Y y:=by
   rw[<-S.pre,aU ∅];exact h1
  let ndP:ps.Nodup:=by rw[<-S.pre];exact S.nd.sublist (List.take_sublist _ _)
  refine{u,rv, ?_};rcases S.par y (mF hp) with k | k
  ·exact .inl {k,zHp ndP hp hu k}
  ·obtain⟨c,e⟩:=zLy (n:=s⁻¹+1) k
   refine .inr {.inl k,c,e, ?_};let q:=x.cell y c e;rw[zIk ndP hp hu (by show scope.names.lookup y≠_;rw[k];decide)] at q;exact q
 ·exact e0.hok.fresh (aA (x.above y c (rT h)))
 ·unfold zBl
  show _=N...*;rw[mK,mC,sF]
  lia
theorem yBb{CX:CXT}{P:V3}{w:V4}{K:A7}{mg:Str->Option V0}{base:V5}{k:Nat}{f:V1}{name qual:Str}{params:Arguments}{body:List V6}{scope:Scope}{dV kV doc pm cdv ct oc:V0}{an od:Option V1}
  {osl:Array (Option V0)} {N ps:List Str} {sp:Sp} (lk:K.lookup f=Y {oc,od, .func (W.fnOf name qual params body scope dV kV doc pm an cdv ct),osl}) (hcd:S0 K cdv qual=true) (S:zY N ps scope)
  (len:∀vs H Q E,sp vs H Q E->vs...*=ps...*)
  (hbody:∀(A:Around)(outer:List S8)(s:V2)(H:Hp)(vs:List V)(Q:VK)(E:XK),Room k (A.deeper (envOfC qual scope s⁻¹ f cdv))->sp vs H Q E->
   ∃t,PSs (zKo CX P w K mg base N qual scope f cdv A outer s H E) body t/\t {nx:=λ_ H'=>Q .non H',rt:=Q} (zBl N vs) H):
  FnOk P w K mg base CX (k+1) f (W.fnOf name qual params body scope dV kV doc pm an cdv ct) ps sp:=by
 refine{len,λA outer s H args us vs Q E hr e0 hb r hsp=>?_};let hl:=len _ _ _ _ hsp;let KX:K.In s.heap:=e0.mod.kin.keeps λb o e=>(e0.bs b o e).1;let lim:s.heap.NoLimit:=e0.mod.nolimit.keeps λb o e=>(e0.bs b o e).1;let hkind:∀y∈ps.zip us,scope.names.lookup y.1=some .local\/(scope.names.lookup y.1=some .cell/\((cellsFrom (s⁻¹+1) scope.names []).lookup y.1).isSome=true):=fun⟨n,v⟩ hy=>by
  rcases S.par n (cZ hy).1 with q | q
  ·exact .inl q
  ·exact .inr {q,W.cellsFrom_some _ _ _ (.inl q)}
 refine codeAny_call_function hr.depth (KX _ _ lk) O S.co S.gen O (W.codeRec_of KX hcd) (hb _ _ _ _ ?_);refine wpAny_newFunctionEnv_cells S.kind hkind λenv he s1 x=>?_;subst he;refine{lim.keeps x.toInCall.keep,codeAny_func ?_};obtain⟨t,ht,hq⟩:=hbody A outer s H vs Q E (hr.deeper _) hsp;let I:Inv (zKo CX P w K mg base N qual scope f cdv A outer s H E) [] (zBl N vs) H s1:=zSg S hr.hd e0 hl r x;refine rX (ht [] s1 (zBl N vs) H _ I hq) (λfl s' hs=>?_) λe s' hs=>hs;let fin:∀{σ':St}{H':Hp}{v:V}{u:V0},Inv (zKo CX P w K mg base N qual scope f cdv A outer s H E) [] σ' H' s'->RelV v u->Q v H'->CE outer P w H s Q u s':=
  λ{σ' H' v u} J rv q=>⟨v,H',J.os,J.bare,J.base,J.hok,rv,q⟩
 cases fl with
 | ret u=>
  ext yC hs v σ' H' J rv q;exact fin J rv q
 | next=>
  ext wA hs σ' H' J q;exact fin (v:=V.non) (u:=Value.none) J O q
 | brk=>
  ext wA hs _ _ _ q;exact False.elim q
 | cont=>
  ext wA hs _ _ _ q;exact False.elim q
section
variable{X:Cx}{x:Str}{p pos:Pos}{e:Expr}{es:List Expr}{t:TA}{id T:String}{r:List V->Hp->VK->Prop}
def tCB(r:List V->Hp->VK->Prop)(t:TA):TE:=λσ H Q=>t σ H λvs H1=>r vs H1 Q
theorem zM(hc:wV X (.builtin id) r)(hg:Gl X x)(hm:X.mg x=none)(hv:A2 x=Y (.builtin id))(ha:PA X (e::es) t)(hn:x≠ "__name__":=by decide)(hdb:(x==("__debug__" :Str))=false:=by decide)
  (he:A3 (e::es) X.env=(false,eval e X.env)::A3 es X.env:=by rfl) (hpl:(S2 pos (A3 es X.env)).any (·.1)=false:=by rfl):PE X (.Call (.Name x p) (e::es) [] pos) (tCB r t):=by
 intro pins s σ H Q I h;refine tR (gI I hg hm hv ?_ hn hdb);exact PyProof.Rows.callWith_builtin1 (thn (ha pos pins s σ H _ I h) λus s1 ⟨vs,H1,I1,r1,q1⟩=>hc pins s1 σ H1 vs us Q I1 r1 q1) he hpl
theorem yP(hc:wV X (.type T) r)(hg:Gl X x)(hm:X.mg x=none)(hv:A2 x=Y (.type T))(ha:PA X (e::es) t)(hn:x≠ "__name__":=by decide)(hdb:(x==("__debug__" :Str))=false:=by decide)
  (he:A3 (e::es) X.env=(false,eval e X.env)::A3 es X.env:=by rfl) (hpl:(S2 pos (A3 es X.env)).any (·.1)=false:=by rfl):PE X (.Call (.Name x p) (e::es) [] pos) (tCB r t):=by
 intro pins s σ H Q I h;refine tR (gI I hg hm hv ?_ hn hdb);exact rC (thn (ha pos pins s σ H _ I h) λus s1 ⟨vs,H1,I1,r1,q1⟩=>hc pins s1 σ H1 vs us Q I1 r1 q1) he hpl
end
end L2
namespace HT
open PySem PyProof.Rows
section
open PySem.SeqAt
open PySem.AutoSeq1 (wpAny_loadPart')
open PySem.MeetsSeq PySem.MeetsSeq2 PySem.MeetsSeq3
end
section
variable{prog:V3}{w:V4}{A:Around}{E:V0->V2->Prop}{s:V2}
theorem cat_tup{t b:V1}{vs ws:List V0}{Q:V0->V2->Prop}(ht:IsTup s.heap t vs.toArray)(hb:IsTup s.heap b ws.toArray)(hv:vs≠ [])
  (h1:ws= []->Q (.ref t) s) (h2:ws≠ []->Q (.ref s⁻¹) {s with heap:=s.heap.push {cls:=.type "tuple",data:=.seq (vs++ws).toArray}})
  (hsz:vs...*+ws...*<=V9):V8 (S6 prog w) A (binaryOp .Add (.ref t) (.ref b)) Q E s:=by
 obtain⟨⟨cls,dd,data,sl⟩,ho,hc,n,hd⟩:=id ht;obtain⟨⟨cls2,dd2,data2,sl2⟩,ho2,hc2,n2,hd2⟩:=id hb;simp only at hc hd hc2 hd2;subst hc hd hc2 hd2;let e:vs.toArray++ws.toArray=(vs++ws).toArray:=by simp
 by_cases hw:ws= []
 ·exact concat_meets ⟨_,ho,O⟩ ⟨_,ho2,O⟩ noFill_tuple_add seq_tuple_add PySem.F.slot_tuple_add PySem.F.entry_tuple_add (PySem.F.args_tuple_add_2 _ _)
   (tuple_addW1 t b vs.toArray ws.toArray n n2 dd dd2 sl sl2 (by simpa using hv) (by simp[hw])) {ho,ho2,h1 hw}
 ·refine concat_meets ⟨_,ho,O⟩ ⟨_,ho2,O⟩ noFill_tuple_add seq_tuple_add PySem.F.slot_tuple_add PySem.F.entry_tuple_add (PySem.F.args_tuple_add_2 _ _)
   (tuple_addW2 t b vs.toArray ws.toArray n n2 dd dd2 sl sl2 (by simpa using hv) (by simpa using hw) (by rw[List.size_toArray,List.size_toArray];exact hsz)) {ho,ho2, ?_}
  rw[e];exact h2 hw
def sIx(n d:Nat):Option Int->Nat
 | none=>d
 | some v=>if v<0 then(v+(n:Int)).toNat else min v.toNat n
theorem sIx_none(n d:Nat):sIx n d none=d:=rfl
theorem sIx_nat(n d k:Nat):sIx n d ↥(k:Int)=min k n:=by
 show(if(k:Int)<0 then((k:Int)+(n:Int)).toNat else min (k:Int).toNat n)=min k n;rw[if_neg ∅,Int.toNat_natCast]
theorem yDr(n d:Nat)(hd:d<=n)(o:Option Int):sIx n d o<=n:=by
 cases o with
 | none=>exact hd
 | some v=>
  show(if v<0 then(v+(n:Int)).toNat else min v.toNat n)<=n
  by_cases hv:v<0
  ·rw[if_pos hv];lia
  ·rw[if_neg hv];exact Nat.min_le_right _ _
theorem zPz(v:Int)(n d:Nat):(if v<0 then max (v+(n:Int)) 0 else min v (n:Int))=((sIx n d ↥v:Nat):Int):=by
 show(if v<0 then max (v+(n:Int)) 0 else min v (n:Int))=(((if v<0 then(v+(n:Int)).toNat else min v.toNat n):Nat):Int)
 by_cases hv:v<0
 ·simp only[if_pos hv];lia
 ·simp only[if_neg hv];lia
theorem zNy(lo hi:Option Int)(n:Nat):Builtin.Slice.sliceAdjust lo hi 1 (n:Int)=(((sIx n 0 lo:Nat):Int),((sIx n n hi:Nat):Int)):=by
 let h1:¬((1:Int)<0):=by lia
 unfold Builtin.Slice.sliceAdjust;simp only[h1,if_false];refine Prod.ext ?_ ?_
 ·cases lo with
  | none=>rfl
  | some v=>exact zPz v n 0
 ·cases hi with
  | none=>rfl
  | some v=>exact zPz v n n
theorem zNw(i j:Nat):Builtin.Slice.slicePlaces (i:Int) (j:Int) 1=j - i:=by
 unfold Builtin.Slice.slicePlaces;let h1:(1:Int)>0:=by lia
 simp only[h1,if_true,Int.ediv_one];split<;>lia
theorem zFy{v:V0}{o:Option Int}{Q:Option Int->V2->Prop}(p:IsPart v o)(h:Q o s):V8 (S6 prog w) A (Builtin.Slice.slicePartIndex v) Q E s:=by
 cases p with
 | none=>exact slicePart_none h
 | int i t=>exact slicePart_int h
theorem gY{sl:V1}{vl vu:V0}{lo hi:Option Int}{n:Nat}{Q:Int×Int×Nat->V2->Prop}(hs:s.heap.IsSliceOf sl vl vu .none)(pl:IsPart vl lo)(pu:IsPart vu hi)
  (h:Q (((sIx n 0 lo:Nat):Int),1,sIx n n hi - sIx n 0 lo) s):V8 (S6 prog w) A (Builtin.Slice.sliceApplied (.ref sl) (pure (n:Int))) Q E s:=by
 refine xD (id hs) λos hos hcs hds=>?_;unfold Builtin.Slice.sliceApplied Builtin.Slice.sliceFields;refine wpAny_bind (wpAny_bind (wpAny_field hos hds (x:=vl) O (wpAny_bind (wpAny_field hos hds (x:=vu) O (wpAny_bind (wpAny_field hos hds (x:=.none) O (wpAny_pure ?_)))))));refine wpAny_bind (slicePart_none ?_);show V8 _ _ (if((1:Int)==0)=true then _ else _) _ _ s;rw[if_neg ∎];refine wpAny_bind (zFy pl (wpAny_bind (zFy pu (wpAny_bind (wpAny_pure ?_)))));show V8 _ _ (match Builtin.Slice.sliceAdjust lo hi 1 (n:Int) with |(lo,hi)=>pure (lo,(1:Int),Builtin.Slice.slicePlaces lo hi 1)) _ _ s
 rw[zNy lo hi n];show V8 _ _ (pure (((sIx n 0 lo:Nat):Int),(1:Int),Builtin.Slice.slicePlaces ((sIx n 0 lo:Nat):Int) ((sIx n n hi:Nat):Int) 1)) _ _ s;rw[zNw];exact wpAny_pure h
theorem zXs(xs:Array V0)(i k:Nat):((List.range k).filterMap fun(m:Nat)=>xs[((i:Int)+(m:Int)*1).toNat]?).toArray=((xs.toList.drop i).take k).toArray:=by
 let e:(fun(m:Nat)=>xs[((i:Int)+(m:Int)*1).toNat]?)=λm=>xs[i+m]?:=by
  funext m
  let:((i:Int)+(m:Int)*1).toNat=i+m:=by lia
  rw[this]
 rw[e];let:=pick_run xs i k;rw[List.filterMap_map] at this;let e2:((λx=>xs[x]?)∘λx=>i+x)=λm=>xs[i+m]?:=rfl;rw[e2] at this;rw[this]
theorem getItem_tuple_cut{t sl:V1}{items:Array V0}{vl vu:V0}{lo hi:Option Int}{Q:V0->V2->Prop}(ht:IsTup s.heap t items)(hs:s.heap.IsSliceOf sl vl vu .none)(pl:IsPart vl lo)(pu:IsPart vu hi)
  (hw:¬(sIx items.size 0 lo=0/\sIx items.size items.size hi=items.size))
  (h:Q (.ref s⁻¹) {s with heap:=s.heap.push {cls:=.type "tuple",data:=.seq ((items.toList.drop (sIx items.size 0 lo)).take (sIx items.size items.size hi - sIx items.size 0 lo)).toArray}})
  (hsz:items.size<=V9):V8 (S6 prog w) A (getItem (.ref t) (.ref sl)) Q E s:=by
 let htake:sizeOk (.seq ((items.toList.drop (sIx items.size 0 lo)).take (sIx items.size items.size hi - sIx items.size 0 lo)).toArray):=by
  show((items.toList.drop (sIx items.size 0 lo)).take (sIx items.size items.size hi - sIx items.size 0 lo)).toArray.size<=V9;rw[List.size_toArray,List.length_take,List.length_drop,Array.length_toList]
  lia
 let hj:sIx items.size items.size hi<=items.size:=yDr _ _ (Nat.le_refl _) hi;refine xD (id hs) λos hos hcs hds=>?_;let hTs:s.TypeIs (.ref sl) "slice":=⟨os,hos,hcs⟩;unfold getItem
 try with_reducible refine wpAny_holding ?_
 first | refine wpAny_bind (wpAny_pure ?_)| skip
 refine wpAny_bind (wpAny_sequenceKey ht.typeIs ∎ ?_);refine wpAny_bind (wpAny_callSpecial?_slot (name:=A6 "__getitem__") ht.typeIs PyProof.Rows.slot_tuple_getitem
  (wpAny_call_entry PyProof.Rows.slot_tuple_getitem ht.typeIs entry_tuple_getitem ?_ (args_tuple_getitem _ _)))
 show V8 _ _ (Builtin.Tuple.tupleItemsOf (.ref t)>>=_) _ _ s;refine wpAny_bind (tupleItemsOf_ ht ?_);refine wpAny_bind (wpAny_typeOf hTs ?_);rw[if_pos ∎];refine wpAny_bind (gY hs pl pu ?_);let hno:¬((((sIx items.size 0 lo:Nat):Int)==0 && (1:Int)==1 && (sIx items.size items.size hi - sIx items.size 0 lo)==items.size)=true):=by
  intro q;rw[Bool.and_eq_true,Bool.and_eq_true] at q;let q1:((sIx items.size 0 lo:Nat):Int)=0:=eq_of_beq q.1.1;let q2:sIx items.size items.size hi - sIx items.size 0 lo=items.size:=eq_of_beq q.2;exact hw {∅,∅}
 show V8 _ _ (if(((sIx items.size 0 lo:Nat):Int)==0 && (1:Int)==1 && (sIx items.size items.size hi - sIx items.size 0 lo)==items.size)=true then _ else _) _ _ s;rw[if_neg hno,zXs]
 first
  | exact wpAny_bind (m:=Builtin.Tuple.tupleExact _) (wpAny_newObj_type (wpAny_pure {_,O,wpAny_pure h}) htake)
  | exact wpAny_bind (m:=Builtin.Tuple.tupleExact _) (wpAny_newObj_type (wpAny_bind (wpAny_pure (wpAny_pure {_,O,wpAny_pure h}))) htake)
  | exact wpAny_bind (wpAny_bind (m:=Builtin.Tuple.tupleExact _) (wpAny_newObj_type (wpAny_pure (wpAny_pure {_,O,wpAny_pure h})) htake))
  | exact wpAny_bind (wpAny_bind (m:=Builtin.Tuple.tupleExact _) (wpAny_newObj_type (wpAny_pure {_,O,wpAny_pure h}) htake))
end
end HT
namespace L2
open PySem PySem.Spec PyProof.Rows
abbrev TO:=St->Hp->(Option Int->Hp->Prop)->Prop
def PO(X:Cx)(e:Option Expr)(t:TO):Prop:=
 ∀(pins:List (V1×Obj))(s:V2)(σ:St)(H:Hp)(Q:Option Int->Hp->Prop),Inv X pins σ H s->t σ H Q->
  V8 (S6 X.prog X.w) X.A (evalPart e X.env) (λu s'=>∃o H',Inv X pins σ H' s'/\IsPart u o/\Q o H') X.xe s
def zIs:TO:=λ_ H Q=>Q none H
def zUq(t:TE):TO:=λσ H Q=>t σ H λx H1=>∃i,x= .int i/\Q ↥i H1
theorem zNg{ns:List Int}:∀{us:List V0},Vals (ns.map V.int) us->IntsAre us ns:=by
 induction ns with
 | nil=>intro us r;rw[rB] at r;cases r;exact .nil
 | cons n ns ih=>
  intro us r;rw[mV] at r
  cases r with
  | cons r1 r2=>
   obtain⟨t,e⟩:=r1;subst e;exact .cons n t (ih r2)
section
variable{X:Cx}{e:Expr}{te:TE}{lo hi:Option Expr}{tl th:TO}{pos p2:Pos}
theorem wG:PO X none zIs:=by
 intro pins s σ H Q I h;rw[evalPart_none];exact nO {none,H,I, .none,h}
theorem xO(h:PE X e te):PO X ↥e (zUq te):=by
 intro pins s σ H Q I hw;rw[evalPart_some];refine thn (h pins s σ H _ I hw) λu s1 ⟨x,H1,I1,r1,q1⟩=>?_;obtain⟨i,rfl,q⟩:=q1;obtain⟨t,rfl⟩:=r1;exact{Y i,H1,I1, .int i t,q}
def SlR(X:Cx)(r:V->Option Int->Option Int->Hp->VK->Prop):Prop:=
 ∀(pins:List (V1×Obj))(s:V2)(σ:St)(H:Hp)(x:V)(v vl vu:V0)(lo hi:Option Int)(sl:V1)(Q:VK),Inv X pins σ H s->RelV x v->s.heap.IsSliceOf sl vl vu .none->IsPart vl lo->IsPart vu hi->r x lo hi H Q->
  ∃T id,typeLookup (.type T) "__getitem__" =pure ↥(.builtin id)/\s.TypeIs v T/\V8 (S6 X.prog X.w) X.A (getItem v (.ref sl)) (EP X pins σ Q) X.xe s
def tSl(r:V->Option Int->Option Int->Hp->VK->Prop)(te:TE)(tl th:TO):TE:=λσ H Q=>te σ H λx H1=>tl σ H1 λl H2=>th σ H2 λu H3=>r x l u H3 Q
theorem xS{r:V->Option Int->Option Int->Hp->VK->Prop}(hr:SlR X r)(he:PE X e te)(hl:PO X lo tl)(hu:PO X hi th):PE X (.Subscript e (.Slice lo hi none p2) pos) (tSl r te tl th):=by
 intro pins s σ H Q I h;refine Subscript_ (thn (he pins s σ H _ I h) λv s1 ⟨x,H1,I1,r1,q1⟩=>?_);refine wpAny_Slice (thn (hl pins s1 σ H1 _ I1 q1) λvl s2 ⟨l,H2,I2,pl,q2⟩=>thn (hu pins s2 σ H2 _ I2 q2) λvu s3 ⟨u,H3,I3,pu,q3⟩=>?_);rw[evalPart_none];refine nO ?_;let I4:Inv X pins σ H3 {s3 with heap:=s3.heap.push {cls:=.type "slice",data:=.fields #[vl,vu, .none]}}:=I3.kept (t':=s3.toks) λb ob q=>mU _ q;refine yN (hr pins {s3 with heap:=s3.heap.push {cls:=.type "slice",data:=.fields #[vl,vu, .none]}} σ H3 x v vl vu l u s3⁻¹ Q I4 r1 (Heap.IsSliceOf.new ..) pl pu q3) λT id hT ht hg=>?_;show V8 (S6 X.prog X.w) X.A (subscriptTail e (.Slice lo hi none p2) v (.ref s3⁻¹)) (EP X pins σ Q) X.xe {s3 with heap:=s3.heap.push {cls:=.type "slice",data:=.fields #[vl,vu, .none]}};exact tail_any (ops:=[.ref s3⁻¹,v]) ht hT hg (by with_unfolding_all rfl)
def kQ(xs:List V)(lo hi:Option Int):List V:=(xs.drop (HT.sIx xs...* 0 lo)).take (HT.sIx xs...* xs...* hi - HT.sIx xs...* 0 lo)
theorem zDs(xs:List V)(lo hi:Option Int):(kQ xs lo hi)...*<=xs...*:=by
 unfold kQ;rw[pH,nG]
 lia
def rSlT(K:A7):V->Option Int->Option Int->Hp->VK->Prop:=λx lo hi H Q=>∃a xs,x= .ref a/\SqT K H a xs/\
 ¬(HT.sIx xs...* 0 lo=0/\HT.sIx xs...* xs...* hi=xs...*)/\∀p,H p=none->Q (.ref p) (upd H p (.tup (kQ xs lo hi)))
theorem yFf:SlR X (rSlT X.K):=by
 intro pins s σ H x v vl vu lo hi sl Q I rx hs pl pu h;ext yA h a xs r2_ hx hw q;subst r2_;cases rx;refine xD (I.tuple hx) λits r ht hz=>?_;let hlen:its.toArray.size=xs...*:=by rw[nF];exact r.length.symm
 refine{"tuple",_,PyProof.Rows.slot_tuple_getitem.lookup,ht.typeIs, ?_};refine HT.getItem_tuple_cut ht hs pl pu (by rw[hlen];exact hw) ?_ (by rw[hlen];exact hz);rw[hlen];refine{.ref s⁻¹,_,I.laid (t':=s.toks) (o:=.tup (kQ xs lo hi)) (λb ob q=>mU _ q) (mB _) ?_,O,q _ (I.hok.fresh (mB _))};exact{nS (zDs xs lo hi) hz,_,(r.drop (HT.sIx xs...* 0 lo)).take (HT.sIx xs...* xs...* hi - HT.sIx xs...* 0 lo),IsTup.new _ _}
def yBa(K:A7):R2:=λx y H Q=>∃a b xs ys,x= .ref a/\y= .ref b/\SqT K H a xs/\SqT K H b ys/\xs≠ []/\xs...*+ys...*<=V9/\
 (ys= []->Q (.ref a) H)/\(ys≠ []->∀p,H p=none->Q (.ref p) (upd H p (.tup (xs++ys))))
theorem Vals.nil_iff{xs:List V}{us:List V0}(r:Vals xs us):us= []↔xs= []:=by
 cases r with
 | nil=>simp
 | cons _ _=>simp
theorem zYg:OpR X (binaryOp .Add) (yBa X.K):=by
 intro pins s σ H x y v u Q I rx ry h;ext yS h a b xs ys r4_ z_;ext yR z_ r5_ ha hb hx hz z_;ext oA z_ q1 q2;subst r4_ r5_;cases rx;cases ry;refine xD (I.tuple ha) λits r1 p1 _=>?_;refine xD (I.tuple hb) λits2 r2 p2 _=>?_;refine HT.cat_tup p1 p2 (λz=>hx (r1.nil_iff.mp z)) (λz=>{.ref a,H,I,O,q1 (r2.nil_iff.mp z)}) (λz=>?_) (by rw[<-r1...*,<-r2...*];exact hz);refine{.ref s⁻¹,_,I.laid (t':=s.toks) (o:=.tup (xs++ys)) (λb ob q=>mU _ q) (mB _) ?_,O,q2 (λw=>z (r2.nil_iff.mpr w)) _ (I.hok.fresh (mB _))};exact{by rw[mK];exact hz,_,r1.append r2,IsTup.new _ _}
end
def ixN(n:Nat)(i:Int):Option Nat:=if 0<=i then(if i<n then Y i.toNat else none) else if -(n:Int)<=i then Y (i+n).toNat else none
def atI{α:Type}(xs:List α)(i:Int):Option α:=(ixN xs...* i).bind λj=>xs[j]?
theorem zJy{n:Nat}{i:Int}{j:Nat}(h:ixN n i=Y j):seqIndex? i n=Y j/\j<n/\-(n:Int)<=i/\i<n:=by
 unfold ixN at h
 by_cases h0:0<=i
 ·rw[mO h0] at h
  by_cases h1:i<n
  ·rw[mO h1] at h
   let e:i.toNat=j:=mM h;exact{by rw[seqIndex_of h0 h1,e],∅,∅,h1}
  ·rw[mL h1] at h;cases h
 ·rw[mL h0] at h
  by_cases h1: -(n:Int)<=i
  ·rw[mO h1] at h
   let e:(i+n).toNat=j:=mM h;exact{by rw[seqIndex_neg ∅ h1,e],∅,h1,∅}
  ·rw[mL h1] at h;cases h
theorem zKb{α:Type}{xs:List α}{i:Int}{v:α}(h:atI xs i=Y v):∃j,seqIndex? i xs...*=Y j/\xs[j]? =Y v/\j<xs...*/\-(xs...*:Int)<=i/\i<xs...*:=by
 unfold atI at h
 cases e:ixN xs...* i with
 | none=>rw[e] at h;cases h
 | some j=>
  rw[e] at h;refine xI (zJy e) λh1 h2 h3 h4=>?_;exact⟨j,h1,h,h2,h3,h4⟩
theorem yH{α:Type}{xs:List α}{j:Nat}{v:α}(h:xs[j]? =Y v):atI xs (j:Int)=Y v:=by
 let hj:j<xs...*:=(mP.mp h).1;let e:ixN xs...* (j:Int)=Y j:=by
  unfold ixN;rw[mO ∅,mO ∅];simp
 unfold atI;rw[e];exact h
theorem wL{α:Type}(xs:List α)(v:α):atI (xs++ [v]) (-1)=Y v:=by
 let hl:(xs++ [v])...*=xs...*+1:=by simp
 let e:ixN (xs++ [v])...* (-1)=Y xs...*:=by
  unfold ixN;rw[hl,mL ∎,mO ∅]
  congr 1
  lia
 unfold atI;rw[e];show(xs++ [v])[xs...*]? =Y v;simp
def zYo(b:Expr):Prop:=∀o i,subscripted b false o i=operate [o,i] (getItem o i)
def IxR(X:Cx)(r:R2):Prop:=
 ∀(value slice:Expr)(pins:List (V1×Obj))(s:V2)(σ:St)(H:Hp)(x y:V)(v u:V0)(Q:VK),Inv X pins σ H s->RelV x v->RelV y u->r x y H Q->
  subscripted slice false v u=operate [v,u] (getItem v u)->V8 (S6 X.prog X.w) X.A (subscriptTail value slice v u) (EP X pins σ Q) X.xe s
def MtR(X:Cx)(id:String)(r:V->List V->Hp->VK->Prop):Prop:=
 ∀(pins:List (V1×Obj))(s:V2)(σ:St)(H:Hp)(x:V)(xs:List V)(v:V0)(us:List V0)(Q:VK),Inv X pins σ H s->RelV x v->Vals xs us->r x xs H Q->
  V8 (S6 X.prog X.w) X.A (call (.builtin id) (v::us)) (EP X pins σ Q) X.xe s
section
variable{X:Cx}{a b:Expr}{ta tb:TE}{pos:Pos}
theorem yJ{r:R2}(hr:IxR X r)(ha:PE X a ta)(hb:PE X b tb)(hs:zYo b):PE X (.Subscript a b pos) (tOp r ta tb):=by
 intro pins s σ H Q I h;exact Subscript_ (yEv ha hb I h λv u s2 x y H2 I2 rx ry q=>hr a b pins s2 σ H2 x y v u Q I2 rx ry q (hs _ _))
def yAx(K:A7):R2:=λx y H Q=>∃p xs i v,x= .ref p/\y= .int i/\SqL K H p xs/\atI xs i=Y v/\Q v H
def yDs(K:A7):R2:=λx y H Q=>∃p xs i v,x= .ref p/\y= .int i/\SqT K H p xs/\atI xs i=Y v/\Q v H
def rIxS:R2:=λx y H Q=>∃z i c,x= .str z/\y= .int i/\z...*<=V9/\atI z.cps.toList i=Y c/\Q (.str {#[c]}) H
theorem zW:IxR X (yAx X.K):=by
 intro value slice pins s σ H x y v u Q I rx ry h hs;ext yS h p xs i z r4_ z_;ext xI z_ r5_ hq he q;subst r4_ r5_;cases rx;obtain⟨t,rfl⟩:=ry;refine xD (I.list hq) λits r pl hz=>?_;refine qB (zKb he) λj h1 h2 h3 h4 h5=>?_;obtain⟨w,ew,rw'⟩:=r.get h2;let hl:=r...*;let hn:=zBt;let fin:EP X pins σ Q w s:=⟨z,H,I,rw',q⟩
 by_cases h0:0<=i
 ·let hj:i.toNat=j:=by
   rw[seqIndex_of h0 h5] at h1;exact mM h1
  exact item_listR pl.isList h0 ∅ (by rw[hj];simpa using ew) fin hs
 ·let hj:(i+(its.toArray.size:Int)).toNat=j:=by
   rw[seqIndex_neg ∅ h4] at h1;rw[nF,<-hl];exact mM h1
  exact subscriptTail_builtinR (x:=w) pl.isList.typeIs slot_list_getitem.lookup
   (wpAny_getItem_list_neg (Q:=λr s'=>r=w/\EP X pins σ Q r s') pl.isList ∅ (by rw[nF]<;>lia) ∅ (by rw[hj];simpa using ew) ⟨O,fin⟩) hs
theorem qT:IxR X (yDs X.K):=by
 intro value slice pins s σ H x y v u Q I rx ry h hs;ext yS h p xs i z r4_ z_;ext xI z_ r5_ hq he q;subst r4_ r5_;cases rx;obtain⟨t,rfl⟩:=ry;refine xD (I.tuple hq) λits r pl hz=>?_;refine qB (zKb he) λj h1 h2 h3 h4 h5=>?_;obtain⟨w,ew,rw'⟩:=r.get h2;let hl:=r...*;let hn:=zBt;let fin:EP X pins σ Q w s:=⟨z,H,I,rw',q⟩;exact subscriptTail_builtinR (x:=w) pl.typeIs slot_tuple_getitem.lookup
  (getItem_tuple (j:=j) (Q:=λr s'=>r=w/\EP X pins σ Q r s') pl ∅ ∅ (by rw[nF,<-hl];exact h1) (by simpa using ew) ⟨O,fin⟩) hs
theorem zDf:IxR X rIxS:=by
 intro value slice pins s σ H x y v u Q I rx ry h hs;ext yC h z i c r3_ r4_ z_;ext oAA z_ hz he q;subst r3_ r4_;obtain⟨t,rfl⟩:=rx;obtain⟨t',rfl⟩:=ry;refine qB (zKb he) λj h1 h2 h3 h4 h5=>?_;let hl:z.cps.toList...*=z...*:=by simp[Str.length]
 rw[hl] at h1 h4 h5;let hn:=zBt;exact tail_any (bM s z t) slot_str_getitem.lookup (getItem_str (c:=c) (by
  let e1:decide (i< -(2 ^ 63:Int))=false:=nL ∅;let e2:decide (i≥2 ^ 63)=false:=nL ∅;rw[e1,e2,Bool.or_false]) (by rw[h1];simpa using h2) {.str {#[c]},H,I.tok _,⟨_,O⟩,q}) hs
theorem zNm(its:List V0)(n j:Nat)(u:V0):Obj.mapSeq (·.setIfInBounds j u) {cls:=.type "list",data:=.seq its.toArray n}={cls:=.type "list",data:=.seq (its.set j u).toArray n}:=by
 simp[Obj.mapSeq]
theorem Inv.lst{pins:List (V1×Obj)}{σ:St}{H:Hp}{s:V2}{p:V1}{xs:List V}(I:Inv X pins σ H s)(h:H p=Y (.lst xs)):
  ∃(its:List V0)(n:Nat),Vals xs its/\s.heap.get? p=some {cls:=.type "list",data:=.seq its.toArray n}/\xs...*<=V9:=by
 obtain⟨z,its,n,r,e⟩:=I.hok p _ h;exact⟨its,n,r,e,z⟩
theorem Inv.lstUpd{pins:List (V1×Obj)}{σ:St}{H:Hp}{s:V2}{p:V1}{xs ys:List V}{its its':List V0}{n n':Nat}{f:Obj->Obj}(I:Inv X pins σ H s)(h:H p=Y (.lst xs))
  (ho:s.heap.get? p=some {cls:=.type "list",data:=.seq its.toArray n}) (hf:f {cls:=.type "list",data:=.seq its.toArray n}={cls:=.type "list",data:=.seq its'.toArray n'}) (r:Vals ys its') (hz:ys...*<=V9) (t:Nat):
  Inv X pins σ (upd H p (.lst ys)) {s with heap:=s.heap.update p f,toks:=t}:=by
 let e:(s.heap.update p f).get? p=some {cls:=.type "list",data:=.seq its'.toArray n'}:=by
  rw[bJ f ho (by rw[hf]<;>rfl),hf]
 refine I.write (x:=p) (e:=p) (by rw[h];trivial) (.inl O) (λb u hb q=>(pQ _ _ (Ne.symm hb)).trans q) ⟨_,e⟩ ?_;exact⟨hz,its',n',r,e⟩
def rSetL:V->V->V->Hp->(Hp->Prop)->Prop:=λo i v H Q=>∃p xs k j,o= .ref p/\i= .int k/\H p=Y (.lst xs)/\ixN xs...* k=Y j/\Q (upd H p (.lst (xs.set j v)))
theorem zTv:PSet X rSetL:=by
 intro pins s σ H o i v ov iv u Q I ro ri rv h;ext yS h p xs k j r4_ z_;ext xI z_ r5_ hp hj q;subst r4_ r5_;cases ro;obtain⟨t,rfl⟩:=ri;refine yN (I.lst hp) λits n r ho hz=>?_;refine xI (zJy hj) λh1 h2 h3 h4=>?_;let hl:=r...*;let hn:=zBt;let I':Inv X pins σ (upd H p (.lst (xs.set j v))) {s with heap:=s.heap.update p (Obj.mapSeq (·.setIfInBounds j u))}:=
  I.lstUpd hp ho (zNm its n j u) (r.set rv j) (by rw[sZ];exact hz) s.toks
 by_cases h0:0<=k
 ·let hk:k.toNat=j:=by
   rw[seqIndex_of h0 h4] at h1;exact mM h1
  exact W.ki_setAt ho h0 ∅ (by rw[nF,<-hl];exact h4) (by rw[hk];exact⟨_,I',q⟩)
 ·let hk:(k+(its.toArray.size:Int)).toNat=j:=by
   rw[seqIndex_neg ∅ h3] at h1;rw[nF,<-hl];exact mM h1
  exact W.ki_setBack ho ∅ (by rw[nF,<-hl];exact h3) ∅ (by rw[hk];exact⟨_,I',q⟩)
theorem zJx(lo hi:Option Int)(n:Nat):(sliceBounds lo hi none n).1=((HT.sIx n 0 lo:Nat):Int)/\(sliceBounds lo hi none n).2.1=((HT.sIx n n hi:Nat):Int)/\(sliceBounds lo hi none n).2.2=1:=by
 refine{?_, ?_,O}
 ·cases lo with
  | none=>simp[sliceBounds,HT.sIx]
  | some i=>
   simp only[sliceBounds,HT.sIx,Option.getD_none,show(1:Int)>0 by decide,bW]
   by_cases h:i<0
   ·simp only[h,bW]<;>lia
   ·simp only[h,bX]<;>lia
 ·cases hi with
  | none=>simp[sliceBounds,HT.sIx]
  | some i=>
   simp only[sliceBounds,HT.sIx,Option.getD_none,show(1:Int)>0 by decide,bW]
   by_cases h:i<0
   ·simp only[h,bW]<;>lia
   ·simp only[h,bX]<;>lia
theorem zGz(its:List V0)(lo hi:Option Int):slicePick its.toArray lo hi none=((its.drop (HT.sIx its...* 0 lo)).take (HT.sIx its...* its...* hi - HT.sIx its...* 0 lo)).toArray:=by
 obtain⟨h1,h2,h3⟩:=zJx lo hi its.toArray.size;unfold slicePick;rw[h1,h2,h3];simp only[sliceRange_one,pick_run,nF]<;>rfl
def rSlL(K:A7):V->Option Int->Option Int->Hp->VK->Prop:=λx lo hi H Q=>∃a xs,x= .ref a/\SqL K H a xs/\∀p,H p=none->Q (.ref p) (upd H p (.lst (kQ xs lo hi)))
theorem vD:SlR X (rSlL X.K):=by
 intro pins s σ H x v vl vu lo hi sl Q I rx hs pl pu h;ext yN h a xs r2_ hx q;subst r2_;cases rx;refine xD (I.list hx) λits r ht hz=>?_;let hlen:=r...*;refine{"list",_,slot_list_getitem.lookup,ht.isList.typeIs, ?_};refine wpAny_getItem_list_slice ht.isList hs pl pu .none (by simp) ?_ (by rw[nF]<;>lia);rw[zGz,<-hlen];refine{.ref s⁻¹,_,I.laid (t':=s.toks) (o:=.lst (kQ xs lo hi)) (λb ob q=>mU _ q) (mB _) ?_,O,q _ (I.hok.fresh (mB _))};exact{nS (zDs xs lo hi) hz,_,0,(r.drop (HT.sIx xs...* 0 lo)).take (HT.sIx xs...* xs...* hi - HT.sIx xs...* 0 lo),nP _ O}
def qW:V->Bool
 | .non=>true
 | .bl _=>true
 | .int _=>true
 | .str _=>true
 | _=>false
def eqV:V->V->Bool
 | .non, .non=>true
 | .bl a, .bl b=>a==b
 | .bl a, .int b=>(if a then 1 else 0)==b
 | .int a, .bl b=>a==(if b then 1 else 0)
 | .int a, .int b=>a==b
 | .str a, .str b=>a==b
 | _,_=>false
theorem zVh{A:Around}{s:V2}{y x:V}{u v:V0}(ry:RelV y u)(rx:RelV x v)(fy:qW y=true)(fx:qW x=true):SeqAt.EqAt A s u v (eqV y x):=by
 cases y with
 | non=>
  cases ry
  cases x with
  | non=>cases rx;exact SeqAt.EqAt.same _
  | bl b=>cases rx;exact SeqAt.EqAt.none_bool b
  | int b=>obtain⟨t,rfl⟩:=rx;exact SeqAt.EqAt.none_int b t
  | str b=>obtain⟨t,rfl⟩:=rx;exact SeqAt.EqAt.none_str b t
  | _=>exact absurd (show false=true from fx) nM
 | bl a=>
  cases ry
  cases x with
  | non=>cases rx;exact SeqAt.EqAt.bool_none a
  | bl b=>cases rx;exact SeqAt.EqAt.bool_bool a b
  | int b=>obtain⟨t,rfl⟩:=rx;exact SeqAt.EqAt.bool_int a b t
  | str b=>obtain⟨t,rfl⟩:=rx;exact SeqAt.EqAt.bool_str a b t
  | _=>exact absurd (show false=true from fx) nM
 | int a=>
  obtain⟨t',rfl⟩:=ry
  cases x with
  | non=>cases rx;exact SeqAt.EqAt.int_none a t'
  | bl b=>cases rx;exact SeqAt.EqAt.int_bool a t' b
  | int b=>obtain⟨t,rfl⟩:=rx;exact SeqAt.EqAt.int_int a t' b t
  | str b=>obtain⟨t,rfl⟩:=rx;exact SeqAt.EqAt.int_str a t' b t
  | _=>exact absurd (show false=true from fx) nM
 | str a=>
  obtain⟨t',rfl⟩:=ry
  cases x with
  | non=>cases rx;exact SeqAt.EqAt.str_none a t'
  | bl b=>cases rx;exact SeqAt.EqAt.str_bool a t' b
  | int b=>obtain⟨t,rfl⟩:=rx;exact SeqAt.EqAt.str_int a t' b t
  | str b=>obtain⟨t,rfl⟩:=rx;exact SeqAt.EqAt.str_str a t' b t
  | _=>exact absurd (show false=true from fx) nM
 | _=>exact absurd (show false=true from fy) nM
def eqU(x:V)(u:V0):Bool:=match u with
 | .none=>eqV .non x
 | .bool b=>eqV (.bl b) x
 | .int i _=>eqV (.int i) x
 | .str z _=>eqV (.str z) x
 | _=>false
theorem zTo{x y:V}{u:V0}(r:RelV y u)(f:qW y=true):eqU x u=eqV y x:=by
 cases y with
 | non=>cases r;rfl
 | bl b=>cases r;rfl
 | int i=>obtain⟨t,rfl⟩:=r;rfl
 | str z=>obtain⟨t,rfl⟩:=r;rfl
 | _=>exact absurd (show false=true from f) nM
theorem zJu{x:V}:∀{xs:List V}{us:List V0},Vals xs us->xs.all qW=true->us.any (eqU x)=xs.any λy=>eqV y x
 | _,_, .nil,_=>rfl
 | y::xs,u::us, .cons r t,f=>by
  rw[cK,nU] at f;rw[bG,bG,zTo r f.1,zJu t f.2]
theorem zEy{A:Around}{s:V2}{x:V}{v:V0}(rx:RelV x v)(fx:qW x=true):∀{xs:List V}{us:List V0},Vals xs us->xs.all qW=true->∀u∈us,SeqAt.EqAt A s u v (eqU x u)
 | _,_, .nil,_=>λu hu=>by cases hu
 | y::xs,u::us, .cons r t,f=>λu' hu=>by
  rw[cK,nU] at f;rcases mI.mp hu with rfl | hu
  ·rw[zTo r f.1];exact zVh r rx f.1 fx
  ·exact zEy rx fx t f.2 u' hu
def inV(x:V)(xs:List V):Bool:=xs.any λy=>eqV y x
def rIn(K:A7)(neg:Bool):R2:=λx y H Q=>∃p xs,y= .ref p/\(SqL K H p xs\/SqT K H p xs)/\qW x=true/\xs.all qW=true/\Q (.bl (if neg then !inV x xs else inV x xs)) H
theorem zIi:OpR X (A4 .In) (rIn X.K false):=by
 intro pins s σ H x y v u Q I rx ry h;ext yA h p xs r2_ hq fx z_;ext oA z_ fs q;subst r2_;cases ry;rcases hq with hq | hq
 ·refine xD (I.list hq) λits r pl hz=>?_
  refine SeqAt.in_listAt (eqU x) pl.isList (λw hw=>zEy rx fx r fs w (by simpa using hw)) {.bl _,H,I,O, ?_};rw[show its.toArray.any (eqU x)=its.any (eqU x) by simp,zJu r fs];exact q
 ·refine xD (I.tuple hq) λits r pl hz=>?_
  refine SeqAt.in_tupleAt (eqU x) pl (λw hw=>zEy rx fx r fs w (by simpa using hw)) {.bl _,H,I,O, ?_};rw[show its.toArray.any (eqU x)=its.any (eqU x) by simp,zJu r fs];exact q
theorem kC:wV X (.builtin "len") (λxs H Q=>∃p ys,xs= [.ref p]/\(SqL X.K H p ys\/SqT X.K H p ys)/\Q (.int ys...*) H):=by
 intro pins s σ H xs us Q I r h;ext yN h p ys r2_ hq q;subst r2_;obtain⟨u,rfl,rx⟩:=jC r;cases rx;let hn:=zBt;rcases hq with hq | hq
 ·refine xD (I.list hq) λits r' pl hz=>?_
  let hlen:=r'...*;exact Calls.call_len_list pl.isList (by simp only[nF]<;>lia) {.int ys...*,H,I.tok _,{s.toks+1,by rw[nF,hlen]},q}
 ·refine xD (I.tuple hq) λits r' pl hz=>?_
  let hlen:=r'...*;exact len_tuple pl (by simp only[nF]<;>lia) {.int ys...*,H,I.tok _,{s.toks+1,by rw[nF,hlen]},q}
theorem zCv:wV X (.builtin "len") (λxs H Q=>∃z,xs= [.str z]/\z...*<=V9/\Q (.int z...*) H):=by
 intro pins s σ H xs us Q I r h;ext xD h z r1_ hz q;subst r1_;obtain⟨u,rfl,t,rfl⟩:=jC r;let hn:=zBt;exact len_str ∅ {.int z...*,H,I.tok _,⟨_,O⟩,q}
theorem uK:wV X (.type "list") (λxs H Q=>∃p ys,xs= [.ref p]/\(SqL X.K H p ys\/SqT X.K H p ys)/\∀l,H l=none->Q (.ref l) (upd H l (.lst ys))):=by
 intro pins s σ H xs us Q I r h;ext yN h p ys r2_ hq q;subst r2_;obtain⟨u,rfl,rx⟩:=jC r;cases rx;let fin:∀(its:List V0),Vals ys its->ys...*<=V9->∀(h':V5)(c':Nat),(∀b o',s.heap.get? b=Y o'->h'.get? b=Y o')->
   h'.get? s⁻¹=some {cls:=.type "list",dict:=none,data:=.seq its.toArray c',slots:=#[]}->EP X pins σ Q (.ref s⁻¹) {s with heap:=h'}:=λits r' hz h' c' kp e=>
  {.ref s⁻¹,_,I.laid (t':=s.toks) kp (mB _) (show ObjOk X.prog X.w _ h' _ (.lst ys) from⟨hz,its,c',r',e⟩),O,q _ (I.hok.fresh (mB _))}
 rcases hq with hq | hq
 ·refine xD (I.list hq) λits r' pl hz=>?_
  let hlen:=r'...*;obtain⟨o,ho,hc,n,hd⟩:=pl.isList;exact call_list_seq p (.inl O) ho hc hd (λh' c' kp e=>fin its r' hz h' c' kp e) (by simp only[nF]<;>lia)
 ·refine xD (I.tuple hq) λits r' pl hz=>?_
  let hlen:=r'...*;obtain⟨o,ho,hc,n,hd⟩:=pl;exact call_list_seq p (.inr O) ho hc hd (λh' c' kp e=>fin its r' hz h' c' kp e) (by simp only[nF]<;>lia)
theorem zBn:wV X (.type "tuple") (λxs H Q=>∃p ys,xs= [.ref p]/\((SqL X.K H p ys/\∀l,H l=none->Q (.ref l) (upd H l (.tup ys)))\/(SqT X.K H p ys/\Q (.ref p) H))):=by
 intro pins s σ H xs us Q I r h;ext wA h p ys r2_ h;subst r2_;obtain⟨u,rfl,rx⟩:=jC r;cases rx;rcases h with⟨hq,q⟩|⟨hq,q⟩
 ·refine xD (I.list hq) λits r' pl hz=>?_
  let hlen:=r'...*;refine call_tuple_list pl.isList (λh' kp=>?_) (by simp only[nF]<;>lia);let I1:Inv X pins σ H {s with heap:=h'}:=I.kept (t':=s.toks) kp;let I2:Inv X pins σ (upd H h'.objs.size (.tup ys)) {s with heap:=h'.push {cls:=.type "tuple",data:=.seq its.toArray}}:=
   I1.laid (t':=s.toks) (λb o e=>mU _ e) (mB _) (show ObjOk X.prog X.w _ _ _ (.tup ys) from{hz,its,r',IsTup.new _ _})
  exact{.ref h'.objs.size,_,I2,O,q _ (I1.hok.fresh (mB _))}
 ·refine xD (I.tuple hq) λits r' pl hz=>?_
  exact call_tuple_same pl {.ref p,H,I,O,q}
def tyV(K:A7)(T:String)(x:V)(H:Hp):Prop:=match x with
 | .str _=>T= "str"
 | .int _=>T= "int"
 | .ref p=>(T= "list"/\∃xs,SqL K H p xs)\/(T= "tuple"/\∃o,K.lookup p=Y o/\o.cls= .type "tuple"/\o.dict=none)\/
   (T= "dict"/\((∃kvs,H p=Y (.dK kvs))\/∃kvs,H p=Y (.dT kvs)))\/(T= "set"/\∃S n,H p=Y (.set S n))
 | _=>False
theorem zXq{pins:List (V1×Obj)}{σ:St}{H:Hp}{s:V2}{T:String}{x:V}{v:V0}(I:Inv X pins σ H s)(r:RelV x v)(ty:tyV X.K T x H):
  s.TypeIs v T/\∀a,v= .ref a->∃ob,s.heap.get? a=Y ob/\ob.dict=none:=by
 cases x with
 | str z=>
  obtain⟨t,rfl⟩:=r;cases (show T= "str" from ty);exact{bM s z t,λ_ e=>nomatch e}
 | int i=>
  obtain⟨t,rfl⟩:=r;cases (show T= "int" from ty);exact{typeIs_int s i t,λ_ e=>nomatch e}
 | ref p=>
  cases r;rcases ty with⟨rfl,xs,hq⟩|⟨rfl,o,hk,hc,hd⟩|⟨rfl,hk⟩|⟨rfl,S,n,hk⟩
  ·refine xD (I.list hq) λits _ pl _=>?_
   refine{pl.isList.typeIs,λa e=>?_};cases e;ext yA pl o n e c hd _;exact⟨o,e,hd⟩
  ·refine{⟨o,I.kIn p o hk,hc⟩,λa e=>?_}
   cases e;exact⟨o,I.kIn _ o hk,hd⟩
  ·let z:∃o,s.heap.get? p=Y o/\o.ExactDict:=by
    rcases hk with⟨kvs,hk⟩|⟨kvs,hk⟩
    ·obtain⟨_,_,_,_,o,_,_,e,ex,_⟩:=I.hok p _ hk
     exact⟨o,e,ex⟩
    ·obtain⟨_,_,_,_,o,_,_,e,ex,_⟩:=I.hok p _ hk
     exact⟨o,e,ex⟩
   obtain⟨o,e,ex⟩:=z;refine{⟨o,e,ex.1⟩,λa e2=>?_};cases e2;exact⟨o,e,ex.2.1⟩
  ·refine yS (I.hok p _ hk) λo _ _ _ e z_=>?_
   ext oA z_ ex _;refine{⟨o,e,ex.1⟩,λa e2=>?_};cases e2;exact⟨o,e,ex.2.1⟩
 | _=>exact False.elim ty
def yCv(K:A7)(T:String)(r:V->List V->Hp->VK->Prop)(to:TE):TE:=λσ H Q=>to σ H λx H1=>tyV K T x H1/\r x [] H1 Q
def tBM(K:A7)(T:String)(r:V->List V->Hp->VK->Prop)(to:TE)(t:TA):TE:=λσ H Q=>to σ H λx H1=>tyV K T x H1/\t σ H1 λxs H2=>r x xs H2 Q
variable{o e:Expr}{es:List Expr}{to:TE}{t:TA}{name:Str}{apos cpos:Pos}{T id:String}{r:V->List V->Hp->VK->Prop}
theorem yCy(pa:PlainAttrs T)(slot:Slot T name id)(hty:typeOf (.builtin id)=pure (.type "method_descriptor"))(hm:MtR X id r)(ho:PE X o to)
  (hbase:attributeBase o name X.env (eval o X.env)=eval o X.env:=by rfl) (hline:(apos.endLine==cpos.line)=true:=by rfl):PE X (.Call (.Attribute o name apos) [] [] cpos) (yCv X.K T r to):=by
 intro pins s σ H Q I h;refine wpAny_Call_method0_late hbase hline (thn (ho pins s σ H _ I h) λv s1 ⟨x,H1,I1,r1,ty,q1⟩=>?_);obtain⟨h1,h2⟩:=zXq I1 r1 ty;exact{T,id,pa,slot,hty,h1,h2,sT O (PySem.evalArgs_none (hm pins s1 σ H1 x [] v [] Q I1 r1 .nil q1))}
theorem qF(pa:PlainAttrs T)(slot:Slot T name id)(hty:typeOf (.builtin id)=pure (.type "method_descriptor"))(hm:MtR X id r)(ho:PE X o to)(ha:PA X (e::es) t)
  (hbase:attributeBase o name X.env (eval o X.env)=eval o X.env:=by rfl)
  (hfew:((S2 cpos (A3 (e::es) X.env)).all (λx=>!x.1)&& (backToKw cpos (keywordEach [] X.env)).all (λx=>x.1.isSome)
   && decide ((e::es)...*+([]:List Keyword)...*+(if([]:List Keyword).isEmpty then 0 else 1)<30))=true:=by rfl)
  (hline:(apos.endLine==cpos.line)=true:=by rfl) (hs:A3 (e::es) X.env=(false,eval e X.env)::A3 es X.env:=by rfl) (hplain:(S2 cpos (A3 es X.env)).any (·.1)=false:=by rfl):
  PE X (.Call (.Attribute o name apos) (e::es) [] cpos) (tBM X.K T r to t):=by
 intro pins s σ H Q I h;refine wpAny_Call_method_late hbase hfew hline O (thn (ho pins s σ H _ I h) λv s1 ⟨x,H1,I1,r1,ty,q1⟩=>?_);obtain⟨h1,h2⟩:=zXq I1 r1 ty;refine{T,id,pa,slot,hty,h1,h2, ?_};let hA:=ha cpos pins s1 σ H1 _ I1 q1;rw[hs] at hA⊢;refine sT (by show(false ||(S2 cpos (A3 es X.env)).any (·.1))=false;rw[hplain]<;>rfl) (bN ?_)
 exact thn hA λus s2 ⟨vs,H2,I2,r2,q2⟩=>hm pins s2 σ H2 x vs v us Q I2 r1 r2 q2
/- xs.append(e),list.index on a module's tuple .. are MtR facts of 06m -/
end
def MtM(X:Cx)(id:String)(r:V->List V->Hp->VK->Prop):Prop:=
 ∀(pins:List (V1×Obj))(s:V2)(σ:St)(H:Hp)(x:V)(xs:List V)(v:V0)(us:List V0)(Q:VK),Inv X pins σ H s->RelV x v->Vals xs us->r x xs H Q->
  V8 (S6 X.prog X.w) X.A (call (.builtin id) (v::us)) (EP X pins σ Q) X.xe s
theorem Vals.one{x:V}{us:List V0}(h:Vals [x] us):∃u,us= [u]/\RelV x u:=by
 cases h with
 | cons r h=>
  cases h;exact⟨_,O,r⟩
theorem Vals.two{x y:V}{us:List V0}(h:Vals [x,y] us):∃u v,us= [u,v]/\RelV x u/\RelV y v:=by
 cases h with
 | cons r h=>
  cases h with
  | cons q h=>
   cases h;exact⟨_,_,O,r,q⟩
theorem Vals.eraseIdx:∀{xs:List V}{us:List V0}(i:Nat),Vals xs us->Vals (xs.eraseIdx i) (us.eraseIdx i)
 | _,_,_, .nil=>.nil
 | _,_,0, .cons _ t=>t
 | _,_,i+1, .cons r t=>.cons r (Vals.eraseIdx i t)
theorem Vals.reverse{xs:List V}{us:List V0}(h:Vals xs us):Vals xs.reverse us.reverse:=by
 induction h with
 | nil=>exact .nil
 | cons r t ih=>rw[bB,bB];exact Vals.append ih (.cons r .nil)
theorem zHr{α:Type}:∀(l:List α)(i:Nat),(l.eraseIdx i)...*<=l...*
 | [],_=>mB _
 | _::_,0=>rO _
 | _::r,i+1=>nY (zHr r i)
section
variable{X:Cx}{pins:List (V1×Obj)}{σ:St}{H:Hp}{s:V2}{l b:V1}{xs ys zs:List V}
theorem Inv.lset{its its':List V0}{n:Nat}{f:Array V0->Array V0}{t':Nat}(I:Inv X pins σ H s)(hH:H l=Y (.lst xs))
  (e:s.heap.get? l=some {cls:=.type "list",data:=.seq its.toArray n}) (hf:f its.toArray=its'.toArray) (hv:Vals ys its') (hz:ys...*<=V9):
  Inv X pins σ (upd H l (.lst ys)) {s with heap:=s.heap.update l (Obj.mapSeq f),toks:=t'}:=by
 let q:=PySem.IsL.update e f;rw[hf] at q;refine I.write (x:=l) (e:=l) (by rw[hH];exact trivial) (.inl O) (λb' u hb hu=>(pQ s.heap (Obj.mapSeq f) (Ne.symm hb)).trans hu) ⟨_,q⟩ ?_;exact⟨hz,its',_,hv,q⟩
theorem Inv.lnew{its:List V0}{t':Nat}(I:Inv X pins σ H s)(hv:Vals ys its)(hz:ys...*<=V9):
  Inv X pins σ (upd H s⁻¹ (.lst ys)) {s with heap:=s.heap.push {cls:=.type "list",data:=.seq its.toArray},toks:=t'}:=
 I.laid (λ_ _ q=>mU _ q) (mB _) {hz,its,0,hv,nP _ O}
theorem Inv.fresh(I:Inv X pins σ H s):H s⁻¹=none:=I.hok.fresh (mB _)
theorem Inv.lstM(I:Inv X pins σ H s)(hH:H l=Y (.lst xs)):xs...*<=V9/\∃(its:List V0)(n:Nat),Vals xs its/\xs...*=its...*/\s.heap.get? l=some {cls:=.type "list",data:=.seq its.toArray n}:=by
 obtain⟨z,its,n,r,e⟩:=I.hok l _ hH;exact{z,its,n,r,r...*,e}
theorem zXp{n:Nat}(h:n<=V9):Builtin.List.listTooLong n=false:=by
 unfold Builtin.List.listTooLong;exact nL ∅
end
section
variable{X:Cx}
def zQs:V->List V->Hp->VK->Prop:=λx vs H Q=>∃l xs y,x= .ref l/\vs= [y]/\H l=Y (.lst xs)/\xs...*<V9/\Q .non (upd H l (.lst (xs++ [y])))
theorem vJ:MtM X "list.append" zQs:=by
 intro pins s σ H x vs v us Q I rx rv h;ext yC h l xs y r3_ r4_ z_;ext oAA z_ hH hz q;subst r3_ r4_;cases rx;obtain⟨u,rfl,ru⟩:=rv.one;obtain⟨z,its,n,r,hl,e⟩:=I.lstM hH;refine tS F.slot_list_append ⟨_,e,O⟩ F.entry_list_append (F.args_list_append_2 _ _) (PySem.list_append l its.toArray n u (by rw[nF];lia)) {e, ?_};refine{.non,_,I.lset (its':=its++ [u]) hH e (by simp) (r.append (.cons ru .nil)) ?_,O,q};rw[mK,mY]
 lia
def zZt:V->List V->Hp->VK->Prop:=λx vs H Q=>∃l b xs zs,x= .ref l/\vs= [.ref b]/\H l=Y (.lst xs)/\H b=Y (.lst zs)/\xs...*+zs...*<=V9/\Q .non (upd H l (.lst (xs++zs)))
theorem zDk:MtM X "list.extend" zZt:=by
 intro pins s σ H x vs v us Q I rx rv h;ext yS h l b xs zs r4_ z_;ext vS z_ r5_ hH hB hz q;subst r4_ r5_;cases rx;obtain⟨u,rfl,ru⟩:=rv.one;cases ru;obtain⟨z,its,n,r,hl,e⟩:=I.lstM hH;obtain⟨z2,its2,n2,r2,hl2,e2⟩:=I.lstM hB;let hsz:its.toArray.size+its2.toArray.size<=V9:=by rw[nF,nF];lia
 let hlong:¬(!its.toArray.isEmpty && Builtin.List.listTooLong (its.toArray.size+its2.toArray.size))=true:=by
  rw[zXp hsz,Bool.and_false];exact nM
 refine tS F.slot_list_extend ⟨_,e,O⟩ F.entry_list_extend (F.args_list_extend_2 _ _)
  (AutoSeq1.list_extend_list_list_0 l its.toArray n b its2.toArray n2 hlong (by rw[nF];lia) ∅) {e,e2, ?_}
 refine{.non,_,I.lset (its':=its++its2) hH e (by simp) (r.append r2) ?_,O,q};rw[mK]
 lia
def yBy:V->List V->Hp->VK->Prop:=λx vs H Q=>∃l xs i k y,x= .ref l/\vs= [.int i]/\H l=Y (.lst xs)/\-(2 ^ 63)<=i/\i<2 ^ 63/\seqIndex? i xs...*=Y k/\xs[k]? =Y y/\Q y (upd H l (.lst (xs.eraseIdx k)))
theorem zUf:MtM X "list.pop" yBy:=by
 intro pins s σ H x vs v us Q I rx rv h;ext yM h l xs i k y z_;ext yR z_ r5_ r6_ hH h1 h2 z_;ext oAA z_ hk hy q;subst r5_ r6_;cases rx;obtain⟨u,rfl,ru⟩:=rv.one;obtain⟨t,rfl⟩:=ru;obtain⟨z,its,n,r,hl,e⟩:=I.lstM hH;obtain⟨w,hw,rw'⟩:=r.get hy;refine tS F.slot_list_pop ⟨_,e,O⟩ F.entry_list_pop (F.args_list_pop_2 _ _)
  (MeetsSeq.list_pop_at l its.toArray n i t k w (fitsIndex_both h1 h2) (by rw[nF,<-hl];exact hk) (by rw[<-sG];exact hw) (by rw[nF];lia)) {e, ?_}
 refine{y,_,I.lset (its':=its.eraseIdx k) hH e ?_ (r.eraseIdx k) ?_,rw',q}
 ·show its.toArray.eraseIdxIfInBounds k=(its.eraseIdx k).toArray
  rw[List.eraseIdxIfInBounds_toArray]
 ·let:=zHr xs k
  lia
def yAo:R2:=λx y H Q=>∃l b xs zs,x= .ref l/\y= .ref b/\H l=Y (.lst xs)/\H b=Y (.lst zs)/\xs...*+zs...*<=V9/\∀p,H p=none->Q (.ref p) (upd H p (.lst (xs++zs)))
theorem qU:OpR X (binaryOp .Add) yAo:=by
 intro pins s σ H x y v u Q I rx ry h;ext yS h l b xs zs r4_ z_;ext vS z_ r5_ hH hB hz q;subst r4_ r5_;cases rx;cases ry;obtain⟨z,its,n,r,hl,e⟩:=I.lstM hH;obtain⟨z2,its2,n2,r2,hl2,e2⟩:=I.lstM hB;refine PySem.P.add_list e e2 ?_ (by rw[nF,nF];lia);let ea:its.toArray++its2.toArray=(its++its2).toArray:=by simp
 rw[ea];exact{.ref _,_,I.lnew (t':=s.toks) (r.append r2) (by rw[mK];lia),O,q _ I.fresh}
end
section
variable{prog:V3}{w:V4}{A:Around}{E:V0->V2->Prop}{s:V2}
set_option maxRecDepth 100000 in
end
section
variable{X:Cx}
end
section
variable{κ:Type} [DecidableEq κ]
def jH(kvs:List (κ×V))(k:κ):Option V:=(kvs.find? λkv=>decide (kv.1=k)).map (·.2)
def wQ(kvs:List (κ×V))(k:κ)(v:V):List (κ×V):=
 if(kvs.any λkv=>decide (kv.1=k))=true then kvs.map (λkv=>if kv.1=k then(kv.1,v) else kv) else kvs++ [(k,v)]
def dropK(kvs:List (κ×V))(k:κ):List (κ×V):=kvs.filter λkv=>decide (kv.1≠k)
theorem zCw{p:κ×V}{r:List (κ×V)}{k:κ}(e:p.1=k):jH (p::r) k=Y p.2:=by simp[jH,tT,e]
theorem zAo{p:κ×V}{r:List (κ×V)}{k:κ}(e:¬p.1=k):jH (p::r) k=jH r k:=by simp[jH,tT,e]
theorem zCi(k:κ):∀kvs:List (κ×V),(kvs.any λkv=>decide (kv.1=k))=(jH kvs k).isSome
 | []=>rfl
 | p::r=>by
  rw[bG]
  by_cases e:p.1=k
  ·simp only[zCw e,nH e,Bool.true_or,Option.isSome_some]
  ·rw[zAo e,nL e,Bool.false_or];exact zCi k r
theorem zAh(kvs:List (κ×V))(k:κ)(v:V):(wQ kvs k v)...*<=kvs...*+1:=by
 unfold wQ;split
 ·rw[mC];lia
 ·rw[mK,nI,pP];lia
theorem zXi{kvs:List (κ×V)}{k:κ}(v:V)(h:jH kvs k=none):wQ kvs k v=kvs++ [(k,v)]:=by
 unfold wQ;rw[zCi,h];exact mL ∎
theorem RelO.isSome_eq{o:Option V}{u:Option V0}(r:RelO o u):o.isSome=u.isSome:=by
 cases o with
 | none=>cases u with
  | none=>rfl
  | some _=>exact(show False from r).elim
 | some _=>cases u with
  | none=>exact(show False from r).elim
  | some _=>rfl
theorem RelO.getD{o:Option V}{u:Option V0}{d:V}{d':V0}(r:RelO o u)(rd:RelV d d'):RelV (o.getD d) (u.getD d'):=by
 cases o with
 | none=>cases u with
  | none=>exact rd
  | some _=>exact(show False from r).elim
 | some _=>cases u with
  | none=>exact(show False from r).elim
  | some _=>exact r
theorem KV.val{kvs:List (κ×V)}{vs:List (κ×V0)}(r:KV kvs vs)(k:κ):RelO (jH kvs k) (valueAt vs k):=by
 unfold KV at r
 induction r with
 | nil=>exact mH
 | @cons p q ps qs h t ih=>
  obtain⟨h1,h2⟩:=h
  by_cases e:p.1=k
  ·let e':q.1=k:=h1.symm.trans e
   let b:valueAt (q::qs) k=Y q.2:=by simp[valueAt,tT,e']
   rw[zCw e,b];exact h2
  ·let e':¬q.1=k:=λz=>e (h1.trans z)
   let b:valueAt (q::qs) k=valueAt qs k:=by simp[valueAt,tT,e']
   rw[zAo e,b];exact ih
theorem KV.any{kvs:List (κ×V)}{vs:List (κ×V0)}(r:KV kvs vs)(k:κ):(kvs.any λkv=>decide (kv.1=k))=vs.any λkv=>decide (kv.1=k):=by
 unfold KV at r
 induction r with
 | nil=>rfl
 | cons h t ih=>rw[bG,bG,ih,h.1]
theorem KV.repl{kvs:List (κ×V)}{vs:List (κ×V0)}(r:KV kvs vs)(k:κ){y:V}{u:V0}(ry:RelV y u):
  KV (kvs.map λkv=>if kv.1=k then(kv.1,y) else kv) (vs.map λkv=>if kv.1=k then(kv.1,u) else kv):=by
 unfold KV at r⊢
 induction r with
 | nil=>exact .nil
 | @cons p q ps qs h t ih=>
  rw[mV,mV];refine .cons ?_ ih;obtain⟨h1,h2⟩:=h
  by_cases e:p.1=k
  ·rw[mO e,mO (h1.symm.trans e)];exact⟨h1,ry⟩
  ·rw[mL e,mL (λz=>e (h1.trans z))];exact⟨h1,h2⟩
theorem KV.put{kvs:List (κ×V)}{vs:List (κ×V0)}(r:KV kvs vs)(k:κ){y:V}{u:V0}(ry:RelV y u):KV (wQ kvs k y) (stored vs k u):=by
 unfold wQ stored;rw[r.any k]
 by_cases e:(vs.any λkv=>decide (kv.1=k))=true
 ·rw[mO e,mO e];exact r.repl k ry
 ·rw[mL e,mL e];exact Paired.snoc r ⟨O,ry⟩
theorem KV.drop{kvs:List (κ×V)}{vs:List (κ×V0)}(r:KV kvs vs)(k:κ):KV (dropK kvs k) (without vs k):=by
 unfold KV at r⊢;unfold dropK without
 induction r with
 | nil=>exact .nil
 | @cons p q ps qs h t ih=>
  obtain⟨h1,h2⟩:=h;rw[aH,aH]
  by_cases e:p.1=k
  ·let a:¬decide (p.1≠k)=true:=by simp[e]
   let b:¬decide (q.1≠k)=true:=by simp[h1.symm.trans e]
   rw[mL a,mL b];exact ih
  ·let e':¬q.1=k:=λz=>e (h1.trans z)
   let a:decide (p.1≠k)=true:=by simp[e]
   let b:decide (q.1≠k)=true:=by simp[e']
   rw[mO a,mO b];exact .cons ⟨h1,h2⟩ ih
theorem KV.keys{kvs:List (κ×V)}{vs:List (κ×V0)}(r:KV kvs vs):kvs.map (·.1)=vs.map (·.1):=by
 unfold KV at r
 induction r with
 | nil=>rfl
 | cons h t ih=>rw[mV,mV,ih,h.1]
theorem KV.length{kvs:List (κ×V)}{vs:List (κ×V0)}(r:KV kvs vs):kvs...*=vs...*:=Paired.length r
theorem zSw(kvs:List (κ×V))(k:κ):(dropK kvs k)...*<=kvs...*:=List.length_filter_le _ _
end
theorem zCc{P:V3}{w:V4}{k:Key}{u:V0}(r:RelV (kV k) u):(xC P w).is k u=true:=by
 cases k with
 | inl i=>obtain⟨t,e⟩:=(show∃t,u=Value.int i t from r);subst e;exact zMl P w i t
 | inr x=>obtain⟨t,e⟩:=(show∃t,u=Value.str x t from r);subst e;exact zKu P w x t
theorem zIf{P:V3}{w:V4}:∀{ks:List Key}{us:List V0},Vals (ks.map kV) us->ItemsAre (xC P w) ks us
 | [],_,r=>by rw[rB] at r;cases r;exact .nil
 | k::ks,_,r=>by
  rw[mV] at r
  cases r with
  | cons h t=>exact .cons (zCc h) (zIf t)
abbrev KT(H:Hp):List (List Key×V)->List (List Key×V1×V0)->Prop:=Paired λp q=>p.1=q.1/\H q.2.1=Y (.tup (p.1.map kV))/\RelV p.2 q.2.2
theorem KT.val{H:Hp}{kvs:List (List Key×V)}{xs:List (List Key×V1×V0)}(r:KT H kvs xs)(k:List Key):RelO (jH kvs k) ((atKey xs k).map (·.2)):=by
 induction r with
 | nil=>exact mH
 | @cons p q ps qs h t ih=>
  obtain⟨h1,_,h2⟩:=h
  by_cases e:p.1=k
  ·let e':q.1=k:=h1.symm.trans e
   let b:atKey (q::qs) k=Y q.2:=by simp[atKey,tT,e']
   rw[zCw e,b];exact h2
  ·let e':¬q.1=k:=λz=>e (h1.trans z)
   let b:atKey (q::qs) k=atKey qs k:=by simp[atKey,tT,e']
   rw[zAo e,b];exact ih
theorem KT.repl{H:Hp}{kvs:List (List Key×V)}{xs:List (List Key×V1×V0)}(r:KT H kvs xs)(k:List Key){y:V}{u:V0}(ry:RelV y u):
  KT H (kvs.map λkv=>if kv.1=k then(kv.1,y) else kv) (xs.map (putAt k u)):=by
 induction r with
 | nil=>exact .nil
 | @cons p q ps qs h t ih=>
  rw[mV,mV];refine .cons ?_ ih;obtain⟨h1,h2,h3⟩:=h;unfold putAt
  by_cases e:p.1=k
  ·rw[mO e,mO (h1.symm.trans e)];exact⟨h1,h2,ry⟩
  ·rw[mL e,mL (λz=>e (h1.trans z))];exact⟨h1,h2,h3⟩
theorem KT.put{H:Hp}{kvs:List (List Key×V)}{xs:List (List Key×V1×V0)}(r:KT H kvs xs)(k:List Key){b:V1}{y:V}{u:V0}(hb:H b=Y (.tup (k.map kV)))(ry:RelV y u):
  KT H (wQ kvs k y) (storedH xs k b u):=by
 let e:(kvs.any λkv=>decide (kv.1=k))=(atKey xs k).isSome:=by
  rw[zCi,(r.val k).isSome_eq,cN]
 unfold wQ storedH;rw[e]
 by_cases q:(atKey xs k).isSome=true
 ·rw[mO q,mO q];exact r.repl k ry
 ·rw[mL q,mL q];exact Paired.snoc r ⟨O,hb,ry⟩
theorem KT.keeps{H H':Hp}{kvs:List (List Key×V)}{xs:List (List Key×V1×V0)}(r:KT H kvs xs)(ht:∀b ys,H b=Y (.tup ys)->H' b=Y (.tup ys)):KT H' kvs xs:=
 j2 r λ_ _ z=>{z.1,ht _ _ z.2.1,z.2.2}
section
variable{P:V3}{w:V4}{H:Hp}{h:V5}{a:V1}
theorem yBs{u:HO}(ok:HOk P w H h)(e:Rd H a u):ObjOk P w H h a u:=e.ok ok
theorem kP{kvs:List (Key×V)}(ok:HOk P w H h)(e:Rd H a (.dK kvs)):kvs...*<=V9/\(a==A5)=false/\∃vs,KV kvs vs/\h.DictOf (xC P w) a vs:=
 show ObjOk P w H h a (.dK kvs) from yBs ok e
theorem zHd{kvs:List (Key×V)}(ok:HOk P w H h)(e:H a=Y (.dK kvs)):kvs...*<=V9/\(a==A5)=false/\∃vs,KV kvs vs/\h.DictOf (xC P w) a vs:=kP ok (.inl e)
theorem zDr{ks:List Key}(ok:HOk P w H h)(e:H a=Y (.tup (ks.map kV))):(tupleKind (xC P w)).is h ks a:=by
 obtain⟨_,its,r,o,h1,h2,n,h3⟩:=(show ObjOk P w H h a (.tup (ks.map kV)) from ok a _ e);exact{o,its.toArray,n,h1,h2,h3,by simpa using zIf r}
theorem zFe{kvs:List (List Key×V)}(ok:HOk P w H h)(e:Rd H a (.dT kvs)):kvs...*<=V9/\(a==A5)=false/\
  ∃xs,KT H kvs xs/\h.DictOfH (tupleKind (xC P w)) a xs:=by
 obtain⟨z,y,xs,r,o,es,ep,h1,h2,h3,h4,h5⟩:=(show ObjOk P w H h a (.dT kvs) from yBs ok e);refine{z,y,xs,r,o,es,ep,h1,h2,h3,h4,λx hx=>?_,h5};let all:∀{l:List (List Key×V)}{m:List (List Key×V1×V0)},KT H l m->∀x∈m,(tupleKind (xC P w)).is h x.1 x.2.1:=by
  intro l m q
  induction q with
  | nil=>intro x hx;exact nomatch hx
  | @cons p q ps qs hq t ih=>
   intro x hx;rcases mI.mp hx with e | hx
   ·subst e
    exact zDr ok (by rw[<-hq.1];exact hq.2.1)
   ·exact ih x hx
 exact all r x hx
theorem dt_of{kvs:List (List Key×V)}(ok:HOk P w H h)(e:H a=Y (.dT kvs)):kvs...*<=V9/\(a==A5)=false/\
  ∃xs,KT H kvs xs/\h.DictOfH (tupleKind (xC P w)) a xs:=zFe ok (.inl e)
end
def zDn(H:Hp)(a:V1)(y:V)(r:Option V):Prop:=
 (∃kvs k,Rd H a (.dK kvs)/\y=kV k/\r=jH kvs k)\/∃kvs k b,Rd H a (.dT kvs)/\y= .ref b/\H b=Y (.tup (k.map kV))/\r=jH kvs k
def DPut(H:Hp)(a:V1)(y v:V)(H':Hp):Prop:=
 (∃kvs k,H a=Y (.dK kvs)/\y=kV k/\kvs...*<V9/\H'=upd H a (.dK (wQ kvs k v)))\/
 ∃kvs k b,H a=Y (.dT kvs)/\y= .ref b/\H b=Y (.tup (k.map kV))/\kvs...*<V9/\H'=upd H a (.dT (wQ kvs k v))
theorem DPut.k{H:Hp}{a:V1}{kvs:List (Key×V)}{k:Key}{v:V}(e:H a=Y (.dK kvs))(hl:kvs...*<V9):DPut H a (kV k) v (upd H a (.dK (wQ kvs k v))):=.inl ⟨kvs,k,e,O,hl,O⟩
section
variable{X:Cx}{pins:List (V1×Obj)}{σ:St}{H:Hp}{s:V2}{a:V1}{y v:V}{u r:V0}{o:Option V}{A:Around}{E:V0->V2->Prop}
theorem Inv.big(I:Inv X pins σ H s):A5<s⁻¹:=by
 let h:A0<s⁻¹:=(I.mod.glob.keeps I.bk).lt;exact bO ∎ h
theorem zRp{Q:V0->V2->Prop}(hu:A.units+1<cLine)(I:Inv X pins σ H s)(g:zDn H a y ↥v)(ry:RelV y u)(h:∀w' s',Inv X pins σ H s'->RelV v w'->Q w' s'):
  V8 (S6 X.prog X.w) A (getItem (.ref a) u) Q E s:=by
 rcases g with⟨kvs,k,e,ey,l⟩|⟨kvs,k,b,e,ey,eb,l⟩
 ·subst ey
  obtain⟨z,hd,vs,rel,dd⟩:=kP I.hok e;obtain⟨w',hw,rw'⟩:=j0 (v:=v) (o:=valueAt vs k) (by rw[l];exact rel.val k);exact wpAny_getItem_of (zCc ry) dd.mapOf hw (h w' _ (I.tok _) rw')
 ·subst ey
  cases (show u=Value.ref b from ry);obtain⟨z,hd,xs,rel,dd⟩:=zFe I.hok e;obtain⟨w',hw,rw'⟩:=j0 (v:=v) (o:=(atKey xs k).map (·.2)) (by rw[l];exact rel.val k);obtain⟨p,hp,hp2⟩:=pJ.mp hw;refine wpAny_getItem_heap (tU hu) (zDr I.hok eb) dd hp ?_;rw[hp2];exact h w' _ (I.tok _) rw'
theorem d_in{Q:V0->V2->Prop}(hu:A.units+1<cLine)(I:Inv X pins σ H s)(g:zDn H a y o)(ry:RelV y u)(h:∀s',Inv X pins σ H s'->Q (.bool o.isSome) s'):
  V8 (S6 X.prog X.w) A (A4 .In u (.ref a)) Q E s:=by
 rcases g with⟨kvs,k,e,ey,l⟩|⟨kvs,k,b,e,ey,eb,l⟩
 ·subst ey
  obtain⟨z,hd,vs,rel,dd⟩:=kP I.hok e;refine wpAny_in_of (zCc ry) hd dd.mapOf ?_;rw[<-(rel.val k).isSome_eq,<-l];exact h _ (I.tok _)
 ·subst ey
  cases (show u=Value.ref b from ry);obtain⟨z,hd,xs,rel,dd⟩:=zFe I.hok e;refine wpAny_in_heap (tU hu) (zDr I.hok eb) hd dd ?_;let q:=(rel.val k).isSome_eq;rw[cN] at q;rw[<-q,<-l];exact h _ (I.tok _)
theorem zZx{Q:V0->V2->Prop}(hu:A.units+1<cLine)(I:Inv X pins σ H s)(g:zDn H a y o)(ry:RelV y u)(h:∀s',Inv X pins σ H s'->Q (.bool (!o.isSome)) s'):
  V8 (S6 X.prog X.w) A (A4 .NotIn u (.ref a)) Q E s:=by
 rcases g with⟨kvs,k,e,ey,l⟩|⟨kvs,k,b,e,ey,eb,l⟩
 ·subst ey
  obtain⟨z,hd,vs,rel,dd⟩:=kP I.hok e;refine wpAny_notIn_of (zCc ry) hd dd.mapOf ?_;rw[<-(rel.val k).isSome_eq,<-l];exact h _ (I.tok _)
 ·subst ey
  cases (show u=Value.ref b from ry);obtain⟨z,hd,xs,rel,dd⟩:=zFe I.hok e;refine wpAny_notIn_heap (tU hu) (zDr I.hok eb) hd dd ?_;let q:=(rel.val k).isSome_eq;rw[cN] at q;rw[<-q,<-l];exact h _ (I.tok _)
theorem zEf{h':V5}{t':Nat}{ob:HO}(I:Inv X pins σ H s)(mu:Mut (H a))(hs:Heap.SameBut a s.heap h')(he:∃q,h'.get? a=Y q)(new:ObjOk X.prog X.w (upd H a ob) h' a ob):
  Inv X pins σ (upd H a ob) {s with heap:=h',toks:=t'}:=
 I.write (x:=a) (e:=a) mu (.inl O) (λb q hb z=>(hs.2 b hb).trans z) he new
theorem zJh{P:V3}{w:V4}{H':Hp}{h':V5}{kvs:List (Key×V)}{vs:List (Key×V0)}(z:kvs...*<=V9)(hd:(a==A5)=false)(rel:KV kvs vs)(dd:h'.DictOf (xC P w) a vs):
  ObjOk P w H' h' a (.dK kvs):=⟨z,hd,vs,rel,dd⟩
theorem zSi{H':Hp}{Q:Unit->V2->Prop}(hu:A.units+1<cLine)(I:Inv X pins σ H s)(g:DPut H a y v H')(ry:RelV y u)(rv:RelV v r)(h:∀s',Inv X pins σ H' s'->Q () s'):
  V8 (S6 X.prog X.w) A (setItem (.ref a) u r) Q E s:=by
 rcases g with⟨kvs,k,e,ey,l,eH⟩|⟨kvs,k,b,e,ey,eb,l,eH⟩
 ·subst ey eH
  obtain⟨z,hd,vs,rel,dd⟩:=zHd I.hok e;let hz:vs...*<=V9:=by rw[<-rel...*];exact z
  let hl:(wQ kvs k v)...*<=V9:=by let:=zAh kvs k v;lia
  refine wpAny_setItem_pairs (hsz:=hz) (zCc ry) dd λh' dd' hs=>h _ ?_;let he:∃q,h'.get? a=Y q:=let ⟨q,_,_,hq,_⟩:=dd';⟨q,hq⟩;exact zEf I (by rw[e];exact mH) hs he (zJh hl hd (rel.put k rv) dd')
 ·subst ey eH
  cases (show u=Value.ref b from ry);obtain⟨z,hd,xs,rel,dd⟩:=dt_of I.hok e;let hz:xs...*<=V9:=by rw[<-Paired.length rel];exact z
  let hl:(wQ kvs k v)...*<=V9:=by let:=zAh kvs k v;lia
  refine wpAny_setItem_heap (hsz:=hz) (tU hu) (zDr I.hok eb) dd λh' dd' hs=>h _ ?_;ext yC dd' q es ep hq h2 z_;ext xI z_ h3 h4 _ h5;refine zEf I (by rw[e];exact mH) hs ⟨q,hq⟩ {hl,hd,_,(rel.put k eb rv).keeps λc ys ec=>?_,q,es,ep,hq,h2,h3,h4,h5};rw[zV (ne_of ec e (λz=>nomatch z))];exact ec
end
section
variable{X:Cx}{pins:List (V1×Obj)}{σ:St}{H:Hp}{s:V2}{a:V1}{kvs:List (Key×V)}{k:Key}{u:V0}{A:Around}{E:V0->V2->Prop}
theorem d_pop{v:V}{more:List V0}{Q:V0->V2->Prop}(I:Inv X pins σ H s)(e:H a=Y (.dK kvs))(ry:RelV (kV k) u)(l:jH kvs k=Y v)(hm:more= []\/∃x,more= [x])
  (h:∀w' s',Inv X pins σ (upd H a (.dK (dropK kvs k))) s'->RelV v w'->Q w' s'):V8 (S6 X.prog X.w) A (call (.builtin "dict.pop") (.ref a::u::more)) Q E s:=by
 obtain⟨z,hd,vs,rel,dd⟩:=zHd I.hok e;obtain⟨w',hw,rw'⟩:=j0 (v:=v) (o:=valueAt vs k) (by rw[<-l];exact rel.val k);let hp:(keyPart u).isSome=true:=by
  cases k with
  | inl i=>obtain⟨t,q⟩:=(show∃t,u=Value.int i t from ry);subst q;rfl
  | inr x=>obtain⟨t,q⟩:=(show∃t,u=Value.str x t from ry);subst q;rfl
 let ha:argsOk "dict.pop" {.ref a::u::more,[]}:=by
  rcases hm with q |⟨x,q⟩
  ·subst q;exact PySem.F.args_dict_pop_2 _ _
  ·subst q;exact PySem.F.args_dict_pop_3 _ _ _
 refine bP PySem.F.slot_dict_pop dd.typeIs PySem.F.entry_dict_pop ha (meets_dict_pop_there (xC X.prog X.w) a (zCc ry) more hm hp)
  {vs,w',dd,by rw[<-rel...*];exact z,hw,λh' dd' hs=>h w' _ ?_ rw'}
 let he:∃q,h'.get? a=Y q:=let ⟨q,_,_,hq,_⟩:=dd';⟨q,hq⟩;exact zEf I (by rw[e];exact mH) hs he (zJh (nS (zSw kvs k) z) hd (rel.drop k) dd')
theorem yBr{Q:V0->V2->Prop}(I:Inv X pins σ H s)(e:Rd H a (.dK kvs))(h:∀t s',Inv X pins σ H s'->Q (.int kvs...* t) s'):V8 (S6 X.prog X.w) A (call (.builtin "len") [.ref a]) Q E s:=by
 obtain⟨z,hd,vs,rel,dd⟩:=kP I.hok e;refine call_len_dict hd dd (by rw[<-rel...*];rw[mQ] at z;lia) ?_;rw[<-rel...*];exact h _ _ (I.tok _)
end
def NoSl(i:Expr):Prop:=∀ov iv,subscripted i false ov iv=operate [ov,iv] (getItem ov iv)
theorem yAu{prog:V3}{w:V4}{A:Around}{E:V0->V2->Prop}{s:V2}{env:S8}{value slice:Expr}{pos:Pos}{T id:String}{Q:V0->V2->Prop}
  (hl:typeLookup (.type T) "__getitem__" =pure ↥(.builtin id)) (hs:NoSl slice)
  (h:V8 (S6 prog w) A (eval value env) (λo s₁=>V8 (S6 prog w) A (eval slice env) (λi s₂=>s₂.TypeIs o T/\V8 (S6 prog w) A (getItem o i) Q E s₂) E s₁) E s):
  V8 (S6 prog w) A (eval (.Subscript value slice pos) env) Q E s:=by
 refine Subscript_ (rX h (λo s₁ h₁=>rX h₁ (λi s₂ h₂=>?_) λ_ _ x=>x) λ_ _ x=>x);obtain⟨hT,h₂⟩:=h₂;unfold subscriptTail;refine mS ?_;rw[getitemInPython_of_ne hT.not_modules];refine mS (wpAny_specialOf hT hl ?_);let fin:V8 (S6 prog w) A (subscripted slice false o i) (λr s₃=>V8 (S6 prog w) A (letTemporaryGo value o r>>=λ_=>pure r) Q E s₃) E s₂:=by
  rw[hs o i];exact wpAny_operating (rX h₂ (λr s₃ h₃=>mS (wpAny_letTemporaryGo (nO h₃))) λ_ _ x=>x)
 first
  | exact nO (mS fin)
  | exact mS (nO (mS fin))
  | exact mS fin
theorem zMj{X:Cx}{pins:List (V1×Obj)}{σ:St}{H:Hp}{s:V2}{a:V1}{y:V}{o:Option V}(I:Inv X pins σ H s)(g:zDn H a y o):s.TypeIs (.ref a) "dict":=by
 rcases g with⟨kvs,k,e,_,_⟩|⟨kvs,k,b,e,_,_,_⟩
 ·obtain⟨_,_,vs,_,dd⟩:=kP I.hok e
  exact dd.typeIs
 ·obtain⟨_,_,xs,_,dd⟩:=zFe I.hok e
  exact dd.typeIs
def zCa(td ty:TE):TE:=λσ H Q=>td σ H λx H1=>ty σ H1 λy H2=>∃a v,x= .ref a/\zDn H2 a y ↥v/\Q v H2
def zQw(ty td:TE):TE:=λσ H Q=>ty σ H λy H1=>td σ H1 λx H2=>∃a o,x= .ref a/\zDn H2 a y o/\Q (.bl o.isSome) H2
def zOp(ty td:TE):TE:=λσ H Q=>ty σ H λy H1=>td σ H1 λx H2=>∃a o,x= .ref a/\zDn H2 a y o/\Q (.bl (!o.isSome)) H2
def zOz(td ty tv:TE):TS:=λD σ H=>tv σ H λv H1=>td σ H1 λx H2=>ty σ H2 λy H3=>∃a H4,x= .ref a/\DPut H3 a y v H4/\D.nx σ H4
section
variable{X:Cx}{o i e value:Expr}{pos pos' tpos:Pos}{td ty tv:TE}
theorem wN(hu:X.A.units+1<cLine)(ho:PE X o td)(hi:PE X i ty)(hs:NoSl i):PE X (.Subscript o i pos) (zCa td ty):=by
 intro pins s σ H Q I h;refine yAu PySem.F.slot_dict_getitem.lookup hs (thn (ho pins s σ H _ I h) λu s1 ⟨x,H1,I1,rx,q1⟩=>thn (hi pins s1 σ H1 _ I1 q1) λiv s2 ⟨y,H2,I2,ry,a,v,ex,g,q2⟩=>?_);subst ex;obtain rfl:u=Value.ref a:=rx;exact{zMj I2 g,zRp hu I2 g ry λw' s3 I3 rw'=>⟨v,H2,I3,rw',q2⟩}
theorem zFo(hu:X.A.units+1<cLine)(hi:PE X i ty)(ho:PE X o td):PC X .In i o (zQw ty td):=by
 intro pins s σ H Q I h;refine thn (hi pins s σ H _ I h) λiv s1 ⟨y,H1,I1,ry,q1⟩=>thn (ho pins s1 σ H1 _ I1 q1) λu s2 ⟨x,H2,I2,rx,a,ov,ex,g,q2⟩=>?_;subst ex;obtain rfl:u=Value.ref a:=rx;exact d_in hu I2 g ry λs3 I3=>{.bl ov.isSome,H2,I3,O,q2}
theorem zRr(hu:X.A.units+1<cLine)(hi:PE X i ty)(ho:PE X o td):PC X .NotIn i o (zOp ty td):=by
 intro pins s σ H Q I h;refine thn (hi pins s σ H _ I h) λiv s1 ⟨y,H1,I1,ry,q1⟩=>thn (ho pins s1 σ H1 _ I1 q1) λu s2 ⟨x,H2,I2,rx,a,ov,ex,g,q2⟩=>?_;subst ex;obtain rfl:u=Value.ref a:=rx;exact zZx hu I2 g ry λs3 I3=>{.bl (!ov.isSome),H2,I3,O,q2}
theorem kE(hu:X.A.units+1<cLine)(ho:PE X o td)(hi:PE X i ty)(hv:PE X value tv)(hs:S1 value ↥(.Subscript o i pos') pos.line X.env=pure false):
  PS X (.Assign [.Subscript o i pos'] value pos) (zOz td ty tv):=by
 intro pins s σ H D I h;refine wpAny_Assign_Subscript (thn (hv pins s σ H _ I h) λr s1 ⟨v,H1,I1,rv,q1⟩=>thn (ho pins s1 σ H1 _ I1 q1) λu s2 ⟨x,H2,I2,rx,q2⟩=>thn (hi pins s2 σ H2 _ I2 q2) λiv s3 ⟨y,H3,I3,ry,a,H4,ex,g,q3⟩=>?_) hs;subst ex;obtain rfl:u=Value.ref a:=rx;exact zSi hu I3 g ry rv λs4 I4=>⟨σ,H4,I4,q3⟩
end
theorem zLl{P:V3}{w:V4}{H:Hp}(h:V5)(hb:A5<h.objs.size):ObjOk P w H (h.push {cls:=.type "dict",data:=.dict #[]}) h.objs.size (.dK []):=
 {mT _,sN.mpr (Ne.symm (nX hb)),[], .nil,Heap.DictOf.new h}
def zOh:TE:=λ_ H Q=>∀p,H p=none->Q (.ref p) (upd H p (.dK []))
section
variable{X:Cx}{pos:Pos}
theorem jR:PE X (.Dict [] [] pos) zOh:=λpins s σ H Q I h=>
 wpAny_Dict_empty {.ref s⁻¹,_,I.laid (a:=s⁻¹) (o:=.dK []) (t':=s.toks) (λ_ _ q=>mU _ q) (mB _) (zLl s.heap I.big),O,h _ (I.hok.fresh (mB _))}
end
def zGj:List (TE×TE)->St->Hp->(List (V×V)->Hp->Prop)->Prop
 | [],_,H,Q=>Q [] H
 |(tk,tv)::r,σ,H,Q=>tk σ H λx H1=>tv σ H1 λy H2=>zGj r σ H2 λps H3=>Q ((x,y)::ps) H3
abbrev VV:List (V×V)->List (V0×V0)->Prop:=Paired λp q=>RelV p.1 q.1/\RelV p.2 q.2
def PPs(X:Cx)(pos:Pos)(keys:List (Option Expr))(values:List Expr)(trs:List (TE×TE)):Prop:=
 ∀(pins:List (V1×Obj))(s:V2)(σ:St)(H:Hp)(Q:List (V×V)->Hp->Prop),Inv X pins σ H s->zGj trs σ H Q->
  V8 (S6 X.prog X.w) X.A (evalPairs (pairTrees keys values X.env pos)) (λvs s'=>∃ps H',Inv X pins σ H' s'/\VV ps vs/\Q ps H') X.xe s
theorem zIq{X:Cx}{pos:Pos}:PPs X pos [] [] []:=λpins s σ H Q I h=>pairTrees_nil_walk {[],H,I, .nil,h}
theorem gS{X:Cx}{pos:Pos}{k v:Expr}{ks:List (Option Expr)}{vs:List Expr}{tk tv:TE}{trs:List (TE×TE)}(hk:PE X k tk)(hv:PE X v tv)(hr:PPs X pos ks vs trs):
  PPs X pos (Y k::ks) (v::vs) ((tk,tv)::trs):=λpins s σ H Q I h=>
 pairTrees_cons_walk (thn (hk pins s σ H _ I h) λu s1 ⟨x,H1,I1,rx,q1⟩=>thn (hv pins s1 σ H1 _ I1 q1) λw2 s2 ⟨y,H2,I2,ry,q2⟩=>
  thn (hr pins s2 σ H2 _ I2 q2) λws s3 ⟨ps,H3,I3,rel,q3⟩=>{(x,y)::ps,H3,I3, .cons ⟨rx,ry⟩ rel,q3})
def qK(kvs more:List (Key×V)):List (Key×V):=more.foldl (λacc kv=>wQ acc kv.1 kv.2) kvs
theorem KV.merge:∀{more:List (Key×V)}{rs:List (Key×V0)}{kvs:List (Key×V)}{vs:List (Key×V0)},KV more rs->KV kvs vs->KV (qK kvs more) (merged vs rs):=by
 intro more rs kvs vs r;unfold KV at r
 induction r generalizing kvs vs with
 | nil=>intro q;exact q
 | @cons p q ps qs h t ih=>
  intro r0;let e:KV (wQ kvs p.1 p.2) (stored vs q.1 q.2):=by
   let:=r0.put p.1 h.2;rw[<-h.1];exact this
  exact ih e
theorem gE:∀(more kvs:List (Key×V)),(qK kvs more)...*<=kvs...*+more...*
 | [],kvs=>by show kvs...*<=kvs...*+0;lia
 | p::r,kvs=>by
  let h1:=gE r (wQ kvs p.1 p.2);let h2:=zAh kvs p.1 p.2;show(qK (wQ kvs p.1 p.2) r)...*<=_;rw[nI];lia
theorem zGn{P:V3}{w:V4}:∀{kvs:List (Key×V)}{ws:List (V0×V0)},VV (kvs.map λkv=>(kV kv.1,kv.2)) ws->∃rs,Carries (xC P w) ws rs/\KV kvs rs
 | [],_,r=>by rw[rB] at r;cases r;exact{[],mH, .nil}
 | p::kvs,_,r=>by
  rw[mV] at r
  cases r with
  | @cons a b as bs h t=>
   obtain⟨rs,c,q⟩:=zGn (P:=P) (w:=w) t;obtain⟨b1,b2⟩:=b;exact{(p.1,b2)::rs,{zCc h.1,O,c}, .cons ⟨O,h.2⟩ q}
def zTj(trs:List (TE×TE)):TE:=λσ H Q=>∀p,H p=none->zGj trs σ (upd H p (.dK [])) λps H2=>H2 p=Y (.dK [])/\∃kvs:List (Key×V),ps=kvs.map (λkv=>(kV kv.1,kv.2))/\kvs...*<=15/\Q (.ref p) (upd H2 p (.dK (qK [] kvs)))
theorem zJt{X:Cx}{pos:Pos}{keys:List (Option Expr)}{values:List Expr}{trs:List (TE×TE)}(h:PPs X pos keys values trs)(hall:keys.all (·.isSome)=true)(hl:keys...*=values...*)(h0:keys≠ [])
  (h15:keys...*<=15):PE X (.Dict keys values pos) (zTj trs):=by
 intro pins s σ H Q I q;let hn:=I.hok.fresh (mB s⁻¹);let I1:=I.laid (a:=s⁻¹) (o:=.dK []) (h':=s.heap.push {cls:=.type "dict",data:=.dict #[]}) (t':=s.toks) (λ_ _ q=>mU _ q) (mB _) (zLl s.heap I.big);refine wpAny_Dict_walk (knd:=xC X.prog X.w) hall hl h0 h15 (thn (h pins _ σ _ _ I1 (q _ hn)) λws s2 ⟨ps,H2,I2,rel,e,kvs,ep,lk,q2⟩=>?_);subst ep;obtain⟨rs,c,rk⟩:=zGn (P:=X.prog) (w:=X.w) rel;obtain⟨z,hd,vs0,r0,dd⟩:=zHd I2.hok e;cases r0;refine{rs,c,dd,λh' dd' hs=>{.ref s⁻¹,_, ?_,O,q2}};let hz:(qK [] kvs)...*<=V9:=by
  let h1:=gE kvs [];rw[pP] at h1;rw[mQ];lia
 let he:∃q,h'.get? s⁻¹=Y q:=let ⟨q,_,_,hq,_⟩:=dd';⟨q,hq⟩;exact zEf I2 (by rw[e];exact mH) hs he (zJh hz hd (rk.merge .nil) dd')
structure M1(X:Cx)(o:Expr)(m:Str)(apos:Pos)(e:Expr)(cpos:Pos):Prop where
 base:attributeBase o m X.env (eval o X.env)=eval o X.env
 few:((S2 cpos (A3 [e] X.env)).all (λx=>!x.1)&& (backToKw cpos (keywordEach [] X.env)).all (λx=>x.1.isSome)
  && decide (([e]:List Expr)...*+([]:List Keyword)...*+(if([]:List Keyword).isEmpty then 0 else 1)<30))=true
 line:(apos.endLine==cpos.line)=true
 trees:S2 cpos (A3 [e] X.env)= [(false,eval e X.env)]
structure M2(X:Cx)(o:Expr)(m:Str)(apos:Pos)(e f:Expr)(cpos:Pos):Prop where
 base:attributeBase o m X.env (eval o X.env)=eval o X.env
 few:((S2 cpos (A3 [e,f] X.env)).all (λx=>!x.1)&& (backToKw cpos (keywordEach [] X.env)).all (λx=>x.1.isSome)
  && decide (([e,f]:List Expr)...*+([]:List Keyword)...*+(if([]:List Keyword).isEmpty then 0 else 1)<30))=true
 line:(apos.endLine==cpos.line)=true
 trees:S2 cpos (A3 [e,f] X.env)= [(false,eval e X.env),(false,eval f X.env)]
def IsD(H:Hp)(a:V1):Prop:=(∃kvs,Rd H a (.dK kvs))\/∃kvs,Rd H a (.dT kvs)
theorem zVs{X:Cx}{pins:List (V1×Obj)}{σ:St}{H:Hp}{s:V2}{a:V1}(I:Inv X pins σ H s)(d:IsD H a):
  s.TypeIs (.ref a) "dict"/\(∀b,Value.ref a= .ref b->∃ob,s.heap.get? b=Y ob/\ob.dict=none)/\(a==A5)=false:=by
 rcases d with⟨kvs,e⟩|⟨kvs,e⟩
 ·obtain⟨_,hd,vs,_,dd⟩:=kP I.hok e
  refine{dd.typeIs,λb q=>?_,hd};cases q;ext yC dd ob _ _ h1 h2 _;exact⟨ob,h1,h2.2.1⟩
 ·obtain⟨_,hd,xs,_,dd⟩:=zFe I.hok e
  refine{dd.typeIs,λb q=>?_,hd};cases q;ext yC dd ob _ _ h1 h2 _;exact⟨ob,h1,h2.2.1⟩
section
variable{X:Cx}{pins:List (V1×Obj)}{σ:St}{H:Hp}{s:V2}{a:V1}{y d:V}{u r:V0}{o:Option V}{A:Around}{E:V0->V2->Prop}
theorem yCh{Q:V0->V2->Prop}(hu:A.units+1<cLine)(I:Inv X pins σ H s)(g:zDn H a y o)(ry:RelV y u)(h:∀w' s',Inv X pins σ H s'->RelV (o.getD .non) w'->Q w' s'):
  V8 (S6 X.prog X.w) A (call (.builtin "dict.get") [.ref a,u]) Q E s:=by
 rcases g with⟨kvs,k,e,ey,l⟩|⟨kvs,k,b,e,ey,eb,l⟩
 ·subst ey
  obtain⟨z,hd,vs,rel,dd⟩:=kP I.hok e;refine bP bK dd.typeIs PySem.F.entry_dict_get (PySem.F.args_dict_get_2 _ _) (meets_dict_get (xC X.prog X.w) a (zCc ry) hd) {_,dd.mapOf,h _ _ (I.tok _) ?_};rw[l];exact(rel.val k).getD O
 ·subst ey
  cases (show u=Value.ref b from ry);obtain⟨z,hd,xs,rel,dd⟩:=zFe I.hok e;refine bP bK dd.typeIs PySem.F.entry_dict_get (PySem.F.args_dict_get_2 _ _) (meetsH_dict_get (tupleKind (xC X.prog X.w)) a b hd) {tU hu,k,xs,zDr I.hok eb,dd,h _ _ (I.tok _) ?_};rw[l];exact(rel.val k).getD O
end
def zTc(td ty:TE):TE:=λσ H Q=>td σ H λx H1=>∃a,x= .ref a/\IsD H1 a/\ty σ H1 λy H2=>∃o,zDn H2 a y o/\Q (o.getD .non) H2
def zTu(td ty:TE):TE:=λσ H Q=>td σ H λx H1=>∃a,x= .ref a/\IsD H1 a/\ty σ H1 λy H2=>∃kvs k v,H2 a=Y (.dK kvs)/\y=kV k/\jH kvs k=Y v/\Q v (upd H2 a (.dK (dropK kvs k)))
section
variable{X:Cx}{o e f:Expr}{apos cpos:Pos}{td ty tx:TE}
theorem zVr(hu:X.A.units+1<cLine)(ho:PE X o td)(he:PE X e ty)(m:M1 X o "get" apos e cpos):PE X (.Call (.Attribute o "get" apos) [e] [] cpos) (zTc td ty):=by
 intro pins s σ H Q I h;refine wpAny_Call_method m.base m.few m.line tL bK PySem.F.type_dict_get (thn (ho pins s σ H _ I h) λu s1 ⟨x,H1,I1,rx,a,ex,d,q1⟩=>?_);subst ex;obtain rfl:u=Value.ref a:=rx;obtain⟨t1,t2,_⟩:=zVs I1 d;refine{t1,t2, ?_};rw[m.trees];refine sT O (bN (cD (thn (he pins s1 σ H1 _ I1 q1) λiv s2 ⟨y,H2,I2,ry,ov,g,q2⟩=>cM ?_)));exact yCh hu I2 g ry λw' s3 I3 rw'=>⟨_,H2,I3,rw',q2⟩
theorem zLe(ho:PE X o td)(he:PE X e ty)(m:M1 X o "pop" apos e cpos):PE X (.Call (.Attribute o "pop" apos) [e] [] cpos) (zTu td ty):=by
 intro pins s σ H Q I h;refine wpAny_Call_method m.base m.few m.line tL PySem.F.slot_dict_pop PySem.F.type_dict_pop (thn (ho pins s σ H _ I h) λu s1 ⟨x,H1,I1,rx,a,ex,d,q1⟩=>?_);subst ex;obtain rfl:u=Value.ref a:=rx;obtain⟨t1,t2,_⟩:=zVs I1 d;refine{t1,t2, ?_};rw[m.trees];refine sT O (bN (cD (thn (he pins s1 σ H1 _ I1 q1) λiv s2 ⟨y,H2,I2,ry,kvs,k,v,ea,ey,l,q2⟩=>cM ?_)));subst ey;exact d_pop I2 ea ry l (.inl O) λw' s3 I3 rw'=>⟨v,_,I3,rw',q2⟩
end
section
variable{X:Cx}{pins:List (V1×Obj)}{σ:St}{H:Hp}{s:V2}{a:V1}{kvs:List (Key×V)}{A:Around}{E:V0->V2->Prop}
end
section
variable{X:Cx}{pins:List (V1×Obj)}{σ:St}{H:Hp}{s:V2}{a:V1}{y:V}{u:V0}{A:Around}{E:V0->V2->Prop}
end
end L2
namespace Att
open PySem PySem.W PySem.Calls PyProof.Rows
theorem zEe{P:Params}{h:V5}:∀(ns:List Int)(vs:List V0),WellAll P h vs (ns.map WData.int)->IntsAre vs ns:=by
 intro ns
 induction ns with
 | nil=>
  intro vs w;rw[List.map_nil] at w;cases w;exact .nil
 | cons n ns ih=>
  intro vs w;rw[List.map_cons] at w
  cases w with
  | cons a b=>
   cases a;exact .cons _ _ (ih _ b)
theorem zRi{l:OpenLaw}{n:Nat}(hn:l.most=Y n){P:Params}{h:V5}{args:List WData}{vals:List V0}
  (hpre:l.row.toRowW.claim.pre args=true) (hwl:WellAll P h vals args):
  ∃a vs ns,vals= [Value.ref a]/\args= [WData.list (ns.map WData.int)]/\h.get? a=some {cls:=.type "list",data:=.seq vs.toArray}/\IntsAre vs ns/\ns...*<=n:=by
 let hsh:WShape.hasAll [] args [.list .int]=true:=(pre_splitW hpre).1;let hc:l.pre.holds [] {args:=args}=true:=(pre_splitW hpre).2;refine yN (hasAllW_cons hsh) λd r r2_ h1 h2=>?_;subst r2_;obtain rfl:=hasAllW_nil h2;obtain⟨xs,rfl,h3⟩:=hasW_list h1;obtain⟨ns,rfl⟩:=items_int h3;let hlen:ns...*<=n:=by
  unfold OpenLaw.pre at hc;let h4:(WTm.not (.lt (.lit (.int (n:Int))) (.len (.arg 0)))).holds [] {args:=[.list (ns.map .int)]}=true:=by
   let h4:=(holds_andW hc).1;rw[hn] at h4;exact h4
  let h5:=condW_of h4 (w_not (w_lt w_lit (w_len_list (w_arg O))));rw[List.length_map] at h5;refine Nat.le_of_not_lt λq=>?_;let q':(n:Int)<((ns...*:Nat):Int):=by lia
  first
   |(rw[decide_eq_true q'] at h5;exact absurd h5 ∎)
   |(simp at h5;lia)
 cases hwl with
 | cons w1 w2=>
  cases w2
  cases w1 with
  | list ho hall=>exact{_,_,ns,O,O,ho,zEe ns _ hall,hlen}
theorem zSe(l:OpenLaw)(args:List WData):l.row.toRowW.claim.post args (.bool true) args=true:=
 postW_of (r:=l.row.toRowW) (X:=(true==true))
  (show WShape.has [] (.bool true) .bool=true by first | rfl | decide | simp[WShape.has,WShape.arms,WShape.armsAll])
  (show(WTm.eq .res (.lit (.bool true))).value [] {args:=args,res:=Y (.bool true),after:=args}=Y (.bool (true==true)) from w_eq_bool (w_res O) w_lit) O
theorem attach_call{l:OpenLaw}{n:Nat}{q:V3}{loose:List Str}{XP:(Str->Option V0)->V5->Prop}{YP:V4->V5->Prop}{d:DefRec}
  (hn:l.most=Y n) (hdf:d.params.defaults= [])
  (call:∀(w:V4)(s₀ s₁:V2)(mg mb:Str->Option V0)(fa:V1)(o:Obj)(pm cd doc:V0)(a:V1)(vs:List V0)(ns:List Int),
   Ground q loose [] XP w s₀ mg mb s₁.heap->YP w s₁.heap->
   s₁.heap.get? fa=Y o->o.data= .func (docDef d.name d.params d.body d.scope pm cd doc)->s₁.heap.CodeRec cd d.name->mg d.name=Y (.ref fa)->
   s₁.heap.get? a=some {cls:=.type "list",data:=.seq vs.toArray}->IntsAre vs ns->ns...*<=n->s₁.gens= #[]->
   codeAny (S6 l.prog w) callerA (.call (.ref fa) {[.ref a],[]}) (λr s'=>r= .ok (.ret (.bool true))/\OldK s₁.heap s'.heap/\s'.os=s₁.os/\AllBare s'.gens) s₁):
  WalkO q loose XP YP l.row.toRowW d [] (λf vs=>PySem.call f vs):=by
 intro w s₀ s₁ mg mb G Yy fa o pm cd doc dV kV ho hd hcd hD hmg hg args vals as hpre hlay hrd hwl hlo;obtain rfl:dV= .none:=Dflts.none hD hdf;obtain rfl:kV= .none:=Dflts.noKw hD;refine yC (zRi hn hpre hwl) λa vs ns r3_ r4_ z_=>?_;ext oAA z_ hobj hints hlen;subst r3_ r4_;refine enter_call (codeAny_mono (call w s₀ s₁ mg mb fa o pm cd doc a vs ns G Yy ho (fd_plain hd) hcd hmg hobj hints hlen hg) λr s' hq=>?_);ext xI hq r0_ h2 h3 h4;subst r0_;exact{.inl {.bool true, .bool true,[],O,λ_=>O, .bool true,zSe l _,λ_=>{List.Pairwise.nil,λ_ hm=>(nomatch hm)}},h2,h3,h4}
section
variable{prog:V3}{w:V4}{A:Around}{E:V0->V2->Prop}{s:V2}{K:Frag}
end
end Att
namespace L2
open PySem PySem.Spec PyProof.Rows
theorem zIh:∀{vs:List V0}{ns:List Int},IntsAre vs ns->Vals (ns.map V.int) vs
 | _,_, .nil=>.nil
 | _,_, .cons n t h=>.cons ⟨t,O⟩ (zIh h)
def yCf(H:Hp):Prop:=∀b,H b=none\/∃o xs,H b=Y (.frz o (.lst xs))
theorem zWj{P:V3}{w:V4}{K:A7}{mg mb:Str->Option V0}{CX:CXT}{k:Nat}{fa a:V1}{fd:V7}{x:Str}{sp:Sp}{s₁:V2}{vs:List V0}{ns:List Int}
  (KX:K.In s₁.heap) (hns:s₁.heap.Ns A0 mg) (hb:s₁.heap.Ns builtinsNs mb) (hbb:∀x:Str,x≠ "__name__"->mb x=A2 x) (hlim:s₁.heap.NoLimit) (hg:s₁.gens= #[])
  (ha:s₁.heap.get? a=some {cls:=.type "list",data:=.seq vs.toArray}) (hi:IntsAre vs ns) (hl:ns...*<=V9) (hr:Room k callerA)
  (F:∀base:V5,K.In base->base.Ns A0 mg->FnOk P w K mg base CX k fa fd [x] sp) (hbind:∀(s:V2)(u:V0),BindsTo s fd {[u],[]} [(x,u)])
  (hsp:∀H:Hp,yCf H->SqL K H a (ns.map V.int)->sp [.ref a] H (λv _=>v= .bl true) λ_ _ _=>False)
  (hCX:∀H e s',CX [] H s₁ (λ_ _ _=>False) e s'->False):
  codeAny (S6 P w) callerA (.call (.ref fa) {[.ref a],[]}) (λr s'=>r= .ok (.ret (.bool true))/\OldK s₁.heap s'.heap/\s'.os=s₁.os/\AllBare s'.gens) s₁:=by
 let rv:=zIh hi;let lenV:=hi...*
 -- from an abstract heap in which nothing but the script may be tracked
 let core:∀H:Hp,yCf H->SqL K H a (ns.map V.int)->HOk P w H s₁.heap->(∀b,H b≠none->b=a)->(H a≠none->K.lookup a=none)->
   codeAny (S6 P w) callerA (.call (.ref fa) {[.ref a],[]}) (λr s'=>r= .ok (.ret (.bool true))/\OldK s₁.heap s'.heap/\s'.os=s₁.os/\AllBare s'.gens) s₁:=by
  intro H hO hS hok hA hK;let base_of:∀{b:V1}{o:Obj},s₁.heap.get? b=Y o->H b=none->(zKm s₁.heap H).get? b=Y o:=λe n=>zWr e n;let noA:∀{b:V1}{o:Obj}{es:Array DictEntry}{ep:Nat},s₁.heap.get? b=Y o->o.data= .dict es ep->H b=none:=λ{b o es ep} e d=>by
   cases q:H b with
   | none=>rfl
   | some u=>
    let e':b=a:=hA b (by rw[q];simp);subst e';rw[ha] at e;cases e;let d':Data.seq vs.toArray _=Data.dict es ep:=d;cases d'
  let nsK:∀{b:V1}{m:Str->Option V0},s₁.heap.Ns b m->(zKm s₁.heap H).Ns b m:=λ{b m} ⟨o,es,ep,e,d,r⟩=>{o,es,ep,base_of e (noA e d),d,r};let hKb:K.In (zKm s₁.heap H):=λb o e=>base_of (KX b o e) (by
   cases q:H b with
   | none=>rfl
   | some u=>
    let e':b=a:=hA b (by rw[q];simp);subst e';rw[hK (by rw[q];simp)] at e;cases e)
  let hM:Mod K mg (zKm s₁.heap H):={hKb,nsK hns,{mb,nsK hb,hbb},let ⟨mc,h1,h2⟩:=hlim;{mc,nsK h1,h2}};let e0:zUj P w K mg (zKm s₁.heap H) callerA [] s₁ H:=⟨O,hM,λb o e=>yAl e,cQ (zSm _ _),trivial,λb hb=>absurd (show b∈([]:List V1) from hb) (by simp),hok, .of_eq hg⟩;refine bL ((F _ hKb (nsK hns)).run callerA [] s₁ H {[.ref a],[]} [.ref a] [.ref a] _ _ hr e0 (hbind s₁ (.ref a)) (.cons O .nil) (hsp H hO hS)) λr s' h=>?_
  cases r with
  | error e=>exact(hCX H e s' h).elim
  | ok fl=>
   cases fl with
   | next=>exact False.elim h
   | brk=>exact False.elim h
   | cont=>exact False.elim h
   | ret u=>
    ext yA h v H' os bare un z_;ext oAA z_ hok' r' q;let q':v= .bl true:=q;subst q';obtain rfl:u=Value.bool true:=r';refine⟨O,OldK.of_keep λb o e=>?_,os,bare⟩
    cases q:H b with
    | none=>exact un.keep b o e q (by intro z;exact absurd (show b∈([]:List V1) from z) (by simp)) (by simp)
    | some u=>
     rcases hO b with z |⟨ob,xs,z⟩
     ·rw[q] at z;cases z
     ·let z2:=un.frzs b ob _ z
      obtain⟨e1,_⟩:=hok b _ z;obtain⟨e2,_⟩:=hok' b _ z2;rw[e] at e1;cases e1;exact e2
 cases hk:K.lookup a with
 | some o=>
  -- the script is one of the module's own objects
  let e:=KX a o hk;rw[ha] at e;cases e;refine core (λ_=>none) (λ_=>.inl rfl) (.inr ⟨_,vs.toArray,_,hk,rfl,rfl,rfl,by rw[nF,lenV];exact hl,by simpa using rv⟩) (λb u z=>by let z':(none:Option HO)=Y u:=z;cases z') (λb z=>absurd rfl z) λz=>absurd rfl z
 | none=>
  refine core (λb=>if b=a then Y (.frz {cls:=.type "list",data:=.seq vs.toArray} (.lst (ns.map V.int))) else none) (λb=>?_) (.inl (.inr {{cls:=.type "list",data:=.seq vs.toArray},mO O})) (λb u z=>?_) (λb z=>?_) λ_=>hk
  ·by_cases hb:b=a
   ·exact .inr {_,_,mO hb}
   ·exact .inl (mL hb)
  ·by_cases hb:b=a
   ·let z':=(mO hb).symm.trans z
    cases z';subst hb;exact{ha,by rw[mC];exact hl,vs,_,rv,ha}
   ·let z':=(mL hb).symm.trans z
    cases z'
  ·by_cases hb:b=a
   ·exact hb
   ·exact absurd (mL hb) z
abbrev KOf{K:A7}{h:V5}(_:K.In h):A7:=K
theorem zPb{l:W.OpenLaw}{n k:Nat}{q:V3}{loose:List Str}{XP:(Str->Option V0)->V5->Prop}{YP:V4->V5->Prop}{d:DefRec}{K:Params->A7}{CX:V4->CXT}{sp:V4->Sp}{x:Str}
  (hn:l.most=Y n) (hn2:n<=V9) (hdf:d.params.defaults= []) (hr:Room k callerA)
  (hY:∀(w:V4)(h:V5),YP w h->(K w.params).In h)
  (F:∀(w:V4)(mg:Str->Option V0)(fa:V1)(h:V5),(K w.params).In h->h.Ns A0 mg->mg d.name=Y (.ref fa)->
   ∃fd:V7,(∀(s:V2)(u:V0),BindsTo s fd {[u],[]} [(x,u)])/\
    ∀base:V5,(K w.params).In base->base.Ns A0 mg->FnOk l.prog w (K w.params) mg base (CX w) k fa fd [x] (sp w))
  (hsp:∀(w:V4)(H:Hp)(a:V1)(ns:List Int),ns...*<=n->yCf H->SqL (K w.params) H a (ns.map V.int)->sp w [.ref a] H (λv _=>v= .bl true) λ_ _ _=>False)
  (hCX:∀(w:V4)(H:Hp)(s:V2)(e:V0)(s':V2),CX w [] H s (λ_ _ _=>False) e s'->False):
  W.WalkO q loose XP YP l.row.toRowW d [] (λf vs=>PySem.call f vs):=by
 refine Att.attach_call hn hdf λw s₀ s₁ mg mb fa o pm cd doc a vs ns G Yy ho hd hcd hmg hobj hints hlen hg=>?_;let KX:=hY w _ Yy;obtain⟨fd,hb,hF⟩:=F w mg fa _ KX G.T.g hmg;exact zWj KX G.T.g G.T.b G.T.builtins G.T.nolimit hg hobj hints (nS hlen hn2) hr hF hb (λH hO hS=>hsp w H a ns hlen hO hS) λH e s'=>hCX w H s₁ e s'
end L2
/- THE LAST THEOREM (shape;LID,My.*are yours):
   My.Adr:a structure of the addresses that your layer names (classes,functions);My.Txt K t:a structure (Prop) of the equations over K;
   My.txt_mk:{K} {implicit addresses ..} (e1:nsIn K A0 "law" =Y ↥(.ref f)) (e2:K.lookup f=Y {oc,od, .func (fnOf "law" "law" params body scope dV kV doc pm an cdv ct),sl}) (e3:codeIn K cdv "law" =true) .. :∃t,My.Txt K t
set_option maxRecDepth 100000 in
set_option maxHeartbeats 0 in
theorem PySem.Challenge.cw_LID_holds : PySem.Challenge.rw_LID.Holds := by
  w_on;o_law;k_head;(case hw=>w_witness2)
  k_fill
  refine L2.zPb (l:=PySem.Challenge.rw_LID) (n:=63) (k:=40) (x:="script") (CX:=λw=>..) (sp:=λ_=>My.sp_law) O ∎ O {O,by decide,by decide} (λw h Yy=>PySem.W.kIn_of Yy) ?F ?S ?C
  case F=>
    intro w mg fa h KX G hmg;let T:∃t,My.Txt (L2.KOf KX) t:=by
      dsimp only[L2.KOf]                          -- K must stand as «<heap const>w.params» for k_is;refine' My.txt_mk ?e1 ?e2 ?e3 ..
      (case e1=>PySem.W.k_is)                    -- in the order:a name ->its address ->its object ->its parts
      (case e2=>PySem.W.k_is)
      ..
    obtain⟨t,T⟩:=T;let e0:=hmg.symm.trans (PySem.W.mg_of KX G T.law);cases e0                                       -- fa is the law's own address;exact{_,λs u=>.of_eq O,λbase kb nb=>My.law_fn T kb nb}     -- if «.of_eq O» comes too early:refine' {_, ?b,λbase kb nb=>My.law_fn T kb nb};exact λs u=>.of_eq O
  case S=>exact λw H a ns hl hO hS=>..
  case C=>exact ..
(the tactic k_is has no namespace:write k_is)-/
namespace L2
open PySem PySem.Spec PyProof.Rows
def qO(s:V6):Arguments:=match s with
 | .FunctionDef _ a _ _ _ _ _ _ _ _=>a
 | _=>{posonlyargs:=[],args:=[],vararg:=none,kwonlyargs:=[],kw_defaults:=[],kwarg:=none,defaults:=[]}
def vW(s:V6):List V6:=match s with
 | .FunctionDef _ _ b _ _ _ _ _ _ _=>b
 | _=>[]
def zN(s:V6):Scope:=match s with
 | .FunctionDef _ _ _ _ _ _ sc _ _ _=>sc
 | _=>{kind:=.function,names:=[],isGenerator:=false,isCoroutine:=false}
abbrev CX0:CXT:=λ_ _ _ _ _ _=>False
abbrev E0:XK:=λ_ _ _=>False
theorem yBh{X:Cx}:zJl CX0 X E0:=λ_ _ _ _ _ _ _ h=>h.elim
structure Fun(K:A7)(x qual:Str)(st:V6)(f:V1)(fd:V7):Prop where
 ex:∃(oc:V0)(od:Option V1)(kV doc pm:V0)(an:Option V1)(cdv ct:V0)(osl:Array (Option V0)),
  fd=W.fnOf x qual (qO st) (vW st) (zN st) .none kV doc pm an cdv ct/\K.lookup f=Y {oc,od, .func fd,osl}/\S0 K cdv qual=true
 kp:A8 K (.ref f)=true
section
variable{P:V3}{w:V4}{K:A7}{mg:Str->Option V0}{base:V5}
theorem Fun.ok{x qual:Str}{st:V6}{f:V1}{fd:V7}{N ps:List Str}{k:Nat}{sp:Sp}(F:Fun K x qual st f fd)(S:zY N ps (zN st))(len:∀vs H Q E,sp vs H Q E->vs...*=ps...*)
  (hbody:∀(cdv:V0)(A:Around)(outer:List S8)(s:V2)(H:Hp)(vs:List V)(Q:VK)(E:XK),Room k (A.deeper (envOfC qual (zN st) s⁻¹ f cdv))->sp vs H Q E->
   ∃t,PSs (zKo CX0 P w K mg base N qual (zN st) f cdv A outer s H E).nox (vW st) t/\t {nx:=λ_ H'=>Q .non H',rt:=Q} (zBl N vs) H):FnOk P w K mg base CX0 (k+1) f fd ps sp:=by
 refine yM (F.ex) λoc od kV doc pm z_=>?_;ext yS z_ an cdv ct osl r9_ z_;ext oA z_ lk hcd;subst r9_;refine yBb lk hcd S len λA outer s H vs Q E hr hsp=>?_;obtain⟨t,h,q⟩:=hbody cdv A outer s H vs Q E hr hsp;exact⟨t,h.nox,q⟩
theorem Fun.binds{x qual:Str}{st:V6}{f:V1}{fd:V7}{ps:List Str}(F:Fun K x qual st f fd)
  (h:∀(kV doc pm:V0)(an:Option V1)(cdv ct:V0)(us:List V0),us...*=ps...*->bindArgs (W.fnOf x qual (qO st) (vW st) (zN st) .none kV doc pm an cdv ct) {us,[]}=pure (ps.zip us)):Binds K fd ps []:=by
 refine yM (F.ex) λoc od kV doc pm z_=>?_;ext yS z_ an cdv ct osl r9_ z_;ext oA z_ lk hcd;subst r9_;exact .all (h kV doc pm an cdv ct)
theorem zVe{x qual:Str}{st:V6}{f:V1}{oc:V0}{od an:Option V1}{osl:Array (Option V0)}{kV doc pm cdv ct:V0}(l:K.lookup f=Y {oc,od, .func (W.fnOf x qual (qO st) (vW st) (zN st) .none kV doc pm an cdv ct),osl})
  (c:S0 K cdv qual=true) (k:A8 K (.ref f)=true):Fun K x qual st f (W.fnOf x qual (qO st) (vW st) (zN st) .none kV doc pm an cdv ct):={⟨oc,od,kV,doc,pm,an,cdv,ct,osl,O,l,c⟩,k}
end
theorem wR{A:Around}{k:Nat}(hr:Room k A):A.units+1<cLine:=Nat.lt_of_le_of_lt (Nat.add_le_add_left (by decide:1<=64) _) hr.units
section
variable{X:Cx}
theorem pv(i:Nat){x:Str}{pos:Pos}(hN:X.N[i]? =Y x:=by rfl)(hv:Vis X.env.scope x:=by first | exact nN O | exact bQ (nN O)| exact bQ (bQ O))(hd:(x==("__debug__" :Str))=false:=by decide)
  (hcd:(x==("__classdict__" :Str))=false:=by decide):PE X (.Name x pos) (uV i):=yDf hN hv hd hcd
theorem zGr{A B:Prop}(h:B):if false=true then A else B:=by
 rw[mL nM];exact h
theorem zGp{A B:Prop}(h:A):if true=true then A else B:=by
 rw[mO O];exact h
def Same(H H':Hp):Prop:=∀b o,H b=Y o->H' b=Y o
theorem Same.refl(H:Hp):Same H H:=λ_ _ h=>h
theorem Same.trans{H H1 H2:Hp}(a:Same H H1)(b:Same H1 H2):Same H H2:=λc o h=>b c o (a c o h)
theorem Same.seq{K:A7}{H H':Hp}{a:V1}{xs:List V}(e:Same H H')(h:SqL K H a xs):SqL K H' a xs:=by
 rcases h with(h |⟨o,h⟩)| h
 ·exact .inl (.inl (e _ _ h))
 ·exact .inl (.inr {o,e _ _ h})
 ·exact .inr h
theorem zDh:wV X (.builtin "len") (λxs H Q=>∃a kvs,xs= [V.ref a]/\H a=Y (.dK kvs)/\Q (.int kvs...*) H):=by
 intro pins s σ H xs us Q I r h;ext yN h a kvs r2_ ha q;subst r2_;obtain⟨u,rfl,ru⟩:=jC r;cases ru;exact yBr I (.inl ha) λt s' I'=>{.int kvs...*,H,I',⟨t,O⟩,q}
end
section
variable{κ:Type} [DecidableEq κ]
theorem yAf{kvs:List (κ×V)}{k:κ}{v:V}(h:jH kvs k=Y v):k∈kvs.map (·.1):=by
 let q:(kvs.any λkv=>decide (kv.1=k))=true:=by
  rw[zCi,h]
  all_goals rfl
 obtain⟨p,hp,e⟩:=aI.mp q;exact nB.mpr {p,hp,rP e}
theorem zJs:∀{l:List κ}{k:κ},l.Nodup->¬k∈l->(l++ [k]).Nodup
 | [],k,_,_=>by simp
 | a::r,k,h,hk=>by
  obtain⟨h1,h2⟩:=nZ.mp h;show(a::(r++ [k])).Nodup;refine nZ.mpr {λm=>?_,zJs h2 λm=>hk (mI.mpr (bQ m))};rcases mX.mp m with q | q
  ·exact h1 q
  ·exact hk (mI.mpr (nN (nC.mp q).symm))
end
abbrev ts(x:Str):List Nat:=x.cps.toList
abbrev tx(l:List Nat):Str:=⟨l.toArray⟩
theorem wI(l:List Nat):ts (tx l)=l:=rfl
theorem vH(x:Str):tx (ts x)=x:=by cases x;simp[tx,ts]
theorem zDo(x:Str):x...*=(ts x)...*:=by simp[Str.length,ts]
theorem qC(l:List Nat):(tx l)...*=l...*:=by simp[Str.length,tx]
theorem zEm{x y:Str}(h:ts x=ts y):x=y:=by rw[<-vH x,<-vH y,h]
theorem zAm(a b:List Nat):tx a++tx b=tx (a++b):=by
 apply zEm;show(a.toArray++b.toArray).toList=a++b;simp
theorem zId(xs:Array Nat):∀(k:Nat)(acc:Array Nat),((List.replicate k xs).foldl (· ++ ·) acc).toList=acc.toList++(List.replicate k xs.toList).flatten
 | 0,acc=>by simp
 | k+1,acc=>by
  rw[tK,tV,zId xs k (acc++xs)];simp[tK]
theorem yCk(x:Str)(n:Int):Txt.mul x n=tx (List.replicate n.toNat (ts x)).flatten:=by
 apply zEm;rw[wI];unfold Txt.mul
 by_cases h1:n<1
 ·rw[mO h1]
  let e:n.toNat=0:=by lia
  rw[e];rfl
 ·rw[mL h1]
  by_cases h2:(n==1 || x...*==0)=true
  ·rw[mO h2]
   rcases(Bool.or_eq_true _ _).mp h2 with h3 | h3
   ·let e:n=1:=by simpa using h3
    subst e;simp
   ·let e:x...*=0:=by simpa using h3
    rw[zDo] at e;let e2:ts x= []:=tZ e;show ts x=_;rw[e2];simp
  ·rw[mL h2]
   show((List.replicate n.toNat x.cps).foldl (· ++ ·) #[]).toList=_;rw[zId];simp
section
variable{X:Cx}
def zUh:R2:=λx y H Q=>∃z n,x= .str z/\y= .int n/\z...*<=1000/\-1000<=n/\n<=1000/\Q (.str (tx (List.replicate n.toNat (ts z)).flatten)) H
theorem uO:OpR X (binaryOp .Mult) zUh:=by
 intro pins s σ H x y v u Q I rx ry h;ext yA h z n r2_ r3_ hz z_;ext oAA z_ h0 h1 q;subst r2_ r3_;obtain⟨t,rfl⟩:=rx;obtain⟨t',rfl⟩:=ry;refine SB.mul {by rw[nL ∅,nL ∅];rfl,λa _ b=>?_,λa _=>?_} λt' k=>{.str (Txt.mul z n),H,I.tok _,⟨_,O⟩,by rw[yCk];exact q}
 ·let h2:(9223372036854775:Int)<=(2 ^ 63 - 1:Int)/ n:=Int.le_ediv_of_mul_le ∅ ∅
  lia
 ·unfold PySem.Builtin.Str.tooLong
  let e:z...**n.toNat<=1000*1000:=Nat.mul_le_mul hz ∅;exact nL (by rw[mQ];lia)
theorem zOi{ys:List Str}:∀{us:List V0},Vals (ys.map V.str) us->StrsAre us ys:=by
 induction ys with
 | nil=>intro us r;rw[rB] at r;cases r;exact .nil
 | cons n ns ih=>
  intro us r;rw[mV] at r
  cases r with
  | cons r1 r2=>
   obtain⟨t,e⟩:=r1;subst e;exact .cons n t (ih r2)
theorem zFm(g:Str):∀(ps:List Str)(acc:Array Nat),(ps.foldl (λa p=>a++g.cps++p.cps) acc).toList=acc.toList++(ps.map λp=>ts g++ts p).flatten
 | [],acc=>by simp
 | p::ps,acc=>by
  rw[tV,zFm g ps];simp
theorem zSp(ys:List Str):Txt.join (tx []) ys=tx (ys.map ts).flatten:=by
 apply zEm;show((ys.drop 1).foldl (λacc p=>acc++(tx []).cps++p.cps) (ys.headD Str.empty).cps).toList=_;rw[zFm]
 cases ys with
 | nil=>rfl
 | cons y r=>
  show ts y++(List.map (λp=>ts (tx [])++ts p) r).flatten=ts y++(List.map ts r).flatten;simp only[wI,tW]
def rJoin(K:A7):V->List V->Hp->VK->Prop:=λx vs H Q=>∃(p:V1)(ys:List Str),x= .str (tx [])/\vs= [.ref p]/\SqL K H p (ys.map V.str)/\((ys.map ts).flatten)...*<=100000/\Q (.str (tx (ys.map ts).flatten)) H
theorem yAz(ys:List Str):(ys.map (·.length)).sum=((ys.map ts).flatten)...*:=by
 induction ys with
 | nil=>rfl
 | cons y r ih=>rw[mV,List.sum_cons,ih,mV,bC,mK,zDo]
theorem zQp:MtR X "str.join" (rJoin X.K):=by
 intro pins s σ H x vs v us Q I rx rv h;ext yA h p ys r2_ r3_ hq z_;ext oA z_ hz q;subst r2_ r3_;obtain⟨t,rfl⟩:=rx;obtain⟨u,rfl,ru⟩:=rv.one;cases ru;refine xD (I.list hq) λits r pl _=>?_;refine join_list (ys:=ys) pl.isList (by simpa using zOi r) ?_ λt' k=>{.str (Txt.join (tx []) ys),H,I.tok _,⟨_,O⟩,by rw[zSp];exact q};rw[yAz,show(tx [])...*=0 from O,Nat.mul_zero]
 lia
theorem zLm(a b n:Nat):S5 ↥(a:Int) ↥(b:Int) 1 n=S5 ↥((min a n:Nat):Int) ↥((min b n:Nat):Int) 1 n:=by
 let h1:¬((a:Int)<0):=by lia
 let h2:¬((b:Int)<0):=by lia
 let h3:¬(((min a n:Nat):Int)<0):=by lia
 let h4:¬(((min b n:Nat):Int)<0):=by lia
 let e1:max (0:Int) (min (a:Int) (n:Int))=max (0:Int) (min ((min a n:Nat):Int) (n:Int)):=by lia
 let e2:max (0:Int) (min (b:Int) (n:Int))=max (0:Int) (min ((min b n:Nat):Int) (n:Int)):=by lia
 unfold S5;simp only[h1,h2,h3,h4,bX,show((1:Int)>0)=True from by simp,bW];rw[e1,e2]
theorem zUk{a b n:Nat}(h:b<a)(hb:a<=n):S5 ↥(a:Int) ↥(b:Int) 1 n= []:=by
 let h1:¬((a:Int)<0):=by lia
 let h2:¬((b:Int)<0):=by lia
 let e1:max (0:Int) (min (a:Int) (n:Int))=a:=by lia
 let e2:max (0:Int) (min (b:Int) (n:Int))=b:=by lia
 let h3:¬((a:Int)<(b:Int)):=by lia
 simp only[S5,PySem.sliceRange,h1,h2,bX,e1,e2,show((1:Int)>0)=True from by simp,bW,h3]
 rfl
theorem zZa{α:Type}(l:List α)(a b:Nat):(l.drop (min a l...*)).take (min b l...* - min a l...*)=(l.take b).drop a:=by
 rw[List.drop_take]
 by_cases ha:a<=l...*
 ·rw[tX ha]
  by_cases hb:b<=l...*
  ·rw[tX hb]
  ·rw[tH ∅,pW (by rw[nG];lia),pW (by rw[nG];lia)]
 ·let e1:min a l...*=l...*:=tH ∅
  rw[e1,sU (mB _),sU (as:=l) (i:=a) ∅,cL,cL]
theorem zHf(x:Str)(a b:Nat):Txt.slice x ↥(a:Int) ↥(b:Int)=tx (((ts x).take b).drop a):=by
 let hl:x...*=(ts x)...*:=zDo x
 by_cases h:min a x...*<=min b x...*
 ·let e:=StrLaws.sliceText_nat x h (cR _ _)
  let e2:Txt.slice x ↥(a:Int) ↥(b:Int)=StrLaws.sliceText x ↥((min a x...*:Nat):Int) ↥((min b x...*:Nat):Int):=by
   unfold Txt.slice StrLaws.sliceText;rw[zLm a b]
  rw[e2,e,hl,zZa]
 ·let h1:min b x...*=b:=by lia
  let h2:b<a:=by lia
  let e:S5 ↥(a:Int) ↥(b:Int) 1 x...*= []:=by
   rw[zLm a b,h1];exact zUk ∅ (cR _ _)
  unfold Txt.slice;rw[e,mL (by simp;lia)];apply zEm;rw[wI,sU (by rw[pH];lia)]
  rfl
theorem zMa(x:Str)(j:Nat):Txt.slice x none ↥(j:Int)=tx ((ts x).take j):=by
 let e:Txt.slice x none ↥(j:Int)=Txt.slice x ↥((0:Nat):Int) ↥(j:Int):=by
  unfold Txt.slice;rw[StrLaws.sliceIdx_none_lo];rfl
 rw[e,zHf,sP]
theorem zNh(x:Str)(i:Nat):Txt.slice x ↥(i:Int) none=tx ((ts x).drop i):=by
 let e:Txt.slice x ↥(i:Int) none=Txt.slice x ↥(i:Int) ↥(x...*:Int):=by
  unfold Txt.slice;rw[StrLaws.sliceIdx_none_hi]
 rw[e,zHf,pW (by rw[<-zDo];exact mB _)]
def rSlS:V->Option Int->Option Int->Hp->VK->Prop:=λx lo hi H Q=>∃z,x= .str z/\z...*<=V9/\Q (.str (Txt.slice z lo hi)) H
theorem zMv:SlR X rSlS:=by
 intro pins s σ H x v vl vu lo hi sl Q I rx hs pl pu h;ext xD h z r1_ hz q;subst r1_;obtain⟨t,rfl⟩:=rx;refine{"str",_,F.slot_str_getitem.lookup,bM _ _ _, ?_};let fin:∀t' k,EP X pins σ Q (.str (Txt.slice z lo hi) t') {s with toks:=k}:=λt' k=>{.str (Txt.slice z lo hi),H,I.tok _,⟨_,O⟩,q};ext xD hs o ho hc hd
 cases pl with
 | none=>
  cases pu with
  | none=>exact sK (l:=none) (u:=none) (st:=none) ⟨o,ho,hc,hd⟩ O (bS {nS (cS z _ _) hz,fin})
  | int j uj=>exact sK (l:=none) (u:=Y (j,uj)) (st:=none) ⟨o,ho,hc,hd⟩ O (bS {nS (cS z _ _) hz,fin})
 | int i ui=>
  cases pu with
  | none=>exact sK (l:=Y (i,ui)) (u:=none) (st:=none) ⟨o,ho,hc,hd⟩ O (bS {nS (cS z _ _) hz,fin})
  | int j uj=>exact sK (l:=Y (i,ui)) (u:=Y (j,uj)) (st:=none) ⟨o,ho,hc,hd⟩ O (bS {nS (cS z _ _) hz,fin})
def yEb(neg:Bool):R2:=λx y H Q=>∃c j,x= .str (tx [c])/\y= .str j/\Q (.bl (if neg then !decide (c∈ts j) else decide (c∈ts j))) H
theorem zOy:OpR X (A4 .In) (yEb false):=by
 intro pins s σ H x y v u Q I rx ry h;ext yN h c j r2_ r3_ q;subst r2_ r3_;refine zRn pins s σ H _ _ v u Q I rx ry {_,_,O,O, ?_};let e:=StrLaws.found_one j c;rw[show(tx [c]:Str)={#[c]} from O,e];exact q
def Its(x:Str):It:={λi _=>i<(ts x)...*,λi H y H'=>H'=H/\∃c,(ts x)[i]? =Y c/\y= .str (tx [c]),λi _=>(ts x)...*<=i}
theorem zVc{P:V3}{w:V4}{K:A7}{tg:Expr}(x:Str)(t:Tok)(it:V1)(ty:String)(hty:ty= "str_ascii_iterator"\/ty= "str_iterator"):zGy P w K tg (Its x) [it] it (λi h=>h.IsStrIter it ty x t i) where
 mem:=by simp
 obj:=λi h st b hb=>by
  let e:b=it:=by simpa using hb
  subst e;ext xD st o e c d;exact⟨o,e,λv z=>by rw[d] at z;cases z⟩
 keep:=λi h h' st k=>by
  ext xD st o e c d;exact⟨o,k it (by simp) o e,c,d⟩
 item:=by
  intro X hP hw hK hc i pins s σ H E I hf st hg;subst hP hw hK;refine yR (hf it (by simp)) λf0 f1 f2 f3 f4 f5=>?_;let hi:i<(ts x)...*:=hg;let hx:x.cps[i]? =some (ts x)[i]:=by
   rw[<-sG];simp[hi]
  let fin:∀h',h'.IsStrIter it ty x t (i+1)->Heap.SameBut it s.heap h'->∃u,Y (Value.str {#[(ts x)[i]]} s.toks)=Y u/\
    V8 (S6 X.prog X.w) X.A (letOwnedTupleGo tg (.ref it) u) (λ_ s2=>∃x' H',Inv X pins σ H' s2/\RelV x' u/\(Its x).yld i H x' H'/\s2.heap.IsStrIter it ty x t (i+1)/\∀b∈ [it],H' b=none) E {s with heap:=h',toks:=s.toks+1}:=λh' st' sb=>by
   let I1:Inv X pins σ H {s with heap:=h',toks:=s.toks+1}:=I.turned (t':=s.toks+1) (λb o hb e=>(sb.2 b hb).trans e) f0 f1 f3 f4 f5;refine xD (id st') λo e c d=>?_;refine{_,O,zMi (s:={s with heap:=h',toks:=s.toks+1}) e c d ?_ {.str (tx [(ts x)[i]]),H,I1,⟨_,O⟩,{O,_,by simp[hi],O},st',λb hb=>(hf b hb).1}};rcases hty with z | z<;>(rw[z];decide)
  rcases hty with z | z
  ·subst z;exact wpAny_pyNext_ascii_item st hx λh' st' sb=>fin h' st' sb
  ·subst z;exact wpAny_pyNext_wide_item st hx λh' st' sb=>fin h' st' sb
 done:=by
  intro X hP hw hK hc i pins s σ H E I hf st hg;subst hP hw hK;refine yR (hf it (by simp)) λf0 f1 f2 f3 f4 f5=>?_;let hi:(ts x)...*<=i:=hg;let hx:x.cps[i]? =none:=by
   rw[<-sG];exact aD hi
  rcases hty with z | z
  ·subst z;exact wpAny_pyNext_ascii_end (I.ok.hd hc) st hx λh' eb=>{O,I.turned (t':=s.toks) (λb o hb e=>eb b o hb e) f0 f1 f3 f4 f5}
  ·subst z;exact wpAny_pyNext_wide_end (I.ok.hd hc) st hx λh' eb=>{O,I.turned (t':=s.toks) (λb o hb e=>eb b o hb e) f0 f1 f3 f4 f5}
 self:=λ_ _ _ _ _ st h=>by
  rcases hty with z | z
  ·subst z;exact wpAny_pyIter_striter_ascii st h
  ·subst z;exact wpAny_pyIter_striter_wide st h
def yEx(tl:TE):TI:=λσ H R=>tl σ H λx H1=>∃z,x= .str z/\R (Its z) H1
theorem zVt{tg l:Expr}{tl:TE}(hl:PE X l tl):PI X tg l (yEx tl):=by
 intro pins s σ H R I h;refine thn (hl pins s σ H _ I h) λv s1 ⟨x,H1,I1,r1,q1⟩=>?_;obtain⟨z,rfl,q⟩:=q1;obtain⟨t,rfl⟩:=r1;let fin:∀ty,(ty= "str_ascii_iterator"\/ty= "str_iterator")->PIE X pins σ tg R (.ref s1⁻¹) {s1 with heap:=s1.heap.push {cls:=.type ty,data:=.fields #[.str z t, .int 0 0]}}:=λty hty=>by
  refine⟨s1⁻¹,[s1⁻¹],_,_,H1,O,I1.kept (t':=s1.toks) λb o e=>mU _ e,zVc z t _ ty hty,⟨_,nP _ rfl,rfl,rfl⟩,λb hb=>?_,q⟩;let e:b=s1⁻¹:=by simpa using hb
  subst e;exact I1.fpOk (mB _) (I1.hok.fresh (mB _))
 cases ha:z.cps.all (· <128) with
 | true=>exact wpAny_pyIter_ascii ha (fin _ (.inl O))
 | false=>exact wpAny_pyIter_wide ha (fin _ (.inr O))
theorem zLd{bs:List Bool}:∀{us:List V0},Vals (bs.map V.bl) us->PyProof.Rows.LSm.BoolsAre us bs:=by
 induction bs with
 | nil=>intro us r;rw[rB] at r;cases r;exact .nil
 | cons n ns ih=>
  intro us r;rw[mV] at r
  cases r with
  | cons r1 r2=>
   cases (show _=Value.bool n from r1);exact .cons n (ih r2)
theorem qQ(hc:X.calm=true):wV X (.builtin "all") (λxs H Q=>∃(p:V1)(bs:List Bool),xs= [.ref p]/\SqL X.K H p (bs.map V.bl)/\Q (.bl (bs.all id)) H):=by
 intro pins s σ H xs us Q I r h;ext yN h p bs r2_ hq q;subst r2_;obtain⟨u,rfl,rx⟩:=jC r;cases rx;refine xD (I.list hq) λits rv pl hz=>?_;let hl:=pl.isList;let hb:=zLd rv;let hlt:p<s⁻¹:=by obtain⟨_,e,_⟩:=hl;exact nD e
 refine call_all_walk (bA hl ?_);refine{s⁻¹,[s⁻¹,p],[s⁻¹],its.toArray.size,_,_,λi=>(bs[i]?).getD true,O,Walks.list (A:=X.A.in1) (I.ok.hd hc) _ p (nX hlt) its.toArray,
  {{_,nP _ O,O,O},hl.push _},λi v s' Q' E' hP hQ=>?_,λh' tk hk=>?_}
 ·obtain⟨b,e,rfl⟩:=hb.get i v (by simpa using hP)
  simp only[e,Option.getD_some] at hQ;exact pZ hQ
 ·let e:((List.range its.toArray.size).all λi=>(bs[i]?).getD true)=bs.all id:=by
   rw[nF,hb...*];exact PyProof.Rows.LSm.range_all bs
  rw[e];exact{.bl _,H,I.kept (PyProof.Rows.LSm.kept_iter hk),O,q}
theorem zWb(hc:X.calm=true):wV X (.builtin "sum") (λxs H Q=>∃(p:V1)(ns:List Int),xs= [.ref p]/\SqL X.K H p (ns.map V.int)/\Q (.int ns.sum) H):=by
 intro pins s σ H xs us Q I r h;ext yN h p ns r2_ hq q;subst r2_;obtain⟨u,rfl,rx⟩:=jC r;cases rx;refine xD (I.list hq) λits rv pl hz=>?_;let hi:=zNg rv;obtain⟨xs,hx⟩:=hi.allInts.items;let hl':s.heap.IsList p (intItems xs):=hx▸pl.isList;refine sum_intListG (I.ok.hd hc) hl' λh' tk t' hk=>?_;let e1:ns=xs.toList.map (·.1):=by
  rw[<-nums_intItems,<-hx];exact(show numsOf its.toArray.toList=ns from hi.numsOf).symm
 let e2:preSum (numAt xs) xs.size=ns.sum:=by
  rw[preSum_eq,pW (by simp),e1]
 rw[e2];exact{.int _,H,I.kept hk,⟨_,O⟩,q}
def zGu:List V->List V->Bool
 | [],[]=>true
 | x::xs,y::ys=>eqV x y && zGu xs ys
 | _,_=>false
theorem zFt:∀(xs ys:List V),xs...*=ys...*->(List.range xs...*).all (λj=>match xs[j]?,ys[j]? with | some a,Y b=>eqV a b | _,_=>true)=zGu xs ys
 | [],[],_=>rfl
 | x::xs,y::ys,h=>by
  let ih:=zFt xs ys (by simpa using h);rw[nI,List.range_succ_eq_map,cK,cT];show(eqV x y && _)=(eqV x y && zGu xs ys);rw[<-ih]
  congr 1
theorem zLw:∀{xs ys:List V},xs...*≠ys...*->zGu xs ys=false
 | [],[],h=>absurd O h
 | [],_::_,_=>rfl
 | _::_,[],_=>rfl
 | x::xs,y::ys,h=>by
  let ih:=zLw (xs:=xs) (ys:=ys) (by simpa using h);show(eqV x y && zGu xs ys)=false;rw[ih,Bool.and_false]
def rEqL(K:A7)(neg:Bool):R2:=λx y H Q=>∃a b xs ys,x= .ref a/\y= .ref b/\SqL K H a xs/\SqL K H b ys/\xs.all qW=true/\ys.all qW=true/\Q (.bl (if neg then !zGu xs ys else zGu xs ys)) H
theorem Vals.some_at{xs:List V}{us:List V0}(r:Vals xs us){j:Nat}(h:j<us...*):∃x,xs[j]? =Y x/\RelV x us[j]:=by
 let hl:=r...*;obtain⟨x,e⟩:∃x,xs[j]? =Y x:={xs[j],by simp[hl,h]};obtain⟨u,hu,ru⟩:=r.get e;let e2:us[j]? =some us[j]:=by simp[h]
 rw[e2] at hu;cases hu;exact⟨x,e,ru⟩
theorem zTy{A:Around}{s:V2}{xs ys:List V}{us ws:List V0}(r:Vals xs us)(q:Vals ys ws)(fx:xs.all qW=true)(fy:ys.all qW=true):
  ∀j(h1:j<us.toArray.size)(h2:j<ws.toArray.size),SeqAt.EqAt A s us.toArray[j] ws.toArray[j] ((λj=>match xs[j]?,ys[j]? with | some a,Y b=>eqV a b | _,_=>true) j):=λj h1 h2=>by
 obtain⟨x,e1,r1⟩:=r.some_at (j:=j) (by simpa using h1);obtain⟨y,e2,r2⟩:=q.some_at (j:=j) (by simpa using h2);let f1:qW x=true:=pT.mp fx x (mF e1);let f2:qW y=true:=pT.mp fy y (mF e2);let z:=zVh (A:=A) (s:=s) r1 r2 f1 f2;simp only[e1,e2]
 simpa using z
theorem zYh(hu:X.A.units<cLine):OpR X (A4 .NotEq) (rEqL X.K true):=by
 intro pins s σ H x y v u Q I rx ry h;ext yS h a b xs ys r4_ z_;ext yR z_ r5_ ha hb fx fy q;subst r4_ r5_;cases rx;cases ry;refine xD (I.list ha) λits r1 pl1 _=>?_;refine xD (I.list hb) λits2 r2 pl2 _=>?_;let l1:=r1...*;let l2:=r2...*
 by_cases e:xs...*=ys...*
 ·refine SeqAt.RcNeAt.lists pl1.isList pl2.isList (by simp only[nF];lia) hu (zTy r1 r2 fx fy) X.prog X.w X.xe _ {.bl _,H,I,O, ?_}
  rw[nF,<-l1,zFt xs ys e];exact q
 ·refine SeqAt.RcNeAt.lists_lengths pl1.isList pl2.isList (by simp only[nF];simpa [<-l1,<-l2] using e) hu X.prog X.w X.xe _ {.bl _,H,I,O, ?_}
  let z:=zLw e
  simpa [z] using q
def tyS(H:Hp):V->Option String
 | .non=>some "NoneType"
 | .bl _=>some "bool"
 | .int _=>some "int"
 | .str _=>some "str"
 | .ref a=>match H a with
  | some (.lst _)=>some "list"
  | some (.tup _)=>some "tuple"
  | some (.dK _)=>some "dict"
  | _=>none
 | _=>none
def zT(t T:String):Bool:=t==T ||(t== "bool" && T== "int")
theorem zSq{K:A7}{H:Hp}{x:V}{t:String}(h:tyS H x=Y t):zDe K H x (.type t):=by
 cases x with
 | non=>cases h;exact .non
 | bl b=>cases h;exact .bl b
 | int i=>cases h;exact .int i
 | str z=>cases h;exact .str z
 | ref a=>
  let h':(match H a with | some (.lst _)=>some "list" | some (.tup _)=>some "tuple" | some (.dK _)=>some "dict" | _=>none)=Y t:=h
  cases e:H a with
  | none=>rw[e] at h';cases h'
  | some o=>
   rw[e] at h'
   cases o with
   | lst xs=>cases h';exact .lst e
   | tup xs=>cases h';exact .tup e
   | dK kvs=>cases h';exact .dK e
   | _=>cases h'
 | byt b=>cases h
 | flt b=>cases h
 | ty n=>cases h
def tyL:List String:=["NoneType","bool","int","str","list","tuple","dict"]
def kitB(t T:String):Option Bool:=if(Value.type t==Value.type T)=true then Y true else if W.kitMeta T=true then(fastBuiltinMro t).map (·.contains (.type T)) else none
theorem zZq:(tyL.all λt=>tyL.all λT=>kitB t T==Y (zT t T))=true:=by decide+kernel
theorem zDc{K:A7}{t T:String}(h1:t∈tyL)(h2:T∈tyL):W.kitOne K (.type t) (.type T)=Y (zT t T):=by
 let a:=pT.mp (pT.mp zZq t h1) T h2;let b:kitB t T=Y (zT t T):=by simpa using a
 exact b
theorem qG{H:Hp}{x:V}{t:String}(h:tyS H x=Y t):t∈tyL:=by
 cases x<;>first |(cases h;simp[tyL];done)|(cases h;done)| skip
 rename_i a;let h':(match H a with | some (.lst _)=>some "list" | some (.tup _)=>some "tuple" | some (.dK _)=>some "dict" | _=>none)=Y t:=h
 split at h'<;>first |(cases h';simp[tyL];done)|(cases h';done)
theorem zYx{pins:List (V1×Obj)}{σ:St}{H:Hp}{s:V2}{x:V}{u:V0}{t:String}(I:Inv X pins σ H s)(rx:RelV x u)(h:tyS H x=Y t):
  ∃φ:V5->Prop,W.KitX X.K u (.type t) φ/\φ s.heap/\u≠ .builtin "__main__.__loader__#opaque":=by
 cases zSq (K:=X.K) h with
 | non=>cases (show u=Value.none from rx);exact{_,W.kitx_none,mH,λz=>nomatch z}
 | bl y=>cases (show u=Value.bool y from rx);exact{_,W.kitx_bool,mH,λz=>nomatch z}
 | int i=>obtain⟨t,q⟩:=(show∃t,u=Value.int i t from rx);cases q;exact{_,W.kitx_int,mH,λz=>nomatch z}
 | str y=>obtain⟨t,q⟩:=(show∃t,u=Value.str y t from rx);cases q;exact{_,W.kitx_str,mH,λz=>nomatch z}
 | flt y=>obtain⟨t,q⟩:=(show∃t,u=Value.float y t from rx);cases q;exact{_,W.kitx_float,mH,λz=>nomatch z}
 | @lst a xs ea=>
  cases (show u=Value.ref a from rx);obtain⟨_,_,n,_,h1⟩:=(show ObjOk X.prog X.w H s.heap a (.lst xs) from I.hok a _ ea);exact{_,dE,⟨_,h1,O⟩,λz=>nomatch z}
 | @frz a ob xs ea=>
  cases (show u=Value.ref a from rx);obtain⟨_,_,_,n,_,h1⟩:=(show ObjOk X.prog X.w H s.heap a (.frz ob (.lst xs)) from I.hok a _ ea);exact{_,dE,⟨_,h1,O⟩,λz=>nomatch z}
 | @tup a xs ea=>
  cases (show u=Value.ref a from rx);obtain⟨_,_,_,p⟩:=(show ObjOk X.prog X.w H s.heap a (.tup xs) from I.hok a _ ea);ext xD p o h1 h2 _;exact⟨_,W.kitx_tuple,⟨o,h1,h2⟩,λz=>nomatch z⟩
 | @dK a kvs ea=>
  cases (show u=Value.ref a from rx);obtain⟨_,_,vs,_,p⟩:=(show ObjOk X.prog X.w H s.heap a (.dK kvs) from I.hok a _ ea);ext yC p o es ep h1 h2 _;exact⟨_,cB,⟨o,h1,h2.1⟩,λz=>nomatch z⟩
 | @dT a kvs ea=>
  cases (show u=Value.ref a from rx);obtain⟨_,_,xs,_,o,es,ep,h1,h2,_⟩:=(show ObjOk X.prog X.w H s.heap a (.dT kvs) from I.hok a _ ea);exact{_,cB,⟨o,h1,h2.1⟩,λz=>nomatch z}
theorem qL{T U:String}(hT:T∈tyL)(hU:U∈tyL):wV X (.builtin "isinstance") (λxs H Q=>∃x t p,xs= [x, .ref p]/\H p=Y (.tup [.ty T, .ty U])/\tyS H x=Y t/\Q (.bl (zT t T || zT t U)) H):=by
 intro pins s σ H xs us Q I r h;ext yC h x t p r3_ hp z_;ext oA z_ ht q;subst r3_;refine yN (zDu r) λu w' r2_ ru rw'=>?_;subst r2_;cases (show w'=Value.ref p from rw');refine xD (zYx I ru ht) λφ Zy hφ hne=>?_;obtain⟨_,its,rv,pl⟩:=(show ObjOk X.prog X.w H s.heap p (.tup [.ty T, .ty U]) from I.hok p _ hp);refine yN (zDu rv) λv1 v2 e r1 r2=>?_;subst e;cases (show v1=Value.type T from r1);cases (show v2=Value.type U from r2);obtain⟨o,ho,hc,n,hd⟩:=pl;obtain⟨oc,od,odt,osl⟩:=o;cases (show oc=Value.type "tuple" from hc);cases (show odt=Data.seq _ n from hd);refine W.kia_tup Zy I.kIn hφ ho (b:=zT t T || zT t U) ?_ hne λtk=>{.bl _,H,I.tok _,O,q}
 let k1:=zDc (K:=X.K) (qG ht) hT;let k2:=zDc (K:=X.K) (qG ht) hU;simp only[W.kitAny,k1,k2];cases zT t T<;>cases zT t U<;>rfl
theorem zGs{T:String}(hT:T∈tyL):wV X (.builtin "isinstance") (λxs H Q=>∃x t,xs= [x, .ty T]/\tyS H x=Y t/\Q (.bl (zT t T)) H):=by
 intro pins s σ H xs us Q I r h;ext yN h x t r2_ ht q;subst r2_;refine yN (zDu r) λu w' r2_ ru rw'=>?_;subst r2_;cases (show w'=Value.type T from rw');exact zSj I ru (zSq ht) (zDc (qG ht) hT) λtk=>{.bl _,H,I.tok _,O,q}
end
theorem yV:A2 "len" =Y (.builtin "len"):=by decide+kernel
theorem zH:A2 "isinstance" =Y (.builtin "isinstance"):=by decide+kernel
theorem uM:A2 "all" =Y (.builtin "all"):=by decide+kernel
theorem yCw:A2 "sum" =Y (.builtin "sum"):=by decide+kernel
theorem yEq:A2 "abs" =Y (.builtin "abs"):=by decide+kernel
theorem yFe:A2 "ord" =Y (.builtin "ord"):=by decide+kernel
theorem zKd:A2 "min" =Y (.builtin "min"):=by decide+kernel
theorem yEe:A2 "max" =Y (.builtin "max"):=by decide+kernel
theorem vY:A2 "sorted" =Y (.builtin "sorted"):=by decide+kernel
theorem vL:A2 "int" =Y (.type "int"):=by decide+kernel
theorem qZ:A2 "str" =Y (.type "str"):=by decide+kernel
theorem zKe:A2 "bool" =Y (.type "bool"):=by decide+kernel
theorem yX:A2 "list" =Y (.type "list"):=by decide+kernel
theorem xF:A2 "dict" =Y (.type "dict"):=by decide+kernel
theorem zAp:A2 "tuple" =Y (.type "tuple"):=by decide+kernel
structure Bl(mg:Str->Option V0):Prop where
 len:mg "len" =none
 range:mg "range" =none
 isinstance:mg "isinstance" =none
 all:mg "all" =none
 sum:mg "sum" =none
 int:mg "int" =none
 str:mg "str" =none
 bool:mg "bool" =none
 list:mg "list" =none
 dict:mg "dict" =none
 tuple:mg "tuple" =none
structure Dn(P:V3)(w:V4)(K:A7)(mg:Str->Option V0)(base:V5)(k:Nat)(x:Str)(ps:List Str)(sp:Sp):Prop where
 ex:∃(f:V1)(fd:V7),FnOk P w K mg base CX0 k f fd ps sp/\Binds K fd ps []/\A8 K (.ref f)=true/\mg x=Y (.ref f)
section
variable{X:Cx}{k j:Nat}{x:Str}{ps:List Str}{sp:Sp}{e:Expr}{es:List Expr}{t:TA}{p pos:Pos}
theorem zP(D:Dn X.prog X.w X.K X.mg X.base k x ps sp)(hr:Room j X.A)(hj:k<=j)(hg:Gl X x)(ha:PA X (e::es) t)(hdb:(x==("__debug__" :Str))=false:=by decide)
  (he:A3 (e::es) X.env=(false,eval e X.env)::A3 es X.env:=by rfl) (hpl:(S2 pos (A3 es X.env)).any (·.1)=false:=by rfl):PE X (.Call (.Name x p) (e::es) [] pos) (zCe sp [] E0 t):=by
 refine yA (D.ex) λf fd h1 h2 h3 h4=>?_;exact yAs h1 (hr.mono hj) hg h4 h3 h2 .nil yBh ha hdb he hpl
theorem yFc(D:Dn X.prog X.w X.K X.mg X.base k x ps sp)(hr:Room j X.A)(hj:k<=j)(hg:Gl X x)(hdb:(x==("__debug__" :Str))=false:=by decide):PE X (.Call (.Name x p) [] [] pos) (zCe sp [] E0 zGv):=by
 refine yA (D.ex) λf fd h1 h2 h3 h4=>?_;exact zUe h1 (hr.mono hj) hg h4 h3 h2 .nil yBh hdb
end
theorem zOb{α β:Type}{l:List α}{f:α->β->Sem (ForInStep β)}(g:β->α->β)(h:∀x∈l,∀c,f x c=pure (.yield (g c x))):∀b:β,forIn l b f=pure (l.foldl g b):=by
 induction l with
 | nil=>intro b;rfl
 | cons a r ih=>
  intro b;rw[List.forIn_cons,h a mG];show forIn r (g b a) f=_;rw[ih (λx hx=>h x (mE _ hx)) (g b a)]
  rfl
def qH(env:S8)(cs:List (Str×V1))(x:Str×NameKind):List (Str×V1):=
 if(x.2==S3)=true then(match env.cells.lookup x.1 with | some a=>(x.1,a)::cs | none=>cs) else cs
def clo(env:S8)(names:List (Str×NameKind)):List (Str×V1):=names.foldl (qH env) []
theorem zAg{scope:Scope}{env:S8}(h:∀x∈scope.names,x.2= .free->∃c,env.cells.lookup x.1=Y c):closureFor scope env=pure (clo env scope.names):=by
 simp only[closureFor];rw[zOb (qH env) (λx hx c=>by
  obtain⟨n,k⟩:=x
  by_cases hk:k= .free
  ·subst hk
   obtain⟨a,e⟩:=h _ hx O;let e':env.cells.lookup n=Y a:=e;simp[qH,cellOf,e']
  ·let e:(k==S3)=false:=by simpa using hk
   simp[qH,e])]
 rfl
theorem zPm{env:S8}:∀(names:List (Str×NameKind))(cs:List (Str×V1)),(∀p∈cs,env.cells.lookup p.1=Y p.2)->∀p∈names.foldl (qH env) cs,env.cells.lookup p.1=Y p.2
 | [],_,h=>h
 | x::r,cs,h=>by
  refine zPm r (qH env cs x) λp hp=>?_;unfold qH at hp;split at hp
  ·split at hp
   ·rename_i a e
    rcases mI.mp hp with z | z
    ·rw[z];exact e
    ·exact h p z
   ·exact h p hp
  ·exact h p hp
theorem zLz{env:S8}{p:Str×V1}:∀(names:List (Str×NameKind))(cs:List (Str×V1)),p∈cs->p∈names.foldl (qH env) cs
 | [],_,h=>h
 | x::r,cs,h=>by
  refine zLz r (qH env cs x) ?_;unfold qH;split
  ·split
   ·exact mE _ h
   ·exact h
  ·exact h
theorem zQe{env:S8}{n:Str}{c:V1}(e:env.cells.lookup n=Y c):∀(names:List (Str×NameKind))(cs:List (Str×V1)),(n,S3)∈names->(n,c)∈names.foldl (qH env) cs
 | [],_,h=>nomatch h
 | x::r,cs,h=>by
  rcases mI.mp h with z | z
  ·subst z
   refine zLz r _ ?_;unfold qH;rw[mO (by rfl)];show(n,c)∈(match env.cells.lookup n with | some a=>(n,a)::cs | none=>cs)
   rw[e];exact mG
  ·exact zQe e r _ z
theorem kO{α:Type}{n:Str}{c:α}:∀{l:List (Str×α)},(n,c)∈l->∃c',l.lookup n=Y c'
 | [],h=>nomatch h
 |(m,d)::r,h=>by
  by_cases e:n=m
  ·subst e;exact{d,by simp[sQ]}
  ·rcases mI.mp h with z | z
   ·cases z;exact absurd O e
   ·obtain⟨c',q⟩:=kO z
    let e2:(n==m)=false:=by simpa using e
    exact{c',by rw[sQ,e2];exact q}
theorem zTs{env:S8}{names:List (Str×NameKind)}{n:Str}{c:V1}(h:(clo env names).lookup n=Y c):env.cells.lookup n=Y c:=
 zPm names [] (λ_ z=>nomatch z) (n,c) (rT h)
theorem zGg{env:S8}{names:List (Str×NameKind)}{n:Str}{c:V1}(e:env.cells.lookup n=Y c)(h:(n,S3)∈names):(clo env names).lookup n=Y c:=by
 obtain⟨c',q⟩:=kO (zQe e names [] h);let q':(clo env names).lookup n=Y c':=q;let z:=zTs q';rw[e] at z;rw[q',<-z]
inductive FreeOk (X:Cx) (scope:Scope):List (Str×Nat)->Prop where
 | nil:FreeOk X scope []
 | cons {x:Str} {i:Nat} {r:List (Str×Nat)} (h1:X.N[i]? =Y x) (h2:X.env.kindOf x=some .cell) (h3:scope.names.lookup x=some .free) (h:FreeOk X scope r):FreeOk X scope ((x,i)::r)
theorem FreeOk.mem{X:Cx}{scope:Scope}:∀{F:List (Str×Nat)},FreeOk X scope F->∀p∈F,X.N[p.2]? =Y p.1/\X.env.kindOf p.1=some .cell/\scope.names.lookup p.1=some .free
 | _, .nil,_,h=>nomatch h
 | _, .cons h1 h2 h3 h,p,hp=>by
  rcases mI.mp hp with z | z
  ·subst z;exact⟨h1,h2,h3⟩
  ·exact h.mem p z
structure CompSc(X:Cx)(scope:Scope)(own:List Str)(F:List (Str×Nat)):Prop where
 kind:scope.kind= .function
 nocell:(scope.names.all λy=>!(y.2==NameKind.cell))=true
 loc:(scope.names.all λy=>!(y.2==NameKind.local)||(scope.names.lookup y.1==Y NameKind.local))=true
 fr:(scope.names.all λy=>!(y.2==S3)||(X.env.scope.names.lookup y.1==Y NameKind.cell))=true
 free:FreeOk X scope F
def xX(own:List Str)(F:List (Str×Nat)):List Str:=own++F.map (·.1)
def zBj(own:List Str)(F:List (Str×Nat))(σ:St):St:=own.map (λ_=>Option.none)++F.map (λp=>(σ[p.2]?).join)
def vE(X:Cx)(own:List Str)(F:List (Str×Nat))(scope:Scope)(C:V1)(s₃:V2)(H₃:Hp)(ex:List V1):Cx where
 prog:=X.prog
 w:=X.w
 K:=X.K
 mg:=X.mg
 base:=X.base
 A:=X.A
 N:=xX own F
 s₀:=s₃
 H₀:=H₃
 env:=compEnvC scope (clo X.env scope.names) C X.env
 outer:=X.stack
 stack:=X.stack
 ex:=ex
 fn:=λ_=>false
 calm:=X.calm
 pn:=[]
 xe:=λ_ _=>False
theorem CompSc.nc{X:Cx}{scope:Scope}{own:List Str}{F:List (Str×Nat)}(S:CompSc X scope own F):∀y∈scope.names,y.2≠ .cell:=λy hy e=>by
 let q:=pT.mp S.nocell y hy;rw[e] at q;exact absurd q ∎
theorem CompSc.lc{X:Cx}{scope:Scope}{own:List Str}{F:List (Str×Nat)}(S:CompSc X scope own F):∀y∈scope.names,y.2= .local->scope.names.lookup y.1=some .local:=λy hy e=>by
 let q:=pT.mp S.loc y hy;rw[e] at q
 simpa using q
theorem CompSc.fc{X:Cx}{scope:Scope}{own:List Str}{F:List (Str×Nat)}(S:CompSc X scope own F):∀y∈scope.names,y.2= .free->X.env.kindOf y.1=some .cell:=λy hy e=>by
 let q:=pT.mp S.fr y hy;rw[e] at q;let q':X.env.scope.names.lookup y.1=Y NameKind.cell:=by simpa using q
 exact q'
theorem zIo{scope:Scope}{env:S8}(hc:∀y∈scope.names,y.2≠ .cell){x:Str}(h:(relabel scope env).names.lookup x=some .cell\/(relabel scope env).names.lookup x=some .free):(x,S3)∈scope.names:=by
 let go:∀k,(relabel scope env).names.lookup x=Y k->k= .cell\/k= .free->(x,S3)∈scope.names:=λk e hk=>by
  let m:=rT e;unfold relabel at m;obtain⟨⟨n,k0⟩,hm,e2⟩:=nB.mp m
  by_cases hf:k0= .free
  ·subst hf
   dsimp only at e2;split at e2<;>(cases e2;exact hm)
  ·let e3:(k0==S3)=false:=by simpa using hf
   simp only[e3,aZ,cE,bX] at e2;cases e2;rcases hk with z | z
   ·exact absurd z (hc _ hm)
   ·exact absurd z hf
 rcases h with h | h
 ·exact go _ h (.inl O)
 ·exact go _ h (.inr O)
theorem jY{env:S8}(hf:env.scope.kind= .function):∀{names:List (Str×NameKind)}{x:Str},names.lookup x=some .free->env.kindOf x=some .cell->
  (names.map fun(n,k)=>if(k==S3 && env.scope.kind== .function && env.kindOf n==some .cell) then(n,NameKind.cell) else(n,k)).lookup x=some .cell
 | [],_,h,_=>by simp at h
 |(n,k)::r,x,h,hx=>by
  let ih:=@jY env hf r x;rw[mV]
  by_cases e:x=n
  ·subst e
   let hk:k= .free:=by simpa [sQ] using h
   subst hk;let c:(S3==S3 && env.scope.kind== .function && env.kindOf x==some .cell)=true:=by rw[hf,hx];rfl
   show List.lookup x ((if(S3==S3 && env.scope.kind== .function && env.kindOf x==some .cell)=true then(x,NameKind.cell) else(x,S3))::_)=_;rw[mO c];simp[sQ]
  ·let e2:(x==n)=false:=by simpa using e
   let h':r.lookup x=some .free:=by rw[sQ,e2] at h;exact h
   let q:=ih h' hx;dsimp only;split
   ·rw[sQ,e2];exact q
   ·rw[sQ,e2];exact q
section
variable{X:Cx}{pins:List (V1×Obj)}{σ:St}{H:Hp}{s:V2}
theorem Inv.freeCells{scope:Scope}{own:List Str}{F:List (Str×Nat)}(I:Inv X pins σ H s)(S:CompSc X scope own F):∀x∈scope.names,x.2= .free->∃c,X.env.cells.lookup x.1=Y c:=λx hx e=>
 I.ok.has x.1 (.inl (S.fc x hx e))
theorem Inv.notStk(I:Inv X pins σ H s){b:V1}(h1:b≠X.env.locals)(h2:b∉X.fs):b∉frs X.stack:=λz=>(mI.mp (I.stkSub b z)).elim h1 h2
theorem zNq{scope:Scope}{own:List Str}{F:List (Str×Nat)}{fp:List V1}{h1:V5}{tk:Nat}(I:Inv X pins σ H s)(S:CompSc X scope own F)(hf:∀b∈fp,zEc X pins H b)(hlt:∀b∈fp,b<s⁻¹){s3:V2}
  (e3:s3={s with heap:=s.heap.push {cls:=.type "list",data:=.seq ([]:List V0).toArray}})
  (hns:h1.Ns s3⁻¹ (λ_=>none)) (hk:∀b o,s3.heap.get? b=Y o->h1.get? b=Y o):
  Inv (vE X own F scope s3⁻¹ s3 H (s⁻¹::fp)) [] (zBj own F σ) H {s3 with heap:=h1,toks:=tk}:=by
 let sz3:s3⁻¹=s⁻¹+1:=by rw[e3];exact bY ..
 let k3:∀b o,s.heap.get? b=Y o->s3.heap.get? b=Y o:=λb o e=>by rw[e3];exact mU _ e
 let I3:Inv X pins σ H s3:=by rw[e3];exact I.kept (t':=s.toks) λb o e=>mU _ e
 let lkup:∀x c,(clo X.env scope.names).lookup x=Y c->X.env.cells.lookup x=Y c:=λx c e=>zTs e;let base_lt:∀b o,X.base.get? b=Y o->b<X.s₀⁻¹:=λb o e=>nR (nD e) I.ok.bsz;let kf:X.env.scope.kind= .function:=I.ok.kind;refine{⟨I.ok.mod,S.kind,I.ok.glob,I.ok.blt,mB _,λx y c h1 h2=>I.ok.inj x y c (lkup x c h1) (lkup y c h2),λx hx=>?_,λx c hx _=>(nomatch hx),I.ok.hd,I.ok.frames, .inl O,λb hb=>?_,λb o e=>?_, ?_,λb o e hb=>?_,λb hb=>?_,I3.stack,λb hb=>I.stkFree b hb⟩,
  rfl,I3.bare,Un.kept hk,{_,hns,λi x v e1 e2 e3'=>?_},λx c e=>?_, ?_,λx c e=>I.freeC x c (lkup x c e),λp hp=>absurd (show p∈([]:List (V1×Obj)) from hp) (by simp),I3.hok.kept hk, ?_}
 ·let hm:=zIo S.nc hx
  obtain⟨c,e⟩:=I.freeCells S _ hm O;exact{c,zGg e hm}
 ·rcases mI.mp hb with z | z
  ·subst z
   refine{λq=>?_,λx c e q=>?_}
   ·let q':s⁻¹=s3⁻¹:=q
    lia
   ·obtain⟨v,u⟩:=I.cell x c (lkup x c e)
    exact absurd u.lt (by rw[q];exact sJ _)
  ·refine{λq=>?_,λx c e=>(hf b z).2.2.2.2.1 x c (lkup x c e)}
   exact nX (nR (hlt b z) (show s⁻¹<=s3⁻¹ by lia)) q
 ·obtain⟨a1,a2⟩:=I.bs b o e
  exact⟨k3 b o a1,a2⟩
 ·exact nS (nS I.ok.bsz I.sz) (by show s⁻¹<=s3⁻¹;lia)
 ·let l1:=base_lt b o e
  rcases mI.mp hb with z | z
  ·exact absurd (nR l1 I.sz) (by rw[z];exact sJ _)
  ·rcases(hf b z).2.2.2.1 with q | q
   ·exact I.ok.noex b o e q
   ·exact absurd l1 (Nat.not_lt.mpr q)
 ·rcases mI.mp hb with z | z
  ·subst z
   exact I.notStk (rJ I.lt) (I.nofs (mB _))
  ·exact I.notStk (hf b z).2.1 (hf b z).2.2.1
 ·-- a name that is seen
  let hi:own...*<=i:=by
   by_cases z:i<own...*
   ·rw[zBj,pF (by simpa using z),mW] at e2
    cases q:own[i]? with
    | none=>rw[q] at e2;cases e2
    | some y=>rw[q] at e2;cases e2
   ·lia
  rw[zBj,pG (by simpa using hi),mW] at e2;let e1':(own++F.map (·.1))[i]? =Y x:=e1;rw[pG hi,mW] at e1';simp only[mC] at e2
  cases q:F[i - own...*]? with
  | none=>rw[q] at e2;cases e2
  | some p=>
   rw[q] at e1' e2;simp only[Option.map_some,Option.some.injEq] at e1' e2;obtain⟨f1,f2,f3⟩:=S.free.mem p (mF q);subst e1';obtain⟨m,hn,hl⟩:=I.loc;let e4:σ[p.2]? =Y ↥v:=by
    cases r:σ[p.2]? with
    | none=>rw[r] at e2;cases e2
    | some o=>rw[r] at e2;exact congrArg some e2
   obtain⟨u,ru,l⟩:=hl p.2 p.1 v f1 e4 (.inr (.inl f2));refine{u,ru, .inr {.inl (jY kf f3 f2), ?_}};rcases l with⟨l,_⟩|⟨_,c,ec,z⟩
   ·rw[f2] at l;cases l
   ·refine{c,zGg ec (rT f3), ?_}
    obtain⟨oc,ho,hd⟩:=z;exact{oc,hk _ _ (k3 _ _ ho),hd}
 ·refine wA (I.cell x c (lkup x c e)) λv oc ho hd=>?_
  exact{v,oc,hk _ _ (k3 _ _ ho),hd}
 ·exact I.hok.fresh (by show s⁻¹<=s3⁻¹;lia)
 ·show(zBj own F σ)...*=(xX own F)...*
  simp[zBj,xX]
theorem zQt{scope:Scope}{own:List Str}{F:List (Str×Nat)}{fp:List V1}{s3 s4:V2}{σ':St}{H':Hp}{ys:List V}{its:List V0}{n:Nat}(I:Inv X pins σ H s)(hf:∀b∈fp,zEc X pins H b)
  (e3:s3={s with heap:=s.heap.push {cls:=.type "list",data:=.seq ([]:List V0).toArray}})
  (J:Inv (vE X own F scope s3⁻¹ s3 H (s⁻¹::fp)) [] σ' H' s4) (hz:ys...*<=V9) (hv:Vals ys its)
  (ha:s4.heap.get? s⁻¹=some {cls:=.type "list",data:=.seq its.toArray n}) (hn:H' s⁻¹=none):Inv X pins σ (upd H' s⁻¹ (.lst ys)) s4:=by
 let sz3:s3⁻¹=s⁻¹+1:=by rw[e3];exact bY ..
 let k3:∀b o,s.heap.get? b=Y o->s3.heap.get? b=Y o:=λb o e=>by rw[e3];exact mU _ e
 let U:Un (frs X.stack) (s⁻¹::fp) H H' s3.heap s4.heap:=J.base;let ne:∀b o,s.heap.get? b=Y o->b≠s⁻¹:=λb o e=>nX (nD e);let nx:∀b o,s.heap.get? b=Y o->b∉fp->b∉s⁻¹::fp:=λb o e h z=>(mI.mp z).elim (ne b o e) h;let os4:s4.os=s.os:=by
  let q:s4.os=s3.os:=J.os;rw[q,e3]
 refine I.call' (ch:=fp) os4 ⟨λb o e z hb hx=>U.keep b o (k3 b o e) z hb (nx b o e hx),λb o e z hb hx=>U.slot b o (k3 b o e) z hb (nx b o e hx),λb o e z hx=>?_,λb o e hx=>U.there b o (k3 b o e) (nx b o e hx),λb xs e=>?_,λb o u e=>?_,λb ps e=>?_⟩ (λb u e=>?_) J.bare λb hb=>?_
 ·rw[zV (ne b o e)]
  exact U.free b o (k3 b o e) z (nx b o e hx)
 ·let q:=U.tups b xs e
  rw[zV (yZ q hn)];exact q
 ·let q:=U.frzs b o u e
  rw[zV (yZ q hn)];exact q
 ·obtain⟨more,q⟩:=U.tbls b ps e
  exact{more,by rw[zV (yZ q hn)];exact q}
 ·by_cases hb:b=s⁻¹
  ·subst hb
   rw[zC] at e;cases e;exact⟨hz,its,n,hv,ha⟩
  ·rw[zV hb] at e
   exact(J.hok b u e).stay (λ_ _ _ q=>q) (λc q=>by rw[zV (yZ q hn)];exact q) λc xs q=>by rw[zV (yZ q hn)];exact q
 ·refine yR (hf b hb) λ_ f1 _ f3 f4 f5=>?_
  exact⟨f3,f1,f4,f5⟩
theorem zFc{H':Hp}{s4:V2}{C:V1}{h':V5}{σ4:St}(I:Inv X pins σ H s)(hC:s⁻¹<=C)(I4:Inv X pins σ4 H' s4)(hn:H' C=none)(hs:Heap.SameBut C s4.heap h'):Inv X pins σ4 H' {s4 with heap:=h'}:=by
 let q:=I4.turned (it:=C) (t':=s4.toks) (h':=h') (λb o hb e=>(hs.2 b hb).trans e) hn (rJ (nR I.lt hC)) (.inr (nS I.sz hC)) (λx c e z=>?_) (λp hp z=>?_)
 ·exact q
 ·obtain⟨v,u⟩:=I.cell x c e
  exact absurd (nR u.lt (by rw[z];exact hC)) (sJ _)
 ·exact absurd (nR (nD (I.pin p hp).1) (by rw[z];exact hC)) (sJ _)
end
def PTs(X:Cx)(ifs:List Expr)(t:TT):Prop:=
 ∀(pins:List (V1×Obj))(s:V2)(σ:St)(H:Hp)(Q:Bool->Hp->Prop),Inv X pins σ H s->t σ H Q->
  V8 (S6 X.prog X.w) X.A (forIn ifs true λc r=>if r=true then do let ok <-isTrue c X.env (eval c X.env);pure (ForInStep.yield ok) else pure (ForInStep.yield r)) (TP X pins σ Q) X.xe s
def zBo:TT:=λ_ H Q=>Q true H
theorem xJ{X:Cx}:PTs X [] zBo:=λ_ _ _ H _ I h=>wpAny_tests_nil ⟨H,I,h⟩
theorem zPn{X:Cx}{c:Expr}{t:TT}(h:PT X c t):PTs X [c] t:=λpins s σ H Q I q=>wpAny_tests_one (h pins s σ H Q I q)
theorem zMb{prog:V3}{w:V4}{A:Around}{R:Result->V2->Prop}{s:V2}{elt target iter:Expr}{ifs:List Expr}{scope:Scope}{pos:Pos}{it acc:V0}{env:S8}(I:Nat->V2->Prop)
  (turn:∀n s,I n s->V8 (S6 prog w) A (pyNext it) (λr s₁=>match r with
   | none=>R (.ok .next) s₁
   | some v=>V8 (S6 prog w) A (letOwnedTupleGo target it v) (λ_ s₂=>V8 (S6 prog w) A (assign target env v) (λ_ s₃=>
     V8 (S6 prog w) A (forIn ifs true λc r=>if r=true then do let ok <-isTrue c env (eval c env);pure (ForInStep.yield ok) else pure (ForInStep.yield r)) (λok s₄=>
      if ok=true then V8 (S6 prog w) A (eval elt env) (λx s₅=>
       V8 (S6 prog w) A (call (.builtin "list.append") [acc,x]) (λ_ s₆=>∃m,m<n/\I m s₆) (λ_ _=>False) s₅) (λ_ _=>False) s₄
      else∃m,m<n/\I m s₄) (λ_ _=>False) s₃) (λ_ _=>False) s₂) (λ_ _=>False) s₁) (λ_ _=>False) s)
  (n:Nat) (h:I n s):codeAny (S6 prog w) A (.compLoop (.ListComp elt [{target,iter,ifs,0}] scope pos) 0 it acc env) R s:=by
 refine codeAny_loop O I (λn s hI=>?_) n h;show V8 _ A ((compTurn (.ListComp elt [{target,iter,ifs,0}] scope pos) 0 it acc env).onRaise (λx=>do noteFrame x env;theTreesLotGoes x)) _ _ s;refine wpAny_noted ?_;rw[compTurn_list];refine mS (wpAny_standAt (mS (rX (turn n s hI) (λr s₁ h₁=>?_) λ_ _ f=>f.elim)))
 cases r with
 | none=>exact nO h₁
 | some v=>
  refine mS (rX h₁ (λ_ s₂ h₂=>mS (rX h₂ (λ_ s₃ h₃=>mS (rX h₃ (λok s₄ h₄=>?_) λ_ _ f=>f.elim)) λ_ _ f=>f.elim)) λ_ _ f=>f.elim)
  cases ok with
  | false=>exact nO ⟨O,h₄⟩
  | true=>exact mS (mS (rX h₄ (λx s₅ h₅=>mS (rX h₅ (λ_ s₆ h₆=>nO (nO ⟨O,h₆⟩)) λ_ _ f=>f.elim)) λ_ _ f=>f.elim))
def yCp(σ σ':St):Prop:=σ'...*=σ...*/\∀(i:Nat) v,σ'[i]? =Y ↥v->σ[i]? =Y ↥v
theorem zUc{σ:St}{i:Nat}{v:Option V}(h:σ[i]? =Y none):yCp (σ.set i v) σ:=by
 refine{by simp,λj u e=>?_}
 by_cases hj:i=j
 ·subst hj;rw[h] at e;cases e
 ·rw[rW hj];exact e
def vA(own:List Str)(F:List (Str×Nat))(g:TG)(tt:TT)(te:TE)(σ:St)(Q:VK)(J:It)(H1:Hp):Prop:=∃W:Nat->Nat->List V->Hp->Prop,(∃m,W 0 m [] H1)/\∀i m ys H',W i m ys H'->ys...*<=i->
 (J.stop i H'/\i<=V9/\∀p,H' p=none->Q (.ref p) (upd H' p (.lst ys)))\/
 (J.go i H'/\i<V9/\∃N:List V->Hp->Prop,(∀ys' H'',N ys' H''->∃m',m'<m/\W (i+1) m' ys' H'')/\
  ∀x H2,J.yld i H' x H2->g x (zBj own F σ) H2 λσ3 H3=>yCp σ3 (zBj own F σ)/\tt σ3 H3 λb H4=>if b=true then te σ3 H4 λy H5=>N (ys++ [y]) H5 else N ys H4)
def zHv(own:List Str)(F:List (Str×Nat))(wi:TI)(g:TG)(tt:TT)(te:TE):TE:=λσ H Q=>wi σ H λJ H1=>vA own F g tt te σ Q J H1
section
variable{X:Cx}{scope:Scope}{own:List Str}{F:List (Str×Nat)}{elt tg iter:Expr}{ifs:List Expr}{pos:Pos}{wi:TI}{g:TG}{tt:TT}{te:TE}
abbrev xQ(s:V2):V2:={s with heap:=s.heap.push {cls:=.type "list",data:=.seq ([]:List V0).toArray}}
theorem zKn{pins:List (V1×Obj)}{σ:St}{H:Hp}{s:V2}{Q:VK}{RR:V1->Result->V2->Prop}{it:V1}{fp:List V1}{tn:Nat->V5->Prop}{J:It}(S:CompSc X scope own F)(hc:X.calm=true)
  (hg:∀C s₃ H₃ ex,PG (vE X own F scope C s₃ H₃ ex) tg g) (ht:∀C s₃ H₃ ex,PTs (vE X own F scope C s₃ H₃ ex) ifs tt) (he:∀C s₃ H₃ ex,PE (vE X own F scope C s₃ H₃ ex) elt te)
  (I:Inv X pins σ H s) (T:zGy X.prog X.w X.K tg J fp it tn) (st:tn 0 s.heap) (hf:∀b∈fp,zEc X pins H b)
  (h:vA own F g tt te σ Q J H)
  (hR:∀C s4 H4,s⁻¹<=C->C≠s⁻¹->Inv X pins σ H4 s4->Q (.ref s⁻¹) H4->H4 C=none->(∃m,s4.heap.Ns C m)->RR C (.ok .next) s4):
  V8 (S6 X.prog X.w) X.A (newList []) (λacc s₃=>V8 (S6 X.prog X.w) X.A (newFunctionEnv scope X.env.globals (clo X.env scope.names) [] X.env.qual none .none ↥X.env) (λcenv s₄=>
   codeAny (S6 X.prog X.w) X.A (.compStart (.ListComp elt [{tg,iter,ifs,0}] scope pos) 0 (.ref it) acc {cenv with scope:=relabel scope X.env}) (λr s'=>acc= .ref s⁻¹/\RR cenv.locals r s') s₄) X.xe s₃) X.xe s:=by
 obtain⟨W,⟨m0,w0⟩,turn⟩:=h;let hlt:∀b∈fp,b<s⁻¹:=λb hb=>by
  obtain⟨o,e,_⟩:=T.obj _ _ st b hb;exact nD e
 refine wpAny_newObj_type (wpAny_newFunctionEnv S.nc (by intro y hy;simp at hy) (λh₁ hns₁ hsb₁=>?_) S.kind);dsimp only at hns₁ hsb₁⊢;let e3':xQ s={s with heap:=s.heap.push {cls:=.type "list",data:=.seq ([]:List V0).toArray}}:=rfl;let sz3:(xQ s)⁻¹=s⁻¹+1:=bY ..;let k3:∀b o,(xQ s).heap.get? b=Y o->h₁.get? b=Y o:=λb o e=>hsb₁.extBut b o (nX (nD e)) (mU _ e);let k2:∀b o,s.heap.get? b=Y o->(xQ s).heap.get? b=Y o:=λb o e=>mU _ e;let hns:h₁.Ns (xQ s)⁻¹ (λ_=>none):=by simpa using hns₁
 let I0:Inv (vE X own F scope (xQ s)⁻¹ (xQ s) H (s⁻¹::fp)) [] (zBj own F σ) H {xQ s with heap:=h₁,toks:=(xQ s).toks+([]:List (Str×V0))...*}:=zNq I S hf hlt e3' hns k3;let acc0:h₁.get? s⁻¹=some {cls:=.type "list",data:=.seq ([]:List V0).toArray 0}:=k3 _ _ (nP _ O);let ht0:tn 0 h₁:=T.keep _ _ _ st λb _ o e=>k3 b o (k2 b o e);let loop:codeAny (S6 X.prog X.w) X.A (.compLoop (.ListComp elt [{tg,iter,ifs,0}] scope pos) 0 (.ref it) (.ref s⁻¹) (compEnvC scope (clo X.env scope.names) (xQ s)⁻¹ X.env)) (RR (xQ s)⁻¹) {xQ s with heap:=h₁,toks:=(xQ s).toks+([]:List (Str×V0))...*}:=by
  refine zMb (λn s'=>∃i ys H' its k,Inv (vE X own F scope (xQ s)⁻¹ (xQ s) H (s⁻¹::fp)) [] (zBj own F σ) H' s'/\tn i s'.heap/\(∀b∈fp,H' b=none)/\H' s⁻¹=none/\
   Vals ys its/\s'.heap.get? s⁻¹=some {cls:=.type "list",data:=.seq its.toArray k}/\ys...*<=i/\W i n ys H') ?_ m0 {0,[],H,[],0,I0,ht0,λb hb=>(hf b hb).1,I.hok.fresh (mB _), .nil,acc0,mB _,w0}
  intro n s5 z_;ext yM z_ i ys H5 its k z_;ext yR z_ I5 t5 fr5 ha5 v5 z_;ext oAA z_ o5 l5 w5;let pn5:Inv (vE X own F scope (xQ s)⁻¹ (xQ s) H (s⁻¹::fp)) [(s⁻¹,{cls:=.type "list",data:=.seq its.toArray k})] (zBj own F σ) H5 s5:=I5.pins_of λp hp=>by
   let z:p=(s⁻¹,{cls:=.type "list",data:=.seq its.toArray k}):=by simpa using hp
   subst z;obtain⟨x1,x2⟩:=I0.ok.exf s⁻¹ mG;exact{o5,ha5,x1,I0.ok.exfs _ mG,λv z=>by cases z}
  let fp5:∀{H':Hp},(∀b∈fp,H' b=none)->∀b∈fp,zEc (vE X own F scope (xQ s)⁻¹ (xQ s) H (s⁻¹::fp)) [(s⁻¹,{cls:=.type "list",data:=.seq its.toArray k})] H' b:=λ{H'} hn b hb=>by
   obtain⟨x1,x2⟩:=I0.ok.exf b (mE _ hb);refine{hn b hb,x1,I0.ok.exfs b (mE _ hb), .inl (mE _ hb),x2,λp hp=>?_};let z:p=(s⁻¹,{cls:=.type "list",data:=.seq its.toArray k}):=by
    let hp':p∈([]:List (V1×Obj))++ [(s⁻¹,{cls:=.type "list",data:=.seq its.toArray k})]:=hp
    simpa using hp'
   subst z;exact rJ (hlt b hb)
  rcases turn i n ys H5 w5 l5 with⟨stop,hz,q⟩|⟨go,hz,N,hN,step⟩
  ·refine thn (T.done (vE X own F scope (xQ s)⁻¹ (xQ s) H (s⁻¹::fp)) O O O hc i _ s5 _ H5 (λ_ _=>False) pn5 (fp5 fr5) t5 stop) λr s6 ⟨hr,I6⟩=>?_
   subst hr;obtain⟨a6,b6,_⟩:=I6.pin (s⁻¹,{cls:=.type "list",data:=.seq its.toArray k}) (nJ _ (nC.mpr O));let J6:=I6.pins_of (pins':=[]) (λp hp=>nomatch hp);let I7:=zQt I hf e3' J6 (nS l5 hz) v5 a6 b6;let hC:H5 (xQ s)⁻¹=none:=J6.free;refine hR _ s6 _ (show s⁻¹<=(xQ s)⁻¹ by lia) (λz=>by let z':(xQ s)⁻¹=s⁻¹:=z;lia) I7 (q _ b6) (by rw[zV (λz=>by let z':(xQ s)⁻¹=s⁻¹:=z;lia)];exact hC) ?_;obtain⟨m,hn,_⟩:=J6.loc;exact⟨m,hn⟩
  ·refine thn (T.item (vE X own F scope (xQ s)⁻¹ (xQ s) H (s⁻¹::fp)) O O O hc i _ s5 _ H5 (λ_ _=>False) pn5 (fp5 fr5) t5 go) λr s6 ⟨u,hr,h6⟩=>?_
   subst hr;refine thn h6 λ_ s7 ⟨x,H7,I7,r7,y7,t7,fr7⟩=>?_;let J7:=I7.pinned (fp5 fr7) (T.obj _ _ t7);refine thn (hg _ _ _ _ _ s7 _ H7 x u _ J7 r7 (step x H7 y7)) λ_ s8 ⟨σ8,H8,I8,wk,q8⟩=>?_;refine thn (ht _ _ _ _ _ s8 σ8 H8 _ I8 q8) λok s9 ⟨H9,I9,q9⟩=>?_;let keep:∀{σ':St}{H':Hp}{s':V2},Inv (vE X own F scope (xQ s)⁻¹ (xQ s) H (s⁻¹::fp)) ([(s⁻¹,{cls:=.type "list",data:=.seq its.toArray k})]++zFv fp s7.heap) σ' H' s'->
     tn (i+1) s'.heap/\(∀b∈fp,H' b=none)/\H' s⁻¹=none/\s'.heap.get? s⁻¹=some {cls:=.type "list",data:=.seq its.toArray k}:=λ{σ' H' s'} J=>by
    let pa:=J.pin (s⁻¹,{cls:=.type "list",data:=.seq its.toArray k}) (nJ _ (nW _ (nC.mpr O)));refine⟨T.keep _ _ _ t7 λb hb o e=>(J.pin (b,o) (nJ _ (nJ _ (uG hb e)))).1,λb hb=>?_,pa.2.1,pa.1⟩;obtain⟨o,e,d⟩:=T.obj _ _ t7 b hb;exact(J.pin (b,o) (nJ _ (nJ _ (uG hb e)))).2.1
   cases ok with
   | false=>
    rw[mL nM] at q9⊢;obtain⟨m',hm,w9⟩:=hN _ _ q9;refine xI (keep I9) λa1 a2 a3 a4=>?_;exact{m',hm,i+1,ys,H9,its,k,(I9.pins_of (pins':=[]) (λp hp=>nomatch hp)).weak wk.1 wk.2,a1,a2,a3,v5,a4,rQ l5,w9}
   | true=>
    rw[mO O] at q9⊢;refine thn (he _ _ _ _ _ s9 σ8 H9 _ I9 q9) λu' s10 ⟨y,H10,I10,r10,q10⟩=>?_;obtain⟨m',hm,w10⟩:=hN _ _ q10;refine xI (keep I10) λa1 a2 a3 a4=>?_;let hl:=v5...*;refine tS pN ⟨_,a4,O⟩ PySem.F.entry_list_append (PySem.F.args_list_append_2 _ _) (PySem.list_append s⁻¹ its.toArray k u' (by rw[nF];lia)) {a4, ?_};let q:=PySem.IsL.update a4 (λxs:Array V0=>xs.push u');let eq:its.toArray.push u'=(its++ [u']).toArray:=by simp
    rw[eq] at q;obtain⟨x1,x2⟩:=I0.ok.exf s⁻¹ mG;let I11:=(I10.pins_of (pins':=[]) (λp hp=>nomatch hp)).turned (it:=s⁻¹) (t':=s10.toks) (h':=s10.heap.update s⁻¹ (Obj.mapSeq (λxs:Array V0=>xs.push u'))) (λb o hb e=>(pQ s10.heap _ (Ne.symm hb)).trans e) a3 x1 (.inl mG) x2 (λp hp=>absurd (show p∈([]:List (V1×Obj)) from hp) (by simp));refine{m',hm,i+1,ys++ [y],H10,its++ [u'],_,I11.weak wk.1 wk.2, ?_,a2,a3,v5.append (.cons r10 .nil),q,by rw[mK,mY];lia,w10};exact T.keep _ _ _ a1 λb hb o e=>(pQ s10.heap _ (rJ (hlt b hb))).trans e
 let loop':=bL loop (R':=λr s'=>Value.ref s⁻¹= .ref s⁻¹/\RR (xQ s)⁻¹ r s') λr s' z=>⟨O,z⟩;exact codeAny_compStart_list loop' (T.self X.A 0 _ _ _ ht0 loop')
theorem xW(S:CompSc X scope own F)(hc:X.calm=true)(hi:PI X tg iter wi)
  (hg:∀C s₃ H₃ ex,PG (vE X own F scope C s₃ H₃ ex) tg g) (ht:∀C s₃ H₃ ex,PTs (vE X own F scope C s₃ H₃ ex) ifs tt) (he:∀C s₃ H₃ ex,PE (vE X own F scope C s₃ H₃ ex) elt te)
  (hs:∀x,foldedSetIterable iter X.env x=pure x:=by intro _;rfl):PE X (.ListComp elt [{tg,iter,ifs,0}] scope pos) (zHv own F wi g tt te):=by
 intro pins s σ H Q I h;rw[eval_ListComp];refine wpAny_comprehension_free (use:=none) O hs (zAg (I.freeCells S)) S.kind S.lc ?_;refine thn (hi pins s σ H _ I h) λv s1 h1=>thn h1 λitv s2 ⟨it,fp,tn,J,H2,e,I2,T,st2,f2,q2⟩=>?_;subst e;refine thn (zKn (Q:=Q) (RR:=λC r s'=>compPost (S6 X.prog X.w) X.A X.xe none (EP X pins σ Q) (.ref s2⁻¹) C r s') S hc hg ht he I2 T st2 f2 q2 λC s4 H4 c1 c2 I4 q4 n4 hm=>?_) λacc s3 h3=>thn h3 λcenv s4 h4=>bL h4 λr s' ⟨ea,hr⟩=>?_
 ·obtain⟨m,hn⟩:=hm
  exact{m,hn,λh' hs'=>{.ref s2⁻¹,H4,zFc I2 c1 I4 n4 hs',O,q4}}
 ·rw[ea];exact hr
theorem kF{i:Nat}{x:Str}{pos' spos:Pos}(hN:X.N.Nodup)(hi':X.N[i]? =Y x)(hx:Loc X.env.scope x)(S:CompSc X scope own F)(hc:X.calm=true)(hi:PI X tg iter wi)
  (hg:∀C s₃ H₃ ex,PG (vE X own F scope C s₃ H₃ ex) tg g) (ht:∀C s₃ H₃ ex,PTs (vE X own F scope C s₃ H₃ ex) ifs tt) (he:∀C s₃ H₃ ex,PE (vE X own F scope C s₃ H₃ ex) elt te)
  (hsw:S1 (.ListComp elt [{tg,iter,ifs,0}] scope pos) ↥(.Name x pos') spos.line X.env=pure true:=by rfl)
  (hs:∀x,foldedSetIterable iter X.env x=pure x:=by intro _;rfl) (hf:X.fn x=true\/X.env.scope.names.lookup x=some .local:=by first | exact .inl O | exact .inr O | assumption):
  PS X (.Assign [.Name x pos'] (.ListComp elt [{tg,iter,ifs,0}] scope pos) spos) (zRu (zHv own F wi g tt te) (jQ i)):=by
 intro pins s σ H D I h;rw[exec_Assign_Name_used x pos' _ _ hsw];refine mS (wpAny_standAt (mS ?_));refine mS ?_;refine rX (Q:=λ_ s'=>SP X pins D .next s') ?_ (λ_ s' q=>nO (nO q)) λ_ _ z=>z;refine wpAny_comprehension_free (use:=Y (assign (.Name x pos') X.env)) O hs (zAg (I.freeCells S)) S.kind S.lc ?_;refine thn (hi pins s σ H _ I h) λv s1 h1=>thn h1 λitv s2 ⟨it,fp,tn,J,H2,e,I2,T,st2,f2,q2⟩=>?_;subst e;refine thn (zKn (Q:=λx H1=>jQ i x σ H1 D.nx) (RR:=λC r s'=>compPost (S6 X.prog X.w) X.A X.xe ↥(assign (.Name x pos') X.env) (λ_ s'=>SP X pins D .next s') (.ref s2⁻¹) C r s') S hc hg ht he I2 T st2 f2 q2 λC s4 H4 c1 c2 I4 q4 n4 hm=>?_) λacc s3 h3=>thn h3 λcenv s4 h4=>bL h4 λr s' ⟨ea,hr⟩=>?_
 ·obtain⟨m,hn⟩:=hm
  refine wpAny_assign_Name (zIc I4 hN hi' hx (v:=.ref s2⁻¹) O (λs5 I5 ⟨a,sb,ha⟩=>?_) hf);let aC:a≠C:=by
   rcases ha with z | z
   ·rw[z];exact nX (nR I2.lt c1)
   ·obtain⟨v,u⟩:=I2.cell _ _ z
    exact nX (nR u.lt c1)
  exact{m,hn.sameBut sb (Ne.symm aC),λh' hs'=>{_,H4,zFc I2 c1 I5 n4 hs',q4}}
 ·rw[ea];exact hr
end
inductive T where
 | non | bl (b:Bool)| int (i:Int)| str (x:List Nat)| lst (ts:List T)| dic (ks:List (List Nat)) (ts:List T)| tup (ts:List T)
mutual
def Rep(H:Hp):V->T->Prop
 | v, .non=>v= .non
 | v, .bl b=>v= .bl b
 | v, .int i=>v= .int i
 | v, .str x=>v= .str (tx x)
 | v, .lst ts=>∃a vs,v= .ref a/\H a=Y (.lst vs)/\Reps H vs ts
 | v, .dic ks ts=>∃a ps,v= .ref a/\H a=Y (.dK ps)/\ps.map (·.1)=ks.map (λk=>(Sum.inr (tx k):Key))/\Reps H (ps.map (·.2)) ts
 | v, .tup ts=>∃a vs,v= .ref a/\H a=Y (.tup vs)/\Reps H vs ts
def Reps(H:Hp):List V->List T->Prop
 | vs,[]=>vs= []
 | vs,t::ts=>∃v r,vs=v::r/\Rep H v t/\Reps H r ts
end
mutual
theorem Rep.same{H H':Hp}(e:Same H H'):∀(v:V)(t:T),Rep H v t->Rep H' v t
 | _, .non,h=>h
 | _, .bl _,h=>h
 | _, .int _,h=>h
 | _, .str _,h=>h
 | _, .lst ts,⟨a,vs,h1,h2,h3⟩=>{a,vs,h1,e _ _ h2,Reps.same e vs ts h3}
 | _, .dic ks ts,⟨a,ps,h1,h2,h3,h4⟩=>{a,ps,h1,e _ _ h2,h3,Reps.same e _ ts h4}
 | _, .tup ts,⟨a,vs,h1,h2,h3⟩=>{a,vs,h1,e _ _ h2,Reps.same e vs ts h3}
theorem Reps.same{H H':Hp}(e:Same H H'):∀(vs:List V)(ts:List T),Reps H vs ts->Reps H' vs ts
 | _,[],h=>h
 | _,t::ts,⟨v,r,h1,h2,h3⟩=>{v,r,h1,Rep.same e v t h2,Reps.same e r ts h3}
end
theorem Reps.snoc{H:Hp}{v:V}{t:T}(h:Rep H v t):∀{vs:List V}{ts:List T},Reps H vs ts->Reps H (vs++ [v]) (ts++ [t])
 | _,[],e=>by
  let e':_= []:=e;subst e';exact{v,[],O,h,O}
 | _,t'::ts,⟨v',r,h1,h2,h3⟩=>by
  subst h1;exact{v',r++ [v],O,h2,Reps.snoc h h3}
theorem Reps.length{H:Hp}:∀{vs:List V}{ts:List T},Reps H vs ts->vs...*=ts...*
 | _,[],e=>by
  let e':_= []:=e;subst e';rfl
 | _,t'::ts,⟨v',r,h1,h2,h3⟩=>by
  subst h1;simp[Reps.length h3]
theorem Reps.get{H:Hp}:∀{vs:List V}{ts:List T}{i:Nat}{v:V},Reps H vs ts->vs[i]? =Y v->∃t,ts[i]? =Y t/\Rep H v t
 | _,[],i,v,e,h=>by
  let e':_= []:=e;subst e';simp at h
 | _,t'::ts,0,v,⟨v',r,h1,h2,h3⟩,h=>by
  subst h1;simp at h;subst h;exact⟨t',O,h2⟩
 | _,t'::ts,i+1,v,⟨v',r,h1,h2,h3⟩,h=>by
  subst h1;obtain⟨t,e,q⟩:=Reps.get (i:=i) (v:=v) h3 (by simpa using h);exact{t,by simpa using e,q}
noncomputable def tyT:T->String
 | .non=>"NoneType"
 | .bl _=>"bool"
 | .int _=>"int"
 | .str _=>"str"
 | .lst _=>"list"
 | .dic _ _=>"dict"
 | .tup _=>"tuple"
theorem Rep.ty{H:Hp}{v:V}:∀{t:T},Rep H v t->tyS H v=Y (tyT t)
 | .non,h=>by cases (show v= .non from h);rfl
 | .bl b,h=>by cases (show v= .bl b from h);rfl
 | .int i,h=>by cases (show v= .int i from h);rfl
 | .str x,h=>by cases (show v= .str (tx x) from h);rfl
 | .lst ts,h=>by obtain⟨a,vs,e,h2,_⟩:=h;subst e;show(match H a with | some (.lst _)=>some "list" | some (.tup _)=>some "tuple" | some (.dK _)=>some "dict" | _=>none)=_;rw[h2];rfl
 | .dic ks ts,h=>by obtain⟨a,vs,e,h2,_⟩:=h;subst e;show(match H a with | some (.lst _)=>some "list" | some (.tup _)=>some "tuple" | some (.dK _)=>some "dict" | _=>none)=_;rw[h2];rfl
 | .tup ts,h=>by obtain⟨a,vs,e,h2,_⟩:=h;subst e;show(match H a with | some (.lst _)=>some "list" | some (.tup _)=>some "tuple" | some (.dK _)=>some "dict" | _=>none)=_;rw[h2];rfl
noncomputable def letL:List Nat:=(List.range 26).map (· +97)
noncomputable def zEb:List Nat:=(List.range 10).map (· +48)
noncomputable def uU:List Nat:=((List.range 95).map (· +32)).filter (· !=37)
noncomputable def yY(w:List Nat):Bool:=decide (1<=w...*)&& decide (w...*<=12)&& (match w with | []=>false | c::_=>decide (c∈letL))&& w.all (λc=>decide (c∈letL++zEb))
noncomputable def zDp(w:List Nat):Bool:=decide (w...*<=30)&& w.all (λc=>decide (c∈uU))
mutual
def Nice:Nat->T->Prop
 | _, .non=>True
 | _, .bl _=>True
 | _, .int i=>-(10 ^ 12)<=i/\i<=10 ^ 12
 | _, .str x=>zDp x=true
 | d, .lst ts=>1<=d/\ts...*<=4/\NiceL (d - 1) ts
 | d, .dic ks ts=>1<=d/\ts...*<=4/\ks...*=ts...*/\ks.Nodup/\(∀k∈ks,yY k=true)/\NiceL (d - 1) ts
 | _, .tup _=>False
def NiceL:Nat->List T->Prop
 | _,[]=>True
 | d,t::ts=>Nice d t/\NiceL d ts
end
theorem NiceL.snoc{d:Nat}{t:T}(h:Nice d t):∀{ts:List T},NiceL d ts->NiceL d (ts++ [t])
 | [],_=>⟨h,trivial⟩
 | _::ts,⟨a,b⟩=>{a,NiceL.snoc h b}
theorem zD{H:Hp}{p:V1}(h:H p=none)(o:HO):Same H (upd H p o):=λb u q=>by rw[zV (yZ q h)];exact q
section
variable{K:A7}{H:Hp}{Q:VK}{a b:V1}{xs ys:List V}
theorem yDj{neg:Bool}(h1:SqL K H a xs)(h2:SqL K H b ys)(f1:xs.all qW=true)(f2:ys.all qW=true)(q:Q (.bl (if neg then !zGu xs ys else zGu xs ys)) H):rEqL K neg (.ref a) (.ref b) H Q:=
 ⟨a,b,xs,ys,O,O,h1,h2,f1,f2,q⟩
theorem yL{i:Int}{v:V}(h1:SqL K H a xs)(h2:atI xs i=Y v)(q:Q v H):yAx K (.ref a) (.int i) H Q:=⟨a,xs,i,v,O,O,h1,h2,q⟩
theorem vK{i:Int}{v:V}(h1:SqT K H a xs)(h2:atI xs i=Y v)(q:Q v H):yDs K (.ref a) (.int i) H Q:=⟨a,xs,i,v,O,O,h1,h2,q⟩
theorem zDb{z:Str}{i:Int}{c:Nat}(h1:z...*<=V9)(h2:atI (ts z) i=Y c)(q:Q (.str (tx [c])) H):rIxS (.str z) (.int i) H Q:=⟨z,i,c,O,O,h1,h2,q⟩
end
theorem uF{α:Type}{xs:List α}{i:Int}(h0:0<=i)(h1:i<xs...*):∃v,atI xs i=Y v/\v∈xs:=by
 obtain⟨j,rfl⟩:=sL h0;let hj:j<xs...*:=by lia
 exact{xs[j],yH (by simp[hj]),tI hj}
theorem zSs{α:Type}{xs:List α}{i:Int}{d:α}(h0:0<=i)(h1:i<xs...*):atI xs i=Y (xs.getD i.toNat d):=by
 obtain⟨j,rfl⟩:=sL h0;let hj:j<xs...*:=by lia
 refine yH ?_;simp[List.getD,hj]
theorem zEn{x:Str}{F:List (Str×Nat)}{J:It}{n:Nat}{tt:TT}{te:TE}{σ:St}{Q:VK}{H1:Hp}(Pv:Nat->List V->Hp->Prop)(hn:n<=V9)(h0:Pv 0 [] H1)(hgo:∀i ys H,i<n->Pv i ys H->J.go i H)
  (hst:∀ys H,Pv n ys H->J.stop n H)
  (hs:∀i ys H y H2,i<n->ys...*<=i->Pv i ys H->J.yld i H y H2->tt (Y y::F.map (λp=>(σ[p.2]?).join)) H2 λb H3=>if b=true then te (Y y::F.map (λp=>(σ[p.2]?).join)) H3 λz H4=>Pv (i+1) (ys++ [z]) H4 else Pv (i+1) ys H3)
  (hd:∀ys H,ys...*<=n->Pv n ys H->∀p,H p=none->Q (.ref p) (upd H p (.lst ys))):vA [x] F (jQ 0) tt te σ Q J H1:=by
 refine{λi m ys H=>m=n - i/\i<=n/\Pv i ys H,{n,by simp,mT _,h0}, ?_};rintro i m ys H ⟨rfl,hi,p⟩ hl
 by_cases hlt:i<n
 ·refine .inr {hgo i ys H hlt p,∅,Pv (i+1),λys' H'' q=>{n - (i+1),∅,O,hlt,q},λy H2 hy=>?_}
  exact{zUc (i:=0) O,hs i ys H y H2 hlt hl p hy}
 ·let e:i=n:=by lia
  subst e;exact .inl {hst ys H p,hn,hd ys H hl p}
theorem zAe{x:Str}{F:List (Str×Nat)}{lo:Int}{n:Nat}{te:TE}{σ:St}{Q:VK}{H1:Hp}(Pv:Nat->List V->Hp->Prop)(hn:n<=V9)(h0:Pv 0 [] H1)
  (hs:∀(i:Nat) ys H,i<n->ys...*<=i->Pv i ys H->te (Y (.int (lo+i))::F.map (λp=>(σ[p.2]?).join)) H λz H4=>Pv (i+1) (ys++ [z]) H4)
  (hd:∀ys H,ys...*<=n->Pv n ys H->∀p,H p=none->Q (.ref p) (upd H p (.lst ys))):vA [x] F (jQ 0) zBo te σ Q (Itr lo n) H1:=
 zEn Pv hn h0 (λi _ _ h _=>h) (λ_ _ _=>mB _) (λi ys H y H2 h1 h2 h3 h4=>by
  obtain⟨rfl,rfl⟩:=h4;exact hs i ys _ h1 h2 h3) hd
theorem zLi{x:Str}{F:List (Str×Nat)}{w:Str}{tt:TT}{te:TE}{σ:St}{Q:VK}{H1:Hp}(Pv:Nat->List V->Hp->Prop)(hn:(ts w)...*<=V9)(h0:Pv 0 [] H1)
  (hs:∀i c ys H,(ts w)[i]? =Y c->ys...*<=i->Pv i ys H->tt (Y (.str (tx [c]))::F.map (λp=>(σ[p.2]?).join)) H λb H3=>if b=true then te (Y (.str (tx [c]))::F.map (λp=>(σ[p.2]?).join)) H3 λz H4=>Pv (i+1) (ys++ [z]) H4 else Pv (i+1) ys H3)
  (hd:∀ys H,ys...*<=(ts w)...*->Pv (ts w)...* ys H->∀p,H p=none->Q (.ref p) (upd H p (.lst ys))):vA [x] F (jQ 0) tt te σ Q (Its w) H1:=
 zEn Pv hn h0 (λi _ _ h _=>h) (λ_ _ _=>mB _) (λi ys H y H2 h1 h2 h3 h4=>by
  obtain⟨rfl,c,hc,rfl⟩:=h4;exact hs i c ys _ hc h2 h3) hd
section
variable{X:Cx}{x:Str}{pos:Pos}
theorem yBf{z:Str}(hg:Gl X x)(h:∃t,X.mg x=Y (.str z t))(hd:(x==("__debug__" :Str))=false:=by decide):PE X (.Name x pos) (tC (.str z)):=by
 obtain⟨t,h⟩:=h;exact zPr hg h ⟨t,O⟩ hd
theorem zCq{z:Int}(hg:Gl X x)(h:∃t,X.mg x=Y (.int z t))(hd:(x==("__debug__" :Str))=false:=by decide):PE X (.Name x pos) (tC (.int z)):=by
 obtain⟨t,h⟩:=h;exact zPr hg h ⟨t,O⟩ hd
end
theorem yEw{CX:CXT}{P:V3}{w:V4}{K:A7}{mg:Str->Option V0}{base:V5}{N:List Str}{qual:Str}{scope:Scope}{f:V1}{cd:V0}{A:Around}{outer:List S8}{s:V2}{H:Hp}{E:XK}:(zKo CX P w K mg base N qual scope f cd A outer s H E).K=K:=rfl
theorem nox_K{X:Cx}:X.nox.K=X.K:=rfl
theorem zVq{X:Cx}{own:List Str}{F:List (Str×Nat)}{scope:Scope}{C:V1}{s₃:V2}{H₃:Hp}{ex:List V1}:(vE X own F scope C s₃ H₃ ex).K=X.K:=rfl
theorem zRm(ns:List Int):(ns.map V.int).all qW=true:=by
 rw[cT];exact pT.mpr λ_ _=>O
theorem zVb(xs:List V):zGu xs []=xs.isEmpty:=by cases xs<;>rfl
end L2
namespace L2
theorem zUd:Int.natAbs 10=10:=rfl
end L2
namespace L2
open PySem PySem.Spec PyProof.Rows
def zRj(g:TG)(tb:TS)(D:uW)(σ:St)(J:It)(H1:Hp):Prop:=∃W:Nat->Nat->St->Hp->Prop,(∃m,W 0 m σ H1)/\∀i m σ H,W i m σ H->
 (J.stop i H/\D.nx σ H)\/(J.go i H/\∃N:St->Hp->Prop,(∀σ' H',N σ' H'->∃m',m'<m/\W (i+1) m' σ' H')/\∀x H',J.yld i H x H'->g x σ H' λσ2 H2=>tb {D with nx:=N,ct:=N,bk:=D.nx} σ2 H2)
theorem yAj(wi:TI)(g:TG)(tb:TS)(D:uW)(σ:St)(H:Hp):tFor wi g tb D σ H=wi σ H λJ H1=>zRj g tb D σ J H1:=rfl
theorem qD{lo:Int}{n:Nat}{g:TG}{tb:TS}{D:uW}{σ:St}{H:Hp}(Pv:Nat->St->Hp->Prop)(h0:Pv 0 σ H)
  (hs:∀i σ H,i<n->Pv i σ H->g (.int (lo+i)) σ H λσ2 H2=>tb {D with nx:=Pv (i+1),ct:=Pv (i+1),bk:=D.nx} σ2 H2) (hd:∀σ H,Pv n σ H->D.nx σ H):zRj g tb D σ (Itr lo n) H:=zSk Pv h0 hs hd
theorem jI{K:A7}{a:V1}{xs:List V}{g:TG}{tb:TS}{D:uW}{σ:St}{H:Hp}(Pv:Nat->St->Hp->Prop)(h0:Pv 0 σ H)(hl:∀i σ H,i<=xs...*->Pv i σ H->SqL K H a xs)
  (hs:∀i x σ H,xs[i]? =Y x->Pv i σ H->g x σ H λσ2 H2=>tb {D with nx:=Pv (i+1),ct:=Pv (i+1),bk:=D.nx} σ2 H2) (hd:∀σ H,Pv xs...* σ H->D.nx σ H):zRj g tb D σ (Itl K a) H:=zTd Pv h0 hl hs hd
section
variable{X:Cx}
theorem wD:wV X (.type "int") (λxs H Q=>∃k,xs= [.bl k]/\Q (.int (if k then 1 else 0)) H):=λpins s σ H xs us Q I r h=>zHb pins s σ H xs us Q I r (.inr h)
theorem yI:wV X (.builtin "len") (λxs H Q=>∃p,xs= [.ref p]/\∃ys,SqL X.K H p ys/\Q (.int ys...*) H):=λpins s σ H xs us Q I r ⟨p,e,ys,h,q⟩=>kC pins s σ H xs us Q I r {p,ys,e, .inl h,q}
end
abbrev nK(k:List Nat):Key:=Sum.inr (tx k)
theorem jX{a b:List Nat}(h:nK a=nK b):a=b:=by
 let e:tx a=tx b:=Sum.inr.inj h;rw[<-wI a,e,wI]
theorem Reps.repl{H:Hp}{k:Key}{v:V}{t:T}(hv:Rep H v t):∀{ps:List (Key×V)}{ts:List T},Reps H (ps.map (·.2)) ts->∃ts',Reps H ((ps.map λkv=>if kv.1=k then(kv.1,v) else kv).map (·.2)) ts'/\ts'...*=ts...*/\∀u∈ts',u∈ts\/u=t
 | [],ts,h=>{ts,h,O,λu hu=>.inl hu}
 | p::ps,[],h=>by
  let h':(p::ps).map (·.2)= []:=h;cases h'
 | p::ps,u::ts,⟨v',r,e,h1,h2⟩=>by
  let e':p.2::ps.map (·.2)=v'::r:=e;injection e' with e1 e2;subst e1 e2;obtain⟨ts',r',l',m'⟩:=Reps.repl hv h2
  by_cases hk:p.1=k
  ·refine{t::ts',{v,_, ?_,hv,r'},by simp[l'],λz hz=>?_}
   ·rw[mV,mO hk,mV]
   ·rcases mI.mp hz with q | q
    ·exact .inr q
    ·exact(m' z q).imp (mE _) id
  ·refine{u::ts',{p.2,_, ?_,h1,r'},by simp[l'],λz hz=>?_}
   ·rw[mV,mL hk,mV]
   ·rcases mI.mp hz with q | q
    ·exact .inl (by rw[q];exact mG)
    ·exact(m' z q).imp (mE _) id
theorem yAy{H:Hp}{ps:List (Key×V)}{ks:List (List Nat)}{ts:List T}{n:List Nat}{v:V}{t:T}(hk:ps.map (·.1)=ks.map nK)(hR:Reps H (ps.map (·.2)) ts)(nd:ks.Nodup)(hv:Rep H v t):
  ∃(ks':List (List Nat))(ts':List T),(wQ ps (nK n) v).map (·.1)=ks'.map nK/\Reps H ((wQ ps (nK n) v).map (·.2)) ts'/\ks'.Nodup/\(∀k∈ks',k∈ks\/k=n)/\(∀u∈ts',u∈ts\/u=t)/\ks'...*<=ks...*+1:=by
 unfold wQ
 by_cases h:(ps.any λkv=>decide (kv.1=nK n))=true
 ·rw[mO h]
  refine xD (Reps.repl (k:=nK n) hv hR) λts' r' l' m'=>?_;refine{ks,ts', ?_,r',nd,λk hk=>.inl hk,m',rO _};rw[<-hk,pU];apply rG;intro p _;show(if p.1=nK n then(p.1,v) else p).1=p.1;split<;>rfl
 ·rw[mL h]
  refine{ks++ [n],ts++ [t],by rw[mN,hk,mN];rfl,by rw[mN];exact Reps.snoc hv hR, ?_,λk hk=>?_,λu hu=>?_,by simp}
  ·refine zJs nd λhm=>h (aI.mpr ?_)
   let hm':nK n∈ps.map (·.1):=by rw[hk];exact nB.mpr ⟨n,hm,O⟩
   obtain⟨p,hp,e⟩:=nB.mp hm';exact{p,hp,nH e}
  ·rcases mX.mp hk with q | q
   ·exact .inl q
   ·exact .inr (nC.mp q)
  ·rcases mX.mp hu with q | q
   ·exact .inl q
   ·exact .inr (nC.mp q)
theorem NiceL_iff{d:Nat}:∀{ts:List T},NiceL d ts↔∀t∈ts,Nice d t
 | []=>{λ_ _ h=>(nomatch h),λ_=>trivial}
 | u::ts=>by
  show(Nice d u/\NiceL d ts)↔_;rw[NiceL_iff (ts:=ts)];exact{λh t ht=>(mI.mp ht).elim (λe=>e▸h.1) (h.2 t),λh=>{h u mG,λt ht=>h t (mE _ ht)}}
theorem zJz:ts (A6 "abcdefghijklmnopqrstuvwxyz0123456789")=letL++zEb:=by decide+kernel
theorem yDy:ts (A6 "abcdefghijklmnopqrstuvwxyz")=letL:=by decide+kernel
theorem ts_a:ts (A6 "a")= [97]:=by decide+kernel
theorem ts_q:ts (A6 "'")= [39]:=by decide+kernel
theorem zVw:A6 "" =tx []:=by decide+kernel
theorem zEj(c k:Nat):(List.replicate k [c]).flatten=List.replicate k c:=by
 induction k with
 | zero=>rfl
 | succ k ih=>rw[tK,bC,ih,tK];rfl
theorem zHj{w:List Nat}(h1:w...*<=12)(h3:∃c r,w=c::r/\c∈letL)(h4:∀c∈w,c∈letL++zEb):yY w=true:=by
 ext wA h3 c r r2_ hc;subst r2_;unfold yY;simp only[nU,nV,pT];exact{{{by simp,h1},hc},h4}
theorem zHo{w:List Nat}(h1:w...*<=30)(h4:∀c∈w,c∈uU):zDp w=true:=by
 unfold zDp;simp only[nU,nV,pT];exact⟨h1,h4⟩
theorem yCx{i:Int}(h0:0<=i)(h1:i<36):∃c,atI (letL++zEb) i=Y c/\c∈letL++zEb:=uF h0 (by show i<((36:Nat):Int);lia)
theorem zXm{i:Int}(h0:0<=i)(h1:i<26):∃c,atI (letL++zEb) i=Y c/\c∈letL:=by
 obtain⟨j,rfl⟩:=sL h0;let hj:j<26:=by lia
 let hj':j<letL...*:=hj;refine{letL[j],yH (by rw[pF hj'];simp[hj']),tI hj'}
theorem zNi:97∈letL:=by decide
theorem zCl{c:Nat}(h:c∈letL):c∈letL++zEb:=nW _ h
end L2
namespace L2
end L2
namespace L2
open PySem PySem.Spec PyProof.Rows
theorem yEh:A6 " !\"#$&'()*+,-./0123456789:;<=>?@ABCDEFGHIJKLMNOPQRSTUVWXYZ[\\]^_`" ++A6 "abcdefghijklmnopqrstuvwxyz{|}~" =tx uU:=by decide+kernel
theorem yCm:39∈uU:=by decide
theorem zUv{i:Int}(h0:0<=i)(h1:i<94):∃c,atI uU i=Y c/\c∈uU:=uF h0 (by show i<((94:Nat):Int);lia)
theorem zLs(cs:List Nat):((cs.map λc=>tx [c]).map ts).flatten=cs:=by
 induction cs with
 | nil=>rfl
 | cons d r ih=>simp only[mV,bC,ih,wI];rfl
theorem HOk.sim{P:V3}{w:V4}{H H':Hp}{h:V5}(ok:HOk P w H h)(ho:∀b a,H b=Y (.own a)->H' b=Y (.own a))(ht:∀b xs,H b=Y (.tup xs)->H' b=Y (.tup xs))
  (hs:∀b u,H' b=Y u->H b=Y u\/(∃o,H b=Y (.frz o u))\/∃o u',u= .frz o u'/\H b=Y u'/\h.get? b=Y o):HOk P w H' h:=λb u e=>by
 rcases hs b u e with q |⟨o,q⟩|⟨o,u',rfl,q,g⟩
 ·exact(ok b u q).stay (λ_ _ _ z=>z) (λc z=>ho c b z) λc xs z=>ht c xs z
 ·obtain⟨_,z⟩:=(show ObjOk P w H h b (.frz o u) from ok b _ q)
  exact z.stay (λ_ _ _ z=>z) (λc z=>ho c b z) λc xs z=>ht c xs z
 ·exact{g,(ok b u' q).stay (λ_ _ _ z=>z) (λc z=>ho c b z) λc xs z=>ht c xs z}
section
variable{X:Cx}{pins:List (V1×Obj)}{σ σ':St}{H H':Hp}{s s':V2}
theorem Inv.sim(I:Inv X pins σ H s)(hn:∀b,H b=none->H' b=none)(ho:∀b a,H b=Y (.own a)->H' b=Y (.own a))(ht:∀b xs,H b=Y (.tup xs)->H' b=Y (.tup xs))
  (hb:∀b ps,H b=Y (.tbl ps)->H' b=Y (.tbl ps)) (hf:∀b o u,X.H₀ b=Y (.frz o u)->H' b=Y (.frz o u))
  (hs:∀b u,H' b=Y u->H b=Y u\/(∃o,H b=Y (.frz o u))\/∃o u',u= .frz o u'/\H b=Y u'/\s.heap.get? b=Y o):Inv X pins σ H' s:=
 {I.ok,I.os,I.bare,{I.base.keep,I.base.slot,λb o e n hx=>hn b (I.base.free b o e n hx),I.base.there,λb xs e=>ht b xs (I.base.tups b xs e),hf,λb ps e=>by
  obtain⟨m,q⟩:=I.base.tbls b ps e;exact{m,hb b _ q}},I.loc,I.cell,hn _ I.free,λx c e=>hn _ (I.freeC x c e),λp hp=>by
  refine vS (I.pin p hp) λa b c d e=>?_;exact{a,hn _ b,c,d,e},I.hok.sim ho ht hs,I.len}
theorem Inv.freeze{d:V1}{kvs:List (Key×V)}{o:Obj}(I:Inv X pins σ H s)(h:H d=Y (.dK kvs))(hg:s.heap.get? d=Y o):Inv X pins σ (upd H d (.frz o (.dK kvs))) s:=by
 let ne:∀b u,H b=u->u≠Y (.dK kvs)->b≠d:=λb u e n z=>by subst z;exact n (e.symm.trans h)
 refine I.sim (λb e=>by rw[zV (ne b _ e (by intro z;cases z))];exact e) (λb a e=>by rw[zV (ne b _ e (by intro z;cases z))];exact e) (λb a e=>by rw[zV (ne b _ e (by intro z;cases z))];exact e)
  (λb a e=>by rw[zV (ne b _ e (by intro z;cases z))];exact e) (λb o' u e=>?_) λb u e=>?_
 ·let e':=I.base.frzs b o' u e
  rw[zV (ne b _ e' (by intro z;cases z))];exact e'
 ·by_cases hb:b=d
  ·subst hb
   rw[zC] at e;cases e;exact .inr (.inr ⟨o,_,O,h,hg⟩)
  ·rw[zV hb] at e;exact .inl e
def thaw(H H':Hp):Hp:=λb=>match H b with
 | some (.frz _ _)=>H' b
 | _=>match H' b with
  | some (.frz _ u)=>Y u
  | y=>y
theorem zFk{b:V1}{o:Obj}{u:HO}(h:H b=Y (.frz o u)):thaw H H' b=H' b:=by unfold thaw;rw[h]
theorem zRl{b:V1}(h:H' b=none):thaw H H' b=none:=by unfold thaw;rw[h];split<;>rfl
theorem wS{b:V1}{u:HO}(h:H' b=Y u)(n:∀o v,u≠ .frz o v):thaw H H' b=Y u:=by
 unfold thaw;rw[h];split
 ·rfl
 ·cases u<;>first | rfl | exact absurd O (n _ _)
theorem zPx{b:V1}{o:Obj}{u:HO}(h:H' b=Y (.frz o u))(n:∀o v,H b≠Y (.frz o v)):thaw H H' b=Y u:=by
 unfold thaw;rw[h]
 cases e:H b with
 | none=>rfl
 | some v=>cases v<;>first | rfl | exact absurd e (n _ _)
theorem zXz{b:V1}{u:HO}(h:thaw H H' b=Y u):H' b=Y u\/∃o,H' b=Y (.frz o u):=by
 unfold thaw at h;split at h
 ·exact .inl h
 ·split at h
  ·rename_i o v e
   cases h;exact .inr ⟨_,e⟩
  ·exact .inl h
theorem Inv.thaw(I:Inv X pins σ H s)(J:Inv X pins σ' H' s'):Inv X pins σ' (thaw H H') s':=
 J.sim (λb e=>zRl e) (λb a e=>wS e (by intro o v z;cases z)) (λb a e=>wS e (by intro o v z;cases z)) (λb a e=>wS e (by intro o v z;cases z))
  (λb o u e=>by rw[zFk (I.base.frzs b o u e)];exact J.base.frzs b o u e) λb u e=>(zXz e).imp id .inl
theorem zCz{H H':Hp}(h:∀b u,H b=Y u->H' b=Y u\/((∃o,H' b=Y (.frz o u))/\∀o v,u≠ .frz o v)):Same H (L2.thaw H H'):=λb u e=>by
 rcases h b u e with q |⟨⟨o,q⟩,n⟩
 ·cases u with
  | frz o v=>rw[zFk e];exact q
  | _=>exact wS q (by intro o v z;cases z)
 ·refine zPx q λo' v z=>?_
  rw[e] at z;cases z;exact n _ _ O
def zWc(t:TE):TE:=λσ H Q=>t σ H λv H'=>Q v (thaw H H')
theorem zBy{e:Expr}{t:TE}(h:PE X e t):PE X e (zWc t):=by
 intro pins s σ H Q I q;refine thn (h pins s σ H _ I q) λu s1 ⟨v,H1,I1,r,q1⟩=>{v,_,I.thaw I1,r,q1}
end
theorem KV.get{κ:Type}:∀{kvs:List (κ×V)}{vs:List (κ×V0)}{i:Nat}{kv:κ×V},KV kvs vs->kvs[i]? =Y kv->∃q,vs[i]? =Y q/\kv.1=q.1/\RelV kv.2 q.2
 | _,_,_,_, .nil,e=>by simp at e
 | _,_,0,_, .cons r _,e=>by simp at e;subst e;exact⟨_,O,r⟩
 | _,_,i+1,x, .cons _ t,e=>by
  obtain⟨u,h1,h2⟩:=KV.get (i:=i) (kv:=x) t (by simpa using e);exact{u,by simpa using h1,h2}
theorem zJp{P:V3}{w:V4}{k:Key}{u:V0}(h:(xC P w).is k u=true):RelV (kV k) u:=by
 rcases wH (show zFw k u=true from h) with⟨i,t,rfl,rfl⟩|⟨x,t,rfl,rfl⟩
 ·exact⟨t,O⟩
 ·exact⟨t,O⟩
theorem zAz{P:V3}{w:V4}{H:Hp}{h:V5}{d:V1}{o:Obj}{kvs:List (Key×V)}{es:Array DictEntry}{ep:Nat}(ok:HOk P w H h)(e:H d=Y (.frz o (.dK kvs)))(he:o.data= .dict es ep):
  ∃vs,KV kvs vs/\h.DictAt (xC P w) d vs ep/\(d==A5)=false/\kvs...*<=V9:=by
 obtain⟨g,z,hd,vs,rel,o',es',ep',ho,c,hdat,r⟩:=(show ObjOk P w H h d (.frz o (.dK kvs)) from ok d _ e);rw[g] at ho;cases ho;rw[he] at hdat;cases hdat;exact{vs,rel,⟨o,es,g,c,he,r⟩,hd,z}
def Itd(d:V1)(o:Obj)(kvs:List (Key×V)):It:=
 ⟨λi H=>i<kvs...*/\H d=Y (.frz o (.dK kvs)),λi H y H'=>H'=H/\∃kv,kvs[i]? =Y kv/\y=kV kv.1,λi H=>kvs...*<=i/\H d=Y (.frz o (.dK kvs))⟩
theorem zRd{P:V3}{w:V4}{K:A7}{tg:Expr}(d it:V1)(o:Obj)(kvs:List (Key×V)):zGy P w K tg (Itd d o kvs) [it] it (λi h=>∃es ep,o.data= .dict es ep/\h.IsKeyIter it d i kvs...* ep) where
 mem:=by simp
 obj:=λi h st b hb=>by
  obtain⟨es,ep,_,ob,e,c,dd⟩:=st;let e':b=it:=by simpa using hb
  subst e';exact{ob,e,λv z=>by rw[dd] at z;cases z}
 keep:=λi h h' st k=>by
  ext wA st es ep a st;exact{es,ep,a,st.at λob e=>k it (by simp) ob e}
 item:=by
  intro X hP hw hK hc i pins s σ H E I hf st hg;subst hP hw hK;ext wA st es ep hes st;obtain⟨hi,hg⟩:=hg;refine jZ (zAz I.hok hg hes) λvs rel hm _ _=>?_;refine yR (hf it (by simp)) λf0 f1 f2 f3 f4 f5=>?_;let hl:=rel...*;obtain⟨kv,hkv⟩:∃kv,kvs[i]? =Y kv:={kvs[i],by simp[hi]};refine xD (KV.get rel hkv) λq hq hq1 hq2=>?_;rw[hl] at st;refine wpAny_pyNext_dict_item (k:=q.1) (v:=q.2) st hm hq λkey h' hk st' sb=>?_;let I1:Inv X pins σ H {s with heap:=h'}:=I.turned (t':=s.toks) (λb o hb e=>(sb.2 b hb).trans e) f0 f1 f3 f4 f5;refine xD (id st') λob e c dd=>?_;exact{key,O,zMi (s:={s with heap:=h'}) e c dd ∎ {kV kv.1,H,I1,by rw[hq1];exact zJp hk,⟨O,kv,hkv,O⟩,{es,ep,hes,by rw[hl];exact st'},λb hb=>(hf b hb).1}}
 done:=by
  intro X hP hw hK hc i pins s σ H E I hf st hg;subst hP hw hK;ext wA st es ep hes st;obtain⟨hi,hg⟩:=hg;refine jZ (zAz I.hok hg hes) λvs rel hm _ _=>?_;refine yR (hf it (by simp)) λf0 f1 f2 f3 f4 f5=>?_;let hl:=rel...*;rw[hl] at st;exact wpAny_pyNext_dict_end (I.ok.hd hc) st hm (by simp;lia) λh' eb=>{O,I.turned (t':=s.toks) (λb o hb e=>eb b o hb e) f0 f1 f3 f4 f5}
 self:=λ_ _ _ _ _ st h=>by
  ext wA st es ep _ st;exact wpAny_pyIter_keyiter st h
def zVn(tl:TE):TI:=λσ H R=>tl σ H λx H1=>∃d kvs,x= .ref d/\((H1 d=Y (.dK kvs)/\∀o,R (Itd d o kvs) (upd H1 d (.frz o (.dK kvs))))\/∃o,H1 d=Y (.frz o (.dK kvs))/\R (Itd d o kvs) H1)
section
variable{X:Cx}
theorem zEi{tg l:Expr}{tl:TE}(hl:PE X l tl):PI X tg l (zVn tl):=by
 intro pins s σ H R I h;refine thn (hl pins s σ H _ I h) λv s1 ⟨x,H1,I1,r1,q1⟩=>?_;ext wA q1 d kvs r2_ q;subst r2_;cases r1;let fin:∀o H2,Inv X pins σ H2 s1->H2 d=Y (.frz o (.dK kvs))->R (Itd d o kvs) H2->V8 (S6 X.prog X.w) X.A (pyIter (.ref d)) (PIE X pins σ tg R) X.xe s1:=λo H2 I2 e q=>by
  obtain⟨g,z,hd,vs,rel,o',es,ep,ho,c,hdat,r⟩:=(show ObjOk X.prog X.w H2 s1.heap d (.frz o (.dK kvs)) from I2.hok d _ e);rw[g] at ho;cases ho;let hm:s1.heap.DictAt (xC X.prog X.w) d vs ep:=⟨o,es,g,c,hdat,r⟩;refine wpAny_pyIter_dict hd hm ?_;refine⟨s1⁻¹,[s1⁻¹],_,_,H2,O,I2.kept (t':=s1.toks) λb o e=>mU _ e,zRd d _ o kvs,⟨es,ep,hdat,_,nP _ rfl,rfl,by rw[rel...*];rfl⟩,λb hb=>?_,q⟩;let e:b=s1⁻¹:=by simpa using hb
  subst e;exact I2.fpOk (mB _) (I2.hok.fresh (mB _))
 rcases q with⟨e,q⟩|⟨o,e,q⟩
 ·obtain⟨z,hd,vs,rel,o,es,ep,ho,_⟩:=(show ObjOk X.prog X.w H1 s1.heap d (.dK kvs) from I1.hok d _ e)
  exact fin o _ (I1.freeze e ho) zC (q o)
 ·exact fin o _ I1 e q
theorem zAx{x:Str}{F:List (Str×Nat)}{d:V1}{o:Obj}{kvs:List (Key×V)}{tt:TT}{te:TE}{σ:St}{Q:VK}{H1:Hp}(Pv:Nat->List V->Hp->Prop)(hn:kvs...*<=V9)(h0:Pv 0 [] H1)(hz:∀i ys H,Pv i ys H->H d=Y (.frz o (.dK kvs)))
  (hs:∀i kv ys H,kvs[i]? =Y kv->ys...*<=i->Pv i ys H->tt (Y (kV kv.1)::F.map (λp=>(σ[p.2]?).join)) H λb H3=>if b=true then te (Y (kV kv.1)::F.map (λp=>(σ[p.2]?).join)) H3 λz H4=>Pv (i+1) (ys++ [z]) H4 else Pv (i+1) ys H3)
  (hd:∀ys H,ys...*<=kvs...*->Pv kvs...* ys H->∀p,H p=none->Q (.ref p) (upd H p (.lst ys))):vA [x] F (jQ 0) tt te σ Q (Itd d o kvs) H1:=
 zEn Pv hn h0 (λi ys H h p=>{h,hz i ys H p}) (λys H p=>{mB _,hz _ ys H p}) (λi ys H y H2 h1 h2 h3 h4=>by
  obtain⟨rfl,kv,hkv,rfl⟩:=h4;exact hs i kv ys _ hkv h2 h3) hd
theorem xT{K:A7}{x:Str}{F:List (Str×Nat)}{a:V1}{xs:List V}{tt:TT}{te:TE}{σ:St}{Q:VK}{H1:Hp}(Pv:Nat->List V->Hp->Prop)(hn:xs...*<=V9)(h0:Pv 0 [] H1)(hz:∀i ys H,i<=xs...*->Pv i ys H->SqL K H a xs)
  (hs:∀i v ys H,xs[i]? =Y v->ys...*<=i->Pv i ys H->tt (Y v::F.map (λp=>(σ[p.2]?).join)) H λb H3=>if b=true then te (Y v::F.map (λp=>(σ[p.2]?).join)) H3 λz H4=>Pv (i+1) (ys++ [z]) H4 else Pv (i+1) ys H3)
  (hd:∀ys H,ys...*<=xs...*->Pv xs...* ys H->∀p,H p=none->Q (.ref p) (upd H p (.lst ys))):vA [x] F (jQ 0) tt te σ Q (Itl K a) H1:=
 zEn Pv hn h0 (λi ys H h p=>{xs,xs[i],hz i ys H (aA h) p,by simp[h]}) (λys H p=>{xs,hz _ ys H (mB _) p,mB _}) (λi ys H y H2 h1 h2 h3 h4=>by
  obtain⟨rfl,hy⟩:=h4;exact hs i y ys _ (hy xs (hz i ys _ (aA h1) h3)) h2 h3) hd
noncomputable def zLv(p d:V1):HO:=.ext λh=>h.IsValuesView p d
theorem zQl{κ:Type}:∀{kvs:List (κ×V)}{vs:List (κ×V0)},KV kvs vs->Vals (kvs.map (·.2)) (vs.map (·.2))
 | _,_, .nil=>.nil
 | _,_, .cons r t=>.cons r.2 (zQl t)
def zUl:V->List V->Hp->VK->Prop:=λx vs H Q=>∃d kvs,x= .ref d/\vs= []/\Rd H d (.dK kvs)/\∀p,H p=none->Q (.ref p) (upd H p (zLv p d))
theorem zRq:MtR X "dict.values" zUl:=by
 intro pins s σ H x vs v us Q I rx rv h;ext yA h d kvs r2_ r3_ hq q;subst r2_ r3_;cases rx;cases rv;obtain⟨z,hd,ws,rel,dd⟩:=kP I.hok hq;refine bP PySem.F.slot_dict_values dd.typeIs PySem.F.entry_dict_values (PySem.F.args_dict_values_1 _) (meets_dict_values (xC X.prog X.w) d hd) {⟨ws,dd⟩, ?_};refine{.ref s⁻¹,_,I.laid (t':=s.toks) (λb o e=>mU _ e) (mB _) (o:=zLv s⁻¹ d) ?_,O,q _ (I.hok.fresh (mB _))};exact⟨{_,nP _ O,O,O},{_,nP _ O},λh1 h2 ⟨o,e,r⟩ k=>⟨o,k o e,r⟩⟩
theorem zLb(hc:X.calm=true):wV X (.type "list") (λxs H Q=>∃p d kvs,xs= [.ref p]/\H p=Y (zLv p d)/\Rd H d (.dK kvs)/\∀l,H l=none->Q (.ref l) (upd H l (.lst (kvs.map (·.2))))):=by
 intro pins s σ H xs us Q I r h;ext yC h p d kvs r3_ hp z_;ext oA z_ hq q;subst r3_;obtain⟨u,rfl,rx⟩:=jC r;cases rx;obtain⟨z,hd,vs,rel,dd⟩:=kP I.hok hq;obtain⟨hv,_⟩:=(show ObjOk X.prog X.w H s.heap p (zLv p d) from I.hok p _ hp);obtain⟨ep,hat⟩:=dd.dictAt;let hl:=rel...*;refine W.kdl_call (W.kdl_values (knd:=xC X.prog X.w) (kvs:=vs) (ep:=ep)) (I.ok.hd hc) ⟨hv,hat⟩ ∅ λh' tk acc c' hk hg hi=>?_;refine{.ref s⁻¹,_,I.laid (t':=tk) hk (mB _) (o:=.lst (kvs.map (·.2))) ?_,O,q _ (I.hok.fresh (mB _))};let e:acc.toList=vs.map (·.2):=W.kdl_vals_eq acc.toList (by rw[tJ];exact hi.1) (λj v e=>hi.2 j v (by rw[<-sG];exact e));exact{by rw[mC];exact z,acc.toList,c',by rw[e];exact zQl rel,by simpa using hg}
end
theorem zJc:typeLookup (.type "list") "keys" =pure none:=am_miss_of_fast (by decide+kernel)
theorem zBm:entryFor table "dict.update.loop" =some Builtin.«dict.update.loop»:=entryFor_of_tree (by kernel_rfl)
theorem jK:plainId "dict.update.loop" =true:=by decide+kernel
section
variable{prog:V3}{w:V4}{A:Around}{E:V0->V2->Prop}
theorem zRt{s:V2}{a:V1}{xs:Array V0}{k:Nat}{name:Str}{Q:Option V0->V2->Prop}
  (hx:s.heap.get? a=some {cls:=.type "list",dict:=none,data:=.seq xs k,slots:=#[]}) (hmiss:typeLookup (.type "list") name=pure none) (hname:(["__module__","__name__","__qualname__","__doc__","__annotations__"]:List Str).contains name=false) (hA:A.handled=none)
  (h:∀h' tk,(∀b o,s.heap.get? b=Y o->h'.get? b=Y o)->Q none {s with heap:=h',toks:=tk}) (hsz:name...*+100<=V9:=by size_fits):
  V8 (S6 prog w) A (getAttr? (.ref a) name) Q E s:=by
 obtain⟨hp,g,d,tk,os⟩:=s;let hT:∀tk',(⟨hp,g,d,tk',os⟩:V2).TypeIs (.ref a) "list":=λ_=>⟨_,hx,O⟩;let f1:=sub_AttributeError;let f3:=F.slot_list_getattribute.lookup;let f4:=F.slot_list_getattribute.bind (.ref a);let f5:=am_list_getattr_none;unfold getAttr? getAttrBy? getAttrBy
 repeat (any_goals (first | assumption | exact hT _ |((with_reducible show V8 _ _ (call (Value.builtin "list.__getattribute__") _ _) _ _ _);refine tS F.slot_list_getattribute (hT _) am_entry_list_getattribute (F.args_list_getattribute_2 _ _) (meets_getattribute_miss_list a xs k #[] name _ hmiss hname hsz) {hx,hA,λh' tk' e hx'=>?_})| wp_step))
 refine oEE (hx'.there) λt' u' he=>?_;show V8 _ _ (getattributeRaised _ _ _ _ _ _ _) _ _ _;unfold getattributeRaised
 repeat (any_goals (first | assumption | wp_step))
 exact h h' tk' λb o e=>hx'.keeps b o e
theorem zYb{κ:Type} [DecidableEq κ] (knd:KeyKind prog w κ) (hh:A.handled=none) {d it l:V1} {items:Array V0} {ps:List (κ×V0)} {R:Result->V2->Prop} (hdi:d≠it) (hdl:d≠l) (hil:it≠l) (hps:ps...*=items.size):
  ∀(n i:Nat)(s:V2)(kvs:List (κ×V0)),items.size - i=n->i<=items.size->s.heap.IsListIter it l i->s.heap.IsList l items->
   (∀(j:Nat) k v,ps[j]? =Y (k,v)->∃a key,items[j]? =Y (.ref a)/\a≠d/\a≠it/\IsTup s.heap a #[key,v]/\knd.is k key=true)->s.heap.DictOf knd d kvs->kvs...*+n<=V9->
   (∀h' tk,h'.DictOf knd d ((ps.drop i).foldl (λm kv=>stored m kv.1 kv.2) kvs)->(∀b o,b≠d->b≠it->s.heap.get? b=Y o->h'.get? b=Y o)->R (.ok (.ret .none)) {s with heap:=h',toks:=tk})->
   codeAny (S6 prog w) A (.builtin "dict.update.loop" {[.ref d, .ref it,rawInt i, .none],[]}) R s:=by
 intro n
 induction n with
 | zero=>
  intro i s kvs hn hi hit hl hp hd hz hR;refine aR zBm ?_;rw[tE jK _];unfold Builtin.«dict.update.loop»;show V8 _ A.in1 (pyNext (.ref it)>>=_) _ _ s;refine mS (aB (show A.in1.handled=none from hh) hit hl (by simp;lia) λh' eb=>?_);show V8 _ _ (Builtin.Dict.addKeywords d []>>=λ_=>ret .none) _ _ _;refine mS (nO (nO (hR h' _ ?_ λb o hb hi' e=>eb b o hi' e)));rw[sU ∅];exact hd.extBut eb hdi
 | succ n ih=>
  intro i s kvs hn hi hit hl hp hd hz hR;refine aR zBm ?_;rw[tE jK _];unfold Builtin.«dict.update.loop»;let hlt:i<items.size:=by lia
  obtain⟨kv,hkv⟩:∃kv,ps[i]? =Y kv:={ps[i],by simp[hps,hlt]};refine yA (hp i kv.1 kv.2 hkv) λa key ha had hai z_=>?_;ext oA z_ ht hk;show V8 _ A.in1 (pyNext (.ref it)>>=_) _ _ s;refine mS (tY hit hl (x:=.ref a) ha λh' st' sb=>?_);show V8 _ _ (holding [Value.ref a] (Sem.tryCatch (Builtin.Dict.pairItems (.ref a)) _>>=_)>>=λ_=>again _) _ _ _;let kp:∀b o,b≠it->s.heap.get? b=Y o->h'.get? b=Y o:=λb o hb e=>(sb.2 b hb).trans e;obtain⟨o,ho,hc,m,hdat⟩:=id ht;refine mS (sE (mS (aE ?_)));unfold Builtin.Dict.pairItems;refine mS (wpAny_typeOf (T:="tuple") ⟨o,kp a o hai ho,hc⟩ ?_);rw[mO ∎];refine mS (bZ (kp a o hai ho) hdat (nO ?_));show V8 _ _ (holding [key,kv.2] (dictSet d key kv.2)) _ _ _;refine sE (wpAny_dictSet_pairs hk (hd.sameBut sb hdi) (λh2 hd2 sb2=>?_) ∅);let kp2:∀b o,b≠d->b≠it->s.heap.get? b=Y o->h2.get? b=Y o:=λb o hb hi' e=>(sb2.2 b hb).trans (kp b o hi' e);let hc':((i:Int)+1)=((i+1:Nat):Int):=by lia
  rw[hc'];refine nO {aN jK _,ih (i+1) _ (stored kvs kv.1 kv.2) ∅ ∅ ?_ ?_ ?_ hd2 ?_ ?_}
  ·exact st'.at λo e=>(sb2.2 it (Ne.symm hdi)).trans e
  ·ext oEA hl ol e1 e2
   exact{ol,kp2 l ol (Ne.symm hdl) (Ne.symm hil) e1,e2}
  ·intro j k v e
   obtain⟨a',key',x1,x2,x3,⟨o',y1,y2⟩,x5⟩:=hp j k v e;exact{a',key',x1,x2,x3,{o',kp2 a' o' x2 x3 y1,y2},x5}
  ·let:(stored kvs kv.1 kv.2)...*<=kvs...*+1:=by
    unfold stored;split<;>simp
   lia
  ·intro h3 tk hd3 k3
   refine hR h3 tk ?_ λb o hb hi' e=>k3 b o hb hi' (kp2 b o hb hi' e);let e:ps.drop i=kv::ps.drop (i+1):=by
    obtain⟨hlt',e'⟩:=mP.mp hkv;rw[pB hlt',e']
   rw[e,tV];exact hd3
end
section
variable{X:Cx}
theorem zMf{P:V3}{w:V4}{H:Hp}{h:V5}(ok:HOk P w H h):∀{kvs:List (Key×V)}{ys:List V}{its:List V0},Vals ys its->kvs...*=ys...*->(∀(j:Nat) kv,kvs[j]? =Y kv->∃a,ys[j]? =Y (.ref a)/\H a=Y (.tup [kV kv.1,kv.2]))->
  ∃ps:List (Key×V0),KV kvs ps/\∀(j:Nat) k v,ps[j]? =Y (k,v)->∃a key,its[j]? =Y (.ref a)/\IsTup h a #[key,v]/\(xC P w).is k key=true
 | [],[],_, .nil,_,_=>{[], .nil,λj k v e=>by simp at e}
 | kv::kvs,y::ys,_, .cons r t,hl,hp=>by
  obtain⟨ps,rel,h2⟩:=zMf ok (kvs:=kvs) t (by simpa using hl) λj kv' e=>by
   refine oEA (hp (j+1) kv' (by simpa using e)) λa e1 e2=>?_;exact{a,by simpa using e1,e2}
  refine oEA (hp 0 kv O) λa e1 e2=>?_;simp only[pL,Option.some.injEq] at e1;subst e1;cases r;obtain⟨_,its2,rv,pl⟩:=(show ObjOk P w H h a (.tup [kV kv.1,kv.2]) from ok a _ e2);refine yN (zDu rv) λu1 u2 e3 r1 r2=>?_;subst e3;refine{(kv.1,u2)::ps, .cons ⟨O,r2⟩ rel,λj k v e=>?_}
  cases j with
  | zero=>
   simp only[pL,Option.some.injEq,Prod.mk.injEq] at e;obtain⟨rfl,rfl⟩:=e;exact{a,u1,O,pl,zCc r1}
  | succ j=>simpa using h2 j k v (by simpa using e)
 | [],_::_,_,_,hl,_=>by simp at hl
 | _::_,[],_,_,hl,_=>by simp at hl
theorem zAn(hc:X.calm=true):wV X (.type "dict") (λxs H Q=>∃(p:V1)(ys:List V)(kvs:List (Key×V)),xs= [.ref p]/\H p=Y (.lst ys)/\kvs...*=ys...*/\(∀(j:Nat) kv,kvs[j]? =Y kv->∃a,ys[j]? =Y (.ref a)/\H a=Y (.tup [kV kv.1,kv.2]))/\
  ∀l,H l=none->Q (.ref l) (upd H l (.dK (qK [] kvs)))):=by
 intro pins s σ H xs us Q I r h;ext yC h p ys kvs r3_ hq z_;ext oAA z_ hlen hpair q;subst r3_;obtain⟨u,rfl,rx⟩:=jC r;cases rx;obtain⟨hz,its,n,rv,hg⟩:=(show ObjOk X.prog X.w H s.heap p (.lst ys) from I.hok p _ hq);obtain⟨ps,rel,hps⟩:=zMf I.hok rv hlen hpair;let hl1:=rv...*;let hl2:=rel...*;let hplt:p<s⁻¹:=nD hg;refine callType_codes (Q₁:=λobj s₁=>obj= .ref s⁻¹/\s₁={s with heap:=s.heap.push {cls:=.type "dict",data:=.dict #[]}}) F.kt_called_dict (F.kt_typeCall_dict_1 _) F.entry_dict_init (kt_code_dict_new _ ⟨O,O⟩) ?_;rintro obj s₁ ⟨rfl,rfl⟩;let hnew:(s.heap.push {cls:=.type "dict",data:=.dict #[]}).DictOf (xC X.prog X.w) s⁻¹ []:=Heap.DictOf.new s.heap;let hg1:=mU {cls:=.type "dict",data:=.dict #[]} hg;refine{hnew.typeIs,F.args_dict_init_2 _ _, ?_};unfold Builtin.«dict.__init__»;refine mS ?_;unfold Builtin.Dict.selfAndRest;refine mS (wpAny_notOrdered_dict hnew.typeIs ?_);show V8 _ _ (pure (s⁻¹,[Value.ref p])) _ _ _;refine nO ?_;show V8 _ _ (Builtin.Dict.updateFrom "dict.__init__" s⁻¹ (.ref p) [] .none) _ _ _;unfold Builtin.Dict.updateFrom;refine mS (wpAny_typeOf (T:="list") ⟨_,hg1,O⟩ ?_);rw[mO ∎];refine mS (zRt hg1 zJc (by decide+kernel) (I.ok.hd hc) (λh2 tk2 k2=>?_));rw[mO (by rfl)];refine mS (wpAny_rule (mS (bA (items:=its.toArray) {_,k2 _ _ hg1,O,n,O} ?_)));let k1:∀b o,s.heap.get? b=Y o->h2.get? b=Y o:=λb o e=>k2 b o (mU _ e);let hd2:s⁻¹<h2.objs.size:=nD (k2 _ _ (nP _ O));let hpl:∀b o,h2.get? b=Y o->(h2.push {cls:=.type "list_iterator",data:=.fields #[.ref p, .int 0 0]}).get? b=Y o:=λb o e=>mU _ e;refine nO ⟨aN jK _,zYb (xC X.prog X.w) (show X.A.in1.handled=none from I.ok.hd hc) (d:=s⁻¹) (it:=h2.objs.size) (l:=p) (items:=its.toArray) (ps:=ps) (nX hd2) (rJ hplt) (rJ (bO hplt hd2)) (by simp;lia) _ 0 _ [] rfl (mT _) ?_ ?_ ?_ ?_ ?_ ?_⟩
 ·exact{_,nP _ O,O,O}
 ·exact{_,hpl _ _ (k2 _ _ hg1),O,n,O}
 ·intro j k v e
  obtain⟨a,key,e1,⟨o,e2,e3⟩,e4⟩:=hps j k v e;let hlt:=nD e2;exact{a,key,by simpa using e1,nX hlt,nX (bO hlt hd2),{o,hpl _ _ (k1 _ _ e2),e3},e4}
 ·ext vZ hnew o es ep ho uN
  exact{o,es,ep,hpl _ _ (k2 _ _ ho),uN}
 ·simp;lia
 ·intro h3 tk3 hd3 k3
  rw[sP] at hd3;let k4:∀b o,s.heap.get? b=Y o->h3.get? b=Y o:=λb o e=>k3 b o (nX (nD e)) (nX (bO (nD e) hd2)) (hpl _ _ (k1 _ _ e));refine⟨rfl, .ref s⁻¹,_,I.laid (t':=tk3) k4 (mB _) (o:=.dK (qK [] kvs)) ?_,rfl,q _ (I.hok.fresh (mB _))⟩;let hm:(qK [] kvs)...*<=kvs...*:=by
   let:=gE kvs []
   simpa using this
  exact zJh ∅ (sN.mpr (Ne.symm (nX I.big))) (KV.merge rel .nil) hd3
end
structure Bl2(mg:Str->Option V0):Prop extends Bl mg where
 max:mg "max" =none
 min:mg "min" =none
 sorted:mg "sorted" =none
noncomputable def mxI(b z:Int):Int:=if z>b then z else b
noncomputable def mxD(k:Int):List Int->Int
 | []=>k
 | b::r=>r.foldl mxI b
theorem zZl(a d:V0):argsOk "max" {[a],[("default",d)]}:=by unfold argsOk;kernel_rfl
section
variable{prog:V3}{w:V4}{A:Around}
theorem zZv{it l S:V1}{items:List V0}{ns:List Int}(hh:A.handled=none)(hi:Vals (ns.map V.int) items)(hSi:S≠it)(hSl:S≠l)(hil:it≠l)(dv:V0){R:Result->V2->Prop}:
  ∀(n i:Nat)(s:V2)(c:Nat)(b:Int)(tb:Tok),ns...* - i=n->i<=ns...*->s.heap.IsListIter it l i->s.heap.IsList l items.toArray->s.heap.get? S=some {cls:=.type "list",dict:=none,data:=.seq #[.int b tb, .int b tb] c,slots:=#[]}->
   (∀h' tk t,(∀x o,x≠S->x≠it->s.heap.get? x=Y o->h'.get? x=Y o)->R (.ok (.ret (.int ((ns.drop i).foldl mxI b) t))) {s with heap:=h',toks:=tk})->
   codeAny (S6 prog w) A (.builtin "max.loop" {[.ref it, .none, .ref S],[("default",dv)]}) R s:=by
 let hnm:(toString "max" ++toString ".loop" :String)= "max.loop":=by decide
 intro n
 induction n with
 | zero=>
  intro i s c b tb hn hin st hl hS hR;refine aR cU ?_;rw[tE sR _];show V8 _ A.in1 (seqItems? (.ref S)>>=_) _ _ s;refine mS (bZ hS O ?_);let hlen:=hi...*;rw[mC] at hlen;refine mS (aE (aB (show A.in1.handled=none from hh) st hl (by simp;lia) λh' eb=>?_));show V8 _ A.in1 (updateSeq S (λ_=>#[])>>=_) _ _ _;refine mS (dA (eb S _ hSi hS) O (mS (dF (nO ?_))));let q:=hR (h'.update S (Obj.mapSeq λ_=>#[])) s.toks tb λx o hx hxi e=>(pQ _ _ (Ne.symm hx)).trans (eb x o hxi e);rw[sU ∅] at q;exact q
 | succ n ih=>
  intro i s c b tb hn hin st hl hS hR;let hlt:i<ns...*:=by lia
  let hlen:=hi...*;rw[mC] at hlen;obtain⟨z,hz⟩:∃z,ns[i]? =Y z:={ns[i],by simp[hlt]};obtain⟨u,ht,t,rfl⟩:=hi.get (i:=i) (x:=.int z) (by rw[mW,hz];rfl);let ed:ns.drop i=z::ns.drop (i+1):=by
   obtain⟨h1,e1⟩:=mP.mp hz;rw[pB h1,e1]
  refine aR cU ?_;rw[tE sR _];show V8 _ A.in1 (seqItems? (.ref S)>>=_) _ _ s;refine mS (bZ hS O ?_);refine mS (aE (tY st hl (x:=.int z t) (by simpa using ht) λh' st' sb=>?_));let kp:∀x o,x≠it->s.heap.get? x=Y o->h'.get? x=Y o:=λx o hx e=>(sb.2 x hx).trans e;let hS':=kp S _ hSi hS;let hl':h'.IsList l items.toArray:=by
   obtain⟨o,e1,e2⟩:=hl;exact⟨o,kp l o (Ne.symm hil) e1,e2⟩
  show V8 _ A.in1 (tryCatch (holding [Value.int z t,Value.int z t] (richCompare .Gt (.int z t) (.int b tb)>>=_)) _>>=_) _ _ _;refine mS (aE (sE (mS (show V8 (S6 prog w) A.in1 (A4 .Gt (.int z t) (.int b tb)) _ _ _ from gt_int ?_))));refine mS (sE (pZ (mS (dF (nO ?_)))))
  by_cases hb:z>b
  ·rw[nH hb,mO O]
   refine mS (dA hS' O (mS (dF ?_)));rw[hnm];refine nO {aN sR _,ih (i+1) _ _ z t ∅ ∅ ?_ ?_ (bJ _ hS' O) λh2 tk t2 k2=>?_}
   ·exact st'.at λo e=>(pQ _ _ hSi).trans e
   ·obtain⟨o,e1,e2⟩:=hl'
    exact{o,(pQ _ _ hSl).trans e1,e2}
   ·let q:=hR h2 tk t2 λx o hx hxi e=>k2 x o hx hxi ((pQ _ _ (Ne.symm hx)).trans (kp x o hxi e))
    rw[ed,tV,show mxI b z=z from mO hb] at q;exact q
  ·rw[nL hb,mL nM]
   refine mS (dF ?_);rw[hnm];refine nO {aN sR _,ih (i+1) _ _ b tb ∅ ∅ st' hl' hS' λh2 tk t2 k2=>?_};let q:=hR h2 tk t2 λx o hx hxi e=>k2 x o hx hxi (kp x o hxi e);rw[ed,tV,show mxI b z=b from mL hb] at q;exact q
theorem zWk{it l S:V1}{items:List V0}{ns:List Int}{s:V2}{c:Nat}(hh:A.handled=none)(hi:Vals (ns.map V.int) items)(hSi:S≠it)(hSl:S≠l)(hil:it≠l)(dv:V0){R:Result->V2->Prop}
  (st:s.heap.IsListIter it l 0) (hl:s.heap.IsList l items.toArray) (hS:s.heap.get? S=some {cls:=.type "list",dict:=none,data:=.seq #[] c,slots:=#[]})
  (hR:∀h' tk v,(∀x o,x≠S->x≠it->s.heap.get? x=Y o->h'.get? x=Y o)->(match ns with | []=>v=dv | b::r=>∃t,v= .int (r.foldl mxI b) t)->R (.ok (.ret v)) {s with heap:=h',toks:=tk}):
  codeAny (S6 prog w) A (.builtin "max.loop" {[.ref it, .none, .ref S],[("default",dv)]}) R s:=by
 let hnm:(toString "max" ++toString ".loop" :String)= "max.loop":=by decide
 let hlen:=hi...*;rw[mC] at hlen;refine aR cU ?_;rw[tE sR _];show V8 _ A.in1 (seqItems? (.ref S)>>=_) _ _ s;refine mS (bZ hS O ?_)
 cases ns with
 | nil=>
  refine mS (aE (aB (show A.in1.handled=none from hh) st hl (by simp at hlen;simp[hlen]) λh' eb=>?_));refine mS (wpAny_rule (nO ?_));exact hR h' s.toks dv (λx o _ hx e=>eb x o hx e) O
 | cons z r=>
  obtain⟨u,ht,t,rfl⟩:=hi.get (i:=0) (x:=.int z) O;refine mS (aE (tY st hl (x:=.int z t) (by simpa using ht) λh' st' sb=>?_));let kp:∀x o,x≠it->s.heap.get? x=Y o->h'.get? x=Y o:=λx o hx e=>(sb.2 x hx).trans e;let hS':=kp S _ hSi hS;show V8 _ A.in1 (updateSeq S (λ_=>#[.int z t, .int z t])>>=_) _ _ _;refine mS (dA hS' O ?_);rw[hnm];refine nO {aN sR _,zZv hh hi hSi hSl hil dv _ 1 _ _ z t O (by simp) ?_ ?_ (bJ _ hS' O) λh2 tk t2 k2=>?_}
  ·exact st'.at λo e=>(pQ _ _ hSi).trans e
  ·obtain⟨o,e1,e2⟩:=hl
   exact{o,(pQ _ _ hSl).trans (kp l o (Ne.symm hil) e1),e2}
  ·exact hR h2 tk _ (λx o hx hxi e=>k2 x o hx hxi ((pQ _ _ (Ne.symm hx)).trans (kp x o hxi e))) ⟨t2,O⟩
end
section
variable{X:Cx}
def zMe(K:A7):V->V->Hp->VK->Prop:=λx y H Q=>∃(p:V1)(ns:List Int)(k:Int),x= .ref p/\y= .int k/\SqL K H p (ns.map V.int)/\Q (.int (mxD k ns)) H
theorem zRk(hc:X.calm=true){pins:List (V1×Obj)}{s:V2}{σ:St}{H:Hp}{x y:V}{u dv:V0}{Q:VK}(I:Inv X pins σ H s)(rx:RelV x u)(ry:RelV y dv)(h:zMe X.K x y H Q):
  V8 (S6 X.prog X.w) X.A (call (.builtin "max") [u] [("default",dv)]) (EP X pins σ Q) X.xe s:=by
 ext yC h p ns k r3_ r4_ z_;ext oA z_ hq q;subst r3_ r4_;cases rx;refine xD (I.list hq) λits rv pl hz=>?_;let hl:=pl.isList;let hplt:p<s⁻¹:=by obtain⟨_,e,_⟩:=hl;exact nD e
 let hnm:(toString "max" ++toString ".loop" :String)= "max.loop":=by decide
 refine wpAny_call (codeAny_call_builtin F.plain_max F.entry_max ?_);simp only[checkBuiltinCall,F.kind_max];let hgo:V8 (S6 X.prog X.w) X.A.in1 (Builtin.«max» {[.ref p],[("default",dv)]}) (λfin s'=>match fin with
   | .done f=>(match (Except.ok f:Result) with | .ok (.ret v)=>EP X pins σ Q v s' | .ok _=>False | .error e=>X.xe e s')
   | .again c'=>c'.quiet=true/\codeAny (S6 X.prog X.w) X.A c' (λr s'=>match r with | .ok (.ret v)=>EP X pins σ Q v s' | .ok _=>False | .error e=>X.xe e s') s') X.xe s:=by
  show V8 _ X.A.in1 (Builtin.Builtins.bindParams "max" ["key","default"] 0 {[],[("default",dv)]}>>=_) _ _ s;refine mS (wpAny_of_eq (show Builtin.Builtins.bindParams "max" ["key","default"] 0 {[],[("default",dv)]}=pure [none,Y dv] from O) ?_);refine mS (nO ?_);refine mS (bA hl ?_);refine mS (wpAny_newObj_type ?_);rw[hnm];let hk:∀b o,s.heap.get? b=Y o->((s.heap.push {cls:=.type "list_iterator",data:=.fields #[.ref p, .int 0 0]}).push {cls:=.type "list",data:=.seq #[]}).get? b=Y o:=λb o e=>mU _ (mU _ e);let hsz:(s.heap.push {cls:=.type "list_iterator",data:=.fields #[.ref p, .int 0 0]}).objs.size=s⁻¹+1:=bY ..;refine nO {aN sR _,zWk (it:=s⁻¹) (l:=p) (S:=(s.heap.push {cls:=.type "list_iterator",data:=.fields #[.ref p, .int 0 0]}).objs.size) (c:=0) (I.ok.hd hc) rv (by rw[hsz];exact rJ (cV _)) (by rw[hsz];exact rJ (Nat.lt_succ_of_lt hplt)) (rJ hplt) dv ?_ ?_ (nP _ O) λh' tk v k2 hv=>?_}
  ·exact{_,mU _ (nP _ O),O,O}
  ·obtain⟨o,e1,e2⟩:=hl
   exact{o,hk _ _ e1,e2}
  ·let I2:Inv X pins σ H {s with heap:=h',toks:=tk}:=I.kept λb o e=>k2 b o (by rw[hsz];exact nX (Nat.lt_succ_of_lt (nD e))) (nX (nD e)) (hk b o e)
   cases ns with
   | nil=>exact{.int k,H,I2,by rw[show v=dv from hv];exact ry,q}
   | cons b r=>
    obtain⟨t,e⟩:=hv;exact{.int (r.foldl mxI b),H,I2,⟨t,e⟩,q}
 cases hsig:Manifest.signature? "max" with
 | none=>exact nO hgo
 | some sig=>
  let ha:=zZl (.ref p) dv;simp only[argsOk,hsig] at ha;let h2:Bind.checkArgs "max" sig {[.ref p],[("default",dv)]}=pure ():=ha;show V8 _ X.A.in1 (Bind.checkArgs "max" sig {[.ref p],[("default",dv)]}) _ _ s;rw[h2];exact nO hgo
variable{e d:Expr}{te td:TE}{p kp pos:Pos}
def zVg(K:A7)(te td:TE):TE:=λσ H Q=>te σ H λx H1=>td σ H1 λy H2=>zMe K x y H2 Q
theorem yAa(hc:X.calm=true)(hg:Gl X "max")(hm:X.mg "max" =none)(ha:PA X [e] (zAa te zGv))(hd:PE X d td)(he:S2 pos (A3 [e] X.env)=(false,eval e X.env)::S2 pos (A3 [] X.env):=by rfl)(hpl:(S2 pos (A3 [e] X.env)).any (·.1)=false:=by rfl):
  PE X (.Call (.Name "max" p) [e] [{some "default",d,kp}] pos) (zVg X.K te td):=by
 intro pins s σ H Q I h;refine tR (gI I hg hm yEe ?_ ∎ ∎);refine callWith_kw ?_ he hpl;refine thn (ha pos pins s σ H (λvs H1=>match vs with | [x]=>td σ H1 (λy H2=>zMe X.K x y H2 Q)| _=>False) I h) λus s1 ⟨vs,H1,I1,r1,q1⟩=>?_
 match vs,q1,r1 with
 | [x],q1,r1=>
  obtain⟨u,rfl,rx⟩:=jC r1;refine kws_cons (thn (hd pins s1 σ H1 _ I1 q1) λdv s2 ⟨y,H2,I2,ry,q2⟩=>kws_nil ?_);exact zRk hc I2 rx ry q2
end
end L2
namespace L2
open PySem PySem.Spec PyProof.Rows
mutual
noncomputable def T.dep:T->Nat
 | .lst ts=>T.deps ts+1
 | .dic _ ts=>T.deps ts+1
 | .tup ts=>T.deps ts+1
 | .non=>0
 | .bl _=>0
 | .int _=>0
 | .str _=>0
noncomputable def T.deps:List T->Nat
 | []=>0
 | t::ts=>max (T.dep t) (T.deps ts)
end
mutual
def T.pure:T->Prop
 | .tup _=>False
 | .lst ts=>j9 ts
 | .dic ks ts=>ks.Nodup/\j9 ts
 | .non=>True
 | .bl _=>True
 | .int _=>True
 | .str _=>True
def j9:List T->Prop
 | []=>True
 | t::ts=>T.pure t/\j9 ts
end
theorem b7{t:T}:∀{ts:List T},t∈ts->T.dep t<=T.deps ts
 | [],h=>nomatch h
 | u::ts,h=>by
  show T.dep t<=max (T.dep u) (T.deps ts);rcases mI.mp h with e | e
  ·subst e;exact dB _ _
  ·exact nS (b7 e) (Nat.le_max_right _ _)
def EqM(P:V3)(w:V4)(A:Around)(s:V2)(u v:V0):Prop:=∀(E:V0->V2->Prop)(Q:Bool->V2->Prop),Q true s->V8 (S6 P w) A (eqBool u v) Q E s
section
variable{P:V3}{w:V4}
open AutoSeq1 (wpAny_loadPart')
open MeetsSeq MeetsSeq2 MeetsSeq3 SeqRoads2 SeqAt
theorem zQv{κ:Type} [DecidableEq κ] {knd:KeyKind P w κ} {A:Around} {E:V0->V2->Prop} {s:V2} {nm:String} {a b:V1} {pa pb:List (κ×V0)} {Q:Bool->V2->Prop} (na:(a==A5)=false) (nb:(b==A5)=false)
  (Da:s.heap.DictOf knd a pa) (Db:s.heap.DictOf knd b pb) (hl:pa...*=pb...*) (hit:∀(i:Nat) k v,pa[i]? =Y (k,v)->∃y,valueAt pb k=Y y/\EqM P w A s v y) (q:Q true s):V8 (S6 P w) A (Builtin.Dict.samePairs nm a b) Q E s:=by
 ext yC Da o1 e1 n1 g1 _ z_;ext xI z_ d1 k1 p1 _;ext yC Db o2 e2 n2 g2 _ z_;ext xI z_ d2 k2 p2 _;let s1:pa...*=e1.size:=by rw[<-p1...*];simp
 let s2:pb...*=e2.size:=by rw[<-p2...*];simp
 let look:∀k,findBy knd.is e2 k=valueAt pb k:=λk=>by
  rw[<-p2.find k];clear s2 p2 k2 d2 g2;obtain⟨l⟩:=e2;simp[findBy]
 let en:e1.size=e2.size:=by lia
 unfold Builtin.Dict.samePairs Builtin.Dict.showsAll;rw[mL (show¬(a==A5)=true by rw[na];exact nM),mL (show¬(b==A5)=true by rw[nb];exact nM)];refine mS (nO (mS (nO (mS (tD g1 d1 ?_)))));dsimp only;refine mS (tD g2 d2 ?_);rw[mL (by rw[en];simp)];refine mS (wpAny_dictEpoch g1 d1 (mS ?_));rw[Std.Legacy.Range.forIn_eq_forIn_range'];simp only[Std.Legacy.Range.size,aV,cF,Nat.div_one];refine wpAny_forIn_list _ (λuN z s'=>s'=s/\z=(none,())/\∃i,uN=List.range' i (e1.size - i)/\i<=e1.size) _ ?_ ?_ _ _ {O,O,0,by simp,mT _}
 ·rintro x uN z s' ⟨rfl,rfl,i,hr,hi⟩
  let lt:i<e1.size:=by
   by_cases c:i<e1.size
   ·exact c
   ·rw[Nat.sub_eq_zero_of_le ∅] at hr;simp at hr
  obtain⟨rfl,hr2⟩:x=i/\uN=List.range' (i+1) (e1.size - (i+1)):=by
   rw[show e1.size - i=(e1.size - (i+1))+1 by lia,List.range'_succ] at hr;injection hr with c1 c2;exact⟨c1,c2⟩
  let ltp:x<pa...*:=by lia
  obtain⟨k,v,ekv⟩:∃k v,pa[x]? =Y (k,v):={_,_,by rw[mJ ltp]};obtain⟨c1,c2⟩:=p1.get? (i:=x) (e:=e1[x]) (k:=k) (v:=v) (by rw[sG];exact tF lt) ekv;obtain⟨k',c3,c4⟩:=k1 e1[x] (Array.getElem_mem lt);rw[knd.inj _ _ _ c3 c1] at c4;obtain⟨y,hy,he⟩:=hit x k v ekv;refine mS (tD g1 d1 ?_);rw[tF lt];show V8 _ _ (holding [e1[x].key,e1[x].val] _>>=_) _ _ _;rw[c4];refine mS (sE (mS (wpAny_dictFind_of c1 g2 d2 k2 ?_)))
  cases hj:e2.findIdx? λe=>knd.is k e.key with
  | none=>
   let c5:valueAt pb k=none:=by rw[<-look k,findBy_of_findIdx?,hj]
   rw[c5] at hy;cases hy
  | some j=>
   obtain⟨lj,_,_⟩:=Array.findIdx?_eq_some_iff_getElem.mp hj;let c5:valueAt pb k=some e2[j].val:=by
    rw[<-look k,findBy_of_findIdx?,hj];simp[tF lj]
   rw[c5] at hy;let c6:e2[j].val=y:=mM hy;refine mS (tD g2 d2 ?_);rw[tF lj];rw[<-c6,<-c2] at he;refine sE (he _ _ ?_);show V8 _ _ (if(!true)=true then _ else _) _ _ _;rw[mL ∎];refine mS (wpAny_dictEpoch g1 d1 ?_);rw[mL (by simp)];exact nO {O,O,x+1,hr2,lt}
 ·rintro z s' ⟨rfl,rfl,i,hr,hi⟩
  exact nO q
end
section
variable{X:Cx}{pins:List (V1×Obj)}{σ:St}{H:Hp}{s:V2}
theorem qY{ks:List (List Nat)}(h:ks.Nodup):(ks.map nK).Nodup:=by
 induction ks with
 | nil=>exact tG
 | cons k r ih=>
  rw[nZ] at h;rw[mV,nZ];refine{λhm=>?_,ih h.2};obtain⟨k',hk,e⟩:=nB.mp hm;exact h.1 (jX e▸hk)
def rEq0(K:A7)(neg:Bool):R2:=λx y H Q=>∃a b xs,x= .ref a/\y= .ref b/\SqL K H a xs/\SqL K H b []/\Q (.bl (if neg then !xs.isEmpty else xs.isEmpty)) H
theorem zIx(hu:X.A.units<cLine):OpR X (A4 .Eq) (rEq0 X.K false):=by
 intro pins s σ H x y v u Q I rx ry h;ext yC h a b xs r3_ r4_ z_;ext oAA z_ ha hb q;subst r3_ r4_;cases rx;cases ry;refine xD (I.list ha) λus r1 pl1 _=>?_;refine xD (I.list hb) λvs r2 pl2 _=>?_;cases r2
 cases xs with
 | nil=>
  cases r1;exact SeqAt.eq_listAt (e:=λ_=>true) pl1.isList pl2.isList O hu (λj h1=>absurd h1 (by simp)) {.bl true,H,I,O,q}
 | cons x xs=>
  let n1:=r1...*;exact SeqAt.eq_list_lengthsAt pl1.isList pl2.isList (by simp[<-n1]) hu {.bl false,H,I,O,q}
theorem zPi(hu:X.A.units<cLine):OpR X (A4 .NotEq) (rEq0 X.K true):=by
 intro pins s σ H x y v u Q I rx ry h;ext yC h a b xs r3_ r4_ z_;ext oAA z_ ha hb q;subst r3_ r4_;cases rx;cases ry;refine xD (I.list ha) λus r1 pl1 _=>?_;refine xD (I.list hb) λvs r2 pl2 _=>?_;cases r2
 cases xs with
 | nil=>
  cases r1;exact SeqAt.RcNeAt.lists (e:=λ_=>true) pl1.isList pl2.isList O hu (λj h1=>absurd h1 (by simp)) X.prog X.w X.xe _ {.bl false,H,I,O,q}
 | cons x xs=>
  let n1:=r1...*;exact SeqAt.RcNeAt.lists_lengths pl1.isList pl2.isList (by simp[<-n1]) hu X.prog X.w X.xe _ {.bl true,H,I,O,q}
end
end L2
namespace L2
open PySem PySem.Spec PyProof.Rows
mutual
noncomputable def T.sz:T->Nat
 | .lst ts=>T.szs ts+1
 | .dic _ ts=>T.szs ts+1
 | .tup ts=>T.szs ts+1
 | .non=>1
 | .bl _=>1
 | .int _=>1
 | .str _=>1
noncomputable def T.szs:List T->Nat
 | []=>0
 | t::ts=>T.sz t+T.szs ts
end
mutual
def Occ(H:Hp)(d:V1):V->T->Prop
 | v, .lst ts=>v= .ref d\/∃a vs,v= .ref a/\H a=Y (.lst vs)/\Occs H d vs ts
 | v, .dic _ ts=>v= .ref d\/∃a ps,v= .ref a/\H a=Y (.dK ps)/\Occs H d (ps.map (·.2)) ts
 | v, .tup ts=>v= .ref d\/∃a vs,v= .ref a/\H a=Y (.tup vs)/\Occs H d vs ts
 | _, .non=>False
 | _, .bl _=>False
 | _, .int _=>False
 | _, .str _=>False
def Occs(H:Hp)(d:V1):List V->List T->Prop
 | v::vs,t::ts=>Occ H d v t\/Occs H d vs ts
 | _,_=>False
end
mutual
theorem Rep.away{H:Hp}{d:V1}{o:HO}:∀(x:V)(t:T),Rep H x t->¬Occ H d x t->Rep (upd H d o) x t
 | _, .non,h,_=>h
 | _, .bl _,h,_=>h
 | _, .int _,h,_=>h
 | _, .str _,h,_=>h
 | x, .lst ts,⟨a,vs,e,ha,hs⟩,n=>by
  let ne:a≠d:=λz=>n (.inl (by rw[e,z]));exact{a,vs,e,by rw[zV ne];exact ha,Reps.away vs ts hs λz=>n (.inr ⟨a,vs,e,ha,z⟩)}
 | x, .dic ks ts,⟨a,ps,e,ha,hk,hs⟩,n=>by
  let ne:a≠d:=λz=>n (.inl (by rw[e,z]));exact{a,ps,e,by rw[zV ne];exact ha,hk,Reps.away _ ts hs λz=>n (.inr ⟨a,ps,e,ha,z⟩)}
 | x, .tup ts,⟨a,vs,e,ha,hs⟩,n=>by
  let ne:a≠d:=λz=>n (.inl (by rw[e,z]));exact{a,vs,e,by rw[zV ne];exact ha,Reps.away vs ts hs λz=>n (.inr ⟨a,vs,e,ha,z⟩)}
theorem Reps.away{H:Hp}{d:V1}{o:HO}:∀(xs:List V)(ts:List T),Reps H xs ts->¬Occs H d xs ts->Reps (upd H d o) xs ts
 | _,[],h,_=>h
 | _,t::ts,⟨x,xr,e,h1,h2⟩,n=>by
  subst e;exact{x,xr,O,Rep.away x t h1 λz=>n (.inl z),Reps.away xr ts h2 λz=>n (.inr z)}
end
mutual
theorem Occ.sub{H:Hp}{d:V1}:∀(x:V)(t:T),Rep H x t->Occ H d x t->∃t',Rep H (.ref d) t'/\T.sz t'<=T.sz t
 | _, .non,_,h=>h.elim
 | _, .bl _,_,h=>h.elim
 | _, .int _,_,h=>h.elim
 | _, .str _,_,h=>h.elim
 | x, .lst ts,hr,h=>by
  rcases h with e |⟨a,vs,e,ha,h⟩
  ·exact{.lst ts,e▸hr,mB _}
  ·ext yN hr a' vs' e' ha' hs
   rw[e] at e';cases e';rw[ha] at ha';cases ha';obtain⟨t',q,l⟩:=Occs.sub vs ts hs h;exact{t',q,rQ l}
 | x, .dic ks ts,hr,h=>by
  rcases h with e |⟨a,vs,e,ha,h⟩
  ·exact{.dic ks ts,e▸hr,mB _}
  ·ext yA hr a' vs' e' ha' _ hs
   rw[e] at e';cases e';rw[ha] at ha';cases ha';obtain⟨t',q,l⟩:=Occs.sub _ ts hs h;exact{t',q,rQ l}
 | x, .tup ts,hr,h=>by
  rcases h with e |⟨a,vs,e,ha,h⟩
  ·exact{.tup ts,e▸hr,mB _}
  ·ext yN hr a' vs' e' ha' hs
   rw[e] at e';cases e';rw[ha] at ha';cases ha';obtain⟨t',q,l⟩:=Occs.sub vs ts hs h;exact{t',q,rQ l}
theorem Occs.sub{H:Hp}{d:V1}:∀(xs:List V)(ts:List T),Reps H xs ts->Occs H d xs ts->∃t',Rep H (.ref d) t'/\T.sz t'<=T.szs ts
 | xs,[],_,h=>by cases xs<;>exact h.elim
 | _,t::ts,⟨x,xr,e,h1,h2⟩,h=>by
  subst e;rcases h with h | h
  ·obtain⟨t',q,l⟩:=Occ.sub x t h1 h
   exact{t',q,nS l (rV _ _)}
  ·obtain⟨t',q,l⟩:=Occs.sub xr ts h2 h
   exact{t',q,nS l (aS _ _)}
end
theorem zPh:∀{a b:List (List Nat)},a.map nK=b.map nK->a=b
 | [],[],_=>rfl
 | [],_::_,h=>by simp at h
 | _::_,[],h=>by simp at h
 | x::a,y::b,h=>by
  rw[mV,mV] at h;injection h with h1 h2;rw[jX h1,zPh h2]
mutual
theorem Rep.one{H:Hp}:∀(t:T)(x:V)(t':T),Rep H x t->Rep H x t'->t=t'
 | .non,x,t',h,h'=>by
  cases (show x= .non from h)
  cases t' with
  | non=>rfl
  | bl b=>cases (show V.non= .bl b from h')
  | int b=>cases (show V.non= .int b from h')
  | str b=>cases (show V.non= .str (tx b) from h')
  | lst ts=>obtain⟨a,vs,e,_⟩:=h';cases e
  | dic ks ts=>obtain⟨a,vs,e,_⟩:=h';cases e
  | tup ts=>obtain⟨a,vs,e,_⟩:=h';cases e
 | .bl c,x,t',h,h'=>by
  cases (show x= .bl c from h)
  cases t' with
  | non=>cases (show V.bl c= .non from h')
  | bl b=>cases (show V.bl c= .bl b from h');rfl
  | int b=>cases (show V.bl c= .int b from h')
  | str b=>cases (show V.bl c= .str (tx b) from h')
  | lst ts=>obtain⟨a,vs,e,_⟩:=h';cases e
  | dic ks ts=>obtain⟨a,vs,e,_⟩:=h';cases e
  | tup ts=>obtain⟨a,vs,e,_⟩:=h';cases e
 | .int c,x,t',h,h'=>by
  cases (show x= .int c from h)
  cases t' with
  | non=>cases (show V.int c= .non from h')
  | bl b=>cases (show V.int c= .bl b from h')
  | int b=>cases (show V.int c= .int b from h');rfl
  | str b=>cases (show V.int c= .str (tx b) from h')
  | lst ts=>obtain⟨a,vs,e,_⟩:=h';cases e
  | dic ks ts=>obtain⟨a,vs,e,_⟩:=h';cases e
  | tup ts=>obtain⟨a,vs,e,_⟩:=h';cases e
 | .str c,x,t',h,h'=>by
  cases (show x= .str (tx c) from h)
  cases t' with
  | non=>cases (show V.str (tx c)= .non from h')
  | bl b=>cases (show V.str (tx c)= .bl b from h')
  | int b=>cases (show V.str (tx c)= .int b from h')
  | str b=>
   let e:V.str (tx c)= .str (tx b):=h';injection e with e;let e2:ts (tx c)=ts (tx b):=by rw[e]
   rw[wI,wI] at e2;rw[e2]
  | lst ts=>obtain⟨a,vs,e,_⟩:=h';cases e
  | dic ks ts=>obtain⟨a,vs,e,_⟩:=h';cases e
  | tup ts=>obtain⟨a,vs,e,_⟩:=h';cases e
 | .lst us,x,t',⟨a,vs,e,ha,hs⟩,h'=>by
  subst e
  cases t' with
  | non=>cases (show V.ref a= .non from h')
  | bl b=>cases (show V.ref a= .bl b from h')
  | int b=>cases (show V.ref a= .int b from h')
  | str b=>cases (show V.ref a= .str (tx b) from h')
  | lst ts=>
   ext yN h' a' vs' e' ha' hs';cases e';rw[ha] at ha';cases ha';rw[Reps.one us vs ts hs hs']
  | dic ks ts=>obtain⟨a',vs',e',ha',_⟩:=h';cases e';rw[ha] at ha';cases ha'
  | tup ts=>obtain⟨a',vs',e',ha',_⟩:=h';cases e';rw[ha] at ha';cases ha'
 | .dic js us,x,t',⟨a,vs,e,ha,hk,hs⟩,h'=>by
  subst e
  cases t' with
  | non=>cases (show V.ref a= .non from h')
  | bl b=>cases (show V.ref a= .bl b from h')
  | int b=>cases (show V.ref a= .int b from h')
  | str b=>cases (show V.ref a= .str (tx b) from h')
  | lst ts=>obtain⟨a',vs',e',ha',_⟩:=h';cases e';rw[ha] at ha';cases ha'
  | dic ks ts=>
   ext yA h' a' vs' e' ha' hk' hs';cases e';rw[ha] at ha';cases ha';rw[Reps.one us _ ts hs hs',zPh (hk.symm.trans hk')]
  | tup ts=>obtain⟨a',vs',e',ha',_⟩:=h';cases e';rw[ha] at ha';cases ha'
 | .tup us,x,t',⟨a,vs,e,ha,hs⟩,h'=>by
  subst e
  cases t' with
  | non=>cases (show V.ref a= .non from h')
  | bl b=>cases (show V.ref a= .bl b from h')
  | int b=>cases (show V.ref a= .int b from h')
  | str b=>cases (show V.ref a= .str (tx b) from h')
  | lst ts=>obtain⟨a',vs',e',ha',_⟩:=h';cases e';rw[ha] at ha';cases ha'
  | dic ks ts=>obtain⟨a',vs',e',ha',_⟩:=h';cases e';rw[ha] at ha';cases ha'
  | tup ts=>
   ext yN h' a' vs' e' ha' hs';cases e';rw[ha] at ha';cases ha';rw[Reps.one us vs ts hs hs']
theorem Reps.one{H:Hp}:∀(us:List T)(xs:List V)(ts:List T),Reps H xs us->Reps H xs ts->us=ts
 | [],xs,ts,h,h'=>by
  cases (show xs= [] from h)
  cases ts with
  | nil=>rfl
  | cons t ts=>obtain⟨x,r,e,_⟩:=h';cases e
 | u::us,xs,ts,⟨x,r,e,h1,h2⟩,h'=>by
  subst e
  cases ts with
  | nil=>cases (show x::r= [] from h')
  | cons t ts=>
   ext yN h' x' r' e' h1' h2';cases e';rw[Rep.one u x t h1 h1',Reps.one us r ts h2 h2']
end
theorem i9{H:Hp}{d:V1}{o:HO}{ps:List (Key×V)}{ks:List (List Nat)}{ts:List T}(hd:H d=Y (.dK ps))(hk:ps.map (·.1)=ks.map nK)(h:Reps H (ps.map (·.2)) ts):Reps (upd H d o) (ps.map (·.2)) ts:=by
 refine Reps.away _ ts h λz=>?_;obtain⟨t',q,l⟩:=Occs.sub _ ts h z;let e:=Rep.one (.dic ks ts) (.ref d) t' ⟨d,ps,O,hd,hk,h⟩ q;rw[<-e] at l;exact absurd l (Nat.not_le_of_lt (cV _))
theorem uJ:∀{vs:List (Key×V)}{i:Nat}{k:Key}{y:V},(vs.map (·.1)).Nodup->vs[i]? =Y (k,y)->jH vs k=Y y
 | [],i,k,y,_,h=>by simp at h
 | p::vs,0,k,y,_,h=>by
  simp only[pL,Option.some.injEq] at h;subst h;exact zCw O
 | p::vs,i+1,k,y,nd,h=>by
  rw[mV,nZ] at nd;let h':vs[i]? =Y (k,y):=by simpa using h
  let ne:¬p.1=k:=λe=>nd.1 (nB.mpr {(k,y),mF h',e.symm});rw[zAo ne];exact uJ nd.2 h'
theorem qP:∀(more kvs:List (Key×V)),((kvs++more).map (·.1)).Nodup->qK kvs more=kvs++more
 | [],kvs,_=>by show kvs=_;rw[rM]
 | p::r,kvs,h=>by
  show qK (wQ kvs p.1 p.2) r=_;let hn:jH kvs p.1=none:=by
   cases e:jH kvs p.1 with
   | none=>rfl
   | some v=>
    let hm:=yAf e;rw[mN,cO] at h;exact absurd O (h.2.2 p.1 hm p.1 (by simp))
  rw[zXi _ hn,qP r (kvs++ [(p.1,p.2)]) (by rw[rY];exact h),rY]
  rfl
mutual
theorem Nice.dep:∀(t:T){d:Nat},Nice d t->T.dep t<=d
 | .non,_,_=>mT _
 | .bl _,_,_=>mT _
 | .int _,_,_=>mT _
 | .str _,_,_=>mT _
 | .lst ts,d,h=>by
  let:=NiceL.dep ts h.2.2;let:=h.1;show T.deps ts+1<=d
  lia
 | .dic ks ts,d,h=>by
  let:=NiceL.dep ts h.2.2.2.2.2;let:=h.1;show T.deps ts+1<=d
  lia
 | .tup _,_,h=>h.elim
theorem NiceL.dep:∀(ts:List T){d:Nat},NiceL d ts->T.deps ts<=d
 | [],_,_=>mT _
 | t::ts,_,h=>Nat.max_le.mpr {Nice.dep t h.1,NiceL.dep ts h.2}
end
theorem gU(d:Nat):1<=5 ^ d:=Nat.one_le_pow _ _ ∎
mutual
theorem Nice.sz:∀(t:T){d:Nat},Nice d t->T.sz t<=5 ^ d
 | .non,d,_=>gU d
 | .bl _,d,_=>gU d
 | .int _,d,_=>gU d
 | .str _,d,_=>gU d
 | .lst ts,d,h=>by
  obtain⟨h1,h2,h3⟩:=h;obtain⟨e,rfl⟩:∃e,d=e+1:={d - 1,∅};let:=NiceL.sz ts h3;let p:=gU e;show T.szs ts+1<=5 ^ (e+1);rw[cF] at this;let q:ts...**5 ^ e<=4*5 ^ e:=aJ _ h2;rw[Nat.pow_succ];lia
 | .dic ks ts,d,h=>by
  ext yR h h1 h2 _ _ _ h3;obtain⟨e,rfl⟩:∃e,d=e+1:={d - 1,∅};let:=NiceL.sz ts h3;let p:=gU e;show T.szs ts+1<=5 ^ (e+1);rw[cF] at this;let q:ts...**5 ^ e<=4*5 ^ e:=aJ _ h2;rw[Nat.pow_succ];lia
 | .tup _,_,h=>h.elim
theorem NiceL.sz:∀(ts:List T){d:Nat},NiceL d ts->T.szs ts<=ts...**5 ^ d
 | [],_,_=>mT _
 | t::ts,d,h=>by
  let a:=Nice.sz t h.1;let b:=NiceL.sz ts h.2;show T.sz t+T.szs ts<=(ts...*+1)*5 ^ d;rw[Nat.succ_mul];lia
end
theorem zKk{H:Hp}{a:V1}{xs:List V}(h:H a=Y (.tup xs)):tyS H (.ref a)=some "tuple":=by
 show(match H a with | some (.lst _)=>some "list" | some (.tup _)=>some "tuple" | some (.dK _)=>some "dict" | _=>none)=_;rw[h]
theorem vX{H:Hp}{a:V1}{xs:List V}(h:H a=Y (.lst xs)):tyS H (.ref a)=some "list":=by
 show(match H a with | some (.lst _)=>some "list" | some (.tup _)=>some "tuple" | some (.dK _)=>some "dict" | _=>none)=_;rw[h]
theorem jW{H:Hp}{a:V1}{xs:List (Key×V)}(h:H a=Y (.dK xs)):tyS H (.ref a)=some "dict":=by
 show(match H a with | some (.lst _)=>some "list" | some (.tup _)=>some "tuple" | some (.dK _)=>some "dict" | _=>none)=_;rw[h]
theorem jN{H H':Hp}(g:Same H H'){v:V}{t:String}(h:tyS H v=Y t):tyS H' v=Y t:=by
 cases v with
 | ref a=>
  let h':(match H a with | some (.lst _)=>some "list" | some (.tup _)=>some "tuple" | some (.dK _)=>some "dict" | _=>none)=Y t:=h
  cases e:H a with
  | none=>rw[e] at h';cases h'
  | some o=>
   rw[e] at h'
   cases o with
   | lst xs=>cases h';exact vX (g _ _ e)
   | tup xs=>cases h';exact zKk (g _ _ e)
   | dK kvs=>cases h';exact jW (g _ _ e)
   | _=>cases h'
 | _=>exact h
theorem Same.put{H H':Hp}{p:V1}(g:Same H H')(h:H p=none)(o:HO):Same H (upd H' p o):=λb u e=>by
 rw[zV (yZ e h)];exact g b u e
theorem i6{t:T}:∀{ts:List T},j9 ts->t∈ts->T.pure t
 | [],_,h=>nomatch h
 | u::ts,h,hm=>(mI.mp hm).elim (λe=>e▸h.1) (i6 h.2)
theorem yK{α:Type}{l:List α}{i:Nat}{a:α}(h:l[i]? =Y a):l.take (i+1)=l.take i++ [a]:=by rw[List.take_add_one,h];rfl
theorem m7:∀t:T,1<=T.sz t
 | .non=>mB _
 | .bl _=>mB _
 | .int _=>mB _
 | .str _=>mB _
 | .lst _=>aS _ _
 | .dic _ _=>aS _ _
 | .tup _=>aS _ _
theorem d5:∀ts:List T,ts...*<=T.szs ts
 | []=>mB _
 | t::ts=>by
  let a:=m7 t;let b:=d5 ts;show ts...*+1<=T.sz t+T.szs ts
  lia
theorem c8{t:T}:∀{ts:List T},t∈ts->T.sz t<=T.szs ts
 | [],h=>nomatch h
 | u::ts,h=>by
  show T.sz t<=T.sz u+T.szs ts;rcases mI.mp h with e | e
  ·subst e;exact rV _ _
  ·exact nS (c8 e) (aS _ _)
mutual
theorem Rep.plain{H H':Hp}(g:∀a u,(∀o v,u≠HO.frz o v)->H a=Y u->H' a=Y u):∀(x:V)(t:T),Rep H x t->Rep H' x t
 | _, .non,h=>h
 | _, .bl _,h=>h
 | _, .int _,h=>h
 | _, .str _,h=>h
 | _, .lst ts,⟨a,vs,h1,h2,h3⟩=>{a,vs,h1,g _ _ (by intro o v z;cases z) h2,Reps.plain g vs ts h3}
 | _, .dic ks ts,⟨a,ps,h1,h2,h3,h4⟩=>{a,ps,h1,g _ _ (by intro o v z;cases z) h2,h3,Reps.plain g _ ts h4}
 | _, .tup ts,⟨a,vs,h1,h2,h3⟩=>{a,vs,h1,g _ _ (by intro o v z;cases z) h2,Reps.plain g vs ts h3}
theorem Reps.plain{H H':Hp}(g:∀a u,(∀o v,u≠HO.frz o v)->H a=Y u->H' a=Y u):∀(vs:List V)(ts:List T),Reps H vs ts->Reps H' vs ts
 | _,[],h=>h
 | _,t::ts,⟨v,r,h1,h2,h3⟩=>{v,r,h1,Rep.plain g v t h2,Reps.plain g r ts h3}
end
theorem kI{H H':Hp}{d:V1}{o:Obj}{ps:List (Key×V)}(hd:H d=Y (.dK ps))(g:Same (upd H d (.frz o (.dK ps))) H'):Same H (L2.thaw H H'):=zCz λb u e=>by
 by_cases hb:b=d
 ·subst hb
  rw[hd] at e;cases e;exact .inr ⟨{o,g _ _ zC},by intro o v z;cases z⟩
 ·exact .inl (g _ _ (by rw[zV hb];exact e))
noncomputable def n8:T->List T
 | .lst us=>us
 | .dic _ us=>us
 | _=>[]
noncomputable def T.next(ts:List T):List T:=(ts.map n8).flatten
theorem c9:∀(a b:List T),T.szs (a++b)=T.szs a+T.szs b
 | [],b=>by show T.szs b=0+T.szs b;lia
 | t::a,b=>by
  show T.sz t+T.szs (a++b)=T.sz t+T.szs a+T.szs b;rw[c9 a b];lia
theorem Reps.append{H:Hp}{ys:List V}{vs:List T}(h':Reps H ys vs):∀{xs:List V}{us:List T},Reps H xs us->Reps H (xs++ys) (us++vs)
 | xs,[],h=>by
  cases (show xs= [] from h);exact h'
 | _,u::us,⟨x,r,e,h1,h2⟩=>by
  subst e;exact{x,r++ys,O,h1,Reps.append h' h2}
noncomputable def T.holds(t:T):Bool:=zT (tyT t) "list" || zT (tyT t) "dict"
def zCd(t:TS):TS:=λD σ H=>∃M:St->Hp->Prop,t {D with nx:=M} σ H/\∀σ' H',M σ' H'->D.nx σ' H'
theorem qX{X:Cx}{st:V6}{t:TS}(h:PS X st t):PS X st (zCd t):=by
 intro pins s σ H D I ⟨M,q,m⟩;refine thn (h pins s σ H _ I q) λf s1 z=>?_
 cases f with
 | next=>obtain⟨σ',H',J,q⟩:=z;exact{σ',H',J,m _ _ q}
 | brk=>exact z
 | cont=>exact z
 | ret u=>exact z
section
variable{X:Cx}
theorem zQm{P:V3}{w:V4}:∀{vs:List (Key×V0)}{ks:List Str}{us:List V0},vs.map (·.1)=ks.map Sum.inr->us...*=vs...*->(∀(j:Nat)(v:V0),us[j]? =Y v->∃k x,vs[j]? =Y (k,x)/\(xC P w).is k v=true)->StrsAre us ks
 | [],[],[],_,_,_=>.nil
 | p::vs,k::ks,u::us,e,hl,h=>by
  rw[mV,mV] at e;injection e with e1 e2;refine wA (h 0 u O) λk' x e3 hk=>?_;simp only[pL,Option.some.injEq] at e3;rw[e3] at e1;let e4:k'=Sum.inr k:=e1;rw[e4] at hk;obtain⟨t,et⟩:=(show∃t,u=Value.str k t from zJp hk);subst et;exact .cons k t (zQm e2 (by simpa using hl) λj v hv=>by simpa using h (j+1) v (by simpa using hv))
 | [],_::_,_,e,_,_=>by simp at e
 | _::_,[],_,e,_,_=>by simp at e
 | [],[],_::_,_,hl,_=>by simp at hl
 | _::_,_::_,[],_,hl,_=>by simp at hl
theorem zOt:∀{us:List V0}{ss:List Str},StrsAre us ss->Vals (ss.map V.str) us
 | _,_, .nil=>.nil
 | _,_, .cons x t r=>.cons ⟨t,O⟩ (zOt r)
theorem wB(hc:X.calm=true):wV X (.builtin "sorted") (λxs H Q=>∃(p:V1)(kvs:List (Key×V))(ks:List Str),xs= [.ref p]/\Rd H p (.dK kvs)/\kvs.map (·.1)=ks.map Sum.inr/\ks...*<64/\
  ∀l ss,H l=none->ss.Perm ks->sortedS ss=true->Q (.ref l) (upd H l (.lst (ss.map V.str)))):=by
 intro pins s σ H xs us Q I r h;ext yC h p kvs ks r3_ hq z_;ext oAA z_ hk h64 q;subst r3_;obtain⟨u,rfl,rx⟩:=jC r;cases rx;obtain⟨z,hd,vs,rel,dd⟩:=kP I.hok hq;obtain⟨ep,hat⟩:=dd.dictAt;let hl:=rel...*;refine PySem.Calls.call_function_entry kind_sorted plain_sorted entry_sorted (args_sorted1 _) ?_;unfold Builtin.«sorted»;refine mS (m:=checkCount "sorted" 1 1 _) (nO ?_);refine mS (W.kdu_collect (A:=X.A.in1) (W.kdl_dict (knd:=xC X.prog X.w) (kvs:=vs) (ep:=ep) hd) (show X.A.in1.handled=none from I.ok.hd hc) hat ∅ λh' tk acc hkp hacc=>?_);let hlen:acc.toList...*=vs...*:=by rw[tJ];exact hacc.1
 let hS:StrsAre acc.toList ks:=zQm (P:=X.prog) (w:=X.w) (by rw[<-rel.keys];exact hk) hlen λj v e=>hacc.2 j v (by rw[<-sG];exact e);let hkl:ks...*=vs...*:=by
  let:=congrArg List.length hk;simp only[mC] at this
  lia
 refine mS (wpAny_newList ?_ (by rw[hlen];lia));let hoL:(h'.push (seqObj "list" acc.toList.toArray 0)).get? h'.objs.size=Y (seqObj "list" acc.toList.toArray 0):=nP _ O;refine mS (sE (cW slot_list_sort ⟨_,hoL,O⟩ entry_list_sort (list_sort_treeK strKind_oneLt hoL hS.keysOf (λv₁ v₂ uN e=>keyKind_strs (by rw[<-e];exact hS)) ∅ λst' a1 a2=>{_,O, ?_}) (args_list_sort _)));refine nO {_,O, ?_};refine xD (sorted_out_str hS a1 a2) λss' h1 h2 h3=>?_;let I':Inv X pins σ H {s with heap:=h',toks:=tk}:=I.kept (t':=tk) hkp;let hL:h'.objs.size<(h'.push (seqObj "list" acc.toList.toArray 0)).objs.size:=nD hoL;obtain⟨e,he⟩:=sortedHeap_at (out:=(arrOf st').map (·.2)) hoL;let rS:Vals (ss'.map V.str) ((arrOf st').map (·.2)).toList:=zOt h1;let hp:=h2.length_eq;refine{.ref h'.objs.size,_,I'.laid (a:=h'.objs.size) (t':=tk) (h':=sortedHeap (h'.push (seqObj "list" acc.toList.toArray 0)) h'.objs.size acc.toList ((arrOf st').map (·.2))) (λb u eb=>?_) (mB _) (o:=.lst (ss'.map V.str)) ?_,O,q _ ss' (I'.hok.fresh (mB _)) h2 h3}
 ·let lt:b<h'.objs.size:=nD eb
  exact(sortedHeap_old (nX lt) (bO lt hL)).trans (mU _ eb)
 ·exact{by rw[mC];lia,_,e,rS,by rw[Array.toArray_toList];exact he}
end
section
variable{X:Cx}
def yCt(K:A7):V->List V->Hp->VK->Prop:=λx vs H Q=>∃(p:V1)(ss:List Str)(k:Str)(j:Nat),x= .ref p/\vs= [.str k]/\SqL K H p (ss.map V.str)/\ss[j]? =Y k/\(∀i,i<j->ss[i]?≠Y k)/\j<1000000/\Q (.int j) H
theorem zFn{ss:List Str}{us:List V0}(r:Vals (ss.map V.str) us){j:Nat}(h:j<us...*):∃z t,ss[j]? =Y z/\us[j]=Value.str z t:=by
 let hl:=r...*;rw[mC] at hl;obtain⟨u,hu,t,ht⟩:=r.get (i:=j) (x:=.str ss[j]) (by simp[hl,h]);rw[mJ h] at hu;exact{ss[j],t,by simp[hl,h],(mM hu).trans ht}
noncomputable def zMw(k:Str):V0->Bool
 | .str z _=>z==k
 | _=>false
theorem zCf:MtR X "list.index" (yCt X.K):=by
 intro pins s σ H x vs v us Q I rx rv h;ext yS h p ss k j r4_ z_;ext yR z_ r5_ hq hj hno hsm q;subst r4_ r5_;cases rx;obtain⟨u,rfl,t,rfl⟩:=rv.one;refine xD (I.list hq) λits r pl _=>?_;let hl:=r...*;rw[mC] at hl;let hjl:j<ss...*:=(mP.mp hj).1;obtain⟨⟨cls,dd,data,sl⟩,ho,hc,n,hd⟩:=id pl.isList;simp only at hc hd;subst hc hd;refine tS sM ⟨_,ho,O⟩ PySem.F.entry_list_index (PySem.F.args_list_index_2 _ _) (SeqAt.list_indexAt p its.toArray n dd sl (.str k t) (zMw k) j (by simp;lia) ∅ ?_ ?_) {ho,λy hy=>?_,{.int j,H,I.tok _,⟨_,O⟩,q}}
 ·refine wA (zFn r (j:=j) ∅) λz t' e1 e2=>?_
  rw[hj] at e1;cases e1;show zMw k its[j]=true;rw[e2];exact beq_self_eq_true k
 ·intro m hm hlt
  refine wA (zFn r (j:=m) (by simpa using hm)) λz t' e1 e2=>?_;show zMw k its[m]=false;rw[e2];let ne:z≠k:=λe=>hno m hlt (by rw[e1,e]);exact sN.mpr ne
 ·obtain⟨m,hm,e⟩:=Array.mem_iff_getElem.mp hy
  refine wA (zFn r (j:=m) (by simpa using hm)) λz t' e1 e2=>?_;let e3:y=Value.str z t':=by rw[<-e];simpa using e2
  subst e3;exact SeqAt.EqAt.str_str z t' k t
noncomputable def gtV:V->V->Option Bool
 | .int a, .int b=>Y (decide (b<a))
 | .bl a, .bl b=>Y (a && !b)
 | .str a, .str b=>Y (decide (ts b<ts a))
 | _,_=>none
def rGtA:R2:=λx y H Q=>∃b,gtV x y=Y b/\Q (.bl b) H
def rLtA:R2:=λx y H Q=>∃b,gtV y x=Y b/\Q (.bl b) H
theorem zOs:OpR X (A4 .Gt) rGtA:=by
 intro pins s σ H x y v u Q I rx ry h;obtain⟨b,hb,q⟩:=h;cases x<;>cases y<;>first |(cases hb;done)| skip
 ·rename_i a c
  cases hb;cases (show v=Value.bool a from rx);cases (show u=Value.bool c from ry);refine gt_bool (xE I q ?_);cases a<;>cases c<;>rfl
 ·rename_i a c
  cases hb;obtain⟨t,rfl⟩:=rx;obtain⟨t',rfl⟩:=ry;exact PyProof.Rows.gt_int (xE I q O)
 ·rename_i a c
  cases hb;obtain⟨t,rfl⟩:=rx;obtain⟨t',rfl⟩:=ry;exact PySem.P.gt_str (xE I q O)
theorem zPy:OpR X (A4 .Lt) rLtA:=by
 intro pins s σ H x y v u Q I rx ry h;obtain⟨b,hb,q⟩:=h;cases x<;>cases y<;>first |(cases hb;done)| skip
 ·rename_i a c
  cases hb;cases (show v=Value.bool a from rx);cases (show u=Value.bool c from ry);refine lt_bool (xE I q ?_);cases a<;>cases c<;>rfl
 ·rename_i a c
  cases hb;obtain⟨t,rfl⟩:=rx;obtain⟨t',rfl⟩:=ry;exact PyProof.Rows.lt_int (xE I q O)
 ·rename_i a c
  cases hb;obtain⟨t,rfl⟩:=rx;obtain⟨t',rfl⟩:=ry;exact PyProof.Rows.lt_str (xE I q O)
end
noncomputable def leK(a b:List Nat):Bool:=!decide (b<a)
theorem zHt(a b c:List Nat)(h1:leK a b=true)(h2:leK b c=true):leK a c=true:=by
 let x1:a<=b:=by simpa [leK] using h1
 let x2:b<=c:=by simpa [leK] using h2
 let:=List.le_trans x1 x2
 simpa [leK] using this
theorem zRw(a b:List Nat):(leK a b || leK b a)=true:=by
 rcases List.le_total a b with h | h
 ·let:leK a b=true:=by simpa [leK] using h
  rw[this];rfl
 ·let:leK b a=true:=by simpa [leK] using h
  rw[this,Bool.or_true]
theorem zKw{a b:List Nat}(h1:leK a b=true)(h2:leK b a=true):a=b:=by
 let x1:a<=b:=by simpa [leK] using h1
 let x2:b<=a:=by simpa [leK] using h2
 exact List.le_antisymm x1 x2
noncomputable def yQ(ks:List (List Nat)):List (List Nat):=ks.mergeSort leK
theorem yT(ks:List (List Nat)):(yQ ks).Perm ks:=List.mergeSort_perm ks leK
theorem uC(ks:List (List Nat)):(yQ ks).Pairwise (λa b=>leK a b=true):=List.pairwise_mergeSort zHt zRw ks
theorem zBp:∀{a b:List (List Nat)},a.Perm b->a.Pairwise (λa b=>leK a b=true)->b.Pairwise (λa b=>leK a b=true)->a=b
 | [],b,p,_,_=>(List.nil_perm.mp p).symm
 | x::a,[],p,_,_=>absurd p.length_eq (by simp)
 | x::a,y::b,p,h1,h2=>by
  rw[cG] at h1 h2;let hx:x∈y::b:=p.mem_iff.mp mG;let hy:y∈x::a:=p.mem_iff.mpr mG;let e:x=y:=by
   rcases mI.mp hx with z | z
   ·exact z
   ·rcases mI.mp hy with z' | z'
    ·exact z'.symm
    ·exact zKw (h1.1 y z') (h2.1 x z)
  subst e;rw[zBp p.cons_inv h1.2 h2.2]
theorem zDy:∀(p:Str)(l:List Str),risingS p l=true->((p::l).map ts).Pairwise (λa b=>leK a b=true)
 | p,[],_=>List.pairwise_singleton _ _
 | p,x::r,h=>by
  let h':(!ltCps x.cps.toList p.cps.toList && risingS x r)=true:=h;rw[nU] at h';let ih:=zDy x r h'.2;let hpx:leK (ts p) (ts x)=true:=by
   let:=h'.1;rw[ltCps_eq] at this;exact this
  rw[mV,cG];refine{λy hy=>?_,ih};rw[mV] at hy ih;rw[cG] at ih;rcases mI.mp hy with z | z
  ·rw[z];exact hpx
  ·exact zHt _ _ _ hpx (ih.1 y z)
theorem zKa{l:List Str}(h:sortedS l=true):(l.map ts).Pairwise (λa b=>leK a b=true):=by
 cases l with
 | nil=>exact List.Pairwise.nil
 | cons p r=>exact zDy p r h
theorem vV{ss:List Str}{ks:List (List Nat)}(hp:ss.Perm (ks.map tx))(hs:sortedS ss=true):ss=(yQ ks).map tx:=by
 let e:ss.map ts=yQ ks:=by
  refine zBp ?_ (zKa hs) (uC ks);let z:=hp.map ts;rw[pU] at z;let e2:ks.map (ts∘tx)=ks:=by
   conv=>rhs;rw[<-List.map_id ks]
   exact rG λk _=>wI k
  rw[e2] at z;exact z.trans (yT ks).symm
 let e3:(ss.map ts).map tx=ss:=by
  rw[pU]
  conv=>rhs;rw[<-List.map_id ss]
  exact rG λk _=>vH k
 rw[<-e3,e]
inductive C where
 | non | bl (b:Bool)| int (i:Int)| str (x:List Nat)| row (xs:List C)| rcd (xs:List C)| odd
noncomputable def C.ord:C->Nat
 | .non=>0
 | .bl _=>1
 | .int _=>2
 | .str _=>3
 | .row _=>4
 | .rcd _=>5
 | .odd=>6
noncomputable def zGd(k:List Nat):List (List Nat)->List C->C
 | k'::ks,c::cs=>if k'=k then c else zGd k ks cs
 | _,_=>.odd
noncomputable def zJ(k:List Nat):List (List Nat)->List T->T
 | k'::ks,c::cs=>if k'=k then c else zJ k ks cs
 | _,_=>.tup []
mutual
noncomputable def zZ:T->C
 | .non=>.non
 | .bl b=>.bl b
 | .int i=>.int i
 | .str x=>.str x
 | .lst ts=>.row (xP ts)
 | .dic ks ts=>.rcd ((yQ ks).map λk=>.row [.str k,zGd k ks (xP ts)])
 | .tup _=>.odd
noncomputable def xP:List T->List C
 | []=>[]
 | t::ts=>zZ t::xP ts
end
theorem kM:∀(ts:List T),xP ts=ts.map zZ
 | []=>rfl
 | t::ts=>by rw[mV,<-kM ts];rfl
theorem jF(k:List Nat):∀(ks:List (List Nat))(ts:List T),zZ (zJ k ks ts)=zGd k ks (xP ts)
 | [],_=>rfl
 | _::_,[]=>rfl
 | k'::ks,t::ts=>by
  show zZ (if k'=k then t else zJ k ks ts)=if k'=k then zZ t else zGd k ks (xP ts);split
  ·rfl
  ·exact jF k ks ts
noncomputable def sgI(a b:Int):Int:=(if b<a then 1 else 0)- (if a<b then 1 else 0)
noncomputable def zXw(a b:List Nat):Int:=(if b<a then 1 else 0)- (if a<b then 1 else 0)
mutual
noncomputable def xY:C->C->Int
 | .non, .non=>0
 | .bl a, .bl b=>sgI (if a then 1 else 0) (if b then 1 else 0)
 | .int a, .int b=>sgI a b
 | .str a, .str b=>zXw a b
 | .row a, .row b=>qA a b
 | .rcd a, .rcd b=>qA a b
 | a,b=>sgI a.ord b.ord
noncomputable def qA:List C->List C->Int
 | [],[]=>0
 | [],_::_=>-1
 | _::_,[]=>1
 | x::xs,y::ys=>if xY x y=0 then qA xs ys else xY x y
end
mutual
noncomputable def m5:T->Nat
 | .lst ts=>i8 ts+1
 | .dic _ ts=>i8 ts+2
 | .tup ts=>i8 ts+1
 | .non=>0
 | .bl _=>0
 | .int _=>0
 | .str _=>0
noncomputable def i8:List T->Nat
 | []=>0
 | t::ts=>max (m5 t) (i8 ts)
end
theorem j7{t:T}:∀{ts:List T},t∈ts->m5 t<=i8 ts
 | [],h=>nomatch h
 | u::ts,h=>by
  show m5 t<=max (m5 u) (i8 ts);rcases mI.mp h with e | e
  ·subst e;exact dB _ _
  ·exact nS (j7 e) (Nat.le_max_right _ _)
mutual
def T.few:T->Prop
 | .dic ks ts=>ks.Nodup/\ks...*<64/\ks...*=ts...*/\i3 ts
 | .lst ts=>ts...*<=100000/\i3 ts
 | .tup _=>False
 | .non=>True
 | .bl _=>True
 | .int _=>True
 | .str _=>True
def i3:List T->Prop
 | []=>True
 | t::ts=>T.few t/\i3 ts
end
theorem b5{t:T}:∀{ts:List T},i3 ts->t∈ts->T.few t
 | [],_,h=>nomatch h
 | u::ts,h,hm=>(mI.mp hm).elim (λe=>e▸h.1) (b5 h.2)
theorem jT{k:List Nat}:∀{ks:List (List Nat)}{ts:List T}{i:Nat}{t:T},ks.Nodup->ks[i]? =Y k->ts[i]? =Y t->zJ k ks ts=t
 | [],_,i,_,_,h,_=>by simp at h
 | k'::ks,[],i,_,_,_,h=>by simp at h
 | k'::ks,u::ts,0,t,nd,h1,h2=>by
  simp only[pL,Option.some.injEq] at h1 h2;subst h1 h2;exact mO O
 | k'::ks,u::ts,i+1,t,nd,h1,h2=>by
  rw[nZ] at nd;let h1':ks[i]? =Y k:=by simpa using h1
  let ne:¬k'=k:=λe=>nd.1 (e▸mF h1');show(if k'=k then u else zJ k ks ts)=t;rw[mL ne];exact jT nd.2 h1' (by simpa using h2)
theorem yO{k:List Nat}:∀{ks:List (List Nat)}{ts:List T},k∈ks->ks...*=ts...*->zJ k ks ts∈ts
 | [],_,h,_=>nomatch h
 | k'::ks,[],_,h=>by simp at h
 | k'::ks,u::ts,h,hl=>by
  show(if k'=k then u else zJ k ks ts)∈u::ts;split
  ·exact mG
  ·rename_i ne
   rcases mI.mp h with e | e
   ·exact absurd e.symm ne
   ·exact mE _ (yO e (by simpa using hl))
theorem zCu:∀(a b:C),a.ord≠b.ord->xY a b=sgI a.ord b.ord:=by
 intro a b h;cases a<;>cases b<;>first | exact absurd O h |(unfold xY;rfl)
theorem uE(x y:C)(xs ys:List C):qA (x::xs) (y::ys)=if xY x y=0 then qA xs ys else xY x y:=by
 rw[qA]
theorem zMz{xs ys:List C}{i:Nat}{x y:C}(hx:xs[i]? =Y x)(hy:ys[i]? =Y y):qA (xs.drop i) (ys.drop i)=if xY x y=0 then qA (xs.drop (i+1)) (ys.drop (i+1)) else xY x y:=by
 obtain⟨h1,e1⟩:=mP.mp hx;obtain⟨h2,e2⟩:=mP.mp hy;rw[pB h1,pB h2,e1,e2,uE]
theorem zSa{xs ys:List C}{m:Nat}(h:m=min xs...* ys...*):qA (xs.drop m) (ys.drop m)=sgI xs...* ys...*:=by
 unfold sgI;rcases Nat.lt_trichotomy xs...* ys...* with g | g | g
 ·let e:m=xs...*:=by lia
  rw[pR (cQ e.symm),pB (show m<ys...* by lia),qA,mL ∅,mO ∅]
  rfl
 ·let e:m=xs...*:=by lia
  rw[pR (cQ e.symm),pR (show ys...*<=m by lia),qA,mL ∅,mL ∅]
  rfl
 ·let e:m=ys...*:=by lia
  rw[pR (show ys...*<=m by lia),pB (show m<xs...* by lia),qA,mO ∅,mL ∅]
  rfl
noncomputable def uP(ks:List (List Nat))(ts:List T):List T:=(yQ ks).map λk=>.lst [.str k,zJ k ks ts]
theorem zGm(ks:List (List Nat))(ts:List T):xP (uP ks ts)=(yQ ks).map λk=>C.row [.str k,zGd k ks (xP ts)]:=by
 rw[kM,uP,pU];refine rG λk _=>?_;show C.row [.str k,zZ (zJ k ks ts)]=_;rw[jF]
theorem mem_sortK{k:List Nat}{ks:List (List Nat)}:k∈yQ ks↔k∈ks:=(yT ks).mem_iff
theorem zBx{ts:List T}(h:∀t∈ts,T.few t):i3 ts:=by
 induction ts with
 | nil=>exact mH
 | cons t ts ih=>exact{h t mG,ih λu hu=>h u (mE _ hu)}
theorem yDb{n:Nat}{ts:List T}(h:∀t∈ts,m5 t<=n):i8 ts<=n:=by
 induction ts with
 | nil=>exact mT _
 | cons t ts ih=>exact Nat.max_le.mpr {h t mG,ih λu hu=>h u (mE _ hu)}
theorem zKr{ks:List (List Nat)}{ts:List T}(hl:ks...*=ts...*)(h:i3 ts):i3 (uP ks ts):=by
 refine zBx λt ht=>?_;obtain⟨k,hk,rfl⟩:=nB.mp ht;exact{by simp,mH,b5 h (yO (mem_sortK.mp hk) hl),mH}
theorem zQd{ks:List (List Nat)}{ts:List T}(hl:ks...*=ts...*):i8 (uP ks ts)<=i8 ts+1:=by
 refine yDb λt ht=>?_;obtain⟨k,hk,rfl⟩:=nB.mp ht;let:=j7 (yO (mem_sortK.mp hk) hl);show max 0 (max (m5 (zJ k ks ts)) 0)+1<=_
 lia
theorem zGa(ks:List (List Nat))(ts:List T):(uP ks ts)...*=ks...*:=by
 rw[uP,mC];exact(yT ks).length_eq
theorem vQ(ts:List T):(xP ts)...*=ts...*:=by rw[kM,mC]
theorem uB{ts:List T}{i:Nat}{t:T}(h:ts[i]? =Y t):(xP ts)[i]? =Y (zZ t):=by rw[kM,mW,h];rfl
theorem Rep.at_name{H:Hp}{ps:List (Key×V)}{ks:List (List Nat)}{us:List T}(nk:ks.Nodup)(hk:ps.map (·.1)=ks.map λk=>(Sum.inr (tx k):Key))(hs:Reps H (ps.map (·.2)) us){k:List Nat}(hm:k∈ks):
  ∃v,jH ps (Sum.inr (tx k))=Y v/\Rep H v (zJ k ks us):=by
 obtain⟨j,hj⟩:=aF.mp hm;let hp:(ps.map (·.1))[j]? =Y (Sum.inr (tx k):Key):=by rw[hk,mW,hj];rfl
 rw[mW] at hp
 cases hpj:ps[j]? with
 | none=>rw[hpj] at hp;cases hp
 | some kv=>
  rw[hpj] at hp;let ek:kv.1=(Sum.inr (tx k):Key):=mM hp;let hpj':ps[j]? =Y ((Sum.inr (tx k):Key),kv.2):=by rw[hpj,<-ek]
  obtain⟨t,ht,hr⟩:=hs.get (i:=j) (v:=kv.2) (by rw[mW,hpj];rfl);refine{kv.2,uJ (by rw[hk];exact qY nk) hpj', ?_};rw[jT nk hj ht];exact hr
def LtM(P:V3)(w:V4)(A:Around)(s:V2)(u v:V0)(b:Bool):Prop:=∀(E:V0->V2->Prop)(Q:V0->V2->Prop),Q (.bool b) s->V8 (S6 P w) A (richCompare .Lt u v) Q E s
def EqB(P:V3)(w:V4)(A:Around)(s:V2)(u v:V0)(b:Bool):Prop:=∀(E:V0->V2->Prop)(Q:Bool->V2->Prop),Q b s->V8 (S6 P w) A (eqBool u v) Q E s
inductive Zc (P:V3) (w:V4) (A:Around) (s:V2):List V0->List V0->Int->Prop
 | nil:Zc P w A s [] [] 0
 | less {y:V0} {ys:List V0}:Zc P w A s [] (y::ys) (-1)
 | more {x:V0} {xs:List V0}:Zc P w A s (x::xs) [] 1
 | eq {x y:V0} {xs ys:List V0} {c:Int}:EqB P w A s x y true->Zc P w A s xs ys c->Zc P w A s (x::xs) (y::ys) c
 | ne {x y:V0} {xs ys:List V0} {c:Int}:EqB P w A s x y false->LtM P w A s x y (decide (c<0))->c≠0->Zc P w A s (x::xs) (y::ys) c
section
variable{P:V3}{w:V4}{A:Around}{s:V2}{E:V0->V2->Prop}
end
section
variable{X:Cx}{pins:List (V1×Obj)}{σ:St}{H:Hp}{s:V2}
end
noncomputable def rawC:C->T
 | .str x=>.str x
 | _=>.non
mutual
noncomputable def rk:C->T
 | .non=>.tup [.int 0]
 | .bl b=>.tup [.int 1, .bl b]
 | .int i=>.tup [.int 2, .int i]
 | .str x=>.tup [.int 3, .str x]
 | .row cs=>.tup [.int 4, .tup (rks cs)]
 | .rcd cs=>.tup [.int 5, .tup (rkps cs)]
 | .odd=>.non
noncomputable def rks:List C->List T
 | []=>[]
 | c::cs=>rk c::rks cs
noncomputable def rkps:List C->List T
 | []=>[]
 | c::cs=>rkq c::rkps cs
noncomputable def rkq:C->T
 | .row cs=>.tup (rkl cs)
 | .non=>.non
 | .bl _=>.non
 | .int _=>.non
 | .str _=>.non
 | .rcd _=>.non
 | .odd=>.non
noncomputable def rkl:List C->List T
 | []=>[]
 | c::cs=>rawC c::rks cs
end
mutual
def C.ok:C->Prop
 | .odd=>False
 | .row cs=>C.oks cs
 | .rcd cs=>m8 cs
 | .non=>True
 | .bl _=>True
 | .int _=>True
 | .str _=>True
def C.oks:List C->Prop
 | []=>True
 | c::cs=>C.ok c/\C.oks cs
def m8:List C->Prop
 | []=>True
 | c::cs=>C.okq c/\m8 cs
def C.okq:C->Prop
 | .row cs=>C.okl cs
 | .non=>False
 | .bl _=>False
 | .int _=>False
 | .str _=>False
 | .rcd _=>False
 | .odd=>False
def C.okl:List C->Prop
 | []=>False
 | c::cs=>(∃k,c= .str k)/\cs...*=1/\C.oks cs
end
theorem d7{n:Nat}{ts:List T}(h:∀t∈ts,T.dep t<=n):T.deps ts<=n:=by
 induction ts with
 | nil=>exact mT _
 | cons t ts ih=>exact Nat.max_le.mpr {h t mG,ih λu hu=>h u (mE _ hu)}
section
variable{X:Cx}
end
theorem zHe{α:Type}:∀(l:List α),(List.range l...*).filterMap (l[·]?)=l
 | []=>rfl
 | a::l=>by
  rw[nI,List.range_succ_eq_map,aP];show a::List.filterMap _ _=_;rw[List.filterMap_map]
  congr 1
  exact zHe l
theorem zIb(n:Nat):sliceRange ((n:Int)- 1) (-1) (-1)=(List.range n).reverse:=by
 unfold sliceRange;apply List.ext_getElem
 ·by_cases h:n=0
  ·simp[h]
  ·simp
   lia
 ·intro i h1 h2
  simp at h2;simp
  lia
theorem zOo{α:Type}(xs:Array α):(List.range xs.size).reverse.filterMap (xs[·]?)=xs.toList.reverse:=by
 rw[List.filterMap_reverse]
 congr 1
 let z:=zHe xs.toList;rw[tJ] at z
 simpa using z
theorem zTa(items:Array V0):slicePick items none none ↥(-1)=items.toList.reverse.toArray:=by
 unfold slicePick;let hb:sliceBounds none none ↥(-1) items.size=((items.size:Int)- 1,-1,-1):=by first | rfl | simp[sliceBounds]
 rw[hb];show((sliceRange ((items.size:Int)- 1) (-1) (-1)).filterMap (items[·]?)).toArray=_;rw[zIb,zOo]
section
variable{X:Cx}{e k:Expr}{te:TE}{tk:TO}{pos p2:Pos}
def RvR(X:Cx)(r:V->Hp->VK->Prop):Prop:=
 ∀(pins:List (V1×Obj))(s:V2)(σ:St)(H:Hp)(x:V)(v vk:V0)(sl:V1)(Q:VK),Inv X pins σ H s->RelV x v->s.heap.IsSliceOf sl .none .none vk->IsPart vk ↥(-1)->r x H Q->
  ∃T id,typeLookup (.type T) "__getitem__" =pure ↥(.builtin id)/\s.TypeIs v T/\V8 (S6 X.prog X.w) X.A (getItem v (.ref sl)) (EP X pins σ Q) X.xe s
def zXb(r:V->Hp->VK->Prop)(te:TE)(tk:TO):TE:=λσ H Q=>te σ H λx H1=>tk σ H1 λst H2=>st=Y (-1)/\r x H2 Q
theorem zGf{r:V->Hp->VK->Prop}(hr:RvR X r)(he:PE X e te)(hk:PO X ↥k tk):PE X (.Subscript e (.Slice none none ↥k p2) pos) (zXb r te tk):=by
 intro pins s σ H Q I h;refine Subscript_ (thn (he pins s σ H _ I h) λv s1 ⟨x,H1,I1,r1,q1⟩=>?_);refine wpAny_Slice ?_;rw[evalPart_none];refine nO ?_;refine nO ?_;refine thn (hk pins s1 σ H1 _ I1 q1) λvk s3 ⟨u,H3,I3,pu,q3⟩=>?_;obtain⟨rfl,q3⟩:=q3;let I4:Inv X pins σ H3 {s3 with heap:=s3.heap.push {cls:=.type "slice",data:=.fields #[.none, .none,vk]}}:=I3.kept (t':=s3.toks) λb ob q=>mU _ q;refine yN (hr pins {s3 with heap:=s3.heap.push {cls:=.type "slice",data:=.fields #[.none, .none,vk]}} σ H3 x v vk s3⁻¹ Q I4 r1 (Heap.IsSliceOf.new ..) pu q3) λT id hT ht hg=>?_;show V8 (S6 X.prog X.w) X.A (subscriptTail e (.Slice none none ↥k p2) v (.ref s3⁻¹)) (EP X pins σ Q) X.xe {s3 with heap:=s3.heap.push {cls:=.type "slice",data:=.fields #[.none, .none,vk]}};exact tail_any (ops:=[v, .ref s3⁻¹]) ht hT hg (by with_unfolding_all rfl)
def rRvL(K:A7):V->Hp->VK->Prop:=λx H Q=>∃a xs,x= .ref a/\SqL K H a xs/\∀l,H l=none->Q (.ref l) (upd H l (.lst xs.reverse))
theorem zEk:RvR X (rRvL X.K):=by
 intro pins s σ H x v vk sl Q I rx hs pk h;ext yN h a xs r2_ hx q;subst r2_;cases rx;refine xD (I.list hx) λits r ht hz=>?_;let hlen:=r...*;refine{"list",_,slot_list_getitem.lookup,ht.isList.typeIs, ?_};refine wpAny_getItem_list_slice ht.isList hs .none .none pk (by simp) ?_ (by rw[nF]<;>lia);rw[zTa];refine{.ref s⁻¹,_,I.laid (t':=s.toks) (o:=.lst xs.reverse) (λb ob q=>mU _ q) (mB _) ?_,O,q _ (I.hok.fresh (mB _))};exact{by rw[pK];exact hz,_,0,r.reverse,nP _ O}
theorem zRo(n:Nat):S5 none none (-1) n=(List.range n).reverse:=by
 rw[<-zIb];unfold S5
 first | rfl | simp
def rRvS:V->Hp->VK->Prop:=λx H Q=>∃z,x= .str z/\z...*<=V9/\Q (.str (tx (ts z).reverse)) H
theorem yCc:RvR X rRvS:=by
 intro pins s σ H x v vk sl Q I rx hs pk h;ext xD h z r1_ hz q;subst r1_;obtain⟨t,rfl⟩:=rx;refine{"str",_,F.slot_str_getitem.lookup,bM _ _ _, ?_}
 cases pk with
 | int i u=>
  ext xD hs o ho hc hd;refine sK (l:=none) (u:=none) (st:=Y (-1,u)) ⟨o,ho,hc,hd⟩ rfl ?_;let e:sliceMade z t none none ↥(-1,u)= .str (tx (ts z).reverse):=by
   unfold sliceMade;rw[mL (by simp)]
   congr 1
   show({((S5 none none (-1) z...*).filterMap (z.cps[·]?)).toArray}:Str)=_;rw[zRo];show({((List.range z.cps.size).reverse.filterMap (z.cps[·]?)).toArray}:Str)=_;rw[zOo]
  rw[e];exact{by rw[qC,pK,<-zDo];exact hz,{.str (tx (ts z).reverse),H,I.tok _,⟨_,O⟩,q}}
end
mutual
def T.calm:T->Prop
 | .int i=>-(10 ^ 12)<=i/\i<=10 ^ 12
 | .str x=>x...*<=100
 | .lst ts=>k7 ts
 | .dic _ ts=>k7 ts
 | .tup ts=>k7 ts
 | .non=>True
 | .bl _=>True
def k7:List T->Prop
 | []=>True
 | t::ts=>T.calm t/\k7 ts
end
structure Fit(d z:Nat)(t:T):Prop where
 few:T.few t
 calm:T.calm t
 dep:T.dep t<=d
 sz:T.sz t<=z
theorem vR{K:A7}{H:Hp}{p:V1}{xs:List V}{i:Int}{Q:VK}(h:H p=Y (.lst xs))(h0:0<=i)(h1:i<xs...*)(q:∀x∈xs,Q x H):yAx K (.ref p) (.int i) H Q:=by
 obtain⟨x,hx,hm⟩:=uF h0 h1;exact yL (SqL.of h) hx (q x hm)
theorem jP:∀(n:Nat)(t:T),T.dep t<=n->T.few t->T.pure t:=by
 intro n
 induction n with
 | zero=>
  intro t hd hf
  cases t with
  | lst ts=>exact absurd hd (aK _)
  | dic ks ts=>exact absurd hd (aK _)
  | tup ts=>exact hf.elim
  | _=>exact mH
 | succ n ih=>
  let all:∀ts:List T,T.deps ts<=n->i3 ts->j9 ts:=by
   intro ts
   induction ts with
   | nil=>intros;exact mH
   | cons t ts ih2=>
    intro hd hf;let hd':max (T.dep t) (T.deps ts)<=n:=hd;exact{ih t ∅ hf.1,ih2 ∅ hf.2}
  intro t hd hf
  cases t with
  | lst ts=>exact all ts (Nat.le_of_succ_le_succ hd) hf.2
  | dic ks ts=>exact{hf.1,all ts (Nat.le_of_succ_le_succ hd) hf.2.2.2}
  | tup ts=>exact hf.elim
  | _=>exact mH
section
variable{P:V3}{w:V4}
theorem zYi{κ:Type} [DecidableEq κ] {knd:KeyKind P w κ} {A:Around} {E:V0->V2->Prop} {s:V2} {nm:String} {a b:V1} {pa:List (κ×V0)} {Q:Bool->V2->Prop} (na:(a==A5)=false) (nb:(b==A5)=false)
  (Da:s.heap.DictOf knd a pa) (Db:s.heap.DictOf knd b ([]:List (κ×V0))) (h0:pa≠ []) (q:Q false s):V8 (S6 P w) A (Builtin.Dict.samePairs nm a b) Q E s:=by
 ext yC Da o1 e1 n1 g1 _ z_;ext xI z_ d1 k1 p1 _;ext yC Db o2 e2 n2 g2 _ z_;ext xI z_ d2 k2 p2 _;let s1:pa...*=e1.size:=by rw[<-p1...*];simp
 let s2:(0:Nat)=e2.size:=by let:=p2...*;simpa using this.symm
 let hpos:0<pa...*:=rZ.mpr h0;unfold Builtin.Dict.samePairs Builtin.Dict.showsAll;rw[mL (show¬(a==A5)=true by rw[na];exact nM),mL (show¬(b==A5)=true by rw[nb];exact nM)];refine mS (nO (mS (nO (mS (tD g1 d1 ?_)))));dsimp only;refine mS (tD g2 d2 ?_);rw[mO (by rw[<-s1,<-s2];simp;lia)];exact mS (wpAny_rule (nO q))
end
section
variable{X:Cx}
def rNeD:R2:=λx y H Q=>∃a b ps,x= .ref a/\y= .ref b/\H a=Y (.dK ps)/\H b=Y (.dK [])/\Q (.bl (!ps.isEmpty)) H
theorem zPw(hu:X.A.units<cLine):OpR X (A4 .NotEq) rNeD:=by
 intro pins s σ H x y v u Q I rx ry h;ext yC h a b ps r3_ r4_ z_;ext oAA z_ ha hb q;subst r3_ r4_;cases rx;cases ry;obtain⟨_,na,us,r1,Da⟩:=zHd I.hok ha;obtain⟨_,nb,vs,r2,Db⟩:=zHd I.hok hb;let n1:=r1...*;let n2:=r2...*;let ev:vs= []:=List.length_eq_zero_iff.mp n2.symm;subst ev;refine wpAny_richCompare_same_room (op:=.NotEq) Da.typeIs Db.typeIs PySem.F.slot_dict_ne (cW PySem.F.slot_dict_ne Da.typeIs PySem.F.entry_dict_ne ?_ (PySem.F.args_dict_ne_2 _ _)) hu;show V8 _ _ (Builtin.Dict.dictSlotArgs "__ne__" {[.ref a, .ref b],[]}>>=_) _ _ s;refine mS ?_;unfold Builtin.Dict.dictSlotArgs;refine mS (wpAny_notOrdered_dict Da.typeIs ?_);show V8 _ _ (pure (Value.ref a,Value.ref b)) _ _ s;refine nO (mS (wpAny_isInstance (T:="dict") Db.typeIs F.sub_dict_dict ?_));simp only[Bool.not_true,cE,bX];refine mS (nO (mS (nO ?_)))
 cases ps with
 | nil=>
  let eu:us= []:=List.length_eq_zero_iff.mp n1.symm;subst eu;exact mS (zQv na nb Da Db O (λi k v hi=>by simp at hi) (nO {_,O,(λx=>nomatch x),{.bl false,H,I,O,q}}))
 | cons p ps=>
  refine mS (zYi na nb Da Db (λz=>by rw[z] at n1;simp at n1) (nO {_,O,(λx=>nomatch x),{.bl true,H,I,O,q}}))
end
theorem zHu{k:Key}{v:V}:∀{ps:List (Key×V)},k∉ps.map (·.1)->(ps.map λkv=>if kv.1=k then(kv.1,v) else kv)=ps
 | [],_=>rfl
 | p::ps,h=>by
  rw[mV] at h⊢;let h1:¬p.1=k:=λe=>h (by rw[<-e];exact mG);rw[mL h1,zHu λz=>h (mE _ z)]
theorem j5{H:Hp}{k:Key}{v:V}{t:T}(hv:Rep H v t):∀{ps:List (Key×V)}{ts:List T},(ps.map (·.1)).Nodup->Reps H (ps.map (·.2)) ts->
  ∃ts',Reps H ((ps.map λkv=>if kv.1=k then(kv.1,v) else kv).map (·.2)) ts'/\(∀u∈ts',u∈ts\/u=t)/\T.szs ts'<=T.szs ts+T.sz t
 | [],ts,_,h=>{ts,h,λu hu=>.inl hu,rV _ _}
 | p::ps,[],_,h=>by
  let h':(p::ps).map (·.2)= []:=h;cases h'
 | p::ps,u::ts,nd,⟨v',r,e,h1,h2⟩=>by
  let e':p.2::ps.map (·.2)=v'::r:=e;injection e' with e1 e2;subst e1 e2;rw[mV,nZ] at nd
  by_cases hk:p.1=k
  ·refine{t::ts,{v,ps.map (·.2), ?_,hv,h2},λz hz=>?_, ?_}
   ·rw[mV,mO hk,zHu (by rw[<-hk];exact nd.1),mV]
   ·rcases mI.mp hz with q | q
    ·exact .inr q
    ·exact .inl (mE _ q)
   ·show T.sz t+T.szs ts<=T.sz u+T.szs ts+T.sz t
    lia
  ·obtain⟨ts',r',m',z'⟩:=j5 hv nd.2 h2
   refine{u::ts',{p.2,_, ?_,h1,r'},λz hz=>?_, ?_}
   ·rw[mV,mL hk,mV]
   ·rcases mI.mp hz with q | q
    ·exact .inl (by rw[q];exact mG)
    ·exact(m' z q).imp (mE _) id
   ·show T.sz u+T.szs ts'<=T.sz u+T.szs ts+T.sz t
    lia
theorem gZ(t:T):∀(ts:List T),T.szs (ts++ [t])=T.szs ts+T.sz t
 | []=>by show T.sz t+0=0+T.sz t;lia
 | u::ts=>by
  show T.sz u+T.szs (ts++ [t])=T.sz u+T.szs ts+T.sz t;rw[gZ t ts];lia
theorem zJb{H:Hp}{ps:List (Key×V)}{ks:List (List Nat)}{ts:List T}{n:List Nat}{v:V}{t:T}(hk:ps.map (·.1)=ks.map nK)(hR:Reps H (ps.map (·.2)) ts)(nd:ks.Nodup)(hv:Rep H v t):
  ∃(ks':List (List Nat))(ts':List T),(wQ ps (nK n) v).map (·.1)=ks'.map nK/\Reps H ((wQ ps (nK n) v).map (·.2)) ts'/\ks'.Nodup/\(∀u∈ts',u∈ts\/u=t)/\ks'...*<=ks...*+1/\T.szs ts'<=T.szs ts+T.sz t:=by
 unfold wQ
 by_cases h:(ps.any λkv=>decide (kv.1=nK n))=true
 ·rw[mO h]
  obtain⟨ts',r',m',z'⟩:=j5 (k:=nK n) hv (by rw[hk];exact qY nd) hR;refine{ks,ts', ?_,r',nd,m',rO _,z'};rw[<-hk,pU];apply rG;intro p _;show(if p.1=nK n then(p.1,v) else p).1=p.1;split<;>rfl
 ·rw[mL h]
  refine{ks++ [n],ts++ [t],by rw[mN,hk,mN];rfl,by rw[mN];exact Reps.snoc hv hR, ?_,λu hu=>?_,by simp,by rw[gZ];exact mB _}
  ·refine zJs nd λhm=>h (aI.mpr ?_)
   let hm':nK n∈ps.map (·.1):=by rw[hk];exact nB.mpr ⟨n,hm,O⟩
   obtain⟨p,hp,e⟩:=nB.mp hm';exact{p,hp,nH e}
  ·rcases mX.mp hu with q | q
   ·exact .inl q
   ·exact .inr (nC.mp q)
theorem zMt(xs:List V)(i:Nat):kQ xs none ↥(i:Int)=xs.take i:=by
 unfold kQ;rw[HT.sIx_nat];show(xs.drop 0).take (min i xs...* - 0)=_;rw[sP,aV]
 by_cases h:i<=xs...*
 ·rw[tX h]
 ·rw[tH ∅,pA,pW ∅]
theorem gO(xs:List V)(i:Nat):kQ xs ↥(i:Int) none=xs.drop i:=by
 unfold kQ;rw[HT.sIx_nat];show(xs.drop (min i xs...*)).take (xs...* - min i xs...*)=_
 by_cases h:i<=xs...*
 ·rw[tX h,pW (by rw[nG];lia)]
 ·rw[tH ∅,aL,pR ∅,cL]
theorem zFx(xs:List V):kQ xs none ↥(-1)=xs.take (xs...* - 1):=by
 unfold kQ;show(xs.drop 0).take ((-1+(xs...*:Int)).toNat - 0)=_;rw[sP,aV]
 congr 1
 lia
theorem Reps.take{H:Hp}:∀{xs:List V}{us:List T}(i:Nat),Reps H xs us->Reps H (xs.take i) (us.take i)
 | xs,us,0,_=>by rw[cA,cA];exact O
 | xs,[],i+1,h=>by cases (show xs= [] from h);exact O
 | xs,u::us,i+1,⟨x,r,e,h1,h2⟩=>by
  subst e;rw[List.take_succ_cons,List.take_succ_cons];exact{x,_,O,h1,Reps.take i h2}
theorem Reps.drop{H:Hp}:∀{xs:List V}{us:List T}(i:Nat),Reps H xs us->Reps H (xs.drop i) (us.drop i)
 | xs,us,0,h=>by rw[sP,sP];exact h
 | xs,[],i+1,h=>by cases (show xs= [] from h);exact O
 | xs,u::us,i+1,⟨x,r,e,h1,h2⟩=>by
  subst e;rw[List.drop_succ_cons,List.drop_succ_cons];exact Reps.drop i h2
theorem Reps.reverse{H:Hp}:∀{xs:List V}{us:List T},Reps H xs us->Reps H xs.reverse us.reverse
 | xs,[],h=>by cases (show xs= [] from h);exact O
 | xs,u::us,⟨x,r,e,h1,h2⟩=>by
  subst e;rw[bB,bB];exact Reps.snoc h1 (Reps.reverse h2)
theorem szs_append:∀(a b:List T),T.szs (a++b)=T.szs a+T.szs b
 | [],b=>by show T.szs b=0+T.szs b;lia
 | u::a,b=>by
  show T.sz u+T.szs (a++b)=T.sz u+T.szs a+T.szs b;rw[szs_append a b];lia
theorem sz_pos:∀(t:T),1<=T.sz t
 | .lst ts=>nY (mT _)
 | .dic _ ts=>nY (mT _)
 | .tup ts=>nY (mT _)
 | .non=>mB _
 | .bl _=>mB _
 | .int _=>mB _
 | .str _=>mB _
theorem zCt:∀(ts:List T),ts...*<=T.szs ts
 | []=>mB _
 | t::ts=>by
  let:=zCt ts;let:=sz_pos t;show ts...*+1<=T.sz t+T.szs ts
  lia
theorem zSf{us:List T}{i:Nat}{t:T}(h:us[i]? =Y t):T.szs us=T.szs (us.take i)+T.sz t+T.szs (us.drop (i+1)):=by
 obtain⟨hl,e⟩:=mP.mp h
 conv=>lhs;rw[<-rK i us,szs_append,pB hl,e]
 show _+(T.sz t+_)=_
 lia
section
variable{X:Cx}{pins:List (V1×Obj)}{σ σ':St}{H H':Hp}{s s':V2}
theorem Inv.freezeL{d:V1}{xs:List V}{o:Obj}(I:Inv X pins σ H s)(h:H d=Y (.lst xs))(hg:s.heap.get? d=Y o):Inv X pins σ (upd H d (.frz o (.lst xs))) s:=by
 let ne:∀b u,H b=u->u≠Y (.lst xs)->b≠d:=λb u e n z=>by subst z;exact n (e.symm.trans h)
 refine I.sim (λb e=>by rw[zV (ne b _ e (by intro z;cases z))];exact e) (λb a e=>by rw[zV (ne b _ e (by intro z;cases z))];exact e) (λb a e=>by rw[zV (ne b _ e (by intro z;cases z))];exact e)
  (λb a e=>by rw[zV (ne b _ e (by intro z;cases z))];exact e) (λb o' u e=>?_) λb u e=>?_
 ·let e':=I.base.frzs b o' u e
  rw[zV (ne b _ e' (by intro z;cases z))];exact e'
 ·by_cases hb:b=d
  ·subst hb
   rw[zC] at e;cases e;exact .inr (.inr ⟨o,_,O,h,hg⟩)
  ·rw[zV hb] at e;exact .inl e
def zMd(d:V1)(t:TE):TE:=λσ H Q=>(∃kvs,H d=Y (.dK kvs)/\∀o,t σ (upd H d (.frz o (.dK kvs))) λv H'=>Q v (thaw H H'))\/∃xs,H d=Y (.lst xs)/\∀o,t σ (upd H d (.frz o (.lst xs))) λv H'=>Q v (thaw H H')
def zGq(t:TE):TE:=λσ H Q=>∃d,zMd d t σ H Q
theorem zAy{e:Expr}{t:TE}(h:PE X e t):PE X e (zGq t):=by
 intro pins s σ H Q I q;obtain⟨d,⟨kvs,hd,q⟩|⟨xs,hd,q⟩⟩:=q
 ·obtain⟨_,_,us,_,D⟩:=zHd I.hok hd
  obtain⟨o,ho,_⟩:=D.typeIs;exact thn (h pins s σ _ _ (I.freeze hd ho) (q o)) λu s1 ⟨v,H1,I1,r,q1⟩=>{v,_,I.thaw I1,r,q1}
 ·refine xD (I.list (SqL.of hd)) λus r1 pl _=>?_
  ext wA pl o n ho _;exact thn (h pins s σ _ _ (I.freezeL hd ho) (q o)) λu s1 ⟨v,H1,I1,r,q1⟩=>⟨v,_,I.thaw I1,r,q1⟩
end
def vN(H:Hp)(d:V1):Hp:=λb=>if b=d then none else H b
theorem wO{H:Hp}{d b:V1}(h:b≠d):vN H d b=H b:=mL h
theorem uL{H:Hp}{d:V1}:vN H d d=none:=mO O
theorem kL{H:Hp}{d:V1}{u:HO}:vN (upd H d u) d=vN H d:=by
 funext b
 by_cases h:b=d
 ·subst h;rw[uL,uL]
 ·rw[wO h,wO h,zV h]
theorem zAf{H:Hp}{d:V1}{u:HO}:Same (vN H d) (upd H d u):=λb v e=>by
 by_cases h:b=d
 ·subst h;rw[uL] at e;cases e
 ·rw[wO h] at e;rw[zV h];exact e
theorem wK{H:Hp}{d:V1}:Same (vN H d) H:=λb v e=>by
 by_cases h:b=d
 ·subst h;rw[uL] at e;cases e
 ·rw[wO h] at e;exact e
theorem zUw{H:Hp}{d:V1}(h:H d=none):vN H d=H:=by
 funext b
 by_cases e:b=d
 ·subst e;rw[uL,h]
 ·rw[wO e]
theorem gR{H H':Hp}{d:V1}(h:Same H H'):Same (vN H d) (vN H' d):=λb v e=>by
 by_cases hb:b=d
 ·subst hb;rw[uL] at e;cases e
 ·rw[wO hb] at e⊢;exact h b v e
theorem Rep.off{H H':Hp}{d:V1}{o:Obj}{u:HO}(hd:H' d=Y (.frz o u)){v:V}{t:T}(h:Rep H' v t):Rep (vN (L2.thaw H H') d) v t:=
 Rep.plain (λb w n e=>by
  let hb:b≠d:=λz=>by subst z;rw[hd] at e;cases e;exact n _ _ O
  rw[wO hb];exact wS e n) v t h
theorem zRy{H H':Hp}{d:V1}{o:Obj}{u:HO}(g:Same (upd H d (.frz o u)) H'):Same (vN H d) (vN (L2.thaw H H') d):=λb w e=>by
 by_cases hb:b=d
 ·subst hb;rw[uL] at e;cases e
 ·rw[wO hb] at e⊢
  let e':H' b=Y w:=g b w (by rw[zV hb];exact e)
  cases w with
  | frz o' w'=>rw[zFk e];exact e'
  | _=>exact wS e' (by intro o v z;cases z)
theorem zHz{H H':Hp}{d:V1}{o:Obj}{u:HO}(hd:H d=Y u)(hu:∀o v,u≠ .frz o v)(g:Same (upd H d (.frz o u)) H'):L2.thaw H H' d=Y u:=
 zPx (g d _ zC) λo v z=>hu o v (mM (hd.symm.trans z))
noncomputable def uS:Nat->Nat
 | 0=>1
 | d+1=>4*uS d+1
theorem zBf:∀d,1<=uS d
 | 0=>mB _
 | d+1=>nY (mT _)
theorem zWu:∀d,d<=4->uS d<=341:=by
 intro d h;let:d=0\/d=1\/d=2\/d=3\/d=4:=by lia
 rcases this with rfl | rfl | rfl | rfl | rfl<;>decide
theorem zCy{n:Nat}:∀{ts:List T},(∀t∈ts,T.sz t<=n)->T.szs ts<=ts...**n
 | [],_=>mT _
 | t::ts,h=>by
  let h1:=h t mG;let h2:=zCy (ts:=ts) λu hu=>h u (mE _ hu);show T.sz t+T.szs ts<=(ts...*+1)*n;rw[Nat.add_mul];lia
theorem zTr{X:Cx}{K:A7}(h:X.K=K):IxR X (yAx K):=by subst h;exact zW
end L2
namespace L2
open PySem PySem.Spec PyProof.Rows PySem.Builtin PySem.Builtin.Str
section
variable{prog:V3}{w:V4}{A:Around}{E:V0->V2->Prop}{s:V2}{x y:Str}{t u:Tok}{Q:V0->V2->Prop}
end
section
variable{X:Cx}
end
structure Bl3(mg:Str->Option V0):Prop extends Bl2 mg where
 abs:mg "abs" =none
end L2
namespace L2
open PySem PySem.Spec PyProof.Rows
noncomputable def qV(ns:List Int)(k:Int):Int:=
 let m:=if ns= [] then k*7919 else(k*7919+k / ns...**104729+ns.getD (k % ns...*).toNat 0*48271)% 1000003
 (m*m / 11+13*m)% 1000003
theorem vT(ns:List Int)(k:Int):0<=qV ns k:=rE _ ∎
theorem qE(ns:List Int)(k:Int):qV ns k<1000003:=rF _ ∎
theorem zFj{α:Type}(f:Nat->α)(i:Nat):(List.range (i+1)).map f=(List.range i).map f++ [f i]:=by rw[pY,mN];rfl
noncomputable def xB(n:List Nat)(t:T):List (List Nat)->List T->List T
 | k::ks,u::us=>(if k=n then t else u)::xB n t ks us
 | _,us=>us
noncomputable def yU(p:List (List Nat)×List T)(n:List Nat)(t:T):List (List Nat)×List T:=if n∈p.1 then(p.1,xB n t p.1 p.2) else(p.1++ [n],p.2++ [t])
theorem zBi(n:List Nat)(t:T):∀(ks:List (List Nat))(us:List T),(xB n t ks us)...*=us...*
 | [],us=>by unfold xB;rfl
 | _::_,[]=>rfl
 | k::ks,u::us=>by
  show(xB n t ks us)...*+1=us...*+1;rw[zBi n t ks us]
theorem zBd(n:List Nat)(t:T):∀(ks:List (List Nat))(us:List T)(u:T),u∈xB n t ks us->u∈us\/u=t
 | [],us,u,h=>by unfold xB at h;exact .inl h
 | _::_,[],u,h=>.inl h
 | k::ks,v::us,u,h=>by
  let h':u∈(if k=n then t else v)::xB n t ks us:=h;rcases mI.mp h' with z | z
  ·split at z
   ·exact .inr z
   ·exact .inl (by rw[z];exact mG)
  ·exact(zBd n t ks us u z).imp (mE _) id
theorem Reps.replT{H:Hp}{n:List Nat}{v:V}{t:T}(hv:Rep H v t):∀{ps:List (Key×V)}{ks:List (List Nat)}{us:List T},ps.map (·.1)=ks.map nK->Reps H (ps.map (·.2)) us->Reps H ((ps.map λkv=>if kv.1=nK n then(kv.1,v) else kv).map (·.2)) (xB n t ks us)
 | [],[],us,_,h=>by
  let e:xB n t [] us=us:=by unfold xB;rfl
  rw[e];exact h
 | [],_::_,_,e,_=>by simp at e
 | _::_,[],_,e,_=>by simp at e
 | p::ps,k::ks,[],_,h=>by
  let h':(p::ps).map (·.2)= []:=h;cases h'
 | p::ps,k::ks,u::us,e,⟨v',r,e0,h1,h2⟩=>by
  let e':p.2::ps.map (·.2)=v'::r:=e0;injection e' with e1 e2;subst e1 e2;let e3:p.1::ps.map (·.1)=nK k::ks.map nK:=e;injection e3 with e4 e5;let ih:=Reps.replT (n:=n) hv e5 h2
  by_cases hk:k=n
  ·refine{v,_, ?_, ?_,ih}
   ·rw[mV,mO (by rw[e4,hk]),mV]
   ·rw[mO hk];exact hv
  ·refine{p.2,_, ?_, ?_,ih}
   ·rw[mV,mL (by rw[e4];exact λz=>hk (jX z)),mV]
   ·rw[mL hk];exact h1
theorem zAr{H:Hp}{ps:List (Key×V)}{p:List (List Nat)×List T}{n:List Nat}{v:V}{t:T}(hk:ps.map (·.1)=p.1.map nK)(hR:Reps H (ps.map (·.2)) p.2)(hv:Rep H v t):
  (wQ ps (nK n) v).map (·.1)=(yU p n t).1.map nK/\Reps H ((wQ ps (nK n) v).map (·.2)) (yU p n t).2:=by
 let hm:(ps.any λkv=>decide (kv.1=nK n))=true↔n∈p.1:=by
  rw[aI];constructor
  ·rintro⟨kv,hkv,e⟩
   let:nK n∈ps.map (·.1):=nB.mpr {kv,hkv,rP e};rw[hk] at this;obtain⟨k,h1,h2⟩:=nB.mp this;rw[<-jX h2];exact h1
  ·intro h
   let:nK n∈ps.map (·.1):=by rw[hk];exact nB.mpr ⟨n,h,O⟩
   obtain⟨kv,h1,h2⟩:=nB.mp this;exact{kv,h1,nH h2}
 unfold wQ yU
 by_cases h:n∈p.1
 ·rw[mO (hm.mpr h),mO h]
  refine{?_,Reps.replT hv hk hR};show _=p.1.map nK;rw[<-hk,pU];apply rG;intro q _;show(if q.1=nK n then(q.1,v) else q).1=q.1;split<;>rfl
 ·rw[mL (λz=>h (hm.mp z)),mL h]
  exact{by rw[mN,hk,mN];rfl,by rw[mN];exact Reps.snoc hv hR}
end L2
namespace L2
open PySem PySem.Spec PyProof.Rows PySem.Builtin PySem.Builtin.Str
theorem zBs{k:List Nat}(h:yY k=true):k...*<=12:=by
 unfold yY at h;simp only[nU,nV] at h
 lia
theorem yEz(a b:String):A6 (a++b)=A6 a++A6 b:=by
 let e:∀s:String,A6 s=tx (s.toList.map Char.toNat):=λs=>Str.ofString_eq_toList s;rw[e,e,e,zAm,String.toList_append,mN]
theorem zWd(i:Int):A6 (toString i)=tx (List.replicate (if i<0 then 1 else 0:Int).toNat 45)++A6 (toString (if i<0 then -i else i)):=by
 let n0:tx (List.replicate 0 45)++A6 (toString i)=A6 (toString i):=by
  rw[<-vH (A6 (toString i)),zAm];rfl
 by_cases h:i<0
 ·rw[mO h,mO h]
  cases i with
  | ofNat m=>exact absurd h (by let e:Int.ofNat m=(m:Int):=rfl;lia)
  | negSucc m=>
   show A6 ("-" ++Nat.repr (m+1))=tx [45]++A6 (Nat.repr (m+1));rw[yEz];let:A6 "-" =tx [45]:=by decide+kernel
   rw[this]
 ·rw[mL h,mL h]
  exact n0.symm
end L2
namespace L2
open PySem PySem.Spec PyProof.Rows
section
variable{X:Cx}
def yAd(t u:TE):TE:=λσ H Q=>t σ H Q\/u σ H Q
theorem zIj{e:Expr}{t u:TE}(h1:PE X e t)(h2:PE X e u):PE X e (yAd t u):=λpins s σ H Q I h=>h.elim (h1 pins s σ H Q I) (h2 pins s σ H Q I)
end
noncomputable def kid:T->T->T
 | .lst us, .int i=>us.getD i.toNat .non
 | .dic ks us, .str k=>zJ k ks us
 | _,_=>.non
section
variable{X:Cx}{pins:List (V1×Obj)}{σ:St}{H:Hp}{s:V2}{h':V5}
theorem Inv.turnedNew{fp:List V1}{a:V1}{o:HO}{t':Nat}(I:Inv X pins σ H s)(hf:∀b∈fp,zEc X pins H b)(k:∀b ob,b∉fp->s.heap.get? b=Y ob->h'.get? b=Y ob)(hp:s⁻¹<=a)
  (new:ObjOk X.prog X.w (upd H a o) h' a o):Inv X pins σ (upd H a o) {s with heap:=h',toks:=t'}:=by
 let hn:H a=none:=I.hok.fresh hp;let nfp:∀b u,H b=Y u->b∉fp:=λb u e z=>by rw[(hf b z).1] at e;cases e
 let nea:∀b ob,s.heap.get? b=Y ob->b≠a:=λb ob e=>nX (nR (nD e) hp);refine I.step (g':=s.gens) (d':=s.drawn) (ch:=fp) (λb hb=>?_) (λb ob _ _ hc e _=>k b ob hc e) (λb ob _ _ hc e _=>{ob.slots,k b ob hc e}) (λb ob _ e n=>by rw[zV (nea b ob e)];exact n)
  (λb ob hc e=>{ob,k b ob hc e}) (λb xs e=>by rw[zV (yZ e hn)];exact e) (λb ob u e=>by rw[zV (yZ e hn)];exact e) (λb ps e=>{#[],by rw[zV (yZ e hn),e];simp}) (λm hm=>?_) (λb u e=>?_) I.bare
 ·refine yR (hf b hb) λ_ f1 _ f3 f4 f5=>?_
  exact⟨f3,f1,f4,f5⟩
 ·ext vZ hm ob es ep ho r
  exact{ob,es,ep,k _ ob (λz=>(hf _ z).2.1 O) ho,r}
 ·by_cases hb:b=a
  ·subst hb;rw[zC] at e;cases e;exact new
  ·rw[zV hb] at e
   refine(I.hok b u e).stay (λc v hc q=>k c v ?_ q) (λc q=>by rw[zV (yZ q hn)];exact q) λc xs q=>by rw[zV (yZ q hn)];exact q
   rcases hc with z | z
   ·rw[z];exact nfp b u e
   ·exact nfp c _ z
end
def Iti(d:V1)(o:Obj)(kvs:List (Key×V)):It:=
 ⟨λi H=>i<kvs...*/\H d=Y (.frz o (.dK kvs)),λi H y H'=>∃p kv,H p=none/\kvs[i]? =Y kv/\y= .ref p/\H'=upd H p (.tup [kV kv.1,kv.2]),λi H=>kvs...*<=i/\H d=Y (.frz o (.dK kvs))⟩
theorem zWs:entryFor table "dict_itemiterator.__iter__" =some Builtin.«dict_keyiterator.__iter__»:=
 entryFor_alias (by kernel_rfl) O (by decide+kernel) (by kernel_rfl) (id':="dict_keyiterator.__iter__")
theorem zNv{P:V3}{w:V4}{K:A7}{elts:List Expr}{x1:Nat}{pos:Pos}(d it:V1)(o:Obj)(kvs:List (Key×V)):
  zGy P w K (.Tuple elts x1 pos) (Iti d o kvs) [it] it (λi h=>∃es ep ok ov,o.data= .dict es ep/\IsItemIter h it d i kvs...* ep ok ov) where
 mem:=by simp
 obj:=λi h st b hb=>by
  ext yS st es ep ok ov _ e;let e':b=it:=by simpa using hb
  subst e';exact{_,e,λv z=>by cases z}
 keep:=λi h h' st k=>by
  ext yS st es ep ok ov a st;exact{es,ep,ok,ov,a,k it (by simp) _ st}
 item:=by
  intro X hP hw hK hc i pins s σ H E I hf st hg;subst hP hw hK;ext yS st es ep ok ov hes st;obtain⟨hi,hg⟩:=hg;refine jZ (zAz I.hok hg hes) λvs rel hm _ _=>?_;let hl:=rel...*;obtain⟨kv,hkv⟩:∃kv,kvs[i]? =Y kv:={kvs[i],by simp[hi]};refine xD (KV.get rel hkv) λq hq hq1 hq2=>?_;rw[hl] at st;let hlt:it<s⁻¹:=nD st;refine wpAny_pyNext_items_item (k:=q.1) (v:=q.2) st hm hq λkey h1 hk so ht hz keep=>{_,O, ?_};refine wpAny_letOwnedTupleGo_items so λh2 st2 sb=>?_;let sb:Heap.SameBut it h1 h2:=sb;let ht2:h2.get? s⁻¹=some {cls:=.type "tuple",data:=.seq #[key,q.2]}:=(sb.2 _ (rJ hlt)).trans ht;let hnew:H s⁻¹=none:=I.hok.fresh (mB _);refine{.ref s⁻¹,upd H s⁻¹ (.tup [kV kv.1,kv.2]),I.turnedNew (t':=s.toks) hf (λb ob hb e=>?_) (mB _) ?_,O,⟨_,kv,hnew,hkv,O,O⟩,{es,ep,key,q.2,hes,by rw[hl];exact st2},λb hb=>?_}
  ·let hne:b≠it:=by simpa using hb
   exact(sb.2 b hne).trans (keep b ob hne e)
  ·refine{by rw[mQ];simp,[key,q.2], .cons (by rw[hq1];exact zJp hk) (.cons hq2 .nil),⟨_,ht2,O,_,O⟩}
  ·let e:b=it:=by simpa using hb
   subst e;rw[zV (nX hlt)];exact(hf _ (by simp)).1
 done:=by
  intro X hP hw hK hc i pins s σ H E I hf st hg;subst hP hw hK;ext yS st es ep ok ov hes st;obtain⟨hi,hg⟩:=hg;refine jZ (zAz I.hok hg hes) λvs rel hm _ _=>?_;refine yR (hf it (by simp)) λf0 f1 f2 f3 f4 f5=>?_;let hl:=rel...*;rw[hl] at st;exact wpAny_pyNext_items_end (I.ok.hd hc) st hm (by simp;lia) λh' eb=>{O,I.turned (t':=s.toks) (λb o hb e=>eb b o hb e) f0 f1 f3 f4 f5}
 self:=λA i s Q E st h=>by
  ext yS st es ep ok ov _ st;let hT:s.TypeIs (.ref it) "dict_itemiterator":=⟨_,st,O⟩;refine wpAny_pyIter_slot hT bV (cW bV hT zWs ?_ (F.args_dict_itemiterator_iter_1 _));show V8 _ _ (ret (.ref it)) _ _ s;exact nO {_,O,"dict_itemiterator",_,hT,F.slot_dict_itemiterator_next.lookup,h}
noncomputable def zGw(p d:V1):HO:=.ext λh=>h.IsItemsView p d
def yDi:V->List V->Hp->VK->Prop:=λx vs H Q=>∃d kvs,x= .ref d/\vs= []/\Rd H d (.dK kvs)/\∀p,H p=none->Q (.ref p) (upd H p (zGw p d))
def yFk(tl:TE):TI:=λσ H R=>tl σ H λx H1=>∃p d kvs,x= .ref p/\H1 p=Y (zGw p d)/\((H1 d=Y (.dK kvs)/\∀o,R (Iti d o kvs) (upd H1 d (.frz o (.dK kvs))))\/∃o,H1 d=Y (.frz o (.dK kvs))/\R (Iti d o kvs) H1)
section
variable{X:Cx}
theorem zUz:MtR X "dict.items" yDi:=by
 intro pins s σ H x vs v us Q I rx rv h;ext yA h d kvs r2_ r3_ hq q;subst r2_ r3_;cases rx;cases rv;obtain⟨z,hd,ws,rel,dd⟩:=kP I.hok hq;refine bP PySem.F.slot_dict_items dd.typeIs PySem.F.entry_dict_items (PySem.F.args_dict_items_1 _) (meets_dict_items (xC X.prog X.w) d hd) {⟨ws,dd⟩, ?_};refine{.ref s⁻¹,_,I.laid (t':=s.toks) (λb o e=>mU _ e) (mB _) (o:=zGw s⁻¹ d) ?_,O,q _ (I.hok.fresh (mB _))};exact⟨{_,nP _ O,O,O},{_,nP _ O},λh1 h2 ⟨o,e,r⟩ k=>⟨o,k o e,r⟩⟩
theorem zTe{elts:List Expr}{x1:Nat}{pos:Pos}{l:Expr}{tl:TE}(hl:PE X l tl):PI X (.Tuple elts x1 pos) l (yFk tl):=by
 intro pins s σ H R I h;refine thn (hl pins s σ H _ I h) λv s1 ⟨x,H1,I1,r1,q1⟩=>?_;ext yC q1 p d kvs r3_ hp q;subst r3_;cases r1;obtain⟨hv,_⟩:=(show ObjOk X.prog X.w H1 s1.heap p (zGw p d) from I1.hok p _ hp);let fin:∀o H2,Inv X pins σ H2 s1->H2 d=Y (.frz o (.dK kvs))->R (Iti d o kvs) H2->V8 (S6 X.prog X.w) X.A (pyIter (.ref p)) (PIE X pins σ (.Tuple elts x1 pos) R) X.xe s1:=λo H2 I2 e q=>by
  obtain⟨g,z,hd,vs,rel,o',es,ep,ho,c,hdat,r⟩:=(show ObjOk X.prog X.w H2 s1.heap d (.frz o (.dK kvs)) from I2.hok d _ e);rw[g] at ho;cases ho;let hm:s1.heap.DictAt (xC X.prog X.w) d vs ep:=⟨o,es,g,c,hdat,r⟩;refine wpAny_pyIter_items hv hm ?_;refine⟨s1⁻¹,[s1⁻¹],_,_,H2,O,I2.kept (t':=s1.toks) λb o e=>mU _ e,zNv d _ o kvs,⟨es,ep, .none, .none,hdat, ?_⟩,λb hb=>?_,q⟩
  ·rw[rel...*];exact nP _ O
  ·let e:b=s1⁻¹:=by simpa using hb
   subst e;exact I2.fpOk (mB _) (I2.hok.fresh (mB _))
 rcases q with⟨e,q⟩|⟨o,e,q⟩
 ·obtain⟨z,hd,vs,rel,o,es,ep,ho,_⟩:=(show ObjOk X.prog X.w H1 s1.heap d (.dK kvs) from I1.hok d _ e)
  exact fin o _ (I1.freeze e ho) zC (q o)
 ·exact fin o _ I1 e q
end
abbrev g2(K:A7):TG:=zWl K 2 (zMh (jQ 0) (zMh (jQ 1) zYv))
theorem zXe{F:List (Option V)}{x y:V}:yCp (Y x::Y y::F) (none::none::F):={O,λi v e=>by
 match i,e with
 | 0,e=>cases e
 | 1,e=>cases e
 | i+2,e=>exact e}
theorem zLp{K:A7}{x y:Str}{F:List (Str×Nat)}{J:It}{n:Nat}{te:TE}{σ:St}{Q:VK}{H1:Hp}(Pv:Nat->List V->Hp->Prop)(hn:n<=V9)(h0:Pv 0 [] H1)(hgo:∀i ys H,i<n->Pv i ys H->J.go i H)
  (hst:∀ys H,Pv n ys H->J.stop n H)
  (hs:∀i ys H z H2,i<n->ys...*<=i->Pv i ys H->J.yld i H z H2->∃a u v,z= .ref a/\SqT K H2 a [u,v]/\te (Y u::Y v::F.map (λp=>(σ[p.2]?).join)) H2 λr H4=>Pv (i+1) (ys++ [r]) H4)
  (hd:∀ys H,ys...*<=n->Pv n ys H->∀p,H p=none->Q (.ref p) (upd H p (.lst ys))):vA [x,y] F (g2 K) zBo te σ Q J H1:=by
 refine{λi m ys H=>m=n - i/\i<=n/\Pv i ys H,{n,by simp,mT _,h0}, ?_};rintro i m ys H ⟨rfl,hi,p⟩ hl
 by_cases hlt:i<n
 ·refine .inr {hgo i ys H hlt p,∅,Pv (i+1),λys' H'' q=>{n - (i+1),∅,O,hlt,q},λz H2 hz=>?_}
  refine yC (hs i ys H z H2 hlt hl p hz) λa u v r3_ hq ht=>?_;subst r3_;refine{a,[u,v],O,hq,O,u,[v],O,v,[],O,O, ?_};exact⟨zXe,ht⟩
 ·let e:i=n:=by lia
  subst e;exact .inl {hst ys H p,hn,hd ys H hl p}
theorem zNt{K:A7}{x y:Str}{F:List (Str×Nat)}{d:V1}{o:Obj}{kvs:List (Key×V)}{te:TE}{σ:St}{Q:VK}{H1:Hp}(Pv:Nat->List V->Hp->Prop)(hn:kvs...*<=V9)(h0:Pv 0 [] H1)(hz:∀i ys H,Pv i ys H->H d=Y (.frz o (.dK kvs)))
  (hs:∀i kv ys H p,kvs[i]? =Y kv->ys...*<=i->Pv i ys H->H p=none->te (Y (kV kv.1)::Y kv.2::F.map (λp=>(σ[p.2]?).join)) (upd H p (.tup [kV kv.1,kv.2])) λz H4=>Pv (i+1) (ys++ [z]) H4)
  (hd:∀ys H,ys...*<=kvs...*->Pv kvs...* ys H->∀p,H p=none->Q (.ref p) (upd H p (.lst ys))):vA [x,y] F (g2 K) zBo te σ Q (Iti d o kvs) H1:=
 zLp Pv hn h0 (λi ys H h p=>{h,hz i ys H p}) (λys H p=>{mB _,hz _ ys H p}) (λi ys H z H2 h1 h2 h3 h4=>by
  ext yA h4 p kv hp hkv r4_ r5_;subst r4_ r5_;exact{p,_,_,O, .of zC,hs i kv ys H p hkv h2 h3 hp}) hd
def Ite(K:A7)(l:V1):It:=
 {λi H=>∃xs x,SqL K H l xs/\xs[i]? =Y x,λi H y H'=>∃p x,H p=none/\y= .ref p/\(∀xs,SqL K H l xs->xs[i]? =Y x)/\H'=upd H p (.tup [.int i,x]),λi H=>∃xs,SqL K H l xs/\xs...*<=i}
theorem zQu{P:V3}{w:V4}{K:A7}{elts:List Expr}{x1:Nat}{pos:Pos}(l e it:V1)(hne:e≠it):
  zGy P w K (.Tuple elts x1 pos) (Ite K l) [e,it] e (λi h=>(∃old,IsEnum h e it (i:Int) old)/\h.IsListIter it l i) where
 mem:=by simp
 obj:=λi h st b hb=>by
  obtain⟨⟨old,he⟩,o,e1,c,d⟩:=st;rcases mI.mp hb with z | z
  ·subst z
   exact{_,he,λv z=>by cases z}
  ·let e':b=it:=by simpa using z
   subst e';exact{o,e1,λv z=>by rw[d] at z;cases z}
 keep:=λi h h' st k=>by
  obtain⟨⟨old,he⟩,st⟩:=st;exact⟨{old,k e (by simp) _ he},st.at λo q=>k it (by simp) o q⟩
 item:=by
  intro X hP hw hK hc i pins s σ H E I hf st hg;subst hP hw hK;obtain⟨⟨old,he⟩,st⟩:=st;ext wA hg xs x hq hx;refine xD (I.list hq) λits rv p hz=>?_;obtain⟨u,hu,ru⟩:=rv.get hx;let hle:e<s⁻¹:=nD he;let hli:it<s⁻¹:=by obtain⟨o,q,_⟩:=id st;exact nD q
  refine wpAny_pyNext_enum_item he st p.isList (x:=u) (by simpa using hu) hne λh1 so st1 ht hz1 keep=>{_,O, ?_};refine wpAny_letOwnedTupleGo_enum so λh2 st2 sb=>?_;let sb:Heap.SameBut e h1 h2:=sb;let ht2:h2.get? s⁻¹=some {cls:=.type "tuple",data:=.seq #[.int i s.toks,u]}:=(sb.2 _ (rJ hle)).trans ht;let hnew:H s⁻¹=none:=I.hok.fresh (mB _);refine{.ref s⁻¹,upd H s⁻¹ (.tup [.int i,x]),I.turnedNew (t':=s.toks+1) hf (λb ob hb q=>?_) (mB _) ?_,O,{_,x,hnew,O,λys hy=>by rw[I.list_inj hy hq];exact hx,O},{{u, ?_}, ?_},λb hb=>?_}
  ·let hb1:b≠e:=λz=>hb (by simp[z])
   let hb2:b≠it:=λz=>hb (by simp[z]);exact(sb.2 b hb1).trans (keep b ob hb1 hb2 q)
  ·exact{by rw[mQ];simp,[.int i s.toks,u], .cons ⟨_,O⟩ (.cons ru .nil),⟨_,ht2,O,_,O⟩}
  ·let:((i+1:Nat):Int)=(i:Int)+1:=by lia
   rw[this];exact st2
  ·exact st1.at λo q=>(sb.2 it (Ne.symm hne)).trans q
  ·rcases mI.mp hb with z | z
   ·subst z
    rw[zV (nX hle)];exact(hf _ (by simp)).1
   ·let e':b=it:=by simpa using z
    subst e';rw[zV (nX hli)];exact(hf _ (by simp)).1
 done:=by
  intro X hP hw hK hc i pins s σ H E I hf st hg;subst hP hw hK;obtain⟨⟨old,he⟩,st⟩:=st;obtain⟨xs,hq,hx⟩:=hg;refine xD (I.list hq) λits rv p hz=>?_;refine yR (hf it (by simp)) λf0 f1 f2 f3 f4 f5=>?_;let hl:=rv...*;exact wpAny_pyNext_enum_end (I.ok.hd hc) he st p.isList (by simp;lia) λh' eb=>{O,I.turned (t':=s.toks) (λb o hb e=>eb b o hb e) f0 f1 f3 f4 f5}
 self:=λ_ _ _ _ _ st h=>wpAny_pyIter_enum st.1.choose_spec h
def yBd(K:A7)(ta:TA):TI:=λσ H R=>ta σ H λvs H1=>∃l xs,vs= [.ref l]/\SqL K H1 l xs/\R (Ite K l) H1
theorem zIz:A2 "enumerate" =Y (.type "enumerate"):=by decide+kernel
theorem zOr{X:Cx}{elts:List Expr}{x1:Nat}{tpos:Pos}{a:Expr}{ta:TA}{p pos:Pos}(hg:Gl X "enumerate")(hm:X.mg "enumerate" =none)(ha:PA X [a] ta)(hs:A3 [a] X.env= [(false,eval a X.env)]:=by rfl):
  PI X (.Tuple elts x1 tpos) (.Call (.Name "enumerate" p) [a] [] pos) (yBd X.K ta):=by
 intro pins s σ H R I h;refine Call_ (gI I hg hm zIz (rC (thn (ha pos pins s σ H _ I h) λus s1 ⟨vs,H1,I1,r1,q1⟩=>?_) hs O));ext yN q1 l xs e hq q;subst e
 cases r1 with
 | cons r rr=>
  cases rr;cases r;refine xD (I1.list hq) λits rv pl hz=>?_;refine call_enumerate_list pl.isList λh' he st hz' keep=>?_;refine wpAny_pyIter_enum (it:=s1⁻¹) (i:=0) (old:=.none) he ?_;let hn0:H1 s1⁻¹=none:=I1.hok.fresh (mB _);let hn1:H1 (s1⁻¹+1)=none:=I1.hok.fresh (rO _);refine{s1⁻¹+1,[s1⁻¹+1,s1⁻¹],_,_,H1,O,I1.kept (t':=s1.toks) keep,zQu l _ _ (Nat.succ_ne_self _),{{.none,he},st},λb hb=>?_,q};rcases mI.mp hb with z | z
  ·subst z;exact I1.fpOk (rO _) hn1
  ·let e':b=s1⁻¹:=by simpa using z
   subst e';exact I1.fpOk (mB _) hn0
theorem zQz{K:A7}{x y:Str}{F:List (Str×Nat)}{l:V1}{xs:List V}{te:TE}{σ:St}{Q:VK}{H1:Hp}(Pv:Nat->List V->Hp->Prop)(hn:xs...*<=V9)(h0:Pv 0 [] H1)(hz:∀i ys H,i<=xs...*->Pv i ys H->SqL K H l xs)
  (hs:∀i v ys H p,xs[i]? =Y v->ys...*<=i->Pv i ys H->H p=none->te (Y (.int i)::Y v::F.map (λp=>(σ[p.2]?).join)) (upd H p (.tup [.int i,v])) λz H4=>Pv (i+1) (ys++ [z]) H4)
  (hd:∀ys H,ys...*<=xs...*->Pv xs...* ys H->∀p,H p=none->Q (.ref p) (upd H p (.lst ys))):vA [x,y] F (g2 K) zBo te σ Q (Ite K l) H1:=
 zLp Pv hn h0 (λi ys H h p=>{xs,xs[i],hz i ys H (aA h) p,by simp[h]}) (λys H p=>{xs,hz _ ys H (mB _) p,mB _}) (λi ys H z H2 h1 h2 h3 h4=>by
  ext yA h4 p v hp r3_ hv r5_;subst r3_ r5_;exact{p,_,_,O, .of zC,hs i v ys H p (hv xs (hz i ys H (aA h1) h3)) h2 h3 hp}) hd
noncomputable def tyR(H:Hp):V->Option String
 | .ref a=>match H a with
  | some (.frz _ (.dK _))=>some "dict"
  | _=>tyS H (.ref a)
 | v=>tyS H v
theorem zYc{H:Hp}{x:V}{t:String}(h:tyR H x=Y t):t∈tyL:=by
 cases x with
 | ref a=>
  let h':(match H a with | some (.frz _ (.dK _))=>some "dict" | _=>tyS H (.ref a))=Y t:=h
  split at h'
  ·cases h';simp[tyL]
  ·exact qG h'
 | non=>exact qG (H:=H) (show tyS H .non=Y t from h)
 | bl b=>exact qG (H:=H) (show tyS H (.bl b)=Y t from h)
 | int b=>exact qG (H:=H) (show tyS H (.int b)=Y t from h)
 | str b=>exact qG (H:=H) (show tyS H (.str b)=Y t from h)
 | byt b=>exact qG (H:=H) (show tyS H (.byt b)=Y t from h)
 | flt b=>exact qG (H:=H) (show tyS H (.flt b)=Y t from h)
 | ty b=>exact qG (H:=H) (show tyS H (.ty b)=Y t from h)
theorem zNk{H:Hp}{x:V}{t:String}(h:tyS H x=Y t):tyR H x=Y t:=by
 cases x with
 | ref a=>
  show(match H a with | some (.frz _ (.dK _))=>some "dict" | _=>tyS H (.ref a))=Y t
  split
  ·rename_i o kvs e
   let h':(match H a with | some (.lst _)=>some "list" | some (.tup _)=>some "tuple" | some (.dK _)=>some "dict" | _=>none)=Y t:=h
   rw[e] at h';cases h'
  ·exact h
 | _=>exact h
theorem yAp{H:Hp}{a:V1}{ps:List (Key×V)}(h:Rd H a (.dK ps)):tyR H (.ref a)=some "dict":=by
 rcases h with h |⟨o,h⟩
 ·exact zNk (jW h)
 ·show(match H a with | some (.frz _ (.dK _))=>some "dict" | _=>tyS H (.ref a))=some "dict"
  rw[h]
section
variable{X:Cx}
theorem kG{T:String}(hT:T∈tyL):wV X (.builtin "isinstance") (λxs H Q=>∃x t,xs= [x, .ty T]/\tyR H x=Y t/\Q (.bl (zT t T)) H):=by
 intro pins s σ H xs us Q I r h;ext yN h x t r2_ ht q;subst r2_
 cases x with
 | ref a=>
  let h':(match H a with | some (.frz _ (.dK _))=>some "dict" | _=>tyS H (.ref a))=Y t:=ht
  split at h'
  ·rename_i o kvs e
   cases h';refine yN (zDu r) λu w' r2_ ru rw'=>?_;subst r2_;cases (show w'=Value.type T from rw');cases (show u=Value.ref a from ru);obtain⟨_,_,vs,_,p⟩:=kP I.hok (.inr ⟨o,e⟩);ext yC p ob es ep h1 h2 _;exact sW cB I.kIn ⟨ob,h1,h2.1⟩ (zDc (by simp[tyL]) hT) (λz=>nomatch z) λtk=>{.bl _,H,I.tok _,O,q}
  ·exact zGs hT pins s σ H _ us Q I r ⟨_,t,O,h',q⟩
 | _=>exact zGs hT pins s σ H _ us Q I r ⟨_,t,O,ht,q⟩
theorem zDd:wV X (.builtin "len") (λxs H Q=>∃a kvs,xs= [V.ref a]/\Rd H a (.dK kvs)/\Q (.int kvs...*) H):=by
 intro pins s σ H xs us Q I r h;ext yN h a kvs r2_ ha q;subst r2_;obtain⟨u,rfl,ru⟩:=jC r;cases ru;exact yBr I ha λt s' I'=>{.int kvs...*,H,I',⟨t,O⟩,q}
end
mutual
def Rp(H:Hp):V->T->Prop
 | v, .non=>v= .non
 | v, .bl b=>v= .bl b
 | v, .int i=>v= .int i
 | v, .str x=>v= .str (tx x)
 | v, .lst ts=>∃a vs,v= .ref a/\H a=Y (.lst vs)/\Rps H vs ts
 | v, .dic ks ts=>∃a ps,v= .ref a/\Rd H a (.dK ps)/\ps.map (·.1)=ks.map (λk=>(Sum.inr (tx k):Key))/\Rps H (ps.map (·.2)) ts
 | v, .tup ts=>∃a vs,v= .ref a/\H a=Y (.tup vs)/\Rps H vs ts
def Rps(H:Hp):List V->List T->Prop
 | vs,[]=>vs= []
 | vs,t::ts=>∃v r,vs=v::r/\Rp H v t/\Rps H r ts
end
mutual
theorem Rp.mono{H H':Hp}(e:∀b xs,H b=Y (.lst xs)->H' b=Y (.lst xs))(e2:∀b xs,H b=Y (.tup xs)->H' b=Y (.tup xs))(e3:∀b ps,Rd H b (.dK ps)->Rd H' b (.dK ps)):∀(v:V)(t:T),Rp H v t->Rp H' v t
 | _, .non,h=>h
 | _, .bl _,h=>h
 | _, .int _,h=>h
 | _, .str _,h=>h
 | _, .lst ts,⟨a,vs,h1,h2,h3⟩=>{a,vs,h1,e _ _ h2,Rps.mono e e2 e3 vs ts h3}
 | _, .dic ks ts,⟨a,ps,h1,h2,h3,h4⟩=>{a,ps,h1,e3 _ _ h2,h3,Rps.mono e e2 e3 _ ts h4}
 | _, .tup ts,⟨a,vs,h1,h2,h3⟩=>{a,vs,h1,e2 _ _ h2,Rps.mono e e2 e3 vs ts h3}
theorem Rps.mono{H H':Hp}(e:∀b xs,H b=Y (.lst xs)->H' b=Y (.lst xs))(e2:∀b xs,H b=Y (.tup xs)->H' b=Y (.tup xs))(e3:∀b ps,Rd H b (.dK ps)->Rd H' b (.dK ps)):∀(vs:List V)(ts:List T),Rps H vs ts->Rps H' vs ts
 | _,[],h=>h
 | _,t::ts,⟨v,r,h1,h2,h3⟩=>{v,r,h1,Rp.mono e e2 e3 v t h2,Rps.mono e e2 e3 r ts h3}
end
theorem Rd.same{H H':Hp}(g:Same H H'){a:V1}{u:HO}(h:Rd H a u):Rd H' a u:=h.imp (g _ _) fun⟨o,e⟩=>{o,g _ _ e}
theorem Rp.same{H H':Hp}(g:Same H H')(v:V)(t:T)(h:Rp H v t):Rp H' v t:=Rp.mono (λb xs=>g b _) (λb xs=>g b _) (λb ps h=>h.same g) v t h
theorem Rps.same{H H':Hp}(g:Same H H')(v:List V)(t:List T)(h:Rps H v t):Rps H' v t:=Rps.mono (λb xs=>g b _) (λb xs=>g b _) (λb ps h=>h.same g) v t h
theorem Rd.frz{H:Hp}{d:V1}{o:Obj}{ps:List (Key×V)}(hd:H d=Y (.dK ps)){b:V1}{qs:List (Key×V)}(h:Rd H b (.dK qs)):Rd (upd H d (.frz o (.dK ps))) b (.dK qs):=by
 by_cases e:b=d
 ·subst e
  rcases h with h |⟨o',h⟩
  ·rw[hd] at h;cases h
   exact .inr ⟨o,zC⟩
  ·rw[hd] at h;cases h
 ·exact h.imp (λh=>by rw[zV e];exact h) fun⟨o',h⟩=>{o',by rw[zV e];exact h}
theorem Rps.frz{H:Hp}{d:V1}{o:Obj}{ps:List (Key×V)}(hd:H d=Y (.dK ps))(v:List V)(t:List T)(h:Rps H v t):Rps (upd H d (.frz o (.dK ps))) v t:=
 Rps.mono (λb xs e=>by rw[zV λz=>by rw[z,hd] at e;cases e];exact e) (λb xs e=>by rw[zV λz=>by rw[z,hd] at e;cases e];exact e) (λb qs h=>Rd.frz hd h) v t h
mutual
theorem Rep.rp{H:Hp}:∀(v:V)(t:T),Rep H v t->Rp H v t
 | _, .non,h=>h
 | _, .bl _,h=>h
 | _, .int _,h=>h
 | _, .str _,h=>h
 | _, .lst ts,⟨a,vs,h1,h2,h3⟩=>{a,vs,h1,h2,Reps.rp vs ts h3}
 | _, .dic ks ts,⟨a,ps,h1,h2,h3,h4⟩=>{a,ps,h1, .inl h2,h3,Reps.rp _ ts h4}
 | _, .tup ts,⟨a,vs,h1,h2,h3⟩=>{a,vs,h1,h2,Reps.rp vs ts h3}
theorem Reps.rp{H:Hp}:∀(vs:List V)(ts:List T),Reps H vs ts->Rps H vs ts
 | _,[],h=>h
 | _,t::ts,⟨v,r,h1,h2,h3⟩=>{v,r,h1,Rep.rp v t h2,Reps.rp r ts h3}
end
theorem Rps.length{H:Hp}:∀{vs:List V}{ts:List T},Rps H vs ts->vs...*=ts...*
 | _,[],e=>by
  let e':_= []:=e;subst e';rfl
 | _,t'::ts,⟨v',r,h1,h2,h3⟩=>by
  subst h1;simp[Rps.length h3]
theorem Rps.get{H:Hp}:∀{vs:List V}{ts:List T}{i:Nat}{v:V},Rps H vs ts->vs[i]? =Y v->∃t,ts[i]? =Y t/\Rp H v t
 | _,[],i,v,e,h=>by
  let e':_= []:=e;subst e';simp at h
 | _,t'::ts,0,v,⟨v',r,h1,h2,h3⟩,h=>by
  subst h1;simp at h;subst h;exact⟨t',O,h2⟩
 | _,t'::ts,i+1,v,⟨v',r,h1,h2,h3⟩,h=>by
  subst h1;obtain⟨t,e,q⟩:=Rps.get (i:=i) (v:=v) h3 (by simpa using h);exact{t,by simpa using e,q}
theorem Rp.ty{H:Hp}{v:V}:∀{t:T},Rp H v t->tyR H v=Y (tyT t)
 | .non,h=>by cases (show v= .non from h);rfl
 | .bl b,h=>by cases (show v= .bl b from h);rfl
 | .int i,h=>by cases (show v= .int i from h);rfl
 | .str x,h=>by cases (show v= .str (tx x) from h);rfl
 | .lst ts,h=>by obtain⟨a,vs,e,h2,_⟩:=h;subst e;exact zNk (vX h2)
 | .dic ks ts,h=>by obtain⟨a,vs,e,h2,_⟩:=h;subst e;exact yAp h2
 | .tup ts,h=>by obtain⟨a,vs,e,h2,_⟩:=h;subst e;exact zNk (zKk h2)
theorem Rp.at_name{H:Hp}{ps:List (Key×V)}{ks:List (List Nat)}{us:List T}(nk:ks.Nodup)(hk:ps.map (·.1)=ks.map λk=>(Sum.inr (tx k):Key))(hs:Rps H (ps.map (·.2)) us){k:List Nat}(hm:k∈ks):
  ∃v,jH ps (Sum.inr (tx k))=Y v/\Rp H v (zJ k ks us):=by
 obtain⟨j,hj⟩:=aF.mp hm;let hp:(ps.map (·.1))[j]? =Y (Sum.inr (tx k):Key):=by rw[hk,mW,hj];rfl
 rw[mW] at hp
 cases hpj:ps[j]? with
 | none=>rw[hpj] at hp;cases hp
 | some kv=>
  rw[hpj] at hp;let ek:kv.1=(Sum.inr (tx k):Key):=mM hp;let hpj':ps[j]? =Y ((Sum.inr (tx k):Key),kv.2):=by rw[hpj,<-ek]
  obtain⟨t,ht,hr⟩:=hs.get (i:=j) (v:=kv.2) (by rw[mW,hpj];rfl);refine{kv.2,uJ (by rw[hk];exact qY nk) hpj', ?_};rw[jT nk hj ht];exact hr
theorem zBc{k:Key}:∀{ps:List (Key×V)},k∉ps.map (·.1)->jH ps k=none
 | [],_=>rfl
 | p::ps,h=>by
  rw[zAo λe=>h (by simp[e])];exact zBc λz=>h (mE _ z)
theorem zBr:∀(xs ys:List C),qA xs ys=0↔xs...*=ys...*/\∀(i:Nat) x y,xs[i]? =Y x->ys[i]? =Y y->xY x y=0
 | [],[]=>{λ_=>{O,λi x y h=>by simp at h},λ_=>by rw[qA]}
 | [],_::_=>{λh=>absurd h (by rw[qA];decide),λh=>absurd h.1 (by simp)}
 | _::_,[]=>{λh=>absurd h (by rw[qA];decide),λh=>absurd h.1 (by simp)}
 | x::xs,y::ys=>by
  rw[uE];let ih:=zBr xs ys;constructor
  ·intro h
   by_cases hz:xY x y=0
   ·rw[mO hz] at h
    obtain⟨h1,h2⟩:=ih.mp h;refine{by simp[h1],λi a b ha hb=>?_}
    cases i with
    | zero=>simp at ha hb;rw[<-ha,<-hb];exact hz
    | succ i=>exact h2 i a b (by simpa using ha) (by simpa using hb)
   ·rw[mL hz] at h;exact absurd h hz
  ·rintro⟨h1,h2⟩
   let hz:=h2 0 x y O O;rw[mO hz];exact ih.mpr {by simpa using h1,λi a b ha hb=>h2 (i+1) a b (by simpa using ha) (by simpa using hb)}
theorem zDt:∀{ks ks':List (List Nat)},ks.Nodup->(∀k∈ks,k∈ks')->ks'...*=ks...*->ks.Perm ks'
 | [],ks',_,_,h=>by cases ks' with | nil=>exact .nil | cons _ _=>cases h
 | k::ks,ks',hn,hs,hl=>by
  obtain⟨h1,h2⟩:=nZ.mp hn;let hk:=hs k mG;let p:=List.perm_cons_erase hk;refine .trans (.cons k (zDt h2 (λj hj=>?_) ?_)) p.symm
  ·exact(List.mem_erase_of_ne λz=>h1 (by rw[<-z];exact hj)).mpr (hs j (mE _ hj))
  ·rw[List.length_erase_of_mem hk,hl];rfl
theorem zBa(a b:List Nat):zXw a b=0↔a=b:=by
 unfold zXw;constructor
 ·intro h
  by_cases h1:b<a
  ·by_cases h2:a<b
   ·exact absurd (List.lt_trans h1 h2) (List.lt_irrefl _)
   ·rw[mO h1,mL h2] at h;cases h
  ·by_cases h2:a<b
   ·rw[mL h1,mO h2] at h;cases h
   ·exact zKw (by unfold leK;simp[h1]) (by unfold leK;simp[h2])
 ·intro h
  subst h;rw[mL (List.lt_irrefl _)];rfl
theorem zPq{xs ys:List C}:xY (.row xs) (.row ys)=qA xs ys:=by rw[xY]
theorem yAk{xs ys:List C}:xY (.rcd xs) (.rcd ys)=qA xs ys:=by rw[xY]
theorem zJn{x y:List Nat}:xY (.str x) (.str y)=zXw x y:=by rw[xY]
theorem zMc(k k':List Nat)(c c':C):xY (.row [.str k,c]) (.row [.str k',c'])=0↔k=k'/\xY c c'=0:=by
 rw[zPq,uE,zJn]
 by_cases h:zXw k k'=0
 ·rw[mO h,uE]
  by_cases h2:xY c c'=0
  ·rw[mO h2]
   exact{λ_=>{(zBa k k').mp h,h2},λ_=>by rw[qA]}
  ·rw[mL h2]
   exact{λz=>absurd z h2,λz=>absurd z.2 h2}
 ·rw[mL h]
  exact{λz=>absurd z h,λz=>absurd ((zBa k k').mpr z.1) h}
theorem zEl(us ws:List T):xY (zZ (.lst us)) (zZ (.lst ws))=0↔us...*=ws...*/\∀(i:Nat) t t',us[i]? =Y t->ws[i]? =Y t'->xY (zZ t) (zZ t')=0:=by
 show xY (.row (xP us)) (.row (xP ws))=0↔_;rw[zPq,zBr,vQ,vQ];refine bT λhl=>{λh i t t' h1 h2=>h i _ _ (uB h1) (uB h2),λh i x y h1 h2=>?_};rw[kM,mW] at h1 h2
 cases e1:us[i]? with
 | none=>rw[e1] at h1;cases h1
 | some t=>
  cases e2:ws[i]? with
  | none=>rw[e2] at h2;cases h2
  | some t'=>
   rw[e1] at h1;rw[e2] at h2;cases h1;cases h2;exact h i t t' e1 e2
theorem zEq{ks ks':List (List Nat)}{us us':List T}(nk:ks.Nodup):xY (zZ (.dic ks us)) (zZ (.dic ks' us'))=0↔ks...*=ks'...*/\∀k∈ks,k∈ks'/\xY (zZ (zJ k ks us)) (zZ (zJ k ks' us'))=0:=by
 show xY (.rcd ((yQ ks).map λk=>.row [.str k,zGd k ks (xP us)])) (.rcd ((yQ ks').map λk=>.row [.str k,zGd k ks' (xP us')]))=0↔_;let l1:(yQ ks)...*=ks...*:=(yT ks).length_eq;let l2:(yQ ks')...*=ks'...*:=(yT ks').length_eq;rw[yAk,zBr,mC,mC,l1,l2];refine bT λhl=>?_;constructor
 ·intro h k hk
  obtain⟨i,hi⟩:=aF.mp (mem_sortK.mpr hk);let hlt:i<(yQ ks')...*:=by let:=(mP.mp hi).1;lia
  let h2:(yQ ks')[i]? =some (yQ ks')[i]:=by simp[hlt]
  let z:=h i _ _ (by rw[mW,hi];rfl) (by rw[mW,h2];rfl);obtain⟨e,z⟩:=(zMc _ _ _ _).mp z;let hm:k∈ks':=by rw[e];exact mem_sortK.mp (tI hlt)
  refine{hm, ?_};rw[jF,jF];rw[<-e] at z;exact z
 ·intro h i x y h1 h2
  let hp:ks.Perm ks':=zDt nk (λk hk=>(h k hk).1) hl.symm;let es:yQ ks=yQ ks':=zBp ((yT ks).trans (hp.trans (yT ks').symm)) (uC ks) (uC ks');rw[<-es] at h2;rw[mW] at h1 h2
  cases e:(yQ ks)[i]? with
  | none=>rw[e] at h1;cases h1
  | some k=>
   rw[e] at h1 h2;cases h1;cases h2;let hk:=mem_sortK.mp (mF e);let z:=(h k hk).2;rw[jF,jF] at z;exact(zMc _ _ _ _).mpr ⟨O,z⟩
theorem zPl{X:Cx}{K:A7}(hK:X.K=K){es:List Expr}{k:Nat}{pos:Pos}{t:TGs}{n:Nat}(hc:X.calm=true)(h:PGs X es t)
  (hn:(S7 es X.env)...*=n:=by rfl) (hst:(S7 es X.env).findIdx? (·.1)=none:=by rfl):PG X (.Tuple es k pos) (zWl K n t):=by subst hK;exact zNe hc h hn hst
structure Bl4(mg:Str->Option V0):Prop extends Bl2 mg where
 enumerate:mg "enumerate" =none
mutual
def Sp1(H:Hp):V->T->List V1->Prop
 | v, .non,D=>D= []/\v= .non
 | v, .bl b,D=>D= []/\v= .bl b
 | v, .int i,D=>D= []/\v= .int i
 | v, .str x,D=>D= []/\v= .str (tx x)
 | v, .lst ts,D=>∃a vs D',v= .ref a/\H a=Y (.lst vs)/\D=a::D'/\a∉D'/\Sps H vs ts D'
 | v, .dic ks ts,D=>∃a ps D',v= .ref a/\H a=Y (.dK ps)/\ps.map (·.1)=ks.map (λk=>(Sum.inr (tx k):Key))/\D=a::D'/\a∉D'/\Sps H (ps.map (·.2)) ts D'
 | v, .tup ts,D=>∃a vs D',v= .ref a/\H a=Y (.tup vs)/\D=a::D'/\a∉D'/\Sps H vs ts D'
def Sps(H:Hp):List V->List T->List V1->Prop
 | vs,[],D=>vs= []/\D= []
 | vs,t::ts,D=>∃v r D1 D2,vs=v::r/\D=D1++D2/\Sp1 H v t D1/\Sps H r ts D2/\∀b∈D1,b∉D2
end
mutual
theorem Sp1.rep{H:Hp}:∀(v:V)(t:T)(D:List V1),Sp1 H v t D->Rep H v t
 | _, .non,_,h=>h.2
 | _, .bl _,_,h=>h.2
 | _, .int _,_,h=>h.2
 | _, .str _,_,h=>h.2
 | _, .lst ts,_,⟨a,vs,D',h1,h2,_,_,h3⟩=>{a,vs,h1,h2,Sps.rep vs ts D' h3}
 | _, .dic ks ts,_,⟨a,ps,D',h1,h2,h3,_,_,h4⟩=>{a,ps,h1,h2,h3,Sps.rep _ ts D' h4}
 | _, .tup ts,_,⟨a,vs,D',h1,h2,_,_,h3⟩=>{a,vs,h1,h2,Sps.rep vs ts D' h3}
theorem Sps.rep{H:Hp}:∀(vs:List V)(ts:List T)(D:List V1),Sps H vs ts D->Reps H vs ts
 | _,[],_,h=>h.1
 | _,t::ts,_,⟨v,r,D1,D2,h1,_,h2,h3,_⟩=>{v,r,h1,Sp1.rep v t D1 h2,Sps.rep r ts D2 h3}
end
mutual
theorem Sp1.keep{H H':Hp}:∀(v:V)(t:T)(D:List V1),(∀b∈D,∀o,(∀ob u,o≠HO.frz ob u)->H b=Y o->H' b=Y o)->Sp1 H v t D->Sp1 H' v t D
 | _, .non,_,_,h=>h
 | _, .bl _,_,_,h=>h
 | _, .int _,_,_,h=>h
 | _, .str _,_,_,h=>h
 | _, .lst ts,_,k,⟨a,vs,D',h1,h2,e,n,h3⟩=>{a,vs,D',h1,k a (by rw[e];exact mG) _ (by intro ob u z;cases z) h2,e,n,Sps.keep vs ts D' (λb hb=>k b (by rw[e];exact mE _ hb)) h3}
 | _, .dic ks ts,_,k,⟨a,ps,D',h1,h2,h3,e,n,h4⟩=>{a,ps,D',h1,k a (by rw[e];exact mG) _ (by intro ob u z;cases z) h2,h3,e,n,Sps.keep _ ts D' (λb hb=>k b (by rw[e];exact mE _ hb)) h4}
 | _, .tup ts,_,k,⟨a,vs,D',h1,h2,e,n,h3⟩=>{a,vs,D',h1,k a (by rw[e];exact mG) _ (by intro ob u z;cases z) h2,e,n,Sps.keep vs ts D' (λb hb=>k b (by rw[e];exact mE _ hb)) h3}
theorem Sps.keep{H H':Hp}:∀(vs:List V)(ts:List T)(D:List V1),(∀b∈D,∀o,(∀ob u,o≠HO.frz ob u)->H b=Y o->H' b=Y o)->Sps H vs ts D->Sps H' vs ts D
 | _,[],_,_,h=>h
 | _,t::ts,_,k,⟨v,r,D1,D2,h1,e,h2,h3,n⟩=>{v,r,D1,D2,h1,e,Sp1.keep v t D1 (λb hb=>k b (by rw[e];exact nW _ hb)) h2,Sps.keep r ts D2 (λb hb=>k b (by rw[e];exact nJ _ hb)) h3,n}
end
mutual
theorem Sp1.there{H:Hp}{b:V1}:∀(v:V)(t:T)(D:List V1),Sp1 H v t D->b∈D->∃o,H b=Y o
 | _, .non,_,h,hb=>by rw[h.1] at hb;cases hb
 | _, .bl _,_,h,hb=>by rw[h.1] at hb;cases hb
 | _, .int _,_,h,hb=>by rw[h.1] at hb;cases hb
 | _, .str _,_,h,hb=>by rw[h.1] at hb;cases hb
 | _, .lst ts,_,⟨a,vs,D',h1,h2,e,n,h3⟩,hb=>by
  rw[e] at hb;rcases mI.mp hb with z | z
  ·exact{_,by rw[z];exact h2}
  ·exact Sps.there vs ts D' h3 z
 | _, .dic ks ts,_,⟨a,ps,D',h1,h2,h3,e,n,h4⟩,hb=>by
  rw[e] at hb;rcases mI.mp hb with z | z
  ·exact{_,by rw[z];exact h2}
  ·exact Sps.there _ ts D' h4 z
 | _, .tup ts,_,⟨a,vs,D',h1,h2,e,n,h3⟩,hb=>by
  rw[e] at hb;rcases mI.mp hb with z | z
  ·exact{_,by rw[z];exact h2}
  ·exact Sps.there vs ts D' h3 z
theorem Sps.there{H:Hp}{b:V1}:∀(vs:List V)(ts:List T)(D:List V1),Sps H vs ts D->b∈D->∃o,H b=Y o
 | _,[],_,h,hb=>by rw[h.2] at hb;cases hb
 | _,t::ts,_,⟨v,r,D1,D2,h1,e,h2,h3,n⟩,hb=>by
  rw[e] at hb;rcases mX.mp hb with z | z
  ·exact Sp1.there v t D1 h2 z
  ·exact Sps.there r ts D2 h3 z
end
theorem Sp1.same{H H':Hp}(g:Same H H'){v:V}{t:T}{D:List V1}(h:Sp1 H v t D):Sp1 H' v t D:=Sp1.keep v t D (λb _ o _ e=>g b o e) h
theorem Sps.same{H H':Hp}(g:Same H H'){v:List V}{t:List T}{D:List V1}(h:Sps H v t D):Sps H' v t D:=Sps.keep v t D (λb _ o _ e=>g b o e) h
theorem Sps.snoc{H:Hp}{v:V}{t:T}{D1:List V1}(h:Sp1 H v t D1):∀{vs:List V}{ts:List T}{D:List V1},Sps H vs ts D->(∀b∈D,b∉D1)->Sps H (vs++ [v]) (ts++ [t]) (D++D1)
 | _,[],D,e,_=>by
  obtain⟨e1,e2⟩:=e;subst e1 e2;exact{v,[],D1,[],O,by simp,h,⟨O,O⟩,λ_ _ z=>nomatch z}
 | _,t'::ts,D,⟨v',r,E1,E2,h1,e,h2,h3,n⟩,hd=>by
  subst h1 e;refine{v',r++ [v],E1,E2++D1,O,by simp,h2,Sps.snoc h h3 λb hb=>hd b (nJ _ hb),λb hb z=>?_};rcases mX.mp z with c | c
  ·exact n b hb c
  ·exact hd b (nW _ hb) c
theorem Sps.length{H:Hp}{vs:List V}{ts:List T}{D:List V1}(h:Sps H vs ts D):vs...*=ts...*:=(Sps.rep vs ts D h)...*
def Keep(D:List V1)(H H':Hp):Prop:=∀b o,b∉D->H b=Y o->H' b=Y o
theorem Keep.refl{D:List V1}{H:Hp}:Keep D H H:=λ_ _ _ h=>h
theorem Keep.trans{D:List V1}{H H1 H2:Hp}(a:Keep D H H1)(b:Keep D H1 H2):Keep D H H2:=λc o h e=>b c o h (a c o h e)
theorem Keep.mono{D D':List V1}{H H':Hp}(h:Keep D H H')(s:∀b∈D,b∈D'):Keep D' H H':=λb o hb e=>h b o (λz=>hb (s b z)) e
theorem Keep.of{D:List V1}{H H':Hp}(g:Same H H'):Keep D H H':=λb o _ e=>g b o e
theorem Keep.put{D:List V1}{H H':Hp}{a:V1}(o:HO)(h:Keep D H H')(ha:a∈D):Keep D H (upd H' a o):=λb u hb e=>by
 rw[zV λz=>hb (by rw[z];exact ha)];exact h b u hb e
theorem Keep.old{D:List V1}{H0 H H':Hp}(h:Keep D H H')(g:Same H0 H)(hf:∀b∈D,H0 b=none):Same H0 H':=λb o e=>h b o (λz=>by rw[hf b z] at e;cases e) (g b o e)
theorem zR{H H':Hp}(g:Same H H'){p:V1}(h:H' p=none):H p=none:=by
 cases e:H p with
 | none=>rfl
 | some o=>rw[g _ _ e] at h;cases h
theorem Sps.thaw{H H':Hp}{vs:List V}{ts:List T}{D:List V1}(h:Sps H' vs ts D):Sps (L2.thaw H H') vs ts D:=Sps.keep vs ts D (λ_ _ _ n e=>wS e n) h
section
variable{prog:V3}{w:V4}{A:Around}{E:V0->V2->Prop}{s:V2}
end
section
variable{X:Cx}
end
section
variable{X:Cx}{a:Expr}{ta:TE}
end
inductive U where
 | leaf (v:V)| lst (us:List U)| dic (ks:List Key) (us:List U)
mutual
noncomputable def U.sz:U->Nat
 | .leaf _=>1
 | .lst us=>U.szs us+1
 | .dic _ us=>U.szs us+1
noncomputable def U.szs:List U->Nat
 | []=>0
 | u::us=>U.sz u+U.szs us
end
mutual
noncomputable def U.dep:U->Nat
 | .leaf _=>0
 | .lst us=>U.deps us+1
 | .dic _ us=>U.deps us+1
noncomputable def U.deps:List U->Nat
 | []=>0
 | u::us=>max (U.dep u) (U.deps us)
end
mutual
def U.ok:U->Prop
 | .leaf v=>∀x,v= .str x->x...*<=1000
 | .lst us=>U.oks us
 | .dic ks us=>ks.Nodup/\ks...*=us...*/\(∀x,Sum.inr x∈ks->x...*<=1000)/\U.oks us
def U.oks:List U->Prop
 | []=>True
 | u::us=>U.ok u/\U.oks us
end
section
variable{X:Cx}{pins:List (V1×Obj)}{σ:St}{H:Hp}{s:V2}
theorem zHk:OpR X (A4 .LtE) (λx y H Q=>∃i j,x= .str i/\y= .str j/\Q (.bl (!decide (ts j<ts i))) H):=by
 intro pins s σ H x y v u Q I rx ry h;ext yN h i j r2_ r3_ q;subst r2_ r3_;obtain⟨t,rfl⟩:=rx;obtain⟨t',rfl⟩:=ry;exact PySem.P.le_str (xE I q O)
theorem zOc{T W:String}(hT:T∈tyL)(hU:W∈tyL):wV X (.builtin "isinstance") (λxs H Q=>∃x t p,xs= [x, .ref p]/\H p=Y (.tup [.ty T, .ty W])/\tyR H x=Y t/\Q (.bl (zT t T || zT t W)) H):=by
 intro pins s σ H xs us Q I r h;ext yC h x t p r3_ hp z_;ext oA z_ ht q;subst r3_
 cases x with
 | ref a=>
  let h':(match H a with | some (.frz _ (.dK _))=>some "dict" | _=>tyS H (.ref a))=Y t:=ht
  split at h'
  ·rename_i o kvs e
   cases h';refine yN (zDu r) λu w' r2_ ru rw'=>?_;subst r2_;cases (show w'=Value.ref p from rw');cases (show u=Value.ref a from ru);obtain⟨_,_,vs,_,pp⟩:=kP I.hok (.inr ⟨o,e⟩);ext yC pp ob es ep h1 h2 _;obtain⟨_,its,rv,pl⟩:=(show ObjOk X.prog X.w H s.heap p (.tup [.ty T, .ty W]) from I.hok p _ hp);refine yN (zDu rv) λv1 v2 ee r1 r2=>?_;subst ee;cases (show v1=Value.type T from r1);cases (show v2=Value.type W from r2);obtain⟨o2,ho,hc,n,hd⟩:=pl;obtain⟨oc,od,odt,osl⟩:=o2;cases (show oc=Value.type "tuple" from hc);cases (show odt=Data.seq _ n from hd);refine PySem.W.kia_tup PySem.W.kitx_dict I.kIn ⟨ob,h1,h2.1⟩ ho (b:=zT "dict" T || zT "dict" W) ?_ (λz=>nomatch z) λtk=>{.bl _,H,I.tok _,O,q}
   let k1:=zDc (K:=X.K) (t:="dict") (by simp[tyL]) hT;let k2:=zDc (K:=X.K) (t:="dict") (by simp[tyL]) hU;simp only[PySem.W.kitAny,k1,k2];cases zT "dict" T<;>cases zT "dict" W<;>rfl
  ·exact qL hT hU pins s σ H _ us Q I r ⟨_,t,p,O,hp,h',q⟩
 | _=>exact qL hT hU pins s σ H _ us Q I r ⟨_,t,p,O,hp,ht,q⟩
end
section
variable{X:Cx}{o:Expr}{to:TE}{name:Str}{apos cpos:Pos}{id:String}{r:V->List V->Hp->VK->Prop}
def tBMR(r:V->List V->Hp->VK->Prop)(to:TE):TE:=λσ H Q=>to σ H λx H1=>(∃p kvs,x= .ref p/\Rd H1 p (.dK kvs))/\r x [] H1 Q
theorem yEj(pa:PlainAttrs "dict")(slot:Slot "dict" name id)(hty:typeOf (.builtin id)=pure (.type "method_descriptor"))(hm:MtR X id r)(ho:PE X o to)
  (hbase:attributeBase o name X.env (eval o X.env)=eval o X.env:=by rfl) (hline:(apos.endLine==cpos.line)=true:=by rfl):PE X (.Call (.Attribute o name apos) [] [] cpos) (tBMR r to):=by
 intro pins s σ H Q I h;refine wpAny_Call_method0_late hbase hline (thn (ho pins s σ H _ I h) λv s1 {x,H1,I1,r1,⟨p,kvs,ex,hp⟩,q1}=>?_);subst ex;cases r1;obtain⟨_,_,_,_,ob,_,_,e,ex,_⟩:=kP I1.hok hp;refine{"dict",id,pa,slot,hty,⟨ob,e,ex.1⟩,(λa e2=>by cases e2;exact⟨ob,e,ex.2.1⟩),sT O (PySem.evalArgs_none (hm pins s1 σ H1 (.ref p) [] (.ref p) [] Q I1 O .nil q1))}
end
structure Bl5(mg:Str->Option V0):Prop extends Bl2 mg where
 abs:mg "abs" =none
 ord:mg "ord" =none
section
variable{X:Cx}{pins:List (V1×Obj)}{σ:St}{H:Hp}{s:V2}{h':V5}
theorem Inv.turnedFp{fp:List V1}{t':Nat}(I:Inv X pins σ H s)(hf:∀b∈fp,zEc X pins H b)(k:∀b ob,b∉fp->s.heap.get? b=Y ob->h'.get? b=Y ob):Inv X pins σ H {s with heap:=h',toks:=t'}:=by
 let nfp:∀b u,H b=Y u->b∉fp:=λb u e z=>by rw[(hf b z).1] at e;cases e
 refine I.step (g':=s.gens) (d':=s.drawn) (ch:=fp) (λb hb=>?_) (λb ob _ _ hc e _=>k b ob hc e) (λb ob _ _ hc e _=>{ob.slots,k b ob hc e}) (λ_ _ _ _ n=>n)
  (λb ob hc e=>{ob,k b ob hc e}) (λ_ _ e=>e) (λ_ _ _ e=>e) (λb ps e=>{#[],by rw[e];simp}) (λm hm=>?_) (λb u e=>?_) I.bare
 ·refine yR (hf b hb) λ_ f1 _ f3 f4 f5=>?_
  exact⟨f3,f1,f4,f5⟩
 ·ext vZ hm ob es ep ho r
  exact{ob,es,ep,k _ ob (λz=>(hf _ z).2.1 O) ho,r}
 ·refine(I.hok b u e).stay (λc v hc q=>k c v ?_ q) (λc q=>q) λc xs q=>q
  rcases hc with z | z
  ·rw[z];exact nfp b u e
  ·exact nfp c _ z
end
def Itz(K:A7)(l m:V1):It:=
  {λi H=>∃xs ys x y,SqL K H l xs/\SqL K H m ys/\xs[i]? =Y x/\ys[i]? =Y y,
   λi H v H'=>∃p x y,H p=none/\v= .ref p/\(∀xs,SqL K H l xs->xs[i]? =Y x)/\(∀ys,SqL K H m ys->ys[i]? =Y y)/\H'=upd H p (.tup [x,y]),
   λi H=>∃xs ys,SqL K H l xs/\SqL K H m ys/\(xs...*<=i\/ys...*<=i)}
theorem zWe{P:V3}{w:V4}{K:A7}{elts:List Expr}{x1:Nat}{pos:Pos}(z TI TO i1 i2 l m:V1)(ap:ZipApart z TI TO i1 i2 l m):
  zGy P w K (.Tuple elts x1 pos) (Itz K l m) [z,TI,TO,i1,i2] z (λi h=>IsZip h z TI TO .none/\IsPair h TI (.ref i1) (.ref i2)/\(∃a b,IsPair h TO a b)/\h.IsListIter i1 l i/\h.IsListIter i2 m i) where
 mem:=by simp
 obj:=λi h st b hb=>by
  obtain⟨hz,ht,⟨a,c,ho⟩,⟨o1,e1,c1,d1⟩,o2,e2,c2,d2⟩:=st;simp only[mI,pE,rL] at hb;rcases hb with rfl | rfl | rfl | rfl | rfl
  ·exact{_,hz,λv z=>by cases z}
  ·exact{_,ht,λv z=>by cases z}
  ·exact{_,ho,λv z=>by cases z}
  ·exact{o1,e1,λv z=>by rw[d1] at z;cases z}
  ·exact{o2,e2,λv z=>by rw[d2] at z;cases z}
 keep:=λi h h' st k=>by
  obtain⟨hz,ht,⟨a,c,ho⟩,s1,s2⟩:=st;exact⟨k z (by simp) _ hz,k TI (by simp) _ ht,{a,c,k TO (by simp) _ ho},s1.at λo q=>k i1 (by simp) o q,s2.at λo q=>k i2 (by simp) o q⟩
 item:=by
  intro X hP hw hK hc i pins s σ H E I hf st hg;subst hP hw hK;obtain⟨hz,ht,⟨a,c,ho⟩,s1,s2⟩:=st;ext yS hg xs ys x y hq1 z_;ext oAA z_ hq2 hx hy;refine xD (I.list hq1) λits rv p hl1=>?_;refine xD (I.list hq2) λjts rw' p' hl2=>?_;obtain⟨u,hu,ru⟩:=rv.get hx;obtain⟨u',hu',ru'⟩:=rw'.get hy;let lz:z<s⁻¹:=nD hz;let lI:TI<s⁻¹:=nD ht;let lO:TO<s⁻¹:=nD ho;let l1:i1<s⁻¹:=by obtain⟨o,q,_⟩:=id s1;exact nD q
  let l2:i2<s⁻¹:=by obtain⟨o,q,_⟩:=id s2;exact nD q
  refine wpAny_pyNext_zip_item ap hz ht ho s1 s2 p.isList p'.isList (x:=u) (y:=u') (by simpa using hu) (by simpa using hu') λh1 z1 o1 t1 t2 pr hsz keep=>{_,O, ?_};refine wpAny_letOwnedTupleGo_zip z1 λh2 z2 sb=>?_;let sb:Heap.SameBut z h1 h2:=sb;let hnew:H s⁻¹=none:=I.hok.fresh (mB _);let pr2:h2.get? s⁻¹=some {cls:=.type "tuple",data:=.seq #[u,u']}:=(sb.2 _ (rJ lz)).trans pr;refine{.ref s⁻¹,upd H s⁻¹ (.tup [x,y]),I.turnedNew (t':=s.toks) hf (λb ob hb q=>?_) (mB _) ?_,O,{_,x,y,hnew,O,λzs h=>by rw[I.list_inj h hq1];exact hx,λzs h=>by rw[I.list_inj h hq2];exact hy,O},{z2, ?_,{u,u',(sb.2 TO ap.TOz).trans o1}, ?_, ?_},λb hb=>?_}
  ·simp only[mI,pE,rL,not_or] at hb
   exact(sb.2 b hb.1).trans (keep b ob hb.1 hb.2.2.1 hb.2.2.2.1 hb.2.2.2.2 q)
  ·exact{by rw[mQ];simp,[u,u'], .cons ru (.cons ru' .nil),⟨_,pr2,O,_,O⟩}
  ·exact(sb.2 TI ap.TIz).trans (keep TI _ ap.TIz ap.TITO ap.TIi1 ap.TIi2 ht)
  ·exact t1.at λo q=>(sb.2 i1 ap.i1z).trans q
  ·exact t2.at λo q=>(sb.2 i2 ap.i2z).trans q
  ·let hb0:=(hf b hb).1
   let:b≠s⁻¹:=by
    simp only[mI,pE,rL] at hb;rcases hb with rfl | rfl | rfl | rfl | rfl<;>(apply nX;assumption)
   rw[zV this];exact hb0
 done:=by
  intro X hP hw hK hc i pins s σ H E I hf st hg;subst hP hw hK;obtain⟨hz,ht,⟨a,c,ho⟩,s1,s2⟩:=st;ext yN hg xs ys hq1 hq2 hx;refine xD (I.list hq1) λits rv p hl1=>?_;refine xD (I.list hq2) λjts rw' p' hl2=>?_;let e1:=rv...*;let e2:=rw'...*;refine wpAny_pyNext_zip_end (I.ok.hd hc) ap hz ht ho s1 s2 p.isList p'.isList ?_ λh' keep=>{O,I.turnedFp (t':=s.toks) hf λb ob hb q=>?_}
  ·rcases hx with z | z
   ·exact .inl (by simp;lia)
   ·exact .inr (by simp;lia)
  ·simp only[mI,pE,rL,not_or] at hb
   exact keep b ob hb.1 hb.2.2.1 hb.2.2.2.1 hb.2.2.2.2 q
 self:=λ_ _ _ _ _ st h=>wpAny_pyIter_zip st.1 h
theorem zRx{n l m:Nat}(h1:l<n)(h2:m<n):ZipApart (n+4) (n+2) (n+3) n (n+1) l m:=by
 constructor<;>(show(_:Nat)≠_;lia)
def yCe(K:A7)(ta:TA):TI:=λσ H R=>ta σ H λvs H1=>∃l m xs ys,vs= [.ref l, .ref m]/\SqL K H1 l xs/\SqL K H1 m ys/\R (Itz K l m) H1
theorem yEk:A2 "zip" =Y (.type "zip"):=by decide+kernel
theorem yCa{X:Cx}{elts:List Expr}{x1:Nat}{tpos:Pos}{a b:Expr}{ta:TA}{p pos:Pos}(hg:Gl X "zip")(hm:X.mg "zip" =none)(ha:PA X [a,b] ta)(hs:A3 [a,b] X.env=(false,eval a X.env)::A3 [b] X.env:=by rfl)(hs2:A3 [b] X.env= [(false,eval b X.env)]:=by rfl):
  PI X (.Tuple elts x1 tpos) (.Call (.Name "zip" p) [a,b] [] pos) (yCe X.K ta):=by
 intro pins s σ H R I h;refine Call_ (gI I hg hm yEk (rC (thn (ha pos pins s σ H _ I h) λus s1 ⟨vs,H1,I1,r1,q1⟩=>?_) hs (by rw[hs2];rfl)));ext yS q1 l m xs ys e z_;ext oAA z_ hq1 hq2 q;subst e
 cases r1 with
 | cons r rr=>
  cases rr with
  | cons r' rr'=>
   cases rr';cases r;cases r';refine xD (I1.list hq1) λits rv pl hz=>?_;refine xD (I1.list hq2) λjts rw' pl' hz'=>?_;let ll:l<s1⁻¹:=by obtain⟨o,q,_⟩:=pl.isList;exact nD q
   let lm:m<s1⁻¹:=by obtain⟨o,q,_⟩:=pl'.isList;exact nD q
   refine call_zip_2 pl.isList pl'.isList λh' hz1 ht ho st1 st2 hsz keep=>?_;refine wpAny_pyIter_zip (f0:=.none) hz1 ?_;let ap:ZipApart (s1⁻¹+4) (s1⁻¹+2) (s1⁻¹+3) s1⁻¹ (s1⁻¹+1) l m:=zRx ll lm;let fr:∀k,H1 (s1⁻¹+k)=none:=λk=>I1.hok.fresh (rV _ _);refine{s1⁻¹+4,[s1⁻¹+4,s1⁻¹+2,s1⁻¹+3,s1⁻¹,s1⁻¹+1],_,_,H1,O,I1.kept (t':=s1.toks) keep,zWe _ _ _ _ _ l m ap,{hz1,ht,⟨_,_,ho⟩,st1,st2},λb hb=>?_,q};simp only[mI,pE,rL] at hb;rcases hb with rfl | rfl | rfl | rfl | rfl
   ·exact I1.fpOk (rV _ _) (fr 4)
   ·exact I1.fpOk (rV _ _) (fr 2)
   ·exact I1.fpOk (rV _ _) (fr 3)
   ·exact I1.fpOk (mB _) (fr 0)
   ·exact I1.fpOk (rV _ _) (fr 1)
theorem zTp{K:A7}{l m:V1}{xs ys:List V}{g:TG}{tb:TS}{D:uW}{σ:St}{H:Hp}(Pv:Nat->St->Hp->Prop)(h0:Pv 0 σ H)(hl:∀i σ H,Pv i σ H->SqL K H l xs/\SqL K H m ys)
  (hs:∀i x y σ H p,xs[i]? =Y x->ys[i]? =Y y->Pv i σ H->H p=none->g (.ref p) σ (upd H p (.tup [x,y])) λσ2 H2=>tb {D with nx:=Pv (i+1),ct:=Pv (i+1),bk:=D.nx} σ2 H2)
  (hd:∀i σ H,(i=xs...*\/i=ys...*)->i<=xs...*->i<=ys...*->Pv i σ H->D.nx σ H):zRj g tb D σ (Itz K l m) H:=by
 refine{λi k σ H=>k=xs...* - i/\i<=xs...*/\i<=ys...*/\Pv i σ H,{_,O,mT _,mT _,h0}, ?_};intro i k σ H z_;ext xI z_ r0_ h1 h2 p;subst r0_;obtain⟨q1,q2⟩:=hl i σ H p
 by_cases e1:i<xs...*
 ·by_cases e2:i<ys...*
  ·refine .inr {{xs,ys,xs[i],ys[i],q1,q2,by simp[e1],by simp[e2]},Pv (i+1),λσ' H' q=>{_,∅,O,e1,e2,q}, ?_}
   intro v H' z_;ext yC z_ a x y ha r4_ z_;ext oAA z_ hx hy r7_;subst r4_ r7_;exact hs i x y σ H a (hx xs q1) (hy ys q2) p ha
  ·exact .inl {{xs,ys,q1,q2, .inr ∅},hd i σ H (.inr ∅) h1 h2 p}
 ·exact .inl {{xs,ys,q1,q2, .inl ∅},hd i σ H (.inl ∅) h1 h2 p}
structure Bl6(mg:Str->Option V0):Prop extends Bl2 mg where
 zip:mg "zip" =none
theorem zQg{X:Cx}{K:A7}(hK:X.K=K):IxR X (yDs K):=by subst hK;exact qT
section
variable{X:Cx}{a:Expr}{ta:TE}
def tIsT(ta:TE):TE:=λσ H Q=>ta σ H λx H1=>∃b,x= .bl b/\Q (.bl b) H1
end
end L2
namespace HT
open PySem PyProof.Rows
open PySem.SeqAt
open PySem.AutoSeq1 (wpAny_loadPart')
open PySem.MeetsSeq PySem.MeetsSeq2 PySem.MeetsSeq3
section
variable{prog:V3}{w:V4}{A:Around}{E:V0->V2->Prop}{s:V2}
theorem getItem_tuple_whole{t sl:V1}{items:Array V0}{vl vu:V0}{lo hi:Option Int}{Q:V0->V2->Prop}(ht:IsTup s.heap t items)(hs:s.heap.IsSliceOf sl vl vu .none)(pl:IsPart vl lo)(pu:IsPart vu hi)
  (hw:sIx items.size 0 lo=0/\sIx items.size items.size hi=items.size) (h:Q (.ref t) s):V8 (S6 prog w) A (getItem (.ref t) (.ref sl)) Q E s:=by
 refine xD (id hs) λos hos hcs hds=>?_;let hTs:s.TypeIs (.ref sl) "slice":=⟨os,hos,hcs⟩;unfold getItem
 try with_reducible refine wpAny_holding ?_
 first | refine wpAny_bind (wpAny_pure ?_)| skip
 refine wpAny_bind (wpAny_sequenceKey ht.typeIs ∎ ?_);refine wpAny_bind (wpAny_callSpecial?_slot (name:=A6 "__getitem__") ht.typeIs PyProof.Rows.slot_tuple_getitem
  (wpAny_call_entry PyProof.Rows.slot_tuple_getitem ht.typeIs entry_tuple_getitem ?_ (args_tuple_getitem _ _)))
 show V8 _ _ (Builtin.Tuple.tupleItemsOf (.ref t)>>=_) _ _ s;refine wpAny_bind (tupleItemsOf_ ht ?_);refine wpAny_bind (wpAny_typeOf hTs ?_);rw[if_pos ∎];refine wpAny_bind (gY hs pl pu ?_);show V8 _ _ (if(((sIx items.size 0 lo:Nat):Int)==0 && (1:Int)==1 && (sIx items.size items.size hi - sIx items.size 0 lo)==items.size)=true then _ else _) _ _ s;rw[if_pos (by rw[hw.1,hw.2];simp)];refine wpAny_bind ?_;let hx:∀(Q':Bool->V2->Prop),Q' true s->V8 (S6 prog w) A.in1 (Builtin.Tuple.tupleIsExact (.ref t)) Q' E s:=λQ' hq=>by
  unfold Builtin.Tuple.tupleIsExact;exact wpAny_bind (wpAny_typeOf ht.typeIs (wpAny_pure hq))
 refine hx _ ?_;rw[if_pos O];refine wpAny_bind (wpAny_rule ?_);exact wpAny_pure {_,O,wpAny_pure h}
end
end HT
namespace L2
open PySem PySem.Spec PyProof.Rows
def yBe(K:A7):V->Option Int->Option Int->Hp->VK->Prop:=λx lo hi H Q=>∃a xs,x= .ref a/\SqT K H a xs/\
 ((HT.sIx xs...* 0 lo=0/\HT.sIx xs...* xs...* hi=xs...*/\Q (.ref a) H)\/(¬(HT.sIx xs...* 0 lo=0/\HT.sIx xs...* xs...* hi=xs...*)/\∀p,H p=none->Q (.ref p) (upd H p (.tup (kQ xs lo hi)))))
theorem yAq{X:Cx}:SlR X (yBe X.K):=by
 intro pins s σ H x v vl vu lo hi sl Q I rx hs pl pu h;ext yN h a xs r2_ hx h;subst r2_;rcases h with⟨h1,h2,q⟩|⟨hw,q⟩
 ·cases rx
  refine xD (I.tuple hx) λits r ht hz=>?_;let hlen:its.toArray.size=xs...*:=by rw[nF];exact r.length.symm
  refine{"tuple",_,PyProof.Rows.slot_tuple_getitem.lookup,ht.typeIs, ?_};exact HT.getItem_tuple_whole ht hs pl pu (by rw[hlen];exact⟨h1,h2⟩) {.ref a,H,I,O,q}
 ·exact yFf pins s σ H _ v vl vu lo hi sl Q I rx hs pl pu ⟨a,xs,O,hx,hw,q⟩
end L2
namespace L2
open PySem PySem.Spec PyProof.Rows PySem.Builtin PySem.Builtin.Str
theorem yFi(x y:Str):ts (x++y)=ts x++ts y:=by
 show(x.cps++y.cps).toList=_;rw[Array.toList_append]
noncomputable def rpl(c:Nat)(z:List Nat)(d:Nat):List Nat:=if d=c then z else[d]
section
variable{X:Cx}
end
end L2
namespace L2
open PySem PySem.Spec PyProof.Rows
section
variable{X:Cx}
def rEqS:R2:=λx y H Q=>∃z,y= .str z/\((zXt x y=true/\Q (.bl (decide (x= .str z))) H)\/∃a xs,x= .ref a/\H a=Y (.lst xs)/\Q (.bl false) H)
theorem zZh(hu:X.A.units+1<cLine):OpR X (A4 .Eq) rEqS:=by
 intro pins s σ H x y v u Q I rx ry h;obtain⟨z,rfl,h⟩:=h;rcases h with⟨hs,q⟩|⟨a,xs,rfl,ha,q⟩
 ·exact xG pins s σ H x _ v u Q I rx ry ⟨hs,q⟩
 ·cases rx
  obtain⟨t,rfl⟩:=ry;refine yN (I.lst ha) λits n r ho hz=>?_;let hT:s.TypeIs (.ref a) "list":=⟨_,ho,O⟩;refine SeqAt.rc_eq_decline_or (k:=false) hT (bM _ _ _) ∎ (by kernel_rfl) F.slot_list_eq F.slot_str_eq ?_ ?_ ?_ (.inr ∅) {.bl false,H,I,O,q}
  ·intro Q' h'
   exact tS F.slot_list_eq hT F.entry_list_eq (F.args_list_eq_2 _ _) (SeqAt.list_eq_declines_str a its.toArray n none #[] z t) ⟨ho,h'⟩
  ·intro Q' h'
   exact tS F.slot_str_eq (bM _ _ _) F.entry_str_eq (F.args_str_eq_2 _ _) (SeqAt.str_eq_declines_seq_str z t a _ its.toArray n none #[]) ⟨ho,h'⟩
  ·intro Q' h'
   exact nO h'
def rInS(K:A7):R2:=λx y H Q=>∃(p:V1)(ys:List Str),y= .ref p/\H p=Y (.tup (ys.map V.str))/\((qW x=true/\Q (.bl (inV x (ys.map V.str))) H)\/∃a xs,x= .ref a/\H a=Y (.lst xs)/\Q (.bl false) H)
theorem zXh(ys:List Str):(ys.map V.str).all qW=true:=by
 rw[cT,pT];intro _ _
 rfl
theorem yAc(hu:X.A.units+1<cLine):OpR X (A4 .In) (rInS X.K):=by
 intro pins s σ H x y v u Q I rx ry h;ext yN h p ys r2_ hp h;subst r2_;rcases h with⟨hf,q⟩|⟨a,xs,rfl,ha,q⟩
 ·exact zIi pins s σ H x _ v u Q I rx ry {p,_,O, .inr (SqT.of hp),hf,zXh ys,q}
 ·cases rx
  cases ry;refine xD (I.tuple (SqT.of (K:=X.K) hp)) λits r pl hz=>?_;refine xD (I.list (SqL.of (K:=X.K) ha)) λjts rv pl2 hz2=>?_;refine SeqAt.in_tupleAt (λ_=>false) pl (λw hw=>?_) {.bl false,H,I, ?_,q}
  ·obtain⟨z,t,rfl⟩:∃z t,w= .str z t:=by
    let hw':w∈its:=by simpa using hw
    clear hw pl hz hp
    induction its generalizing ys with
    | nil=>cases hw'
    | cons i its ih=>
     cases ys with
     | nil=>cases r
     | cons y ys=>
      cases r with
      | cons r1 r2=>
       rcases mI.mp hw' with e | e
       ·obtain⟨t,e'⟩:=r1
        exact{y,t,e.trans e'}
       ·exact ih ys r2 e
   exact SeqAt.EqAt.str_list z t pl2.isList (by show X.A.units+1<cLine;exact hu)
  ·show Value.bool (its.toArray.any λ_=>false)=Value.bool false
   congr 1
   simp
theorem uY:wV X (.builtin "len") (λxs H Q=>∃(a:V1)(n:Nat),xs= [.ref a]/\((∃ys,SqL X.K H a ys/\n=ys...*)\/∃kvs,H a=Y (.dK kvs)/\n=kvs...*)/\Q (.int n) H):=by
 intro pins s σ H xs us Q I r h;ext yN h a n r2_ h q;subst r2_;rcases h with⟨ys,hy,rfl⟩|⟨kvs,hk,rfl⟩
 ·exact yI pins s σ H _ us Q I r ⟨a,O,ys,hy,q⟩
 ·exact zDh pins s σ H _ us Q I r ⟨a,kvs,O,hk,q⟩
end
mutual
def T.fewm(m:Nat):T->Prop
 | .dic ks us=>ks.Nodup/\ks...*<=m/\ks...*=us...*/\d8 m us
 | .lst us=>us...*<=100000/\d8 m us
 | .tup _=>False
 | .non=>True
 | .bl _=>True
 | .int _=>True
 | .str _=>True
def d8(m:Nat):List T->Prop
 | []=>True
 | t::us=>T.fewm m t/\d8 m us
end
theorem b8{m:Nat}{t:T}:∀{us:List T},d8 m us->t∈us->T.fewm m t
 | [],_,h=>nomatch h
 | u::us,h,hm=>(mI.mp hm).elim (λe=>e▸h.1) (b8 h.2)
theorem d4{m:Nat}{us:List T}(h:∀t∈us,T.fewm m t):d8 m us:=by
 induction us with
 | nil=>exact mH
 | cons t us ih=>exact{h t mG,ih λu hu=>h u (mE _ hu)}
mutual
theorem d6{m m':Nat}(l:m<=m'):∀t:T,T.fewm m t->T.fewm m' t
 | .lst us,h=>{h.1,i7 l us h.2}
 | .dic ks us,h=>{h.1,nS h.2.1 l,h.2.2.1,i7 l us h.2.2.2}
 | .tup _,h=>h.elim
 | .non,_=>mH
 | .bl _,_=>mH
 | .int _,_=>mH
 | .str _,_=>mH
theorem i7{m m':Nat}(l:m<=m'):∀us:List T,d8 m us->d8 m' us
 | [],_=>mH
 | t::us,h=>{d6 l t h.1,i7 l us h.2}
end
mutual
theorem c7{m:Nat}(l:m<=63):∀t:T,T.fewm m t->T.few t
 | .lst us,h=>{h.1,j1 l us h.2}
 | .dic ks us,h=>{h.1,by let:=h.2.1;lia,h.2.2.1,j1 l us h.2.2.2}
 | .tup _,h=>h.elim
 | .non,_=>mH
 | .bl _,_=>mH
 | .int _,_=>mH
 | .str _,_=>mH
theorem j1{m:Nat}(l:m<=63):∀us:List T,d8 m us->i3 us
 | [],_=>mH
 | t::us,h=>{c7 l t h.1,j1 l us h.2}
end
noncomputable def uT(f:T->Int->T×Int):List Nat->List T->Int->List T×Int
 | [],us,c=>(us,c)
 | i::is,us,c=>uT f is (us.set i (f (us.getD i .non) c).1) (f (us.getD i .non) c).2
noncomputable def ixs(ks:List (List Nat)):List Nat:=(yQ ks).map λk=>ks.idxOf k
noncomputable def zYy(r:List T×Int):T×Int:=(.lst (r.1++ [.int r.2]),r.2+1)
noncomputable def mrkU(r:List T×Int):T×Int:=(.tup r.1,r.2+1)
theorem zFg{f:T->Int->T×Int}{A B:T->Prop}(hf:∀t c,A t->B (f t c).1):∀(is:List Nat)(us:List T)(c:Int),is.Nodup->(∀i∈is,i<us...*)->(∀i t,us[i]? =Y t->(i∈is->A t)/\(i∉is->B t))->(∀t∈(uT f is us c).1,B t)/\(uT f is us c).1...*=us...*
 | [],us,c,_,_,h=>{λt ht=>by
   obtain⟨i,hi⟩:=aF.mp ht;exact(h i t hi).2 (λz=>nomatch z),O}
 | i::is,us,c,hn,hl,h=>by
  rw[nZ] at hn;let hi:=hl i mG;let e:us.getD i .non=us[i]:=by simp[mZ,hi]
  let ih:=zFg hf is (us.set i (f (us.getD i .non) c).1) (f (us.getD i .non) c).2 hn.2 (λj hj=>by rw[sZ];exact hl j (mE _ hj)) λj t hj=>by
   by_cases hji:j=i
   ·subst hji
    refine{λz=>absurd z hn.1,λ_=>?_};rw[sS hi] at hj;rw[<-mM hj,e];exact hf _ _ ((h j us[j] (mJ hi)).1 mG)
   ·rw[rW (Ne.symm hji)] at hj
    obtain⟨h1,h2⟩:=h j t hj;exact{λz=>h1 (mE _ z),λz=>h2 λy=>(mI.mp y).elim hji z}
  rw[sZ] at ih;exact ih
theorem uH{ks:List (List Nat)}{k:List Nat}(h:k∈ks):ks[ks.idxOf k]? =Y k:=by
 let hl:=rD h;rw[mJ hl];exact congrArg some (List.getElem_idxOf hl)
theorem yDu{ks:List (List Nat)}(nd:ks.Nodup){i:Nat}{k:List Nat}(h:ks[i]? =Y k):ks.idxOf k=i:=by
 obtain⟨hi,e⟩:=mP.mp h;rw[<-e];exact nd.idxOf_getElem i hi
theorem zHc{ks:List (List Nat)}(nd:ks.Nodup):(ixs ks).Nodup:=by
 unfold ixs;let hp:=yT ks;let hn:(yQ ks).Nodup:=hp.nodup_iff.mpr nd;unfold List.Nodup;rw[List.pairwise_map];refine List.Pairwise.imp_of_mem ?_ hn;intro a b ha hb hab z;let h1:=uH (hp.mem_iff.mp ha);let h2:=uH (hp.mem_iff.mp hb);rw[z] at h1;rw[h1] at h2;exact hab (mM h2)
theorem yDq{ks:List (List Nat)}{i:Nat}(h:i∈ixs ks):i<ks...*:=by
 obtain⟨k,hk,rfl⟩:=nB.mp h;exact rD ((yT ks).mem_iff.mp hk)
theorem zZu{ks:List (List Nat)}(nd:ks.Nodup){i:Nat}(h:i<ks...*):i∈ixs ks:=by
 refine nB.mpr {ks[i],(yT ks).mem_iff.mpr (tI h), ?_};exact yDu nd (mJ h)
theorem gQ{ks:List (List Nat)}{us:List T}{n:List Nat}{t:T}(h:ks...*=us...*):(yU (ks,us) n t).1...*=(yU (ks,us) n t).2...*/\(yU (ks,us) n t).2...*<=us...*+1:=by
 unfold yU;split
 ·exact{by show ks...*=(xB n t ks us)...*;rw[zBi];exact h,by show(xB n t ks us)...*<=_;rw[zBi];exact rO _}
 ·exact{by show(ks++ [n])...*=(us++ [t])...*;rw[mK,mK,h];rfl,by show(us++ [t])...*<=_;rw[mK];exact mB _}
theorem jE{ks:List (List Nat)}{us:List T}{n:List Nat}{t:T}(h:ks.Nodup):(yU (ks,us) n t).1.Nodup:=by
 unfold yU;split
 ·exact h
 ·rename_i hn
  show(ks++ [n]).Nodup;rw[cO];exact{h,by simp,λa ha b hb z=>hn (by rw[<-nC.mp hb,<-z];exact ha)}
theorem zAs{ks:List (List Nat)}{us:List T}{n:List Nat}{t u:T}(h:u∈(yU (ks,us) n t).2):u∈us\/u=t:=by
 unfold yU at h;split at h
 ·exact zBd _ _ _ _ _ h
 ·rcases mX.mp h with z | z
  ·exact .inl z
  ·exact .inr (nC.mp z)
theorem k6{n:Nat}{us:List T}(hn:0<n)(h:∀t∈us,T.dep t<n):T.deps us<n:=by
 let:=d7 (n:=n - 1) (ts:=us) λt ht=>by let:=h t ht;lia
 lia
theorem Sps.at{H:Hp}:∀{us:List T}{vs:List V}{D:List V1}{i:Nat}{t:T},Sps H vs us D->us[i]? =Y t->∃v D1,vs[i]? =Y v/\Sp1 H v t D1/\(∀b∈D1,b∈D)/\
  ∀H' t' D1',Sp1 H' v t' D1'->(∀b∈D1',b∈D1)->Keep D1 H H'->∃D',Sps H' vs (us.set i t') D'/\∀b∈D',b∈D
 | [],_,_,i,t,_,h=>by simp at h
 | u::us,_,_,0,t,⟨v,r,D1,D2,rfl,rfl,h1,h2,hd⟩,h=>by
  let e:u=t:=by simpa using h
  subst e;refine{v,D1,O,h1,λb hb=>nW _ hb,λH' t' D1' hs hsub hk=>{D1'++D2,{v,r,D1',D2,O,O,hs, ?_,λb hb=>hd b (hsub b hb)},λb hb=>?_}}
  ·exact Sps.keep _ _ _ (λb hb o _ e=>hk b o (λz=>hd b z hb) e) h2
  ·exact(mX.mp hb).elim (λz=>nW _ (hsub b z)) (λz=>nJ _ z)
 | u::us,_,_,i+1,t,⟨v,r,D1,D2,rfl,rfl,h1,h2,hd⟩,h=>by
  refine yA (Sps.at (i:=i) h2 (by simpa using h)) λw E1 g1 g2 g3 g4=>?_;refine{w,E1,by simpa using g1,g2,λb hb=>nJ _ (g3 b hb),λH' t' D1' hs hsub hk=>?_};obtain⟨D',k1,k2⟩:=g4 H' t' D1' hs hsub hk;refine{D1++D',{v,r,D1,D',O,O, ?_,k1,λb hb z=>hd b hb (k2 b z)},λb hb=>(mX.mp hb).elim (λz=>nW _ z) (λz=>nJ _ (k2 b z))};exact Sp1.keep _ _ _ (λb hb o _ e=>hk b o (λz=>hd b hb (g3 b z)) e) h1
theorem Sps.replT{H:Hp}{n:List Nat}{c:Int}:∀{ps:List (Key×V)}{ks:List (List Nat)}{us:List T}{D:List V1},ps.map (·.1)=ks.map nK->Sps H (ps.map (·.2)) us D->
  ∃D',Sps H ((ps.map λkv=>if kv.1=nK n then(kv.1,V.int c) else kv).map (·.2)) (xB n (.int c) ks us) D'/\∀b∈D',b∈D
 | [],[],us,D,_,h=>by
  let e:xB n (.int c) [] us=us:=by unfold xB;rfl
  rw[e];exact{D,h,λ_ h=>h}
 | [],_::_,_,_,e,_=>by simp at e
 | _::_,[],_,_,e,_=>by simp at e
 | p::ps,k::ks,[],_,_,h=>by
  let h':(p::ps).map (·.2)= []:=h.1;cases h'
 | p::ps,k::ks,u::us,_,e,⟨v',r,D1,D2,e0,rfl,h1,h2,hd⟩=>by
  let e':p.2::ps.map (·.2)=v'::r:=e0;injection e' with e1 e2;subst e1 e2;let e3:p.1::ps.map (·.1)=nK k::ks.map nK:=e;injection e3 with e4 e5;obtain⟨D',i1,i2⟩:=Sps.replT (n:=n) (c:=c) e5 h2
  by_cases hk:k=n
  ·refine{D',{.int c,_,[],D', ?_,O, ?_,i1,λ_ z=>nomatch z},λb hb=>nJ _ (i2 b hb)}
   ·rw[mV,mO (by rw[e4,hk]),mV]
   ·rw[mO hk];exact⟨O,O⟩
  ·refine{D1++D',{p.2,_,D1,D', ?_,O, ?_,i1,λb hb z=>hd b hb (i2 b z)},λb hb=>(mX.mp hb).elim (λz=>nW _ z) (λz=>nJ _ (i2 b z))}
   ·rw[mV,mL (by rw[e4];exact λz=>hk (jX z)),mV]
   ·rw[mL hk];exact h1
theorem zXo{ps:List (Key×V)}{ks:List (List Nat)}{n:List Nat}(hk:ps.map (·.1)=ks.map nK):(ps.any λkv=>decide (kv.1=nK n))=true↔n∈ks:=by
 rw[aI];constructor
 ·rintro⟨kv,hkv,e⟩
  let:nK n∈ps.map (·.1):=nB.mpr {kv,hkv,rP e};rw[hk] at this;obtain⟨k,h1,h2⟩:=nB.mp this;rw[<-jX h2];exact h1
 ·intro h
  let:nK n∈ps.map (·.1):=by rw[hk];exact nB.mpr ⟨n,h,O⟩
  obtain⟨kv,h1,h2⟩:=nB.mp this;exact{kv,h1,nH h2}
theorem Sps.put{H:Hp}{ps:List (Key×V)}{ks:List (List Nat)}{us:List T}{D:List V1}{n:List Nat}{c:Int}(hk:ps.map (·.1)=ks.map nK)(h:Sps H (ps.map (·.2)) us D):
  (wQ ps (nK n) (.int c)).map (·.1)=(yU (ks,us) n (.int c)).1.map nK/\∃D',Sps H ((wQ ps (nK n) (.int c)).map (·.2)) (yU (ks,us) n (.int c)).2 D'/\∀b∈D',b∈D:=by
 refine{(zAr (p:=(ks,us)) (n:=n) (t:=.int c) hk (Sps.rep _ _ _ h) (show Rep H (.int c) (.int c) from O)).1, ?_}
 by_cases hm:n∈ks
 ·let e1:wQ ps (nK n) (.int c)=ps.map λkv=>if kv.1=nK n then(kv.1,V.int c) else kv:=mO ((zXo hk).mpr hm)
  let e2:yU (ks,us) n (.int c)=(ks,xB n (.int c) ks us):=mO hm;rw[e1,e2];exact Sps.replT hk h
 ·let e1:wQ ps (nK n) (.int c)=ps++ [(nK n, .int c)]:=mL λz=>hm ((zXo hk).mp z)
  let e2:yU (ks,us) n (.int c)=(ks++ [n],us++ [.int c]):=mL hm;rw[e1,e2,mN];refine{D++ [],Sps.snoc (show Sp1 H (.int c) (.int c) [] from⟨O,O⟩) h (λ_ _ z=>nomatch z),λb hb=>by simpa using hb}
def zAk(H H':Hp):Hp:=λb=>match H b with
 | none=>H' b
 | some _=>none
theorem vF{H H':Hp}{b:V1}(h:H b=none):zAk H H' b=H' b:=by unfold zAk;rw[h]
theorem zEt{H H':Hp}{b:V1}{o:HO}(e:zAk H H' b=Y o):H b=none:=by
 unfold zAk at e
 cases h:H b with
 | none=>rfl
 | some _=>rw[h] at e;cases e
theorem zRz{H H' H2:Hp}(g:Same H' H2):Same (zAk H H') (zAk H H2):=λb o e=>by
 let h:=zEt e;rw[vF h] at e⊢;exact g _ _ e
theorem Sp1.new{H H':Hp}{v:V}{t:T}{D:List V1}(h:Sp1 H' v t D)(hD:∀b∈D,H b=none):Rep (zAk H H') v t:=
 Sp1.rep _ _ _ (Sp1.keep _ _ _ (λb hb o _ e=>by rw[vF (hD b hb)];exact e) h)
end L2
namespace L2
open PySem PySem.W PySem.Spec PyProof.Rows
structure Dd(P:V3)(w:V4)(K:PySem.W.Frag)(mg:Str->Option V0)(base:V5)(k:Nat)(x:Str)(ps:List Str)(dvs:List V)(sp:Sp):Prop where
 ex:∃(f:V1)(fd:V7)(ds:List V0),FnOk P w K mg base CX0 k f fd ps sp/\Binds K fd ps ds/\Vals dvs ds/\PySem.W.keepIn K (.ref f)=true/\mg x=Y (.ref f)
section
variable{X:Cx}{k j:Nat}{x:Str}{ps:List Str}{dvs:List V}{sp:Sp}{e:Expr}{es:List Expr}{t:TA}{p pos:Pos}
end
structure FunD(K:PySem.W.Frag)(x qual:Str)(st:V6)(f:V1)(fd:V7):Prop where
 ex:∃(oc:V0)(od:Option V1)(dV kV doc pm:V0)(an:Option V1)(cdv ct:V0)(osl:Array (Option V0)),
  fd=PySem.W.fnOf x qual (qO st) (vW st) (zN st) dV kV doc pm an cdv ct/\K.lookup f=Y {oc,od, .func fd,osl}/\PySem.W.codeIn K cdv qual=true
theorem FunD.ok{P:V3}{w:V4}{K:PySem.W.Frag}{mg:Str->Option V0}{base:V5}{x qual:Str}{st:V6}{f:V1}{fd:V7}{N ps:List Str}{k:Nat}{sp:Sp}(F:FunD K x qual st f fd)(S:zY N ps (zN st))(len:∀vs H Q E,sp vs H Q E->vs...*=ps...*)
  (hbody:∀(cdv:V0)(A:Around)(outer:List S8)(s:V2)(H:Hp)(vs:List V)(Q:VK)(E:XK),Room k (A.deeper (envOfC qual (zN st) s⁻¹ f cdv))->sp vs H Q E->
   ∃t,PSs (zKo CX0 P w K mg base N qual (zN st) f cdv A outer s H E).nox (vW st) t/\t {nx:=λ_ H'=>Q .non H',rt:=Q} (zBl N vs) H):FnOk P w K mg base CX0 (k+1) f fd ps sp:=by
 refine yM (F.ex) λoc od dV kV doc z_=>?_;ext yM z_ pm an cdv ct osl z_;ext oAA z_ r10_ lk hcd;subst r10_;refine yBb lk hcd S len λA outer s H vs Q E hr hsp=>?_;obtain⟨t,h,q⟩:=hbody cdv A outer s H vs Q E hr hsp;exact⟨t,h.nox,q⟩
end L2
namespace L2
open PySem PySem.Spec PyProof.Rows
section
variable{X:Cx}
theorem zIm{st:V6}:PS X st zJq:=λ_ _ _ _ _ _ h=>h.elim
end
end L2
namespace L2
open PySem PySem.Builtin PySem.Builtin.Str
abbrev Tk:=Nat×List Nat
noncomputable def dbl(x:List Nat):List Nat:=x.flatMap (rpl 39 [39,39])
noncomputable def shw(t:Tk):List Nat:=if t.1=2 then 39::(dbl t.2++ [39]) else t.2
noncomputable def stk(a b:Tk):Bool:=if b.2.take 1= [45]/\b.1=0 then false else if a.1=1 then decide (b.1=1)|| decide (b.1=0) else decide (a.1=b.1)&& !decide (a.1=3)
noncomputable def lay:List (Nat×Tk)->List Nat
 | []=>[]
 | x::r=>List.replicate x.1 32++(shw x.2++lay r)
end L2
namespace L2
open PySem PySem.Spec PyProof.Rows
section
variable{P:V3}{w:V4}{A:Around}{s:V2}{E:V0->V2->Prop}
end
section
variable{X:Cx}
end
end L2
namespace L2
open PySem PySem.Spec PyProof.Rows PySem.W
structure Kp(fs xs:List V1)(h h':V5):Prop where
 keep:∀b o,h.get? b=Y o->b∉fs->b∉xs->h'.get? b=Y o
 slot:∀b o,h.get? b=Y o->b∈fs->b∉xs->∃sl,h'.get? b=some {o with slots:=sl}
def Fl(h:V5)(x T:V1)(C:V0)(d:Option V1)(a0 fl:V0):Prop:=∃(oe:Obj)(vs:Array V0)(oT:Obj)(ts:Array V0),h.get? x=Y oe/\oe.cls=C/\oe.dict=d/\oe.data= .fields vs/\vs[0]? =Y a0/\vs[1]? =Y (.ref T)/\T≠x/\h.get? T=Y oT/\oT.data= .fields ts/\ts[3]? =Y fl
section
variable{M:Model}{A:Around}{E:V0->V2->Prop}{s:V2}{env:S8}{outer:List S8}{x T L:V1}{C a0 fl:V0}{d:Option V1}{base:V5}{Q:Unit->V2->Prop}
end
section
variable{X:Cx}{pins:List (V1×Obj)}{σ:St}{H H':Hp}{s s':V2}
def CXE(P:V3)(w:V4):CXT:=λouter H s E e s'=>∃(x T:V1)(C:V0)(d:Option V1)(a0:V0)(H':Hp),e= .ref x/\s'.os=s.os/\AllBare s'.gens/\Un (frs outer) [] H H' s.heap s'.heap/\HOk P w H' s'.heap/\
 s.heap.get? x=none/\s.heap.get? T=none/\H' x=none/\H' T=none/\Fl s'.heap x T C d a0 .none/\E C d H'
end
end L2
namespace L2
open PySem PySem.Spec PyProof.Rows PySem.W
def XObj(nm:Str)(C N:V1)(bm:List V0)(o:Obj):Prop:=∃(q:Str)(bs:List V0)(hdct:Bool)(sn:List Str)(sub:List V0)(ab:Bool)(col:Option Bool)(dd:Option V1)(k0 k1 k2 k3 k5:Option V0),o=excClassObj nm q C N bs bm hdct sn sub ab col dd k0 k1 k2 k3 k5 "ValueError.__new__"
section
variable{M:Model}{A:Around}{E:V0->V2->Prop}{s:V2}{env:S8}
end
end L2
namespace L2
open PySem PySem.Spec PyProof.Rows PySem.W
abbrev zFu:List V0:=[.type "ValueError", .type "Exception", .type "BaseException", .type "object"]
section
variable{prog:V3}{w:V4}{A:Around}{K:Frag}{C fI N:V1}{nm:Str}{bm:List V0}{o:Obj}
end
end L2
namespace L2
open PySem PySem.Spec PyProof.Rows PySem.W PySem.Builtin PySem.Builtin.ObjectAttr
section
variable{prog:V3}{w:V4}{A:Around}{K:Frag}{C B x:V1}{cd:ClassData}{ox:Obj}{name:Str}{v:V0}
end
end L2
namespace L2
open PySem PySem.Spec PyProof.Rows PySem.W
structure XCls(K:Frag)(nm:Str)(C B fI:V1):Prop where
 obj:∃(N:V1)(o:Obj),K.lookup C=Y o/\XObj nm C N (.ref B::zFu) o
 cd:∃cd,clsIn K C=Y cd/\cd.mro= .ref C:: .ref B::zFu/\cd.hasDict=true
 tl:tailIn K zFu (.ref B::zFu)=true
 init:findIn K (.ref C) "__init__" =Y ↥(.ref fI)
 fn:typeIn K (.ref fI)=Y (.type "function")
 set:findIn K (.ref C) "__setattr__" =Y ↥(.builtin "object.__setattr__")
 at_:findIn K (.ref C) "at" =Y none
 kp:keepIn K (.ref C)=true
structure XBase(K:Frag)(B:V1):Prop where
 sp:specialIn K (.ref B) "__getattribute__" =Y ↥(.builtin "type.__getattribute__")
 rd:readsIn K B (.type "type")=true
 init:findCls K (.ref B) (.type "type") "__init__" =Y (.val (.builtin "ValueError.__init__"))
noncomputable def exO(x C:V1)(d:Option V1):HO:=.ext λh=>∃vs:Array V0,h.get? x=some {cls:=.ref C,dict:=d,data:=.fields vs}/\vs.size=6/\vs[1]? =some .none
section
variable{X:Cx}{pins:List (V1×Obj)}{σ:St}{H:Hp}{s:V2}{x C B fI:V1}{nm:Str}{d:Option V1}
end
end L2
namespace L2
open PySem PySem.Spec PyProof.Rows PySem.W
section
variable{X:Cx}{C B fI:V1}{nm:Str}
def yAb(C:V1):Sp:=λvs H Q _=>∃x v0 v,vs= [.ref x,v0,v]/\H x=Y (exO x C none)/\∀d,H d=none->Q .non (upd (upd H x (exO x C ↥d)) d (.xd [("at",v)]))
end
section
variable{X:Cx}{pins:List (V1×Obj)}{σ:St}{H:Hp}{s:V2}{x C:V1}{d:Option V1}
end
end L2
namespace L2
open PySem PySem.Spec PyProof.Rows PySem.W
section
variable{X:Cx}{C B fI:V1}{nm:Str}{k:Nat}{fd:V7}{ps:List Str}
structure Xr(P:V3)(w:V4)(K:Frag)(mg:Str->Option V0)(base:V5)(k:Nat)(cn:Str)(C:V1):Prop where
 ex:∃(nm:Str)(B fI:V1)(fd:V7)(ps:List Str),XCls K nm C B fI/\FnOk P w K mg base CX0 k fI fd ps (yAb C)/\Binds K fd ps []/\mg cn=Y (.ref C)
end
structure Dx(P:V3)(w:V4)(K:PySem.W.Frag)(mg:Str->Option V0)(base:V5)(k:Nat)(x:Str)(ps:List Str)(sp:Sp):Prop where
 ex:∃(f:V1)(fd:V7),FnOk P w K mg base (CXE P w) k f fd ps sp/\Binds K fd ps []/\PySem.W.keepIn K (.ref f)=true/\mg x=Y (.ref f)
section
variable{X:Cx}{k j:Nat}{x:Str}{ps:List Str}{sp:Sp}{e:Expr}{es:List Expr}{t:TA}{p pos:Pos}{E:XK}
end
section
variable{P:V3}{w:V4}{K:PySem.W.Frag}{mg:Str->Option V0}{base:V5}{k:Nat}{f:V1}{fd:V7}{ps:List Str}{sp sp':Sp}{CX:CXT}
end
end L2
namespace L2
open PySem PySem.Spec PyProof.Rows PySem.W PySem.Builtin PySem.Builtin.ObjectAttr
structure XGet(K:Frag)(C:V1):Prop where
 ga:findIn K (.ref C) "__getattribute__" =Y ↥(.builtin "BaseException.__getattribute__")
 gt:findIn K (.ref C) "__getattr__" =Y none
 bx:mroIn K C (.type "BaseException")=Y true
 ob:mroIn K C (.type "object")=Y true
 hd:hasDictIn K C=true
 cl:findIn K (.ref C) "__class__" =Y ↥(.builtin "object.__class__")
 cg:specialIn K (.builtin "object.__class__") "__get__" =Y ↥(.builtin "getset_descriptor.__get__")
 ct:takesIn K (.builtin "object.__class__")=Y true
section
variable{prog:V3}{w:V4}{A:Around}{K:Frag}{C x:V1}{ox od:Obj}{name:Str}{E:V0->V2->Prop}{s:V2}
end
end L2
namespace L2
open PySem PySem.Spec PyProof.Rows PySem.W
abbrev Cx.mark(X:Cx)(v:V0):Cx:={X with A:=X.A.mark ↥v,calm:=false,xe:=λ_ _=>False}
section
variable{X:Cx}{pins pins':List (V1×Obj)}{σ:St}{H:Hp}{s:V2}{v:V0}{W:V0->V2->Prop}
end
section
variable{X:Cx}{B:V1}{bn n:Str}{i:Nat}{body suite:List V6}{b₀:V6}{bp hp pos:Pos}{tb:XK->TS}{ts:TS}
end
end L2
namespace L2
open PySem PySem.Spec PyProof.Rows PySem.W
section
variable{X:Cx}{C D:V1}{b:Bool}
end
section
variable{X:Cx}{k j:Nat}{x:Str}{ps:List Str}{sp:Sp}{e:Expr}{es:List Expr}{t:TA}{p pos:Pos}{E:XK}
end
end L2
namespace L2
open PySem PySem.Spec PyProof.Rows PySem.W
structure RoomH(k:Nat)(A:Around):Prop where
 dp:A.depth+3*k+5<recursionLimit
 un:A.units+16*k+200<cLine
structure FnOkH(P:V3)(w:V4)(K:PySem.W.Frag)(mg:Str->Option V0)(base:V5)(k:Nat)(f:V1)(fd:V7)(ps:List Str)(sp:Sp):Prop where
 len:∀vs H Q E,sp vs H Q E->vs...*=ps...*
 run:∀(A:Around)(outer:List S8)(s:V2)(H:Hp)(args:Args)(us:List V0)(vs:List V)(Q:VK)(E:XK),RoomH k A->zUj P w K mg base A outer s H->BindsTo s fd args (ps.zip us)->Vals vs us->sp vs H Q E->
  codeAny (S6 P w) A (.call (.ref f) args) (CR CX0 outer P w H s Q E) s
structure Dh(P:V3)(w:V4)(K:PySem.W.Frag)(mg:Str->Option V0)(base:V5)(k:Nat)(x:Str)(ps:List Str)(sp:Sp):Prop where
 ex:∃(f:V1)(fd:V7),FnOkH P w K mg base k f fd ps sp/\Binds K fd ps []/\PySem.W.keepIn K (.ref f)=true/\mg x=Y (.ref f)
section
variable{X:Cx}{k j:Nat}{x:Str}{ps:List Str}{sp:Sp}{e:Expr}{es:List Expr}{t:TA}{p pos:Pos}
end
end L2
namespace L2
open PySem PySem.Spec PyProof.Rows PySem.W
section
variable{M:Model}{A:Around}{E:V0->V2->Prop}{s:V2}{env:S8}{outer:List S8}{x T L:V1}{C a0 fl:V0}{d:Option V1}{base:V5}{Q:Unit->V2->Prop}
end
section
variable{X:Cx}{E:XK}{EE:V0->V2->Prop}{s:V2}{e:V0}{cs:List V1}
end
end L2
namespace L2
open PySem PySem.Spec PyProof.Rows PySem.W
section
variable{X:Cx}{E:XK}
end
section
variable{X:Cx}{scope:Scope}{own:List Str}{F:List (Str×Nat)}{elt tg iter:Expr}{ifs:List Expr}{pos:Pos}{wi:TI}{g:TG}{tt:TT}{te:TE}{E:XK}
end
end L2
namespace L2
open PySem PySem.Spec PyProof.Rows PySem.W PySem.Builtin PySem.Builtin.ObjectAttr
structure Xp(K:Frag)(nm:Str)(C B:V1):Prop where
 obj:∃(N:V1)(o:Obj),K.lookup C=Y o/\XObj nm C N (.ref B::zFu) o/\nsOkIn K N=true/\nsIn K N "__init__" =Y none
 tl:tailIn K zFu (.ref B::zFu)=true
 kp:keepIn K (.ref C)=true
section
variable{X:Cx}{C B:V1}{nm:Str}
structure Xr0(K:Frag)(mg:Str->Option V0)(cn:Str)(C:V1):Prop where
 ex:∃(nm:Str)(B:V1),Xp K nm C B/\mg cn=Y (.ref C)
end
section
variable{prog:V3}{w:V4}{A:Around}{K:Frag}{C x:V1}{ox:Obj}{od:Option Obj}{name:Str}{E:V0->V2->Prop}{s:V2}
end
section
variable{X:Cx}{pins:List (V1×Obj)}{σ:St}{H:Hp}{s:V2}{x C:V1}
end
section
variable{X:Cx}
end
end L2
namespace L2
open PySem PySem.Spec PyProof.Rows
def ItD(lo:Int)(n:Nat):It:={λi _=>i<n,λi H x H'=>H'=H/\x= .int (lo - i),λi _=>n<=i}
theorem zHm{P:V3}{w:V4}{K:PySem.W.Frag}{tg:Expr}(it:V1)(lo:Int)(n:Nat):zGy P w K tg (ItD lo n) [it] it (λi h=>IsRangeIter h it (lo+(i:Nat)*(-1)) ((n:Int)- (i:Nat)) (-1)) where
 mem:=by simp
 obj:=λi h st b hb=>by
  let e:b=it:=by simpa using hb
  subst e;exact{_,st,λv z=>by
   let z':Data.fields _=Data.cell v:=z;cases z'}
 keep:=λi h h' st k=>k it (by simp) _ st
 item:=by
  intro X hP hw hK hc i pins s σ H E I hf st hg;subst hP hw hK;refine yR (hf it (by simp)) λf0 f1 f2 f3 f4 f5=>?_;let W:=Walks.range (prog:=X.prog) (w:=X.w) (I.ok.hd hc) it lo (-1) n;refine W.item i s _ _ hg st λv h' tk hv st' kk=>?_;obtain⟨t,rfl⟩:=hv;let I1:Inv X pins σ H {s with heap:=h',toks:=tk}:=I.turned (λb o hb e=>kk b o (by simpa using hb) e) f0 f1 f3 f4 f5;refine{_,O,zMi (s:={s with heap:=h',toks:=tk}) (n:="range_iterator") st' O O ∎ {.int (lo - i),H,I1,{t, ?_},⟨O,O⟩,st',λb hb=>(hf b hb).1}};let e:lo+((i:Nat):Int)*(-1)=lo - i:=by lia
  rw[e]
 done:=by
  intro X hP hw hK hc i pins s σ H E I hf st hg;subst hP hw hK;refine yR (hf it (by simp)) λf0 f1 f2 f3 f4 f5=>?_;exact wpAny_pyNext_range_end (I.ok.hd hc) st (by let:n<=i:=hg;lia) λh' eb=>{O,I.turned (t':=s.toks) (λb o hb e=>eb b o hb e) f0 f1 f3 f4 f5}
 self:=λ_ _ _ _ _ st h=>wpAny_pyIter_rangeiter st h
theorem zAt(lo:Int)(h: -1<=lo):S4 lo (-1) (-1)=lo+1:=by
 unfold S4;simp
 lia
theorem zNn{lo:Int}(h0: -1<=lo)(h1:lo<1000):Builtin.Range.small lo (-1) (-1)=true:=by
 unfold Builtin.Range.small;rw[zAt lo h0];simp[Builtin.Range.rangeFitsLong]
 lia
section
variable{X:Cx}{tg:Expr}
def yBg(ta:TA):TI:=λσ H R=>ta σ H λvs H1=>∃i:Int,vs= [.int i, .int (-1), .int (-1)]/\-1<=i/\i<1000/\R (ItD i (i+1).toNat) H1
theorem yAt{a b c:Expr}{ta:TA}{p pos:Pos}(hg:Gl X "range")(hm:X.mg "range" =none)(ha:PA X [a,b,c] ta)(hs:A3 [a,b,c] X.env= [(false,eval a X.env),(false,eval b X.env),(false,eval c X.env)]:=by rfl)(hs2:A3 [b,c] X.env= [(false,eval b X.env),(false,eval c X.env)]:=by rfl):
  PI X tg (.Call (.Name "range" p) [a,b,c] [] pos) (yBg ta):=by
 intro pins s σ H R I h;refine Call_ (gI I hg hm boot_range (rC (thn (ha pos pins s σ H _ I h) λus s1 ⟨vs,H1,I1,r1,q1⟩=>?_) (by rw[hs,hs2]) (by rw[hs2];rfl)));ext jZ q1 i e h0 h1 q;subst e
 cases r1 with
 | cons r rr=>
  cases rr with
  | cons r' rr=>
   cases rr with
   | cons r2 rr=>
    cases rr;obtain⟨t,rfl⟩:=r;obtain⟨t',rfl⟩:=r';obtain⟨t2,rfl⟩:=r2;refine call_range_3 ∎ ?_ (nN (bE ∅));refine cC (IsRange.new ..) (zNn h0 h1) ?_;let I2:Inv X pins σ H1 {s1 with heap:=s1.heap.push {cls:=.type "range",data:=.fields #[.int i t, .int (-1) t', .int (-1) t2]},toks:=s1.toks}:=I1.kept λb o e=>mU _ e;refine⟨(s1.heap.push {cls:=.type "range",data:=.fields #[.int i t, .int (-1) t', .int (-1) t2]}).objs.size,[(s1.heap.push {cls:=.type "range",data:=.fields #[.int i t, .int (-1) t', .int (-1) t2]}).objs.size],_,_,H1,rfl,
     I2.kept (t':=s1.toks) λb o e=>mU _ e,zHm _ i (i+1).toNat, ?_,λb hb=>?_,q⟩
    ·let e1:i+((0:Nat):Int)*(-1)=i:=by simp
     let e2:((((i+1).toNat:Nat):Int))- ((0:Nat):Int)=S4 i (-1) (-1):=by rw[zAt i h0];lia
     show IsRangeIter _ _ (i+((0:Nat):Int)*(-1)) ((((i+1).toNat:Nat):Int)- ((0:Nat):Int)) (-1);rw[e1,e2];exact nP _ O
    ·let e:b=(s1.heap.push {cls:=.type "range",data:=.fields #[.int i t, .int (-1) t', .int (-1) t2]}).objs.size:=by simpa using hb
     subst e;exact I2.fpOk (mB _) (I2.hok.fresh (mB _))
theorem zHl{lo:Int}{n:Nat}{g:TG}{tb:TS}{D:uW}{σ:St}{H:Hp}(Pv:Nat->St->Hp->Prop)(h0:Pv 0 σ H)
  (hs:∀i σ H,i<n->Pv i σ H->g (.int (lo - i)) σ H λσ2 H2=>tb {D with nx:=Pv (i+1),ct:=Pv (i+1),bk:=D.nx} σ2 H2) (hd:∀σ H,Pv n σ H->D.nx σ H):zRj g tb D σ (ItD lo n) H:=by
 refine{λi m σ H=>m=n - i/\i<=n/\Pv i σ H,{n,by simp,mT _,h0}, ?_};rintro i m σ H ⟨rfl,hi,p⟩
 by_cases hlt:i<n
 ·refine .inr {hlt,Pv (i+1),λσ' H' p'=>{n - (i+1),∅,O,hlt,p'},λx H' y=>?_}
  obtain⟨e,y⟩:=y;subst e y;exact hs i σ _ hlt p
 ·let e:i=n:=by lia
  subst e;exact .inl {mB _,hd σ H p}
theorem zKz:wV X (.type "dict") (λxs H Q=>∃p kvs,xs= [.ref p]/\H p=Y (.dK kvs)/\∀l,H l=none->Q (.ref l) (upd H l (.dK kvs))):=by
 intro pins s σ H xs us Q I r h;ext yN h p kvs r2_ hq q;subst r2_;obtain⟨u,rfl,rx⟩:=jC r;cases rx;obtain⟨z,hd,vs,rel,dd⟩:=I.hok p _ hq;let hl:=rel...*;refine kt_call_dict hd dd ∅ λh' dd' hs=>?_;let hlt:(s⁻¹==A5)=false:=by
  let:=I.big;exact sN.mpr (rJ this)
 refine{.ref s⁻¹,_,I.laid (t':=s.toks) (h':=h') (λb o e=>?_) (mB _) (o:=.dK kvs) ⟨z,hlt,vs,rel,dd'⟩,O,q _ (I.hok.fresh (mB _))};let hb:b≠s⁻¹:=nX (nD e);rw[hs.2 b hb];exact mU _ e
end
structure Ddx(P:V3)(w:V4)(K:A7)(mg:Str->Option V0)(base:V5)(k:Nat)(x:Str)(ps:List Str)(dvs:List V)(sp:Sp):Prop where
 ex:∃(f:V1)(fd:V7)(ds:List V0),FnOk P w K mg base (CXE P w) k f fd ps sp/\Binds K fd ps ds/\Vals dvs ds/\A8 K (.ref f)=true/\mg x=Y (.ref f)
section
variable{X:Cx}{k j:Nat}{x:Str}{ps:List Str}{dvs:List V}{sp:Sp}{e:Expr}{es:List Expr}{t:TA}{p pos:Pos}{E:XK}
end
theorem Reps.set{H:Hp}{v:V}{t:T}(hv:Rep H v t):∀{xs:List V}{us:List T}(i:Nat),Reps H xs us->Reps H (xs.set i v) (us.set i t)
 | _,[],i,h=>by
  let e:_= []:=h;subst e;exact O
 | _,u::us,0,⟨x,r,e,h1,h2⟩=>by subst e;exact⟨v,r,O,hv,h2⟩
 | _,u::us,i+1,⟨x,r,e,h1,h2⟩=>by subst e;exact{x,_,O,h1,Reps.set hv i h2}
section
variable{X:Cx}
def rIns:V->List V->Hp->VK->Prop:=λx vs H Q=>∃l xs i y,x= .ref l/\vs= [.int i,y]/\H l=Y (.lst xs)/\0<=i/\i<=(xs...*:Int)/\xs...*<V9/\xs...*<=100000/\Q .non (upd H l (.lst (xs.take i.toNat++y::xs.drop i.toNat)))
theorem zQx:MtM X "list.insert" rIns:=by
 intro pins s σ H x vs v us Q I rx rv h;ext yS h l xs i y r4_ z_;ext yR z_ r5_ hH h0 h1 hz z_;ext oA z_ h5 q;subst r4_ r5_;cases rx;refine yN (rv.two) λu w r2_ ru rw'=>?_;subst r2_;obtain⟨t,rfl⟩:=ru;obtain⟨z,its,n,r,hl,e⟩:=I.lstM hH;let hfit:¬(!Builtin.List.listFitsIndex i)=true:=by
  rw[fitsIndex_both ∅ ∅];decide
 refine tS F.slot_list_insert ⟨_,e,O⟩ F.entry_list_insert (F.args_list_insert_3 _ _ _) (AutoSeq1.list_insert_list_int_val_1 l its.toArray n i t w hfit (by rw[nF];lia)) {e, ?_};refine{.non,_,I.lset (its':=its.take i.toNat++w::its.drop i.toNat) hH e ?_ ((r.take _).append (.cons rw' (r.drop _))) ?_,O,q}
 ·let hk:(if i<0 then(i+(its.toArray.size:Int)).toNat else min i.toNat its.toArray.size)=i.toNat:=by
   rw[mL ∅,nF]
   lia
  show(its.toArray.extract 0 (if i<0 then(i+(its.toArray.size:Int)).toNat else min i.toNat its.toArray.size)).push w++its.toArray.extract (if i<0 then(i+(its.toArray.size:Int)).toNat else min i.toNat its.toArray.size)=_;rw[hk];apply Array.ext';simp;exact pW (by rw[nG];exact mB _)
 ·rw[mK,nI,pH,nG]
  lia
end
theorem zCm{lo j:Int}(h:j<=lo):S4 lo j (-1)=lo - j:=by
 unfold S4;simp
 lia
theorem zXj{lo j:Int}(h0: -1<=j)(h:j<=lo)(h1:lo<100000):Builtin.Range.small lo j (-1)=true:=by
 unfold Builtin.Range.small;rw[zCm h];simp[Builtin.Range.rangeFitsLong]
 lia
section
variable{X:Cx}{tg:Expr}
def iDn(ta:TA):TI:=λσ H R=>ta σ H λvs H1=>∃i j:Int,vs= [.int i, .int j, .int (-1)]/\-1<=j/\j<=i/\i<100000/\R (ItD i (i - j).toNat) H1
theorem pi_dn{a b c:Expr}{ta:TA}{p pos:Pos}(hg:Gl X "range")(hm:X.mg "range" =none)(ha:PA X [a,b,c] ta)(hs:A3 [a,b,c] X.env= [(false,eval a X.env),(false,eval b X.env),(false,eval c X.env)]:=by rfl)(hs2:A3 [b,c] X.env= [(false,eval b X.env),(false,eval c X.env)]:=by rfl):
  PI X tg (.Call (.Name "range" p) [a,b,c] [] pos) (iDn ta):=by
 intro pins s σ H R I h;refine Call_ (gI I hg hm boot_range (rC (thn (ha pos pins s σ H _ I h) λus s1 ⟨vs,H1,I1,r1,q1⟩=>?_) (by rw[hs,hs2]) (by rw[hs2];rfl)));ext yA q1 i j e h0 h1 z_;ext oA z_ h2 q;subst e
 cases r1 with
 | cons r rr=>
  cases rr with
  | cons r' rr=>
   cases rr with
   | cons r2 rr=>
    cases rr;obtain⟨t,rfl⟩:=r;obtain⟨t',rfl⟩:=r';obtain⟨t2,rfl⟩:=r2;refine call_range_3 ∎ ?_ (nN (bE ∅));refine cC (IsRange.new ..) (zXj h0 h1 h2) ?_;let I2:Inv X pins σ H1 {s1 with heap:=s1.heap.push {cls:=.type "range",data:=.fields #[.int i t, .int j t', .int (-1) t2]},toks:=s1.toks}:=I1.kept λb o e=>mU _ e;refine⟨(s1.heap.push {cls:=.type "range",data:=.fields #[.int i t, .int j t', .int (-1) t2]}).objs.size,[(s1.heap.push {cls:=.type "range",data:=.fields #[.int i t, .int j t', .int (-1) t2]}).objs.size],_,_,H1,rfl,
     I2.kept (t':=s1.toks) λb o e=>mU _ e,zHm _ i (i - j).toNat, ?_,λb hb=>?_,q⟩
    ·let e1:i+((0:Nat):Int)*(-1)=i:=by simp
     let e2:((((i - j).toNat:Nat):Int))- ((0:Nat):Int)=S4 i j (-1):=by rw[zCm h1];lia
     show IsRangeIter _ _ (i+((0:Nat):Int)*(-1)) ((((i - j).toNat:Nat):Int)- ((0:Nat):Int)) (-1);rw[e1,e2];exact nP _ O
    ·let e:b=(s1.heap.push {cls:=.type "range",data:=.fields #[.int i t, .int j t', .int (-1) t2]}).objs.size:=by simpa using hb
     subst e;exact I2.fpOk (mB _) (I2.hok.fresh (mB _))
end
theorem yAi{X:Cx}{K:A7}(h:X.K=K):SlR X (yBe K):=by subst h;exact yAq
theorem zWh{X:Cx}{K:A7}(h:X.K=K):OpR X (binaryOp .Add) (yBa K):=by subst h;exact zYg
theorem kN{X:Cx}{K:A7}(h:X.K=K):wV X (.type "list") (λxs H Q=>∃p ys,xs= [.ref p]/\(SqL K H p ys\/SqT K H p ys)/\∀l,H l=none->Q (.ref l) (upd H l (.lst ys))):=by subst h;exact uK
theorem zSn{X:Cx}{K:A7}(h:X.K=K):wV X (.type "tuple") (λxs H Q=>∃p ys,xs= [.ref p]/\((SqL K H p ys/\∀l,H l=none->Q (.ref l) (upd H l (.tup ys)))\/(SqT K H p ys/\Q (.ref p) H))):=by subst h;exact zBn
theorem kB{a b:TS}{D:uW}{σ:St}{H:Hp}(h:∀R:TS,R=b->qR a R D σ H):qR a b D σ H:=h b O
theorem cut2{a b c:TS}{D:uW}{σ:St}{H:Hp}(h:∀R:TS,R=c->qR a (qR b R) D σ H):qR a (qR b c) D σ H:=h c O
theorem yEo{a b c d e:TS}{D:uW}{σ:St}{H:Hp}(h:∀R:TS,R=e->qR a (qR b (qR c (qR d R))) D σ H):qR a (qR b (qR c (qR d e))) D σ H:=h e O
theorem cut6{a b c d e f g:TS}{D:uW}{σ:St}{H:Hp}(h:∀R:TS,R=g->qR a (qR b (qR c (qR d (qR e (qR f R))))) D σ H):qR a (qR b (qR c (qR d (qR e (qR f g))))) D σ H:=h g O
end L2
namespace L2
open PySem PySem.Spec PyProof.Rows
theorem pS{X:Cx}{pos pos':Pos}{x:Str}{e:Expr}{te:TE}(i:Nat)(hN:X.N.Nodup)(he:PE X e te)(hi:X.N[i]? =Y x:=by rfl)(hx:Loc X.env.scope x:=by exact nN O)(hs:S1 e ↥(.Name x pos') pos.line X.env=pure false:=by rfl)(hf:X.fn x=true\/X.env.scope.names.lookup x=some .local:=by first | exact .inl O | exact .inr O | assumption):PS X (.Assign [.Name x pos'] e pos) (zRu te (jQ i)):=zGk hN hi hx he hs hf
theorem pD{X:Cx}{k j:Nat}{x:Str}{ps:List Str}{sp:Sp}{e:Expr}{es:List Expr}{t:TA}{p pos:Pos}(D:Dn X.prog X.w X.K X.mg X.base k x ps sp)(hr:Room j X.A)(ha:PA X (e::es) t)(hj:k<=j:=by first | decide | lia)(hg:Gl X x:=by rfl)(hdb:(x==("__debug__" :Str))=false:=by decide)
  (he:A3 (e::es) X.env=(false,eval e X.env)::A3 es X.env:=by rfl) (hpl:(S2 pos (A3 es X.env)).any (·.1)=false:=by rfl):PE X (.Call (.Name x p) (e::es) [] pos) (zCe sp [] E0 t):=zP D hr hj hg ha hdb he hpl
theorem pI{X:Cx}{x0 x:Str}{T:String}{e:Expr}{te:TE}{p p2 pos:Pos}(h0:X.mg x0=none)(b0:A2 x0=Y (.builtin "isinstance"))(hm:X.mg x=none)(hb:A2 x=Y (.type T))(he:PE X e te)(hT:T∈tyL:=by decide)(g1:Gl X x0:=by rfl)(g2:Gl X x:=by rfl)(hn0:x0≠ "__name__":=by decide)(hd0:(x0==("__debug__" :Str))=false:=by decide)(hn:x≠ "__name__":=by decide)(hd:(x==("__debug__" :Str))=false:=by decide)
  (h1:A3 [e, .Name x p2] X.env=(false,eval e X.env)::A3 [.Name x p2] X.env:=by rfl) (h2:(S2 pos (A3 [.Name x p2] X.env)).any (·.1)=false:=by rfl):PE X (.Call (.Name x0 p) [e, .Name x p2] [] pos) (tCB (λxs H Q=>∃x t,xs= [x, .ty T]/\tyS H x=Y t/\Q (.bl (zT t T)) H) (zAa te (zAa (tC (.ty T)) zGv))):=
 zM (zGs hT) g1 h0 b0 (zA he (zA (xZ (v:=.ty T) g2 hm hb O hn hd) zB) h1) hn0 hd0 h1 h2
theorem len1{α:Type}{us:List α}(h:us...*=1):∃a,us= [a]:=
 match us,h with
 | [a],_=>⟨a,O⟩
theorem len2{α:Type}{us:List α}(h:us...*=2):∃a b,us= [a,b]:=
 match us,h with
 | [a,b],_=>⟨a,b,O⟩
theorem len3{α:Type}{us:List α}(h:us...*=3):∃a b c,us= [a,b,c]:=
 match us,h with
 | [a,b,c],_=>⟨a,b,c,O⟩
theorem len4{α:Type}{us:List α}(h:us...*=4):∃a b c d,us= [a,b,c,d]:=
 match us,h with
 | [a,b,c,d],_=>⟨a,b,c,d,O⟩
end L2
section
open PySem L2
local macro_rules | `(tactic| walk_at "b0") => `(tactic| (intro _ _ _ _ _ _ us hl; cases List.eq_nil_of_length_eq_zero hl; rfl))
local macro_rules | `(tactic| walk_at "b1") => `(tactic| (intro _ _ _ _ _ _ us hl; obtain ⟨_,e⟩ := len1 hl; subst e; rfl))
local macro_rules | `(tactic| walk_at "b2") => `(tactic| (intro _ _ _ _ _ _ us hl; obtain ⟨_,_,e⟩ := len2 hl; subst e; rfl))
local macro_rules | `(tactic| walk_at "b3") => `(tactic| (intro _ _ _ _ _ _ us hl; obtain ⟨_,_,_,e⟩ := len3 hl; subst e; rfl))
local macro_rules | `(tactic| walk_at "b4") => `(tactic| (intro _ _ _ _ _ _ us hl; obtain ⟨_,_,_,_,e⟩ := len4 hl; subst e; rfl))
local macro_rules | `(tactic| walk_at "ln") => `(tactic| (intro vs H Q E h; repeat (first | (obtain ⟨e,_⟩ := h; subst e; rfl) | (obtain ⟨_,h⟩ := h))))
local macro_rules|`(tactic|walk_at "rd3")=>let a:Array Lean.Term:=(("zWl zMh zYv yCe tIsT zTj zGj yCv zXf zVn zWc zVg zMe zCa zUl zHv qR zTi zRu jQ yFa yBk yBx zUs tOp tUn uV tC zCe zAa zGv zPs tB yFb tOr yBz zPc yCr zTb tIf tCB tBM zHv zBo zUq zIs tSl zKj yDd zWg zZg yEi zOz zOh zJq rI0 rI rU rEq rNe zUh yEb zXn yEx yDg CMul yDx zXt List.getElem?_cons_zero List.getElem?_cons_succ List.set_cons_zero List.set_cons_succ List.map_cons List.map_nil List.length_cons List.length_nil Nat.reduceAdd Option.join_some Option.join_none".splitOn " ").map fun n=>⟨Lean.mkIdent n.toName⟩).toArray;`(tactic|first|(dsimp only [$[$a:term],*];try walk_at "rd3s")|walk_at "rd3s")
local macro_rules|`(tactic|walk_at "rd3s")=>let a:Array Lean.Term:=(("zWl zMh zYv yCe tIsT zTj zGj yCv zXf zVn zWc zVg zMe zCa zUl zHv yEw nox_K zVq qR zTi zRu jQ yFa yBk yBx zUs tOp tUn uV tC zCe zAa zGv zPs tB yFb tOr yBz zPc yCr zTb tIf tCB tBM zHv zBo zUq zIs tSl zKj yDd zWg zZg yEi yAj zOz zOh zJq rI0 rI rU rEq rNe zUh yEb zXn yEx yDg CMul yDx zXt List.append_nil List.getElem?_cons_zero List.getElem?_cons_succ List.set_cons_zero List.set_cons_succ List.map_cons List.map_nil List.length_cons List.length_nil sizeLine_eq Nat.reduceAdd Nat.reduceLeDiff Option.join_some Option.join_none Option.some.injEq V.int.injEq V.str.injEq V.bl.injEq V.ref.injEq V.ty.injEq List.cons.injEq and_true true_and and_self exists_eq_left' exists_eq_left exists_and_left exists_and_right decide_eq_true_eq Bool.not_eq_eq_eq_not Bool.not_true Bool.not_false decide_eq_false_iff_not Int.reduceLT Int.reduceLE Int.reduceNeg Int.reducePow Int.reduceAdd Int.reduceSub Int.reduceMul Int.reduceToNat zUd Nat.reduceLT Nat.reducePow or_true true_or if_true if_false Bool.false_eq_true ite_true ite_false reduceCtorEq".splitOn " ").map fun n=>⟨Lean.mkIdent n.toName⟩).toArray;`(tactic|simp only [$[$a:term],*])
local macro_rules | `(tactic| walk_at "sc") => `(tactic| exact ⟨rfl,rfl,rfl,by decide +kernel,rfl,by decide +kernel,by decide +kernel⟩)
local macro_rules | `(tactic| walk_at "st") => `(tactic| simp only [zBl,List.map_cons,List.map_nil,List.length_cons,List.length_nil,Nat.reduceAdd,Nat.reduceSub,List.replicate_succ,List.replicate_zero,List.cons_append,List.nil_append])
local macro_rules | `(tactic| walk_at "wu") => `(tactic| with_unfolding_all rfl)
namespace K44
open PySem L2
seal L2.PSs L2.PS L2.PE L2.PT L2.PW L2.PA L2.PI L2.PG L2.PGs L2.PPs L2.PTs
def top(i:Nat):V6:=PySem.Challenge.pw_cabinet_k44_differences.main.body.getD i (.Pass {0,0,0,0})
abbrev zWt:V6:=top 56
abbrev yEr:V6:=top 60
noncomputable def qV(ns:List Int)(k:Int):Int:=
 let m:=if ns= [] then k*7919 else(k*7919+k / ns...**104729+ns.getD (k % ns...*).toNat 0*48271)% 1000003
 (m*m / 11+13*m)% 1000003
theorem vT(ns:List Int)(k:Int):0<=qV ns k:=rE _ ∎
theorem qE(ns:List Int)(k:Int):qV ns k<1000003:=rF _ ∎
def gJ(K:A7):Sp:=λvs H Q _=>∃(a:V1)(ns:List Int)(k:Int),vs= [.ref a, .int k]/\SqL K H a (ns.map V.int)/\ns...*<=63/\0<=k/\k<1000000/\∀H',Same H H'->Q (.int (qV ns k)) H'
theorem zFq{K:A7}{H:Hp}{Q:VK}{E:XK}{a:V1}{ns:List Int}{k:Int}(hS:SqL K H a (ns.map V.int))(h63:ns...*<=63)(h0:0<=k)(h1:k<1000000)(q:∀H',Same H H'->Q (.int (qV ns k)) H'):
  gJ K [.ref a, .int k] H Q E:=⟨a,ns,k,O,hS,h63,h0,h1,q⟩
section
variable{P:V3}{w:V4}{K:A7}{mg:Str->Option V0}{base:V5}{f:V1}{fd:V7}
theorem scCell:zY ["_law_script","_law_k","_law_more"] ["_law_script","_law_k"] (zN zWt):=by walk_at "sc"
theorem zYl(F:Fun K "_law_cell" "_law_cell" zWt f fd)(B:Bl mg):FnOk P w K mg base CX0 1 f fd ["_law_script","_law_k"] (gJ K):=by
 refine F.ok scCell (λvs H Q E h=>?_) (λc A o s H vs Q E hr h=>?_)
 ·ext vZ h a ns k r3_ _
  subst r3_
  rfl
 ext yC h a ns k r3_ hS z_;ext xI z_ h63 h0 h1 q;subst r3_;let nd:=scCell.nd;let hu0:=hr.units0;refine{_,(zE (pS 2 nd (zI jV (pv 1) zF))
  (zE (zS (zQ (zYh hu0) (pv 0) (yG zB) (zO _)) (zE (pS 2 nd (zI xH (pv 2) (zI jV (zI yE (pv 1) (zM yI O B.len yV (zA (pv 0) zB))) zF)))
  (zG (pS 2 nd (zI yD (zI xH (pv 2) (zI jV (yJ zW (pv 0) (zI yD (pv 1) (zM yI O B.len yV (zA (pv 0) zB))) (λ_ _=>O)) zF)) zF)))) zL)
  (zG (zK (zI yD (zI xH (zI yE (zI jV (pv 2) (pv 2)) zF) (zI jV zF (pv 2))) zF))))), ?_}
 walk_at "st";lk;intro p hp;let hS':=(zD hp (.lst [])).seq hS;refine yDj hS' (SqL.of zC) (zRm ns) O {_,O, ?_};rw[zVb]
 by_cases hn:ns= []
 ·subst hn
  refine zGr {.inl ∅, ?_};exact q _ (zD hp _)
 ·let hpos:0<ns...*:=rZ.mpr hn
  let e1:(ns.map V.int).isEmpty=false:=by cases ns with | nil=>exact absurd O hn | cons _ _=>rfl
  rw[mO O,e1];let hl:(ns.map V.int)...*=ns...*:=mC _;let hm0:0<=k % (ns...*:Int):=rE _ ∅;let hm1:k % (ns...*:Int)<ns...*:=rF _ ∅;refine zGp {ns.map V.int,hS',by rw[hl];lia,ns.map V.int,hS',by rw[hl];lia, ?_};rw[hl];refine yL hS' (zSs (d:=.int 0) hm0 (by rw[hl];exact hm1)) {ns.getD (k % ns...*).toNat 0, ?_, .inl ?_, ?_}
  ·simp[List.getD,mW]
  ·generalize (k*7919+k / ns...**104729+ns.getD (k % ns...*).toNat 0*48271)=z
   lia
  ·let e:qV ns k=_:=rfl
   let e2:qV ns k=(((k*7919+k / ns...**104729+ns.getD (k % ns...*).toNat 0*48271)% 1000003*((k*7919+k / ns...**104729+ns.getD (k % ns...*).toNat 0*48271)% 1000003)/ 11+13*((k*7919+k / ns...**104729+ns.getD (k % ns...*).toNat 0*48271)% 1000003))% 1000003):=by
    unfold qV;rw[mL hn]
   rw[<-e2];exact q _ (zD hp _)
def zOm:Sp:=λvs H Q _=>∃(m:Int),vs= [.int m]/\0<=m/\m<2000000/\∀(i:Int),-(10 ^ 12)<=i->i<=10 ^ 12->∀H',Same H H'->Q (.int i) H'
theorem scNum:zY ["_law_more"] ["_law_more"] (zN yEr):=by walk_at "sc"
theorem yDl(F:Fun K "_law_number_by" "_law_number_by" yEr f fd):FnOk P w K mg base CX0 1 f fd ["_law_more"] zOm:=by
 refine F.ok scNum (λvs H Q E h=>?_) (λc A o s H vs Q E hr h=>?_)
 ·ext oEA h m r1_ _
  subst r1_
  rfl
 ext jZ h m r1_ h0 h1 q;subst r1_;let nd:=scNum.nd;refine{_,(zE (zS (zQ xG (zI yD (pv 0) zF) zF (zO _)) (zG (zK (zI wP (zI yD (zI yE (pv 0) zF) zF) zF))) zL)
  (zE (zS (zQ xG (zI yD (pv 0) zF) zF (zO _)) (zG (zK (zI wP (zI yD (zI zAv (pv 0) zF) (zI xH (zI jV zF (zI zAv zF zF)) zF)) (zI zAv zF zF)))) zL)
  (zG (zK (yJ zW (yG (zA (zI zAv zF zF) (zA (wF xM (zI zAv zF zF)) (zA (zI wP (zI zAv zF zF) zF) (zA zF (zA zF (zA (wF xM zF) (zA (zI zAv zF zF) (zA zF zB))))))))) (zI yD (zI yE (pv 0) zF) zF) (λ_ _=>O)))))), ?_}
 walk_at "st";lk;split
 ·exact q _ ∅ ∅ _ (Same.refl H)
 ·split
  ·refine{∅,q _ ?_ ?_ _ (Same.refl H)}
   ·let:=rE (m ^ 4) (show(2000000000001:Int)≠0 by decide)
    lia
   ·let:=rF (m ^ 4) (show(0:Int)<2000000000001 by decide)
    lia
  ·intro p hp
   obtain⟨v,hv,hm⟩:=uF (xs:=[V.int 1000000000000,V.int (-1000000000000),V.int 999999999999,V.int 0,V.int 1,V.int (-1),V.int 100000000000,V.int 999]) (i:=m / 3 % 8) ∅ (by simp only[nI,pP];lia);refine yL (SqL.of zC) hv ?_;simp only[mI,pE,rL] at hm;rcases hm with rfl | rfl | rfl | rfl | rfl | rfl | rfl | rfl<;>exact q _ ∎ ∎ _ (zD hp _)
abbrev zVy:V6:=top 57
def zDq:Sp:=λvs H Q _=>∃(m:Int),vs= [.int m]/\0<=m/\m<2000000/\∀(x:List Nat),yY x=true->∀H',Same H H'->Q (.str (tx x)) H'
theorem scName:zY ["_law_more","_law_letters","_law_size_here","_law_at","_law_word","_law_by","_law_signs_here"] ["_law_more"] (zN zVy):=by walk_at "sc"
theorem zYu(F:Fun K "_law_name_by" "_law_name_by" zVy f fd)(B:Bl mg):FnOk P w K mg base CX0 1 f fd ["_law_more"] zDq:=by
 refine F.ok scName (λvs H Q E h=>?_) (λc A o s H vs Q E hr h=>?_)
 ·ext oEA h m r1_ _
  subst r1_
  rfl
 ext jZ h m r1_ h0 h1 q;subst r1_;let nd:=scName.nd;refine{_,(zE (zGk (i:=1) nd O (bQ O) zU)
  (zE (pS 2 nd (yJ zW (yG (zA zF (zA (zI xH zF (zI yD (zI yE (pv 0) zF) zF)) (zA (zI xH zF (zI yD (zI yE (pv 0) zF) zF)) zB)))) (zI yD (pv 0) zF) (λ_ _=>O)))
  (zE (zS (zQ xG (zI yD (zI yE (pv 0) zF) zF) zF (zO _)) (zE (pS 3 nd (zI yD (zI yE (pv 0) zF) (pv 2)))
  (zE (pS 4 nd (zI qJ (zI qJ (zI uO zU (pv 3)) (yJ zDf (pv 1) (zI yD (zI yE (pv 0) zF) zF) (λ_ _=>O))) (zI uO zU (zI wP (zI wP (pv 2) (pv 3)) zF))))
  (zG (zK (pv 4))))) zL)
  (zE (zGk (i:=5) nd O (bQ O) (zI xH zF (zI yD (zI yE (pv 0) zF) zF)))
  (zE (kF (i:=6) nd O (nN O) (own:=["_law_j"]) (F:=[("_law_letters",1),("_law_more",0),("_law_by",5)]) {O,tb_g%,tb_g%,tb_g%,(.cons O O O (.cons O O O (.cons O O O .nil)))} O (wJ O B.range (zA (zI wP (pv 2) zF) zB)) (λ_ _ _ _=>yF (i:=0) (by show(xX ["_law_j"] [("_law_letters",1),("_law_more",0),("_law_by",5)]).Nodup;decide+kernel) O (nN O)) (λ_ _ _ _=>xJ) (λ_ _ _ _=>(yJ zDf (pv 1) (zI yD (zI xH (zI yE (pv 2) zF) (zI jV (pv 0) (pv 3))) zF) (λ_ _=>O))))
  (zG (zK (zI qJ (yJ zDf (pv 1) (zI yD (zI yE (pv 0) zF) zF) (λ_ _=>O)) (qF PySem.F.plainAttrs_str PySem.F.slot_str_join PySem.F.type_str_join zQp zU (zA (pv 6) zB)))))))))), ?_}
 walk_at "st";lk;intro p hp;obtain⟨v,hv,hm⟩:=uF (xs:=[V.int 1,V.int (1+m / 3 % 4),V.int (1+m / 3 % 12)]) (i:=m % 3) ∅ (by simp only[nI,pP];lia);obtain⟨n,rfl,n1,n12⟩:∃n:Int,v= .int n/\1<=n/\n<=12:=by
  simp only[mI,pE,rL] at hm;rcases hm with rfl | rfl | rfl<;>exact{_,O,∅,∅}
 refine yL (SqL.of zC) hv ?_;simp only[ts_a,zEj,zVw];split
 ·let a0:=rE (m / 72) (show n≠0 by lia)
  let a1:=rF (m / 72) (show 0<n by lia);refine oEA (zXm (i:=m / 864 % 26) ∅ ∅) λc hc hcl=>?_;refine zUt n O ∅ ∎ ∅ (nA ∅ (zDb ∎ (by rw[zJz];exact hc) {_,O, ?_,n,O,by decide,∅,∅, ?_, ?_}))
  ·rw[qC,qC];simp only[sF,mY];lia
  ·rw[zAm,qC,qC];simp only[mK,sF,mY];lia
  ·let e:tx (List.replicate (m / 72 % n).toNat 97)++tx [c]++tx (List.replicate (n - m / 72 % n - 1).toNat 97)=tx (List.replicate (m / 72 % n).toNat 97++ [c]++List.replicate (n - m / 72 % n - 1).toNat 97):=by rw[zAm,zAm]
   rw[e];refine q _ (zHj ?_ ?_ ?_) _ (zD hp _)
   ·simp only[mK,sF,mY];lia
   ·cases e:(m / 72 % n).toNat with
    | zero=>exact⟨c,_,O,hcl⟩
    | succ k=>exact{97,_,O,zNi}
   ·intro d hd
    simp only[mX,List.mem_replicate,nC] at hd;rcases hd with(⟨_,rfl⟩| rfl)|⟨_,rfl⟩
    ·exact zCl zNi
    ·exact zCl hcl
    ·exact zCl zNi
 ·refine zBz n O ∅ ∅ (zAe (λi ys H'=>Same (upd H p (.lst [V.int 1,V.int (1+m / 3 % 4),V.int (1+m / 3 % 12)])) H'/\∃cs:List Nat,ys=(cs.map λc=>tx [c]).map V.str/\cs...*=i/\∀c∈cs,c∈letL++zEb) (by rw[mQ];lia) {Same.refl _,[],O,O,λ_ h=>nomatch h} ?_ ?_)
  ·rintro i ys H' hi _ ⟨hs,cs,rfl,hl,hcs⟩
   lk;refine oEA (yCx (i:=(m / 7+(0+(i:Int))*(1+m / 11 % 35))% 36) ∅ ∅) λc hc hcl=>?_;refine{.inl ∅,zDb ∎ (by rw[zJz];exact hc) {hs,cs++ [c],by simp,by simp[hl], ?_}};intro d hd;rcases mX.mp hd with z | z
   ·exact hcs d z
   ·rw[nC.mp z];exact hcl
  ·rintro ys H' hl ⟨hs,cs,rfl,hlen,hcs⟩ p' hp'
   refine oEA (zXm (i:=m / 72 % 26) ∅ ∅) λc hc hcl=>?_;let hfl:((cs.map λc=>tx [c]).map ts).flatten=cs:=by
    clear hlen hl hcs
    induction cs with
    | nil=>rfl
    | cons d r ih=>simp only[mV,bC,ih,wI];rfl
   refine zDb ∎ (by rw[zJz];exact hc) {O,p',cs.map λc=>tx [c],O,O,SqL.of zC,by rw[hfl];lia,_,O,_,O, ?_, ?_}
   ·rw[hfl,qC,qC,mY];lia
   ·rw[hfl,zAm]
    refine q _ (zHj ?_ ⟨c,cs,O,hcl⟩ ?_) _ ((zD hp _).trans (hs.trans (zD hp' _)))
    ·show(c::cs)...*<=12
     rw[nI];lia
    ·intro d hd
     rcases mI.mp hd with z | z
     ·rw[z];exact zCl hcl
     ·exact hcs d z
abbrev zOf:V6:=top 58
abbrev zTw:V6:=top 59
def zQi:Sp:=λvs H Q _=>vs= []/\Q (.str (tx uU)) H
theorem scSigns:zY ["_law_some"] [] (zN zOf):=by walk_at "sc"
theorem zUm(F:Fun K "_law_signs" "_law_signs" zOf f fd):FnOk P w K mg base CX0 1 f fd [] zQi:=by
 refine F.ok scSigns (by walk_at "ln") λc A o s H vs Q E hr h=>?_;obtain⟨rfl,q⟩:=h;let nd:=scSigns.nd;refine{_,(zE (pS 0 nd zU)
  (zG (zK (zI qJ (pv 0) zU)))), ?_}
 walk_at "st";lk;refine{by decide, ?_};rw[yEh];exact q
def zJo:Sp:=λvs H Q _=>∃(m:Int),vs= [.int m]/\0<=m/\m<2000000/\∀(x:List Nat),zDp x=true->∀H',Same H H'->Q (.str (tx x)) H'
theorem scText:zY ["_law_more","_law_signs_here","_law_size_here","_law_half","_law_sign","_law_by"] ["_law_more"] (zN zTw):=by walk_at "sc"
theorem zYt(F:Fun K "_law_text_by" "_law_text_by" zTw f fd)(B:Bl mg)(G_law_signs:Dn P w K mg base 1 "_law_signs" [] zQi):FnOk P w K mg base CX0 2 f fd ["_law_more"] zJo:=by
 refine F.ok scText (λvs H Q E h=>?_) (λc A o s H vs Q E hr h=>?_)
 ·ext oEA h m r1_ _
  subst r1_
  rfl
 ext jZ h m r1_ h0 h1 q;subst r1_;let nd:=scText.nd;refine{_,(zE (zGk (i:=1) nd O (bQ O) (yFc G_law_signs hr ∅ O))
  (zE (pS 2 nd (yJ zW (yG (zA (zI yD (zI yE (pv 0) zF) zF) (zA (zI yD (zI yE (pv 0) zF) zF) (zA (zI yD (zI yE (pv 0) zF) zF) zB)))) (zI yD (pv 0) zF) (λ_ _=>O)))
  (zE (zS (zQ xG (zI yD (zI yE (pv 0) zF) zF) zF (zO _)) (zE (pS 3 nd (zI yE (pv 2) zF))
  (zE (pS 4 nd (yJ zDf (pv 1) (zI yD (zI yE (pv 0) zF) zF) (λ_ _=>O)))
  (zG (zK (zI qJ (zI uO zU (pv 3)) (zI uO (pv 4) (zI wP (pv 2) (pv 3)))))))) zL)
  (zE (zGk (i:=5) nd O (bQ O) (zI xH zF (zI yD (zI yE (pv 0) zF) zF)))
  (zG (zK (qF PySem.F.plainAttrs_str PySem.F.slot_str_join PySem.F.type_str_join zQp zU (zA (xW (own:=["_law_j"]) (F:=[("_law_signs_here",1),("_law_more",0),("_law_by",5)]) {O,tb_g%,tb_g%,tb_g%,(.cons O O O (.cons O O O (.cons O O O .nil)))} O (wJ O B.range (zA (pv 2) zB)) (λ_ _ _ _=>yF (i:=0) (by show(xX ["_law_j"] [("_law_signs_here",1),("_law_more",0),("_law_by",5)]).Nodup;decide+kernel) O (nN O)) (λ_ _ _ _=>xJ) (λ_ _ _ _=>(yJ zDf (pv 1) (zI yD (zI xH (zI yE (pv 2) zF) (zI jV (pv 0) (pv 3))) zF) (λ_ _=>O)))) zB)))))))), ?_}
 walk_at "st";lk;refine{O,λp hp=>?_};obtain⟨v,hv,hm⟩:=uF (xs:=[V.int (m / 5 % 4),V.int (m / 5 % 9),V.int (m / 5 % 31)]) (i:=m % 3) ∅ (by simp only[nI,pP];lia);obtain⟨n,rfl,n0,n30⟩:∃n:Int,v= .int n/\0<=n/\n<=30:=by
  simp only[mI,pE,rL] at hm;rcases hm with rfl | rfl | rfl<;>exact{_,O,∅,∅}
 refine yL (SqL.of zC) hv ?_;simp only[ts_q,zEj,zVw];split
 ·refine oEA (zUv (i:=m / 465 % 94) ∅ ∅) λc hc hcl=>?_
  refine nEA n O (zDb ∎ hc {by decide,∅,∅,n,O,_,O,(show(1:Nat)<=1000 by decide),∅,∅, ?_, ?_})
  ·rw[wI,zEj,qC,qC];simp only[sF];lia
  ·rw[wI,zEj,zAm]
   refine q _ (zHo ?_ ?_) _ (zD hp _)
   ·simp only[mK,sF];lia
   ·intro d hd
    simp only[mX,List.mem_replicate] at hd;rcases hd with⟨_,rfl⟩|⟨_,rfl⟩
    ·exact yCm
    ·exact hcl
 ·refine zMs O n O ∅ ∅ (zAe (λi ys H'=>Same (upd H p (.lst [V.int (m / 5 % 4),V.int (m / 5 % 9),V.int (m / 5 % 31)])) H'/\∃cs:List Nat,ys=(cs.map λc=>tx [c]).map V.str/\cs...*=i/\∀c∈cs,c∈uU) (by rw[mQ];lia) {Same.refl _,[],O,O,λ_ h=>nomatch h} ?_ ?_)
  ·rintro i ys H' hi _ ⟨hs,cs,rfl,hl,hcs⟩
   lk;refine oEA (zUv (i:=(m / 7+(0+(i:Int))*(1+m / 13 % 93))% 94) ∅ ∅) λc hc hcl=>?_;refine{.inl ∅,zDb ∎ hc {hs,cs++ [c],by simp,by simp[hl], ?_}};intro d hd;rcases mX.mp hd with z | z
   ·exact hcs d z
   ·rw[nC.mp z];exact hcl
  ·rintro ys H' hl ⟨hs,cs,rfl,hlen,hcs⟩ p' hp'
   refine{p',cs.map λc=>tx [c],O,O,SqL.of zC,by rw[zLs];lia, ?_};rw[zLs];exact q _ (zHo ∅ hcs) _ ((zD hp _).trans (hs.trans (zD hp' _)))
abbrev zFs:V6:=top 61
def zAw(K:A7)(d:Nat):Sp:=λvs H Q _=>∃(a:V1)(ns:List Int)(k:Int),vs= [.ref a, .int k, .int d]/\SqL K H a (ns.map V.int)/\ns...*<=63/\0<=k/\(k+2)*5 ^ d<=1000000/\
 ∀v H' t,Same H H'->Rep H' v t->Nice d t->Q v H'
theorem scThing:zY ["_law_script","_law_k","_law_deep","_law_more","_law_kind_here","_law_some","_law_result","_law_j"] ["_law_script","_law_k","_law_deep"] (zN zFs):=by walk_at "sc"
def DInv(Hl:Hp)(p2:V1)(ts:List T)(i:Nat)(H2:Hp):Prop:=∃(ps:List (Key×V))(ks:List (List Nat))(us:List T),H2 p2=Y (.dK ps)/\ps.map (·.1)=ks.map nK/\Reps Hl (ps.map (·.2)) us/\ks.Nodup/\(∀n∈ks,yY n=true)/\(∀u∈us,u∈ts)/\ks...*<=i
theorem yDv(e:Nat):(1:Int)<=5 ^ e:=by
 induction e with
 | zero=>decide
 | succ n ih=>rw[Int.pow_succ];lia
theorem zRh(F:Fun K "_law_thing_by" "_law_thing_by" zFs f fd)(B:Bl mg)(G_law_cell:Dn P w K mg base 1 "_law_cell" ["_law_script","_law_k"] (gJ K))(G_law_number_by:Dn P w K mg base 1 "_law_number_by" ["_law_more"] zOm)
  (G_law_text_by:Dn P w K mg base 2 "_law_text_by" ["_law_more"] zJo):FnOk P w K mg base CX0 3 f fd ["_law_script","_law_k","_law_deep"] (zAw K 0):=by
 refine F.ok scThing (λvs H Q E h=>?_) (λc A o s H vs Q E hr h=>?_)
 ·ext vZ h a ns k r3_ _
  subst r3_
  rfl
 ext yC h a ns k r3_ hS z_;ext xI z_ h63 h0 h1 q;subst r3_;let nd:=scThing.nd;refine{_,(zE (pS 3 nd (zP G_law_cell hr ∅ O (zA (pv 0) (zA (pv 1) zB))))
  (zE (pS 4 nd (zI yD (pv 3) (yJ zW (yG (zA zF (zA zF zB))) (yP wD O B.int vL (zA (yW qS (pv 2) zF (zO _)) zB)) (λ_ _=>O))))
  (zE (zS (zQ xG (pv 4) zF (zO _)) (zG (zK (yJ zW (yG (zA jD (zA wZ (zA wZ zB)))) (zI yD (zI yE (pv 3) zF) zF) (λ_ _=>O)))) zL)
  (zE (zS (zQ kA (pv 4) zF (zO _)) (zG (zK (zP G_law_number_by hr ∅ O (zA (zI yE (pv 3) zF) zB)))) zL)
  (zE (zS (zQ kA (pv 4) zF (zO _)) (zG (zK (zP G_law_text_by hr ∅ O (zA (zI yE (pv 3) zF) zB)))) zL)
  zHq))))), ?_}
 walk_at "st";lk;refine zFq hS h63 h0 ∅ λH1 g1 p hp=>yL (SqL.of zC) (v:=.int 5) O {_,O,5,O,by decide, ?_};let c0:=vT ns k;let c1:=qE ns k;let gp:=g1.trans (zD hp (.lst [V.int 5,V.int 9]));split
 ·intro p2 hp2
  refine nEA _ O ?_;obtain⟨v,hv,hm⟩:=uF (xs:=[V.non,V.bl true,V.bl false]) (i:=qV ns k / 9 % 3) ∅ (by simp only[nI,pP];lia);refine yL (SqL.of zC) hv ?_;simp only[mI,pE,rL] at hm;rcases hm with rfl | rfl | rfl
  ·exact q _ _ .non (gp.trans (zD hp2 _)) O trivial
  ·exact q _ _ (.bl true) (gp.trans (zD hp2 _)) O trivial
  ·exact q _ _ (.bl false) (gp.trans (zD hp2 _)) O trivial
 ·split
  ·exact{_,O,_,O,∅,∅,λi i0 i1 H2 g2=>q _ _ (.int i) (gp.trans g2) O ⟨i0,i1⟩}
  ·rw[mO ∅]
   exact{_,O,_,O,∅,∅,λx hx H2 g2=>q _ _ (.str x) (gp.trans g2) O hx}
theorem zSo{e:Nat}(F:Fun K "_law_thing_by" "_law_thing_by" zFs f fd)(B:Bl mg)(G_law_cell:Dn P w K mg base 1 "_law_cell" ["_law_script","_law_k"] (gJ K))(G_law_number_by:Dn P w K mg base 1 "_law_number_by" ["_law_more"] zOm)
  (G_law_text_by:Dn P w K mg base 2 "_law_text_by" ["_law_more"] zJo) (G_law_name_by:Dn P w K mg base 1 "_law_name_by" ["_law_more"] zDq)
  (G_law_thing_by:Dn P w K mg base (3+e) "_law_thing_by" ["_law_script","_law_k","_law_deep"] (zAw K e)):FnOk P w K mg base CX0 (3+e+1) f fd ["_law_script","_law_k","_law_deep"] (zAw K (e+1)):=by
 refine F.ok scThing (λvs H Q E h=>?_) (λc A o s H vs Q E hr h=>?_)
 ·ext vZ h a ns k r3_ _
  subst r3_
  rfl
 ext yC h a ns k r3_ hS z_;ext xI z_ h63 h0 h1 q;subst r3_;let nd:=scThing.nd;let hu:=wR hr;refine{_,(zE (pS 3 nd (zP G_law_cell hr ∅ O (zA (pv 0) (zA (pv 1) zB))))
  (zE (pS 4 nd (zI yD (pv 3) (yJ zW (yG (zA zF (zA zF zB))) (yP wD O B.int vL (zA (yW qS (pv 2) zF (zO _)) zB)) (λ_ _=>O))))
  (zE (zS (zQ xG (pv 4) zF (zO _)) (zG (zK (yJ zW (yG (zA jD (zA wZ (zA wZ zB)))) (zI yD (zI yE (pv 3) zF) zF) (λ_ _=>O)))) zL)
  (zE (zS (zQ kA (pv 4) zF (zO _)) (zG (zK (zP G_law_number_by hr ∅ O (zA (zI yE (pv 3) zF) zB)))) zL)
  (zE (zS (zQ kA (pv 4) zF (zO _)) (zG (zK (zP G_law_text_by hr ∅ O (zA (zI yE (pv 3) zF) zB)))) zL)
  (zE (kF (i:=5) nd O (nN O) (own:=["_law_j"]) (F:=[("_law_script",0),("_law_k",1),("_law_deep",2)]) {O,tb_g%,tb_g%,tb_g%,(.cons O O O (.cons O O O (.cons O O O .nil)))} O (wJ O B.range (zA (zI yD (zI yE (pv 3) zF) zF) zB)) (λ_ _ _ _=>yF (i:=0) (by show(xX ["_law_j"] [("_law_script",0),("_law_k",1),("_law_deep",2)]).Nodup;decide+kernel) O (nN O)) (λ_ _ _ _=>xJ) (λ_ _ _ _=>(zP G_law_thing_by hr ∅ O (zA (pv 1) (zA (zI xH (zI xH (zI jV (pv 2) zF) zF) (pv 0)) (zA (zI wP (pv 3) zF) zB))))))
  (zE (zS (zQ kA (pv 4) zF (zO _)) (zG (zK (pv 5))) zL)
  (zE (pS 6 nd jR)
  (zE (wU PassesOwn.never O (wJ O B.range (zA (zM yI O B.len yV (zA (pv 5) zB)) zB)) (yF (i:=7) nd O (nN O)) (zG (kE hu (pv 6) (zP G_law_name_by hr ∅ O (zA (zI xH (zI yE (zP G_law_cell hr ∅ O (zA (pv 0) (zA (zI xH (zI xH (zI jV (pv 1) zF) zF) (pv 7)) zB))) zF) (pv 7)) zB)) (yJ zW (pv 5) (pv 7) (λ_ _=>O)) O)))
  (zG (zK (pv 6)))))))))))), ?_}
 walk_at "st";lk;let hpow:(1:Int)<=5 ^ e:=yDv e;let hpow2:(5:Int)^ (e+1)=5 ^ e*5:=Int.pow_succ ..;let h2:(k+2)*5*5 ^ e<=1000000:=by rw[Int.mul_assoc,Int.mul_comm 5 (5 ^ e),<-hpow2];exact h1
 let h3:(k+2)*5<=1000000:=by
  let:(k+2)*5*1<=(k+2)*5*5 ^ e:=Int.mul_le_mul_of_nonneg_left hpow ∅
  lia
 refine zFq hS h63 h0 ∅ λH1 g1 p hp=>yL (SqL.of zC) (v:=.int 9) ?_ {_,O,9,O,by decide, ?_}
 ·rw[mO ∅];rfl
 let c0:=vT ns k;let c1:=qE ns k;let gp:=g1.trans (zD hp (.lst [V.int 5,V.int 9]));split
 ·intro p2 hp2
  refine nEA _ O ?_;obtain⟨v,hv,hm⟩:=uF (xs:=[V.non,V.bl true,V.bl false]) (i:=qV ns k / 9 % 3) ∅ (by simp only[nI,pP];lia);refine yL (SqL.of zC) hv ?_;simp only[mI,pE,rL] at hm;rcases hm with rfl | rfl | rfl
  ·exact q _ _ .non (gp.trans (zD hp2 _)) O trivial
  ·exact q _ _ (.bl true) (gp.trans (zD hp2 _)) O trivial
  ·exact q _ _ (.bl false) (gp.trans (zD hp2 _)) O trivial
 ·split
  ·exact{_,O,_,O,∅,∅,λi i0 i1 H2 g2=>q _ _ (.int i) (gp.trans g2) O ⟨i0,i1⟩}
  ·split
   ·exact{_,O,_,O,∅,∅,λx hx H2 g2=>q _ _ (.str x) (gp.trans g2) O hx}
   ·refine zBz _ O ∅ ∅ (zAe (λi ys H'=>Same (upd H1 p (.lst [V.int 5,V.int 9])) H'/\∃ts,Reps H' ys ts/\ts...*=i/\NiceL e ts) (by rw[mQ];lia) {Same.refl _,[],O,O,trivial} ?_ ?_)
    ·rintro i ys H' hi _ ⟨hs,ts,hR,hl,hN⟩
     lk;refine{a,ns,k*5+1+(0+(i:Int)), ?_,hs.seq (gp.seq hS),h63,∅, ?_,λv H2 t g2 hv hn=>{hs.trans g2,ts++ [t],Reps.snoc hv (Reps.same g2 _ _ hR),by simp[hl],NiceL.snoc hn hN}}
     ·rw[show((e+1:Nat):Int)- 1=(e:Int) by lia]
     ·let:(k*5+1+(0+(i:Int))+2)*5 ^ e<=(k+2)*5*5 ^ e:=Int.mul_le_mul_of_nonneg_right ∅ ∅
      lia
    ·rintro ys H' hl ⟨hs,ts,hR,hlen,hN⟩ p' hp'
     let gl:=gp.trans (hs.trans (zD hp' (.lst ys)));let hR':Reps (upd H' p' (.lst ys)) ys ts:=Reps.same (zD hp' _) _ _ hR
     by_cases h7:qV ns k % 9<7
     ·rw[mO h7]
      exact q _ _ (.lst ts) gl ⟨p',ys,O,zC,hR'⟩ {∅,∅,hN}
     rw[mL h7];intro p2 hp2;let gd:=zD hp2 (.dK []);let hys:=hR...*;let hSl:SqL K (upd (upd H' p' (.lst ys)) p2 (.dK [])) p' ys:=SqL.of (gd _ _ zC);refine kZ p' O ys hSl ∅ (nA ∅ ?_);rw[rR];refine qD (λi σ H2=>(∃o,σ= [Y (V.ref a),Y (V.int k),Y (V.int ((e+1:Nat):Int)),Y (V.int (qV ns k)),Y (V.int (qV ns k % 9)),Y (V.ref p'),Y (V.ref p2),o])/\Same (upd H' p' (.lst ys)) H2/\DInv (upd H' p' (.lst ys)) p2 ts i H2) {⟨_,O⟩,gd,[],[],[],zC,O,O,tG,λ_ h=>(nomatch h),λ_ h=>(nomatch h),mB _} ?_ ?_
     ·rintro i σ H2 hi ⟨⟨o,rfl⟩,g2,ps,ks,us,hd,hk,hU,hnd,hok,hsub,hlk⟩
      lk;obtain⟨v,hv⟩:∃v,ys[i]? =Y v:={ys[i],by simp[hi]};refine oEA (hR'.get hv) λt ht hvt=>?_;refine yL (SqL.of (g2 _ _ zC)) (by rw[Int.zero_add];exact yH hv) (zFq (g2.seq (gl.seq hS)) h63 ∅ ∅ λH3 g3=>?_);let c0':=vT ns (k*5+1+(0+(i:Int)));let c1':=qE ns (k*5+1+(0+(i:Int)));refine{_,O,_,O,∅,∅,λx hx H4 g4=>{_,DPut.k (k:=nK x) (g4 _ _ (g3 _ _ hd)) ?_,⟨_,O⟩, ?_, ?_}}
      ·let:=congrArg List.length hk
       simp only[mC] at this;rw[mQ];lia
      ·intro b o' hb
       let hne:b≠p2:=λz=>by rw[z,hp2] at hb;cases hb
       rw[zV hne];exact g4 _ _ (g3 _ _ (g2 _ _ hb))
      ·refine yA (yAy (n:=x) hk hU hnd hvt) λks' us' e1 e2 e3 z_=>?_
       ext oAA z_ e4 e5 e6;refine{_,ks',us',zC,e1,e2,e3,λn hn=>?_,λu hu=>?_,∅}
       ·rcases e4 n hn with z | z
        ·exact hok n z
        ·rw[z];exact hx
       ·rcases e5 u hu with z | z
        ·exact hsub u z
        ·rw[z];exact mF ht
     ·rintro σ H2 ⟨⟨o,rfl⟩,g2,ps,ks,us,hd,hk,hU,hnd,hok,hsub,hlk⟩
      lk;let l1:=congrArg List.length hk;simp only[mC] at l1;let l2:=hU...*;simp only[mC] at l2;refine q _ _ (.dic ks us) (gl.trans g2) {p2,ps,O,hd,hk,Reps.same g2 _ _ hU} {∅,∅,∅,hnd,hok,NiceL_iff.mpr λu hu=>NiceL_iff.mp hN u (hsub u hu)}
theorem zHw(F:Fun K "_law_thing_by" "_law_thing_by" zFs f fd)(B:Bl mg)(Gc:Dn P w K mg base 1 "_law_cell" ["_law_script","_law_k"] (gJ K))(Gn:Dn P w K mg base 1 "_law_number_by" ["_law_more"] zOm)
  (Gt:Dn P w K mg base 2 "_law_text_by" ["_law_more"] zJo) (Gm:Dn P w K mg base 1 "_law_name_by" ["_law_more"] zDq) (b:Binds K fd ["_law_script","_law_k","_law_deep"] []) (kp:A8 K (.ref f)=true) (m:mg "_law_thing_by" =Y (.ref f)):
  ∀d:Nat,FnOk P w K mg base CX0 (3+d) f fd ["_law_script","_law_k","_law_deep"] (zAw K d)
 | 0=>zRh F B Gc Gn Gt
 | d+1=>zSo F B Gc Gn Gt Gm {_,_,zHw F B Gc Gn Gt Gm b kp m d,b,kp,m}
def zBq(K:A7)(n:Nat):Sp:=λvs H Q E=>∃d,d<=n/\zAw K d vs H Q E
theorem zSl{n:Nat}(h:∀d:Nat,FnOk P w K mg base CX0 (3+d) f fd ["_law_script","_law_k","_law_deep"] (zAw K d)):FnOk P w K mg base CX0 (3+n) f fd ["_law_script","_law_k","_law_deep"] (zBq K n):=
 {λvs H Q E ⟨d,_,q⟩=>(h d).len vs H Q E q,λA outer s H args us vs Q E hr he hb hv ⟨d,hd,hs⟩=>(h d).run A outer s H args us vs Q E (hr.mono ∅) he hb hv hs}
abbrev zVd:V6:=top 62
abbrev zJr:V6:=top 9
noncomputable def wM(t:String):V:=if t= "NoneType" then .str "nothing" else if t= "bool" then .str "truth" else if t= "int" then .str "number" else if t= "str" then .str "text" else if t= "list" then .str "row" else if t= "dict" then .str "record" else .non
def zFd:Sp:=λvs H Q _=>∃(v:V)(t:String),vs= [v]/\tyS H v=Y t/\∀H',Same H H'->Q (wM t) H'
theorem kS{H:Hp}{v:V}(h:tyS H v=some "NoneType"):v= .non:=by
 cases v with
 | non=>rfl
 | ref a=>
  let h':(match H a with | some (.lst _)=>some "list" | some (.tup _)=>some "tuple" | some (.dK _)=>some "dict" | _=>none)=some "NoneType":=h
  split at h'<;>first | exact absurd (mM h') ∎| cases h'
 | bl b=>exact absurd (mM h) ∎
 | int b=>exact absurd (mM h) ∎
 | str b=>exact absurd (mM h) ∎
 | byt b=>cases h
 | flt b=>cases h
 | ty b=>cases h
theorem zVk{H:Hp}{v:V}{t:String}{Q:VK}(ht:tyS H v=Y t)(q:Q (wM t) H):
  if v=V.non then Q (V.str (A6 "nothing")) H else∃x,tyS H v=Y x/\if zT x "bool" =true then Q (V.str (A6 "truth")) H else
   ∃x,tyS H v=Y x/\if zT x "int" =true then Q (V.str (A6 "number")) H else∃x,tyS H v=Y x/\if zT x "str" =true then Q (V.str (A6 "text")) H else
   ∃x,tyS H v=Y x/\if zT x "list" =true then Q (V.str (A6 "row")) H else∃x,tyS H v=Y x/\if zT x "dict" =true then Q (V.str (A6 "record")) H else Q V.non H:=by
 let hm:=qG ht;simp only[ht,Option.some.injEq,dC]
 by_cases hv:v= .non
 ·subst hv;cases ht;rw[mO O];exact q
 ·rw[mL hv]
  simp only[tyL,mI,pE,rL] at hm;rcases hm with rfl | rfl | rfl | rfl | rfl | rfl | rfl
  ·exact absurd (kS ht) hv
  all_goals (simpa [zT,wM] using q)
theorem scKind:zY ["_law_thing"] ["_law_thing"] (zN zVd):=by walk_at "sc"
theorem zYr(F:Fun K "_law_kind" "_law_kind" zVd f fd)(B:Bl mg):FnOk P w K mg base CX0 1 f fd ["_law_thing"] zFd:=by
 refine F.ok scKind (λvs H Q E h=>?_) (λc A o s H vs Q E hr h=>?_)
 ·ext wA h v t r2_ _
  subst r2_
  rfl
 ext yN h v t r2_ ht q;subst r2_;let nd:=scKind.nd;refine{_,(zE (zS (uD (zJi (pv 0))) (zG (zK zU)) zL)
  (zE (zS (yB (pI B.isinstance zH B.bool zKe (pv 0))) (zG (zK zU)) zL)
  (zE (zS (yB (pI B.isinstance zH B.int vL (pv 0))) (zG (zK zU)) zL)
  (zE (zS (yB (pI B.isinstance zH B.str qZ (pv 0))) (zG (zK zU)) zL)
  (zE (zS (yB (pI B.isinstance zH B.list yX (pv 0))) (zG (zK zU)) zL)
  (zE (zS (yB (pI B.isinstance zH B.dict xF (pv 0))) (zG (zK zU)) zL)
  (zG (zK jD)))))))), ?_}
 walk_at "st";lk;exact zVk ht (q H (Same.refl H))
abbrev zOv:V6:=top 63
abbrev zUo:V6:=top 64
def zLr(n:Nat):Sp:=λvs H Q _=>∃(v u:V)(t t':T),vs= [v,u]/\Rep H v t/\Rep H u t'/\T.few t/\T.few t'/\m5 t<=n/\m5 t'<=n/\∀H',Same H H'->Q (.int (xY (zZ t) (zZ t'))) H'
def zXy(n:Nat):Sp:=λvs H Q _=>∃(a b:V1)(xs ys:List V)(us ws:List T),vs= [.ref a, .ref b]/\H a=Y (.lst xs)/\H b=Y (.lst ys)/\Reps H xs us/\Reps H ys ws/\i3 us/\i3 ws/\us...*<=100000/\ws...*<=100000/\i8 us<=n/\i8 ws<=n/\∀H',Same H H'->Q (.int (qA (xP us) (xP ws))) H'
theorem scRows:zY ["_law_one","_law_other","_law_k","_law_result"] ["_law_one","_law_other"] (zN zOv):=by walk_at "sc"
theorem yAm{n:Nat}(F:Fun K "_law_rows_compare" "_law_rows_compare" zOv f fd)(B:Bl2 mg)(G_law_compare:Dn P w K mg base (2+2*n) "_law_compare" ["_law_one","_law_other"] (zLr n)):
  FnOk P w K mg base CX0 (2+2*n+1) f fd ["_law_one","_law_other"] (zXy n):=by
 refine F.ok scRows (λvs H Q E h=>?_) (λc A o s H vs Q E hr h=>?_)
 ·ext yM h a b xs ys us z_
  ext oEA z_ ws r6_ _;subst r6_
  rfl
 ext yM h a b xs ys us z_;ext qB z_ ws r6_ ha hb hx z_;ext yR z_ hy fx fy lx ly z_;ext oAA z_ wx wy q;subst r6_;let nd:=scRows.nd;refine{_,(zE (wU PassesOwn.never O (wJ O B.range (zA (zM (zBg O) O B.min zKd (zA (zM yI O B.len yV (zA (pv 0) zB)) (zA (zM yI O B.len yV (zA (pv 1) zB)) zB))) zB)) (yF (i:=2) nd O (nN O)) (zE (pS 3 nd (zP G_law_compare hr ∅ O (zA (yJ zW (pv 0) (pv 2) (λ_ _=>O)) (zA (yJ zW (pv 1) (pv 2) (λ_ _=>O)) zB))))
  (zG (zS (zQ zAj (pv 3) zF (zO _)) (zG (zK (pv 3))) zL))))
  (zG (zK (zI wP (yP wD O B.int vL (zA (yW qS (zM yI O B.len yV (zA (pv 0) zB)) (zM yI O B.len yV (zA (pv 1) zB)) (zO _)) zB)) (yP wD O B.int vL (zA (yW kA (zM yI O B.len yV (zA (pv 0) zB)) (zM yI O B.len yV (zA (pv 1) zB)) (zO _)) zB)))))), ?_}
 walk_at "st";lk;let hxl:=hx...*;let hyl:=hy...*;refine vM xs (SqL.of ha) ys (SqL.of hb) xs...* (zBz ys...* ⟨O,O⟩ (by split<;>lia) (by split<;>lia) ?_);let em:(if(ys...*:Int)<xs...* then(ys...*:Int) else xs...*).toNat=min (xP us)...* (xP ws)...*:=by
  rw[vQ,vQ];split<;>lia
 rw[em];let hmn:min (xP us)...* (xP ws)...*<=us...*/\min (xP us)...* (xP ws)...*<=ws...*:=by
  rw[vQ,vQ];exact{Nat.min_le_left _ _,cR _ _}
 generalize hm:min (xP us)...* (xP ws)...*=m at hmn⊢;refine qD (λi σ H2=>(∃o2 o3,σ= [Y (V.ref a),Y (V.ref b),o2,o3])/\Same H H2/\qA (xP us) (xP ws)=qA ((xP us).drop i) ((xP ws).drop i)) {⟨_,_,O⟩,Same.refl _,O} ?_ ?_
 ·rintro i σ H2 hi ⟨⟨o2,o3,rfl⟩,g,e⟩
  lk;let h1:i<xs...*:=by lia
  let h2:i<ys...*:=by lia
  refine oEA (hx.get (i:=i) (v:=xs[i]) (by simp[h1])) λt1 ht1 hr1=>?_;refine oEA (hy.get (i:=i) (v:=ys[i]) (by simp[h2])) λt2 ht2 hr2=>?_;let hm1:=mF ht1;let hm2:=mF ht2;let w1:=j7 hm1;let w2:=j7 hm2;let hd:=zMz (uB ht1) (uB ht2);refine{a,xs,i,xs[i],O,by simp,SqL.of (g _ _ ha), ?_,b,ys,i,ys[i],O,by simp,SqL.of (g _ _ hb), ?_,xs[i],ys[i],t1,t2,O,Rep.same g _ _ hr1,Rep.same g _ _ hr2,b5 fx hm1,b5 fy hm2,∅,∅,λH3 g3=>?_}
  ·exact yH (by simp[h1])
  ·exact yH (by simp[h2])
  ·rw[e,hd] at q
   by_cases hz:xY (zZ t1) (zZ t2)=0
   ·exact zHa O false (by rw[hz];rfl) (zGr {⟨_,O⟩,g.trans g3,by rw[e,hd,mO hz]})
   ·rw[mL hz] at q
    refine zHa O true ?_ (zGp (q _ (g.trans g3)));simp[hz]
 ·rintro σ H2 ⟨⟨o2,o3,rfl⟩,g,e⟩
  lk;let he:=zSa (xs:=xP us) (ys:=xP ws) hm.symm;rw[vQ,vQ] at he;let z:=q H2 g;rw[e,he,sgI,<-hxl,<-hyl] at z;exact vM xs (SqL.of (g _ _ ha)) ys (SqL.of (g _ _ hb)) xs (zHa (SqL.of (g _ _ ha)) ys (SqL.of (g _ _ hb)) z)
theorem iP{c A B:Prop} [Decidable c] (h:c) (a:A):if c then A else B:=by rw[mO h];exact a
theorem iN{c A B:Prop} [Decidable c] (h:¬c) (b:B):if c then A else B:=by rw[mL h];exact b
noncomputable def wordsS:List Str:=["nothing","truth","number","text","row","record"]
theorem kW(t:T)(h:T.few t):∃k,wM (tyT t)= .str k/\wordsS[(zZ t).ord]? =Y k/\∀i,i<(zZ t).ord->wordsS[i]?≠Y k:=by
 cases t with
 | non=>exact{"nothing",by decide+kernel,O,λi h=>absurd h (pM i)}
 | bl b=>exact{"truth",by show wM "bool" =_;decide+kernel,O,by show∀i,i<1->_;decide+kernel}
 | int b=>exact{"number",by show wM "int" =_;decide+kernel,O,by show∀i,i<2->_;decide+kernel}
 | str b=>exact{"text",by show wM "str" =_;decide+kernel,O,by show∀i,i<3->_;decide+kernel}
 | lst b=>exact{"row",by show wM "list" =_;decide+kernel,O,by show∀i,i<4->_;decide+kernel}
 | dic a b=>exact{"record",by show wM "dict" =_;decide+kernel,O,by show∀i,i<5->_;decide+kernel}
 | tup b=>exact h.elim
theorem zFp{x n:Str}{j:Nat}{d l:V1}{ps:List (Key×V)}{ks:List (List Nat)}{us:List T}{ss:List Str}{σ:St}{Q:VK}{H1:Hp}(hd:H1 d=Y (.dK ps))(hl:H1 l=none)(h64:ks...*<64)(nk:ks.Nodup)
  (hk:ps.map (·.1)=ks.map λk=>(Sum.inr (tx k):Key)) (hs:Reps H1 (ps.map (·.2)) us) (hp:ss.Perm (ks.map tx)) (hss:PyProof.Rows.sortedS ss=true) (hj:(σ[j]?).join=Y (.ref d))
  (q:∀p zs H',Same H1 H'->H' p=Y (.lst zs)->Reps H' zs (uP ks us)->Q (.ref p) H'):
  vA [x] [(n,j)] (jQ 0) zBo (zZg (zAa (uV 0) (zAa (zCa (uV 1) (uV 0)) zGv))) σ Q (Itl K l) (upd H1 l (.lst (ss.map V.str))):=by
 let es:=vV hp hss;let g0:Same H1 (upd H1 l (.lst (ss.map V.str))):=zD hl _;let hll:upd H1 l (.lst (ss.map V.str)) l=Y (.lst (ss.map V.str)):=zC;let hlen:(ss.map V.str)...*=ks...*:=by rw[mC,hp.length_eq,mC]
 generalize upd H1 l (.lst (ss.map V.str))=H2 at g0 hll⊢;refine xT (K:=K) (xs:=ss.map V.str) (λi zs H'=>Same H2 H'/\Reps H' zs ((uP ks us).take i)) ?_ {Same.refl _,O} (λi zs H' _ h=>SqL.of (h.1 _ _ hll)) ?_ ?_
 ·rw[mQ,hlen];lia
 ·rintro i y zs H' hy _ ⟨g,hR⟩
  rw[es,pU,mW] at hy
  cases hki:(yQ ks)[i]? with
  | none=>rw[hki] at hy;cases hy
  | some k=>
   rw[hki] at hy;let ey:V.str (tx k)=y:=mM hy;subst ey;let hrow:(uP ks us)[i]? =Y (.lst [.str k,zJ k ks us]):=by rw[uP,mW,hki];rfl
   let gg:=g0.trans g;obtain⟨v,hv1,hv2⟩:=Rep.at_name nk hk (Reps.same gg _ _ hs) (mem_sortK.mp (mF hki));lk;rw[hj];refine wT d O v (.inl {ps,Sum.inr (tx k), .inl (gg _ _ hd),O,hv1.symm}) (λp hp=>{g.trans (zD hp _), ?_});rw[yK hrow];let hrep:Rep (upd H' p (.lst [V.str (tx k),v])) (.ref p) (.lst [.str k,zJ k ks us]):={p,_,O,zC,_,_,O,O,_,_,O,Rep.same (zD hp _) _ _ hv2,O};exact Reps.snoc hrep (Reps.same (zD hp _) _ _ hR)
 ·rintro zs H' _ ⟨g,hR⟩ p hp'
  rw[hlen,<-zGa ks us,pA] at hR;exact q p zs _ (g0.trans (g.trans (zD hp' _))) zC (Reps.same (zD hp' _) _ _ hR)
theorem scCmp:zY ["_law_one","_law_other","_law_words","_law_first","_law_second","_law_left","_law_right"] ["_law_one","_law_other"] (zN zUo):=by walk_at "sc"
theorem zZo{n:Nat}(F:Fun K "_law_compare" "_law_compare" zUo f fd)(B:Bl2 mg)(G_law_kind:Dn P w K mg base 1 "_law_kind" ["_law_thing"] zFd)(G_law_rows_compare:Dn P w K mg base (2+2*n+1) "_law_rows_compare" ["_law_one","_law_other"] (zXy n)):
  FnOk P w K mg base CX0 (2+2*n+1+1) f fd ["_law_one","_law_other"] (zLr (n+1)):=by
 refine F.ok scCmp (λvs H Q E h=>?_) (λc A o s H vs Q E hr h=>?_)
 ·ext yS h v u t t' r4_ _
  subst r4_
  rfl
 ext yS h v u t t' r4_ z_;ext yR z_ hv hu' f1 f2 w1 z_;ext oA z_ w2 q;subst r4_;let nd:=scCmp.nd;let hu:=wR hr;refine{_,(zE (pS 2 nd (yG (zA zU (zA zU (zA zU (zA zU (zA zU (zA zU zB))))))))
  (zE (pS 3 nd (qF nQ sM tN zCf (pv 2) (zA (zP G_law_kind hr ∅ O (zA (pv 0) zB)) zB)))
  (zE (pS 4 nd (qF nQ sM tN zCf (pv 2) (zA (zP G_law_kind hr ∅ O (zA (pv 1) zB)) zB)))
  (zE (zS (zQ zAj (pv 3) (pv 4) (zO _)) (zG (zK (zI wP (yP wD O B.int vL (zA (yW qS (pv 3) (pv 4) (zO _)) zB)) (yP wD O B.int vL (zA (yW kA (pv 3) (pv 4) (zO _)) zB))))) zL)
  (zE (zS (zQ xG (pv 3) zF (zO _)) (zG (zK zF)) zL)
  (zE (zS (zQ kA (pv 3) zF (zO _)) (zG (zK (zI wP (yP wD O B.int vL (zA (yW zOs (pv 0) (pv 1) (zO _)) zB)) (yP wD O B.int vL (zA (yW zPy (pv 0) (pv 1) (zO _)) zB))))) zL)
  (zE (zS (zQ xG (pv 3) zF (zO _)) (zG (zK (zP G_law_rows_compare hr ∅ O (zA (pv 0) (zA (pv 1) zB))))) zL)
  (zE (kF (i:=5) nd O (nN O) (own:=["_law_name"]) (F:=[("_law_one",0)]) {O,tb_g%,tb_g%,tb_g%,(.cons O O O .nil)} O (xN (zM (wB O) O B.sorted vY (zA (pv 0) zB))) (λ_ _ _ _=>yF (i:=0) (by show(xX ["_law_name"] [("_law_one",0)]).Nodup;decide+kernel) O (nN O)) (λ_ _ _ _=>xJ) (λ_ _ _ _=>(yG (zA (pv 0) (zA (wN hu (pv 1) (pv 0) (λ_ _=>O)) zB)))))
  (zE (kF (i:=6) nd O (nN O) (own:=["_law_name"]) (F:=[("_law_other",1)]) {O,tb_g%,tb_g%,tb_g%,(.cons O O O .nil)} O (xN (zM (wB O) O B.sorted vY (zA (pv 1) zB))) (λ_ _ _ _=>yF (i:=0) (by show(xX ["_law_name"] [("_law_other",1)]).Nodup;decide+kernel) O (nN O)) (λ_ _ _ _=>xJ) (λ_ _ _ _=>(yG (zA (pv 0) (zA (wN hu (pv 1) (pv 0) (λ_ _=>O)) zB)))))
  (zG (zK (zP G_law_rows_compare hr ∅ O (zA (pv 5) (zA (pv 6) zB)))))))))))))), ?_}
 walk_at "st";lk;intro p hp;refine xD (kW t f1) λk1 e1 i1 n1=>?_;refine xD (kW t' f2) λk2 e2 i2 n2=>?_;let o1:(zZ t).ord<1000000:=by cases (zZ t)<;>simp[C.ord]
 let o2:(zZ t').ord<1000000:=by cases (zZ t')<;>simp[C.ord]
 let g0:Same H (upd H p (.lst (wordsS.map V.str))):=zD hp _;let hpp:upd H p (.lst (wordsS.map V.str)) p=Y (.lst (wordsS.map V.str)):=zC;rw[show[V.str (A6 "nothing"),V.str (A6 "truth"),V.str (A6 "number"),V.str (A6 "text"),V.str (A6 "row"),V.str (A6 "record")]=wordsS.map V.str from O];generalize upd H p (.lst (wordsS.map V.str))=H1 at g0 hpp⊢;refine{nN {O,_,SqL.of hpp},v,_,O,(Rep.same g0 _ _ hv).ty,λH2 g2=>?_};refine{p,wordsS,k1,_,O,by rw[e1],SqL.of (g2 _ _ hpp),i1,n1,o1,nN {O,_,SqL.of (g2 _ _ hpp)},u,_,O,(Rep.same (g0.trans g2) _ _ hu').ty,λH3 g3=>?_};let gH:=g0.trans (g2.trans g3);refine{p,wordsS,k2,_,O,by rw[e2],SqL.of (g3 _ _ (g2 _ _ hpp)),i2,n2,o2,O, ?_}
 by_cases ho:(zZ t).ord=(zZ t').ord
 ·refine nEA false (by simp[ho]) (zGr {O, ?_})
  let zq:=q
  cases t with
  | non=>
   cases t' with
   | non=>exact iP (by simp[zZ,C.ord]) (q _ gH)
   | _=>exact absurd ho (by simp[zZ,C.ord])
  | bl b=>
   cases t' with
   | bl b'=>
    cases (show v=_ from hv);cases (show u=_ from hu');refine iN (by simp[zZ,C.ord]) {_,O,iP (by simp[zZ,C.ord]) {_,O,_,O,_,O,_,O, ?_}};let z:=q _ gH;rw[show xY (zZ (.bl b)) (zZ (.bl b'))=(if(b && !b')=true then 1 else 0)- (if(b' && !b)=true then 1 else 0) by cases b<;>cases b'<;>rfl] at z;exact z
   | _=>exact absurd ho (by simp[zZ,C.ord])
  | int b=>
   cases t' with
   | int b'=>
    cases (show v=_ from hv);cases (show u=_ from hu');refine iN (by simp[zZ,C.ord]) {_,O,iP (by simp[zZ,C.ord]) {_,O,_,O,_,O,_,O, ?_}};let z:=q _ gH;rw[show xY (zZ (.int b)) (zZ (.int b'))=(if b'<b then 1 else 0)- (if b<b' then 1 else 0) by rw[zZ,zZ,xY];rfl] at z
    simpa using z
   | _=>exact absurd ho (by simp[zZ,C.ord])
  | str b=>
   cases t' with
   | str b'=>
    cases (show v=_ from hv);cases (show u=_ from hu');refine iN (by simp[zZ,C.ord]) {_,O,iP (by simp[zZ,C.ord]) {_,O,_,O,_,O,_,O, ?_}};let z:=q _ gH;rw[show xY (zZ (.str b)) (zZ (.str b'))=(if b'<b then 1 else 0)- (if b<b' then 1 else 0) by rw[zZ,zZ,xY];rfl] at z;simp only[wI,nV];exact z
   | _=>exact absurd ho (by simp[zZ,C.ord])
  | lst us=>
   cases t' with
   | lst ws=>
    ext yN hv a xs r2_ ha hx;subst r2_;ext yN hu' b ys r2_ hb hy;subst r2_;refine iN (by simp[zZ,C.ord]) {_,O,iN (by simp[zZ,C.ord]) {O,iP (by simp[zZ,C.ord]) ?_}};let w1':i8 us+1<=n+1:=w1;let w2':i8 ws+1<=n+1:=w2;refine{a,b,xs,ys,us,ws,O,gH _ _ ha,gH _ _ hb,Reps.same gH _ _ hx,Reps.same gH _ _ hy,f1.2,f2.2,f1.1,f2.1,∅,∅,λH4 g4=>?_};let z:=q _ (gH.trans g4);rw[zZ,zZ,xY] at z;exact z
   | _=>exact absurd ho (by simp[zZ,C.ord])
  | dic ks us=>
   cases t' with
   | dic ks' ws=>
    ext yA hv a ps r2_ ha hk hx;subst r2_;ext yA hu' b ps' r2_ hb hk' hy;subst r2_;ext xI f1 nk h64 hle fx;ext xI f2 nk' h64' hle' fy;let w1':i8 us+2<=n+1:=w1;let w2':i8 ws+2<=n+1:=w2;let r1:=zQd hle;let r2:=zQd hle';let l1:=zGa ks us;let l2:=zGa ks' ws;refine iN (by simp[zZ,C.ord]) {_,O,iN (by simp[zZ,C.ord]) {O,iN (by simp[zZ,C.ord]) ?_}};refine vM a O ps (.inl (gH _ _ ha)) (ks.map tx) (nAA (by rw[hk,pU];rfl) (by rw[mC];exact h64) (λl ss hl hp1 hs1=>{{_,SqL.of zC},zFp (gH _ _ ha) hl h64 nk hk (Reps.same gH _ _ hx) hp1 hs1 O λp1 zs1 H4 g4 hp4 hr4=>?_}));let gH4:=gH.trans g4;refine vM b O ps' (.inl (gH4 _ _ hb)) (ks'.map tx) (nAA (by rw[hk',pU];rfl) (by rw[mC];exact h64') (λl ss hl hp1 hs1=>{{_,SqL.of zC},zFp (gH4 _ _ hb) hl h64' nk' hk' (Reps.same gH4 _ _ hy) hp1 hs1 O λp2 zs2 H5 g5 hp5 hr5=>?_}));refine{p1,p2,zs1,zs2,uP ks us,uP ks' ws,O,g5 _ _ hp4,hp5,Reps.same g5 _ _ hr4,hr5,zKr hle fx,zKr hle' fy,∅,∅,∅,∅,λH6 g6=>?_};let z:=q _ (gH4.trans (g5.trans g6));rw[zZ,zZ,xY,<-zGm,<-zGm] at z;exact z
   | _=>exact absurd ho (by simp[zZ,C.ord])
  | tup us=>exact f1.elim
 ·refine nEA true ?_ (zGp {_,O,_,O,_,O,_,O, ?_})
  ·simpa [Int.ofNat_inj] using ho
  ·let z:=q H3 gH
   rw[zCu _ _ ho,sgI] at z;exact z
theorem yAh(F:Fun K "_law_compare" "_law_compare" zUo f fd)(B:Bl2 mg)(G_law_kind:Dn P w K mg base 1 "_law_kind" ["_law_thing"] zFd):
  FnOk P w K mg base CX0 2 f fd ["_law_one","_law_other"] (zLr 0):=by
 refine F.ok scCmp (λvs H Q E h=>?_) (λc A o s H vs Q E hr h=>?_)
 ·ext yS h v u t t' r4_ _
  subst r4_
  rfl
 ext yS h v u t t' r4_ z_;ext yR z_ hv hu' f1 f2 w1 z_;ext oA z_ w2 q;subst r4_;let nd:=scCmp.nd;let hu:=wR hr;refine{_,(zE (pS 2 nd (yG (zA zU (zA zU (zA zU (zA zU (zA zU (zA zU zB))))))))
  (zE (pS 3 nd (qF nQ sM tN zCf (pv 2) (zA (zP G_law_kind hr ∅ O (zA (pv 0) zB)) zB)))
  (zE (pS 4 nd (qF nQ sM tN zCf (pv 2) (zA (zP G_law_kind hr ∅ O (zA (pv 1) zB)) zB)))
  (zE (zS (zQ zAj (pv 3) (pv 4) (zO _)) (zG (zK (zI wP (yP wD O B.int vL (zA (yW qS (pv 3) (pv 4) (zO _)) zB)) (yP wD O B.int vL (zA (yW kA (pv 3) (pv 4) (zO _)) zB))))) zL)
  (zE (zS (zQ xG (pv 3) zF (zO _)) (zG (zK zF)) zL)
  (zE (zS (zQ kA (pv 3) zF (zO _)) (zG (zK (zI wP (yP wD O B.int vL (zA (yW zOs (pv 0) (pv 1) (zO _)) zB)) (yP wD O B.int vL (zA (yW zPy (pv 0) (pv 1) (zO _)) zB))))) zL)
  zHq)))))), ?_}
 walk_at "st";lk;intro p hp;refine xD (kW t f1) λk1 e1 i1 n1=>?_;refine xD (kW t' f2) λk2 e2 i2 n2=>?_;let o1:(zZ t).ord<1000000:=by cases (zZ t)<;>simp[C.ord]
 let o2:(zZ t').ord<1000000:=by cases (zZ t')<;>simp[C.ord]
 let g0:Same H (upd H p (.lst (wordsS.map V.str))):=zD hp _;let hpp:upd H p (.lst (wordsS.map V.str)) p=Y (.lst (wordsS.map V.str)):=zC;rw[show[V.str (A6 "nothing"),V.str (A6 "truth"),V.str (A6 "number"),V.str (A6 "text"),V.str (A6 "row"),V.str (A6 "record")]=wordsS.map V.str from O];generalize upd H p (.lst (wordsS.map V.str))=H1 at g0 hpp⊢;refine{nN {O,_,SqL.of hpp},v,_,O,(Rep.same g0 _ _ hv).ty,λH2 g2=>?_};refine{p,wordsS,k1,_,O,by rw[e1],SqL.of (g2 _ _ hpp),i1,n1,o1,nN {O,_,SqL.of (g2 _ _ hpp)},u,_,O,(Rep.same (g0.trans g2) _ _ hu').ty,λH3 g3=>?_};let gH:=g0.trans (g2.trans g3);refine{p,wordsS,k2,_,O,by rw[e2],SqL.of (g3 _ _ (g2 _ _ hpp)),i2,n2,o2,O, ?_}
 by_cases ho:(zZ t).ord=(zZ t').ord
 ·refine nEA false (by simp[ho]) (zGr {O, ?_})
  let zq:=q
  cases t with
  | non=>
   cases t' with
   | non=>exact iP (by simp[zZ,C.ord]) (q _ gH)
   | _=>exact absurd ho (by simp[zZ,C.ord])
  | bl b=>
   cases t' with
   | bl b'=>
    cases (show v=_ from hv);cases (show u=_ from hu');refine iN (by simp[zZ,C.ord]) {_,O,iP (by simp[zZ,C.ord]) {_,O,_,O,_,O,_,O, ?_}};let z:=q _ gH;rw[show xY (zZ (.bl b)) (zZ (.bl b'))=(if(b && !b')=true then 1 else 0)- (if(b' && !b)=true then 1 else 0) by cases b<;>cases b'<;>rfl] at z;exact z
   | _=>exact absurd ho (by simp[zZ,C.ord])
  | int b=>
   cases t' with
   | int b'=>
    cases (show v=_ from hv);cases (show u=_ from hu');refine iN (by simp[zZ,C.ord]) {_,O,iP (by simp[zZ,C.ord]) {_,O,_,O,_,O,_,O, ?_}};let z:=q _ gH;rw[show xY (zZ (.int b)) (zZ (.int b'))=(if b'<b then 1 else 0)- (if b<b' then 1 else 0) by rw[zZ,zZ,xY];rfl] at z
    simpa using z
   | _=>exact absurd ho (by simp[zZ,C.ord])
  | str b=>
   cases t' with
   | str b'=>
    cases (show v=_ from hv);cases (show u=_ from hu');refine iN (by simp[zZ,C.ord]) {_,O,iP (by simp[zZ,C.ord]) {_,O,_,O,_,O,_,O, ?_}};let z:=q _ gH;rw[show xY (zZ (.str b)) (zZ (.str b'))=(if b'<b then 1 else 0)- (if b<b' then 1 else 0) by rw[zZ,zZ,xY];rfl] at z;simp only[wI,nV];exact z
   | _=>exact absurd ho (by simp[zZ,C.ord])
  | lst us=>exact absurd w1 (aK _)
  | dic ks us=>exact absurd w1 (aK _)
  | tup us=>exact f1.elim
 ·refine nEA true ?_ (zGp {_,O,_,O,_,O,_,O, ?_})
  ·simpa [Int.ofNat_inj] using ho
  ·let z:=q H3 gH
   rw[zCu _ _ ho,sgI] at z;exact z
theorem zOx{f':V1}{fd':V7}(F:Fun K "_law_compare" "_law_compare" zUo f fd)(F':Fun K "_law_rows_compare" "_law_rows_compare" zOv f' fd')(B:Bl2 mg)(Gk:Dn P w K mg base 1 "_law_kind" ["_law_thing"] zFd)
  (b:Binds K fd ["_law_one","_law_other"] []) (kp:A8 K (.ref f)=true) (m:mg "_law_compare" =Y (.ref f)) (b':Binds K fd' ["_law_one","_law_other"] []) (kp':A8 K (.ref f')=true) (m':mg "_law_rows_compare" =Y (.ref f')):
  ∀n:Nat,FnOk P w K mg base CX0 (2+2*n) f fd ["_law_one","_law_other"] (zLr n)
 | 0=>yAh F B Gk
 | n+1=>zZo F B Gk {_,_,yAm F' B {_,_,zOx F F' B Gk b kp m b' kp' m' n,b,kp,m},b',kp',m'}
abbrev zWm:V6:=top 65
def zMx(n:Nat):Sp:=λvs H Q _=>∃(v u:V)(t t':T),vs= [v,u]/\Rep H v t/\Rep H u t'/\T.few t/\T.few t'/\m5 t<=n/\m5 t'<=n/\∀H',Same H H'->Q (.bl (decide (xY (zZ t) (zZ t')=0))) H'
theorem scSame:zY ["_law_one","_law_other"] ["_law_one","_law_other"] (zN zWm):=by walk_at "sc"
theorem zQy:∀{t t':T},T.few t->T.few t'->wM (tyT t)≠wM (tyT t')->xY (zZ t) (zZ t')≠0:=by
 intro t t' h h' ne;let ho:(zZ t).ord≠(zZ t').ord:=by
  intro e;apply ne;cases t<;>cases t'<;>first | rfl | exact h.elim | exact h'.elim | exact absurd e (by simp[zZ,C.ord])
 rw[zCu _ _ ho,sgI];split<;>split<;>lia
theorem zYk{n:Nat}(F:Fun K "_law_same" "_law_same" zWm f fd)(B:Bl2 mg)(G_law_kind:Dn P w K mg base 1 "_law_kind" ["_law_thing"] zFd)(G_law_compare:Dn P w K mg base (2+2*n) "_law_compare" ["_law_one","_law_other"] (zLr n)):
  FnOk P w K mg base CX0 (2+2*n+1) f fd ["_law_one","_law_other"] (zMx n):=by
 refine F.ok scSame (λvs H Q E h=>?_) (λc A o s H vs Q E hr h=>?_)
 ·ext yS h v u t t' r4_ _
  subst r4_
  rfl
 ext yS h v u t t' r4_ z_;ext yR z_ hv hu' f1 f2 w1 z_;ext oA z_ w2 q;subst r4_;let nd:=scSame.nd;refine nEA _ (zG (zK (vO (zIr (zIv (zP G_law_kind hr ∅ O (zA (pv 0) zB)))) (vO (yW xG (zP G_law_kind hr ∅ O (zA (pv 0) zB)) (zP G_law_kind hr ∅ O (zA (pv 1) zB)) (zO _)) (vU (yW xG (zP G_law_compare hr ∅ O (zA (pv 0) (zA (pv 1) zB))) zF (zO _))))))) ?_;walk_at "st";lk;obtain⟨k1,e1,-,-⟩:=kW t f1;obtain⟨k2,e2,-,-⟩:=kW t' f2;refine{v,_,O,hv.ty,λH1 g1=>{true,by rw[e1];rfl,zGp {v,_,O,(Rep.same g1 _ _ hv).ty,λH2 g2=>{u,_,O,(Rep.same (g1.trans g2) _ _ hu').ty,λH3 g3=>?_}}}};let gH:=g1.trans (g2.trans g3);rw[e1,e2];refine{O, ?_}
 by_cases he:V.str k1=V.str k2
 ·refine iP he {v,u,t,t',O,Rep.same gH _ _ hv,Rep.same gH _ _ hu',f1,f2,w1,w2,λH4 g4=>{O, ?_}}
  let z:=q _ (gH.trans g4)
  simpa using z
 ·let z:=q _ gH
  rw[nL (zQy f1 f2 (by rw[e1,e2];exact he))] at z;exact iN he z
abbrev zSv:V6:=top 17
abbrev zQa:V6:=top 18
abbrev zPv:V6:=top 19
def zCn:Sp:=λvs H Q _=>∃(v:V)(t:String),vs= [v]/\tyR H v=Y t/\∀H',Same H H'->Q (wM t) H'
theorem zZf{H:Hp}{v:V}(h:tyR H v=some "NoneType"):v= .non:=by
 cases v with
 | ref a=>
  let h':(match H a with | some (.frz _ (.dK _))=>some "dict" | _=>tyS H (.ref a))=some "NoneType":=h
  split at h'
  ·exact absurd (mM h') ∎
  ·exact kS h'
 | non=>rfl
 | bl b=>exact kS (H:=H) (show tyS H (.bl b)=_ from h)
 | int b=>exact kS (H:=H) (show tyS H (.int b)=_ from h)
 | str b=>exact kS (H:=H) (show tyS H (.str b)=_ from h)
 | byt b=>exact kS (H:=H) (show tyS H (.byt b)=_ from h)
 | flt b=>exact kS (H:=H) (show tyS H (.flt b)=_ from h)
 | ty b=>exact kS (H:=H) (show tyS H (.ty b)=_ from h)
theorem scKindOf:zY ["thing"] ["thing"] (zN zJr):=by walk_at "sc"
theorem zFr(F:Fun K "kind_of" "kind_of" zJr f fd)(B:Bl mg):FnOk P w K mg base CX0 1 f fd ["thing"] zCn:=by
 refine F.ok scKindOf (λvs H Q E h=>?_) (λc A o s H vs Q E hr h=>?_)
 ·ext wA h v t r2_ _
  subst r2_
  rfl
 ext yN h v t r2_ ht q;subst r2_;let nd:=scKindOf.nd;refine{_,(zE (zS (uD (zJi (pv 0))) (zG (zK zU)) zL)
  (zE (zS (yB (zM (kG (T:="bool") ∎) O B.isinstance zH (zA (pv 0) (zA (xZ (v:=.ty "bool") O B.bool zKe O) zB)))) (zG (zK zU)) zL)
  (zE (zS (yB (zM (kG (T:="int") ∎) O B.isinstance zH (zA (pv 0) (zA (xZ (v:=.ty "int") O B.int vL O) zB)))) (zG (zK zU)) zL)
  (zE (zS (yB (zM (kG (T:="str") ∎) O B.isinstance zH (zA (pv 0) (zA (xZ (v:=.ty "str") O B.str qZ O) zB)))) (zG (zK zU)) zL)
  (zE (zS (yB (zM (kG (T:="list") ∎) O B.isinstance zH (zA (pv 0) (zA (xZ (v:=.ty "list") O B.list yX O) zB)))) (zG (zK zU)) zL)
  (zE (zS (yB (zM (kG (T:="dict") ∎) O B.isinstance zH (zA (pv 0) (zA (xZ (v:=.ty "dict") O B.dict xF O) zB)))) (zG (zK zU)) zL)
  (zG (zK jD)))))))), ?_}
 walk_at "st";lk;let q:=q H (Same.refl H);let hm:=zYc ht;simp only[ht,Option.some.injEq,dC]
 by_cases hv:v= .non
 ·subst hv;cases ht;rw[mO O];exact q
 ·rw[mL hv]
  simp only[tyL,mI,pE,rL] at hm;rcases hm with rfl | rfl | rfl | rfl | rfl | rfl | rfl
  ·exact absurd (zZf ht) hv
  all_goals (simpa [zT,wM] using q)
noncomputable def alk(t t':T):Bool:=decide (xY (zZ t) (zZ t')=0)
def zBk(n:Nat):Sp:=λvs H Q _=>∃(v u:V)(t t':T),vs= [v,u]/\Rp H v t/\Rp H u t'/\T.few t/\T.few t'/\T.dep t<n/\∀H',Same H H'->Q (.bl (alk t t')) H'
def zTx(n:Nat):Sp:=λvs H Q _=>∃(v u:V)(us ws:List T),vs= [v,u]/\Rp H v (.lst us)/\Rp H u (.lst ws)/\T.few (.lst us)/\T.few (.lst ws)/\T.deps us<n/\∀H',Same H H'->Q (.bl (alk (.lst us) (.lst ws))) H'
def zWq(n:Nat):Sp:=λvs H Q _=>∃(v u:V)(ks ks':List (List Nat))(us ws:List T),vs= [v,u]/\Rp H v (.dic ks us)/\Rp H u (.dic ks' ws)/\T.few (.dic ks us)/\T.few (.dic ks' ws)/\T.deps us<n/\∀H',Same H H'->Q (.bl (alk (.dic ks us) (.dic ks' ws))) H'
theorem zTg{us ws:List T}(hl:us...*=ws...*):((List.range us...*).map λj=>alk (us.getD j .non) (ws.getD j .non)).all id=alk (.lst us) (.lst ws):=by
 let e:(((List.range us...*).map λj=>alk (us.getD j .non) (ws.getD j .non)).all id=true)↔(alk (.lst us) (.lst ws)=true):=by
  unfold alk;rw[cJ,zEl,pT];constructor
  ·intro h
   refine{hl,λi t t' h1 h2=>?_};let hi:i<us...*:=(mP.mp h1).1;let z:=h _ (nB.mpr {i,rH.mpr hi,O});rw[mZ,mZ,h1,h2] at z;exact rP z
  ·rintro⟨_,h⟩ x hx
   obtain⟨i,hi,rfl⟩:=nB.mp hx;let hi:=rH.mp hi;let h1:us[i]? =some us[i]:=by simp[hi]
   let h2:ws[i]? =Y (ws[i]'∅):=by simp[show i<ws...* by lia]
   rw[mZ,mZ,h1,h2];exact nH (h i _ _ h1 h2)
 exact sH.mpr e
theorem zXv{ks ks':List (List Nat)}{us ws:List T}(nk:ks.Nodup)(hl:ks...*=ks'...*):(ks.map λk=>decide (k∈ks')&& alk (zJ k ks us) (zJ k ks' ws)).all id=alk (.dic ks us) (.dic ks' ws):=by
 let e:((ks.map λk=>decide (k∈ks')&& alk (zJ k ks us) (zJ k ks' ws)).all id=true)↔(alk (.dic ks us) (.dic ks' ws)=true):=by
  rw[show(alk (.dic ks us) (.dic ks' ws)=true)↔_ from cJ,zEq nk,pT];constructor
  ·intro h
   refine{hl,λk hk=>?_};let z:=h _ (nB.mpr ⟨k,hk,O⟩);let z:(decide (k∈ks')&& alk (zJ k ks us) (zJ k ks' ws))=true:=z;rw[nU] at z;exact{rP z.1,rP z.2}
  ·rintro⟨_,h⟩ x hx
   obtain⟨k,hk,rfl⟩:=nB.mp hx;obtain⟨h1,h2⟩:=h k hk;show(decide (k∈ks')&& alk (zJ k ks us) (zJ k ks' ws))=true;rw[nU];exact{nH h1,nH h2}
 exact sH.mpr e
theorem zFj{α:Type}(f:Nat->α)(i:Nat):(List.range (i+1)).map f=(List.range i).map f++ [f i]:=by rw[pY,mN];rfl
theorem scAlkR:zY ["one","other"] ["one","other"] (zN zQa):=by walk_at "sc"
theorem zZz{n:Nat}(F:Fun K "alike_rows" "alike_rows" zQa f fd)(B:Bl4 mg)(Galike:Dn P w K mg base (2+2*n) "alike" ["one","other"] (zBk n)):FnOk P w K mg base CX0 (2+2*n+1) f fd ["one","other"] (zTx n):=by
 refine F.ok scAlkR (λvs H Q E h=>?_) (λc A o s H vs Q E hr h=>?_)
 ·ext yS h v u us ws r4_ _
  subst r4_
  rfl
 ext yS h v u us ws r4_ z_;ext yR z_ hv hw f1 f2 hd q;subst r4_;let nd:=scAlkR.nd;refine{_,(zE (zS (zQ zAj (zM yI O B.len yV (zA (pv 0) zB)) (zM yI O B.len yV (zA (pv 1) zB)) (zO _)) (zG (zK wZ)) zL)
  (zG (zK (zM (qQ O) O B.all uM (zA (xW (own:=["place","part"]) (F:=[("other",1)]) {O,tb_g%,tb_g%,tb_g%,(.cons O O O .nil)} O (zOr O B.enumerate (zA (pv 0) zB)) (λ_ _ _ _=>zPl (K:=K) (n:=2) O O (jO (yF (i:=0) (by show(xX ["place","part"] [("other",1)]).Nodup;decide+kernel) O (nN O)) (jO (yF (i:=1) (by show(xX ["place","part"] [("other",1)]).Nodup;decide+kernel) O (nN O)) zEp))) (λ_ _ _ _=>xJ) (λ_ _ _ _=>(zP Galike hr ∅ O (zA (pv 1) (zA (yJ (zTr (K:=K) O) (pv 2) (pv 0) (λ_ _=>O)) zB))))) zB))))), ?_}
 walk_at "st";lk;ext yN hv a xs r2_ ha hx;subst r2_;ext yN hw b ys r2_ hb hy;subst r2_;let hxl:=hx...*;let hyl:=hy...*;let l1:=f1.1
 by_cases hl:us...*=ws...*
 ·refine vM a O xs (SqL.of ha) b (zJj O ys (SqL.of hb) false (by rw[hxl,hyl,hl];simp) (zGr {a,xs,O,SqL.of ha, ?_}))
  refine zQz (K:=K) (xs:=xs) (λi zs H'=>Same H H'/\zs=((List.range i).map λj=>alk (us.getD j .non) (ws.getD j .non)).map V.bl) (by rw[mQ];lia) {Same.refl _,O} (λi zs H' _ h=>SqL.of (h.1 _ _ ha)) ?_ ?_
  ·rintro i x zs H' p hx' _ ⟨g,rfl⟩ hp
   refine oEA (hx.get hx') λt1 ht1 hr1=>?_;let hi:i<ys...*:=by let:=(mP.mp ht1).1;lia
   refine oEA (hy.get (i:=i) (v:=ys[i]) (by simp[hi])) λt2 ht2 hr2=>?_;let G:=g.trans (zD hp (.tup [V.int i,x]));let hm:=mF ht1;let d1:=b7 hm;lk;refine yL (SqL.of (G _ _ hb)) (v:=ys[i]) (yH (by simp[hi])) {_,_,t1,t2,O,Rp.same G _ _ hr1,Rp.same G _ _ hr2,b5 f1.2 hm,b5 f2.2 (mF ht2),∅,λH4 g4=>{G.trans g4, ?_}};rw[zFj,mN];let e1:us.getD i .non=t1:=by rw[mZ,ht1];rfl
   let e2:ws.getD i .non=t2:=by rw[mZ,ht2];rfl
   rw[e1,e2]
   rfl
  ·rintro zs H' _ ⟨g,rfl⟩ p hp
   refine wT p O _ (SqL.of zC) ?_;rw[hxl,zTg hl];exact q _ (g.trans (zD hp _))
 ·refine vM a O xs (SqL.of ha) b (zJj O ys (SqL.of hb) true ?_ (zGp ?_))
  ·rw[hxl,hyl];simp;lia
  ·let z:=q H (Same.refl H)
   let e:alk (.lst us) (.lst ws)=false:=by
    unfold alk;exact nL λc=>hl ((zEl us ws).mp c).1
   rw[e] at z;exact z
theorem scAlkD:zY ["one","other"] ["one","other"] (zN zPv):=by walk_at "sc"
theorem zYn{n:Nat}(F:Fun K "alike_records" "alike_records" zPv f fd)(B:Bl2 mg)(Galike:Dn P w K mg base (2+2*n) "alike" ["one","other"] (zBk n)):FnOk P w K mg base CX0 (2+2*n+1) f fd ["one","other"] (zWq n):=by
 refine F.ok scAlkD (λvs H Q E h=>?_) (λc A o s H vs Q E hr h=>?_)
 ·ext yM h v u ks ks' us z_
  ext oEA z_ ws r6_ _;subst r6_
  rfl
 ext yM h v u ks ks' us z_;ext qB z_ ws r6_ hv hw f1 z_;ext oAA z_ f2 hd q;subst r6_;let nd:=scAlkD.nd;let hu:=wR hr;refine{_,(zE (zS (zQ zAj (zM zDd O B.len yV (zA (pv 0) zB)) (zM zDd O B.len yV (zA (pv 1) zB)) (zO _)) (zG (zK wZ)) zL)
  (zG (zK (zM (qQ O) O B.all uM (zA (zBy (xW (own:=["name"]) (F:=[("other",1),("one",0)]) {O,tb_g%,tb_g%,tb_g%,(.cons O O O (.cons O O O .nil))} O (zEi (pv 0)) (λ_ _ _ _=>yF (i:=0) (by show(xX ["name"] [("other",1),("one",0)]).Nodup;decide+kernel) O (nN O)) (λ_ _ _ _=>xJ) (λ_ _ _ _=>(vO (zIr (zFo hu (pv 0) (pv 1))) (vU (zP Galike hr ∅ O (zA (wN hu (pv 2) (pv 0) (λ_ _=>O)) (zA (wN hu (pv 1) (pv 0) (λ_ _=>O)) zB)))))))) zB))))), ?_}
 walk_at "st";lk;ext yA hv a ps r2_ ha hk hx;subst r2_;ext yA hw b rs r2_ hb hkb hy;subst r2_;ext xI f1 nk h64 hle hf1;ext xI f2 nk2 h642 hle2 hf2;let hpl:ps...*=ks...*:=by let:=congrArg List.length hk;simpa using this
 let hrl:rs...*=ks'...*:=by let:=congrArg List.length hkb;simpa using this
 by_cases hl:ks...*=ks'...*
 ·refine vM a O ps ha b (zJj O rs hb false (by rw[hpl,hrl,hl];simp) (zGr {a,O,ps, ?_}))
  let body:∀(o:Obj)(H1:Hp)(th:Hp->Hp),H1 a=Y (.frz o (.dK ps))->Rps H1 (ps.map (·.2)) us->Rps H1 (rs.map (·.2)) ws->Rd H1 b (.dK rs)->(∀H',Same H1 H'->∀p xs,H' p=Y (.lst xs)->th H' p=Y (.lst xs))->(∀H',Same H1 H'->Same H (th H'))->
    vA [A6 "name"] [(A6 "other",1),(A6 "one",0)] (jQ 0) zBo (zPc (zQw (uV 0) (uV 1)) (zCe (zBk n) [] E0 (zAa (zCa (uV 2) (uV 0)) (zAa (zCa (uV 1) (uV 0)) zGv)))) [Y (V.ref a),Y (V.ref b)]
     (λv H'_1=>∃p,v=V.ref p/\∃x,SqL K (th H'_1) p (List.map V.bl x)/\Q (V.bl (x.all id)) (th H'_1)) (Itd a o ps) H1:=by
   intro o H1 th ha1 hx1 hy1 hb1 hth hgth;refine zAx (λi zs H'=>Same H1 H'/\zs=((ks.take i).map λk=>decide (k∈ks')&& alk (zJ k ks us) (zJ k ks' ws)).map V.bl) (by rw[mQ];lia) ⟨Same.refl _,rfl⟩ (λi zs H' h=>h.1 _ _ ha1) ?_ ?_
   ·rintro i kv zs H' hkv _ ⟨g,rfl⟩
    obtain⟨k,hki,hkk⟩:∃k,ks[i]? =Y k/\kv.1=Sum.inr (tx k):=by
     let h1:(ps.map (·.1))[i]? =Y kv.1:=by rw[mW,hkv];rfl
     rw[hk,mW] at h1
     cases hc:ks[i]? with
     | none=>rw[hc] at h1;cases h1
     | some k=>rw[hc] at h1;exact{k,O,(mM h1).symm}
    let hmk:=mF hki;refine oEA (Rp.at_name nk hk (Rps.same g _ _ hx1) hmk) λc1 hc1 hr1=>?_;let hm1:=yO hmk hle;let d1:=b7 hm1;let hg1:zDn H' a (kV kv.1) ↥c1:=.inl {ps,kv.1, .inr {o,g _ _ ha1},O,by rw[hkk];exact hc1.symm};lk
    by_cases hm:k∈ks'
    ·refine oEA (Rp.at_name nk2 hkb (Rps.same g _ _ hy1) hm) λc2 hc2 hr2=>?_
     let hm2:=yO hm hle2;let hg2:zDn H' b (kV kv.1) ↥c2:=.inl {rs,kv.1,hb1.same g,O,by rw[hkk];exact hc2.symm};refine{b,Y c2,O,hg2,true,O,iP O {c1,hg1,c2,hg2,c1,c2,_,_,O,hr1,hr2,b5 hf1 hm1,b5 hf2 hm2,∅,λH4 g4=>{g.trans g4, ?_}}};rw[yK hki,mN,mN];simp[hm]
    ·let hnone:jH rs kv.1=none:=zBc (by
      rw[hkb,hkk];intro z;refine oEA (nB.mp z) λk2 h2 e2=>?_;exact hm (by rw[<-jX (show nK k2=nK k from e2)];exact h2))
     refine{b,none,O, .inl {rs,kv.1,hb1.same g,O,hnone.symm},false,O,zGr {g, ?_}};rw[yK hki,mN,mN];simp[hm]
   ·rintro zs H' _ ⟨g,rfl⟩ p hp
    let g2:=g.trans (zD hp (.lst (List.map V.bl ((ks.take ps...*).map λk=>decide (k∈ks')&& alk (zJ k ks us) (zJ k ks' ws)))));refine wT p O _ (SqL.of (hth _ g2 p _ zC)) ?_;let z:=q _ (hgth _ g2);rw[hpl,pA] at z⊢;rw[zXv nk hl];exact z
  rcases ha with ha |⟨o,ha⟩
  ·refine .inl ⟨ha,λo=>body o _ (thaw H) zC (Rps.frz ha _ _ hx) (Rps.frz ha _ _ hy) (Rd.frz ha hb) (λH' g p xs e=>wS e (by intro o v z;cases z)) λH' g=>kI (o:=o) ha g⟩
  ·refine .inr ⟨o,ha,body o H (thaw H) ha hx hy hb (λH' g p xs e=>wS e (by intro o v z;cases z)) λH' g=>zCz λb u e=>.inl (g b u e)⟩
 ·refine vM a O ps ha b (zJj O rs hb true ?_ (zGp ?_))
  ·rw[hpl,hrl];simp;lia
  ·let z:=q H (Same.refl H)
   let e:alk (.dic ks us) (.dic ks' ws)=false:=by
    unfold alk;exact nL λc=>hl ((zEq nk).mp c).1
   rw[e] at z;exact z
theorem scAlk:zY ["one","other","kind"] ["one","other"] (zN zSv):=by walk_at "sc"
theorem zYa{n:Nat}(F:Fun K "alike" "alike" zSv f fd)(B:Bl2 mg)(Gkind_of:Dn P w K mg base 1 "kind_of" ["thing"] zCn)(Galike_rows:Dn P w K mg base (2+2*n+1) "alike_rows" ["one","other"] (zTx n))(Galike_records:Dn P w K mg base (2+2*n+1) "alike_records" ["one","other"] (zWq n)):
  FnOk P w K mg base CX0 (2+2*n+1+1) f fd ["one","other"] (zBk (n+1)):=by
 refine F.ok scAlk (λvs H Q E h=>?_) (λc A o s H vs Q E hr h=>?_)
 ·ext yS h v u t t' r4_ _
  subst r4_
  rfl
 ext yS h v u t t' r4_ z_;ext yR z_ hv hw f1 f2 hd q;subst r4_;let nd:=scAlk.nd;refine{_,(zE (pS 2 nd (zP Gkind_of hr ∅ O (zA (pv 0) zB)))
  (zE (zS (zQ zAj (pv 2) (zP Gkind_of hr ∅ O (zA (pv 1) zB)) (zO _)) (zG (zK wZ)) zL)
  (zE (zS (zQ xG (pv 2) zU (zO _)) (zG (zK (zP Galike_rows hr ∅ O (zA (pv 0) (zA (pv 1) zB))))) zL)
  (zE (zS (zQ xG (pv 2) zU (zO _)) (zG (zK (zP Galike_records hr ∅ O (zA (pv 0) (zA (pv 1) zB))))) zL)
  (zG (zK (yW xG (pv 0) (pv 1) (zO _)))))))), ?_}
 walk_at "st";lk;refine xD (kW t f1) λk1 e1 i1 n1=>?_;refine xD (kW t' f2) λk2 e2 i2 n2=>?_;refine{v,_,O,hv.ty,λH1 g1=>?_};rw[e1];refine{u,_,O,(Rp.same g1 _ _ hw).ty,λH2 g2=>?_};rw[e2];let g:=g1.trans g2;let hv:=Rp.same g _ _ hv;let hw:=Rp.same g _ _ hw
 by_cases ho:(zZ t).ord=(zZ t').ord
 ·let ek:k1=k2:=by
   rw[ho,i2] at i1;exact(mM i1).symm
  subst ek;refine zHa O false (by simp) (zGr ?_)
  cases t with
  | tup us=>exact f1.elim
  | non=>
   obtain rfl:k1= "nothing":=(mM i1).symm
   cases t' with
   | non=>
    cases (show v=_ from hv);cases (show u=_ from hw);exact{O,iN (by decide+kernel) {O,iN (by decide+kernel) {O,q _ g}}}
   | _=>exact absurd ho (by simp[zZ,C.ord])
  | bl b=>
   obtain rfl:k1= "truth":=(mM i1).symm
   cases t' with
   | bl b'=>
    cases (show v=_ from hv);cases (show u=_ from hw);refine{O,iN (by decide+kernel) {O,iN (by decide+kernel) {O, ?_}}};let z:=q _ g;rw[show alk (.bl b) (.bl b')=decide (V.bl b=V.bl b') from by cases b<;>cases b'<;>decide+kernel] at z;exact z
   | _=>exact absurd ho (by simp[zZ,C.ord])
  | int b=>
   obtain rfl:k1= "number":=(mM i1).symm
   cases t' with
   | int b'=>
    cases (show v=_ from hv);cases (show u=_ from hw);refine{O,iN (by decide+kernel) {O,iN (by decide+kernel) {O, ?_}}};let z:=q _ g;let e:alk (.int b) (.int b')=decide (V.int b=V.int b'):=by
     unfold alk;rw[cX];show xY (.int b) (.int b')=0↔_;rw[xY];unfold sgI;constructor
     ·intro h
      let:b=b':=by split at h<;>split at h<;>lia
      rw[this]
     ·intro h
      cases h;rw[mL ∅];rfl
    rw[e] at z;exact z
   | _=>exact absurd ho (by simp[zZ,C.ord])
  | str b=>
   obtain rfl:k1= "text":=(mM i1).symm
   cases t' with
   | str b'=>
    cases (show v=_ from hv);cases (show u=_ from hw);refine{O,iN (by decide+kernel) {O,iN (by decide+kernel) {O, ?_}}};let z:=q _ g;let e:alk (.str b) (.str b')=decide (V.str (tx b)=V.str (tx b')):=by
     unfold alk;rw[cX];show xY (.str b) (.str b')=0↔_;rw[zJn,zBa];constructor
     ·intro h;rw[h]
     ·intro h
      exact jX (congrArg Sum.inr (V.str.inj h))
    rw[e] at z;exact z
   | _=>exact absurd ho (by simp[zZ,C.ord])
  | lst us=>
   obtain rfl:k1= "row":=(mM i1).symm
   cases t' with
   | lst ws=>
    let hd':T.deps us+1<n+1:=hd;exact{O,iP O {v,u,us,ws,O,hv,hw,f1,f2,∅,λH3 g3=>q _ (g.trans g3)}}
   | _=>exact absurd ho (by simp[zZ,C.ord])
  | dic ks us=>
   obtain rfl:k1= "record":=(mM i1).symm
   cases t' with
   | dic ks' ws=>
    let hd':T.deps us+1<n+1:=hd;exact{O,iN (by decide+kernel) {O,iP O {v,u,ks,ks',us,ws,O,hv,hw,f1,f2,∅,λH3 g3=>q _ (g.trans g3)}}}
   | _=>exact absurd ho (by simp[zZ,C.ord])
 ·let ek:k1≠k2:=λz=>by
   subst z;rcases Nat.lt_or_gt_of_ne ho with c | c
   ·exact n2 _ c i1
   ·exact n1 _ c i2
  refine zHa O true (by simp[ek]) (zGp ?_);let z:=q _ g;let e:alk t t'=false:=by
   unfold alk;refine nL ?_;rw[zCu _ _ ho];unfold sgI;split<;>split<;>lia
  rw[e] at z;exact z
theorem yAe(F:Fun K "alike" "alike" zSv f fd):FnOk P w K mg base CX0 2 f fd ["one","other"] (zBk 0):=by
 refine F.ok scAlk (λvs H Q E h=>?_) (λc A o s H vs Q E hr h=>?_)
 ·ext yS h v u t t' r4_ _
  subst r4_
  rfl
 ext yS h v u t t' r4_ z_;ext yR z_ hv hw f1 f2 hd _;subst r4_;exact absurd hd (pM _)
theorem zPa{fr fdr:_}{fd' fdd:_}(F:Fun K "alike" "alike" zSv f fd)(FR:Fun K "alike_rows" "alike_rows" zQa fr fdr)(FD:Fun K "alike_records" "alike_records" zPv fd' fdd)(B:Bl4 mg)(Gk:Dn P w K mg base 1 "kind_of" ["thing"] zCn)
  (b:Binds K fd ["one","other"] []) (kp:A8 K (.ref f)=true) (m:mg "alike" =Y (.ref f)) (bR:Binds K fdr ["one","other"] []) (kR:A8 K (.ref fr)=true) (mR:mg "alike_rows" =Y (.ref fr))
  (bD:Binds K fdd ["one","other"] []) (kD:A8 K (.ref fd')=true) (mD:mg "alike_records" =Y (.ref fd')):
  ∀n:Nat,FnOk P w K mg base CX0 (2+2*n) f fd ["one","other"] (zBk n)
 | 0=>yAe F
 | n+1=>
  have D:Dn P w K mg base (2+2*n) "alike" ["one","other"] (zBk n):={_,_,zPa F FR FD B Gk b kp m bR kR mR bD kD mD n,b,kp,m}
  zYa F B.toBl2 Gk {_,_,zZz FR B D,bR,kR,mR} {_,_,zYn FD B.toBl2 D,bD,kD,mD}
abbrev sCp:V6:=top 20
def zGx(n:Nat):Sp:=λvs H Q _=>∃(v:V)(t:T),vs= [v]/\Rep H v t/\T.pure t/\T.dep t<n/\T.sz t<=100000/\∀v' H' D,Same H H'->Sp1 H' v' t D->(∀b∈D,H b=none)->Q v' H'
theorem scCp:zY ["thing"] ["thing"] (zN sCp):=by walk_at "sc"
theorem yCn{n:Nat}(F:Fun K "copied" "copied" sCp f fd)(B:Bl mg)(Gcopied:Dn P w K mg base (1+n) "copied" ["thing"] (zGx n)):FnOk P w K mg base CX0 (1+n+1) f fd ["thing"] (zGx (n+1)):=by
 refine F.ok scCp (λvs H Q E h=>?_) (λc A o s H vs Q E hr h=>?_)
 ·ext wA h v t r2_ _
  subst r2_
  rfl
 ext yA h v t r2_ hv hp z_;ext oAA z_ hd hz q;subst r2_;let nd:=scCp.nd;let hu:=wR hr;refine{_,(zE (zS (yB (pI B.isinstance zH B.list yX (pv 0))) (zG (zK (xW (own:=["part"]) (F:=[]) {O,tb_g%,tb_g%,tb_g%, .nil} O (xN (pv 0)) (λ_ _ _ _=>yF (i:=0) (by show(xX ["part"] []).Nodup;decide+kernel) O (nN O)) (λ_ _ _ _=>xJ) (λ_ _ _ _=>(zP Gcopied hr ∅ O (zA (pv 0) zB)))))) zL)
  (zE (zS (yB (pI B.isinstance zH B.dict xF (pv 0))) (zG (zK (yP (zAn O) O B.dict xF (zA (zBy (xW (own:=["name","part"]) (F:=[]) {O,tb_g%,tb_g%,tb_g%, .nil} O (zTe (yCy tL PySem.F.slot_dict_items PySem.F.type_dict_items zUz (pv 0))) (λ_ _ _ _=>zPl (K:=K) (n:=2) O O (jO (yF (i:=0) (by show(xX ["name","part"] []).Nodup;decide+kernel) O (nN O)) (jO (yF (i:=1) (by show(xX ["name","part"] []).Nodup;decide+kernel) O (nN O)) zEp))) (λ_ _ _ _=>xJ) (λ_ _ _ _=>(wX (zA (pv 0) (zA (zP Gcopied hr ∅ O (zA (pv 1) zB)) zB)))))) zB)))) zL)
  (zE (zS (yB (pI B.isinstance zH B.tuple zAp (pv 0))) (zG (zK (yP zBn O B.tuple zAp (zA (xW (own:=["part"]) (F:=[]) {O,tb_g%,tb_g%,tb_g%, .nil} O (xN (pv 0)) (λ_ _ _ _=>yF (i:=0) (by show(xX ["part"] []).Nodup;decide+kernel) O (nN O)) (λ_ _ _ _=>xJ) (λ_ _ _ _=>(zP Gcopied hr ∅ O (zA (pv 0) zB)))) zB)))) zL)
  (zG (zK (pv 0)))))), ?_}
 walk_at "st";lk
 cases t with
 | lst us=>
  ext yN hv a xs r2_ ha hs;subst r2_;let hl0:=d5 us;let hz':T.szs us+1<=100000:=hz;let hd':T.deps us+1<n+1:=hd;refine nEA ("list") (vX ha) ?_;rw[mO ∎];refine zCr a O {xs,SqL.of ha} (xT (K:=K) (xs:=xs) (λi ys H'=>Same H H'/\∃D,Sps H' ys (us.take i) D/\∀b∈D,H b=none) ?_ {Same.refl _,[],⟨O,O⟩,λ_ h=>(nomatch h)} (λi ys H' _ h=>SqL.of (h.1 _ _ ha)) ?_ ?_)
  ·let:=hs...*
   rw[mQ];lia
  ·rintro i u ys H' hu' _ ⟨g,D,hR,hD⟩
   refine oEA (hs.get hu') λt' ht' hr'=>?_;let hm:=mF ht';let d1:=b7 hm;let d2:=c8 hm;lk;refine{u,t',O,Rep.same g u t' hr',i6 hp hm,∅,∅,λv' H4 D1 g4 hv' hD1=>{g.trans g4,D++D1, ?_,λb hb=>?_}}
   ·rw[yK ht']
    refine Sps.snoc hv' (hR.same g4) λb hb z=>?_;obtain⟨o,ho⟩:=Sps.there _ _ _ hR hb;rw[hD1 b z] at ho;cases ho
   ·rcases mX.mp hb with z | z
    ·exact hD b z
    ·exact zR g (hD1 b z)
  ·rintro ys H' _ ⟨g,D,hR,hD⟩ p hp'
   rw[hs...*,pA] at hR;let hpD:p∉D:=λz=>by
    obtain⟨o,ho⟩:=Sps.there _ _ _ hR z;rw[hp'] at ho;cases ho
   refine q (.ref p) _ (p::D) (g.trans (zD hp' _)) {p,ys,D,O,zC,O,hpD,hR.same (zD hp' _)} λb hb=>?_;rcases mI.mp hb with z | z
   ·rw[z];exact zR g hp'
   ·exact hD b z
 | dic ks us=>
  ext yA hv d ps r2_ hdd hk hs;subst r2_;obtain⟨nk,hp⟩:=hp;let hl0:=d5 us;let hz':T.szs us+1<=100000:=hz;let hd':T.deps us+1<n+1:=hd;let hpl:ps...*=us...*:=by let:=hs...*;rwa [mC] at this
  let nkp:(ps.map (·.1)).Nodup:=by rw[hk];exact qY nk
  refine nEA ("dict") (jW hdd) ?_;rw[mL ∎];refine nEA ("dict") (jW hdd) ?_;rw[mO ∎];refine{.inr (.inr (.inl {O, .inl ⟨ps,hdd⟩})),d,ps,O,O, .inl hdd,λpv hpv=>?_};let s1:=zD hpv (zGw pv d);let hd1:=s1 _ _ hdd;refine qN pv d ps O zC (.inl {hd1,λo=>?_});let gf:Same (upd H d (.frz o (.dK ps))) (upd (upd H pv (zGw pv d)) d (.frz o (.dK ps))):=λb u e=>by
   by_cases hb:b=d
   ·subst hb;rw[zC] at e⊢;exact e
   ·rw[zV hb] at e⊢
    exact s1 _ _ e
  let gH:∀b,upd (upd H pv (zGw pv d)) d (.frz o (.dK ps)) b=none->H b=none:=λb e=>by
   by_cases hb:b=d
   ·subst hb;rw[zC] at e;cases e
   ·rw[zV hb] at e
    exact zR s1 e
  let hsf:Reps (upd (upd H pv (zGw pv d)) d (.frz o (.dK ps))) (ps.map (·.2)) us:=i9 hd1 hk (Reps.same s1 _ _ hs);let hdf:upd (upd H pv (zGw pv d)) d (.frz o (.dK ps)) d=Y (.frz o (.dK ps)):=zC;generalize upd (upd H pv (zGw pv d)) d (.frz o (.dK ps))=Hf at gf gH hsf hdf⊢;refine zNt (K:=K) (λi ys H'=>Same Hf H'/\∃(kvs:List (Key×V))(D:List V1),kvs...*=ys...*/\kvs.map (·.1)=(ps.take i).map (·.1)/\Sps H' (kvs.map (·.2)) (us.take i) D/\(∀b∈D,H b=none)/\∀(j:Nat) kv,kvs[j]? =Y kv->∃a,ys[j]? =Y (.ref a)/\H' a=Y (.tup [kV kv.1,kv.2])) ?_ {Same.refl _,[],[],O,O,⟨O,O⟩,λ_ h=>(nomatch h),by intro j kv h;simp at h} (λi ys H' h=>h.1 _ _ hdf) ?_ ?_
  ·rw[mQ];lia
  ·rintro i kv ys H' pt hkv _ ⟨g,kvs,D,l1,l2,hR,hD,ht⟩ hpt
   let s2:=zD hpt (.tup [kV kv.1,kv.2]);let g2:=g.trans s2;lk;obtain⟨t',ht',hr'⟩:=hsf.get (i:=i) (v:=kv.2) (by rw[mW,hkv];rfl);let hm:=mF ht';let d1:=b7 hm;let d2:=c8 hm;refine{kv.2,t',O,Rep.same g2 _ t' hr',i6 hp hm,∅,∅,λv' H1 D1 g1 hv' hD1 p hp1=>{(g2.trans g1).trans (zD hp1 _),kvs++ [(kv.1,v')],by simp[l1], ?_,D++D1, ?_,λb hb=>?_, ?_}}
   ·rw[yK hkv,mN,mN,l2];rfl
   ·rw[yK ht',mN]
    refine Sps.snoc (hv'.same (zD hp1 _)) (hR.same (s2.trans (g1.trans (zD hp1 _)))) λb hb z=>?_;obtain⟨ob,ho⟩:=Sps.there _ _ _ (hR.same s2) hb;rw[hD1 b z] at ho;cases ho
   ·rcases mX.mp hb with z | z
    ·exact hD b z
    ·exact gH b (zR g2 (hD1 b z))
   ·intro j kv1 hj
    by_cases hlt:j<kvs...*
    ·rw[pF hlt] at hj
     refine oEA (ht j kv1 hj) λa e1 e2=>?_;exact nEA a (by rw[pF ∅];exact e1) (zD hp1 _ _ _ (g1 _ _ (s2 _ _ e2)))
    ·rw[pG ∅] at hj
     let hj0:j - kvs...*=0:=by
      let:=(mP.mp hj).1
      simpa using this
     rw[hj0] at hj;simp only[pL,Option.some.injEq] at hj;subst hj;exact nEA p (by rw[pG ∅,<-l1,hj0];rfl) zC
  ·rintro ys H' _ ⟨g,kvs,D,l1,l2,hR,hD,ht⟩ p hp'
   rw[hpl,pA] at hR;rw[pA] at l2;let gs:Same H (thaw H (upd H' p (.lst ys))):=kI (o:=o) hdd (gf.trans (g.trans (zD hp' _)));let hR2:Sps (thaw H (upd H' p (.lst ys))) (kvs.map (·.2)) us D:=(hR.same (zD hp' _)).thaw;refine vM p O ys (wS zC (by intro o v z;cases z)) kvs (nAA l1 (λj kv hj=>?_) (λl hl=>?_))
   ·refine oEA (ht j kv hj) λa e1 e2=>?_
    exact nEA a e1 (wS (zD hp' _ _ _ e2) (by intro o v z;cases z))
   ·let em:qK [] kvs=kvs:=qP kvs [] (by rw[tW,l2];exact nkp)
    rw[em];let hlD:l∉D:=λz=>by
     obtain⟨ob,ho⟩:=Sps.there _ _ _ hR2 z;rw[hl] at ho;cases ho
    refine q (.ref l) _ (l::D) (gs.trans (zD hl _)) {l,kvs,D,O,zC,l2.trans hk,O,hlD,hR2.same (zD hl _)} λb hb=>?_;rcases mI.mp hb with z | z
    ·rw[z];exact zR gs hl
    ·exact hD b z
 | tup us=>exact hp.elim
 | non=>exact{_,hv.ty,by rw[mL (by simp[tyT,zT])];exact{_,hv.ty,by rw[mL (by simp[tyT,zT])];exact{_,hv.ty,by rw[mL (by simp[tyT,zT])];exact q _ _ [] (Same.refl _) ⟨O,hv⟩ (λ_ h=>nomatch h)}}}
 | bl b=>exact{_,hv.ty,by rw[mL (by simp[tyT,zT])];exact{_,hv.ty,by rw[mL (by simp[tyT,zT])];exact{_,hv.ty,by rw[mL (by simp[tyT,zT])];exact q _ _ [] (Same.refl _) ⟨O,hv⟩ (λ_ h=>nomatch h)}}}
 | int b=>exact{_,hv.ty,by rw[mL (by simp[tyT,zT])];exact{_,hv.ty,by rw[mL (by simp[tyT,zT])];exact{_,hv.ty,by rw[mL (by simp[tyT,zT])];exact q _ _ [] (Same.refl _) ⟨O,hv⟩ (λ_ h=>nomatch h)}}}
 | str b=>exact{_,hv.ty,by rw[mL (by simp[tyT,zT])];exact{_,hv.ty,by rw[mL (by simp[tyT,zT])];exact{_,hv.ty,by rw[mL (by simp[tyT,zT])];exact q _ _ [] (Same.refl _) ⟨O,hv⟩ (λ_ h=>nomatch h)}}}
end
mutual
def m6:T->Prop
 | .str _=>True
 | .lst us=>l7 us
 | .tup us=>l7 us
 | .dic ks us=>ks.Nodup/\ks...*=us...*/\True/\l7 us
 | .non=>True
 | .bl _=>True
 | .int _=>True
def l7:List T->Prop
 | []=>True
 | u::us=>m6 u/\l7 us
end
theorem j3{t:T}:∀{ts:List T},l7 ts->t∈ts->m6 t
 | [],_,h=>nomatch h
 | u::ts,h,hm=>(mI.mp hm).elim (λe=>e▸h.1) (j3 h.2)
mutual
theorem j8:∀t:T,T.few t->m6 t
 | .lst us,h=>j4 us h.2
 | .dic ks us,h=>{h.1,h.2.2.1,mH,j4 us h.2.2.2}
 | .tup _,h=>h.elim
 | .non,_=>mH
 | .bl _,_=>mH
 | .int _,_=>mH
 | .str _,_=>mH
theorem j4:∀us:List T,i3 us->l7 us
 | [],_=>mH
 | t::us,h=>{j8 t h.1,j4 us h.2}
end
abbrev zNu:V6:=top 66
abbrev zFf:V6:=top 67
abbrev zLg:V6:=top 68
abbrev zCh:V6:=top 69
mutual
noncomputable def zBu:T->Nat
 | .lst us=>uQ us+1
 | .dic _ us=>uQ us+1
 | .tup _=>0
 | .non=>0
 | .bl _=>0
 | .int _=>0
 | .str _=>0
noncomputable def uQ:List T->Nat
 | []=>0
 | u::us=>max (zBu u) (uQ us)
end
mutual
noncomputable def lsz:T->Nat
 | .lst us=>zDg us+1
 | .dic _ us=>zDg us+1
 | .tup _=>1
 | .non=>1
 | .bl _=>1
 | .int _=>1
 | .str _=>1
noncomputable def zDg:List T->Nat
 | []=>0
 | u::us=>lsz u+zDg us
end
mutual
noncomputable def lnar:T->Bool
 | .lst us=>decide (us...*<=60)&& xL us
 | .dic ks us=>decide (ks...*<=30)&& xL us
 | .tup _=>true
 | .non=>true
 | .bl _=>true
 | .int _=>true
 | .str _=>true
noncomputable def xL:List T->Bool
 | []=>true
 | u::us=>lnar u && xL us
end
noncomputable def vP:T->List T
 | .lst us=>us
 | .dic _ us=>us
 | _=>[]
noncomputable def jA:T->Bool
 | .lst _=>true
 | .dic _ _=>true
 | _=>false
theorem zPe:∀(l:List T)(b:Nat),((l.map λt=>(zBu t:Int)).foldl mxI (b:Int))=((max b (uQ l):Nat):Int)
 | [],b=>by
  show(b:Int)=((max b 0:Nat):Int)
  lia
 | u::l,b=>by
  let e:mxI (b:Int) (zBu u:Int)=((max b (zBu u):Nat):Int):=by
   unfold mxI
   by_cases h:zBu u>b
   ·rw[mO ∅,Nat.max_eq_right ∅]
   ·rw[mL ∅,Nat.max_eq_left ∅]
  rw[mV,tV,e,zPe l,Nat.max_assoc]
  rfl
theorem mx_l(us:List T):mxD 0 (us.map λt=>(zBu t:Int))=(uQ us:Int):=by
 cases us with
 | nil=>rfl
 | cons u us=>exact zPe us (zBu u)
theorem yBi:∀us:List T,(us.map λt=>(lsz t:Int)).sum=(zDg us:Int)
 | []=>rfl
 | u::us=>by
  rw[mV,List.sum_cons,yBi us];show(lsz u:Int)+(zDg us:Int)=((lsz u+zDg us:Nat):Int)
  lia
theorem yBn:∀us:List T,(us.map lnar).all id=xL us
 | []=>rfl
 | u::us=>by
  rw[mV,cK,yBn us];rfl
theorem zQc(t:T):(zT (tyT t) "list" || zT (tyT t) "dict")=jA t:=by
 cases t<;>(simp only[tyT,jA];decide+kernel)
theorem zBb{t:T}(h:jA t=true):T.dep t=T.deps (vP t)+1/\T.sz t=T.szs (vP t)+1/\zBu t=uQ (vP t)+1/\lsz t=zDg (vP t)+1:=by
 cases t<;>first | exact⟨O,O,O,O⟩| cases h
theorem zOa{t:T}(h:jA t=true)(g:m6 t):l7 (vP t):=by
 cases t with
 | lst us=>exact g
 | dic ks us=>exact g.2.2.2
 | _=>cases h
theorem zOe{t:T}(h:jA t=false):zBu t=0/\lsz t=1/\lnar t=true:=by
 cases t<;>first | exact⟨O,O,O⟩| cases h
section
variable{P:V3}{w:V4}{K:A7}{mg:Str->Option V0}{base:V5}{f:V1}{fd:V7}
def kU:Sp:=λvs H Q _=>∃(v:V)(t:T),vs= [v]/\Rep H v t/\m6 t/\jA t=true/\T.sz t<=20000/\∀l ys H',Same H H'->H' l=Y (.lst ys)->Reps H' ys (vP t)->Q (.ref l) H'
theorem scInner:zY ["_law_thing"] ["_law_thing"] (zN zNu):=by walk_at "sc"
theorem zSx(F:Fun K "_law_inner" "_law_inner" zNu f fd)(B:Bl mg):FnOk P w K mg base CX0 1 f fd ["_law_thing"] kU:=by
 refine F.ok scInner (λvs H Q E h=>?_) (λc A o s H vs Q E hr h=>?_)
 ·ext wA h v t r2_ _
  subst r2_
  rfl
 ext yA h v t r2_ hv hg z_;ext oAA z_ hh hz q;subst r2_;let nd:=scInner.nd;let hu:=wR hr;refine{_,(zE (zS (yB (pI B.isinstance zH B.dict xF (pv 0))) (zG (zK (zBy (xW (own:=["_law_name"]) (F:=[("_law_thing",0)]) {O,tb_g%,tb_g%,tb_g%,(.cons O O O .nil)} O (zEi (pv 0)) (λ_ _ _ _=>yF (i:=0) (by show(xX ["_law_name"] [("_law_thing",0)]).Nodup;decide+kernel) O (nN O)) (λ_ _ _ _=>xJ) (λ_ _ _ _=>(wN hu (pv 1) (pv 0) (λ_ _=>O))))))) zL)
  (zG (zK (pv 0)))), ?_}
 walk_at "st";lk;refine nEA _ hv.ty ?_
 cases t with
 | lst us=>
  ext yN hv a xs r2_ ha hx;subst r2_;exact iN (show¬zT "list" "dict" =true by decide+kernel) (q a xs H (Same.refl _) ha hx)
 | dic ks us=>
  ext yA hv d ps r2_ hdd hk hs;subst r2_;let hl0:=d5 us;let hz':T.szs us+1<=20000:=hz;let hpl:ps...*=us...*:=by let:=hs...*;rwa [mC] at this
  let nkp:(ps.map (·.1)).Nodup:=by rw[hk];exact qY hg.1
  refine iP (show zT "dict" "dict" =true by decide+kernel) ?_;refine zVi d O ps (.inl {hdd,λo=>?_});let hsf:Reps (upd H d (.frz o (.dK ps))) (ps.map (·.2)) us:=i9 hdd hk hs;refine zAx (λi ys H'=>Same (upd H d (.frz o (.dK ps))) H'/\ys=(ps.take i).map (·.2)) (by rw[mQ];lia) {Same.refl _,O} (λi ys H' h=>h.1 _ _ zC) ?_ ?_
  ·rintro i kv ys H' hkv _ ⟨g,rfl⟩
   lk;refine zCr kv.2 (.inl {ps,kv.1, .inr {o,g _ _ zC},O,(uJ nkp hkv).symm}) g ?_;rw[yK hkv,mN];rfl
  ·rintro ys H' _ ⟨g,rfl⟩ p hp'
   rw[pA];let gs:Same H (thaw H (upd H' p (.lst (ps.map (·.2))))):=kI (o:=o) hdd (g.trans (zD hp' _));exact q p _ _ gs (wS zC (by intro o v z;cases z)) (Reps.same gs _ _ hs)
 | _=>cases hh
def zCg(n:Nat):Sp:=λvs H Q _=>∃(v:V)(t:T),vs= [v]/\Rep H v t/\m6 t/\T.dep t<n/\T.sz t<=20000/\∀H',Same H H'->Q (.int (zBu t)) H'
theorem scDepth:zY ["_law_thing"] ["_law_thing"] (zN zFf):=by walk_at "sc"
theorem zRs{n:Nat}(F:Fun K "_law_depth" "_law_depth" zFf f fd)(B:Bl2 mg)(G_law_inner:Dn P w K mg base 1 "_law_inner" ["_law_thing"] kU)(G_law_depth:Dn P w K mg base (2+n) "_law_depth" ["_law_thing"] (zCg n)):FnOk P w K mg base CX0 (2+n+1) f fd ["_law_thing"] (zCg (n+1)):=by
 refine F.ok scDepth (λvs H Q E h=>?_) (λc A o s H vs Q E hr h=>?_)
 ·ext wA h v t r2_ _
  subst r2_
  rfl
 ext yA h v t r2_ hv hg z_;ext oAA z_ hd hz q;subst r2_;let nd:=scDepth.nd;refine{_,(zE (zS (xR (yB (zM (qL (T:="list") (U:="dict") ∎ ∎) O B.isinstance zH (zA (pv 0) (zA (wX (zA (xZ (v:=.ty "list") O B.list yX O) (zA (xZ (v:=.ty "dict") O B.dict xF O) zB))) zB))))) (zG (zK zF)) zL)
  (zG (zK (zI xH zF (yAa O O B.max (zA (xW (own:=["_law_one"]) (F:=[]) {O,tb_g%,tb_g%,tb_g%, .nil} O (xN (zP G_law_inner hr ∅ O (zA (pv 0) zB))) (λ_ _ _ _=>yF (i:=0) (by show(xX ["_law_one"] []).Nodup;decide+kernel) O (nN O)) (λ_ _ _ _=>xJ) (λ_ _ _ _=>(zP G_law_depth hr ∅ O (zA (pv 0) zB)))) zB) zF))))), ?_}
 walk_at "st";lk;intro p hp;let s1:=zD hp (.tup [V.ty "list",V.ty "dict"]);refine qN v _ p ⟨O,O⟩ zC (nA (jN s1 hv.ty) ?_);rw[zQc]
 by_cases hh:jA t=true
 ·refine iN (by rw[hh];decide) {v,t,O,Rep.same s1 _ _ hv,hg,hh,hz,λl ys H1 g1 hl hR=>?_}
  refine xI (zBb hh) λk1 k2 k3 k4=>?_;let hgd:=zOa hh hg;let hlen:=hR...*;let hle:=d5 (vP t);refine zCr l O {_,SqL.of hl} (xT (K:=K) (xs:=ys) (λi zs H2=>Same H1 H2/\zs=(((vP t).take i).map λt=>(zBu t:Int)).map V.int) (by rw[mQ];lia) {Same.refl _,O} (λi zs H2 _ h=>SqL.of (h.1 _ _ hl)) ?_ ?_)
  ·rintro i x zs H2 hx _ ⟨g2,rfl⟩
   refine oEA (hR.get hx) λu hu hr'=>?_;let hm:=mF hu;let d1:=b7 hm;let d2:=c8 hm;lk;refine{x,u,O,Rep.same g2 _ _ hr',j3 hgd hm,∅,∅,λH3 g3=>{g2.trans g3, ?_}};rw[yK hu,mN,mN];rfl
  ·rintro zs H2 _ ⟨g2,rfl⟩ p' hp'
   rw[hlen,pA];refine wT p' O _ (SqL.of zC) ?_;rw[mx_l];rw[k3] at q;let e:(1:Int)+(uQ (vP t):Int)=((uQ (vP t)+1:Nat):Int):=by lia
   rw[e];exact q _ (s1.trans (g1.trans (g2.trans (zD hp' _))))
 ·rw[bH] at hh
  refine oAA (zOe hh) λn1 n2 n3=>?_;refine iP hh ?_;rw[n1] at q;exact q _ s1
theorem zSc(F:Fun K "_law_depth" "_law_depth" zFf f fd):FnOk P w K mg base CX0 2 f fd ["_law_thing"] (zCg 0):=by
 refine F.ok scDepth (λvs H Q E h=>?_) (λc A o s H vs Q E hr h=>?_)
 ·ext wA h v t r2_ _
  subst r2_
  rfl
 ext yA h v t r2_ hv hg z_;ext oA z_ hd _;subst r2_;exact absurd hd (pM _)
theorem zHy(F:Fun K "_law_depth" "_law_depth" zFf f fd)(B:Bl2 mg)(G:Dn P w K mg base 1 "_law_inner" ["_law_thing"] kU)(b:Binds K fd ["_law_thing"] [])(kp:A8 K (.ref f)=true)(m:mg "_law_depth" =Y (.ref f)):
  ∀n:Nat,FnOk P w K mg base CX0 (2+n) f fd ["_law_thing"] (zCg n)
 | 0=>zSc F
 | n+1=>zRs F B G {_,_,zHy F B G b kp m n,b,kp,m}
def zDm(n:Nat):Sp:=λvs H Q _=>∃(v:V)(t:T),vs= [v]/\Rep H v t/\m6 t/\T.dep t<n/\T.sz t<=20000/\∀H',Same H H'->Q (.int (lsz t)) H'
theorem scSize:zY ["_law_thing"] ["_law_thing"] (zN zLg):=by walk_at "sc"
theorem zVa{n:Nat}(F:Fun K "_law_size" "_law_size" zLg f fd)(B:Bl mg)(G_law_inner:Dn P w K mg base 1 "_law_inner" ["_law_thing"] kU)(G_law_size:Dn P w K mg base (2+n) "_law_size" ["_law_thing"] (zDm n)):FnOk P w K mg base CX0 (2+n+1) f fd ["_law_thing"] (zDm (n+1)):=by
 refine F.ok scSize (λvs H Q E h=>?_) (λc A o s H vs Q E hr h=>?_)
 ·ext wA h v t r2_ _
  subst r2_
  rfl
 ext yA h v t r2_ hv hg z_;ext oAA z_ hd hz q;subst r2_;let nd:=scSize.nd;refine{_,(zE (zS (xR (yB (zM (qL (T:="list") (U:="dict") ∎ ∎) O B.isinstance zH (zA (pv 0) (zA (wX (zA (xZ (v:=.ty "list") O B.list yX O) (zA (xZ (v:=.ty "dict") O B.dict xF O) zB))) zB))))) (zG (zK zF)) zL)
  (zG (zK (zI xH zF (zM (zWb O) O B.sum yCw (zA (xW (own:=["_law_one"]) (F:=[]) {O,tb_g%,tb_g%,tb_g%, .nil} O (xN (zP G_law_inner hr ∅ O (zA (pv 0) zB))) (λ_ _ _ _=>yF (i:=0) (by show(xX ["_law_one"] []).Nodup;decide+kernel) O (nN O)) (λ_ _ _ _=>xJ) (λ_ _ _ _=>(zP G_law_size hr ∅ O (zA (pv 0) zB)))) zB)))))), ?_}
 walk_at "st";lk;intro p hp;let s1:=zD hp (.tup [V.ty "list",V.ty "dict"]);refine qN v _ p ⟨O,O⟩ zC (nA (jN s1 hv.ty) ?_);rw[zQc]
 by_cases hh:jA t=true
 ·refine iN (by rw[hh];decide) {v,t,O,Rep.same s1 _ _ hv,hg,hh,hz,λl ys H1 g1 hl hR=>?_}
  refine xI (zBb hh) λk1 k2 k3 k4=>?_;let hgd:=zOa hh hg;let hlen:=hR...*;let hle:=d5 (vP t);refine zCr l O {_,SqL.of hl} (xT (K:=K) (xs:=ys) (λi zs H2=>Same H1 H2/\zs=(((vP t).take i).map λt=>(lsz t:Int)).map V.int) (by rw[mQ];lia) {Same.refl _,O} (λi zs H2 _ h=>SqL.of (h.1 _ _ hl)) ?_ ?_)
  ·rintro i x zs H2 hx _ ⟨g2,rfl⟩
   refine oEA (hR.get hx) λu hu hr'=>?_;let hm:=mF hu;let d1:=b7 hm;let d2:=c8 hm;lk;refine{x,u,O,Rep.same g2 _ _ hr',j3 hgd hm,∅,∅,λH3 g3=>{g2.trans g3, ?_}};rw[yK hu,mN,mN];rfl
  ·rintro zs H2 _ ⟨g2,rfl⟩ p' hp'
   rw[hlen,pA];refine wT p' O _ (SqL.of zC) ?_;rw[yBi];rw[k4] at q;let e:(1:Int)+(zDg (vP t):Int)=((zDg (vP t)+1:Nat):Int):=by lia
   rw[e];exact q _ (s1.trans (g1.trans (g2.trans (zD hp' _))))
 ·rw[bH] at hh
  refine oAA (zOe hh) λn1 n2 n3=>?_;refine iP hh ?_;rw[n2] at q;exact q _ s1
theorem zXu(F:Fun K "_law_size" "_law_size" zLg f fd):FnOk P w K mg base CX0 2 f fd ["_law_thing"] (zDm 0):=by
 refine F.ok scSize (λvs H Q E h=>?_) (λc A o s H vs Q E hr h=>?_)
 ·ext wA h v t r2_ _
  subst r2_
  rfl
 ext yA h v t r2_ hv hg z_;ext oA z_ hd _;subst r2_;exact absurd hd (pM _)
theorem zLf(F:Fun K "_law_size" "_law_size" zLg f fd)(B:Bl mg)(G:Dn P w K mg base 1 "_law_inner" ["_law_thing"] kU)(b:Binds K fd ["_law_thing"] [])(kp:A8 K (.ref f)=true)(m:mg "_law_size" =Y (.ref f)):
  ∀n:Nat,FnOk P w K mg base CX0 (2+n) f fd ["_law_thing"] (zDm n)
 | 0=>zXu F
 | n+1=>zVa F B G {_,_,zLf F B G b kp m n,b,kp,m}
def gW(n:Nat):Sp:=λvs H Q _=>∃(v:V)(t:T),vs= [v]/\Rep H v t/\m6 t/\T.dep t<n/\T.sz t<=20000/\∀H',Same H H'->Q (.bl (lnar t)) H'
theorem scNarrow:zY ["_law_thing"] ["_law_thing"] (zN zCh):=by walk_at "sc"
theorem zNr{n:Nat}(F:Fun K "_law_narrow" "_law_narrow" zCh f fd)(B:Bl mg)(G_law_inner:Dn P w K mg base 1 "_law_inner" ["_law_thing"] kU)(G_law_narrow:Dn P w K mg base (2+n) "_law_narrow" ["_law_thing"] (gW n)):FnOk P w K mg base CX0 (2+n+1) f fd ["_law_thing"] (gW (n+1)):=by
 refine F.ok scNarrow (λvs H Q E h=>?_) (λc A o s H vs Q E hr h=>?_)
 ·ext wA h v t r2_ _
  subst r2_
  rfl
 ext yA h v t r2_ hv hg z_;ext oAA z_ hd hz q;subst r2_;let nd:=scNarrow.nd;refine{_,(zE (zS (xR (yB (zM (qL (T:="list") (U:="dict") ∎ ∎) O B.isinstance zH (zA (pv 0) (zA (wX (zA (xZ (v:=.ty "list") O B.list yX O) (zA (xZ (v:=.ty "dict") O B.dict xF O) zB))) zB))))) (zG (zK wZ)) zL)
  (zE (zS (zQ qS (zM uY O B.len yV (zA (pv 0) zB)) (yJ zW (yG (zA zF (zA zF zB))) (yP wD O B.int vL (zA (pI B.isinstance zH B.dict xF (pv 0)) zB)) (λ_ _=>O)) (zO _)) (zG (zK wZ)) zL)
  (zG (zK (zM (qQ O) O B.all uM (zA (xW (own:=["_law_one"]) (F:=[]) {O,tb_g%,tb_g%,tb_g%, .nil} O (xN (zP G_law_inner hr ∅ O (zA (pv 0) zB))) (λ_ _ _ _=>yF (i:=0) (by show(xX ["_law_one"] []).Nodup;decide+kernel) O (nN O)) (λ_ _ _ _=>xJ) (λ_ _ _ _=>(zP G_law_narrow hr ∅ O (zA (pv 0) zB)))) zB)))))), ?_}
 walk_at "st";lk;intro p hp;let s1:=zD hp (.tup [V.ty "list",V.ty "dict"]);refine qN v _ p ⟨O,O⟩ zC (nA (jN s1 hv.ty) ?_);rw[zQc]
 by_cases hh:jA t=true
 ·refine iN (by rw[hh];decide) ?_
  refine xI (zBb hh) λk1 k2 k3 k4=>?_;let hgd:=zOa hh hg;let hle:=d5 (vP t);let go:∀H2,Same H H2->lnar t=xL (vP t)->kU [v] H2 (λx H1=>∃a,x=V.ref a/\(∃xs,SqL K H1 a xs)/\vA [A6 "_law_one"] [] (jQ 0) zBo (zCe (gW n) [] E0 (zAa (uV 0) zGv)) [Y v]
    (λx H1=>∃p,x=V.ref p/\∃x,SqL K H1 p (List.map V.bl x)/\Q (V.bl (x.all id)) H1) (Itl K a) H1) E0:=by
   intro H2 g2 hq;refine{v,t,O,Rep.same g2 _ _ hv,hg,hh,hz,λl ys H1 g1 hl hR=>?_};let hlen:=hR...*;refine zCr l O {_,SqL.of hl} (xT (K:=K) (xs:=ys) (λi zs H2=>Same H1 H2/\zs=(((vP t).take i).map lnar).map V.bl) (by rw[mQ];lia) {Same.refl _,O} (λi zs H2 _ h=>SqL.of (h.1 _ _ hl)) ?_ ?_)
   ·rintro i x zs H2 hx _ ⟨g2,rfl⟩
    refine oEA (hR.get hx) λu hu hr'=>?_;let hm:=mF hu;let d1:=b7 hm;let d2:=c8 hm;lk;refine{x,u,O,Rep.same g2 _ _ hr',j3 hgd hm,∅,∅,λH3 g3=>{g2.trans g3, ?_}};rw[yK hu,mN,mN];rfl
   ·rintro zs H3 _ ⟨g3,rfl⟩ p' hp'
    rw[hlen,pA];refine wT p' O _ (SqL.of zC) ?_;rw[yBn,<-hq];exact q _ (g2.trans (g1.trans (g3.trans (zD hp' _))))
  cases t with
  | lst us=>
   let hty:tyS H v=some "list":=hv.ty;let hvv:=hv;ext yN hvv a xs r2_ ha hx;subst r2_;let hxl:=hx...*;refine wT a O xs...* (.inl {xs,SqL.of (s1 _ _ ha),O}) (λp2 hp2=>?_);let s2:=s1.trans (zD hp2 (.lst [V.int 60,V.int 30]));refine nEA _ (jN s2 hty) ?_;rw[mL (show¬zT "list" "dict" =true by decide+kernel)];refine yL (SqL.of zC) (yH (j:=0) O) {60,O, ?_}
   by_cases c:60<us...*
   ·refine iP ∅ ?_
    let e:lnar (.lst us)=false:=by show(decide (us...*<=60)&& xL us)=false;rw[nL ∅];rfl
    rw[<-e];exact q _ s2
   ·refine iN ∅ (go _ s2 ?_)
    show(decide (us...*<=60)&& xL us)=xL us;rw[nH ∅];rfl
  | dic ks us=>
   let hty:tyS H v=some "dict":=hv.ty;let hvv:=hv;ext yA hvv a ps r2_ ha hk hx;subst r2_;let hxl:=hx...*;rw[mC] at hxl;let hkl:=hg.2.1;refine wT a O ps...* (.inr {ps,s1 _ _ ha,O}) (λp2 hp2=>?_);let s2:=s1.trans (zD hp2 (.lst [V.int 60,V.int 30]));refine nEA _ (jN s2 hty) ?_;rw[mO (show zT "dict" "dict" =true by decide+kernel)];refine yL (SqL.of zC) (yH (j:=1) O) {30,O, ?_}
   by_cases c:30<ks...*
   ·refine iP ∅ ?_
    let e:lnar (.dic ks us)=false:=by show(decide (ks...*<=30)&& xL us)=false;rw[nL ∅];rfl
    rw[<-e];exact q _ s2
   ·refine iN ∅ (go _ s2 ?_)
    show(decide (ks...*<=30)&& xL us)=xL us;rw[nH ∅];rfl
  | _=>cases hh
 ·rw[bH] at hh
  refine oAA (zOe hh) λn1 n2 n3=>?_;refine iP hh ?_;rw[n3] at q;exact q _ s1
theorem zNa(F:Fun K "_law_narrow" "_law_narrow" zCh f fd):FnOk P w K mg base CX0 2 f fd ["_law_thing"] (gW 0):=by
 refine F.ok scNarrow (λvs H Q E h=>?_) (λc A o s H vs Q E hr h=>?_)
 ·ext wA h v t r2_ _
  subst r2_
  rfl
 ext yA h v t r2_ hv hg z_;ext oA z_ hd _;subst r2_;exact absurd hd (pM _)
theorem zGh(F:Fun K "_law_narrow" "_law_narrow" zCh f fd)(B:Bl mg)(G:Dn P w K mg base 1 "_law_inner" ["_law_thing"] kU)(b:Binds K fd ["_law_thing"] [])(kp:A8 K (.ref f)=true)(m:mg "_law_narrow" =Y (.ref f)):
  ∀n:Nat,FnOk P w K mg base CX0 (2+n) f fd ["_law_thing"] (gW n)
 | 0=>zNa F
 | n+1=>zNr F B G {_,_,zGh F B G b kp m n,b,kp,m}
abbrev zNp:V6:=top 70
noncomputable def zDw(t:T):Bool:=lnar t && decide (zBu t<9)&& decide (lsz t<201)
def spLG:Sp:=λvs H Q _=>∃(v:V)(t:T),vs= [v]/\Rep H v t/\m6 t/\T.dep t<20/\T.sz t<=20000/\∀H',Same H H'->Q (.bl (zDw t)) H'
theorem scGoodT:zY ["_law_thing"] ["_law_thing"] (zN zNp):=by walk_at "sc"
theorem zWf(F:Fun K "_law_good" "_law_good" zNp f fd)(B:Bl mg)(G_law_narrow:Dn P w K mg base (2+20) "_law_narrow" ["_law_thing"] (gW 20))(G_law_depth:Dn P w K mg base (2+20) "_law_depth" ["_law_thing"] (zCg 20))(G_law_size:Dn P w K mg base (2+20) "_law_size" ["_law_thing"] (zDm 20)):FnOk P w K mg base CX0 23 f fd ["_law_thing"] spLG:=by
 refine F.ok scGoodT (λvs H Q E h=>?_) (λc A o s H vs Q E hr h=>?_)
 ·ext wA h v t r2_ _
  subst r2_
  rfl
 ext yA h v t r2_ hv hg z_;ext oAA z_ hd hz q;subst r2_;let nd:=scGoodT.nd;refine nEA _ (zG (zK (vO (zP G_law_narrow hr ∅ O (zA (pv 0) zB)) (vO (yW kA (zP G_law_depth hr ∅ O (zA (pv 0) zB)) zF (zO _)) (vU (yW kA (zP G_law_size hr ∅ O (zA (pv 0) zB)) zF (zO _))))))) ?_;walk_at "st";lk;refine{v,t,O,hv,hg,hd,hz,λH1 g1=>{lnar t,O, ?_}};unfold zDw at q
 by_cases c1:lnar t=true
 ·rw[c1,Bool.true_and] at q
  refine iP c1 {v,t,O,Rep.same g1 _ _ hv,hg,hd,hz,λH2 g2=>{_,O, ?_}}
  by_cases c2:zBu t<9
  ·rw[nH c2,Bool.true_and] at q
   refine iP ∅ {v,t,O,Rep.same (g1.trans g2) _ _ hv,hg,hd,hz,λH3 g3=>{_,O, ?_}};let e:decide ((lsz t:Int)<201)=decide (lsz t<201):=cX.mpr ∅;rw[e];exact q _ (g1.trans (g2.trans g3))
  ·rw[nL c2,aZ] at q
   exact iN ∅ (q _ (g1.trans g2))
 ·rw[bH] at c1
  rw[c1,aZ,aZ] at q;exact iN (by rw[c1];decide) (q _ g1)
abbrev sAh:V6:=top 26
noncomputable def ahead:List T->List T->Nat
 | t::ts,u::us=>if alk t u=true then ahead ts us+1 else 0
 | _,_=>0
theorem vG:∀(ts us:List T),ahead ts us<=ts...*/\ahead ts us<=us...*
 | [],_=>{mT _,mT _}
 | _::_,[]=>{mT _,mT _}
 | t::ts,u::us=>by
  let:=vG ts us;show(if alk t u=true then ahead ts us+1 else 0)<=ts...*+1/\(if alk t u=true then ahead ts us+1 else 0)<=us...*+1;split<;>lia
theorem zNf{t u:T}:∀(ts us:List T)(i:Nat),ts[i]? =Y t->us[i]? =Y u->ahead (ts.drop i) (us.drop i)=if alk t u=true then ahead (ts.drop (i+1)) (us.drop (i+1))+1 else 0:=by
 intro ts
 induction ts with
 | nil=>intro us i h _;simp at h
 | cons a ts ih=>
  intro us i h1 h2
  cases us with
  | nil=>simp at h2
  | cons b us=>
   cases i with
   | zero=>
    simp only[pL,Option.some.injEq] at h1 h2;subst h1 h2
    rfl
   | succ i=>
    simp only[tM] at h1 h2;exact ih us i h1 h2
def yFd(n:Nat):Sp:=λvs H Q _=>∃(a b:V1)(xs ys:List V)(us ws:List T),vs= [.ref a, .ref b]/\H a=Y (.lst xs)/\H b=Y (.lst ys)/\Reps H xs us/\Reps H ys ws/\T.few (.lst us)/\T.few (.lst ws)/\T.deps us<n/\∀H',Same H H'->Q (.int (ahead us ws:Nat)) H'
theorem scAh:zY ["one","other","count","part","against"] ["one","other"] (zN sAh):=by walk_at "sc"
theorem ok_ah{n:Nat}(F:Fun K "alike_ahead" "alike_ahead" sAh f fd)(B:Bl6 mg)(Galike:Dn P w K mg base (2+2*n) "alike" ["one","other"] (zBk n)):FnOk P w K mg base CX0 (2+2*n+1) f fd ["one","other"] (yFd n):=by
 refine F.ok scAh (λvs H Q E h=>?_) (λc A o s H vs Q E hr h=>?_)
 ·ext yM h a b xs ys us z_
  ext oEA z_ ws r6_ _;subst r6_
  rfl
 ext yM h a b xs ys us z_;ext qB z_ ws r6_ ha hb hx z_;ext vS z_ hy hf hf' hd q;subst r6_;let nd:=scAh.nd;refine{_,(zE (pS 2 nd zF)
  (zE (wU PassesOwn.never O (yCa O B.zip (zA (pv 0) (zA (pv 1) zB))) (zNe (n:=2) O (jO (yF (i:=3) nd O (nN O)) (jO (yF (i:=4) nd O (nN O)) zEp))) (zE (zS (xR (yB (zP Galike hr ∅ O (zA (pv 3) (zA (pv 4) zB))))) (zG (zK (pv 2))) zL)
  (zG (zNz (i:=2) nd O (nN O) zF zMu))))
  (zG (zK (pv 2))))), ?_}
 walk_at "st";lk;refine jU a b ⟨O,O⟩ {xs,SqL.of ha} {ys,SqL.of hb} ?_;let hlx:=hx...*;let hly:=hy...*;let hl5:=hf.1;refine zTp (xs:=xs) (ys:=ys) (λi σ H2=>(∃o1 o2,σ= [Y (V.ref a),Y (V.ref b),Y (V.int (i:Nat)),o1,o2])/\Same H H2/\ahead us ws=i+ahead (us.drop i) (ws.drop i)) {⟨_,_,O⟩,Same.refl _,by simp} (λi σ H2 h=>{SqL.of (h.2.1 _ _ ha),SqL.of (h.2.1 _ _ hb)}) ?_ ?_
 ·rintro i x y σ H2 p hxi hyi ⟨⟨o1,o2,rfl⟩,g,he⟩ hp
  let g2:=g.trans (zD hp (.tup [x,y]));refine oEA (hx.get hxi) λt ht hrt=>?_;refine oEA (hy.get hyi) λu hu' hru=>?_;let d1:=b7 (mF ht);rw[zNf _ _ _ ht hu'] at he;lk;refine zOk ([x,y]) (SqT.of zC) O x ([y]) (zTf O y ([]) O O ?_);refine{x,y,t,u,O,Rep.rp _ _ (Rep.same g2 _ _ hrt),Rep.rp _ _ (Rep.same g2 _ _ hru),b5 hf.2 (mF ht),b5 hf'.2 (mF hu'),∅,λH3 g3=>{alk t u,O, ?_}}
  cases ha':alk t u with
  | false=>
   rw[ha',mL ∎,Nat.add_zero] at he;rw[mO O];rw[he] at q;exact q _ (g2.trans g3)
  | true=>
   rw[ha',mO O] at he;rw[mL ∎];unfold yDt ipI;lk;exact nAA {∅,_,O} (g2.trans g3) ∅
 ·rintro i σ H2 hor h1 h2 ⟨⟨o1,o2,rfl⟩,g,he⟩
  lk;let:ahead (us.drop i) (ws.drop i)=0:=by
   let:=vG (us.drop i) (ws.drop i);rw[nG,nG] at this
   lia
  rw[this,Nat.add_zero] at he;rw[he] at q;exact q _ g
abbrev sCo:V6:=top 71
theorem scCo:zY ["_law_thing"] ["_law_thing"] (zN sCo):=by walk_at "sc"
def zCx(n:Nat):Sp:=λvs H Q _=>∃(v:V)(t:T),vs= [v]/\Rep H v t/\T.few t/\T.dep t<n/\∀v' H' D,Same H H'->Sp1 H' v' t D->(∀b∈D,H b=none)->Q v' H'
theorem yDn{n:Nat}(F:Fun K "_law_held" "_law_held" sCo f fd)(B:Bl mg)(G_law_held:Dn P w K mg base (1+n) "_law_held" ["_law_thing"] (zCx n)):FnOk P w K mg base CX0 (1+n+1) f fd ["_law_thing"] (zCx (n+1)):=by
 refine F.ok scCo (λvs H Q E h=>?_) (λc A o s H vs Q E hr h=>?_)
 ·ext wA h v t r2_ _
  subst r2_
  rfl
 ext yA h v t r2_ hv hp z_;ext oA z_ hd q;subst r2_;let nd:=scCo.nd;let hu:=wR hr;refine{_,(zE (zS (yB (pI B.isinstance zH B.list yX (pv 0))) (zG (zK (xW (own:=["_law_one"]) (F:=[]) {O,tb_g%,tb_g%,tb_g%, .nil} O (xN (pv 0)) (λ_ _ _ _=>yF (i:=0) (by show(xX ["_law_one"] []).Nodup;decide+kernel) O (nN O)) (λ_ _ _ _=>xJ) (λ_ _ _ _=>(zP G_law_held hr ∅ O (zA (pv 0) zB)))))) zL)
  (zE (zS (yB (pI B.isinstance zH B.dict xF (pv 0))) (zG (zK (yP (zAn O) O B.dict xF (zA (zBy (xW (own:=["_law_name"]) (F:=[("_law_thing",0)]) {O,tb_g%,tb_g%,tb_g%,(.cons O O O .nil)} O (zEi (pv 0)) (λ_ _ _ _=>yF (i:=0) (by show(xX ["_law_name"] [("_law_thing",0)]).Nodup;decide+kernel) O (nN O)) (λ_ _ _ _=>xJ) (λ_ _ _ _=>(wX (zA (pv 0) (zA (zP G_law_held hr ∅ O (zA (wN hu (pv 1) (pv 0) (λ_ _=>O)) zB)) zB)))))) zB)))) zL)
  (zG (zK (pv 0))))), ?_}
 walk_at "st";lk
 cases t with
 | lst us=>
  ext yN hv a xs r2_ ha hs;subst r2_;obtain⟨hl0,hp⟩:=hp;let hd':T.deps us+1<n+1:=hd;refine nEA ("list") (vX ha) ?_;rw[mO ∎];refine zCr a O {xs,SqL.of ha} (xT (K:=K) (xs:=xs) (λi ys H'=>Same H H'/\∃D,Sps H' ys (us.take i) D/\∀b∈D,H b=none) ?_ {Same.refl _,[],⟨O,O⟩,λ_ h=>(nomatch h)} (λi ys H' _ h=>SqL.of (h.1 _ _ ha)) ?_ ?_)
  ·let:=hs...*
   rw[mQ];lia
  ·rintro i u ys H' hu' _ ⟨g,D,hR,hD⟩
   refine oEA (hs.get hu') λt' ht' hr'=>?_;let hm:=mF ht';let d1:=b7 hm;lk;refine{u,t',O,Rep.same g u t' hr',b5 hp hm,∅,λv' H4 D1 g4 hv' hD1=>{g.trans g4,D++D1, ?_,λb hb=>?_}}
   ·rw[yK ht']
    refine Sps.snoc hv' (hR.same g4) λb hb z=>?_;obtain⟨o,ho⟩:=Sps.there _ _ _ hR hb;rw[hD1 b z] at ho;cases ho
   ·rcases mX.mp hb with z | z
    ·exact hD b z
    ·exact zR g (hD1 b z)
  ·rintro ys H' _ ⟨g,D,hR,hD⟩ p hp'
   rw[hs...*,pA] at hR;let hpD:p∉D:=λz=>by
    obtain⟨o,ho⟩:=Sps.there _ _ _ hR z;rw[hp'] at ho;cases ho
   refine q (.ref p) _ (p::D) (g.trans (zD hp' _)) {p,ys,D,O,zC,O,hpD,hR.same (zD hp' _)} λb hb=>?_;rcases mI.mp hb with z | z
   ·rw[z];exact zR g hp'
   ·exact hD b z
 | dic ks us=>
  ext yA hv d ps r2_ hdd hk hs;subst r2_;ext xI hp nk hl1 hl0 hp;let hd':T.deps us+1<n+1:=hd;let hpl:ps...*=us...*:=by let:=hs...*;rwa [mC] at this
  let nkp:(ps.map (·.1)).Nodup:=by rw[hk];exact qY nk
  refine nEA ("dict") (jW hdd) ?_;rw[mL ∎];refine nEA ("dict") (jW hdd) ?_;rw[mO ∎];refine zVi d O ps (.inl {hdd,λo=>?_});let gf:Same (upd H d (.frz o (.dK ps))) (upd H d (.frz o (.dK ps))):=Same.refl _;let gH:∀b,upd H d (.frz o (.dK ps)) b=none->H b=none:=λb e=>by
   by_cases hb:b=d
   ·subst hb;rw[zC] at e;cases e
   ·rw[zV hb] at e
    exact e
  let hsf:Reps (upd H d (.frz o (.dK ps))) (ps.map (·.2)) us:=i9 hdd hk hs;let hdf:upd H d (.frz o (.dK ps)) d=Y (.frz o (.dK ps)):=zC;generalize hHf:upd H d (.frz o (.dK ps))=Hf at gf gH hsf hdf⊢;refine zAx (λi ys H'=>Same Hf H'/\∃(kvs:List (Key×V))(D:List V1),kvs...*=ys...*/\kvs.map (·.1)=(ps.take i).map (·.1)/\Sps H' (kvs.map (·.2)) (us.take i) D/\(∀b∈D,H b=none)/\∀(j:Nat) kv,kvs[j]? =Y kv->∃a,ys[j]? =Y (.ref a)/\H' a=Y (.tup [kV kv.1,kv.2])) ?_ {Same.refl _,[],[],O,O,⟨O,O⟩,λ_ h=>(nomatch h),by intro j kv h;simp at h} (λi ys H' h=>h.1 _ _ hdf) ?_ ?_
  ·rw[mQ];lia
  ·rintro i kv ys H' hkv _ ⟨g,kvs,D,l1,l2,hR,hD,ht⟩
   let s2:=Same.refl H';let g2:=g.trans s2;lk;obtain⟨t',ht',hr'⟩:=hsf.get (i:=i) (v:=kv.2) (by rw[mW,hkv];rfl);let hm:=mF ht';let d1:=b7 hm;refine{kv.2, .inl {ps,kv.1, .inr {o,g _ _ hdf},O,(uJ nkp hkv).symm},kv.2,t',O,Rep.same g2 _ t' hr',b5 hp hm,∅,λv' H1 D1 g1 hv' hD1 p hp1=>{(g2.trans g1).trans (zD hp1 _),kvs++ [(kv.1,v')],by simp[l1], ?_,D++D1, ?_,λb hb=>?_, ?_}}
   ·rw[yK hkv,mN,mN,l2];rfl
   ·rw[yK ht',mN]
    refine Sps.snoc (hv'.same (zD hp1 _)) (hR.same (s2.trans (g1.trans (zD hp1 _)))) λb hb z=>?_;obtain⟨ob,ho⟩:=Sps.there _ _ _ (hR.same s2) hb;rw[hD1 b z] at ho;cases ho
   ·rcases mX.mp hb with z | z
    ·exact hD b z
    ·exact gH b (zR g2 (hD1 b z))
   ·intro j kv1 hj
    by_cases hlt:j<kvs...*
    ·rw[pF hlt] at hj
     refine oEA (ht j kv1 hj) λa e1 e2=>?_;exact nEA a (by rw[pF ∅];exact e1) (zD hp1 _ _ _ (g1 _ _ (s2 _ _ e2)))
    ·rw[pG ∅] at hj
     let hj0:j - kvs...*=0:=by
      let:=(mP.mp hj).1
      simpa using this
     rw[hj0] at hj;simp only[pL,Option.some.injEq] at hj;subst hj;exact nEA p (by rw[pG ∅,<-l1,hj0];rfl) zC
  ·rintro ys H' _ ⟨g,kvs,D,l1,l2,hR,hD,ht⟩ p hp'
   rw[hpl,pA] at hR;rw[pA] at l2;let gs:Same H (thaw H (upd H' p (.lst ys))):=kI (o:=o) hdd (by rw[hHf];exact g.trans (zD hp' _));let hR2:Sps (thaw H (upd H' p (.lst ys))) (kvs.map (·.2)) us D:=(hR.same (zD hp' _)).thaw;refine vM p O ys (wS zC (by intro o v z;cases z)) kvs (nAA l1 (λj kv hj=>?_) (λl hl=>?_))
   ·refine oEA (ht j kv hj) λa e1 e2=>?_
    exact nEA a e1 (wS (zD hp' _ _ _ e2) (by intro o v z;cases z))
   ·let em:qK [] kvs=kvs:=qP kvs [] (by rw[tW,l2];exact nkp)
    rw[em];let hlD:l∉D:=λz=>by
     obtain⟨ob,ho⟩:=Sps.there _ _ _ hR2 z;rw[hl] at ho;cases ho
    refine q (.ref l) _ (l::D) (gs.trans (zD hl _)) {l,kvs,D,O,zC,l2.trans hk,O,hlD,hR2.same (zD hl _)} λb hb=>?_;rcases mI.mp hb with z | z
    ·rw[z];exact zR gs hl
    ·exact hD b z
 | tup us=>exact hp.elim
 | non=>exact{_,hv.ty,by rw[mL (by simp[tyT,zT])];exact{_,hv.ty,by rw[mL (by simp[tyT,zT])];exact q _ _ [] (Same.refl _) ⟨O,hv⟩ (λ_ h=>nomatch h)}}
 | bl b=>exact{_,hv.ty,by rw[mL (by simp[tyT,zT])];exact{_,hv.ty,by rw[mL (by simp[tyT,zT])];exact q _ _ [] (Same.refl _) ⟨O,hv⟩ (λ_ h=>nomatch h)}}
 | int b=>exact{_,hv.ty,by rw[mL (by simp[tyT,zT])];exact{_,hv.ty,by rw[mL (by simp[tyT,zT])];exact q _ _ [] (Same.refl _) ⟨O,hv⟩ (λ_ h=>nomatch h)}}
 | str b=>exact{_,hv.ty,by rw[mL (by simp[tyT,zT])];exact{_,hv.ty,by rw[mL (by simp[tyT,zT])];exact q _ _ [] (Same.refl _) ⟨O,hv⟩ (λ_ h=>nomatch h)}}
theorem yDp(F:Fun K "copied" "copied" sCp f fd):FnOk P w K mg base CX0 1 f fd ["thing"] (zGx 0):=by
 refine F.ok scCp (λvs H Q E h=>?_) (λc A o s H vs Q E hr h=>?_)
 ·ext wA h v t r2_ _
  subst r2_
  rfl
 ext yA h v t r2_ hv hp z_;ext oA z_ hd _;subst r2_;exact absurd hd (pM _)
theorem yEc(F:Fun K "_law_held" "_law_held" sCo f fd):FnOk P w K mg base CX0 1 f fd ["_law_thing"] (zCx 0):=by
 refine F.ok scCo (λvs H Q E h=>?_) (λc A o s H vs Q E hr h=>?_)
 ·ext wA h v t r2_ _
  subst r2_
  rfl
 ext yA h v t r2_ hv hp z_;ext oA z_ hd _;subst r2_;exact absurd hd (pM _)
theorem zVv(F:Fun K "copied" "copied" sCp f fd)(B:Bl mg)(b:Binds K fd ["thing"] [])(kp:A8 K (.ref f)=true)(m:mg "copied" =Y (.ref f)):∀n:Nat,FnOk P w K mg base CX0 (1+n) f fd ["thing"] (zGx n)
 | 0=>yDp F
 | n+1=>yCn F B {_,_,zVv F B b kp m n,b,kp,m}
theorem zXd(F:Fun K "_law_held" "_law_held" sCo f fd)(B:Bl mg)(b:Binds K fd ["_law_thing"] [])(kp:A8 K (.ref f)=true)(m:mg "_law_held" =Y (.ref f)):∀n:Nat,FnOk P w K mg base CX0 (1+n) f fd ["_law_thing"] (zCx n)
 | 0=>yEc F
 | n+1=>yDn F B {_,_,zXd F B b kp m n,b,kp,m}
abbrev sLo:V6:=top 37
noncomputable def xK:T->Key->Option T
 | .lst us, .inl i=>us[i.toNat]?
 | .dic ks us, .inr s=>if ts s∈ks then Y (zJ (ts s) ks us) else none
 | _,_=>none
def okK:Key->Prop
 | .inl i=>0<=i/\i<=59
 | .inr _=>True
theorem zWo{H:Hp}{ps:List (Key×V)}{ks:List (List Nat)}{us:List T}(nk:ks.Nodup)(hk:ps.map (·.1)=ks.map nK)(hs:Reps H (ps.map (·.2)) us)(s:Str):(jH ps (Sum.inr s)).isSome=decide (ts s∈ks):=by
 by_cases hm:ts s∈ks
 ·obtain⟨v,h1,_⟩:=Rep.at_name nk hk hs hm
  rw[vH] at h1;rw[h1,nH hm]
  rfl
 ·rw[nL hm,zBc (by
   rw[hk];intro z;obtain⟨k,h1,h2⟩:=nB.mp z;let e:tx k=s:=Sum.inr.inj h2;rw[<-e,wI] at hm;exact hm h1)]
  rfl
theorem zUi{K:A7}{H:Hp}{v:V}{t:T}{k:Key}{Q:VK}(hv:Rep H v t)(hp:T.pure t)(hk:okK k)(q:Q (.bl (xK t k).isSome) H):∃x,tyS H (kV k)=Y x/\if zT x "str" =true then∃x,tyS H v=Y x/\if zT x "dict" =true then zQw (uV 1) (uV 0) [Y v,Y (kV k)] H Q else Q (V.bl false) H
  else∃x,tyS H v=Y x/\if zT x "list" =true then∃p,v=V.ref p/\∃ys,SqL K H p ys/\∃i,kV k=V.int i/\Q (V.bl (decide (i<(ys...*:Int)))) H else Q (V.bl false) H:=by
 cases k with
 | inl i=>
  let hi:0<=i:=hk.1;refine nEA ("int") O (iN ∎ {_,hv.ty, ?_})
  cases t with
  | lst us=>
   ext yN hv a xs r2_ ha hx;subst r2_;refine iP O {a,O,xs,SqL.of ha,i,O, ?_};let hl:=hx...*;let e:(xK (.lst us) (.inl i)).isSome=decide (i<(xs...*:Int)):=by
    show(us[i.toNat]?).isSome=_
    by_cases c:i.toNat<us...*
    ·rw[mJ c,nH ∅]
     rfl
    ·rw[aD ∅,nL ∅]
     rfl
   rw[<-e];exact q
  | non=>exact iN (by simp[tyT,zT]) q
  | bl b=>exact iN (by simp[tyT,zT]) q
  | int b=>exact iN (by simp[tyT,zT]) q
  | str b=>exact iN (by simp[tyT,zT]) q
  | dic ks us=>exact iN (by simp[tyT,zT]) q
  | tup us=>exact hp.elim
 | inr s=>
  refine nEA ("str") O (iP ∎ {_,hv.ty, ?_})
  cases t with
  | dic ks us=>
   ext yA hv a ps r2_ ha hkk hx;subst r2_;refine iP O {a,_,O, .inl {ps, .inr s, .inl ha,O,O}, ?_};rw[zWo hp.1 hkk hx];let e:(xK (.dic ks us) (.inr s)).isSome=decide (ts s∈ks):=by
    show(if ts s∈ks then Y (zJ (ts s) ks us) else none).isSome=_
    by_cases c:ts s∈ks
    ·rw[mO c,nH c];rfl
    ·rw[mL c,nL c];rfl
   rw[<-e];exact q
  | non=>exact iN (by simp[tyT,zT]) q
  | bl b=>exact iN (by simp[tyT,zT]) q
  | int b=>exact iN (by simp[tyT,zT]) q
  | str b=>exact iN (by simp[tyT,zT]) q
  | lst us=>exact iN (by simp[tyT,zT]) q
  | tup us=>exact hp.elim
def zXr:Sp:=λvs H Q _=>∃(v:V)(t:T)(k:Key),vs= [v,kV k]/\Rep H v t/\T.pure t/\T.sz t<=100000/\okK k/\∀H',Same H H'->Q (.bl (xK t k).isSome) H'
theorem scLo:zY ["thing","step"] ["thing","step"] (zN sLo):=by walk_at "sc"
theorem ok_lo(F:Fun K "leads_on" "leads_on" sLo f fd)(B:Bl mg):FnOk P w K mg base CX0 1 f fd ["thing","step"] zXr:=by
 refine F.ok scLo (λvs H Q E h=>?_) (λc A o s H vs Q E hr h=>?_)
 ·ext vZ h v t k r3_ _
  subst r3_
  rfl
 ext yC h v t k r3_ hv z_;ext xI z_ hp hz hk q;subst r3_;let nd:=scLo.nd;let hu:=wR hr;refine{_,(zE (zS (yB (pI B.isinstance zH B.str qZ (pv 1))) (zG (zK (vO (pI B.isinstance zH B.dict xF (pv 0)) (vU (zIr (zFo hu (pv 1) (pv 0))))))) zL)
  (zG (zK (vO (pI B.isinstance zH B.list yX (pv 0)) (vU (yW kA (pv 1) (zM yI O B.len yV (zA (pv 0) zB)) (zO _))))))), ?_}
 walk_at "st";lk;exact zUi hv hp hk (q _ (Same.refl _))
noncomputable def goT:T->List Key->List T
 | t,[]=>[t]
 | t,k::ks=>match xK t k with
  | none=>[t]
  | some u=>t::goT u ks
theorem yAv{H:Hp}{c:V}{u u':T}{k:Key}(hc:Rep H c u)(hpu:T.pure u)(hzu:T.sz u<=100000)(hk:okK k)(hs:xK u k=Y u'):
  ∃c',Rep H c' u'/\T.pure u'/\T.sz u'<=100000/\((∃b zs j,c= .ref b/\H b=Y (.lst zs)/\kV k= .int j/\atI zs j=Y c')\/(∃b qs,c= .ref b/\H b=Y (.dK qs)/\jH qs k=Y c')):=by
 cases k with
 | inl j=>
  let hj:0<=j:=hk.1
  cases u with
  | lst vs=>
   let hs':vs[j.toNat]? =Y u':=hs;ext yN hc b zs r2_ hb hzs;subst r2_;let hm:=mF hs';let hzl:=hzs...*;let hjl:=(mP.mp hs').1;let hjz:j.toNat<zs...*:=by lia
   obtain⟨t',ht',hr'⟩:=hzs.get (mJ hjz);rw[hs'] at ht';cases ht';let d2:=c8 hm;let hzz:T.szs vs+1<=100000:=hzu;let hat:atI zs j=some zs[j.toNat]:=by
    let z:=yH (j:=j.toNat) (mJ hjz)
    rwa [show((j.toNat:Nat):Int)=j by lia] at z
   exact zBz _ hr' (i6 hpu hm) ∅ (.inl ⟨b,zs,j,O,hb,O,hat⟩)
  | non=>cases hs
  | bl b=>cases hs
  | int b=>cases hs
  | str b=>cases hs
  | dic ks' us'=>cases hs
  | tup us'=>cases hs
 | inr z=>
  cases u with
  | dic ks' vs=>
   let hs':(if ts z∈ks' then Y (zJ (ts z) ks' vs) else none)=Y u':=hs
   by_cases hm:ts z∈ks'
   ·rw[mO hm] at hs'
    cases hs';ext yA hc b qs r2_ hb hkk hx';subst r2_;obtain⟨c',h1,h2⟩:=Rep.at_name hpu.1 hkk hx' hm;rw[vH] at h1;let hzz:T.szs vs+1<=100000:=hzu;let hlq:ks'...*=vs...*:=by
     let e1:=congrArg List.length hkk;let e2:=hx'...*;rw[mC,mC] at e1;rw[mC] at e2
     lia
    let hmm:=yO hm hlq;let d2:=c8 hmm;exact zBz c' h2 (i6 hpu.2 hmm) ∅ (.inr ⟨b,qs,O,hb,h1⟩)
   ·rw[mL hm] at hs'
    cases hs'
  | non=>cases hs
  | bl b=>cases hs
  | int b=>cases hs
  | str b=>cases hs
  | lst us'=>cases hs
  | tup us'=>cases hs
inductive Wd where
 | put | ins | tak
noncomputable def Wd.s:Wd->Str
 | .put=>A6 "put"
 | .ins=>A6 "insert"
 | .tak=>A6 "take"
noncomputable def vB:Wd->T->Key->Bool
 | .tak,t,k=>(xK t k).isSome
 | .put, .dic _ _, .inr _=>true
 | .put, .lst us, .inl i=>decide (i<=(us...*:Int))
 | .ins, .lst us, .inl i=>decide (i<=(us...*:Int))
 | _,_,_=>false
noncomputable def xV(n:List Nat):List (List Nat)->List T->List T
 | k::ks,u::us=>if k=n then xV n ks us else u::xV n ks us
 | _,_=>[]
noncomputable def vI(n:List Nat):List (List Nat)->List (List Nat)
 | k::ks=>if k=n then vI n ks else k::vI n ks
 | []=>[]
noncomputable def xA:Wd->T->Key->T->T
 | .put, .dic ks us, .inr s,n=>.dic (yU (ks,us) (ts s) n).1 (yU (ks,us) (ts s) n).2
 | .tak, .dic ks us, .inr s,_=>.dic (vI (ts s) ks) (xV (ts s) ks us)
 | .put, .lst us, .inl i,n=>.lst (us.take i.toNat++n::us.drop (i.toNat+1))
 | .ins, .lst us, .inl i,n=>.lst (us.take i.toNat++n::us.drop i.toNat)
 | .tak, .lst us, .inl i,_=>.lst (us.take i.toNat++us.drop (i.toNat+1))
 | _,t,_,_=>t
noncomputable def bld(st:List T)(ks:List Key):Nat->T->T
 | 0,r=>r
 | m+1,r=>bld st ks m (xA .put (st.getD m .non) (ks.getD m (.inl 0)) r)
noncomputable def chG(w:Wd)(pt:T->Key->T)(t:T)(ks:List Key)(n:T):Sum Nat T:=
 match ks.getLast? with
 | none=>match w with
  | .put=>.inr n
  | _=>.inl 0
 | some k=>if(goT t ks.dropLast)...*<ks...* then .inl ((goT t ks.dropLast)...* - 1) else
  match (goT t ks.dropLast).getLast? with
  | none=>.inl 0
  | some s=>if vB w s k=true then .inr (bld (goT t ks.dropLast) ks (ks...* - 1) (pt s k)) else .inl (ks...* - 1)
theorem dropN_mem{n k:List Nat}:∀{ks:List (List Nat)},k∈vI n ks↔k∈ks/\k≠n
 | []=>by simp[vI]
 | k'::ks=>by
  unfold vI;split
  ·rename_i e
   rw[dropN_mem (ks:=ks),e];constructor
   ·exact λh=>{mE _ h.1,h.2}
   ·rintro⟨h1,h2⟩
    rcases mI.mp h1 with z | z
    ·exact absurd z h2
    ·exact⟨z,h2⟩
  ·rename_i e
   rw[mI,dropN_mem (ks:=ks),mI];constructor
   ·rintro(h | h)
    ·exact{.inl h,by rw[h];exact e}
    ·exact{.inr h.1,h.2}
   ·rintro⟨h1 | h1,h2⟩
    ·exact .inl h1
    ·exact .inr ⟨h1,h2⟩
theorem jL{n:List Nat}:∀{ks:List (List Nat)},ks.Nodup->(vI n ks).Nodup
 | [],_=>by simp[vI]
 | k::ks,h=>by
  rw[nZ] at h;unfold vI;split
  ·exact jL h.2
  ·rw[nZ]
   exact{λz=>h.1 (dropN_mem.mp z).1,jL h.2}
theorem zBv{n:List Nat}:∀{ks:List (List Nat)}{us:List T},ks...*=us...*->(vI n ks)...*=(xV n ks us)...*/\(xV n ks us)...*<=us...*
 | [],[],_=>{O,mB _}
 | [],_::_,h=>by simp at h
 | _::_,[],h=>by simp at h
 | k::ks,u::us,h=>by
  obtain⟨h1,h2⟩:=zBv (n:=n) (ks:=ks) (us:=us) (by simpa using h);unfold vI xV;split
  ·exact{h1,rQ h2}
  ·exact{by rw[nI,nI,h1],nY h2}
theorem gN{n:List Nat}{u:T}:∀{ks:List (List Nat)}{us:List T},u∈xV n ks us->u∈us
 | [],us,h=>by cases us<;>simp[xV] at h
 | _::_,[],h=>by simp[xV] at h
 | k::ks,v::us,h=>by
  unfold xV at h;split at h
  ·exact mE _ (gN h)
  ·rcases mI.mp h with z | z
   ·rw[z];exact mG
   ·exact mE _ (gN z)
theorem zIg{n k:List Nat}(hk:k≠n):∀{ks:List (List Nat)}{us:List T},ks...*=us...*->zJ k (vI n ks) (xV n ks us)=zJ k ks us
 | [],[],_=>rfl
 | [],_::_,h=>by simp at h
 | _::_,[],h=>by simp at h
 | k'::ks,u::us,h=>by
  let ih:=zIg hk (ks:=ks) (us:=us) (by simpa using h);unfold vI xV;split
  ·rename_i e
   rw[ih];show _=if k'=k then u else zJ k ks us;rw[mL (by rw[e];exact Ne.symm hk)]
  ·show(if k'=k then u else zJ k (vI n ks) (xV n ks us))=if k'=k then u else zJ k ks us
   rw[ih]
theorem zDx{k n:List Nat}{t:T}:∀{ks:List (List Nat)}{us:List T},ks...*=us...*->k∈ks->zJ k (ks++ [n]) (us++ [t])=zJ k ks us
 | [],_,_,h=>nomatch h
 | _::_,[],h,_=>by simp at h
 | k'::ks,u::us,hl,h=>by
  show(if k'=k then u else zJ k (ks++ [n]) (us++ [t]))=if k'=k then u else zJ k ks us
  by_cases e:k'=k
  ·rw[mO e,mO e]
  ·rw[mL e,mL e]
   rcases mI.mp h with z | z
   ·exact absurd z.symm e
   ·exact zDx (by simpa using hl) z
theorem zCb{n:List Nat}{t:T}:∀{ks:List (List Nat)}{us:List T},ks...*=us...*->n∉ks->zJ n (ks++ [n]) (us++ [t])=t
 | [],[],_,_=>mO O
 | [],_::_,h,_=>by simp at h
 | _::_,[],h,_=>by simp at h
 | k'::ks,u::us,hl,h=>by
  show(if k'=n then u else zJ n (ks++ [n]) (us++ [t]))=t;rw[mL (λe=>h (by rw[e];exact mG))];exact zCb (by simpa using hl) λz=>h (mE _ z)
theorem zGb{n k:List Nat}{t:T}:∀{ks:List (List Nat)}{us:List T},ks...*=us...*->n∈ks->zJ k ks (xB n t ks us)=if k=n then t else zJ k ks us
 | [],_,_,h=>nomatch h
 | _::_,[],h,_=>by simp at h
 | k'::ks,u::us,hl,h=>by
  show(if k'=k then(if k'=n then t else u) else zJ k ks (xB n t ks us))=if k=n then t else if k'=k then u else zJ k ks us
  by_cases e:k'=k
  ·rw[mO e,mO e,e]
  ·rw[mL e,mL e]
   by_cases hm:n∈ks
   ·exact zGb (by simpa using hl) hm
   ·let e2:k'=n:=by
     rcases mI.mp h with z | z
     ·exact z.symm
     ·exact absurd z hm
    rw[mL (by rw[<-e2];exact Ne.symm e)];let:∀(ks:List (List Nat))(us:List T),n∉ks->xB n t ks us=us:=by
     intro ks
     induction ks with
     | nil=>intro us _;unfold xB;rfl
     | cons a ks ih=>
      intro us hn
      cases us with
      | nil=>rfl
      | cons b us=>
       show(if a=n then t else b)::xB n t ks us=b::us;rw[mL (λz=>hn (by rw[z];exact mG)),ih us λz=>hn (mE _ z)]
    rw[this ks us hm]
theorem zHx{n k:List Nat}{t:T}{ks:List (List Nat)}{us:List T}(hl:ks...*=us...*)(hk:k∈ks\/k=n):k∈(yU (ks,us) n t).1/\zJ k (yU (ks,us) n t).1 (yU (ks,us) n t).2=if k=n then t else zJ k ks us:=by
 by_cases hm:n∈ks
 ·let e:yU (ks,us) n t=(ks,xB n t ks us):=mO hm
  rw[e];refine{?_,zGb hl hm};rcases hk with z | z
  ·exact z
  ·rw[z];exact hm
 ·let e:yU (ks,us) n t=(ks++ [n],us++ [t]):=mL hm
  rw[e]
  by_cases hkn:k=n
  ·rw[mO hkn,hkn]
   exact{by simp,zCb hl hm}
  ·rw[mL hkn]
   let hkk:k∈ks:=hk.resolve_right hkn;exact{nW _ hkk,zDx hl hkk}
theorem zHn{n:List Nat}{t:T}:∀{ks:List (List Nat)}{us:List T},ks.Nodup->ks...*=us...*->n∈ks->T.szs (xB n t ks us)=T.szs (xV n ks us)+T.sz t
 | [],_,_,_,h=>nomatch h
 | _::_,[],_,h,_=>by simp at h
 | k::ks,u::us,nd,hl,h=>by
  rw[nZ] at nd
  by_cases e:k=n
  ·let h2:∀(ks:List (List Nat))(us:List T),ks...*=us...*->n∉ks->xB n t ks us=us/\xV n ks us=us:=by
    intro ks
    induction ks with
    | nil=>intro us hl _;cases us with
     | nil=>exact⟨O,O⟩
     | cons _ _=>simp at hl
    | cons a ks ih=>
     intro us hl hn
     cases us with
     | nil=>simp at hl
     | cons b us=>
      obtain⟨i1,i2⟩:=ih us (by simpa using hl) λz=>hn (mE _ z);let ne:¬a=n:=λz=>hn (by rw[z];exact mG);refine{?_, ?_}
      ·show(if a=n then t else b)::xB n t ks us=b::us
       rw[mL ne,i1]
      ·show(if a=n then xV n ks us else b::xV n ks us)=b::us
       rw[mL ne,i2]
   obtain⟨i1,i2⟩:=h2 ks us (by simpa using hl) (by rw[<-e];exact nd.1);show T.szs ((if k=n then t else u)::xB n t ks us)=T.szs (if k=n then xV n ks us else u::xV n ks us)+T.sz t;rw[mO e,mO e,i1,i2];show T.sz t+T.szs us=_
   lia
  ·let hm:n∈ks:=by
    rcases mI.mp h with z | z
    ·exact absurd z.symm e
    ·exact z
   let ih:=zHn (t:=t) nd.2 (by simpa using hl) hm (us:=us);show T.szs ((if k=n then t else u)::xB n t ks us)=T.szs (if k=n then xV n ks us else u::xV n ks us)+T.sz t;rw[mL e,mL e];show T.sz u+T.szs (xB n t ks us)=T.sz u+T.szs (xV n ks us)+T.sz t
   lia
theorem zDj{n:List Nat}:∀{ks:List (List Nat)}{us:List T},T.szs (xV n ks us)<=T.szs us
 | [],us=>by
  let e:xV n [] us= []:=by cases us<;>rfl
  rw[e];exact mT _
 | _::_,[]=>mB _
 | k::ks,u::us=>by
  let ih:=zDj (n:=n) (ks:=ks) (us:=us);show T.szs (if k=n then xV n ks us else u::xV n ks us)<=T.sz u+T.szs us;split
  ·lia
  ·show T.sz u+_<=_;lia
theorem zHs{n:List Nat}:∀{ks:List (List Nat)}{us:List T},ks...*=us...*->n∉ks->xV n ks us=us/\vI n ks=ks
 | [],[],_,_=>⟨O,O⟩
 | [],_::_,h,_=>by simp at h
 | _::_,[],h,_=>by simp at h
 | k::ks,u::us,hl,hn=>by
  obtain⟨i1,i2⟩:=zHs (n:=n) (ks:=ks) (us:=us) (by simpa using hl) λz=>hn (mE _ z);let ne:¬k=n:=λz=>hn (by rw[z];exact mG);refine{?_, ?_}
  ·show(if k=n then xV n ks us else u::xV n ks us)=_
   rw[mL ne,i1]
  ·show(if k=n then vI n ks else k::vI n ks)=_
   rw[mL ne,i2]
theorem zKt{n:List Nat}{t:T}{ks:List (List Nat)}{us:List T}(nd:ks.Nodup)(hl:ks...*=us...*):T.szs (yU (ks,us) n t).2=T.szs (xV n ks us)+T.sz t:=by
 by_cases hm:n∈ks
 ·let e:yU (ks,us) n t=(ks,xB n t ks us):=mO hm
  rw[e];exact zHn nd hl hm
 ·let e:yU (ks,us) n t=(ks++ [n],us++ [t]):=mL hm
  rw[e,(zHs hl hm).1];show T.szs (us++ [t])=_;rw[c9];rfl
theorem l9{H:Hp}:∀{us:List T}{vs:List V}{D:List V1}{i:Nat}{t:T},Sps H vs us D->us[i]? =Y t->∃v D1,vs[i]? =Y v/\Sp1 H v t D1/\(∀b∈D1,b∈D)/\
  ∀H0 H' t',(∀b∈D,H0 b=none)->Rep (zAk H0 H') v t'->Keep D1 H H'->Reps (zAk H0 H') vs (us.set i t')
 | [],_,_,i,t,_,h=>by simp at h
 | u::us,_,_,0,t,⟨v,r,D1,D2,rfl,rfl,h1,h2,hd⟩,h=>by
  let e:u=t:=by simpa using h
  subst e;refine jU v D1 O h1 (λb hb=>nW _ hb) (λH0 H' t' hn hs hk=>{v,r,O,hs, ?_});exact Sps.rep _ _ _ (Sps.keep _ _ _ (λb hb o _ e=>by
   rw[vF (hn b (nJ _ hb))];exact hk b o (λz=>hd b z hb) e) h2)
 | u::us,_,_,i+1,t,⟨v,r,D1,D2,rfl,rfl,h1,h2,hd⟩,h=>by
  refine yA (l9 (i:=i) h2 (by simpa using h)) λw E1 g1 g2 g3 g4=>?_;refine jU w E1 (by simpa using g1) g2 (λb hb=>nJ _ (g3 b hb)) (λH0 H' t' hn hs hk=>{v,r,O, ?_,g4 H0 H' t' (λb hb=>hn b (nJ _ hb)) hs hk});exact Sp1.rep _ _ _ (Sp1.keep _ _ _ (λb hb o _ e=>by
   rw[vF (hn b (nW _ hb))];exact hk b o (λz=>hd b hb (g3 b z)) e) h1)
theorem kH{n:List Nat}{t:T}:∀(ks:List (List Nat))(us:List T),ks.Nodup->ks...*=us...*->n∈ks->xB n t ks us=us.set (ks.idxOf n) t
 | [],_,_,_,h=>nomatch h
 | _::_,[],_,h,_=>by simp at h
 | k::ks,u::us,nk,hl,hm=>by
  rw[nZ] at nk;let e:xB n t (k::ks) (u::us)=(if k=n then t else u)::xB n t ks us:=rfl;rw[e]
  by_cases h:k=n
  ·subst h
   let hno:∀(ls:List (List Nat))(ws:List T),k∉ls->xB k t ls ws=ws:=by
    intro ls
    induction ls with
    | nil=>intro ws _;unfold xB;rfl
    | cons l ls ih=>
     intro ws hn
     cases ws with
     | nil=>unfold xB;rfl
     | cons w ws=>
      let e2:xB k t (l::ls) (w::ws)=(if l=k then t else w)::xB k t ls ws:=rfl;rw[e2,mL (λz=>hn (by rw[z];exact mG)),ih ws λz=>hn (mE _ z)]
   rw[mO O,hno ks us nk.1,List.idxOf_cons_self]
   rfl
  ·let hix:(k::ks).idxOf n=ks.idxOf n+1:=by rw[List.idxOf_cons,show(k==n)=false from sN.mpr h];rfl
   rw[mL h,hix,kH ks us nk.2 (by simpa using hl) ((mI.mp hm).resolve_left (Ne.symm h))]
   rfl
theorem zJw{α:Type}{us:List α}{i:Nat}{r:α}(h:i<us...*):us.set i r=us.take i++r::us.drop (i+1):=bF.trans (mO h)
theorem vC{H H3:Hp}{d:V1}{o:HO}(g:Same H H3)(hd:H d=none):Same H (upd H3 d o):=λb u e=>by
 let hb:b≠d:=λz=>by subst z;rw[hd] at e;cases e
 rw[zV hb];exact g _ _ e
theorem zGt(ks:List Key)(k:Key):ks.map kV++ [kV k]=(ks++ [k]).map kV:=by rw[mN];rfl
theorem zBh{H:Hp}{a:V1}{ps:List (Key×V)}{ks:List (List Nat)}{us:List T}(nk:ks.Nodup)(hk:ps.map (·.1)=ks.map λk=>(Sum.inr (tx k):Key))(hs:Reps H (ps.map (·.2)) us)(ha:H a=Y (.dK ps)){k:List Nat}(hm:k∈ks):∃v,(∀H',Same H H'->zDn H' a (.str (tx k)) ↥v)/\Rep H v (zJ k ks us):=by
 obtain⟨v,h1,h2⟩:=Rep.at_name nk hk hs hm;exact nEA v (λH' g=>.inl {ps,Sum.inr (tx k), .inl (g _ _ ha),O,h1.symm}) h2
theorem uX{H:Hp}{a:V1}{ps:List (Key×V)}{ks:List (List Nat)}(hk:ps.map (·.1)=ks.map λk=>(Sum.inr (tx k):Key))(ha:H a=Y (.dK ps)){k:List Nat}(hm:k∉ks):zDn H a (.str (tx k)) none:=by
 refine .inl {ps,Sum.inr (tx k), .inl ha,O,(zBc λz=>hm ?_).symm};rw[hk] at z;obtain⟨k',h1,h2⟩:=nB.mp z;rw[<-jX h2];exact h1
noncomputable def doT(w:Wd)(n:T):List Key->T->Option T
 | [],_=>match w with
  | .put=>Y n
  | _=>none
 | [k],t=>if vB w t k=true then Y (xA w t k n) else none
 | k::k'::ks,t=>match xK t k with
  | some s=>(doT w n (k'::ks) s).map λr=>xA .put t k r
  | none=>none
structure Cx2(H0 H:Hp)(v:V)(up:T->T)(x:V)(s:T)(D:List V1):Prop where
 sp:Sp1 H x s D
 new:∀b∈D,H0 b=none
 few:T.few s
 cls:∀H' s',Rep (zAk H0 H') x s'->Keep D H H'->Rep (zAk H0 H') v (up s')
theorem Cx2.refl{H0 H:Hp}{v:V}{t:T}{D:List V1}(h:Sp1 H v t D)(hn:∀b∈D,H0 b=none)(hf:T.few t):Cx2 H0 H v (λr=>r) v t D:={h,hn,hf,λ_ _ r _=>r}
theorem Cx2.row{H0 H:Hp}{v:V}{up:T->T}{a:V1}{us:List T}{D:List V1}(C:Cx2 H0 H v up (.ref a) (.lst us) D){i:Int}(h0:0<=i){u:T}(hi:us[i.toNat]? =Y u):∃xs y D',H a=Y (.lst xs)/\xs...*=us...*/\xs[i.toNat]? =Y y/\Cx2 H0 H v (λr=>up (xA .put (.lst us) (.inl i) r)) y u D':=by
 refine yC (C.sp) λa' xs D1 e ha z_=>?_;ext oAA z_ r5_ na hs;subst r5_;cases e;refine yA (l9 hs hi) λy D2 h1 h2 h3 h4=>?_;let hm:=mF hi;let hf:=C.few;refine{xs,y,D2,ha,hs...*,h1,h2,λb hb=>C.new b (mE _ (h3 b hb)),b5 hf.2 hm,λH' s' r k=>?_};let na2:a∉D2:=λz=>na (h3 a z);let hlt:=(mP.mp hi).1;refine C.cls H' (.lst (us.take i.toNat++s'::us.drop (i.toNat+1))) {a,xs,O, ?_, ?_} (k.mono λb hb=>mE _ (h3 b hb))
 ·rw[vF (C.new a mG)];exact k a _ na2 ha
 ·rw[<-zJw hlt]
  exact h4 H0 H' s' (λb hb=>C.new b (mE _ hb)) r k
theorem Cx2.rcd{H0 H:Hp}{v:V}{up:T->T}{a:V1}{ks:List (List Nat)}{us:List T}{D:List V1}(C:Cx2 H0 H v up (.ref a) (.dic ks us) D){z:Str}(hk:ts z∈ks):∃ps y D',H a=Y (.dK ps)/\ps.map (·.1)=ks.map nK/\jH ps (nK (ts z))=Y y/\Cx2 H0 H v (λr=>up (xA .put (.dic ks us) (.inr z) r)) y (zJ (ts z) ks us) D':=by
 refine yC (C.sp) λa' ps D1 e ha z_=>?_;ext xI z_ hkk r6_ na hs;subst r6_;cases e;let hf:=C.few;let hi:=uH hk;let il:ks.idxOf (ts z)<us...*:=by rw[<-hf.2.2.1];exact rD hk
 let hu:us[ks.idxOf (ts z)]? =Y (zJ (ts z) ks us):=by
  rw[mJ il];exact congrArg some (jT hf.1 hi (mJ il)).symm
 refine yA (l9 hs hu) λy D2 h1 h2 h3 h4=>?_;let hm:=mF hu;let hv:jH ps (nK (ts z))=Y y:=by
  rw[mW] at h1;obtain⟨kv,hkv,rfl⟩:=pJ.mp h1;refine uJ (i:=ks.idxOf (ts z)) (by rw[hkk];exact qY hf.1) ?_;let:(ps.map (·.1))[ks.idxOf (ts z)]? =Y (nK (ts z)):=by rw[hkk,mW,hi];rfl
  rw[mW,hkv] at this;rw[hkv,<-mM this]
 refine{ps,y,D2,ha,hkk,hv,h2,λb hb=>C.new b (mE _ (h3 b hb)),b5 hf.2.2.2 hm,λH' s' r kp=>?_};let na2:a∉D2:=λz=>na (h3 a z);let e1:yU (ks,us) (ts z) s'=(ks,us.set (ks.idxOf (ts z)) s'):=by
  let:yU (ks,us) (ts z) s'=(ks,xB (ts z) s' ks us):=mO hk;rw[this,kH ks us hf.1 hf.2.2.1 hk]
 refine C.cls H' (.dic (yU (ks,us) (ts z) s').1 (yU (ks,us) (ts z) s').2) ?_ (kp.mono λb hb=>mE _ (h3 b hb));rw[e1];refine{a,ps,O, ?_,hkk,h4 H0 H' s' (λb hb=>C.new b (mE _ hb)) r kp};rw[vF (C.new a mG)];exact kp a _ na2 ha
theorem Reps.dropK{H:Hp}{n:List Nat}:∀{ps:List (Key×V)}{ks:List (List Nat)}{us:List T},ps.map (·.1)=ks.map nK->Reps H (ps.map (·.2)) us->(L2.dropK ps (nK n)).map (·.1)=(vI n ks).map nK/\Reps H ((L2.dropK ps (nK n)).map (·.2)) (xV n ks us)
 | [],[],us,_,h=>by
  let e:us= []:=by
   cases us with
   | nil=>rfl
   | cons _ _=>obtain⟨v,r,e,_⟩:=h;cases e
  subst e;exact⟨O,O⟩
 | [],_::_,_,e,_=>by simp at e
 | _::_,[],_,e,_=>by simp at e
 | p::ps,k::ks,[],_,h=>by
  let h':(p::ps).map (·.2)= []:=h;cases h'
 | p::ps,k::ks,u::us,e,⟨v',r,e0,h1,h2⟩=>by
  let e':p.2::ps.map (·.2)=v'::r:=e0;injection e' with e1 e2;subst e1 e2;let e3:p.1::ps.map (·.1)=nK k::ks.map nK:=e;injection e3 with e4 e5;obtain⟨i1,i2⟩:=Reps.dropK (n:=n) e5 h2;unfold L2.dropK at i1 i2⊢;rw[aH];unfold vI xV
  by_cases hk:k=n
  ·rw[mL (by simp[e4,hk]),mO hk,mO hk]
   exact⟨i1,i2⟩
  ·rw[mO (by rw[e4];exact nH λz=>hk (jX z)),mL hk,mL hk]
   exact{by rw[mV,mV,e4,i1],_,_,O,h1,i2}
abbrev sPi:V6:=top 72
theorem zAu{H0 H H1:Hp}{a:V1}{o:HO}{xs:List V}{us:List T}{D:List V1}(hs:Sps H xs us D)(na:a∉D)(hn:∀b∈D,H0 b=none)(g:Same H H1):Reps (zAk H0 (upd H1 a o)) xs us:=
 Sps.rep _ _ _ (Sps.keep _ _ _ (λb hb u _ e=>by
  rw[vF (hn b hb),zV λz=>na (by rw[<-z];exact hb)];exact g _ _ e) hs)
theorem zKh{H0 H H1:Hp}{a:V1}{o o':HO}{v:V}{u:T}{D:List V1}(hs:Sp1 H1 v u D)(hn:∀b∈D,H b=none)(g0:Same H0 H)(ha:H a=Y o'):Rep (zAk H0 (upd H1 a o)) v u:=
 Sp1.rep _ _ _ (Sp1.keep _ _ _ (λb hb u _ e=>by
  rw[vF (zR g0 (hn b hb)),zV λz=>by rw[z] at hb;rw[hn a hb] at ha;cases ha];exact e) hs)
def spPi:Sp:=λvs H Q _=>∃(H0:Hp)(x vn:V)(wd:Wd)(k:Key)(s u:T)(D:List V1),vs= [x, .str wd.s,kV k,vn]/\Same H0 H/\Sp1 H x s D/\(∀b∈D,H0 b=none)/\T.few s/\okK k/\Rep H vn u/\T.few u/\T.dep u<20/\T.sz s<=100000/\(vB wd s k=true->∀H',Keep D H H'->Rep (zAk H0 H') x (xA wd s k u)->Q (.bl true) H')/\(vB wd s k=false->Q (.bl false) H)
theorem scPi:zY ["_law_thing","_law_word","_law_step","_law_new"] ["_law_thing","_law_word","_law_step","_law_new"] (zN sPi):=by walk_at "sc"
theorem ok_pi{k:Nat}(F:Fun K "_law_put_in" "_law_put_in" sPi f fd)(B:Bl mg)(G_law_held:Dn P w K mg base k "_law_held" ["_law_thing"] (zCx 20)):FnOk P w K mg base CX0 (k+1) f fd ["_law_thing","_law_word","_law_step","_law_new"] spPi:=by
 refine F.ok scPi (λvs H Q E h=>?_) (λc A o s H vs Q E hr h=>?_)
 ·ext yM h H0 x vn wd ky z_
  ext vZ z_ s u D r8_ _;subst r8_
  rfl
 ext yM h H0 x vn wd ky z_;ext yC z_ t u D r8_ g0 z_;ext yR z_ hsp hnew hf hk hvn z_;ext vS z_ hfu hdu hzs q qn;subst r8_;let nd:=scPi.nd;let hu:=wR hr;refine{_,(zE (zS (d9 (wE (yB (pI B.isinstance zH B.dict xF (pv 0))) (wW (yB (pI B.isinstance zH B.str qZ (pv 2)))))) (zE (zS (zQ xG (pv 1) zU (zO _)) (zG (kE hu (pv 0) (pv 2) (zP G_law_held hr ∅ O (zA (pv 3) zB)) O)) zL)
  (zE (zS (d9 (wE (zQ xG (pv 1) zU (zO _)) (wW (uD (zFo hu (pv 2) (pv 0)))))) (zE (wC (zLe (pv 0) (pv 2) ⟨O,O,O,O⟩))
  (zG (zK wZ))) zL)
  (zG (zK (yW xG (pv 1) zU (zO _)))))) zL)
  (zE (zS (d9 (qM (xR (yB (pI B.isinstance zH B.list yX (pv 0)))) (jG (yB (pI B.isinstance zH B.str qZ (pv 2)))))) (zG (zK wZ)) zL)
  (zE (zS (d9 (qM (d9 (wE (zQ xG (pv 1) zU (zO _)) (wW (zQ uR (pv 2) (zM yI O B.len yV (zA (pv 0) zB)) (zO _))))) (jG (d9 (wE (zQ xG (pv 1) zU (zO _)) (wW (zQ xG (pv 2) (zM yI O B.len yV (zA (pv 0) zB)) (zO _)))))))) (zE (wC (qF nQ PySem.F.slot_list_insert PySem.F.type_list_insert zQx (pv 0) (zA (pv 2) (zA (zP G_law_held hr ∅ O (zA (pv 3) zB)) zB))))
  (zG (zK wZ))) zL)
  (zE (zS (zQ op_ge (pv 2) (zM yI O B.len yV (zA (pv 0) zB)) (zO _)) (zG (zK wZ)) zL)
  (zE (zS (zQ xG (pv 1) zU (zO _)) (zG (wC (qF nQ PySem.F.slot_list_pop PySem.F.type_list_pop zUf (pv 0) (zA (pv 2) zB)))) zL)
  (zE (zS (zQ xG (pv 1) zU (zO _)) (zG (yCb (zP G_law_held hr ∅ O (zA (pv 3) zB)) (yCs (pv 0) (pv 2) zTv))) zL)
  (zG (zK wZ)))))))), ?_}
 walk_at "st";unfold zQw zTu gSub;lk;let n1:(A6 "put" =A6 "take")=False:=cY (by decide+kernel);let n2:(A6 "put" =A6 "insert")=False:=cY (by decide+kernel);let n3:(A6 "insert" =A6 "take")=False:=cY (by decide+kernel);let n4:(A6 "insert" =A6 "put")=False:=cY (by decide+kernel);let n5:(A6 "take" =A6 "put")=False:=cY (by decide+kernel);let n6:(A6 "take" =A6 "insert")=False:=cY (by decide+kernel);let hty:=(Sp1.rep _ _ _ hsp).ty;refine nEA _ hty ?_;let leaf:vB wd t ky=false->zT (tyT t) "dict" =false->zT (tyT t) "list" =false->∀{R1 R2:Prop},(if zT (tyT t) "dict" =true then R1 else∃x_1,tyS H x=Y x_1/\if zT x_1 "list" =false then Q (V.bl false) H else R2):=λhcn h1 h2=>iN (by rw[h1];decide) {_,hty,iP h2 (qn hcn)}
 cases t with
 | dic ks us=>
  refine iP (by simp only[tyT];decide+kernel) ?_;ext yC hsp a ps D1 r3_ ha z_;ext xI z_ hkk r6_ na hs;subst r3_ r6_;let hn1:∀b∈D1,H0 b=none:=λb hb=>hnew b (mE _ hb);let hlen:=hs...*;let hzz:=d5 us;let hz':T.szs us+1<=100000:=hzs;rw[mC] at hlen
  cases ky with
  | inl i=>exact{"int",O,iN ∎ {_,hty,iP (by simp only[tyT];decide+kernel) (qn (by cases wd<;>rfl))}}
  | inr z=>
   refine nEA ("str") O (iP ∎ ?_);let ex:(Sum.inr z:Key)=nK (ts z):=by show(Sum.inr z:Key)=Sum.inr (tx (ts z));rw[vH]
   cases wd with
   | put=>
    refine iP O {vn,u,O,hvn,hfu,hdu,λv' H1 D2 g1 sp2 hD2=>?_};refine wT a O _ (DPut.k (k:=Sum.inr z) (g1 _ _ ha) (by rw[mQ];lia)) (iN (by show¬(A6 "put" =_);rw[n1];exact id) ?_);rw[ex];obtain⟨p1,p2⟩:=zAr (H:=zAk H0 (upd H1 a (.dK (wQ ps (nK (ts z)) v')))) (p:=(ks,us)) (n:=ts z) (v:=v') (t:=u) hkk (zAu hs na hn1 g1) (zKh sp2 hD2 g0 ha);exact q O _ ((Keep.of g1).put _ mG) {a,_,O,by rw[vF (hnew a mG)];exact zC,p1,p2}
   | ins=>
    exact iN (by show¬(A6 "insert" =_);rw[n4];exact id) (iN (by show¬(A6 "insert" =_);rw[n3];exact id) (qn O))
   | tak=>
    refine iN (by show¬(A6 "take" =_);rw[n5];exact id) (iP O ?_)
    by_cases hz:ts z∈ks
    ·refine oEA (Rep.at_name hf.1 hkk (Sps.rep _ _ _ hs) hz) λxv hv1 _=>?_
     refine wT a O ↥xv (.inl {ps,Sum.inr z, .inl ha,O,by rw[ex];exact hv1.symm}) (iP O {a,O, .inl {ps, .inl ha},ps,ha,Sum.inr z,O,{xv,by rw[ex];exact hv1}, ?_});rw[ex];obtain⟨p1,p2⟩:=Reps.dropK (n:=ts z) hkk (zAu (H1:=H) (a:=a) (o:=.dK (dropK ps (nK (ts z)))) hs na hn1 (Same.refl _));refine q ?_ _ (Keep.refl.put _ mG) {a,_,O,by rw[vF (hnew a mG)];exact zC,p1,p2};show(if ts z∈ks then Y (zJ (ts z) ks us) else none).isSome=true;rw[mO hz];rfl
    ·refine wT a O _ (by let:=uX hkk ha hz;rw[vH] at this;exact this) (iN ∎ (qn ?_))
     show(if ts z∈ks then Y (zJ (ts z) ks us) else none).isSome=false;rw[mL hz];rfl
 | lst us=>
  refine iN (by simp only[tyT];decide+kernel) {_,hty,iN (by simp only[tyT];decide+kernel) ?_};ext yC hsp a xs D1 r3_ ha z_;ext oAA z_ r5_ na hs;subst r3_ r5_
  cases ky with
  | inr z=>exact{"str",O,iP ∎ (qn (by cases wd<;>rfl))}
  | inl i=>
   refine nEA ("int") O (iN ∎ ?_);let hi0:0<=i:=hk.1;let hn1:∀b∈D1,H0 b=none:=λb hb=>hnew b (mE _ hb);let hlen:=hs...*;let hzz:=d5 us;let hz':T.szs us+1<=100000:=hzs;let tv:tyV K "list" (V.ref a) H:=.inl {O,xs,SqL.of ha};let insQ:(∀H',Keep (a::D1) H H'->Rep (zAk H0 H') (.ref a) (.lst (us.take i.toNat++u::us.drop i.toNat))->Q (.bl true) H')->i<=(xs...*:Int)->zCx 20 [vn] H (λx H1=>rIns (V.ref a) [kV (Sum.inl i),x] H1 λx H1=>Q (V.bl true) H1) E0:=λqq hi=>by
    refine{vn,u,O,hvn,hfu,hdu,λv' H1 D2 g1 sp2 hD2=>?_};refine{a,xs,i,v',O,O,g1 _ _ ha,hi0,hi,by rw[mQ];lia,∅, ?_};let r1:=zAu (H1:=H1) (a:=a) (o:=.lst (xs.take i.toNat++v'::xs.drop i.toNat)) hs na hn1 g1;exact qq _ ((Keep.of g1).put _ mG) {a,_,O,by rw[vF (hnew a mG)];exact zC,Reps.append (vs:=u::us.drop i.toNat) (show Reps _ (v'::xs.drop i.toNat) (u::us.drop i.toNat) from{v',_,O,zKh sp2 hD2 g0 ha,Reps.drop _ r1}) (Reps.take _ r1)}
   cases wd with
   | put=>
    refine iN (by show¬(A6 "put" =_);rw[n2];exact id) (iP O {a,O,xs,SqL.of ha,O, ?_});let hc:vB .put (.lst us) (.inl i)=decide (i<=(us...*:Int)):=rfl
    by_cases hi:i=(xs...*:Int)
    ·refine iP (by rw[hi];rfl) {tv,insQ (λH' k' r'=>q (by rw[hc];exact nH ∅) H' k' ?_) ∅}
     show Rep _ _ (.lst (us.take i.toNat++u::us.drop (i.toNat+1)));rw[pR (show us...*<=i.toNat by lia)] at r';rw[pR ∅];exact r'
    ·refine iN (λz=>hi (V.int.inj z)) {a,O,xs,SqL.of ha,i,O, ?_}
     by_cases hj:(xs...*:Int)<=i
     ·exact iP hj (qn (by rw[hc];exact nL ∅))
     ·refine iN hj (iN (by show¬(A6 "put" =_);rw[n1];exact id) (iP O ?_))
      refine{vn,u,O,hvn,hfu,hdu,λv' H1 D2 g1 sp2 hD2=>?_};refine{a,xs,i,i.toNat,O,O,g1 _ _ ha,by unfold ixN;rw[mO hi0,mO ∅], ?_};let r1:=zAu (H1:=H1) (a:=a) (o:=.lst (xs.set i.toNat v')) hs na hn1 g1;refine q (by rw[hc];exact nH ∅) _ ((Keep.of g1).put _ mG) ?_;show Rep _ _ (.lst (us.take i.toNat++u::us.drop (i.toNat+1)));rw[<-zJw ∅];exact{a,_,O,by rw[vF (hnew a mG)];exact zC,Reps.set (zKh sp2 hD2 g0 ha) _ r1}
   | ins=>
    let hc:vB .ins (.lst us) (.inl i)=decide (i<=(us...*:Int)):=rfl;refine iP O {a,O,xs,SqL.of ha,i,O, ?_}
    by_cases hi:i<=(xs...*:Int)
    ·exact iP hi {tv,insQ (q (by rw[hc];exact nH ∅)) hi}
    ·exact iN hi (iN (by show¬(A6 "insert" =_);rw[n4];exact id) {a,O,xs,SqL.of ha,i,O,iP ∅ (qn (by rw[hc];exact nL ∅))})
   | tak=>
    let hc:vB .tak (.lst us) (.inl i)=(us[i.toNat]?).isSome:=rfl;refine iN (by show¬(A6 "take" =_);rw[n6];exact id) (iN (by show¬(A6 "take" =_);rw[n5];exact id) {a,O,xs,SqL.of ha,i,O, ?_})
    by_cases hj:(xs...*:Int)<=i
    ·exact iP hj (qn (by rw[hc,aD ∅];rfl))
    ·refine iN hj (iP O ?_)
     refine{tv,a,xs,i,i.toNat,_,O,O,ha,∅,∅,(zJy (by unfold ixN;rw[mO hi0,mO ∅])).1,mJ ∅, ?_};refine iN (by show¬(A6 "take" =_);rw[n5];exact id) ?_;let r1:=zAu (H1:=H) (a:=a) (o:=.lst (xs.eraseIdx i.toNat)) hs na hn1 (Same.refl _);refine q (by rw[hc,mJ ∅];rfl) _ (Keep.refl.put _ mG) {a,_,O,by rw[vF (hnew a mG)];exact zC, ?_};rw[List.eraseIdx_eq_take_drop_succ] at r1⊢;exact Reps.append (Reps.drop _ r1) (Reps.take _ r1)
 | tup us=>exact hf.elim
 | non=>exact leaf (by cases wd<;>rfl) (by simp only[tyT];decide+kernel) (by simp only[tyT];decide+kernel)
 | bl _=>exact leaf (by cases wd<;>rfl) (by simp only[tyT];decide+kernel) (by simp only[tyT];decide+kernel)
 | int _=>exact leaf (by cases wd<;>rfl) (by simp only[tyT];decide+kernel) (by simp only[tyT];decide+kernel)
 | str _=>exact leaf (by cases wd<;>rfl) (by simp only[tyT];decide+kernel) (by simp only[tyT];decide+kernel)
abbrev sDo:V6:=top 73
def DeedR(H:Hp)(d:V1)(wd:Wd)(ks:List Key)(u:T):Prop:=∃pd r vn,H d=Y (.tup (.str wd.s:: .ref pd::r))/\H pd=Y (.lst (ks.map kV))/\(.str wd.s:: .ref pd::r:List V).getLast? =Y vn/\r...*<=1/\Rep H vn u
structure yBm(ks:List Key)(u:T):Prop where
 l:ks...*<=100
 s:∀k∈ks,okK k
 f:T.few u
 d:T.dep u<20
theorem gX{w:Wd}{n:T}{k:Key}{ks:List Key}{t:T}(h:ks≠ []):doT w n (k::ks) t=match xK t k with
  | some s=>(doT w n ks s).map λr=>xA .put t k r
  | none=>none:=by
 cases ks with
 | nil=>exact absurd O h
 | cons k' ks=>rfl
def yDe:Sp:=λvs H Q _=>∃(v:V)(d:V1)(wd:Wd)(ks:List Key)(t u:T),vs= [v, .ref d]/\Rep H v t/\T.few t/\T.dep t<20/\T.sz t<=100000/\DeedR H d wd ks u/\yBm ks u/\(∀r,doT wd u ks t=Y r->∀l x H',Same H H'->H' l=Y (.lst [.bl true,x])->Rep (zAk H H') x r->Q (.ref l) H')/\(doT wd u ks t=none->∀l x H',Same H H'->H' l=Y (.lst [.bl false,x])->Q (.ref l) H')
theorem scDo:zY ["_law_thing","_law_deed_here","_law_new","_law_whole","_law_there","_law_step"] ["_law_thing","_law_deed_here"] (zN sDo):=by walk_at "sc"
theorem ok_do{k:Nat}(F:Fun K "_law_deed_on" "_law_deed_on" sDo f fd)(B:Bl mg)(G_law_held:Dn P w K mg base k "_law_held" ["_law_thing"] (zCx 20))(G_law_put_in:Dn P w K mg base k "_law_put_in" ["_law_thing","_law_word","_law_step","_law_new"] spPi):FnOk P w K mg base CX0 (k+1) f fd ["_law_thing","_law_deed_here"] yDe:=by
 refine F.ok scDo (λvs H Q E h=>?_) (λc A o s H vs Q E hr h=>?_)
 ·ext yM h v d wd ks t z_
  ext oEA z_ u r6_ _;subst r6_
  rfl
 obtain⟨v,d,wd,ks,t,u,rfl,hv,hf,hd,hz,⟨pd,r,vn,hdd,hpd,hlast,hr1,hvn⟩,hI,q,qn⟩:=h;let nd:=scDo.nd;let hu:=wR hr;let hu0:=hr.units0;refine{_,(zE (pS 2 nd (yJ qT (pv 1) (wF xM zF) (λ_ _=>O)))
  (zE (zS (zQ (zIx hu0) (yJ qT (pv 1) zF (λ_ _=>O)) (yG zB) (zO _)) (zG (zK (yG (zA (yW xG (yJ qT (pv 1) zF (λ_ _=>O)) zU (zO _)) (zA (zP G_law_held hr ∅ O (zA (pv 2) zB)) zB))))) zL)
  (zE (pS 3 nd (zP G_law_held hr ∅ O (zA (pv 0) zB)))
  (zE (pS 4 nd (pv 3))
  (zE (wU PassesOwn.never O (xN (xS vD (yJ qT (pv 1) zF (λ_ _=>O)) wG (xO (wF xM zF)))) (yF (i:=5) nd O (nN O)) (zG (zS (d9 (wE (yB (pI B.isinstance zH B.dict xF (pv 4))) (wE (yB (pI B.isinstance zH B.str qZ (pv 5))) (wW (uD (zFo hu (pv 5) (pv 4))))))) (zG (pS 4 nd (wN hu (pv 4) (pv 5) (λ_ _=>O)))) (zG (zS (d9 (wE (yB (pI B.isinstance zH B.list yX (pv 4))) (wE (xR (yB (pI B.isinstance zH B.str qZ (pv 5)))) (wW (zQ kA (pv 5) (zM yI O B.len yV (zA (pv 4) zB)) (zO _)))))) (zG (pS 4 nd (yJ zW (pv 4) (pv 5) (λ_ _=>O)))) (zG (zK (yG (zA wZ (zA jD zB))))))))))
  (zG (zK (yG (zA (zP G_law_put_in hr ∅ O (zA (pv 4) (zA (yJ qT (pv 1) zF (λ_ _=>O)) (zA (yJ zW (yJ qT (pv 1) zF (λ_ _=>O)) (wF xM zF) (λ_ _=>O)) (zA (pv 2) zB))))) (zA (pv 3) zB)))))))))), ?_}
 walk_at "st";lk;let hl0:∀{H':Hp},Same H H'->SqT K H' d (.str wd.s:: .ref pd::r):=λg=>SqT.of (g _ _ hdd);let ixl:atI (.str wd.s:: .ref pd::r:List V) (-1)=Y vn:=by
  rcases r with _ |⟨y,_ |⟨z,r⟩⟩
  ·simpa [atI,ixN] using hlast
  ·simpa [atI,ixN] using hlast
  ·exact absurd hr1 (by simp)
 let g00:=Same.refl H;refine vK (hl0 g00) ixl (vK (hl0 g00) (yH (j:=1) O) λp hp=>?_);let s1:=zD hp (.lst []);refine{pd,p,ks.map kV,O,O,SqL.of (s1 _ _ hpd),SqL.of zC,_,O, ?_};generalize upd H p (.lst [])=H1 at s1⊢
 by_cases hks:ks= []
 ·subst hks
  refine iP O (vK (hl0 s1) (yH (j:=0) O) {O,vn,u,O,Rep.same s1 _ _ hvn,hI.f,hI.d,λx H2 D2 g2 sp2 hD2 l hl=>?_});let s3:=zD hl (.lst [V.bl (decide (V.str wd.s=V.str (A6 "put"))),x]);let hrx:=Sp1.new (sp2.same s3) λb hb=>zR s1 (hD2 b hb)
  cases wd with
  | put=>exact q u O l x _ (s1.trans (g2.trans s3)) (by rw[zC,nH (show V.str (Wd.put).s=V.str (A6 "put") from O)]) hrx
  | ins=>exact qn O l x _ (s1.trans (g2.trans s3)) (by rw[zC,nL (show¬V.str (Wd.ins).s=V.str (A6 "put") from λz=>absurd (V.str.inj z) (by decide+kernel))])
  | tak=>exact qn O l x _ (s1.trans (g2.trans s3)) (by rw[zC,nL (show¬V.str (Wd.tak).s=V.str (A6 "put") from λz=>absurd (V.str.inj z) (by decide+kernel))])
 ·refine iN (by cases ks<;>simp_all) {v,t,O,Rep.same s1 _ _ hv,hf,hd,λx H2 D2 g2 sp2 hD2=>?_}
  let g12:=s1.trans g2;refine vK (hl0 g12) (yH (j:=1) O) {pd,_,O,SqL.of (g12 _ _ hpd),λpc hpc=>{pc,O,{_,SqL.of zC}, ?_}};rw[zFx];obtain⟨ks0,kl,rfl⟩:∃ks0 kl,ks=ks0++ [kl]:={ks.dropLast,ks.getLast hks,(aG hks).symm};let ek:List.take (((ks0++ [kl]).map kV)...* - 1) ((ks0++ [kl]).map kV)=ks0.map kV:=by
   rw[mN,mK,mC];exact bU (by simp)
  rw[ek] at*;let s3:=zD hpc (.lst (ks0.map kV));let e3:=zC (H:=H2) (a:=pc) (o:=.lst (ks0.map kV));generalize upd H2 pc (.lst (ks0.map kV))=H3 at s3 e3⊢;let g13:=g12.trans s3;let C0:Cx2 H H3 x (λr=>r) x t D2:=Cx2.refl (sp2.same s3) (λb hb=>zR s1 (hD2 b hb)) hf;let bad:doT wd u (ks0++ [kl]) t=none->∀(l:V1),H3 l=none->Q (V.ref l) (upd H3 l (.lst [V.bl false,V.non])):=λhn l hl=>qn hn l .non _ (g13.trans (zD hl _)) zC;refine jI (K:=K) (a:=pc) (xs:=ks0.map kV) (λi σ H'=>H'=H3/\∃(y:V)(s:T)(D:List V1)(up:T->T)(o:Option V),σ= [Y v,Y (V.ref d),Y vn,Y x,Y y,o]/\Cx2 H H3 x up y s D/\T.sz s<=100000/\doT wd u (ks0++ [kl]) t=(doT wd u (ks0.drop i++ [kl]) s).map up) {O,_,_,_,_,_,O,C0,hz,by simp} (λi σ H' _ h=>by rw[h.1];exact SqL.of e3) ?_ ?_
  ·rintro i kv σ H' hkv ⟨rfl,y,s,D,up,o,rfl,C,hzs,hdo⟩
   rw[mW] at hkv;refine oEA (pJ.mp hkv) λk hk r2_=>?_;subst r2_;let hok:=hI.s k (nW _ (mF hk));let hdr:ks0.drop i++ [kl]=k::(ks0.drop (i+1)++ [kl]):=by
    obtain⟨hlt,e⟩:=mP.mp hk;rw[pB hlt,e];rfl
   rw[hdr,gX (by simp)] at hdo;let hty:=(Sp1.rep _ _ _ C.sp).ty;unfold zQw zCa;lk;refine nEA _ hty ?_
   cases s with
   | dic hs us=>
    refine iP (by simp only[tyT];decide+kernel) ?_
    cases k with
    | inl i=>exact{"int",O,iN ∎ {_,hty,iN (by simp only[tyT];decide+kernel) (bad hdo)}}
    | inr z=>
     refine nEA ("str") O (iP ∎ ?_);let ex:(Sum.inr z:Key)=nK (ts z):=by show(Sum.inr z:Key)=Sum.inr (tx (ts z));rw[vH]
     refine yC (C.sp) λa ps D1 r3_ ha z_=>?_;ext xI z_ hkk _ _ _;subst r3_;let hst:xK (.dic hs us) (.inr z)=if ts z∈hs then Y (zJ (ts z) hs us) else none:=rfl;rw[hst] at hdo
     by_cases hz:ts z∈hs
     ·refine yC (C.rcd hz) λps' y' D' ha' hkk' z_=>?_
      ext oA z_ hv' C';rw[<-ex] at hv';rw[mO hz] at hdo;let hfs:=C.few;let hzm:=c8 (yO hz hfs.2.2.1);let hzq:T.szs us+1<=100000:=hzs;exact wT a O _ (.inl {ps',Sum.inr z, .inl ha',O,hv'.symm}) (iP O {a,O,_, .inl {ps',Sum.inr z, .inl ha',O,hv'.symm},y',⟨O,_,O⟩,_,_,_,C',∅,by rw[hdo,Option.map_map];rfl})
     ·rw[mL hz] at hdo
      exact wT a O none (by let:=uX hkk ha hz;rw[vH] at this;exact this) (iN ∎ {_,hty,iN (by simp only[tyT];decide+kernel) (bad hdo)})
   | lst us=>
    refine iN (by simp only[tyT];decide+kernel) {_,hty,iP (by simp only[tyT];decide+kernel) ?_}
    cases k with
    | inr z=>exact{"str",O,iN ∎ (bad hdo)}
    | inl i=>
     let hi0:0<=i:=hok.1;refine nEA ("int") O (iP ∎ ?_);refine yC (C.sp) λa xs D1 r3_ ha z_=>?_;ext oAA z_ _ _ hs;subst r3_;let hl:=hs...*;refine vM a O xs (SqL.of ha) i (nA O ?_)
     by_cases hi:i<(xs...*:Int)
     ·obtain⟨w0,hw0⟩:∃w0,us[i.toNat]? =Y w0:={us[i.toNat]'∅,mJ _}
      refine yC (C.row hi0 hw0) λxs' y' D' ha' hl' z_=>?_;ext oA z_ hy' C';let hst:xK (.lst us) (.inl i)=us[i.toNat]?:=rfl;rw[hst,hw0] at hdo;let hzm:=c8 (mF hw0);let hzq:T.szs us+1<=100000:=hzs;rw[ha] at ha';cases ha';let ey:atI xs i=Y y':=by rw[show i=((i.toNat:Nat):Int) by lia];exact yH hy'
      exact iP hi (yL (SqL.of ha) ey {O,y',⟨O,_,O⟩,_,_,_,C',∅,by rw[hdo,Option.map_map];rfl})
     ·let hst:xK (.lst us) (.inl i)=us[i.toNat]?:=rfl
      rw[hst,aD ∅] at hdo;exact iN hi (bad hdo)
   | tup _=>exact C.few.elim
   | _=>exact iN (by simp only[tyT];decide+kernel) {_,hty,iN (by simp only[tyT];decide+kernel) (bad hdo)}
  ·rintro σ H' ⟨rfl,y,s,D,up,o,rfl,C,hzs,hdo⟩
   let hokl:=hI.s kl (nJ _ mG);rw[mC,aL] at hdo;let hd1:doT wd u ([]++ [kl]) s=if vB wd s kl=true then Y (xA wd s kl u) else none:=rfl;rw[hd1] at hdo;lk;let el:atI ((ks0++ [kl]).map kV) (-1)=Y (kV kl):=by
    rw[mN];exact wL _ _
   refine vK (hl0 g13) (yH (j:=0) O) (vK (hl0 g13) (yH (j:=1) O) (yL (SqL.of (g13 _ _ hpd)) el ?_));refine{H,y,vn,wd,kl,s,u,D,O,g13,C.sp,C.new,C.few,hokl,Rep.same g13 _ _ hvn,hI.f,hI.d,hzs,λhc H4 hk hr' l hl=>?_,λhc l hl=>?_}
   ·rw[mO hc] at hdo
    let s5:=zD hl (.lst [V.bl true,x]);exact q _ hdo l x _ ((hk.old g13 C.new).trans s5) zC (Rep.same (zRz s5) _ _ (C.cls H4 _ hr' hk))
   ·rw[mL (by rw[hc];decide)] at hdo
    exact qn hdo l x _ (g13.trans (zD hl _)) zC
theorem zFh:∀(n:Nat)(t:T),T.few t->T.dep t<n->xY (zZ t) (zZ t)=0
 | 0,_,_,h=>absurd h (pM _)
 | n+1,t,hf,hd=>by
  cases t with
  | non=>decide+kernel
  | bl b=>cases b<;>decide+kernel
  | int i=>show xY (.int i) (.int i)=0;rw[xY];unfold sgI;rw[mL ∅];rfl
  | str x=>show xY (.str x) (.str x)=0;rw[zJn,zBa]
  | lst us=>
   let hd':T.deps us+1<n+1:=hd;refine(zEl us us).mpr {O,λi t t' h1 h2=>?_};rw[h1] at h2;cases h2;let hm:=mF h1;let:=b7 hm;exact zFh n t (b5 hf.2 hm) ∅
  | dic ks us=>
   let hd':T.deps us+1<n+1:=hd;ext xI hf nk _ hle hf;refine(zEq nk).mpr {O,λk hk=>{hk, ?_}};let hm:=yO hk hle;let:=b7 hm;exact zFh n _ (b5 hf hm) ∅
  | tup us=>exact hf.elim
theorem gM{t:T}(h:T.few t):alk t t=true:=nH (zFh (T.dep t+1) t h (cV _))
theorem alk_lst{us ws:List T}:alk (.lst us) (.lst ws)=true↔us...*=ws...*/\∀(i:Nat) t u,us[i]? =Y t->ws[i]? =Y u->alk t u=true:=by
 unfold alk;rw[nV,zEl];exact bT λ_=>{λh i t u h1 h2=>nH (h i t u h1 h2),λh i t u h1 h2=>rP (h i t u h1 h2)}
theorem zOu{ks ls:List (List Nat)}{us ws:List T}(nk:ks.Nodup):alk (.dic ks us) (.dic ls ws)=true↔ks...*=ls...*/\∀k∈ks,k∈ls/\alk (zJ k ks us) (zJ k ls ws)=true:=by
 unfold alk;rw[nV,zEq nk];exact bT λ_=>{λh k hk=>{(h k hk).1,nH (h k hk).2},λh k hk=>{(h k hk).1,rP (h k hk).2}}
theorem zDa:∀{us ws:List T}{i:Nat}{t u:T},i<ahead us ws->us[i]? =Y t->ws[i]? =Y u->alk t u=true
 | [],_,_,_,_,h,_,_=>absurd h (pM _)
 | _::_,[],_,_,_,h,_,_=>absurd h (pM _)
 | a::us,b::ws,i,t,u,h,h1,h2=>by
  let e:ahead (a::us) (b::ws)=if alk a b=true then ahead us ws+1 else 0:=rfl;rw[e] at h
  by_cases c:alk a b=true
  ·rw[mO c] at h
   cases i with
   | zero=>
    simp only[pL,Option.some.injEq] at h1 h2;subst h1 h2;exact c
   | succ i=>
    simp only[tM] at h1 h2;exact zDa ∅ h1 h2
  ·rw[mL c] at h
   exact absurd h (pM _)
abbrev Dd:=Wd×List Key×T
noncomputable def xU:List Dd->T->Option T
 | [],t=>Y t
 | d::ds,t=>(doT d.1 d.2.2 d.2.1 t).bind (xU ds)
theorem kX:∀(a b:List Dd)(t:T),xU (a++b) t=(xU a t).bind (xU b)
 | [],b,t=>rfl
 | d::a,b,t=>by
  show(doT d.1 d.2.2 d.2.1 t).bind (xU (a++b))=((doT d.1 d.2.2 d.2.1 t).bind (xU a)).bind (xU b)
  cases doT d.1 d.2.2 d.2.1 t with
  | none=>rfl
  | some r=>exact kX a b r
noncomputable def jB(k:Key)(ds:List Dd):List Dd:=ds.map λd=>(d.1,k::d.2.1,d.2.2)
def zEd(d:Dd):Prop:=d.1= .put\/d.2.1≠ []
def m9:T->Prop
 | .dic ks us=>ks.Nodup/\ks...*=us...*
 | _=>True
theorem zFz{t s r:T}{k:Key}(hf:m9 t)(hk:okK k)(h:xK t k=Y s):vB .put t k=true/\xK (xA .put t k r) k=Y r/\∀q,xA .put (xA .put t k r) k q=xA .put t k q:=by
 cases t with
 | lst us=>
  cases k with
  | inl i=>
   let h':us[i.toNat]? =Y s:=h;let hl:=(mP.mp h').1;let h0:0<=i:=hk.1;let hlt:(us.take i.toNat)...*=i.toNat:=by rw[pH];lia
   refine nAA (nH ∅) ?_ (λq=>?_)
   ·show(us.take i.toNat++r::us.drop (i.toNat+1))[i.toNat]? =Y r
    rw[pG ∅,hlt,Nat.sub_self]
    rfl
   ·show T.lst ((us.take i.toNat++r::us.drop (i.toNat+1)).take i.toNat++q::(us.take i.toNat++r::us.drop (i.toNat+1)).drop (i.toNat+1))=T.lst (us.take i.toNat++q::us.drop (i.toNat+1))
    rw[bU hlt,List.drop_append,hlt,pR ∅,show i.toNat+1 - i.toNat=1 by lia]
    rfl
  | inr z=>exact absurd h (by intro z;cases z)
 | dic ks us=>
  cases k with
  | inl i=>exact absurd h (by intro z;cases z)
  | inr z=>
   let h':(if ts z∈ks then Y (zJ (ts z) ks us) else none)=Y s:=h;let hm:ts z∈ks:=by
    by_cases c:ts z∈ks
    ·exact c
    ·rw[mL c] at h';cases h'
   let e:∀q,yU (ks,us) (ts z) q=(ks,us.set (ks.idxOf (ts z)) q):=λq=>by
    let:yU (ks,us) (ts z) q=(ks,xB (ts z) q ks us):=mO hm;rw[this,kH ks us hf.1 hf.2 hm]
   let il:ks.idxOf (ts z)<us...*:=by rw[<-hf.2];exact rD hm
   refine nAA O ?_ (λq=>?_)
   ·show(if ts z∈(yU (ks,us) (ts z) r).1 then Y (zJ (ts z) (yU (ks,us) (ts z) r).1 (yU (ks,us) (ts z) r).2) else none)=Y r
    rw[e];show(if ts z∈ks then Y (zJ (ts z) ks (us.set (ks.idxOf (ts z)) r)) else none)=Y r;rw[mO hm];exact congrArg some (jT hf.1 (uH hm) (sS il))
   ·show T.dic (yU ((yU (ks,us) (ts z) r).1,(yU (ks,us) (ts z) r).2) (ts z) q).1 (yU ((yU (ks,us) (ts z) r).1,(yU (ks,us) (ts z) r).2) (ts z) q).2=T.dic (yU (ks,us) (ts z) q).1 (yU (ks,us) (ts z) q).2
    let e2:yU (ks,us.set (ks.idxOf (ts z)) r) (ts z) q=(ks,us.set (ks.idxOf (ts z)) q):=by
     let:yU (ks,us.set (ks.idxOf (ts z)) r) (ts z) q=(ks,xB (ts z) q ks (us.set (ks.idxOf (ts z)) r)):=mO hm;rw[this,kH ks _ hf.1 (by rw[sZ];exact hf.2) hm,List.set_set]
    rw[e,e2,e]
 | _=>exact absurd h (by intro z;cases k<;>cases z)
theorem zWp{t s r:T}{k:Key}(hf:m9 t)(h:xK t k=Y s):m9 (xA .put t k r):=by
 cases t with
 | lst us=>
  cases k with
  | inl i=>exact mH
  | inr z=>exact absurd h (by intro z;cases z)
 | dic ks us=>
  cases k with
  | inl i=>exact absurd h (by intro z;cases z)
  | inr z=>
   show(yU (ks,us) (ts z) r).1.Nodup/\(yU (ks,us) (ts z) r).1...*=(yU (ks,us) (ts z) r).2...*;exact{jE hf.1,(gQ hf.2).1}
 | _=>exact absurd h (by intro z;cases k<;>cases z)
theorem zPk{w:Wd}{n t s:T}{k:Key}{p:List Key}(hf:m9 t)(hk:okK k)(h:xK t k=Y s)(hd:w= .put\/p≠ []):doT w n (k::p) t=(doT w n p s).map λr=>xA .put t k r:=by
 cases p with
 | nil=>
  rcases hd with rfl | hd
  ·let hc:=(zFz (r:=n) hf hk h).1
   show(if vB .put t k=true then Y (xA .put t k n) else none)=_;rw[mO hc]
   rfl
  ·exact absurd O hd
 | cons k' p=>
  rw[gX (by simp),h]
theorem zEo{k:Key}(hk:okK k):∀(ds:List Dd){t s:T},m9 t->xK t k=Y s->(∀d∈ds,zEd d)->xU (jB k ds) t=(xU ds s).map λr=>if ds= [] then t else xA .put t k r
 | [],t,s,_,_,_=>rfl
 | d::ds,t,s,hf,h,hd=>by
  show(doT d.1 d.2.2 (k::d.2.1) t).bind (xU (jB k ds))=_;rw[zPk hf hk h (hd d mG)];show _=((doT d.1 d.2.2 d.2.1 s).bind (xU ds)).map _
  cases hdo:doT d.1 d.2.2 d.2.1 s with
  | none=>rfl
  | some s1=>
   show xU (jB k ds) (xA .put t k s1)=(xU ds s1).map _;obtain⟨_,h2,h3⟩:=zFz (r:=s1) hf hk h;rw[zEo hk ds (zWp hf h) h2 λd' hd'=>hd d' (mE _ hd')]
   cases hr:xU ds s1 with
   | none=>rfl
   | some r=>
    show Y _=Y _
    congr 1
    dsimp only;rw[mL (rN _ _)]
    by_cases hn:ds= []
    ·subst hn
     let:s1=r:=mM hr;rw[mO O,this]
    ·rw[mL hn,h3]
noncomputable def dfR(D:T->T->List Dd)(us ws:List T):List Dd:=
 let h:=ahead us ws;let e:=ahead (us.drop h).reverse (ws.drop h).reverse;let m:=min us...* ws...* - e
 ((List.range (m - h)).flatMap λi=>jB (.inl ((h+i:Nat):Int)) (D (us.getD (h+i) .non) (ws.getD (h+i) .non)))
  ++((List.range (us...* - e - m)).map λi=>((.tak,[.inl ((us...* - e - 1 - i:Nat):Int)], .non):Dd))
  ++((List.range (ws...* - e - m)).map λi=>((.ins,[.inl ((m+i:Nat):Int)],ws.getD (m+i) .non):Dd))
noncomputable def dfC(D:T->T->List Dd)(ks:List (List Nat))(us:List T)(ls:List (List Nat))(ws:List T):List Dd:=
 (((yQ ks).filter λk=>!decide (k∈ls)).map λk=>((.tak,[nK k], .non):Dd))
  ++(yQ ls).flatMap λk=>if k∈ks then jB (nK k) (D (zJ k ks us) (zJ k ls ws)) else[(.put,[nK k],zJ k ls ws)]
noncomputable def dfT:Nat->T->T->List Dd
 | 0,_,_=>[]
 | n+1,t,u=>if alk t u=true then[] else match t,u with
  | .lst us, .lst ws=>dfR (dfT n) us ws
  | .dic ks us, .dic ls ws=>dfC (dfT n) ks us ls ws
  | _,_=>[(.put,[],u)]
theorem zTm{k:Key}{ds:List Dd}:∀d∈jB k ds,zEd d:=λd hd=>by
 obtain⟨d',_,rfl⟩:=nB.mp hd;exact .inr (rN _ _)
theorem zKc:∀(n:Nat)(t u:T),∀d∈dfT n t u,zEd d
 | 0,_,_,_,h=>nomatch h
 | n+1,t,u,d,h=>by
  unfold dfT at h;split at h
  ·exact nomatch h
  ·split at h
   ·unfold dfR at h
    rcases mX.mp h with h | h
    ·rcases mX.mp h with h | h
     ·obtain⟨i,_,h⟩:=bI.mp h
      exact zTm d h
     ·obtain⟨i,_,rfl⟩:=nB.mp h
      exact .inr (rN _ _)
    ·obtain⟨i,_,rfl⟩:=nB.mp h
     exact .inr (rN _ _)
   ·unfold dfC at h
    rcases mX.mp h with h | h
    ·obtain⟨i,_,rfl⟩:=nB.mp h
     exact .inr (rN _ _)
    ·obtain⟨i,_,h⟩:=bI.mp h
     split at h
     ·exact zTm d h
     ·rw[nC.mp h]
      exact .inr (rN _ _)
   ·rw[nC.mp h]
    exact .inl O
theorem zCp{w:Wd}{n t:T}{k:Key}(h:vB w t k=true):doT w n [k] t=Y (xA w t k n):=by
 show(if vB w t k=true then Y (xA w t k n) else none)=_;rw[mO h]
theorem uA{d:Dd}{ds:List Dd}{t r:T}(h:doT d.1 d.2.2 d.2.1 t=Y r):xU (d::ds) t=xU ds r:=by
 show(doT d.1 d.2.2 d.2.1 t).bind (xU ds)=_;rw[h];rfl
theorem zKx{ds:List Dd}{d:Dd}{t r:T}(h:xU ds t=Y r):xU (ds++ [d]) t=doT d.1 d.2.2 d.2.1 r:=by
 rw[kX,h];show(doT d.1 d.2.2 d.2.1 r).bind (xU [])=_;cases doT d.1 d.2.2 d.2.1 r<;>rfl
theorem zCs{D:T->T->List Dd}{us ws:List T}{h:Nat}(hlen:us...*<=60)(hD:∀(i:Nat) (t u:T),us[i]? =Y t->ws[i]? =Y u->(∀d∈D t u,zEd d)/\∃r,xU (D t u) t=Y r/\alk r u=true):∀j:Nat,h+j<=us...*->h+j<=ws...*->
  ∃L,xU ((List.range j).flatMap λi=>jB (.inl ((h+i:Nat):Int)) (D (us.getD (h+i) .non) (ws.getD (h+i) .non))) (.lst us)=Y (.lst L)/\L...*=us...*/\(∀i:Nat,i<h\/h+j<=i->L[i]? =us[i]?)/\∀i:Nat,h<=i->i<h+j->∃r u,L[i]? =Y r/\ws[i]? =Y u/\alk r u=true
 | 0,_,_=>{us,O,O,λ_ _=>O,λi h1 h2=>absurd h2 ∅}
 | j+1,h1,h2=>by
  refine jZ (zCs (h:=h) hlen hD j ∅ ∅) λL e1 e2 e3 e4=>?_;let ht:us[h+j]? =some us[h+j]:=mJ ∅;let hw:ws[h+j]? =some ws[h+j]:=mJ ∅;let gt:us.getD (h+j) .non=us[h+j]:=by rw[mZ,ht];rfl
  let gw:ws.getD (h+j) .non=ws[h+j]:=by rw[mZ,hw];rfl
  obtain⟨ok,r,hr,ha⟩:=hD _ _ _ ht hw;let hL:L[h+j]? =some us[h+j]:=(e3 (h+j) (.inr (mB _))).trans ht;let hst:xK (.lst L) (.inl ((h+j:Nat):Int))=some us[h+j]:=by
   show L[((h+j:Nat):Int).toNat]? =_;rw[rR];exact hL
  let hrun:=zEo (k:=.inl ((h+j:Nat):Int)) {∅,∅} (D us[h+j] ws[h+j]) (t:=.lst L) mH hst ok;rw[hr] at hrun;let hall:xU ((List.range (j+1)).flatMap λi=>jB (.inl ((h+i:Nat):Int)) (D (us.getD (h+i) .non) (ws.getD (h+i) .non))) (.lst us)=Y (if D us[h+j] ws[h+j]= [] then .lst L else xA .put (.lst L) (.inl ((h+j:Nat):Int)) r):=by
   rw[pY,sD,kX,e1];show xU (List.flatMap _ [j]) (.lst L)=_;rw[sV,gt,gw,hrun]
   rfl
  by_cases hn:D us[h+j] ws[h+j]= []
  ·rw[mO hn] at hall
   rw[hn] at hr;let er:us[h+j]=r:=mM hr;refine zBz L hall e2 (λi hi=>e3 i ∅) (λi g1 g2=>?_)
   by_cases c:i=h+j
   ·subst c
    exact zPg _ _ hL hw (by rw[er];exact ha)
   ·exact e4 i g1 ∅
  ·rw[mL hn] at hall
   let ep:xA .put (.lst L) (.inl ((h+j:Nat):Int)) r= .lst (L.set (h+j) r):=by
    show T.lst (L.take ((h+j:Nat):Int).toNat++r::L.drop (((h+j:Nat):Int).toNat+1))=_;rw[rR,<-zJw ∅]
   rw[ep] at hall;refine zBz (L.set (h+j) r) hall (by rw[sZ];exact e2) (λi hi=>?_) (λi g1 g2=>?_)
   ·rw[rW ∅]
    exact e3 i ∅
   ·by_cases c:i=h+j
    ·subst c
     exact zPg r _ (sS ∅) hw ha
    ·rw[rW ∅]
     exact e4 i g1 ∅
theorem zFl{L:List T}{e m:Nat}:∀j:Nat,j+m+e<=L...*->xU ((List.range j).map λi=>((.tak,[.inl ((L...* - e - 1 - i:Nat):Int)], .non):Dd)) (.lst L)=Y (.lst (L.take (L...* - e - j)++L.drop (L...* - e)))
 | 0,_=>by
  show Y (T.lst L)=_;rw[aV,rK]
 | j+1,h=>by
  rw[pY,mN,aW];rw[zKx (zFl (m:=m) j ∅)];let l1:(L.take (L...* - e - j))...*=L...* - e - j:=by rw[pH];lia
  let hc:vB .tak (.lst (L.take (L...* - e - j)++L.drop (L...* - e))) (.inl ((L...* - e - 1 - j:Nat):Int))=true:=by
   show((L.take (L...* - e - j)++L.drop (L...* - e))[((L...* - e - 1 - j:Nat):Int).toNat]?).isSome=true;rw[rR,pF ∅,mJ ∅]
   rfl
  rw[zCp hc];show Y (T.lst ((L.take (L...* - e - j)++L.drop (L...* - e)).take ((L...* - e - 1 - j:Nat):Int).toNat++(L.take (L...* - e - j)++L.drop (L...* - e)).drop (((L...* - e - 1 - j:Nat):Int).toNat+1)))=_;rw[rR,List.take_append_of_le_length ∅,List.take_take,show min (L...* - e - 1 - j) (L...* - e - j)=L...* - e - (j+1) by lia,show L...* - e - 1 - j+1=(L.take (L...* - e - j))...* by lia,List.drop_left]
theorem zPp{A B ws:List T}{m:Nat}(hA:A...*=m):∀j:Nat,m+j<=ws...*->xU ((List.range j).map λi=>((.ins,[.inl ((m+i:Nat):Int)],ws.getD (m+i) .non):Dd)) (.lst (A++B))=Y (.lst (A++(ws.drop m).take j++B))
 | 0,_=>by
  show Y (T.lst (A++B))=_;rw[cA,rM]
 | j+1,h=>by
  rw[pY,mN,aW];rw[zKx (zPp hA j ∅)];let l1:(A++(ws.drop m).take j)...*=m+j:=by rw[mK,pH,nG];lia
  let hc:vB .ins (.lst (A++(ws.drop m).take j++B)) (.inl ((m+j:Nat):Int))=true:=nH (by rw[mK,l1];lia);rw[zCp hc];show Y (T.lst ((A++(ws.drop m).take j++B).take ((m+j:Nat):Int).toNat++ws.getD (m+j) .non::(A++(ws.drop m).take j++B).drop ((m+j:Nat):Int).toNat))=_;let hw:ws[m+j]? =some ws[m+j]:=mJ ∅;let gw:ws.getD (m+j) .non=ws[m+j]:=by rw[mZ,hw];rfl
  let ht:(ws.drop m).take (j+1)=(ws.drop m).take j++ [ws[m+j]]:=yK (by rw[sX];exact hw);rw[rR,bU l1,List.drop_left' l1,gw,ht];simp
theorem zJa{a b h e m:Nat}(hle:h<=a/\h<=b)(hel:e<=a - h/\e<=b - h)(hm:min a b - e=m):h<=m/\m+e<=a/\m+e<=b/\(m+e=a\/m+e=b):=by lia
theorem zZy{D:T->T->List Dd}{us ws:List T}(h1:us...*<=60)(hf:i3 ws)(hD:∀(i:Nat) (t u:T),us[i]? =Y t->ws[i]? =Y u->(∀d∈D t u,zEd d)/\∃r,xU (D t u) t=Y r/\alk r u=true):∃L,xU (dfR D us ws) (.lst us)=Y (.lst L)/\alk (.lst L) (.lst ws)=true:=by
 obtain⟨h,hh⟩:∃h,ahead us ws=h:=⟨_,O⟩;obtain⟨e,he⟩:∃e,ahead (us.drop h).reverse (ws.drop h).reverse=e:=⟨_,O⟩;let hle:=vG us ws;let hel:=vG (us.drop h).reverse (ws.drop h).reverse;rw[hh] at hle;rw[he,pK,pK,nG,nG] at hel;obtain⟨m,hm⟩:∃m,min us...* ws...* - e=m:=⟨_,O⟩;unfold dfR;dsimp only;rw[hh,he,hm];refine xI (zJa hle hel hm) λf1 f2 f3 f4=>?_;clear hle hel hm;refine jZ (zCs (h:=h) h1 hD (m - h) ∅ ∅) λL e1 e2 e3 e4=>?_;let e5:=zFl (L:=L) (e:=e) (m:=m) (us...* - e - m) ∅;rw[e2,show us...* - e - (us...* - e - m)=m by lia] at e5;let hA:(L.take m)...*=m:=by rw[pH];lia
 let e6:=zPp (B:=L.drop (us...* - e)) (ws:=ws) hA (ws...* - e - m) ∅;refine nEA (L.take m++(ws.drop m).take (ws...* - e - m)++L.drop (us...* - e)) ?_ ?_
 ·rw[kX,kX,e1]
  show(xU _ (.lst L)).bind _=_;rw[e5];exact e6
 let lC:((ws.drop m).take (ws...* - e - m))...*=ws...* - e - m:=by rw[pH,nG];lia
 let lAC:(L.take m++(ws.drop m).take (ws...* - e - m))...*=ws...* - e:=by rw[mK,hA,lC];lia
 refine alk_lst.mpr {by rw[mK,lAC,nG];lia,λi t u ht hu=>?_};let hul:=(mP.mp hu).1
 by_cases c1:i<m
 ·rw[pF ∅,pF ∅,aU c1] at ht
  by_cases c2:i<h
  ·rw[e3 i (.inl c2)] at ht
   exact zDa (us:=us) (ws:=ws) ∅ ht hu
  ·refine yN (e4 i ∅ ∅) λr w g1 g2 g3=>?_
   rw[ht] at g1;rw[hu] at g2;cases g1;cases g2;exact g3
 ·by_cases c2:i<ws...* - e
  ·rw[pF ∅,pG ∅,hA,aU ∅,sX,show m+(i - m)=i by lia,hu] at ht
   cases ht;exact gM (b5 hf (mF hu))
  ·rw[pG ∅,lAC,sX,e3 _ (.inr ∅)] at ht
   let hq:ws...* - 1 - i<e:=by lia
   refine zDa (us:=(us.drop h).reverse) (ws:=(ws.drop h).reverse) (i:=ws...* - 1 - i) ∅ ?_ ?_
   ·rw[List.getElem?_reverse (by rw[nG];lia),nG,sX]
    rw[<-ht]
    congr 1
    lia
   ·rw[List.getElem?_reverse (by rw[nG];lia),nG,sX]
    rw[<-hu]
    congr 1
    lia
theorem putT_in{ks:List (List Nat)}{us:List T}{n k:List Nat}{t:T}:k∈(yU (ks,us) n t).1↔k∈ks\/k=n:=by
 unfold yU;split
 ·rename_i h
  exact{.inl,λz=>z.elim id λe=>by rw[e];exact h}
 ·show k∈ks++ [n]↔_
  rw[mX,nC]
theorem zEv{ls:List (List Nat)}:∀(S ks:List (List Nat))(us:List T),ks.Nodup->ks...*=us...*->S.Nodup->(∀k∈S,k∈ks)->∃a b,xU (S.map λk=>((.tak,[nK k], .non):Dd)) (.dic ks us)=Y (.dic a b)/\a.Nodup/\a...*=b...*/\(∀k,k∈a↔k∈ks/\k∉S)/\∀k∈a,zJ k a b=zJ k ks us
 | [],ks,us,nk,hl,_,_=>{ks,us,O,nk,hl,λk=>{λh=>{h,λz=>nomatch z},λh=>h.1},λ_ _=>O}
 | k::S,ks,us,nk,hl,ns,hs=>by
  rw[nZ] at ns;let hk:=hs k mG;let hc:vB .tak (.dic ks us) (nK k)=true:=by
   show(if ts (tx k)∈ks then Y (zJ (ts (tx k)) ks us) else none).isSome=true;rw[wI,mO hk];rfl
  refine yA (zEv (ls:=ls) S (vI k ks) (xV k ks us) (jL nk) (zBv hl).1 ns.2 λk' hk'=>dropN_mem.mpr {hs k' (mE _ hk'),λz=>ns.1 (z▸hk')}) λa b e1 e2 e3 z_=>?_;ext oA z_ e4 e5;refine jU a b ?_ e2 e3 (nA (λk'=>?_) (λk' hk'=>?_))
  ·rw[mV,uA (r:=.dic (vI k ks) (xV k ks us))]
   ·exact e1
   ·rw[zCp hc]
    show Y (T.dic (vI (ts (tx k)) ks) (xV (ts (tx k)) ks us))=_;rw[wI]
  ·rw[e4 k',dropN_mem,mI]
   constructor
   ·rintro⟨⟨h1,h2⟩,h3⟩
    exact{h1,λz=>z.elim h2 h3}
   ·rintro⟨h1,h2⟩
    exact{{h1,λz=>h2 (.inl z)},λz=>h2 (.inr z)}
  ·let hm:=(e4 k').mp hk'
   rw[e5 k' hk',zIg (dropN_mem.mp hm.1).2 hl]
theorem zOq{D:T->T->List Dd}{ks ls:List (List Nat)}{us ws:List T}(fw:i3 ws)(ll:ls...*=ws...*)(hD:∀k∈ks,k∈ls->(∀d∈D (zJ k ks us) (zJ k ls ws),zEd d)/\∃r,xU (D (zJ k ks us) (zJ k ls ws)) (zJ k ks us)=Y r/\alk r (zJ k ls ws)=true):
  ∀(S a:List (List Nat))(b:List T),a.Nodup->a...*=b...*->S.Nodup->(∀k∈S,k∈ls)->(∀k∈S,k∈a↔k∈ks)->(∀k∈S,k∈a->zJ k a b=zJ k ks us)->
  ∃a' b',xU (S.flatMap λk=>if k∈ks then jB (nK k) (D (zJ k ks us) (zJ k ls ws)) else[(.put,[nK k],zJ k ls ws)]) (.dic a b)=Y (.dic a' b')/\a'.Nodup/\a'...*=b'...*/\(∀k,k∈a'↔k∈a\/k∈S)/\(∀k∈S,alk (zJ k a' b') (zJ k ls ws)=true)/\∀k∈a,k∉S->zJ k a' b'=zJ k a b
 | [],a,b,na,hl,_,_,_,_=>{a,b,O,na,hl,λk=>{.inl,λh=>h.elim id λz=>(nomatch z)},λ_ h=>(nomatch h),λ_ _ _=>O}
 | k::S,a,b,na,hl,ns,h1,h2,h3=>by
  rw[nZ] at ns;let hkl:=h1 k mG;let fin:∀(r:T),alk r (zJ k ls ws)=true->∀ds,xU ds (.dic a b)=Y (.dic (yU (a,b) k r).1 (yU (a,b) k r).2)->∃a' b',xU (ds++S.flatMap λk=>if k∈ks then jB (nK k) (D (zJ k ks us) (zJ k ls ws)) else[(.put,[nK k],zJ k ls ws)]) (.dic a b)=Y (.dic a' b')/\a'.Nodup/\a'...*=b'...*/\(∀k',k'∈a'↔k'∈a\/k'∈k::S)/\(∀k'∈k::S,alk (zJ k' a' b') (zJ k' ls ws)=true)/\∀k'∈a,k'∉k::S->zJ k' a' b'=zJ k' a b:=λr hr ds hds=>by
   let hlook:∀k',k'∈a\/k'=k->zJ k' (yU (a,b) k r).1 (yU (a,b) k r).2=if k'=k then r else zJ k' a b:=λk' hk'=>(zHx hl hk').2;obtain⟨a',b',e1,e2,e3,e4,e5,e6⟩:=zOq fw ll hD S (yU (a,b) k r).1 (yU (a,b) k r).2 (jE na) (gQ hl).1 ns.2 (λk' hk'=>h1 k' (mE _ hk')) (λk' hk'=>by
    let hne:k'≠k:=λz=>ns.1 (z▸hk');rw[putT_in,<-h2 k' (mE _ hk')];exact{λz=>z.resolve_right hne, .inl}) (λk' hk' hm=>by
    let hne:k'≠k:=λz=>ns.1 (z▸hk');let hma:=(putT_in.mp hm).resolve_right hne;rw[hlook k' (.inl hma),mL hne];exact h3 k' (mE _ hk') hma)
   refine jU a' b' ?_ e2 e3 (nAA (λk'=>?_) (λk' hk'=>?_) (λk' hk' hn=>?_))
   ·rw[kX,hds];exact e1
   ·rw[e4 k',putT_in,mI,or_assoc]
   ·rcases mI.mp hk' with z | z
    ·subst z
     rw[e6 k' (putT_in.mpr (.inr O)) ns.1,hlook k' (.inr O),mO O];exact hr
    ·exact e5 k' z
   ·let hne:k'≠k:=λz=>hn (by rw[z];exact mG)
    rw[e6 k' (putT_in.mpr (.inl hk')) λz=>hn (mE _ z),hlook k' (.inl hk'),mL hne]
  rw[cP]
  by_cases hk:k∈ks
  ·rw[mO hk]
   let hka:=(h2 k mG).mpr hk;obtain⟨ok,r,hr,ha⟩:=hD k hk hkl;let hst:xK (.dic a b) (nK k)=Y (zJ k ks us):=by
    show(if ts (tx k)∈a then Y (zJ (ts (tx k)) a b) else none)=_;rw[wI,mO hka,h3 k mG hka]
   let hrun:=zEo (k:=nK k) mH (D (zJ k ks us) (zJ k ls ws)) (t:=.dic a b) ⟨na,hl⟩ hst ok;rw[hr] at hrun;refine fin r ha _ (hrun.trans ?_);show Y _=Y _
   congr 1
   dsimp only;let ep:xA .put (.dic a b) (nK k) r= .dic (yU (a,b) k r).1 (yU (a,b) k r).2:=by
    show T.dic (yU (a,b) (ts (tx k)) r).1 (yU (a,b) (ts (tx k)) r).2=_;rw[wI]
   by_cases hn:D (zJ k ks us) (zJ k ls ws)= []
   ·rw[mO hn]
    rw[hn] at hr;let er:zJ k ks us=r:=mM hr;let:yU (a,b) k r=(a,xB k r a b):=mO hka;rw[this,kH a b na hl hka];show T.dic a b=T.dic a (b.set (a.idxOf k) r);let il:a.idxOf k<b...*:=by rw[<-hl];exact rD hka
    let hb:b[a.idxOf k]=r:=by
     rw[<-er,<-h3 k mG hka];exact(jT na (uH hka) (mJ il)).symm
    rw[<-hb,List.set_getElem_self]
   ·rw[mL hn,ep]
  ·rw[mL hk]
   refine fin _ (gM (b5 fw (yO hkl ll))) _ ?_;rw[uA (r:=.dic (yU (a,b) k (zJ k ls ws)).1 (yU (a,b) k (zJ k ls ws)).2)]
   ·rfl
   ·rw[zCp O]
    show Y (T.dic (yU (a,b) (ts (tx k)) (zJ k ls ws)).1 (yU (a,b) (ts (tx k)) (zJ k ls ws)).2)=_;rw[wI]
theorem zZp{D:T->T->List Dd}{ks ls:List (List Nat)}{us ws:List T}(nk:ks.Nodup)(hl:ks...*=us...*)(nl:ls.Nodup)(ll:ls...*=ws...*)(fw:i3 ws)(hD:∀k∈ks,k∈ls->(∀d∈D (zJ k ks us) (zJ k ls ws),zEd d)/\∃r,xU (D (zJ k ks us) (zJ k ls ws)) (zJ k ks us)=Y r/\alk r (zJ k ls ws)=true):
  ∃a b,xU (dfC D ks us ls ws) (.dic ks us)=Y (.dic a b)/\a.Nodup/\a...*=b...*/\alk (.dic a b) (.dic ls ws)=true:=by
 let hmem:∀k,k∈(yQ ks).filter (λk=>!decide (k∈ls))↔k∈ks/\k∉ls:=λk=>by
  rw[rA,mem_sortK];simp
 refine yA (zEv (ls:=ls) ((yQ ks).filter λk=>!decide (k∈ls)) ks us nk hl ((sO (yT ks)).mpr nk |>.filter _) λk hk=>((hmem k).mp hk).1) λa b e1 e2 e3 z_=>?_
 ext oA z_ e4 e5;let hka:∀k,k∈a↔k∈ks/\k∈ls:=λk=>by
  rw[e4 k,hmem k];constructor
  ·rintro⟨h1,h2⟩
   exact{h1,Classical.byContradiction λz=>h2 ⟨h1,z⟩}
  ·rintro⟨h1,h2⟩
   exact{h1,λz=>z.2 h2}
 obtain⟨a',b',f1,f2,f3,f4,f5,_⟩:=zOq fw ll hD (yQ ls) a b e2 e3 ((sO (yT ls)).mpr nl) (λk hk=>mem_sortK.mp hk) (λk hk=>by
  rw[hka k];exact{λz=>z.1,λz=>{z,mem_sortK.mp hk}}) λk hk hm=>e5 k hm
 refine jU a' b' ?_ f2 f3 ?_
 ·unfold dfC
  rw[kX,e1];exact f1
 ·let hm:∀k,k∈a'↔k∈ls:=λk=>by
   rw[f4 k,hka k,mem_sortK];exact{λz=>z.elim (λy=>y.2) id, .inr}
  refine(zOu f2).mpr {?_,λk hk=>{(hm k).mp hk,f5 k (mem_sortK.mpr ((hm k).mp hk))}};exact((aO f2 nl).mpr hm).length_eq
theorem wY{t:T}:∀{us:List T},xL us=true->t∈us->lnar t=true
 | [],_,h=>nomatch h
 | u::us,h,hm=>by
  let h':(lnar u && xL us)=true:=h;rw[nU] at h';rcases mI.mp hm with e | e
  ·rw[e];exact h'.1
  ·exact wY h'.2 e
theorem zEu:∀(n:Nat)(t u:T),T.few t->T.few u->lnar t=true->T.dep t<n->∃r,xU (dfT n t u) t=Y r/\alk r u=true
 | 0,_,_,_,_,_,h=>absurd h (pM _)
 | n+1,t,u,hf,hu,hn,hd=>by
  unfold dfT
  by_cases ha:alk t u=true
  ·rw[mO ha]
   exact nEA t O ha
  rw[mL ha];let oth:∃r,xU [((.put,[],u):Dd)] t=Y r/\alk r u=true:={u,O,gM hu}
  cases t with
  | lst us=>
   cases u with
   | lst ws=>
    let hn':(decide (us...*<=60)&& xL us)=true:=hn;rw[nU,nV] at hn';let hd':T.deps us+1<n+1:=hd;obtain⟨L,e1,e2⟩:=zZy (D:=dfT n) (us:=us) (ws:=ws) hn'.1 hu.2 λi t u ht hw=>{zKc n t u,by
     let mt:=mF ht;let:=b7 mt;exact zEu n t u (b5 hf.2 mt) (b5 hu.2 (mF hw)) (wY hn'.2 mt) ∅}
    exact nEA _ e1 e2
   | _=>exact oth
  | dic ks us=>
   cases u with
   | dic ls ws=>
    let hn':(decide (ks...*<=30)&& xL us)=true:=hn;rw[nU,nV] at hn';let hd':T.deps us+1<n+1:=hd;obtain⟨a,b,e1,_,_,e2⟩:=zZp (D:=dfT n) hf.1 hf.2.2.1 hu.1 hu.2.2.1 hu.2.2.2 λk hk hkl=>{zKc n _ _,by
     let mt:=yO hk hf.2.2.1;let:=b7 mt;exact zEu n _ _ (b5 hf.2.2.2 mt) (b5 hu.2.2.2 (yO hkl hu.2.2.1)) (wY hn'.2 mt) ∅}
    exact nEA _ e1 e2
   | _=>exact oth
  | _=>exact oth
abbrev sDb:V6:=top 23
abbrev sDr:V6:=top 25
noncomputable def kT:Key->T
 | .inl i=>.int i
 | .inr s=>.str (ts s)
theorem zUu{H:Hp}:∀ks:List Key,Sps H (ks.map kV) (ks.map kT) []
 | []=>⟨O,O⟩
 | k::ks=>{kV k,ks.map kV,[],[],O,O,by
   cases k with
   | inl i=>exact⟨O,O⟩
   | inr s=>exact{O,by show V.str s=V.str (tx (ts s));rw[vH]},zUu ks,λ_ h=>nomatch h}
theorem zQh{H:Hp}{pc:V1}{ks:List Key}(h:H pc=Y (.lst (ks.map kV))):Sp1 H (.ref pc) (.lst (ks.map kT)) [pc]:={pc,ks.map kV,[],O,h,O,by simp,zUu ks}
noncomputable def ddT:Dd->T
 |(.tak,ks,_)=>.tup [.str (ts Wd.tak.s), .lst (ks.map kT)]
 |(w,ks,n)=>.tup [.str (ts w.s), .lst (ks.map kT),n]
def pfx(ks:List Key)(d:Dd):Dd:=(d.1,ks++d.2.1,d.2.2)
theorem zOw(ks:List Key)(k:Key)(ds:List Dd):(jB k ds).map (pfx ks)=ds.map (pfx (ks++ [k])):=by
 unfold jB;rw[pU];refine rG λd _=>?_;show(d.1,ks++k::d.2.1,d.2.2)=(d.1,ks++ [k]++d.2.1,d.2.2);rw[rY];rfl
theorem zTt{H:Hp}(z:Str):Sp1 H (.str z) (.str (ts z)) []:={O,by rw[vH]}
theorem zNc{H:Hp}{tp pc:V1}{ks:List Key}{n:T}(h:H tp=Y (.tup [.str Wd.tak.s, .ref pc]))(hp:H pc=Y (.lst (ks.map kV))):Sp1 H (.ref tp) (ddT (.tak,ks,n)) [tp,pc]:=by
 let hne:tp≠pc:=λz=>by subst z;rw[h] at hp;cases hp
 refine{tp,_,[pc],O,h,O,λz=>hne (nC.mp z),{_,_,[],[pc],O,O,zTt _,{_,_,[pc],[],O,O,zQh hp,⟨O,O⟩,λ_ _ z=>nomatch z},λ_ z=>nomatch z}}
theorem zIy{H:Hp}{tp pc:V1}{ks:List Key}{w:Wd}{n:T}{x:V}{D:List V1}(hw:w≠ .tak)(h:H tp=Y (.tup [.str w.s, .ref pc,x]))(hp:H pc=Y (.lst (ks.map kV)))(hx:Sp1 H x n D)(h1:tp∉D)(h2:pc∉D):Sp1 H (.ref tp) (ddT (w,ks,n)) (tp::pc::D):=by
 let hne:tp≠pc:=λz=>by subst z;rw[h] at hp;cases hp
 let e:ddT (w,ks,n)= .tup [.str (ts w.s), .lst (ks.map kT),n]:=by
  cases w with
  | tak=>exact absurd O hw
  | _=>rfl
 rw[e];refine{tp,_,pc::D,O,h,O,λz=>(mI.mp z).elim hne h1,{_,_,[],pc::D,O,O,zTt _,{_,_,[pc],D,O,O,zQh hp,{_,_,D,[],O,by simp,hx,⟨O,O⟩,λ_ _ z=>nomatch z},λb hb=>by rw[nC.mp hb];exact h2},λ_ z=>nomatch z}}
theorem Sps.app{H:Hp}{ys:List V}{us:List T}{D':List V1}(h':Sps H ys us D'):∀{xs:List V}{ts:List T}{D:List V1},Sps H xs ts D->(∀b∈D,b∉D')->Sps H (xs++ys) (ts++us) (D++D')
 | _,[],D,e,_=>by
  obtain⟨e1,e2⟩:=e;subst e1 e2;exact h'
 | _,t::ts,D,⟨v,r,E1,E2,h1,e,h2,h3,n⟩,hd=>by
  subst h1 e;refine{v,r++ys,E1,E2++D',O,by simp,h2,Sps.app h' h3 λb hb=>hd b (nJ _ hb),λb hb z=>?_};rcases mX.mp z with c | c
  ·exact n b hb c
  ·exact hd b (nW _ hb) c
theorem Sps.one{H:Hp}{v:V}{t:T}{D:List V1}(h:Sp1 H v t D):Sps H [v] [t] D:={v,[],D,[],O,by simp,h,⟨O,O⟩,λ_ _ z=>nomatch z}
structure DbI(t u:T)(ks:List Key):Prop where
 f1:T.few t
 f2:T.few u
 d1:T.dep t<20
 d2:T.dep u<20
 z1:T.sz t<=300
 z2:T.sz u<=300
 l:ks...*+T.dep t<=100
def DbQ(H:Hp)(pa:V1)(ks:List Key)(ds:List Dd)(Q:VK):Prop:=∀(l:V1)(ys:List V)(D:List V1)(H':Hp),Same H H'->H l=none->H' l=Y (.lst ys)->Sps H' ys ((ds.map (pfx ks)).map ddT) D->(∀b∈D,(H b=none\/b=pa)/\b≠l)->Q (.ref l) H'
theorem DbQ.go{H H1:Hp}{pa:V1}{ks:List Key}{ds:List Dd}{Q:VK}(q:DbQ H pa ks ds Q)(g:Same H H1):DbQ H1 pa ks ds Q:=λl ys D H' g' hl hl' hs hD=>q l ys D H' (g.trans g') (zR g hl) hl' hs λb hb=>{(hD b hb).1.imp (zR g) id,(hD b hb).2}
def zRv(n:Nat):Sp:=λvs H Q _=>∃(vo vn:V)(pa:V1)(t u:T)(ks:List Key),vs= [vo,vn, .ref pa]/\Rep H vo t/\Rep H vn u/\H pa=Y (.lst (ks.map kV))/\DbI t u ks/\T.dep t<n/\(dfT n t u)...*<=100000/\DbQ H pa ks (dfT n t u) Q
def yDk(n:Nat):Sp:=λvs H Q _=>∃(vo vn:V)(pa:V1)(us ws:List T)(ks:List Key),vs= [vo,vn, .ref pa]/\Rep H vo (.lst us)/\Rep H vn (.lst ws)/\H pa=Y (.lst (ks.map kV))/\DbI (.lst us) (.lst ws) ks/\T.deps us<n/\(dfR (dfT n) us ws)...*<=100000/\DbQ H pa ks (dfR (dfT n) us ws) Q
def yDc(n:Nat):Sp:=λvs H Q _=>∃(vo vn:V)(pa:V1)(hs ls:List (List Nat))(us ws:List T)(ks:List Key),vs= [vo,vn, .ref pa]/\Rep H vo (.dic hs us)/\Rep H vn (.dic ls ws)/\H pa=Y (.lst (ks.map kV))/\DbI (.dic hs us) (.dic ls ws) ks/\T.deps us<n/\(dfC (dfT n) hs us ls ws)...*<=100000/\DbQ H pa ks (dfC (dfT n) hs us ls ws) Q
theorem scDb:zY ["old","new","path"] ["old","new","path"] (zN sDb):=by walk_at "sc"
theorem ok_db{n k:Nat}(F:Fun K "deeds_between" "deeds_between" sDb f fd)(B:Bl6 mg)(Galike:Dn P w K mg base k "alike" ["one","other"] (zBk 20))(Gcopied:Dn P w K mg base k "copied" ["thing"] (zGx 20))(Gdeeds_between_rows:Dn P w K mg base k "deeds_between_rows" ["old","new","path"] (yDk n))(Gdeeds_between_records:Dn P w K mg base k "deeds_between_records" ["old","new","path"] (yDc n)):FnOk P w K mg base CX0 (k+1) f fd ["old","new","path"] (zRv (n+1)):=by
 refine F.ok scDb (λvs H Q E h=>?_) (λc A o s H vs Q E hr h=>?_)
 ·ext yM h vo vn pa t u z_
  ext oEA z_ ks r6_ _;subst r6_
  rfl
 ext yM h vo vn pa t u z_;ext qB z_ ks r6_ ho hn hp z_;ext xI z_ hi hd hlen q;subst r6_;let nd:=scDb.nd;let hu:=wR hr;refine{_,(zE (zS (yB (zP Galike hr ∅ O (zA (pv 0) (zA (pv 1) zB)))) (zG (zK (yG zB))) zL)
  (zE (zS (d9 (wE (yB (pI B.isinstance zH B.list yX (pv 0))) (wW (yB (pI B.isinstance zH B.list yX (pv 1)))))) (zG (zK (zP Gdeeds_between_rows hr ∅ O (zA (pv 0) (zA (pv 1) (zA (pv 2) zB)))))) zL)
  (zE (zS (d9 (wE (yB (pI B.isinstance zH B.dict xF (pv 0))) (wW (yB (pI B.isinstance zH B.dict xF (pv 1)))))) (zG (zK (zP Gdeeds_between_records hr ∅ O (zA (pv 0) (zA (pv 1) (zA (pv 2) zB)))))) zL)
  (zG (zK (yG (zA (wX (zA zU (zA (pv 2) (zA (zP Gcopied hr ∅ O (zA (pv 1) zB)) zB)))) zB))))))), ?_}
 walk_at "st";lk;refine{vo,vn,t,u,O,Rep.rp _ _ ho,Rep.rp _ _ hn,hi.f1,hi.f2,hi.d1,λH1 g1=>{alk t u,O, ?_}};let q1:=q.go g1;clear q;unfold dfT at q1 hlen;let ho1:=Rep.same g1 _ _ ho;let hn1:=Rep.same g1 _ _ hn;let hp1:=g1 _ _ hp
 cases hal:alk t u with
 | true=>
  rw[mO hal] at q1;exact λl hl=>q1 l [] [] _ (zD hl _) hl zC ⟨O,O⟩ (λ_ h=>nomatch h)
 | false=>
  rw[mL ∎];rw[mL (by rw[hal];decide)] at q1 hlen;let hto:=ho1.ty;let htn:=hn1.ty;let fin:DbQ H1 pa ks [(.put,[],u)] Q->zGx 20 [vn] H1 (λx H1=>∀(p:V1),H1 p=none->∀(p_1:V1),upd H1 p (HO.tup [V.str (A6 "put"),V.ref pa,x]) p_1=none->Q (V.ref p_1) (upd (upd H1 p (HO.tup [V.str (A6 "put"),V.ref pa,x])) p_1 (HO.lst [V.ref p]))) E0:=λq2=>
   {vn,u,O,hn1,jP _ u (mB _) hi.f2,hi.d2,by let:=hi.z2;lia,λx H2 D g2 sp2 hD2 p hp2 l hl=>by
    let s3:=zD hp2 (.tup [V.str (A6 "put"),V.ref pa,x]);let s4:=zD hl (.lst [V.ref p]);let hpD:p∉D:=λz=>by
     obtain⟨o,e⟩:=Sp1.there _ _ _ sp2 z;rw[hp2] at e;cases e
    let hpa:pa∉D:=λz=>by rw[hD2 pa z] at hp1;cases hp1
    let hsp:Sp1 (upd (upd H2 p (.tup [V.str (A6 "put"),V.ref pa,x])) l (.lst [V.ref p])) (.ref p) (ddT (.put,ks++ [],u)) (p::pa::D):=by
     rw[rM];exact zIy (by intro z;cases z) (s4 _ _ zC) (s4 _ _ (s3 _ _ (g2 _ _ hp1))) ((sp2.same s3).same s4) hpD hpa
    refine q2 l [.ref p] _ _ (g2.trans (s3.trans s4)) (zR (g2.trans s3) hl) zC (Sps.one hsp) λb hb=>?_;let hlo:∀o,upd H2 p (.tup [V.str (A6 "put"),V.ref pa,x]) b=Y o->b≠l:=λo e z=>by rw[z,hl] at e;cases e
    rcases mI.mp hb with z | z
    ·exact{.inl (by rw[z];exact zR g2 hp2),hlo _ (by rw[z];exact zC)}
    ·rcases mI.mp z with z | z
     ·exact{.inr z,hlo _ (by rw[z];exact s3 _ _ (g2 _ _ hp1))}
     ·obtain⟨o,e⟩:=Sp1.there _ _ _ sp2 z
      exact{.inl (hD2 b z),hlo _ (s3 _ _ e)}}
  cases t with
  | lst us=>
   refine nEA _ hto (iP (by simp only[tyT];decide+kernel) {_,htn, ?_})
   cases u with
   | lst ws=>
    let hd':T.deps us+1<n+1:=hd;exact iP (by simp only[tyT];decide+kernel) {vo,vn,pa,us,ws,ks,O,ho1,hn1,hp1,hi,∅,hlen,q1}
   | _=>exact iN (by simp only[tyT];decide+kernel) {_,hto,iN (by simp only[tyT];decide+kernel) (fin q1)}
  | dic hs us=>
   refine nEA _ hto (iN (by simp only[tyT];decide+kernel) {_,hto,iP (by simp only[tyT];decide+kernel) {_,htn, ?_}})
   cases u with
   | dic ls ws=>
    let hd':T.deps us+1<n+1:=hd;exact iP (by simp only[tyT];decide+kernel) {vo,vn,pa,hs,ls,us,ws,ks,O,ho1,hn1,hp1,hi,∅,hlen,q1}
   | _=>exact iN (by simp only[tyT];decide+kernel) (fin q1)
  | _=>exact{_,hto,iN (by simp only[tyT];decide+kernel) {_,hto,iN (by simp only[tyT];decide+kernel) (fin q1)}}
def DI(d:V1)(H:Hp)(c:List T)(H':Hp):Prop:=Same H H'/\∃(zs:List V)(D:List V1),H' d=Y (.lst zs)/\Sps H' zs c D/\∀b∈D,H b=none/\b≠d
theorem m4{d:V1}{H H2 H4:Hp}{zs ys:List V}{c c':List T}{D D':List V1}(hd:H d=none)(g:Same H H2)(h2:H2 d=Y (.lst zs))(hs:Sps H2 zs c D)(hD:∀b∈D,H b=none/\b≠d)(g4:Same H2 H4)(hs':Sps H4 ys c' D')(hD':∀b∈D',H2 b=none):DI d H (c++c') (upd H4 d (.lst (zs++ys))):=by
 let nd:∀b∈D',b≠d:=λb hb z=>by rw[z] at hb;rw[hD' d hb] at h2;cases h2
 refine{vC (g.trans g4) hd,zs++ys,D++D',zC,Sps.app (Sps.keep _ _ _ (λb hb o _ e=>by rw[zV (nd b hb)];exact e) hs') (Sps.keep _ _ _ (λb hb o _ e=>by rw[zV (hD b hb).2];exact g4 _ _ e) hs) λb hb z=>?_,λb hb=>?_}
 ·obtain⟨o,e⟩:=Sps.there _ _ _ hs hb
  rw[hD' b z] at e;cases e
 ·rcases mX.mp hb with z | z
  ·exact hD b z
  ·exact{zR g (hD' b z),nd b z}
theorem DI.one{d:V1}{H H2 H3:Hp}{zs:List V}{c:List T}{D D1:List V1}{v:V}{t:T}(hd:H d=none)(g:Same H H2)(h2:H2 d=Y (.lst zs))(hs:Sps H2 zs c D)(hD:∀b∈D,H b=none/\b≠d)(g3:Same H2 H3)(hs':Sp1 H3 v t D1)(hD':∀b∈D1,H2 b=none):DI d H (c++ [t]) (upd H3 d (.lst (zs++ [v]))):=m4 hd g h2 hs hD g3 (Sps.one hs') hD'
theorem zPu{α:Type}{F:Nat->List α}{i:Nat}:∀{j:Nat},i<=j->((List.range i).flatMap F)...*<=((List.range j).flatMap F)...*
 | 0,h=>by rw[Nat.le_zero.mp h];exact mB _
 | j+1,h=>by
  rcases Nat.lt_or_ge i (j+1) with z | z
  ·let:=zPu (F:=F) (i:=i) (j:=j) ∅
   rw[pY,sD,mK]
   lia
  ·rw[show i=j+1 by lia];exact mB _
theorem scDr:zY ["old","new","path","ahead","behind","both","deeds","place"] ["old","new","path"] (zN sDr):=by walk_at "sc"
theorem ok_dr{n k:Nat}(F:Fun K "deeds_between_rows" "deeds_between_rows" sDr f fd)(B:Bl6 mg)(Galike_ahead:Dn P w K mg base k "alike_ahead" ["one","other"] (yFd 20))(Gcopied:Dn P w K mg base k "copied" ["thing"] (zGx 20))(Gdeeds_between:Dn P w K mg base k "deeds_between" ["old","new","path"] (zRv n)):FnOk P w K mg base CX0 (k+1) f fd ["old","new","path"] (yDk n):=by
 refine F.ok scDr (λvs H Q E h=>?_) (λc A o s H vs Q E hr h=>?_)
 ·ext yM h vo vn pa us ws z_
  ext oEA z_ ks r6_ _;subst r6_
  rfl
 ext yM h vo vn pa us ws z_;ext qB z_ ks r6_ ho hn hp z_;ext xI z_ hi hd hlen q;subst r6_;let nd:=scDr.nd;let hu:=wR hr;refine{_,(zE (pS 3 nd (zP Galike_ahead hr ∅ O (zA (pv 0) (zA (pv 1) zB))))
  (zE (pS 4 nd (zP Galike_ahead hr ∅ O (zA (zGf zEk (xS vD (pv 0) (xO (pv 3)) wG) (xO (wF xM zF))) (zA (zGf zEk (xS vD (pv 1) (xO (pv 3)) wG) (xO (wF xM zF))) zB))))
  (zE (pS 5 nd (zI wP (zM (zBg O) O B.min zKd (zA (zM yI O B.len yV (zA (pv 0) zB)) (zA (zM yI O B.len yV (zA (pv 1) zB)) zB))) (pv 4)))
  (zE (pS 6 nd (yG zB))
  (zE (wU PassesOwn.never O (zIe O B.range (zA (pv 3) (zA (pv 5) zB))) (yF (i:=7) nd O (nN O)) (zG (wC (qF nQ aX aY zDk (pv 6) (zA (zP Gdeeds_between hr ∅ O (zA (yJ zW (pv 0) (pv 7) (λ_ _=>O)) (zA (yJ zW (pv 1) (pv 7) (λ_ _=>O)) (zA (zI qU (pv 2) (yG (zA (pv 7) zB))) zB)))) zB)))))
  (zE (wU PassesOwn.never O (pi_dn O B.range (zA (zI wP (zI wP (zM yI O B.len yV (zA (pv 0) zB)) (pv 4)) zF) (zA (zI wP (pv 5) zF) (zA (wF xM zF) zB)))) (yF (i:=7) nd O (nN O)) (zG (wC (qF nQ pN pV vJ (pv 6) (zA (wX (zA zU (zA (zI qU (pv 2) (yG (zA (pv 7) zB))) zB))) zB)))))
  (zE (wU PassesOwn.never O (zIe O B.range (zA (pv 5) (zA (zI wP (zM yI O B.len yV (zA (pv 1) zB)) (pv 4)) zB))) (yF (i:=7) nd O (nN O)) (zG (wC (qF nQ pN pV vJ (pv 6) (zA (wX (zA zU (zA (zI qU (pv 2) (yG (zA (pv 7) zB))) (zA (zP Gcopied hr ∅ O (zA (yJ zW (pv 1) (pv 7) (λ_ _=>O)) zB)) zB)))) zB)))))
  (zG (zK (pv 6)))))))))), ?_}
 ext yN ho a xs r2_ ha hx;subst r2_;ext yN hn b ys r2_ hb hy;subst r2_;walk_at "st";refine yEo λR hR=>?_;lk;let hxl:=hx...*;let hyl:=hy...*;let hxz:=d5 us;let hyz:=d5 ws;let z1:T.szs us+1<=300:=hi.z1;let z2:T.szs ws+1<=300:=hi.z2;let d1:T.deps us+1<20:=hi.d1;let l1:ks...*+(T.deps us+1)<=100:=hi.l;let hle:=vG us ws;let gG:=Same.refl H;refine{a,b,xs,ys,us,ws,O,ha,hb,hx,hy,hi.f1,hi.f2,∅,λH1 g1=>?_};obtain⟨h,hh⟩:∃h:Nat,ahead us ws=h:=⟨_,O⟩;rw[hh] at hle⊢;let gG1:=gG.trans g1;unfold zXb;lk;refine{a,xs,O,SqL.of (gG1 _ _ ha),λp1 hp1=>?_};rw[gO];refine{p1,_,O,SqL.of zC,λp2 hp2=>?_};let g2:=(zD hp1 (.lst (xs.drop h))).trans (zD hp2 (.lst (xs.drop h).reverse));let e2:=zC (H:=upd H1 p1 (.lst (xs.drop h))) (a:=p2) (o:=.lst (xs.drop h).reverse);generalize upd (upd H1 p1 (.lst (xs.drop h))) p2 (.lst (xs.drop h).reverse)=H2 at g2 e2⊢;let gG2:=gG1.trans g2;refine{b,ys,O,SqL.of (gG2 _ _ hb),λp3 hp3=>?_};rw[gO];refine{p3,_,O,SqL.of zC,λp4 hp4=>?_};let g3:=(zD hp3 (.lst (ys.drop h))).trans (zD hp4 (.lst (ys.drop h).reverse));let e3:=zC (H:=upd H2 p3 (.lst (ys.drop h))) (a:=p4) (o:=.lst (ys.drop h).reverse);generalize upd (upd H2 p3 (.lst (ys.drop h))) p4 (.lst (ys.drop h).reverse)=H3 at g3 e3⊢;let gG3:=gG2.trans g3;let hf1:=hi.f1;let hf2:=hi.f2;refine{p2,p4,_,_,(us.drop h).reverse,(ws.drop h).reverse,O,g3 _ _ e2,e3,Reps.reverse (Reps.drop h (Reps.same gG3 _ _ hx)),Reps.reverse (Reps.drop h (Reps.same gG3 _ _ hy)),{by rw[pK,nG];lia,zBx λt ht=>b5 hf1.2 (pO (aM.mp ht))},{by rw[pK,nG];lia,zBx λt ht=>b5 hf2.2 (pO (aM.mp ht))}, ?_,λH4 g4=>?_}
 ·exact k6 ∅ λt ht=>by
   let:=b7 (pO (aM.mp ht))
   lia
 let hbl:=vG (us.drop h).reverse (ws.drop h).reverse;rw[pK,nG,pK,nG] at hbl;obtain⟨e,he⟩:∃e:Nat,ahead (us.drop h).reverse (ws.drop h).reverse=e:=⟨_,O⟩;rw[he] at hbl⊢;let gG4:=gG3.trans g4;refine vM xs (SqL.of (gG4 _ _ ha)) ys (SqL.of (gG4 _ _ hb)) _ (wT _ ⟨O,O⟩ _ O (λd hdn=>?_));let gH4:=g1.trans (g2.trans (g3.trans g4));let hd0:=zR gH4 hdn;obtain⟨m,hm,hm1,hm2,hm3⟩:∃m:Nat,(if(ys...*:Int)<xs...* then(ys...*:Int) else xs...*)- (e:Int)=(m:Int)/\h<=m/\m+e<=xs...*/\m+e<=ys...*:={min xs...* ys...* - e,by split<;>lia,∅,∅,∅};rw[hm];subst hR
 try dsimp only
 refine kB λR hR=>?_;unfold zVz;lk;refine zPg _ _ ⟨O,O⟩ {∅,∅,∅,∅} ?_;rw[show((m:Int)- (h:Int)).toNat=m - h by lia];let s0:=zD hdn (.lst []);let hm':min us...* ws...* - e=m:=by lia
 unfold dfR at q hlen;dsimp only at q hlen;rw[hh,he,hm'] at q hlen;clear hm hm' hle hbl hh he;obtain⟨A,hA⟩:∃A:Nat->List Dd,(λj=>(List.range j).flatMap λi=>jB (.inl ((h+i:Nat):Int)) (dfT n (us.getD (h+i) .non) (ws.getD (h+i) .non)))=A:=⟨_,O⟩;obtain⟨Bt,hB⟩:∃Bt:Nat->List Dd,(λj=>(List.range j).map λi=>((.tak,[.inl ((us...* - e - 1 - i:Nat):Int)], .non):Dd))=Bt:=⟨_,O⟩;obtain⟨Ct,hC⟩:∃Ct:Nat->List Dd,(λj=>(List.range j).map λi=>((.ins,[.inl ((m+i:Nat):Int)],ws.getD (m+i) .non):Dd))=Ct:=⟨_,O⟩;let q:DbQ H pa ks (A (m - h)++Bt (us...* - e - m)++Ct (ws...* - e - m)) Q:=by rw[<-hA,<-hB,<-hC];exact q
 let lB:∀j,(Bt j)...*=j:=λj=>by rw[<-hB];show(List.map _ (List.range j))...*=j;rw[mC,sI]
 let lC:∀j,(Ct j)...*=j:=λj=>by rw[<-hC];show(List.map _ (List.range j))...*=j;rw[mC,sI]
 let lA:∀j,j<=m - h->(A j)...*<=(A (m - h))...*:=λj hj=>by rw[<-hA];exact zPu hj
 let hlen:(A (m - h))...*+(us...* - e - m)+(ws...* - e - m)<=100000:=by
  let hl0:(A (m - h)++Bt (us...* - e - m)++Ct (ws...* - e - m))...*<=100000:=by rw[<-hA,<-hB,<-hC];exact hlen
  rw[mK,mK,lB,lC] at hl0;exact hl0
 let sA:∀j,A (j+1)=A j++jB (.inl ((h+j:Nat):Int)) (dfT n (us.getD (h+j) .non) (ws.getD (h+j) .non)):=λj=>by rw[<-hA];show List.flatMap _ (List.range (j+1))=_;rw[pY,sD,sV]
 let sB:∀j,Bt (j+1)=Bt j++ [(.tak,[.inl ((us...* - e - 1 - j:Nat):Int)], .non)]:=λj=>by rw[<-hB];show List.map _ (List.range (j+1))=_;rw[pY,mN,aW]
 let sC:∀j,Ct (j+1)=Ct j++ [(.ins,[.inl ((m+j:Nat):Int)],ws.getD (m+j) .non)]:=λj=>by rw[<-hC];show List.map _ (List.range (j+1))=_;rw[pY,mN,aW]
 let z0:A 0= []/\Bt 0= []/\Ct 0= []:={by rw[<-hA];rfl,by rw[<-hB];rfl,by rw[<-hC];rfl};clear hA hB hC;let D0:DI d H (((A 0).map (pfx ks)).map ddT) (upd H4 d (.lst [])):=by
  rw[z0.1];exact{gH4.trans s0,[],[],zC,⟨O,O⟩,λ_ h=>nomatch h}
 refine qD (λi σ H'=>(∃o,σ= [Y (V.ref a),Y (V.ref b),Y (V.ref pa),Y (V.int (h:Nat)),Y (V.int (e:Nat)),Y (V.int (m:Nat)),Y (V.ref d),o])/\DI d H (((A i).map (pfx ks)).map ddT) H') {⟨_,O⟩,D0} ?_ ?_
 ·rintro i σ H5 hi5 ⟨⟨o,rfl⟩,g5,zs,D,hz1,hz2,hz3⟩
  obtain⟨x,hxi⟩:∃x,xs[h+i]? =Y x:={xs[h+i]'∅,mJ _};obtain⟨y,hyi⟩:∃y,ys[h+i]? =Y y:={ys[h+i]'∅,mJ _};refine oEA (hx.get hxi) λt ht hrt=>?_;refine oEA (hy.get hyi) λu hu' hru=>?_;let mt:=mF ht;let mu:=mF hu';let gG5:=gG.trans g5;lk;let ex:atI xs ((h:Int)+(i:Int))=Y x:=by rw[show(h:Int)+(i:Int)=((h+i:Nat):Int) by lia];exact yH hxi
  let ey:atI ys ((h:Int)+(i:Int))=Y y:=by rw[show(h:Int)+(i:Int)=((h+i:Nat):Int) by lia];exact yH hyi
  refine{.inl {O,zs,SqL.of hz1},yL (SqL.of (gG5 _ _ ha)) ex (yL (SqL.of (gG5 _ _ hb)) ey λpl hpl=>?_)};obtain⟨j,hj⟩:∃j:Int,(h:Int)+(i:Int)=j:=⟨_,O⟩;rw[hj];let s6:=zD hpl (.lst [V.int j]);refine{pa,pl,_,_,O,O,s6 _ _ (gG5 _ _ hp),zC,by rw[mC,mY,mQ];lia,λpc hpc=>?_};let s7:=s6.trans (zD hpc (.lst (ks.map kV++ [V.int j])));let e7:_=Y (HO.lst ((ks++ [(Sum.inl j:Key)]).map kV)):=(zC (H:=upd H5 pl (.lst [V.int j])) (a:=pc) (o:=.lst (ks.map kV++ [V.int j]))).trans (congrArg (λz=>Y (HO.lst z)) (zGt ks (.inl j)));generalize upd (upd H5 pl (.lst [V.int j])) pc (.lst (ks.map kV++ [V.int j]))=H7 at s7 e7⊢;let g7:=g5.trans s7;let hpc5:=zR s6 hpc;let nc:pc≠d:=λz=>by subst z;rw[hpc5] at hz1;cases hz1
  let dt:=b7 mt;let st:=c8 mt;let su:=c8 mu;let du:=b7 mu;let d2:T.deps ws+1<20:=hi.d2;let gt:us.getD (h+i) .non=t:=by rw[mZ,ht];rfl
  let gu:ws.getD (h+i) .non=u:=by rw[mZ,hu'];rfl
  let sAi:=sA i;rw[gt,gu] at sAi;let lAi:=lA (i+1) ∅;rw[sAi,mK] at lAi;let lp:(jB (.inl ((h+i:Nat):Int)) (dfT n t u))...*=(dfT n t u)...*:=mC _;let zl:=hz2...*;rw[mC,mC] at zl;refine{x,y,pc,t,u,ks++ [.inl j],O,Rep.same g7 _ _ hrt,Rep.same g7 _ _ hru,e7,{b5 hf1.2 mt,b5 hf2.2 mu,∅,∅,∅,∅,by rw[mK,mY];lia},∅,∅,λl ys' D' H8 g8 hl hl8 hs8 hD8=>?_};let l8:=hs8...*;rw[mC,mC] at l8;refine{d,l,zs,ys',O,O,g8 _ _ (s7 _ _ hz1),hl8,by rw[mQ];lia,⟨_,O⟩, ?_};rw[sAi,mN,mN,show((h+i:Nat):Int)=j by lia,zOw];exact m4 hd0 g5 hz1 hz2 hz3 (s7.trans g8) hs8 λb hb=>(hD8 b hb).1.elim (zR s7) λe=>by rw[e];exact hpc5
 ·rintro σ H5 ⟨⟨o,rfl⟩,D5⟩
  subst hR
  try dsimp only
  refine kB λR hR=>?_;unfold iDn;lk;let gG5:=gG.trans D5.1;refine zWv xs (SqL.of (gG5 _ _ ha)) _ _ ⟨O,O⟩ (zLo ∅ ∅ ∅ ?_);rw[show((xs...*:Int)- (e:Int)- 1 - ((m:Int)- 1)).toNat=xs...* - e - m by lia];refine zHl (λi σ H'=>(∃o,σ= [Y (V.ref a),Y (V.ref b),Y (V.ref pa),Y (V.int (h:Nat)),Y (V.int (e:Nat)),Y (V.int (m:Nat)),Y (V.ref d),o])/\DI d H (((A (m - h)++Bt i).map (pfx ks)).map ddT) H') {⟨_,O⟩,by rw[z0.2.1,rM];exact D5} ?_ ?_
  ·skip
   rintro i σ H5 hi5 ⟨⟨o,rfl⟩,g5,zs,D,hz1,hz2,hz3⟩;let gG5:=gG.trans g5;lk;refine{.inl {O,zs,SqL.of hz1},λpl hpl=>?_};obtain⟨j,hj⟩:∃j:Int,(xs...*:Int)- (e:Int)- 1 - (i:Int)=j:=⟨_,O⟩;rw[hj];let s6:=zD hpl (.lst [V.int j]);refine{pa,pl,_,_,O,O,s6 _ _ (gG5 _ _ hp),zC,by rw[mC,mY,mQ];lia,λpc hpc tp htp=>?_};let s7:=s6.trans (zD hpc (.lst (ks.map kV++ [V.int j])));let e7:_=Y (HO.lst ((ks++ [(Sum.inl j:Key)]).map kV)):=(zC (H:=upd H5 pl (.lst [V.int j])) (a:=pc) (o:=.lst (ks.map kV++ [V.int j]))).trans (congrArg (λz=>Y (HO.lst z)) (zGt ks (.inl j)));generalize upd (upd H5 pl (.lst [V.int j])) pc (.lst (ks.map kV++ [V.int j]))=H7 at s7 e7 htp⊢;let s8:=zD htp (.tup [V.str (A6 "take"),V.ref pc]);let zl:=hz2...*;rw[mC,mC] at zl;refine{d,zs,_,O,O,s8 _ _ (s7 _ _ hz1),by rw[mQ];simp only[mK,lB,lC] at zl;lia,⟨_,O⟩, ?_};rw[sB i,<-rY,mN,mN];let ej:((us...* - e - 1 - i:Nat):Int)=j:=by lia
   rw[ej];let hsp:Sp1 (upd H7 tp (.tup [V.str (A6 "take"),V.ref pc])) (.ref tp) (ddT (pfx ks (.tak,[.inl j], .non))) [tp,pc]:=zNc (ks:=ks++ [(Sum.inl j:Key)]) (n:=.non) (H:=upd H7 tp (.tup [V.str (A6 "take"),V.ref pc])) zC (s8 _ _ e7);refine DI.one hd0 g5 hz1 hz2 hz3 (s7.trans s8) hsp λb hb=>?_;rcases mI.mp hb with z | z
   ·rw[z];exact zR s7 htp
   ·rw[nC.mp z];exact zR s6 hpc
  ·skip
   rintro σ H5 ⟨⟨o,rfl⟩,D5⟩;subst hR
   try dsimp only
   refine kB λR hR=>?_;unfold zVz;lk;let gG5:=gG.trans D5.1;refine zWv ys (SqL.of (gG5 _ _ hb)) _ _ ⟨O,O⟩ (nA {∅,∅,∅,∅} ?_);rw[show((ys...*:Int)- (e:Int)- (m:Int)).toNat=ys...* - e - m by lia];refine qD (λi σ H'=>(∃o,σ= [Y (V.ref a),Y (V.ref b),Y (V.ref pa),Y (V.int (h:Nat)),Y (V.int (e:Nat)),Y (V.int (m:Nat)),Y (V.ref d),o])/\DI d H (((A (m - h)++Bt (us...* - e - m)++Ct i).map (pfx ks)).map ddT) H') {⟨_,O⟩,by rw[z0.2.2,rM,<-hxl];exact D5} ?_ ?_
   ·skip
    rintro i σ H5 hi5 ⟨⟨o,rfl⟩,g5,zs,D,hz1,hz2,hz3⟩;let gG5:=gG.trans g5;obtain⟨y,hyi⟩:∃y,ys[m+i]? =Y y:={ys[m+i]'∅,mJ _};refine oEA (hy.get hyi) λu hu' hru=>?_;let mu:=mF hu';let ey:atI ys ((m:Int)+(i:Int))=Y y:=by rw[show(m:Int)+(i:Int)=((m+i:Nat):Int) by lia];exact yH hyi
    lk;obtain⟨j,hj⟩:∃j:Int,(m:Int)+(i:Int)=j:=⟨_,O⟩;rw[hj] at ey⊢;refine{.inl {O,zs,SqL.of hz1},λpl hpl=>?_};let s6:=zD hpl (.lst [V.int j]);refine{pa,pl,_,_,O,O,s6 _ _ (gG5 _ _ hp),zC,by rw[mC,mY,mQ];lia,λpc hpc=>?_};let s7:=s6.trans (zD hpc (.lst (ks.map kV++ [V.int j])));let e7:_=Y (HO.lst ((ks++ [(Sum.inl j:Key)]).map kV)):=(zC (H:=upd H5 pl (.lst [V.int j])) (a:=pc) (o:=.lst (ks.map kV++ [V.int j]))).trans (congrArg (λz=>Y (HO.lst z)) (zGt ks (.inl j)));generalize upd (upd H5 pl (.lst [V.int j])) pc (.lst (ks.map kV++ [V.int j]))=H7 at s7 e7⊢;let gG7:=gG5.trans s7;let su:=c8 mu;let du:=b7 mu;let d2:T.deps ws+1<20:=hi.d2;refine yL (SqL.of (gG7 _ _ hb)) ey {y,u,O,Rep.same gG7 _ _ hru,jP _ u (mB _) (b5 hf2.2 mu),∅,∅,λx' H8 D8 g8 sp8 hD8 tp htp=>?_};let s9:=zD htp (.tup [V.str (A6 "insert"),V.ref pc,x']);let s8:=g8.trans s9;let zl:=hz2...*;rw[mC,mC] at zl;refine{d,zs,_,O,O,s8 _ _ (s7 _ _ hz1),by rw[mQ];simp only[mK,lB,lC] at zl;lia,⟨_,O⟩, ?_};let gu:ws.getD (m+i) .non=u:=by rw[mZ,hu'];rfl
    rw[sC i,gu,<-rY,mN,mN];let ej:((m+i:Nat):Int)=j:=by lia
    rw[ej];let hp8:pc∉D8:=λz=>by rw[hD8 pc z] at e7;cases e7
    let ht8:tp∉D8:=λz=>by
     obtain⟨o',e'⟩:=Sp1.there _ _ _ sp8 z;rw[htp] at e';cases e'
    let hsp:Sp1 (upd H8 tp (.tup [V.str (A6 "insert"),V.ref pc,x'])) (.ref tp) (ddT (pfx ks (.ins,[.inl j],u))) (tp::pc::D8):=zIy (w:=.ins) (ks:=ks++ [(Sum.inl j:Key)]) (H:=upd H8 tp (.tup [V.str (A6 "insert"),V.ref pc,x'])) (by intro z;cases z) zC (s8 _ _ e7) (sp8.same s9) ht8 hp8;refine DI.one hd0 g5 hz1 hz2 hz3 (s7.trans s8) hsp λb hb=>?_;rcases mI.mp hb with z | z
    ·rw[z];exact zR (s7.trans g8) htp
    ·rcases mI.mp z with z | z
     ·rw[z];exact zR s6 hpc
     ·exact zR s7 (hD8 b z)
   ·skip
    rintro σ H5 ⟨⟨o,rfl⟩,g5,zs,D,hz1,hz2,hz3⟩;subst hR
    try dsimp only
    lk;rw[<-hyl] at q;exact q d zs D _ g5 hd0 hz1 (by rw[hyl] at*;exact hz2) λb hb=>{.inl (hz3 b hb).1,(hz3 b hb).2}
abbrev sDc:V6:=top 24
theorem fl_le{α β:Type}{F:α->List β}{L:List α}{i:Nat}:((L.take i).flatMap F)...*<=(L.flatMap F)...*:=by
 let e:L.flatMap F=(L.take i).flatMap F++(L.drop i).flatMap F:=by rw[<-sD,rK]
 rw[e,mK]
 lia
theorem zYm{α β:Type}{F:α->List β}{L:List α}{i:Nat}{x:α}(h:L[i]? =Y x):(L.take (i+1)).flatMap F=(L.take i).flatMap F++F x:=by
 rw[yK h,sD,sV]
theorem scDc:zY ["old","new","path","deeds","name"] ["old","new","path"] (zN sDc):=by walk_at "sc"
theorem ok_dc{n k:Nat}(F:Fun K "deeds_between_records" "deeds_between_records" sDc f fd)(B:Bl6 mg)(Gcopied:Dn P w K mg base k "copied" ["thing"] (zGx 20))(Gdeeds_between:Dn P w K mg base k "deeds_between" ["old","new","path"] (zRv n)):FnOk P w K mg base CX0 (k+1) f fd ["old","new","path"] (yDc n):=by
 refine F.ok scDc (λvs H Q E h=>?_) (λc A o s H vs Q E hr h=>?_)
 ·ext yM h vo vn pa hs ls z_
  ext vZ z_ us ws ks r8_ _;subst r8_
  rfl
 ext yM h vo vn pa hs ls z_;ext yC z_ us ws ks r8_ ho z_;ext yR z_ hn hp hi hd hlen q;subst r8_;let gG:=Same.refl H;let nd:=scDc.nd;let hu:=wR hr;refine{_,(zE (kF (i:=3) nd O (nN O) (own:=["name"]) (F:=[("path",2),("new",1)]) {O,tb_g%,tb_g%,tb_g%,(.cons O O O (.cons O O O .nil))} O (xN (zM (wB O) O B.sorted vY (zA (pv 0) zB))) (λ_ _ _ _=>yF (i:=0) (by show(xX ["name"] [("path",2),("new",1)]).Nodup;decide+kernel) O (nN O)) (λ_ _ _ _=>(zPn (uD (zRr hu (pv 0) (pv 2))))) (λ_ _ _ _=>(wX (zA zU (zA (zI qU (pv 1) (yG (zA (pv 0) zB))) zB)))))
  (zE (wU PassesOwn.never O (xN (zM (wB O) O B.sorted vY (zA (pv 1) zB))) (yF (i:=4) nd O (nN O)) (zG (zS (uD (zFo hu (pv 4) (pv 0))) (zG (wC (qF nQ aX aY zDk (pv 3) (zA (zP Gdeeds_between hr ∅ O (zA (wN hu (pv 0) (pv 4) (λ_ _=>O)) (zA (wN hu (pv 1) (pv 4) (λ_ _=>O)) (zA (zI qU (pv 2) (yG (zA (pv 4) zB))) zB)))) zB)))) (zG (wC (qF nQ pN pV vJ (pv 3) (zA (wX (zA zU (zA (zI qU (pv 2) (yG (zA (pv 4) zB))) (zA (zP Gcopied hr ∅ O (zA (wN hu (pv 1) (pv 4) (λ_ _=>O)) zB)) zB)))) zB)))))))
  (zG (zK (pv 3))))), ?_}
 ext yA ho a ps r2_ ha hka hx;subst r2_;ext yA hn b qs r2_ hb hkb hy;subst r2_;walk_at "st";lk;let hxz:=d5 us;let hyz:=d5 ws;let z1:T.szs us+1<=300:=hi.z1;let z2:T.szs ws+1<=300:=hi.z2;let d1:T.deps us+1<20:=hi.d1;let l1:ks...*+(T.deps us+1)<=100:=hi.l;refine xI (hi.f1) λnh fh eh fu=>?_;refine xI (hi.f2) λnl fl el fw=>?_;unfold dfC at q hlen;obtain⟨tk,htk⟩:∃tk:List Nat->Dd,(λk=>((.tak,[nK k], .non):Dd))=tk:=⟨_,O⟩;obtain⟨pt,hpt⟩:∃pt:List Nat->List Dd,(λk=>if k∈hs then jB (nK k) (dfT n (zJ k hs us) (zJ k ls ws)) else[((.put,[nK k],zJ k ls ws):Dd)])=pt:=⟨_,O⟩;obtain⟨Fl,hFl⟩:∃Fl:List (List Nat),(yQ hs).filter (λk=>!decide (k∈ls))=Fl:=⟨_,O⟩;let q:DbQ H pa ks (Fl.map tk++(yQ ls).flatMap pt) Q:=by rw[<-hFl,<-htk,<-hpt];exact q
 let hlen:Fl...*+((yQ ls).flatMap pt)...*<=100000:=by
  let:(Fl.map tk++(yQ ls).flatMap pt)...*<=100000:=by rw[<-hFl,<-htk,<-hpt];exact hlen
  rwa [mK,mC] at this
 let ptk:∀k,k∈hs->pt k=jB (nK k) (dfT n (zJ k hs us) (zJ k ls ws)):=λk hk=>by rw[<-hpt];exact mO hk
 let ptn:∀k,k∉hs->pt k= [(.put,[nK k],zJ k ls ws)]:=λk hk=>by rw[<-hpt];exact mL hk
 let tkk:∀k,tk k=(.tak,[nK k], .non):=λk=>by rw[<-htk]
 clear hpt htk;refine kZ ps (.inl (gG _ _ ha)) (hs.map tx) (by rw[hka,pU];rfl) (by rw[mC];exact fh) (λl1' ss hl1 hp1 hs1=>{{_,SqL.of zC}, ?_});let g1:=zD hl1 (.lst (ss.map V.str));let e1:=zC (H:=H) (a:=l1') (o:=.lst (ss.map V.str));generalize upd H l1' (.lst (ss.map V.str))=H1 at g1 e1⊢;let hsl:=hp1.length_eq;rw[mC] at hsl;let hss:=vV hp1 hs1;let hsk:(yQ hs)...*=hs...*:=(yT hs).length_eq;refine xT (K:=K) (xs:=ss.map V.str) (λi zs H'=>Same H1 H'/\∃D,Sps H' zs (((((yQ hs).take i).filter λk=>!decide (k∈ls)).map tk).map (pfx ks)|>.map ddT) D/\∀b∈D,H b=none) (by rw[mC,mQ];lia) {Same.refl _,[],⟨O,O⟩,λ_ h=>nomatch h} (λi zs H' _ h=>SqL.of (h.1 _ _ e1)) ?_ ?_
 ·rintro i v zs H2 hv _ ⟨g2,D,hz,hD⟩
  rw[hss,mW,mW] at hv;refine oEA (pJ.mp hv) λst hst r2_=>?_;subst r2_;refine oEA (pJ.mp hst) λk hki r2_=>?_;subst r2_;let hkm:=mem_sortK.mp (mF hki);let gH2:=g1.trans g2;let gG2:=gH2;lk;unfold zOp;lk;rw[yK hki,List.filter_append]
  by_cases hkl:k∈ls
  ·refine oEA (zBh nl hkb hy hb hkl) λv hv1 _=>?_
   refine wT _ (hv1 _ gG2) false O (iN ∎ {g2,D, ?_,hD});rw[aH,dD,nH hkl]
   simpa using hz
  refine wT _ (uX hkb (gG2 _ _ hb) hkl) true O (iP O λpl hpl=>?_);let s6:=zD hpl (.lst [V.str (tx k)]);refine{pa,pl,_,_,O,O,s6 _ _ (gG2 _ _ hp),zC,by rw[mC,mY,mQ];lia,λpc hpc tp htp=>?_};let s7:=s6.trans (zD hpc (.lst (ks.map kV++ [V.str (tx k)])));let e7:_=Y (HO.lst ((ks++ [nK k]).map kV)):=(zC (H:=upd H2 pl (.lst [V.str (tx k)])) (a:=pc) (o:=.lst (ks.map kV++ [V.str (tx k)]))).trans (congrArg (λz=>Y (HO.lst z)) (zGt ks (nK k)));generalize upd (upd H2 pl (.lst [V.str (tx k)])) pc (.lst (ks.map kV++ [V.str (tx k)]))=H7 at s7 e7 htp⊢;let s8:=zD htp (.tup [V.str (A6 "take"),V.ref pc]);let hsp:Sp1 (upd H7 tp (.tup [V.str (A6 "take"),V.ref pc])) (.ref tp) (ddT (pfx ks (.tak,[nK k], .non))) [tp,pc]:=zNc (ks:=ks++ [nK k]) (n:=.non) (H:=upd H7 tp (.tup [V.str (A6 "take"),V.ref pc])) zC (s8 _ _ e7);refine zHa (g2.trans (s7.trans s8)) (D++ [tp,pc]) ?_ (λb hb=>?_)
  ·rw[aH,dD,nL hkl]
   simp only[Bool.not_false,bW,mN,mV,rB,tkk];refine Sps.snoc hsp (hz.same (s7.trans s8)) λb hb z=>?_;obtain⟨o,ho⟩:=Sps.there _ _ _ hz hb;rcases mI.mp z with z | z
   ·rw[z,zR s7 htp] at ho;cases ho
   ·rw[nC.mp z,zR s6 hpc] at ho;cases ho
  ·rcases mX.mp hb with z | z
   ·exact hD b z
   ·rcases mI.mp z with z | z
    ·rw[z];exact zR (gH2.trans s7) htp
    ·rw[nC.mp z];exact zR (gH2.trans s6) hpc
 ·rintro zs H2 _ ⟨g2,D,hz,hD⟩ d hdn
  rw[hss,mC,mC,pA,hFl] at hz;let gH2:=g1.trans g2;let hd0:=zR gH2 hdn;let s3:=zD hdn (.lst zs);let e3:=zC (H:=H2) (a:=d) (o:=.lst zs);let D3:DI d H (((Fl.map tk).map (pfx ks)).map ddT) (upd H2 d (.lst zs)):={gH2.trans s3,zs,D,zC,hz.same s3,λb hb=>{hD b hb,λz=>by
   obtain⟨o,ho⟩:=Sps.there _ _ _ hz hb;rw[z,hdn] at ho;cases ho}}
  generalize upd H2 d (.lst zs)=H3 at D3⊢;let gG3:=D3.1;refine kZ qs (.inl (gG3 _ _ hb)) (ls.map tx) (by rw[hkb,pU];rfl) (by rw[mC];exact fl) (λl2 rs hl2 hp2 hs2=>{{_,SqL.of zC}, ?_});let g4:=zD hl2 (.lst (rs.map V.str));let e4:=zC (H:=H3) (a:=l2) (o:=.lst (rs.map V.str));let hrs:=vV hp2 hs2;let D4:DI d H (((Fl.map tk++((yQ ls).take 0).flatMap pt).map (pfx ks)).map ddT) (upd H3 l2 (.lst (rs.map V.str))):=by
   rw[cA,List.flatMap_nil,rM];obtain⟨g,zs',D',h1,h2,h3⟩:=D3;exact{g.trans g4,zs',D',g4 _ _ h1,h2.same g4,h3}
  let n2:l2≠d:=λz=>by
   obtain⟨g,zs',D',h1,h2,h3⟩:=D3;subst z;rw[hl2] at h1;cases h1
  generalize upd H3 l2 (.lst (rs.map V.str))=H4 at D4 e4⊢;refine jI (K:=K) (a:=l2) (xs:=rs.map V.str) (λi σ H'=>(∃o,σ= [Y (V.ref a),Y (V.ref b),Y (V.ref pa),Y (V.ref d),o])/\H' l2=Y (.lst (rs.map V.str))/\DI d H (((Fl.map tk++((yQ ls).take i).flatMap pt).map (pfx ks)).map ddT) H') {⟨_,O⟩,e4,D4} (λi σ H' _ h=>SqL.of h.2.1) ?_ ?_
  ·rintro i v σ H5 hv ⟨⟨o,rfl⟩,e5,g5,zs',D',hz1,hz2,hz3⟩
   rw[hrs,mW,mW] at hv;refine oEA (pJ.mp hv) λst hst r2_=>?_;subst r2_;refine oEA (pJ.mp hst) λk hki r2_=>?_;subst r2_;let hkm:=mem_sortK.mp (mF hki);let gG5:=g5;refine oEA (zBh nl hkb hy hb hkm) λy hy1 hy2=>?_;let mu:=yO hkm el;let su:=c8 mu;let du:=b7 mu;let d2:T.deps ws+1<20:=hi.d2;let zl:=hz2...*;rw[mC,mC,mK,mC] at zl;let lle:=fl_le (F:=pt) (L:=yQ ls) (i:=i+1);let fs:=zYm (F:=pt) hki;rw[fs,mK] at lle;rw[fs,<-rY];unfold zQw zCa;lk
   by_cases hkh:k∈hs
   ·refine oEA (zBh nh hka hx ha hkh) λx hx1 hx2=>?_
    let mt:=yO hkh eh;let dt:=b7 mt;let sz:=c8 mt;rw[ptk k hkh] at lle⊢;let lp:(jB (nK k) (dfT n (zJ k hs us) (zJ k ls ws)))...*=(dfT n (zJ k hs us) (zJ k ls ws))...*:=mC _;refine nEA _ (hx1 _ gG5) (iP O {.inl {O,zs',SqL.of hz1}, ?_});refine wT x (hx1 _ gG5) y (hy1 _ gG5) (λpl hpl=>?_);let s6:=zD hpl (.lst [V.str (tx k)]);refine{pa,pl,_,_,O,O,s6 _ _ (gG5 _ _ hp),zC,by rw[mC,mY,mQ];lia,λpc hpc=>?_};let s7:=s6.trans (zD hpc (.lst (ks.map kV++ [V.str (tx k)])));let e7:_=Y (HO.lst ((ks++ [nK k]).map kV)):=(zC (H:=upd H5 pl (.lst [V.str (tx k)])) (a:=pc) (o:=.lst (ks.map kV++ [V.str (tx k)]))).trans (congrArg (λz=>Y (HO.lst z)) (zGt ks (nK k)));generalize upd (upd H5 pl (.lst [V.str (tx k)])) pc (.lst (ks.map kV++ [V.str (tx k)]))=H7 at s7 e7⊢;let g7:=g5.trans s7;let hpc5:=zR s6 hpc;refine{x,y,pc,_,_,ks++ [nK k],O,Rep.same g7 _ _ hx2,Rep.same g7 _ _ hy2,e7,{b5 fu mt,b5 fw mu,∅,∅,∅,∅,by rw[mK,mY];lia},∅,∅,λl ys' D8 H8 g8 hl hl8 hs8 hD8=>?_};let l8:=hs8...*;rw[mC,mC] at l8;refine{d,l,zs',ys',O,O,g8 _ _ (s7 _ _ hz1),hl8,by rw[mQ];lia,⟨_,O⟩,by rw[zV n2];exact g8 _ _ (s7 _ _ e5), ?_};rw[mN,mN,zOw];exact m4 hd0 g5 hz1 hz2 hz3 (s7.trans g8) hs8 λb hb=>(hD8 b hb).1.elim (zR s7) λe=>by rw[e];exact hpc5
   ·rw[ptn k hkh] at lle⊢
    refine nEA _ (uX hka (gG5 _ _ ha) hkh) (iN ∎ {.inl {O,zs',SqL.of hz1}, ?_});refine λpl hpl=>?_;let s6:=zD hpl (.lst [V.str (tx k)]);refine{pa,pl,_,_,O,O,s6 _ _ (gG5 _ _ hp),zC,by rw[mC,mY,mQ];lia,λpc hpc=>?_};let s7:=s6.trans (zD hpc (.lst (ks.map kV++ [V.str (tx k)])));let e7:_=Y (HO.lst ((ks++ [nK k]).map kV)):=(zC (H:=upd H5 pl (.lst [V.str (tx k)])) (a:=pc) (o:=.lst (ks.map kV++ [V.str (tx k)]))).trans (congrArg (λz=>Y (HO.lst z)) (zGt ks (nK k)));generalize upd (upd H5 pl (.lst [V.str (tx k)])) pc (.lst (ks.map kV++ [V.str (tx k)]))=H7 at s7 e7⊢;let gG7:=gG5.trans s7;refine{y,hy1 _ gG7,y,_,O,Rep.same gG7 _ _ hy2,jP _ _ (mB _) (b5 fw mu),∅,∅,λx' H8 D8 g8 sp8 hD8 tp htp=>?_};let s9:=zD htp (.tup [V.str (A6 "put"),V.ref pc,x']);let s8:=g8.trans s9;simp only[mY] at lle;refine{d,zs',_,O,O,s8 _ _ (s7 _ _ hz1),by rw[mQ];lia,⟨_,O⟩,by rw[zV n2];exact s8 _ _ (s7 _ _ e5), ?_};let hp8:pc∉D8:=λz=>by rw[hD8 pc z] at e7;cases e7
    let ht8:tp∉D8:=λz=>by
     obtain⟨o',e'⟩:=Sp1.there _ _ _ sp8 z;rw[htp] at e';cases e'
    let hsp:Sp1 (upd H8 tp (.tup [V.str (A6 "put"),V.ref pc,x'])) (.ref tp) (ddT (pfx ks (.put,[nK k],zJ k ls ws))) (tp::pc::D8):=zIy (w:=.put) (ks:=ks++ [nK k]) (H:=upd H8 tp (.tup [V.str (A6 "put"),V.ref pc,x'])) (by intro z;cases z) zC (s8 _ _ e7) (sp8.same s9) ht8 hp8;rw[mN,mN];refine DI.one hd0 g5 hz1 hz2 hz3 (s7.trans s8) hsp λb hb=>?_;rcases mI.mp hb with z | z
    ·rw[z];exact zR (s7.trans g8) htp
    ·rcases mI.mp z with z | z
     ·rw[z];exact zR s6 hpc
     ·exact zR s7 (hD8 b z)
  ·rintro σ H5 ⟨⟨o,rfl⟩,e5,g5,zs',D',hz1,hz2,hz3⟩
   rw[show(rs.map V.str)...*=(yQ ls)...* by rw[hrs,mC,mC],pA] at hz2;lk;exact q d zs' D' _ g5 hd0 hz1 hz2 λb hb=>{.inl (hz3 b hb).1,(hz3 b hb).2}
theorem zUn{f1 f2 f3:V1}{fd1 fd2 fd3:V7}{j:Nat}(F1:Fun K "deeds_between" "deeds_between" sDb f1 fd1)(F2:Fun K "deeds_between_rows" "deeds_between_rows" sDr f2 fd2)(F3:Fun K "deeds_between_records" "deeds_between_records" sDc f3 fd3)(B:Bl6 mg)
  (Ga:∀k,j<=k->Dn P w K mg base k "alike" ["one","other"] (zBk 20)) (Gh:∀k,j<=k->Dn P w K mg base k "alike_ahead" ["one","other"] (yFd 20)) (Gc:∀k,j<=k->Dn P w K mg base k "copied" ["thing"] (zGx 20))
  (b1:Binds K fd1 ["old","new","path"] []) (k1:A8 K (.ref f1)=true) (m1:mg "deeds_between" =Y (.ref f1))
  (b2:Binds K fd2 ["old","new","path"] []) (k2:A8 K (.ref f2)=true) (m2:mg "deeds_between_rows" =Y (.ref f2))
  (b3:Binds K fd3 ["old","new","path"] []) (k3:A8 K (.ref f3)=true) (m3:mg "deeds_between_records" =Y (.ref f3)):∀n:Nat,FnOk P w K mg base CX0 (j+2+2*n) f1 fd1 ["old","new","path"] (zRv n)
 | 0=>by
  refine F1.ok scDb (λvs H Q E h=>?_) (λc A o s H vs Q E hr h=>?_)
  ·ext yM h vo vn pa t u z_
   ext oEA z_ ks r6_ _;subst r6_
   rfl
  ·ext yM h vo vn pa t u z_
   ext qB z_ ks r6_ ho hn hp z_;ext xI z_ hi hd hlen q;subst r6_;exact absurd hd (pM _)
 | n+1=>by
  let D1:Dn P w K mg base (j+2+2*n) "deeds_between" ["old","new","path"] (zRv n):={_,_,zUn F1 F2 F3 B Ga Gh Gc b1 k1 m1 b2 k2 m2 b3 k3 m3 n,b1,k1,m1};let D2:Dn P w K mg base (j+2+2*n+1) "deeds_between_rows" ["old","new","path"] (yDk n):={_,_,ok_dr F2 B (Gh _ ∅) (Gc _ ∅) D1,b2,k2,m2};let D3:Dn P w K mg base (j+2+2*n+1) "deeds_between_records" ["old","new","path"] (yDc n):={_,_,ok_dc F3 B (Gc _ ∅) D1,b3,k3,m3};exact ok_db (k:=j+2+2*n+1) F1 B (Ga _ ∅) (Gc _ ∅) D2 D3
end
noncomputable def digZ(n:Nat):List Nat:=(Nat.toDigits 10 n).map Char.toNat
theorem zXg(n:Nat):∀c∈digZ n,48<=c/\c<=57:=by
 intro c hc;obtain⟨ch,hch,e⟩:=nB.mp hc;let h:=Nat.isDigit_of_mem_toDigits ∎ ∎ hch;unfold Char.isDigit at h;simp only[nU,nV] at h;rw[<-e];exact⟨h.1,h.2⟩
theorem zYs(i:Int):∀c∈ts (A6 (toString i)),c∈uU:=by
 let nat:∀n:Nat,∀c∈ts (A6 (toString ((n:Nat):Int))),c∈uU:=λn c hc=>by
  let e:ts (A6 (toString ((n:Nat):Int)))=digZ n:=W.KIN.signs_num n;rw[e] at hc;let:=zXg n c hc;let key:∀x:Fin 58,48<=x.val->x.val∈uU:=by decide+kernel
  exact key {c,∅} this.1
 by_cases h:i<0
 ·rw[zWd,mO h,mO h,show -i=((i.natAbs:Nat):Int) by lia]
  intro c hc;let hc':c∈ts (tx (List.replicate (1:Int).toNat 45))++ts (A6 (toString ((i.natAbs:Nat):Int))):=by
   rw[<-yFi];exact hc
  rcases mX.mp hc' with z | z
  ·rw[wI] at z
   let:c=45:=by simpa using z
   rw[this];decide+kernel
  ·exact nat _ c z
 ·rw[show i=((i.natAbs:Nat):Int) by lia]
  exact nat _
mutual
def T.gk:T->Prop
 | .int i=>-(10 ^ 12)<=i/\i<=10 ^ 12
 | .str x=>x...*<=30/\∀c∈x,c∈uU
 | .lst ts=>j6 ts
 | .dic ks ts=>(∀k∈ks,yY k=true)/\j6 ts
 | .tup _=>False
 | .non=>True
 | .bl _=>True
def j6:List T->Prop
 | []=>True
 | t::ts=>T.gk t/\j6 ts
end
theorem b9{t:T}:∀{ts:List T},j6 ts->t∈ts->T.gk t
 | [],_,h=>nomatch h
 | u::ts,h,hm=>(mI.mp hm).elim (λe=>e▸h.1) (b9 h.2)
theorem i4{ts:List T}(h:∀t∈ts,T.gk t):j6 ts:=by
 induction ts with
 | nil=>exact mH
 | cons t ts ih=>exact{h t mG,ih λu hu=>h u (mE _ hu)}
structure Fig(d z:Nat)(t:T):Prop where
 few:T.few t
 gk:T.gk t
 dep:T.dep t<=d
 sz:T.sz t<=z
theorem Fig.mono{d z d' z':Nat}{t:T}(h:Fig d z t)(hd:d<=d')(hz:z<=z'):Fig d' z' t:={h.few,h.gk,nS h.dep hd,nS h.sz hz}
theorem Fig.row{d z:Nat}{us:List T}(h:∀u∈us,T.few u/\T.gk u/\T.dep u+1<=d)(hd:1<=d)(hz:T.szs us+1<=z)(hl:T.szs us<=100000):Fig d z (.lst us):=by
 refine{{nS (zCt us) hl,zBx λu hu=>(h u hu).1},i4 λu hu=>(h u hu).2.1, ?_,hz};let:T.deps us<=d - 1:=d7 λu hu=>by let:=(h u hu).2.2;lia
 show T.deps us+1<=d
 lia
theorem k9{d z:Nat}{ks:List (List Nat)}{us:List T}(sk:∀k∈ks,yY k=true)(nk:ks.Nodup)(hk:ks...*<64)(hl:ks...*=us...*)(h:∀u∈us,T.few u/\T.gk u/\T.dep u+1<=d)(hd:1<=d)(hz:T.szs us+1<=z):Fig d z (.dic ks us):=by
 refine{{nk,hk,hl,zBx λu hu=>(h u hu).1},{sk,i4 λu hu=>(h u hu).2.1}, ?_,hz};let:T.deps us<=d - 1:=d7 λu hu=>by let:=(h u hu).2.2;lia
 show T.deps us+1<=d
 lia
theorem zFi{us:List T}(hf:i3 us)(hc:j6 us):∀u∈us,T.few u/\T.gk u/\T.dep u+1<=T.deps us+1:=λu hu=>{b5 hf hu,b9 hc hu,nY (b7 hu)}
theorem gK:∀(d:Nat)(t:T),d<=4->Nice d t->Fig d (uS d) t
 | d, .non,_,_=>{mH,mH,mT _,zBf d}
 | d, .bl _,_,_=>{mH,mH,mT _,zBf d}
 | d, .int _,_,h=>{mH,h,mT _,zBf d}
 | d, .str x,_,h=>by
  let h':zDp x=true:=h;unfold zDp at h';simp only[nU,nV,pT] at h';exact{mH,h',mT _,zBf d}
 | 0, .lst ts,_,h=>absurd h.1 ∎
 | d+1, .lst ts,hd,h=>by
  obtain⟨_,hl,hN⟩:=h;let k:∀t∈ts,Fig d (uS d) t:=λt ht=>gK d t ∅ (NiceL_iff.mp hN t ht);let z:=zCy λt ht=>(k t ht).sz;let z2:ts...**uS d<=4*uS d:=aJ _ hl;let z3:=zWu d ∅;refine Fig.row (λu hu=>{(k u hu).few,(k u hu).gk,nY (k u hu).dep}) (nY (mT _)) ?_ ∅;show _<=4*uS d+1
  lia
 | 0, .dic ks ts,_,h=>absurd h.1 ∎
 | d+1, .dic ks ts,hd,h=>by
  ext yR h _ hl hkl nk ho hN;let k:∀t∈ts,Fig d (uS d) t:=λt ht=>gK d t ∅ (NiceL_iff.mp hN t ht);let z:=zCy λt ht=>(k t ht).sz;let z2:ts...**uS d<=4*uS d:=aJ _ hl;refine k9 ho nk ∅ hkl (λu hu=>{(k u hu).few,(k u hu).gk,nY (k u hu).dep}) (nY (mT _)) ?_;show _<=4*uS d+1
  lia
 | d, .tup ts,_,h=>by cases d<;>exact h.elim
theorem zXl{qs:List (Key×V)}{ks' ks2:List (List Nat)}{key:List Nat}{v:V}(hqk:qs.map (·.1)=ks'.map nK)(e1:(wQ qs (nK key) v).map (·.1)=ks2.map nK)(h:∀k∈ks',yY k=true)(hk:yY key=true):∀k∈ks2,yY k=true:=by
 intro k hm;let:nK k∈(wQ qs (nK key) v).map (·.1):=by rw[e1];exact nB.mpr ⟨k,hm,O⟩
 let pm:∀x,x∈(wQ qs (nK key) v).map (·.1)->x=nK key\/x∈qs.map (·.1):=λx h=>by
  unfold wQ at h;split at h
  ·rw[pU] at h
   obtain⟨y,hy,e⟩:=nB.mp h;refine .inr (nB.mpr {y,hy, ?_});simp only[Function.comp_apply] at e;split at e<;>exact e
  ·rw[mN] at h
   rcases mX.mp h with z | z
   ·exact .inr z
   ·exact .inl (by simpa using z)
 rcases pm _ this with z | z
 ·rw[jX z];exact hk
 ·rw[hqk] at z
  obtain⟨y,hy,e⟩:=nB.mp z;rw[<-jX e];exact h y hy
theorem zAi:∀k∈([]:List (List Nat)),yY k=true:=λ_ h=>nomatch h
theorem zTl:∀k∈ [ts (A6 "a")],yY k=true:=by decide+kernel
abbrev zSu:V6:=top 80
section
variable{P:V3}{w:V4}{K:A7}{mg:Str->Option V0}{base:V5}{f:V1}{fd:V7}
theorem zIt{b:Int}(h1: -(10 ^ 12)<=b)(h2:b<=10 ^ 12):b.natAbs.log2<1920:=by
 by_cases h:b.natAbs=0
 ·rw[h];decide
 ·refine(Nat.log2_lt h).mpr (Nat.lt_of_le_of_lt (show b.natAbs<=10 ^ 12 by lia) (nR (show 10 ^ 12<2 ^ 40 by decide) (Nat.pow_le_pow_right ∎ ∎)))
theorem zSd{b:Int}(h1: -(10 ^ 12)<=b)(h2:b<=10 ^ 12):(A6 (toString b))...*<=V9:=int_text_fits (zIt h1 h2)
def zMy:Sp:=λvs H Q _=>∃(v:V)(m:Int)(t:T),vs= [v, .int m]/\Rep H v t/\T.gk t/\T.few t/\0<=m/\∀v' H' t',Same H H'->Rep H' v' t'->Fig (T.dep t+1) 3 t'->Q v' H'
theorem scLeaf:zY ["_law_thing","_law_more"] ["_law_thing","_law_more"] (zN zSu):=by walk_at "sc"
theorem zZn(F:Fun K "_law_leaf_other" "_law_leaf_other" zSu f fd)(B:Bl mg):FnOk P w K mg base CX0 1 f fd ["_law_thing","_law_more"] zMy:=by
 refine F.ok scLeaf (λvs H Q E h=>?_) (λc A o s H vs Q E hr h=>?_)
 ·ext vZ h v m t r3_ _
  subst r3_
  rfl
 ext yC h v m t r3_ hv z_;ext xI z_ hc hf hm q;subst r3_;let nd:=scLeaf.nd;let hu:=wR hr;refine{_,(zE (zS (uD (zJi (pv 0))) (zG (zK (yJ zW (yG (zA wZ (zA zF (zA zU (zA (yG zB) (zA jR zB)))))) (zI yD (pv 1) zF) (λ_ _=>O)))) zL)
  (zE (zS (yB (pI B.isinstance zH B.bool zKe (pv 0))) (zG (zK (yJ zW (yG (zA (yP zHb O B.int vL (zA (pv 0) zB)) (zA (yEa (pv 0)) (zA jD (zA (yG (zA (pv 0) zB)) zB))))) (zI yD (pv 1) zF) (λ_ _=>O)))) zL)
  (zE (zS (yB (pI B.isinstance zH B.int vL (pv 0))) (zG (zK (yJ zW (yG (zA (yW xG (pv 0) zF (zO _)) (zA (zI wP (zI xH (pv 0) zF) (zI jV zF (yP wD O B.int vL (zA (yW qS (pv 0) zF (zO _)) zB)))) (zA (xS zMv (yP zCk O B.str qZ (zA (pv 0) zB)) wG (xO zF)) (zA (yG (zA (pv 0) zB)) zB))))) (zI yD (pv 1) zF) (λ_ _=>O)))) zL)
  (zE (zS (yB (pI B.isinstance zH B.str qZ (pv 0))) (zG (zK (yJ zW (yG (zA (xS zMv (pv 0) (xO zF) wG) (zA (xS zMv (zI qJ (pv 0) zU) wG (xO zF)) (zA (zGf yCc (pv 0) (xO (wF xM zF))) (zA jD zB))))) (zI yD (pv 1) zF) (λ_ _=>O)))) zL)
  (zE (zS (yB (pI B.isinstance zH B.list yX (pv 0))) (zG (zK (yJ zW (yG (zA jR (zA (yG (zA jD zB)) (zA (yG (zA (yG zB) zB)) (zA zU zB))))) (zI yD (pv 1) zF) (λ_ _=>O)))) zL)
  (zG (zK (yJ zW (yG (zA (yG zB) (zA (zJt (gS zU jD zIq) (by rfl) (by rfl) (rN _ _) ∎) (zA (zJt (gS zU jR zIq) (by rfl) (by rfl) (rN _ _) ∎) (zA jD zB))))) (zI yD (pv 1) zF) (λ_ _=>O))))))))), ?_}
 walk_at "st";lk
 cases t with
 | non=>
  cases (show v=_ from hv);refine iP O λp1 hp1 p2 hp2 p3 hp3=>vR zC ∅ (by simp only[nI,pP];lia) λx hx=>?_;let g:=(zD hp1 (.lst [])).trans ((zD hp2 (.dK [])).trans (zD hp3 (.lst [V.bl false,V.int 0,V.str (A6 ""),V.ref p1,V.ref p2])));simp only[mI,pE,rL] at hx;rcases hx with rfl | rfl | rfl | rfl | rfl
  ·exact q _ _ (.bl false) g O {mH,mH,mT _,by decide}
  ·exact q _ _ (.int 0) g O {mH,{by decide,by decide},mT _,by decide}
  ·exact q _ _ (.str []) g O {mH,{mT _,λ_ h=>nomatch h},mT _,by decide}
  ·exact q _ _ (.lst []) g {p1,[],O,(zD hp2 _).trans (zD hp3 _) _ _ zC,O} {{by simp,mH},mH,mB _,by decide}
  ·exact q _ _ (.dic [] []) g {p2,[],O,zD hp3 _ _ _ zC,O,O} {{tG,by decide,O,mH},⟨zAi,mH⟩,mB _,by decide}
 | bl b=>
  cases (show v=_ from hv);refine iN (by simp) {_,hv.ty,iP (by simp[tyT,zT]) (.inr {b,O,b,O,λp1 hp1 p2 hp2=>vR zC ∅ (by simp only[nI,pP];lia) λx hx=>?_})};let g:=(zD hp1 (.lst [V.bl b])).trans (zD hp2 (.lst [V.int (if b=true then 1 else 0),V.bl !b,V.non,V.ref p1]));simp only[mI,pE,rL] at hx;rcases hx with rfl | rfl | rfl | rfl
  ·exact q _ _ (.int (if b=true then 1 else 0)) g O {mH,by cases b<;>exact{by decide,by decide},mT _,nT O}
  ·exact q _ _ (.bl (!b)) g O {mH,mH,mT _,nT O}
  ·exact q _ _ .non g O {mH,mH,mT _,nT O}
  ·exact q _ _ (.lst [.bl b]) g {p1,_,O,zD hp2 _ _ _ zC,_,_,O,O,O} {{by simp,mH,mH},⟨mH,mH⟩,mB _,nT O}
 | int b=>
  cases (show v=_ from hv);obtain⟨c1,c2⟩:=hc;refine iN (by simp) {_,hv.ty,iN (by simp[tyT,zT]) {_,hv.ty,iP (by simp[tyT,zT]) {O,b,O,b,O,b,O, ?_,_,O, ?_,λp1 hp1 p2 hp2=>vR zC ∅ (by simp only[nI,pP];lia) λx hx=>?_}}}
  ·exact zIt c1 c2
  ·exact zSd c1 c2
  let e30:Txt.slice (A6 (toString b)) none ↥30=tx ((ts (A6 (toString b))).take 30):=zMa _ 30;rw[e30] at hx⊢;let g:=(zD hp1 (.lst [V.int b])).trans (zD hp2 (.lst [V.bl (decide (V.int b=V.int 1)),V.int (b+1 - 2*if 0<b then 1 else 0),V.str (tx ((ts (A6 (toString b))).take 30)),V.ref p1]));simp only[mI,pE,rL] at hx;rcases hx with rfl | rfl | rfl | rfl
  ·exact q _ _ (.bl _) g O {mH,mH,mT _,nT O}
  ·exact q _ _ (.int _) g O {mH,{by split<;>lia,by split<;>lia},mT _,nT O}
  ·exact q _ _ (.str _) g O {mH,{List.length_take_le _ _,λc hc=>zYs b c (pC hc)},mT _,nT O}
  ·exact q _ _ (.lst [.int b]) g {p1,_,O,zD hp2 _ _ _ zC,_,_,O,O,O} {{by simp,mH,mH},{⟨c1,c2⟩,mH},mB _,nT O}
 | str b=>
  cases (show v=_ from hv);let hc':b...*<=30:=hc.1;let eap:tx b++A6 " " =tx (b++ [32]):=(show tx b++tx [32]=_ from zAm b [32]);refine iN (by simp) {_,hv.ty,iN (by simp[tyT,zT]) {_,hv.ty,iN (by simp[tyT,zT]) {_,hv.ty,iP (by simp[tyT,zT]) {_,O, ?_,_,O, ?_,_,O, ?_, ?_}}}}
  ·rw[mQ,qC];lia
  ·show(tx b)...*+_<=_
   rw[qC];show b...*+1<=_
   lia
  ·rw[mQ,eap,qC,mK]
   show b...*+1<=_
   lia
  ·unfold zXb
   lk;let e1:Txt.slice (tx b) ↥1 none=tx (b.drop 1):=zNh (tx b) 1;let e2:Txt.slice (tx b++A6 " ") none ↥30=tx ((b++ [32]).take 30):=by rw[eap];exact zMa (tx (b++ [32])) 30
   rw[e1,e2];refine{_,O,by rw[mQ,qC];lia,λp1 hp1=>vR zC ∅ (by simp only[nI,pP];lia) λx hx=>?_};let g:=zD hp1 (.lst [V.str (tx (b.drop 1)),V.str (tx ((b++ [32]).take 30)),V.str (tx (ts (tx b)).reverse),V.non]);simp only[mI,pE,rL] at hx;rcases hx with rfl | rfl | rfl | rfl
   ·exact q _ _ (.str _) g O {mH,{by rw[nG];lia,λc h=>hc.2 c (pO h)},mT _,nT O}
   ·exact q _ _ (.str _) g O {mH,{List.length_take_le _ _,λc h=>(mX.mp (pC h)).elim (hc.2 c) λz=>by rw[nC.mp z];decide+kernel},mT _,nT O}
   ·exact q _ _ (.str _) g O {mH,{by rw[pK];exact hc',λc h=>hc.2 c (by rw[wI] at h;exact aM.mp h)},mT _,nT O}
   ·exact q _ _ .non g O {mH,mH,mT _,nT O}
 | lst us=>
  let hty:=hv.ty;refine iN (by obtain⟨a,xs,rfl,_⟩:=hv;simp) {_,hty,iN (by simp[tyT,zT]) {_,hty,iN (by simp[tyT,zT]) {_,hty,iN (by simp[tyT,zT]) {_,hty,iP (by simp[tyT,zT]) λp1 hp1 p2 hp2 p3 hp3 p4 hp4 p5 hp5=>vR zC ∅ (by simp only[nI,pP];lia) λx hx=>?_}}}};let g5:=zD hp5 (.lst [V.ref p1,V.ref p2,V.ref p4,V.str (A6 "")]);let g4:=(zD hp4 (.lst [V.ref p3])).trans g5;let g3:=(zD hp3 (.lst [])).trans g4;let g2:=(zD hp2 (.lst [V.non])).trans g3;let g:=(zD hp1 (.dK [])).trans g2;simp only[mI,pE,rL] at hx;let h1:(1:Nat)<=T.dep (.lst us)+1:=nY (mT _);let h2:(2:Nat)<=T.dep (.lst us)+1:=nY (nY (mT _));rcases hx with rfl | rfl | rfl | rfl
  ·exact q _ _ (.dic [] []) g {p1,[],O,g2 _ _ zC,O,O} {{tG,by decide,O,mH},⟨zAi,mH⟩,h1,nT O}
  ·exact q _ _ (.lst [.non]) g {p2,_,O,g3 _ _ zC,_,_,O,O,O} {{by simp,mH,mH},⟨mH,mH⟩,h1,nT O}
  ·exact q _ _ (.lst [.lst []]) g {p4,_,O,g5 _ _ zC,_,_,O,{p3,[],O,g4 _ _ zC,O},O} {{by simp,{by simp,mH},mH},⟨mH,mH⟩,h2,nT O}
  ·exact q _ _ (.str []) g O {mH,{mT _,λ_ h=>nomatch h},mT _,nT O}
 | dic ks us=>
  let hty:=hv.ty;refine iN (by obtain⟨a,xs,rfl,_⟩:=hv;simp) {_,hty,iN (by simp[tyT,zT]) {_,hty,iN (by simp[tyT,zT]) {_,hty,iN (by simp[tyT,zT]) {_,hty,iN (by simp[tyT,zT]) λp1 hp1 p2 hp2=>{zC,[(Sum.inr "a", .non)],O,by decide,λp3 hp3 p4 hp4=>{?_,[(Sum.inr "a", .ref p4)],O,by simp,λp5 hp5=>vR zC ∅ (by simp only[nI,pP];lia) λx hx=>?_}}}}}}
  ·rw[zV (yZ zC hp4)];exact zC
  rw[show qK [] [(Sum.inr (A6 "a"),V.non)]= [(Sum.inr (A6 "a"),V.non)] from O] at*;rw[show qK [] [(Sum.inr (A6 "a"),V.ref p4)]= [(Sum.inr (A6 "a"),V.ref p4)] from O] at*;let gA:=zD hp1 (.lst []);let hA1:upd H p1 (.lst []) p1=Y (.lst []):=zC;generalize upd H p1 (.lst [])=A1 at*;let gB:Same A1 (upd (upd A1 p2 (.dK [])) p2 (.dK [(Sum.inr (A6 "a"),V.non)])):=(zD hp2 _).put hp2 _;let hB2:upd (upd A1 p2 (.dK [])) p2 (.dK [(Sum.inr (A6 "a"),V.non)]) p2=Y (.dK [(Sum.inr (A6 "a"),V.non)]):=zC;generalize upd (upd A1 p2 (.dK [])) p2 (.dK [(Sum.inr (A6 "a"),V.non)])=B1 at*;let gC:Same B1 (upd (upd (upd B1 p3 (.dK [])) p4 (.dK [])) p3 (.dK [(Sum.inr (A6 "a"),V.ref p4)])):=((zD hp3 _).trans (zD hp4 _)).put hp3 _;let hC3:upd (upd (upd B1 p3 (.dK [])) p4 (.dK [])) p3 (.dK [(Sum.inr (A6 "a"),V.ref p4)]) p3=Y (.dK [(Sum.inr (A6 "a"),V.ref p4)]):=zC;let hC4:upd (upd (upd B1 p3 (.dK [])) p4 (.dK [])) p3 (.dK [(Sum.inr (A6 "a"),V.ref p4)]) p4=Y (.dK []):=by rw[zV (yZ zC hp4).symm];exact zC
  generalize upd (upd (upd B1 p3 (.dK [])) p4 (.dK [])) p3 (.dK [(Sum.inr (A6 "a"),V.ref p4)])=C1 at*;let gD:=zD hp5 (.lst [V.ref p1,V.ref p2,V.ref p3,V.non]);let g:=gA.trans (gB.trans (gC.trans gD));simp only[mI,pE,rL] at hx;let h1:(1:Nat)<=T.dep (.dic ks us)+1:=nY (mT _);let h2:(2:Nat)<=T.dep (.dic ks us)+1:=nY (nY (mT _));let ea:(Sum.inr (A6 "a"):Key)=Sum.inr (tx (ts (A6 "a"))):=by rw[vH]
  rcases hx with rfl | rfl | rfl | rfl
  ·exact q _ _ (.lst []) g {p1,[],O,(gB.trans (gC.trans gD)) _ _ hA1,O} {{by simp,mH},mH,h1,nT O}
  ·exact q _ _ (.dic [ts (A6 "a")] [.non]) g {p2,_,O,(gC.trans gD) _ _ hB2,by rw[mV,rB,mV,rB,<-ea],_,_,O,O,O} {{by simp,by simp,O,mH,mH},⟨zTl,mH,mH⟩,h1,nT O}
  ·exact q _ _ (.dic [ts (A6 "a")] [.dic [] []]) g {p3,_,O,gD _ _ hC3,by rw[mV,rB,mV,rB,<-ea],_,_,O,{p4,[],O,gD _ _ hC4,O,O},O} {{by simp,by simp,O,{tG,by decide,O,mH},mH},{zTl,⟨zAi,mH⟩,mH},h2,nT O}
  ·exact q _ _ .non g O {mH,mH,mT _,nT O}
 | tup us=>exact hf.elim
abbrev zTz:V6:=top 81
theorem gT{a b:List T}(h:a.Perm b):T.szs a=T.szs b:=by
 induction h with
 | nil=>rfl
 | cons x _ ih=>show T.sz x+_=T.sz x+_;rw[ih]
 | swap x y l=>show T.sz y+(T.sz x+_)=T.sz x+(T.sz y+_);lia
 | trans _ _ h1 h2=>exact h1.trans h2
theorem kK:∀{ks:List (List Nat)}{us:List T},ks.Nodup->ks...*=us...*->T.szs (ks.map λk=>zJ k ks us)=T.szs us
 | [],[],_,_=>rfl
 | [],_::_,_,h=>by simp at h
 | _::_,[],_,h=>by simp at h
 | k::ks,u::us,nd,hl=>by
  rw[nZ] at nd;rw[mV];show T.sz (if k=k then u else _)+T.szs _=T.sz u+T.szs us;let e:(ks.map λk'=>zJ k' (k::ks) (u::us))=ks.map λk'=>zJ k' ks us:=rG λk' hk'=>by
   show(if k=k' then u else zJ k' ks us)=_;rw[mL fun(e:k=k')=>nd.1 (e▸hk')]
  rw[mO O,e,kK nd.2 (by simpa using hl)]
theorem zDz(a:List T):T.szs a.reverse=T.szs a:=gT (List.reverse_perm a)
theorem jS(a:List T)(i:Nat):T.szs (a.take i)<=T.szs a:=by
 let:=szs_append (a.take i) (a.drop i);rw[rK] at this
 lia
theorem zAl(a:List T)(i:Nat):T.szs (a.drop i)<=T.szs a:=by
 let:=szs_append (a.take i) (a.drop i);rw[rK] at this
 lia
def zMg(n:Nat):Sp:=λvs H Q _=>∃(v:V)(m:Int)(nm:List Nat)(t:T),vs= [v, .int m, .str (tx nm)]/\Rep H v t/\T.few t/\T.gk t/\T.dep t<n/\n<=20/\T.sz t<=8000/\0<=m/\yY nm=true/\∀v' H' t',Same H H'->Rep H' v' t'->Fig (T.dep t+1) (3*T.sz t) t'->Q v' H'
theorem scVar:zY ["_law_thing","_law_more","_law_names","_law_at","_law_some","_law_result","_law_name"] ["_law_thing","_law_more","_law_names"] (zN zTz):=by walk_at "sc"
theorem zZk{n:Nat}(F:Fun K "_law_varied" "_law_varied" zTz f fd)(B:Bl2 mg)(G_law_leaf_other:Dn P w K mg base 1 "_law_leaf_other" ["_law_thing","_law_more"] zMy)(G_law_held:Dn P w K mg base (1+20) "_law_held" ["_law_thing"] (zCx 20))
  (G_law_varied:Dn P w K mg base (21+n) "_law_varied" ["_law_thing","_law_more","_law_names"] (zMg n)):FnOk P w K mg base CX0 (21+n+1) f fd ["_law_thing","_law_more","_law_names"] (zMg (n+1)):=by
 refine F.ok scVar (λvs H Q E h=>?_) (λc A o s H vs Q E hr h=>?_)
 ·ext yS h v m nm t r4_ _
  subst r4_
  rfl
 ext yS h v m nm t r4_ z_;ext yR z_ hv hf hc hd hn z_;ext xI z_ hz hm hnm q;subst r4_;let nd:=scVar.nd;let hu:=wR hr;let hu0:=hr.units0;refine{_,(zE (qX (zS (d9 (wE (yB (pI B.isinstance zH B.list yX (pv 0))) (wE (zQ (zPi hu0) (pv 0) (yG zB) (zO _)) (wW (zQ qS (zI yD (pv 1) zF) zF (zO _)))))) (zE (pS 3 nd (zI yD (zI yE (pv 1) zF) (zM yI O B.len yV (zA (pv 0) zB))))
  (zG (zK (zI qU (zI qU (xS vD (pv 0) wG (xO (pv 3))) (yG (zA (zP G_law_varied hr ∅ O (zA (yJ zW (pv 0) (pv 3) (λ_ _=>O)) (zA (zI yE (pv 1) zF) (zA (pv 2) zB)))) zB))) (xS vD (pv 0) (xO (zI xH (pv 3) zF)) wG))))) zL))
  (zE (qX (zS (d9 (wE (yB (pI B.isinstance zH B.dict xF (pv 0))) (wE (zQ (zPw hu0) (pv 0) jR (zO _)) (wW (zQ qS (zI yD (pv 1) zF) zF (zO _)))))) (zE (pS 4 nd (zM (wB O) O B.sorted vY (zA (pv 0) zB)))
  (zE (qX (zS (zQ xG (zI yD (zI yE (pv 1) zF) zF) zF (zO _)) (zG (pS 4 nd (zGf zEk (pv 4) (xO (wF xM zF))))) zL))
  (zE (pS 3 nd (yJ zW (pv 4) (zI yD (zI yE (pv 1) zF) (zM yI O B.len yV (zA (pv 4) zB))) (λ_ _=>O)))
  (zE (pS 5 nd jR)
  (zE (wU PassesOwn.never O (xN (pv 4)) (yF (i:=6) nd O (nN O)) (zG (zS (zQ zAj (pv 6) (pv 3) (zO _)) (zG (kE hu (pv 5) (pv 6) (zAy (zP G_law_held hr ∅ O (zA (wN hu (pv 0) (pv 6) (λ_ _=>O)) zB))) O)) (zG (zS (zQ xG (zI yD (zI yE (pv 1) zF) zF) zF (zO _)) (zG (kE hu (pv 5) (pv 2) (zAy (zP G_law_held hr ∅ O (zA (wN hu (pv 0) (pv 6) (λ_ _=>O)) zB))) O)) (zG (kE hu (pv 5) (pv 6) (zAy (zP G_law_varied hr ∅ O (zA (wN hu (pv 0) (pv 6) (λ_ _=>O)) (zA (zI yE (pv 1) zF) (zA (pv 2) zB))))) O)))))))
  (zG (zK (pv 5)))))))) zL))
  (zE (qX (zS (d9 (wE (yB (pI B.isinstance zH B.list yX (pv 0))) (wW (zQ (zPi hu0) (pv 0) (yG zB) (zO _))))) (zG (zK (yJ zW (yG (zA (xS vD (pv 0) (xO zF) wG) (zA (xS vD (pv 0) wG (xO (wF xM zF))) (zA (zI qU (pv 0) (yG (zA (yJ zW (pv 0) zF (λ_ _=>O)) zB))) (zA (zGf zEk (pv 0) (xO (wF xM zF))) zB))))) (zI yD (zI yE (pv 1) zF) zF) (λ_ _=>O)))) zL))
  (zE (qX (zS (d9 (wE (yB (pI B.isinstance zH B.dict xF (pv 0))) (wW (zQ (zPw hu0) (pv 0) jR (zO _))))) (zG (zK (yP (zAn O) O B.dict xF (zA (xW (own:=["_law_name"]) (F:=[("_law_thing",0)]) {O,tb_g%,tb_g%,tb_g%,(.cons O O O .nil)} O (xN (xS vD (zM (wB O) O B.sorted vY (zA (pv 0) zB)) (xO zF) wG)) (λ_ _ _ _=>yF (i:=0) (by show(xX ["_law_name"] [("_law_thing",0)]).Nodup;decide+kernel) O (nN O)) (λ_ _ _ _=>xJ) (λ_ _ _ _=>(wX (zA (pv 0) (zA (wN hu (pv 1) (pv 0) (λ_ _=>O)) zB))))) zB)))) zL))
  (zG (zK (zP G_law_leaf_other hr ∅ O (zA (pv 0) (zA (zI yE (pv 1) zF) zB))))))))), ?_}
 walk_at "st";refine kB λR hR=>?_;lk;unfold zCd;lk;let hty:=hv.ty;refine nEA (λσ' H'=>σ'= [Y v,Y (.int m),Y (.str (tx nm)),none,none,none,none]/\Same H H') ?_ ?_
 ·cases t with
  | lst us=>
   refine nEA _ hty (iP (by simp[tyT,zT]) λp hp=>?_);let hv0:=hv;ext yN hv a xs r2_ ha hx;subst r2_;let hxl:=hx...*;let g1:=zD hp (.lst []);refine{a,p,xs,O,O,SqL.of (g1 _ _ ha),SqL.of zC,_,O, ?_}
   by_cases hemp:xs.isEmpty=true
   ·exact iN (by simp[hemp]) ⟨O,g1⟩
   refine iP (by simp[hemp]) ?_
   by_cases h7:0<m % 7
   ·refine iP h7 {a,O,xs,SqL.of (g1 _ _ ha), ?_, ?_}
    ·let:xs≠ []:=λz=>hemp (by rw[z];rfl)
     let:=rZ.mpr this
     lia
    let hpos:0<xs...*:=rZ.mpr λz=>hemp (by rw[z];rfl);obtain⟨i,hi,hil⟩:∃i:Nat,m / 7 % (xs...*:Int)=i/\i<xs...*:=by
     let h1:=rE (m / 7) (show(xs...*:Int)≠0 by lia);let h2:=rF (m / 7) (show(0:Int)<xs...* by lia);exact nEA ((m / 7 % (xs...*:Int)).toNat) ∅ ∅
    rw[hi];refine oEA (hx.get (i:=i) (v:=xs[i]) (by simp[hil])) λt1 ht1 hr1=>?_;let hm1:=mF ht1;let hd1:=b7 hm1;let hdl:T.deps us+1<n+1:=hd;let hzl:T.szs us+1<=8000:=hz;let hsp:=zSf ht1;refine{a,xs,O,SqL.of (g1 _ _ ha),λp2 hp2=>?_};rw[zMt];let g2:=g1.trans (zD hp2 (.lst (xs.take i)));let hP2:upd (upd H p (.lst [])) p2 (.lst (xs.take i)) p2=Y (.lst (xs.take i)):=zC;generalize upd (upd H p (.lst [])) p2 (.lst (xs.take i))=H2 at*;refine yL (SqL.of (g2 _ _ ha)) (yH (v:=xs[i]) (by simp[hil])) {_,_,nm,t1,O,Rep.same g2 _ _ hr1,b5 hf.2 hm1,b9 hc hm1,∅,∅,∅,∅,hnm,λv' H3 t' g3 hv' ft p3 hp3=>?_};let g3':=g3.trans (zD hp3 (.lst [v']));let hv3:=Rep.same (zD hp3 (.lst [v'])) _ _ hv';let hP3:upd H3 p3 (.lst [v']) p3=Y (.lst [v']):=zC;generalize upd H3 p3 (.lst [v'])=H4 at*;let hl1:(xs.take i)...*=i:=by rw[pH];lia
    refine{p2,p3,_,_,O,O,g3' _ _ hP2,hP3,by rw[mQ,hl1,mY];let:=zCt us;lia,λp4 hp4=>?_};let g4:=zD hp4 (.lst (xs.take i++ [v']));let hP4:upd H4 p4 (.lst (xs.take i++ [v'])) p4=Y (.lst (xs.take i++ [v'])):=zC;generalize upd H4 p4 (.lst (xs.take i++ [v']))=H5 at*;let gH5:=g2.trans (g3'.trans g4);refine{a,xs,O,SqL.of (gH5 _ _ ha),λp5 hp5=>?_};rw[show((i:Int)+1)=((i+1:Nat):Int) by lia,gO];let g5:=zD hp5 (.lst (xs.drop (i+1)));let hP5:upd H5 p5 (.lst (xs.drop (i+1))) p5=Y (.lst (xs.drop (i+1))):=zC;generalize upd H5 p5 (.lst (xs.drop (i+1)))=H6 at*;refine{p4,p5,_,_,O,O,g5 _ _ hP4,hP5, ?_,λp6 hp6=>?_}
    ·rw[mQ,mK,hl1,mY,nG]
     let:=zCt us
     lia
    let g6:=zD hp6 (.lst (xs.take i++ [v']++xs.drop (i+1)));refine q _ _ (.lst (us.take i++ [t']++us.drop (i+1))) (gH5.trans (g5.trans g6)) {p6,_,O,zC, ?_} ?_
    ·refine Reps.append (Reps.same (gH5.trans (g5.trans g6)) _ _ (Reps.drop (i+1) hx)) (Reps.snoc (Rep.same (g4.trans (g5.trans g6)) _ _ hv3) (Reps.same (gH5.trans (g5.trans g6)) _ _ (Reps.take i hx)))
    ·let kf:=zFi hf.2 hc
     let hdt:=ft.dep;let hzt:=ft.sz;let hsz:T.szs (us.take i++ [t']++us.drop (i+1))=T.szs (us.take i)+T.sz t'+T.szs (us.drop (i+1)):=by rw[szs_append,gZ]
     let hzq:T.sz (.lst us)=T.szs us+1:=rfl;refine Fig.row (λu hu=>?_) (nY (mT _)) ∅ ∅;rcases mX.mp hu with z | z
     ·rcases mX.mp z with z | z
      ·let:=kf u (pC z)
       exact nAA this.1 this.2.1 (rQ this.2.2)
      ·rw[nC] at z
       subst z;refine nAA ft.few ft.gk ?_;show T.dep u+1<=T.deps us+1+1
       lia
     ·let:=kf u (pO z)
      exact nAA this.1 this.2.1 (rQ this.2.2)
   ·exact iN h7 ⟨O,g1⟩
  | _=>exact{_,hty,iN (by simp[tyT,zT]) {O,Same.refl _}}
 ·rintro σ' H1 ⟨rfl,g1⟩
  subst hR;refine kB λR hR=>?_;lk;unfold zCd;lk;let hty1:=jN g1 hty;refine nEA (λσ' H'=>σ'= [Y v,Y (.int m),Y (.str (tx nm)),none,none,none,none]/\Same H H') ?_ ?_
  ·cases t with
   | dic ks us=>
    refine nEA _ hty1 (iP (by simp[tyT,zT]) λp hp=>?_);ext yA hv a ps r2_ ha hk hx;subst r2_;let g2:=g1.trans (zD hp (.dK []));let hpe:upd H1 p (.dK []) p=Y (.dK []):=zC;generalize upd H1 p (.dK [])=H2 at*;refine{a,p,ps,O,O,g2 _ _ ha,hpe,_,O, ?_}
    by_cases hemp:ps.isEmpty=true
    ·exact iN (by simp[hemp]) ⟨O,g2⟩
    refine iP (by simp[hemp]) ?_
    by_cases h7:0<m % 7
    ·refine iP h7 ?_
     ext xI hf nk h64 hle hfk;refine vM a O ps (.inl (g2 _ _ ha)) (ks.map tx) (nAA (by rw[hk,pU];rfl) (by rw[mC];exact h64) (λl ss hl hp1 hs1=>?_));let es:=vV hp1 hs1;let emap:ss.map V.str=(yQ ks).map λk=>V.str (tx k):=by rw[es,pU];rfl
     rw[emap];let g3:=g2.trans (zD hl (.lst ((yQ ks).map λk=>V.str (tx k))));let hl3:upd H2 l (.lst ((yQ ks).map λk=>V.str (tx k))) l=Y (.lst ((yQ ks).map λk=>V.str (tx k))):=zC;generalize upd H2 l (.lst ((yQ ks).map λk=>V.str (tx k)))=H3 at*;refine{λσ' H'=>∃(l:V1)(ns:List (List Nat)),σ'= [Y (.ref a),Y (.int m),Y (.str (tx nm)),none,Y (.ref l),none,none]/\H' l=Y (.lst (ns.map λk=>V.str (tx k)))/\ns.Perm ks/\Same H H', ?_, ?_}
     ·by_cases h5:m / 5 % 2=1
      ·refine iP h5 ?_
       unfold zXb;lk;refine{l,_,O,SqL.of hl3,λl2 hl2=>{l2,O,(yQ ks).reverse, ?_,(List.reverse_perm _).trans (yT ks),g3.trans (zD hl2 _)}};rw[zC,List.map_reverse]
      ·exact iN h5 {l,yQ ks,O,hl3,yT ks,g3}
     intro σ' H4 z_;ext yA z_ l4 ns r2_ hl4 hpm g4;subst r2_;lk;let hnl:ns...*=ks...*:=hpm.length_eq;let hkl:ps...*=ks...*:=by let:=congrArg List.length hk;simpa using this
     let hpos:0<ps...*:=rZ.mpr λz=>hemp (by rw[z];rfl);refine zCr _ (SqL.of hl4) (by rw[mC];lia) ?_;obtain⟨x,hx1,hxm⟩:=uF (xs:=ns.map λk=>V.str (tx k)) (i:=m / 7 % ((ns.map λk=>V.str (tx k))...*:Int)) (rE _ (by rw[mC];lia)) (rF _ (by rw[mC];lia));refine oEA (nB.mp hxm) λkat hkat r2_=>?_;subst r2_;refine yL (SqL.of hl4) hx1 λpr hpr=>?_;let hl5:=zD hpr (.dK []) _ _ hl4;let hne:l4≠pr:=yZ hl4 hpr;refine{{_,SqL.of hl5},jI (K:=K) (a:=l4) (xs:=ns.map λk=>V.str (tx k)) (λi σ' H'=>∃o6,σ'= [Y (.ref a),Y (.int m),Y (.str (tx nm)),Y (.str (tx kat)),Y (.ref l4),Y (.ref pr),o6]/\Same H4 (vN H' pr)/\∃(qs:List (Key×V))(ks':List (List Nat))(us':List T),H' pr=Y (.dK qs)/\qs.map (·.1)=ks'.map nK/\Reps (vN H' pr) (qs.map (·.2)) us'/\ks'.Nodup/\(∀k∈ks',yY k=true)/\ks'...*<=i/\(∀u∈us',T.few u/\T.gk u/\T.dep u+1<=T.deps us+1+1)/\T.szs us'<=3*T.szs ((ns.take i).map λk=>zJ k ks us)) ?_ ?_ ?_ ?_}
     ·exact zOk _ O (by rw[kL,zUw hpr];exact Same.refl _) ([]) ([]) (zUt ([]) zC O O tG (zLo zAi (mB _) (λu hu=>(nomatch hu)) (mT _)))
     ·intro i σ' H' _ z_
      ext xD z_ o6 r1_ gh _;subst r1_;exact SqL.of (wK _ _ (gh _ _ hl4))
     ·rintro i y σ' H' hy ⟨o6,rfl,gh,qs,ks',us',hq,hqk,hqr,hqn,hqs,hql,hqf,hqz⟩
      unfold zGq zMd;lk;rw[mW] at hy
      cases hki:ns[i]? with
      | none=>rw[hki] at hy;cases hy
      | some k=>
       rw[hki] at hy;let ey:V.str (tx k)=y:=mM hy;subst ey;let hmk:k∈ks:=hpm.mem_iff.mp (mF hki);let hmu:=yO hmk hle;let hdu:=b7 hmu;let hzu:=c8 hmu;let hdl:T.deps us+1<n+1:=hd;let hzl:T.szs us+1<=8000:=hz;let hapr:a≠pr:=yZ (g4 _ _ ha) hpr;let G:∀w:HO,Same H (upd H' pr w):=λw=>g4.trans (gh.trans zAf);let fin:∀(o:Obj)(key:List Nat)(v':V)(Hc:Hp)(t'':T),yY key=true->Same (upd H' pr (.frz o (.dK qs))) Hc->Rep Hc v' t''->(T.few t''/\T.gk t''/\T.dep t''<=T.deps us+1)->T.sz t''<=3*T.sz (zJ k ks us)->
         ∃x,DPut (L2.thaw H' Hc) pr (V.str (tx key)) v' x/\Same H4 (vN x pr)/\∃qs,x pr=Y (HO.dK qs)/\∃x_1,List.map (λx=>x.fst) qs=List.map nK x_1/\∃x_2,Reps (vN x pr) (List.map (λx=>x.snd) qs) x_2/\x_1.Nodup/\(∀k∈x_1,yY k=true)/\x_1...*<=i+1/\
          (∀(u:T),u∈x_2->u.few/\T.gk u/\u.dep<=T.deps us+1)/\T.szs x_2<=3*T.szs (List.map (λk=>zJ k ks us) (List.take (i+1) ns)):=by
        intro o key v' Hc t'' hkey g hv' hfit hsz;let hback:L2.thaw H' Hc pr=Y (.dK qs):=zHz hq (by intro o v z;cases z) g;let hoff:Rep (vN (L2.thaw H' Hc) pr) v' t'':=Rep.off (g pr _ zC) hv';let hst:Same (vN H' pr) (vN (L2.thaw H' Hc) pr):=zRy g;refine yA (zJb (n:=key) hqk (Reps.same hst _ _ hqr) hqn hoff) λks2 us2 e1 e2 e3 z_=>?_;ext oAA z_ e4 e5 e6;let hqlen:qs...*=ks'...*:=by let:=congrArg List.length hqk;simpa using this
        let hil:i<ns...*:=(mP.mp hki).1;refine zXx _ (DPut.k (k:=nK key) hback (by rw[mQ];lia)) (by rw[kL];exact gh.trans hst) _ zC (kZ ks2 e1 us2 (by rw[kL];exact e2) e3 (zLo (zXl hqk e1 hqs hkey) ∅ (λu hu=>?_) ?_))
        ·rcases e4 u hu with z | z
         ·let:=hqf u z
          exact nAA this.1 this.2.1 ∅
         ·rw[z];exact hfit
        ·rw[yK hki,mN,mV,rB,gZ]
         lia
       refine{O, ?_}
       by_cases hat:V.str (tx k)=V.str (tx kat)
       ·refine nEA false (by simp[hat]) (zGr ?_)
        by_cases h3:m / 3 % 5=1
        ·refine iP h3 {pr, .inl {qs,hq,λo=>?_}}
         refine oEA (Rep.at_name nk hk (Reps.same (G (.frz o (.dK qs))) _ _ hx) hmk) λx hx1' hx2=>?_;exact⟨x, .inl {ps,Sum.inr (tx k), .inl ((G _) _ _ ha),O,hx1'.symm},x,_,O,hx2,b5 hfk hmu,∅,λv' Hc _ gc hvc _=>fin o nm v' Hc _ hnm gc (Sp1.rep _ _ _ hvc) ⟨b5 hfk hmu,b9 hc.2 hmu,∅⟩ ∅⟩
        ·refine iN h3 {pr, .inl {qs,hq,λo=>?_}}
         refine oEA (Rep.at_name nk hk (Reps.same (G (.frz o (.dK qs))) _ _ hx) hmk) λx hx1' hx2=>?_;exact⟨x, .inl {ps,Sum.inr (tx k), .inl ((G _) _ _ ha),O,hx1'.symm},x,_,nm,_,O,hx2,b5 hfk hmu,b9 hc.2 hmu,∅,∅,∅,∅,hnm,λv' Hc t'' gc hvc ft=>fin o k v' Hc _ (hc.1 k hmk) gc hvc ⟨ft.few,ft.gk,by let:=ft.dep;lia⟩ ft.sz⟩
       ·refine nEA true (by simpa using hat) (zGp {pr, .inl {qs,hq,λo=>?_}})
        refine oEA (Rep.at_name nk hk (Reps.same (G (.frz o (.dK qs))) _ _ hx) hmk) λx hx1' hx2=>?_;exact⟨x, .inl {ps,Sum.inr (tx k), .inl ((G _) _ _ ha),O,hx1'.symm},x,_,O,hx2,b5 hfk hmu,∅,λv' Hc _ gc hvc _=>fin o k v' Hc _ (hc.1 k hmk) gc (Sp1.rep _ _ _ hvc) ⟨b5 hfk hmu,b9 hc.2 hmu,∅⟩ ∅⟩
     ·rintro σ' H' ⟨o6,rfl,gh,qs,ks',us',hq,hqk,hqr,hqn,hqs,hql,hqf,hqz⟩
      lk;let hqlen:ks'...*=us'...*:=by
       let h1:=congrArg List.length hqk;let h2:=hqr...*;simp only[mC] at h1 h2
       lia
      rw[mC] at hql;rw[mC,pA,gT (hpm.map λk=>zJ k ks us),kK nk hle] at hqz;let hzq:T.sz (.dic ks us)=T.szs us+1:=rfl;let hns:ns...*<64:=by lia
      refine q _ _ (.dic ks' us') (g4.trans (gh.trans wK)) {pr,qs,O,hq,hqk,Reps.same wK _ _ hqr} (k9 hqs hqn ∅ hqlen (λu hu=>?_) (nY (mT _)) ∅);let:=hqf u hu;exact nAA this.1 this.2.1 this.2.2
    ·exact iN h7 ⟨O,g2⟩
   | _=>exact{_,hty1,iN (by simp[tyT,zT]) ⟨O,g1⟩}
  clear g1 hty1 H1;rintro σ' H1 ⟨rfl,g1⟩;subst hR;refine kB λR hR=>?_;lk;unfold zCd;lk;let hty1:=jN g1 hty;refine nEA (λσ' H'=>σ'= [Y v,Y (.int m),Y (.str (tx nm)),none,none,none,none]/\Same H H') ?_ ?_
  ·cases t with
   | lst us=>
    refine nEA _ hty1 (iP (by simp[tyT,zT]) λp hp=>?_);ext yN hv a xs r2_ ha hx;subst r2_;let hxl:=hx...*;let g2:=g1.trans (zD hp (.lst []));let hpe:upd H1 p (.lst []) p=Y (.lst []):=zC;generalize upd H1 p (.lst [])=H2 at*;refine{a,p,xs,O,O,SqL.of (g2 _ _ ha),SqL.of hpe,_,O, ?_}
    by_cases hemp:xs.isEmpty=true
    ·exact iN (by simp[hemp]) ⟨O,g2⟩
    refine iP (by simp[hemp]) ?_;let hpos:0<xs...*:=rZ.mpr λz=>hemp (by rw[z];rfl);let hzl:T.szs us+1<=8000:=hz;let hlz:=zCt us;let kf:=zFi hf.2 hc;let kf':∀u∈us,T.few u/\T.gk u/\T.dep u+1<=T.dep (.lst us)+1:=λu hu=>{(kf u hu).1,(kf u hu).2.1,rQ (kf u hu).2.2};let hzq:T.sz (.lst us)=T.szs us+1:=rfl;refine{a,xs,O,SqL.of (g2 _ _ ha),λp1 hp1=>?_};rw[show kQ xs ↥1 none=xs.drop 1 from gO xs 1];let g3:=zD hp1 (.lst (xs.drop 1));let hA1:upd H2 p1 (.lst (xs.drop 1)) p1=Y (.lst (xs.drop 1)):=zC;generalize upd H2 p1 (.lst (xs.drop 1))=H3 at*;refine{a,xs,O,SqL.of ((g2.trans g3) _ _ ha),λp2 hp2=>?_};rw[zFx];let g4:=zD hp2 (.lst (xs.take (xs...* - 1)));let hA2:upd H3 p2 (.lst (xs.take (xs...* - 1))) p2=Y (.lst (xs.take (xs...* - 1))):=zC;generalize upd H3 p2 (.lst (xs.take (xs...* - 1)))=H4 at*;refine oEA (hx.get (i:=0) (v:=xs[0]) (by simp[hpos])) λt0 ht0 hr0=>?_;refine yL (SqL.of ((g2.trans (g3.trans g4)) _ _ ha)) (yH (j:=0) (v:=xs[0]) (by simp[hpos])) λp3 hp3=>?_;let g5:=zD hp3 (.lst [xs[0]]);let hA3:upd H4 p3 (.lst [xs[0]]) p3=Y (.lst [xs[0]]):=zC;generalize upd H4 p3 (.lst [xs[0]])=H5 at*;refine{a,p3,xs,_,O,O,(g2.trans (g3.trans (g4.trans g5))) _ _ ha,hA3,by rw[mQ,mY];lia,λp4 hp4=>?_};let g6:=zD hp4 (.lst (xs++ [xs[0]]));let hA4:upd H5 p4 (.lst (xs++ [xs[0]])) p4=Y (.lst (xs++ [xs[0]])):=zC;generalize upd H5 p4 (.lst (xs++ [xs[0]]))=H6 at*;unfold zXb;lk;refine{a,xs,O,SqL.of ((g2.trans (g3.trans (g4.trans (g5.trans g6)))) _ _ ha),λp5 hp5 p6 hp6=>?_};let g7:=zD hp5 (.lst xs.reverse);let hA5:upd H6 p5 (.lst xs.reverse) p5=Y (.lst xs.reverse):=zC;generalize upd H6 p5 (.lst xs.reverse)=H7 at*;refine vR zC ∅ (by simp only[nI,pP];lia) λx hx'=>?_;let g8:=zD hp6 (.lst [V.ref p1,V.ref p2,V.ref p4,V.ref p5]);let gA:=g2.trans (g3.trans (g4.trans (g5.trans (g6.trans (g7.trans g8)))));simp only[mI,pE,rL] at hx';let h1:1<=T.dep (.lst us)+1:=nY (mT _);let hm0:=mF ht0;let hz0:=c8 hm0;rcases hx' with rfl | rfl | rfl | rfl
    ·exact q _ _ (.lst (us.drop 1)) gA {p1,_,O,(g4.trans (g5.trans (g6.trans (g7.trans g8)))) _ _ hA1,Reps.same gA _ _ (Reps.drop 1 hx)} (Fig.row (λu hu=>kf' u (pO hu)) h1 (by let:=zAl us 1;lia) (by let:=zAl us 1;lia))
    ·exact q _ _ (.lst (us.take (xs...* - 1))) gA {p2,_,O,(g5.trans (g6.trans (g7.trans g8))) _ _ hA2,Reps.same gA _ _ (Reps.take _ hx)} (Fig.row (λu hu=>kf' u (pC hu)) h1 (by let:=jS us (xs...* - 1);lia) (by let:=jS us (xs...* - 1);lia))
    ·refine q _ _ (.lst (us++ [t0])) gA {p4,_,O,(g7.trans g8) _ _ hA4,Reps.same gA _ _ (Reps.snoc hr0 hx)} (Fig.row (λu hu=>?_) h1 (by rw[gZ];lia) (by rw[gZ];lia))
     rcases mX.mp hu with z | z
     ·exact kf' u z
     ·rw[nC.mp z];exact kf' _ hm0
    ·exact q _ _ (.lst us.reverse) gA {p5,_,O,g8 _ _ hA5,Reps.same gA _ _ (Reps.reverse hx)} (Fig.row (λu hu=>kf' u (aM.mp hu)) h1 (by rw[zDz];lia) (by rw[zDz];lia))
   | _=>exact{_,hty1,iN (by simp[tyT,zT]) ⟨O,g1⟩}
  clear g1 hty1 H1;rintro σ' H1 ⟨rfl,g1⟩;subst hR;refine kB λR hR=>?_;lk;unfold zCd;lk;let hty1:=jN g1 hty;refine nEA (λσ' H'=>σ'= [Y v,Y (.int m),Y (.str (tx nm)),none,none,none,none]/\Same H H') ?_ ?_
  ·cases t with
   | dic ks us=>
    refine nEA _ hty1 (iP (by simp[tyT,zT]) λp hp=>?_);ext yA hv a ps r2_ ha hk hx;subst r2_;let g2:=g1.trans (zD hp (.dK []));let hpe:upd H1 p (.dK []) p=Y (.dK []):=zC;generalize upd H1 p (.dK [])=H2 at*;refine{a,p,ps,O,O,g2 _ _ ha,hpe,_,O, ?_}
    by_cases hemp:ps.isEmpty=true
    ·exact iN (by simp[hemp]) ⟨O,g2⟩
    refine iP (by simp[hemp]) ?_;ext xI hf nk h64 hle hfk;let hzl:T.szs us+1<=8000:=hz;refine vM a O ps (.inl (g2 _ _ ha)) (ks.map tx) (nAA (by rw[hk,pU];rfl) (by rw[mC];exact h64) (λl ss hl hp1 hs1=>?_));let es:=vV hp1 hs1;let emap:ss.map V.str=(yQ ks).map λk=>V.str (tx k):=by rw[es,pU];rfl
    rw[emap];let g3:=g2.trans (zD hl (.lst ((yQ ks).map λk=>V.str (tx k))));let hl3:upd H2 l (.lst ((yQ ks).map λk=>V.str (tx k))) l=Y (.lst ((yQ ks).map λk=>V.str (tx k))):=zC;generalize upd H2 l (.lst ((yQ ks).map λk=>V.str (tx k)))=H3 at*;refine{l,_,O,SqL.of hl3,λl2 hl2=>?_};rw[show kQ ((yQ ks).map λk=>V.str (tx k)) ↥1 none=((yQ ks).drop 1).map λk=>V.str (tx k) from by rw[List.map_drop];exact gO _ 1];let hnd:((yQ ks).drop 1).Nodup:=((yT ks).nodup_iff.mpr nk).sublist (List.drop_sublist _ _);let hsub:∀k∈(yQ ks).drop 1,k∈ks:=λk h=>mem_sortK.mp (pO h);let hlen:((yQ ks).drop 1)...*<64:=by rw[nG,(yT ks).length_eq];lia
    let hszn:T.szs (((yQ ks).drop 1).map λk=>zJ k ks us)<=T.szs us:=by
     rw[List.map_drop];refine nS (zAl _ _) (cQ ?_);rw[gT ((yT ks).map λk=>zJ k ks us),kK nk hle]
    generalize (yQ ks).drop 1=ns at*;let g4:=g3.trans (zD hl2 (.lst (ns.map λk=>V.str (tx k))));let hl4:upd H3 l2 (.lst (ns.map λk=>V.str (tx k))) l2=Y (.lst (ns.map λk=>V.str (tx k))):=zC;generalize upd H3 l2 (.lst (ns.map λk=>V.str (tx k)))=H4 at*;refine zCr l2 O {_,SqL.of hl4} (xT (K:=K) (xs:=ns.map λk=>V.str (tx k)) (λi ys H'=>Same H4 H'/\∃kvs:List (Key×V),kvs...*=ys...*/\kvs.map (·.1)=(ns.take i).map nK/\Reps H' (kvs.map (·.2)) ((ns.take i).map λk=>zJ k ks us)/\∀(j:Nat) kv,kvs[j]? =Y kv->∃a,ys[j]? =Y (.ref a)/\H' a=Y (.tup [kV kv.1,kv.2])) ?_ {Same.refl _,[],O,O,O,by intro j kv h;simp at h} (λi ys H' _ h=>SqL.of (h.1 _ _ hl4)) ?_ ?_)
    ·rw[mQ,mC];lia
    ·rintro i y ys H' hy _ ⟨g,kvs,l1,l2',hR,ht⟩
     rw[mW] at hy
     cases hki:ns[i]? with
     | none=>rw[hki] at hy;cases hy
     | some k=>
      rw[hki] at hy;let ey:V.str (tx k)=y:=mM hy;subst ey;let gg:=g4.trans g;let hmk:=hsub k (mF hki);refine oEA (Rep.at_name nk hk (Reps.same gg _ _ hx) hmk) λx hx1 hx2=>?_;lk;refine nEA x (.inl {ps,Sum.inr (tx k), .inl (gg _ _ ha),O,hx1.symm}) (λp5 hp5=>{g.trans (zD hp5 _),kvs++ [(nK k,x)],by simp[l1], ?_, ?_, ?_})
      ·rw[yK hki,mN,mN,l2'];rfl
      ·rw[yK hki,mN,mN]
       exact Reps.snoc (Rep.same (zD hp5 _) _ _ hx2) (Reps.same (zD hp5 _) _ _ hR)
      ·intro j kv1 hj
       by_cases hlt:j<kvs...*
       ·rw[pF hlt] at hj
        refine oEA (ht j kv1 hj) λa' e1 e2=>?_;exact nEA a' (by rw[pF ∅];exact e1) (zD hp5 _ _ _ e2)
       ·rw[pG ∅] at hj
        let hj0:j - kvs...*=0:=by
         let:=(mP.mp hj).1
         simpa using this
        rw[hj0] at hj;simp only[pL,Option.some.injEq] at hj;subst hj;exact nEA p5 (by rw[pG ∅,<-l1,hj0];rfl) zC
    ·rintro ys H' _ ⟨g,kvs,l1,l2',hR,ht⟩ p5 hp5
     rw[mC,pA] at l2' hR;let g5:=zD hp5 (.lst ys);refine vM p5 O ys zC kvs (nAA l1 (λj kv hj=>?_) (λl6 hl6=>?_))
     ·refine oEA (ht j kv hj) λa' e1 e2=>?_
      exact nEA a' e1 (g5 _ _ e2)
     ·let em:qK [] kvs=kvs:=qP kvs [] (by rw[tW,l2'];exact qY hnd)
      rw[em];let g6:=zD hl6 (.dK kvs);let hzq:T.sz (.dic ks us)=T.szs us+1:=rfl;refine q _ _ (.dic ns (ns.map λk=>zJ k ks us)) (g4.trans (g.trans (g5.trans g6))) {l6,kvs,O,zC,l2',Reps.same (g5.trans g6) _ _ hR} (k9 (λk hk=>hc.1 k (hsub k hk)) hnd hlen (by rw[mC]) (λu hu=>?_) (nY (mT _)) ∅);refine oEA (nB.mp hu) λk hk' r2_=>?_;subst r2_;let:=zFi hfk hc.2 _ (yO (hsub k hk') hle);exact nAA this.1 this.2.1 (rQ this.2.2)
   | _=>exact{_,hty1,iN (by simp[tyT,zT]) ⟨O,g1⟩}
  clear g1 hty1 H1;rintro σ' H1 ⟨rfl,g1⟩;subst hR;lk;let hs1:=sz_pos t;exact{v,_,t,O,Rep.same g1 _ _ hv,hc,hf,∅,λv' H' t' g hr' ft=>q _ _ t' (g1.trans g) hr' (ft.mono (mB _) ∅)}
theorem zYj(F:Fun K "_law_varied" "_law_varied" zTz f fd):FnOk P w K mg base CX0 21 f fd ["_law_thing","_law_more","_law_names"] (zMg 0):=by
 refine F.ok scVar (λvs H Q E h=>?_) (λc A o s H vs Q E hr h=>?_)
 ·ext yS h v m nm t r4_ _
  subst r4_
  rfl
 ·ext yS h v m nm t r4_ z_
  ext vS z_ hv hf hc hd _;subst r4_;exact absurd hd (pM _)
theorem zPd(F:Fun K "_law_varied" "_law_varied" zTz f fd)(B:Bl2 mg)(Gl:Dn P w K mg base 1 "_law_leaf_other" ["_law_thing","_law_more"] zMy)(Gh:Dn P w K mg base (1+20) "_law_held" ["_law_thing"] (zCx 20))
  (b:Binds K fd ["_law_thing","_law_more","_law_names"] []) (kp:A8 K (.ref f)=true) (m:mg "_law_varied" =Y (.ref f)):∀n:Nat,FnOk P w K mg base CX0 (21+n) f fd ["_law_thing","_law_more","_law_names"] (zMg n)
 | 0=>zYj F
 | n+1=>zZk F B Gl Gh {_,_,zPd F B Gl Gh b kp m n,b,kp,m}
end
theorem yEp{us:List T}:us...*<=T.szs us:=d5 us
theorem zRc{m:Nat}{a b:List T}(h:d8 m b)(s:∀t∈a,t∈b):d8 m a:=d4 λt ht=>b8 h (s t ht)
theorem zQn{us:List T}{i j:Nat}(h:i<=j):T.szs (us.take i)+T.szs (us.drop j)<=T.szs us:=by
 let e:us=us.take i++us.drop i:=(rK i us).symm;let e2:T.szs us=T.szs (us.take i)+T.szs (us.drop i):=by conv=>lhs;rw[e,c9]
 let e3:us.drop i=(us.drop i).take (j - i)++us.drop j:=by
  let:=(rK (j - i) (us.drop i)).symm;rw[List.drop_drop,show i+(j - i)=j by lia] at this;exact this
 let e4:T.szs (us.drop i)=T.szs ((us.drop i).take (j - i))+T.szs (us.drop j):=by conv=>lhs;rw[e3,c9]
 lia
theorem zVo{a b:List T}{d:Nat}(h:T.deps b<=d)(s:∀t∈a,t∈b):T.deps a<=d:=d7 λt ht=>nS (b7 (s t ht)) h
theorem yEu{m:Nat}{us:List T}{n:T}{i j:Nat}(hij:i<=j)(hf:T.fewm m (.lst us))(hn:T.fewm m n)(hz:T.sz (.lst us)<=50000):
  T.fewm m (.lst (us.take i++n::us.drop j))/\T.dep (.lst (us.take i++n::us.drop j))<=max (T.dep (.lst us)) (T.dep n+1)/\T.sz (.lst (us.take i++n::us.drop j))<=T.sz (.lst us)+T.sz n:=by
 let hz':T.szs us+1<=50000:=hz;let hl:=yEp (us:=us);let hc:=zQn (us:=us) hij;let hs:∀t∈us.take i++n::us.drop j,t∈us\/t=n:=λt ht=>by
  rcases mX.mp ht with z | z
  ·exact .inl (pC z)
  ·rcases mI.mp z with z | z
   ·exact .inr z
   ·exact .inl (pO z)
 refine nAA {?_,d4 λt ht=>?_} ?_ ?_
 ·rw[mK,nI,pH,nG];lia
 ·rcases hs t ht with z | z
  ·exact b8 hf.2 z
  ·rw[z];exact hn
 ·show T.deps (us.take i++n::us.drop j)+1<=max (T.deps us+1) (T.dep n+1)
  let:T.deps (us.take i++n::us.drop j)<=max (T.deps us) (T.dep n):=d7 λt ht=>by
   rcases hs t ht with z | z
   ·let:=b7 z;lia
   ·rw[z];lia
  lia
 ·show T.szs (us.take i++n::us.drop j)+1<=T.szs us+1+T.sz n
  rw[c9];show T.szs (us.take i)+(T.sz n+T.szs (us.drop j))+1<=_
  lia
theorem zVj{m:Nat}{ks ls:List (List Nat)}{us vs:List T}{n:T}(hf:T.fewm m (.dic ks us))(hn:T.fewm m n)(nd:ls.Nodup)(hl:ls...*=vs...*)(hlen:vs...*<=us...*+1)(hs:∀t∈vs,t∈us\/t=n)(hz:T.szs vs<=T.szs us+T.sz n):
  T.fewm (m+1) (.dic ls vs)/\T.dep (.dic ls vs)<=max (T.dep (.dic ks us)) (T.dep n+1)/\T.sz (.dic ls vs)<=T.sz (.dic ks us)+T.sz n:=by
 ext xI hf nk hm hku hu;refine nAA {nd,∅,hl,d4 λt ht=>?_} ?_ ?_
 ·rcases hs t ht with z | z
  ·exact d6 (rO m) _ (b8 hu z)
  ·rw[z];exact d6 (rO m) _ hn
 ·show T.deps vs+1<=max (T.deps us+1) (T.dep n+1)
  let:T.deps vs<=max (T.deps us) (T.dep n):=d7 λt ht=>by
   rcases hs t ht with z | z
   ·let:=b7 z;lia
   ·rw[z];lia
  lia
 ·show T.szs vs+1<=T.szs us+1+T.sz n
  lia
theorem uI{m:Nat}{t n:T}(hf:T.fewm m t):T.fewm (m+1) t/\T.dep t<=max (T.dep t) (T.dep n+1)/\T.sz t<=T.sz t+T.sz n:={d6 (rO m) _ hf,dB _ _,rV _ _}
theorem zQf{m:Nat}{us:List T}{n:T}{i j:Nat}(hij:i<=j)(hf:T.fewm m (.lst us))(hn:T.fewm m n)(hz:T.sz (.lst us)<=50000):
  T.fewm (m+1) (.lst (us.take i++n::us.drop j))/\T.dep (.lst (us.take i++n::us.drop j))<=max (T.dep (.lst us)) (T.dep n+1)/\T.sz (.lst (us.take i++n::us.drop j))<=T.sz (.lst us)+T.sz n:=by
 obtain⟨h1,h2,h3⟩:=yEu hij hf hn hz;exact nAA (d6 (rO m) _ h1) h2 h3
theorem zZi{m:Nat}{us:List T}{n:T}{i:Nat}(hf:T.fewm m (.lst us)):
  T.fewm (m+1) (.lst (us.take i++us.drop (i+1)))/\T.dep (.lst (us.take i++us.drop (i+1)))<=max (T.dep (.lst us)) (T.dep n+1)/\T.sz (.lst (us.take i++us.drop (i+1)))<=T.sz (.lst us)+T.sz n:=by
 let hc:=zQn (us:=us) (i:=i) (j:=i+1) ∅;let hs:∀t∈us.take i++us.drop (i+1),t∈us:=λt ht=>(mX.mp ht).elim pC pO;refine nAA {?_,i7 (rO m) _ (zRc hf.2 hs)} ?_ ?_
 ·let:=hf.1
  rw[mK,pH,nG];lia
 ·show T.deps (us.take i++us.drop (i+1))+1<=max (T.deps us+1) (T.dep n+1)
  let:=zVo (mB (T.deps us)) hs
  lia
 ·show T.szs (us.take i++us.drop (i+1))+1<=T.szs us+1+T.sz n
  rw[c9];lia
theorem zWi{m:Nat}{ks:List (List Nat)}{us:List T}{n:T}{x:List Nat}(hf:T.fewm m (.dic ks us))(hn:T.fewm m n):
  T.fewm (m+1) (.dic (vI x ks) (xV x ks us))/\T.dep (.dic (vI x ks) (xV x ks us))<=max (T.dep (.dic ks us)) (T.dep n+1)/\T.sz (.dic (vI x ks) (xV x ks us))<=T.sz (.dic ks us)+T.sz n:=by
 obtain⟨l1,l2⟩:=zBv (n:=x) hf.2.2.1;let:=zDj (n:=x) (ks:=ks) (us:=us);exact zVj hf hn (jL hf.1) l1 ∅ (λt ht=>.inl (gN ht)) ∅
theorem zUa{m:Nat}{w:Wd}{t n:T}{k:Key}(hf:T.fewm m t)(hn:T.fewm m n)(hz:T.sz t<=50000):T.fewm (m+1) (xA w t k n)/\T.dep (xA w t k n)<=max (T.dep t) (T.dep n+1)/\T.sz (xA w t k n)<=T.sz t+T.sz n:=by
 cases t with
 | dic ks us=>
  cases k with
  | inr x=>
   cases w with
   | put=>
    obtain⟨l1,l2⟩:=gQ (ks:=ks) (us:=us) (n:=ts x) (t:=n) hf.2.2.1;let:=zDj (n:=ts x) (ks:=ks) (us:=us);let hz2:=zKt (n:=ts x) (t:=n) hf.1 hf.2.2.1;exact zVj hf hn (jE hf.1) l1 l2 (λt ht=>zAs ht) ∅
   | ins=>exact uI hf
   | tak=>exact zWi hf hn
  | inl i=>cases w<;>exact uI hf
 | lst us=>
  cases k with
  | inl i=>
   cases w with
   | put=>exact zQf (rO _) hf hn hz
   | ins=>exact zQf (mB _) hf hn hz
   | tak=>exact zZi hf
  | inr x=>cases w<;>exact uI hf
 | tup us=>exact hf.elim
 | non=>cases w<;>exact uI hf
 | bl b=>cases w<;>exact uI hf
 | int b=>cases w<;>exact uI hf
 | str b=>cases w<;>exact uI hf
theorem zCj:∀(t:T)(ks:List Key),1<=(goT t ks)...*/\(goT t ks)...*<=ks...*+1
 | t,[]=>{mB _,mB _}
 | t,k::ks=>by
  show 1<=(match xK t k with | none=>[t] | some u=>t::goT u ks)...*/\(match xK t k with | none=>[t] | some u=>t::goT u ks)...*<=ks...*+1+1
  cases xK t k with
  | none=>exact{mB _,by show 1<=_;lia}
  | some u=>
   let:=zCj u ks;exact{by show 1<=(goT u ks)...*+1;lia,by show(goT u ks)...*+1<=_;lia}
theorem zQq{r:T}:∀{us:List T}{i:Nat}{u:T},us[i]? =Y u->T.szs (us.set i r)+T.sz u=T.szs us+T.sz r
 | [],_,_,h=>by simp at h
 | v::us,0,u,h=>by
  let e:v=u:=by simpa using h
  subst e;show T.sz r+T.szs us+T.sz v=T.sz v+T.szs us+T.sz r
  lia
 | v::us,i+1,u,h=>by
  let ih:=zQq (r:=r) (us:=us) (i:=i) (u:=u) (by simpa using h);show T.sz v+T.szs (us.set i r)+T.sz u=T.sz v+T.szs us+T.sz r
  lia
theorem zMk{n:List Nat}{r:T}:∀{ks:List (List Nat)}{us:List T},ks.Nodup->ks...*=us...*->n∈ks->T.szs (xB n r ks us)+T.sz (zJ n ks us)=T.szs us+T.sz r
 | [],_,_,_,h=>nomatch h
 | _::_,[],_,h,_=>by simp at h
 | k::ks,u::us,nd,hl,h=>by
  rw[nZ] at nd;show T.szs ((if k=n then r else u)::xB n r ks us)+T.sz (if k=n then u else zJ n ks us)=T.sz u+T.szs us+T.sz r
  by_cases e:k=n
  ·rw[mO e,mO e]
   let h2:xB n r ks us=us:=by
    let z:=zKt (n:=n) (t:=r) nd.2 (by simpa using hl) (us:=us);let hn:n∉ks:=by rw[<-e];exact nd.1
    let:∀(ks:List (List Nat))(us:List T),n∉ks->xB n r ks us=us:=by
     intro ks
     induction ks with
     | nil=>intro us _;unfold xB;rfl
     | cons a ks ih=>
      intro us hn
      cases us with
      | nil=>rfl
      | cons b us=>
       show(if a=n then r else b)::xB n r ks us=b::us;rw[mL (λz=>hn (by rw[z];exact mG)),ih us λz=>hn (mE _ z)]
    exact this ks us hn
   rw[h2];show T.sz r+T.szs us+T.sz u=_
   lia
  ·rw[mL e,mL e]
   let hm:n∈ks:=by
    rcases mI.mp h with z | z
    ·exact absurd z.symm e
    ·exact z
   let ih:=zMk (r:=r) nd.2 (by simpa using hl) hm (us:=us);show T.sz u+T.szs (xB n r ks us)+T.sz (zJ n ks us)=_
   lia
theorem gL{t u:T}{k:Key}(hs:xK t k=Y u):(∃us i,t= .lst us/\k= .inl i/\us[i.toNat]? =Y u/\∀r,xA .put t k r= .lst (us.set i.toNat r))\/(∃ks us x,t= .dic ks us/\k= .inr x/\ts x∈ks/\u=zJ (ts x) ks us/\∀r,xA .put t k r= .dic ks (xB (ts x) r ks us)):=by
 cases t with
 | lst us=>
  cases k with
  | inl i=>
   let h:us[i.toNat]? =Y u:=hs;refine .inl {us,i,O,O,h,λr=>?_};show T.lst (us.take i.toNat++r::us.drop (i.toNat+1))=_;let hi:=(mP.mp h).1;rw[bF,mO hi]
  | inr x=>cases hs
 | dic ks us=>
  cases k with
  | inl i=>cases hs
  | inr x=>
   let h':(if ts x∈ks then Y (zJ (ts x) ks us) else none)=Y u:=hs
   by_cases hm:ts x∈ks
   ·rw[mO hm] at h'
    refine .inr {ks,us,x,O,O,hm,(mM h').symm,λr=>?_};let e:yU (ks,us) (ts x) r=(ks,xB (ts x) r ks us):=mO hm;show T.dic (yU (ks,us) (ts x) r).1 (yU (ks,us) (ts x) r).2=_;rw[e]
   ·rw[mL hm] at h';cases h'
 | non=>cases hs
 | bl b=>cases hs
 | int b=>cases hs
 | str b=>cases hs
 | tup us=>cases hs
theorem zJb{m:Nat}{t u r:T}{k:Key}(hf:T.fewm m t)(hs:xK t k=Y u):T.sz (xA .put t k r)+T.sz u=T.sz t+T.sz r:=by
 rcases gL hs with⟨us,i,rfl,rfl,h,e⟩|⟨ks,us,x,rfl,rfl,hm,rfl,e⟩
 ·rw[e]
  let:=zQq (r:=r) h;show T.szs _+1+_=T.szs us+1+_
  lia
 ·rw[e]
  let:=zMk (r:=r) hf.1 hf.2.2.1 hm;show T.szs _+1+_=T.szs us+1+_
  lia
theorem zIn{m:Nat}{t u r:T}{k:Key}(hf:T.fewm m t)(hs:xK t k=Y u)(hr:T.fewm m r):T.fewm m (xA .put t k r)/\T.dep (xA .put t k r)<=max (T.dep t) (T.dep r+1):=by
 rcases gL hs with⟨us,i,rfl,rfl,h,e⟩|⟨ks,us,x,rfl,rfl,hm,rfl,e⟩
 ·rw[e]
  let hsub:∀t∈us.set i.toNat r,t∈us\/t=r:=λt ht=>List.mem_or_eq_of_mem_set ht;refine{{by rw[sZ];exact hf.1,d4 λt ht=>?_}, ?_}
  ·rcases hsub t ht with z | z
   ·exact b8 hf.2 z
   ·rw[z];exact hr
  ·show T.deps _+1<=max (T.deps us+1) (T.dep r+1)
   let:T.deps (us.set i.toNat r)<=max (T.deps us) (T.dep r):=d7 λt ht=>by
    rcases hsub t ht with z | z
    ·let:=b7 z;lia
    ·rw[z];lia
   lia
 ·rw[e]
  refine{{hf.1,hf.2.1,by rw[zBi];exact hf.2.2.1,d4 λt ht=>?_}, ?_}
  ·rcases zBd _ _ _ _ _ ht with z | z
   ·exact b8 hf.2.2.2 z
   ·rw[z];exact hr
  ·show T.deps _+1<=max (T.deps us+1) (T.dep r+1)
   let:T.deps (xB (ts x) r ks us)<=max (T.deps us) (T.dep r):=d7 λt ht=>by
    rcases zBd _ _ _ _ _ ht with z | z
    ·let:=b7 z;lia
    ·rw[z];lia
   lia
theorem zDl{m:Nat}{t u:T}{k:Key}(hf:T.fewm m t)(hs:xK t k=Y u):T.fewm m u/\T.dep u+1<=T.dep t/\T.sz u<=T.sz t:=by
 rcases gL hs with⟨us,i,rfl,rfl,h,e⟩|⟨ks,us,x,rfl,rfl,hm,rfl,e⟩
 ·let hmm:=mF h
  let:=b7 hmm;let:=c8 hmm;exact nAA (b8 hf.2 hmm) (show _<=T.deps us+1 by lia) (show _<=T.szs us+1 by lia)
 ·let hmm:=yO hm hf.2.2.1
  let:=b7 hmm;let:=c8 hmm;exact nAA (b8 hf.2.2.2 hmm) (show _<=T.deps us+1 by lia) (show _<=T.szs us+1 by lia)
theorem zMm:∀(ks:List Key)(t:T)(i:Nat),i+1<(goT t ks)...*->∃k u v,ks[i]? =Y k/\(goT t ks)[i]? =Y u/\(goT t ks)[i+1]? =Y v/\xK u k=Y v
 | [],t,i,h=>by
  let h':i+1<1:=h
  lia
 | k::ks,t,i,h=>by
  let e:goT t (k::ks)=(match xK t k with | none=>[t] | some u=>t::goT u ks):=rfl
  cases hs:xK t k with
  | none=>
   rw[hs] at e;rw[e] at h;let h':i+1<1:=h
   lia
  | some u=>
   rw[hs] at e;let e':goT t (k::ks)=t::goT u ks:=e;rw[e'] at h⊢
   cases i with
   | zero=>
    let hl:=(zCj u ks).1;obtain⟨v,hv⟩:∃v,(goT u ks)[0]? =Y v:={(goT u ks)[0],by simp};let hv':v=u:=by
     cases ks with
     | nil=>let:(goT u [])[0]? =Y u:=rfl;rw[this] at hv;exact(mM hv).symm
     | cons k2 ks=>
      let:goT u (k2::ks)=(match xK u k2 with | none=>[u] | some u'=>u::goT u' ks):=rfl
      rw[this] at hv
      cases hs2:xK u k2 with
      | none=>rw[hs2] at hv;exact(mM hv).symm
      | some _=>rw[hs2] at hv;exact(mM hv).symm
    refine qN k t u O O (nA ?_ hs);show(goT u ks)[0]? =Y u;rw[hv,hv']
   | succ i=>
    refine yC (zMm ks u i (by simpa using h)) λk' u' v' h1 h2 z_=>?_;ext oA z_ h3 h4;exact qN k' u' v' (by simpa using h1) (by simpa using h2) (nA (by simpa using h3) h4)
theorem zGl{m:Nat}:∀(ks:List Key)(t:T)(i:Nat)(u:T),T.fewm m t->(goT t ks)[i]? =Y u->T.fewm m u/\T.dep u+i<=T.dep t/\T.sz u<=T.sz t
 | [],t,i,u,hf,h=>by
  let h': [t][i]? =Y u:=h
  cases i with
  | zero=>rw[<-mM h'];exact{hf,mB _,mB _}
  | succ i=>cases h'
 | k::ks,t,i,u,hf,h=>by
  let e:goT t (k::ks)=(match xK t k with | none=>[t] | some u=>t::goT u ks):=rfl
  cases hs:xK t k with
  | none=>
   rw[hs] at e;let e':goT t (k::ks)= [t]:=e;rw[e'] at h
   cases i with
   | zero=>rw[<-mM h];exact{hf,mB _,mB _}
   | succ i=>cases h
  | some v=>
   rw[hs] at e;let e':goT t (k::ks)=t::goT v ks:=e;rw[e'] at h
   cases i with
   | zero=>rw[<-mM h];exact{hf,mB _,mB _}
   | succ i=>
    obtain⟨a1,a2,a3⟩:=zDl hf hs;obtain⟨b1,b2,b3⟩:=zGl ks v i u a1 (by simpa using h);exact nAA b1 ∅ ∅
def okS:Key->Prop
 | .inl i=>0<=i/\i<=59
 | .inr s=>yY (ts s)=true
theorem okS.k{k:Key}(h:okS k):okK k:=by
 cases k with
 | inl i=>exact h
 | inr s=>exact mH
theorem zVf{us:List T}{n:T}{i j:Nat}(ht:j6 us)(hn:T.gk n):j6 (us.take i++n::us.drop j):=i4 λu hu=>by
 rcases mX.mp hu with z | z
 ·exact b9 ht (pC z)
 ·rcases mI.mp z with z | z
  ·rw[z];exact hn
  ·exact b9 ht (pO z)
theorem zJg{w:Wd}{t n:T}{k:Key}(ht:T.gk t)(hn:T.gk n)(hk:okS k):T.gk (xA w t k n):=by
 cases t with
 | lst us=>
  let h':j6 us:=ht
  cases k with
  | inr s=>cases w<;>exact h'
  | inl i=>
   cases w with
   | put=>exact zVf h' hn
   | ins=>exact zVf h' hn
   | tak=>exact i4 λu hu=>(mX.mp hu).elim (λz=>b9 h' (pC z)) λz=>b9 h' (pO z)
 | dic ks us=>
  let h':(∀k∈ks,yY k=true)/\j6 us:=ht
  cases k with
  | inl i=>cases w<;>exact h'
  | inr s=>
   cases w with
   | put=>exact{λk hk'=>(putT_in.mp hk').elim (h'.1 k) λe=>by rw[e];exact hk,i4 λu hu=>(zAs hu).elim (b9 h'.2) λe=>by rw[e];exact hn}
   | ins=>exact h'
   | tak=>exact{λk hk'=>h'.1 k (dropN_mem.mp hk').1,i4 λu hu=>b9 h'.2 (gN hu)}
 | tup us=>exact ht.elim
 | _=>cases k<;>cases w<;>exact ht
theorem zPo{t u:T}{k:Key}(hf:T.few t)(ht:T.gk t)(hs:xK t k=Y u):T.gk u:=by
 rcases gL hs with⟨us,i,rfl,_,h,_⟩|⟨ks,us,x,rfl,_,hm,rfl,_⟩
 ·exact b9 ht (mF h)
 ·exact b9 ht.2 (yO hm hf.2.2.1)
theorem zKi{m:Nat}{w:Wd}{n:T}(hm:m<63)(fn:T.fewm m n)(gn:T.gk n):∀(ks:List Key)(t r:T),doT w n ks t=Y r->T.fewm m t->T.gk t->(∀k∈ks,okS k)->T.sz t<=50000->T.fewm (m+1) r/\T.gk r/\T.dep r<=max (T.dep t) (ks...*+T.dep n)/\T.sz r<=T.sz t+T.sz n
 | [],t,r,h,ft,gt,_,_=>by
  cases w with
  | put=>
   let e:n=r:=mM h;subst e;exact zLo (d6 (rO m) _ fn) gn (by show T.dep n<=max (T.dep t) (0+T.dep n);lia) ∅
  | ins=>cases h
  | tak=>cases h
 | [k],t,r,h,ft,gt,hk,hz=>by
  let h':(if vB w t k=true then Y (xA w t k n) else none)=Y r:=h
  by_cases hc:vB w t k=true
  ·rw[mO hc] at h'
   let e:=mM h';subst e;obtain⟨a1,a2,a3⟩:=zUa (w:=w) (k:=k) ft fn hz;exact zLo a1 (zJg gt gn (hk k mG)) (by show _<=max (T.dep t) (1+T.dep n);lia) a3
  ·rw[mL hc] at h';cases h'
 | k::k'::ks,t,r,h,ft,gt,hk,hz=>by
  rw[gX (by simp)] at h
  cases hs:xK t k with
  | none=>rw[hs] at h;cases h
  | some s=>
   rw[hs] at h;obtain⟨r',hr',e⟩:=pJ.mp h;subst e;obtain⟨s1,s2,s3⟩:=zDl ft hs;refine xI (zKi hm fn gn (k'::ks) s r' hr' s1 (zPo (c7 ∅ _ ft) gt hs) (λq hq=>hk q (mE _ hq)) ∅) λb1 b2 b3 b4=>?_;obtain⟨c1,c2⟩:=zIn (d6 (rO m) _ ft) hs b1;let c3:=zJb (r:=r') ft hs;refine zLo c1 (zJg gt b2 (hk k mG)) ?_ ∅;rw[nI] at b3⊢;rw[nI];let:1<=T.dep t:=by lia
   lia
theorem zEh{n n':T}:∀(ks:List Key)(t:T),doT .tak n ks t=doT .tak n' ks t
 | [],_=>rfl
 | [k],t=>by
  show(if vB .tak t k=true then Y (xA .tak t k n) else none)=if vB .tak t k=true then Y (xA .tak t k n') else none;let e:xA .tak t k n=xA .tak t k n':=by cases t<;>cases k<;>rfl
  rw[e]
 | k::k'::ks,t=>by
  rw[gX (by simp),gX (by simp)]
  cases xK t k with
  | none=>rfl
  | some s=>dsimp only;rw[zEh (k'::ks) s]
def allR(P:T->Prop):List Dd->T->Prop
 | [],t=>P t
 | d::ds,t=>P t/\∀r,doT d.1 d.2.2 d.2.1 t=Y r->allR P ds r
theorem allR.head{P:T->Prop}{ds:List Dd}{t:T}(h:allR P ds t):P t:=by
 cases ds with
 | nil=>exact h
 | cons d ds=>exact h.1
theorem allR.last{P:T->Prop}:∀{ds:List Dd}{t r:T},allR P ds t->xU ds t=Y r->P r
 | [],t,r,h,e=>by
  let:t=r:=mM e;rw[<-this];exact h
 | d::ds,t,r,h,e=>by
  let e':(doT d.1 d.2.2 d.2.1 t).bind (xU ds)=Y r:=e;obtain⟨s,h1,h2⟩:=Option.bind_eq_some_iff.mp e';exact(h.2 s h1).last h2
theorem allR.app{P:T->Prop}{b:List Dd}:∀{a:List Dd}{t:T},allR P a t->(∀r,xU a t=Y r->allR P b r)->allR P (a++b) t
 | [],t,_,hb=>hb t O
 | d::a,t,h,hb=>{h.1,λr hr=>(h.2 r hr).app λs hs=>hb s (by rw[uA hr];exact hs)}
theorem allR.pre{P P':T->Prop}{k:Key}(hk:okK k):∀{ds:List Dd}{t s:T},m9 t->xK t k=Y s->(∀d∈ds,zEd d)->allR P' ds s->P t->(∀s',P' s'->P (xA .put t k s'))->allR P (jB k ds) t
 | [],_,_,_,_,_,_,hp,_=>hp
 | d::ds,t,s,tp,hs,hd,h,hp,hq=>by
  refine{hp,λr hr=>?_};let hr':doT d.1 d.2.2 (k::d.2.1) t=Y r:=hr;rw[zPk tp hk hs (hd d mG)] at hr';obtain⟨s1,h1,e⟩:=pJ.mp hr';subst e;obtain⟨_,h2,h3⟩:=zFz (r:=s1) tp hk hs;exact allR.pre hk (zWp tp hs) h2 (λd' hd'=>hd d' (mE _ hd')) (h.2 s1 h1) (hq s1 (h.2 s1 h1).head) λs' hs'=>by rw[h3];exact hq s' hs'
theorem zTq{m:Nat}{t:T}{k:Key}(h:T.fewm m t):T.fewm m (xA .tak t k .non):=by
 cases t with
 | lst us=>
  cases k with
  | inr s=>exact h
  | inl i=>
   refine{?_,d4 λu hu=>(mX.mp hu).elim (λz=>b8 h.2 (pC z)) λz=>b8 h.2 (pO z)};let:=h.1;rw[mK,pH,nG]
   lia
 | dic ks us=>
  cases k with
  | inl i=>exact h
  | inr s=>
   obtain⟨a1,a2⟩:=zBv (n:=ts s) h.2.2.1;refine{jL h.1, ?_,a1,d4 λu hu=>b8 h.2.2.2 (gN hu)};let:=h.2.1;let:=h.2.2.1
   lia
 | _=>cases k<;>exact h
theorem zFa{m:Nat}:∀(ds:List Dd)(t:T),(∀d∈ds,∃k,d=(.tak,[k], .non))->T.fewm m t->allR (T.fewm m) ds t
 | [],_,_,h=>h
 | d::ds,t,hd,h=>{h,λr hr=>by
  obtain⟨k,rfl⟩:=hd d mG;let hr':(if vB .tak t k=true then Y (xA .tak t k .non) else none)=Y r:=hr
  by_cases hc:vB .tak t k=true
  ·rw[mO hc] at hr'
   rw[<-mM hr'];exact zFa ds _ (λd' hd'=>hd d' (mE _ hd')) (zTq h)
  ·rw[mL hc] at hr';cases hr'}
theorem zLa{m:Nat}:∀(ds:List Dd)(us:List T),(∀d∈ds,∃i n,d=(.ins,[.inl i],n)/\T.fewm m n)->T.fewm m (.lst us)->us...*+ds...*<=100000->allR (T.fewm m) ds (.lst us)
 | [],_,_,h,_=>h
 | d::ds,us,hd,h,hl=>{h,λr hr=>by
  refine wA (hd d mG) λi n r2_ hn=>?_;subst r2_;rw[nI] at hl;let hr':(if vB .ins (.lst us) (.inl i)=true then Y (T.lst (us.take i.toNat++n::us.drop i.toNat)) else none)=Y r:=hr
  by_cases hc:vB .ins (.lst us) (.inl i)=true
  ·rw[mO hc] at hr'
   rw[<-mM hr'];let el:(us.take i.toNat++n::us.drop i.toNat)...*=us...*+1:=by
    rw[mK,nI,pH,nG];lia
   refine zLa ds _ (λd' hd'=>hd d' (mE _ hd')) {∅,d4 λu hu=>?_} ∅;rcases mX.mp hu with z | z
   ·exact b8 h.2 (pC z)
   ·rcases mI.mp z with z | z
    ·rw[z];exact hn
    ·exact b8 h.2 (pO z)
  ·rw[mL hc] at hr';cases hr'}
theorem zHh{D:T->T->List Dd}{us ws:List T}{h m:Nat}(hlen:us...*<=60)(hD:∀(i:Nat) (t u:T),us[i]? =Y t->ws[i]? =Y u->(∀d∈D t u,zEd d)/\∃r,xU (D t u) t=Y r/\alk r u=true)(hR:∀(i:Nat) (t u:T),us[i]? =Y t->ws[i]? =Y u->allR (T.fewm m) (D t u) t)(hf:T.fewm m (.lst us)):∀j:Nat,h+j<=us...*->h+j<=ws...*->
  allR (T.fewm m) ((List.range j).flatMap λi=>jB (.inl ((h+i:Nat):Int)) (D (us.getD (h+i) .non) (ws.getD (h+i) .non))) (.lst us)
 | 0,_,_=>hf
 | j+1,h1,h2=>by
  let ih:=zHh (h:=h) hlen hD hR hf j ∅ ∅;refine jZ (zCs (h:=h) hlen hD j ∅ ∅) λL e1 e2 e3 _=>?_;let ht:us[h+j]? =some us[h+j]:=mJ ∅;let hw:ws[h+j]? =some ws[h+j]:=mJ ∅;let gt:us.getD (h+j) .non=us[h+j]:=by rw[mZ,ht];rfl
  let gw:ws.getD (h+j) .non=ws[h+j]:=by rw[mZ,hw];rfl
  let hL:L[h+j]? =some us[h+j]:=(e3 (h+j) (.inr (mB _))).trans ht;let hst:xK (.lst L) (.inl ((h+j:Nat):Int))=some us[h+j]:=by
   show L[((h+j:Nat):Int).toNat]? =_;rw[rR];exact hL
  rw[pY,sD];refine ih.app λr hr=>?_;rw[e1] at hr;let er:=mM hr;subst er;let hfL:=ih.last e1;rw[sV,gt,gw];exact allR.pre (k:=.inl ((h+j:Nat):Int)) {∅,∅} mH hst (hD _ _ _ ht hw).1 (hR _ _ _ ht hw) hfL λs' hs'=>(zIn hfL hst hs').1
theorem zWa{D:T->T->List Dd}{us ws:List T}{m:Nat}(h1:us...*<=60)(hw:ws...*<=60)(hD:∀(i:Nat) (t u:T),us[i]? =Y t->ws[i]? =Y u->(∀d∈D t u,zEd d)/\∃r,xU (D t u) t=Y r/\alk r u=true)(hR:∀(i:Nat) (t u:T),us[i]? =Y t->ws[i]? =Y u->allR (T.fewm m) (D t u) t)(hf:T.fewm m (.lst us))(hfw:d8 m ws):allR (T.fewm m) (dfR D us ws) (.lst us):=by
 obtain⟨h,hh⟩:∃h,ahead us ws=h:=⟨_,O⟩;obtain⟨e,he⟩:∃e,ahead (us.drop h).reverse (ws.drop h).reverse=e:=⟨_,O⟩;let hle:=vG us ws;let hel:=vG (us.drop h).reverse (ws.drop h).reverse;rw[hh] at hle;rw[he,pK,pK,nG,nG] at hel;obtain⟨mm,hm⟩:∃m,min us...* ws...* - e=m:=⟨_,O⟩;unfold dfR;dsimp only;rw[hh,he,hm];refine xI (zJa hle hel hm) λf1 f2 f3 f4=>?_;clear hle hel hm;refine jZ (zCs (h:=h) h1 hD (mm - h) ∅ ∅) λL e1 e2 _ _=>?_;let a1:=zHh (h:=h) h1 hD hR hf (mm - h) ∅ ∅;let e5:=zFl (L:=L) (e:=e) (m:=mm) (us...* - e - mm) ∅;rw[e2,show us...* - e - (us...* - e - mm)=mm by lia] at e5;let t1:∀r,xU ((List.range (mm - h)).flatMap λi=>jB (.inl ((h+i:Nat):Int)) (D (us.getD (h+i) .non) (ws.getD (h+i) .non))) (.lst us)=Y r->allR (T.fewm m) ((List.range (us...* - e - mm)).map λi=>((.tak,[.inl ((us...* - e - 1 - i:Nat):Int)], .non):Dd)) r:=λr hr=>zFa _ _ (λd hd=>by
   obtain⟨i,_,rfl⟩:=nB.mp hd;exact⟨_,O⟩) (a1.last hr)
 let a2:=a1.app t1;refine a2.app λr hr=>?_;let hfr:=a2.last hr;rw[kX,e1] at hr;let hr':xU _ (.lst L)=Y r:=hr;rw[e5] at hr';let er:=mM hr';subst er;refine zLa _ _ (λd hd=>?_) hfr ?_
 ·obtain⟨i,hi,rfl⟩:=nB.mp hd
  let hi':=rH.mp hi;refine nEEA _ _ O ?_;let hx:ws[mm+i]? =some ws[mm+i]:=mJ ∅;rw[mZ,hx];exact b8 hfw (mF hx)
 ·rw[mK,pH,nG,mC,sI]
  lia
theorem zLx{D:T->T->List Dd}{ks ls:List (List Nat)}{us ws:List T}{m:Nat}(nl:ls.Nodup)(lm:ls...*<=m)(fw:d8 m ws)(ll:ls...*=ws...*)(hD:∀k∈ks,k∈ls->(∀d∈D (zJ k ks us) (zJ k ls ws),zEd d)/\∃r,xU (D (zJ k ks us) (zJ k ls ws)) (zJ k ks us)=Y r/\alk r (zJ k ls ws)=true)(hR:∀k∈ks,k∈ls->allR (T.fewm m) (D (zJ k ks us) (zJ k ls ws)) (zJ k ks us)):
  ∀(S a:List (List Nat))(b:List T),T.fewm m (.dic a b)->(∀k∈a,k∈ls)->S.Nodup->(∀k∈S,k∈ls)->(∀k∈S,k∈a↔k∈ks)->(∀k∈S,k∈a->zJ k a b=zJ k ks us)->
  allR (T.fewm m) (S.flatMap λk=>if k∈ks then jB (nK k) (D (zJ k ks us) (zJ k ls ws)) else[(.put,[nK k],zJ k ls ws)]) (.dic a b)
 | [],a,b,hf,_,_,_,_,_=>hf
 | k::S,a,b,hf,ha,ns,h1,h2,h3=>by
  rw[nZ] at ns;let hkl:=h1 k mG;let na:=hf.1;let hl:=hf.2.2.1;let putm:∀r,T.fewm m r->T.fewm m (.dic (yU (a,b) k r).1 (yU (a,b) k r).2)/\∀k'∈(yU (a,b) k r).1,k'∈ls:=λr hr=>by
   let hsub:∀k'∈(yU (a,b) k r).1,k'∈ls:=λk' hk'=>(putT_in.mp hk').elim (ha k') λe=>by rw[e];exact hkl
   let hnd:=jE (us:=b) (n:=k) (t:=r) na;refine{{hnd, ?_,(gQ hl).1,d4 λu hu=>(zAs hu).elim (b8 hf.2.2.2) λe=>by rw[e];exact hr},hsub};exact nS (hnd.length_le_of_subset hsub) lm
  let fin:∀(r:T),T.fewm m r->∀ds,allR (T.fewm m) ds (.dic a b)->(∀q,xU ds (.dic a b)=Y q->q= .dic (yU (a,b) k r).1 (yU (a,b) k r).2)->allR (T.fewm m) (ds++S.flatMap λk=>if k∈ks then jB (nK k) (D (zJ k ks us) (zJ k ls ws)) else[(.put,[nK k],zJ k ls ws)]) (.dic a b):=λr hr ds hds hq=>by
   let hlook:∀k',k'∈a\/k'=k->zJ k' (yU (a,b) k r).1 (yU (a,b) k r).2=if k'=k then r else zJ k' a b:=λk' hk'=>(zHx hl hk').2;refine hds.app λq hq'=>?_;rw[hq q hq'];obtain⟨p1,p2⟩:=putm r hr;exact zLx nl lm fw ll hD hR S _ _ p1 p2 ns.2 (λk' hk'=>h1 k' (mE _ hk')) (λk' hk'=>by
    let hne:k'≠k:=λz=>ns.1 (z▸hk');rw[putT_in,<-h2 k' (mE _ hk')];exact{λz=>z.resolve_right hne, .inl}) (λk' hk' hm=>by
    let hne:k'≠k:=λz=>ns.1 (z▸hk');let hma:=(putT_in.mp hm).resolve_right hne;rw[hlook k' (.inl hma),mL hne];exact h3 k' (mE _ hk') hma)
  rw[cP]
  by_cases hk:k∈ks
  ·rw[mO hk]
   let hka:=(h2 k mG).mpr hk;obtain⟨ok,r,hr,_⟩:=hD k hk hkl;let har:=hR k hk hkl;let hst:xK (.dic a b) (nK k)=Y (zJ k ks us):=by
    show(if ts (tx k)∈a then Y (zJ (ts (tx k)) a b) else none)=_;rw[wI,mO hka,h3 k mG hka]
   let hrun:=zEo (k:=nK k) mH (D (zJ k ks us) (zJ k ls ws)) (t:=.dic a b) ⟨na,hl⟩ hst ok;rw[hr] at hrun;refine fin r (har.last hr) _ (allR.pre (k:=nK k) mH ⟨na,hl⟩ hst ok har hf λs' hs'=>(zIn hf hst hs').1) λq hq=>?_;rw[hrun] at hq;rw[<-mM hq];dsimp only;let ep:xA .put (.dic a b) (nK k) r= .dic (yU (a,b) k r).1 (yU (a,b) k r).2:=by
    show T.dic (yU (a,b) (ts (tx k)) r).1 (yU (a,b) (ts (tx k)) r).2=_;rw[wI]
   by_cases hn:D (zJ k ks us) (zJ k ls ws)= []
   ·rw[mO hn]
    rw[hn] at hr;let er:zJ k ks us=r:=mM hr;let:yU (a,b) k r=(a,xB k r a b):=mO hka;rw[this,kH a b na hl hka];show T.dic a b=T.dic a (b.set (a.idxOf k) r);let il:a.idxOf k<b...*:=by rw[<-hl];exact rD hka
    let hb:b[a.idxOf k]=r:=by
     rw[<-er,<-h3 k mG hka];exact(jT na (uH hka) (mJ il)).symm
    rw[<-hb,List.set_getElem_self]
   ·rw[mL hn,ep]
  ·rw[mL hk]
   let hfk:=b8 fw (yO hkl ll);let hdo:doT .put (zJ k ls ws) [nK k] (.dic a b)=Y (.dic (yU (a,b) k (zJ k ls ws)).1 (yU (a,b) k (zJ k ls ws)).2):=by
    rw[zCp O];show Y (T.dic (yU (a,b) (ts (tx k)) (zJ k ls ws)).1 (yU (a,b) (ts (tx k)) (zJ k ls ws)).2)=_;rw[wI]
   refine fin _ hfk _ {hf,λq hq=>?_} λq hq=>?_
   ·rw[hdo] at hq
    rw[<-mM hq];exact(putm _ hfk).1
   ·rw[uA hdo] at hq
    exact(mM hq).symm
theorem zVx{D:T->T->List Dd}{ks ls:List (List Nat)}{us ws:List T}{m:Nat}(hf:T.fewm m (.dic ks us))(hfw:T.fewm m (.dic ls ws))(hD:∀k∈ks,k∈ls->(∀d∈D (zJ k ks us) (zJ k ls ws),zEd d)/\∃r,xU (D (zJ k ks us) (zJ k ls ws)) (zJ k ks us)=Y r/\alk r (zJ k ls ws)=true)(hR:∀k∈ks,k∈ls->allR (T.fewm m) (D (zJ k ks us) (zJ k ls ws)) (zJ k ks us)):allR (T.fewm m) (dfC D ks us ls ws) (.dic ks us):=by
 let nk:=hf.1;let hl:=hf.2.2.1;let nl:=hfw.1;let hmem:∀k,k∈(yQ ks).filter (λk=>!decide (k∈ls))↔k∈ks/\k∉ls:=λk=>by
  rw[rA,mem_sortK];simp
 refine yA (zEv (ls:=ls) ((yQ ks).filter λk=>!decide (k∈ls)) ks us nk hl ((sO (yT ks)).mpr nk |>.filter _) λk hk=>((hmem k).mp hk).1) λa b e1 e2 e3 z_=>?_
 ext oA z_ e4 e5;let hka:∀k,k∈a↔k∈ks/\k∈ls:=λk=>by
  rw[e4 k,hmem k];constructor
  ·rintro⟨h1,h2⟩
   exact{h1,Classical.byContradiction λz=>h2 ⟨h1,z⟩}
  ·rintro⟨h1,h2⟩
   exact{h1,λz=>z.2 h2}
 let a1:allR (T.fewm m) (((yQ ks).filter λk=>!decide (k∈ls)).map λk=>((.tak,[nK k], .non):Dd)) (.dic ks us):=zFa _ _ (λd hd=>by
  obtain⟨k,_,rfl⟩:=nB.mp hd;exact⟨_,O⟩) hf
 unfold dfC;refine a1.app λr hr=>?_;let hfr:=a1.last hr;rw[e1] at hr;let er:=mM hr;subst er;exact zLx nl hfw.2.1 hfw.2.2.2 hfw.2.2.1 hD hR (yQ ls) a b hfr (λk hk=>((hka k).mp hk).2) ((sO (yT ls)).mpr nl) (λk hk=>mem_sortK.mp hk) (λk hk=>by
  rw[hka k];exact{λz=>z.1,λz=>{z,mem_sortK.mp hk}}) λk hk hm=>e5 k hm
mutual
theorem kJ:∀t:T,T.few t->lnar t=true->T.fewm 30 t
 | .lst us,h,n=>by
  let n':(decide (us...*<=60)&& xL us)=true:=n;rw[nU] at n';exact{h.1,zAd us h.2 n'.2}
 | .dic ks us,h,n=>by
  let n':(decide (ks...*<=30)&& xL us)=true:=n;rw[nU,nV] at n';exact{h.1,n'.1,h.2.2.1,zAd us h.2.2.2 n'.2}
 | .tup _,h,_=>h.elim
 | .non,_,_=>mH
 | .bl _,_,_=>mH
 | .int _,_,_=>mH
 | .str _,_,_=>mH
theorem zAd:∀us:List T,i3 us->xL us=true->d8 30 us
 | [],_,_=>mH
 | t::us,h,n=>by
  let n':(lnar t && xL us)=true:=n;rw[nU] at n';exact{kJ t h.1 n'.1,zAd us h.2 n'.2}
end
theorem zJk:∀(n:Nat)(t u:T),T.few t->T.few u->lnar t=true->lnar u=true->T.dep t<n->allR (T.fewm 30) (dfT n t u) t
 | 0,_,_,_,_,_,_,h=>absurd h (pM _)
 | n+1,t,u,hf,hu,hn,hnu,hd=>by
  let ft:=kJ t hf hn;let fu:=kJ u hu hnu;unfold dfT
  by_cases ha:alk t u=true
  ·rw[mO ha]
   exact ft
  rw[mL ha];let oth:allR (T.fewm 30) [((.put,[],u):Dd)] t:={ft,λr hr=>by
   let e:u=r:=mM hr;rw[<-e];exact fu}
  cases t with
  | lst us=>
   cases u with
   | lst ws=>
    let hn':(decide (us...*<=60)&& xL us)=true:=hn;rw[nU,nV] at hn';let hnu':(decide (ws...*<=60)&& xL ws)=true:=hnu;rw[nU,nV] at hnu';let hd':T.deps us+1<n+1:=hd;refine zWa (D:=dfT n) hn'.1 hnu'.1 (λi t u ht hw=>{zKc n t u, ?_}) (λi t u ht hw=>?_) ft fu.2
    ·let mt:=mF ht
     let:=b7 mt;exact zEu n t u (b5 hf.2 mt) (b5 hu.2 (mF hw)) (wY hn'.2 mt) ∅
    ·let mt:=mF ht
     let mw:=mF hw;let:=b7 mt;exact zJk n t u (b5 hf.2 mt) (b5 hu.2 mw) (wY hn'.2 mt) (wY hnu'.2 mw) ∅
   | _=>exact oth
  | dic ks us=>
   cases u with
   | dic ls ws=>
    let hn':(decide (ks...*<=30)&& xL us)=true:=hn;rw[nU,nV] at hn';let hnu':(decide (ls...*<=30)&& xL ws)=true:=hnu;rw[nU,nV] at hnu';let hd':T.deps us+1<n+1:=hd;refine zVx (D:=dfT n) ft fu (λk hk hkl=>{zKc n _ _, ?_}) (λk hk hkl=>?_)
    ·let mt:=yO hk hf.2.2.1
     let:=b7 mt;exact zEu n _ _ (b5 hf.2.2.2 mt) (b5 hu.2.2.2 (yO hkl hu.2.2.1)) (wY hn'.2 mt) ∅
    ·let mt:=yO hk hf.2.2.1
     let mw:=yO hkl hu.2.2.1;let:=b7 mt;exact zJk n _ _ (b5 hf.2.2.2 mt) (b5 hu.2.2.2 mw) (wY hn'.2 mt) (wY hnu'.2 mw) ∅
   | _=>exact oth
  | _=>exact oth
noncomputable def cst(d:Dd):Nat:=match d.1 with
 | .tak=>1
 | _=>T.sz d.2.2
noncomputable def qI:List Dd->Nat
 | []=>0
 | d::ds=>cst d+qI ds
theorem jM:∀a b:List Dd,qI (a++b)=qI a+qI b
 | [],b=>by show qI b=0+qI b;lia
 | d::a,b=>by show cst d+qI (a++b)=cst d+qI a+qI b;rw[jM a b];lia
theorem zFb(k:Key):∀ds:List Dd,qI (jB k ds)=qI ds
 | []=>rfl
 | d::ds=>by show cst d+qI (jB k ds)=cst d+qI ds;rw[zFb k ds]
theorem zIu:∀t:T,1<=T.sz t
 | .lst us=>by show 1<=T.szs us+1;lia
 | .dic _ us=>by show 1<=T.szs us+1;lia
 | .tup us=>by show 1<=T.szs us+1;lia
 | .non=>mB _
 | .bl _=>mB _
 | .int _=>mB _
 | .str _=>mB _
theorem zQo(d:Dd):1<=cst d:=by
 unfold cst;split
 ·exact mB _
 ·exact zIu _
theorem zEx:∀ds:List Dd,ds...*<=qI ds
 | []=>mB _
 | d::ds=>by
  let:=zEx ds;let:=zQo d;show ds...*+1<=cst d+qI ds
  lia
theorem jJ{us:List T}{h j:Nat}(hl:h+j<us...*):T.szs ((us.drop h).take (j+1))=T.szs ((us.drop h).take j)+T.sz us[h+j]:=by
 let e:(us.drop h).take (j+1)=(us.drop h).take j++ [us[h+j]]:=yK (by rw[sX];exact mJ hl);rw[e,c9]
 rfl
theorem zLk{D:T->T->List Dd}{us ws:List T}{h:Nat}(hD:∀(i:Nat) (t u:T),us[i]? =Y t->ws[i]? =Y u->qI (D t u)<=T.sz t+T.sz u):∀j:Nat,h+j<=us...*->h+j<=ws...*->qI ((List.range j).flatMap λi=>jB (.inl ((h+i:Nat):Int)) (D (us.getD (h+i) .non) (ws.getD (h+i) .non)))<=T.szs ((us.drop h).take j)+T.szs ((ws.drop h).take j)
 | 0,_,_=>mT _
 | j+1,h1,h2=>by
  let ih:=zLk (h:=h) hD j ∅ ∅;let ht:us[h+j]? =some us[h+j]:=mJ ∅;let hw:ws[h+j]? =some ws[h+j]:=mJ ∅;let gt:us.getD (h+j) .non=us[h+j]:=by rw[mZ,ht];rfl
  let gw:ws.getD (h+j) .non=ws[h+j]:=by rw[mZ,hw];rfl
  rw[pY,sD,jM,sV,zFb,gt,gw,jJ ∅,jJ ∅];let:=hD _ _ _ ht hw
  lia
theorem zMn{us:List T}{f:Nat->Key}{m:Nat}:∀j:Nat,m+j<=us...*->qI ((List.range j).map λi=>((.tak,[f i], .non):Dd))<=T.szs ((us.drop m).take j)
 | 0,_=>mT _
 | j+1,h=>by
  let ih:=zMn (f:=f) (us:=us) (m:=m) j ∅;rw[pY,mN,jM,jJ ∅];let:=zIu us[m+j];show _+(1+0)<=_
  lia
theorem zQj{ws:List T}{m:Nat}:∀j:Nat,m+j<=ws...*->qI ((List.range j).map λi=>((.ins,[.inl ((m+i:Nat):Int)],ws.getD (m+i) .non):Dd))<=T.szs ((ws.drop m).take j)
 | 0,_=>mT _
 | j+1,h=>by
  let ih:=zQj (ws:=ws) (m:=m) j ∅;let hw:ws[m+j]? =some ws[m+j]:=mJ ∅;let gw:ws.getD (m+j) .non=ws[m+j]:=by rw[mZ,hw];rfl
  rw[pY,mN,jM,jJ ∅];show _+(T.sz (ws.getD (m+j) .non)+0)<=_;rw[gw]
  lia
theorem zHg{us:List T}{h m j:Nat}(hm:h<=m):T.szs ((us.drop h).take (m - h))+T.szs ((us.drop m).take j)<=T.szs us:=by
 let e1:=c9 (us.take h) (us.drop h);let e2:=c9 ((us.drop h).take (m - h)) ((us.drop h).drop (m - h));let e3:=c9 ((us.drop m).take j) ((us.drop m).drop j);rw[rK] at e1 e2 e3;rw[List.drop_drop,show h+(m - h)=m by lia] at e2
 lia
theorem zZm{D:T->T->List Dd}{us ws:List T}(hD:∀(i:Nat) (t u:T),us[i]? =Y t->ws[i]? =Y u->qI (D t u)<=T.sz t+T.sz u):qI (dfR D us ws)<=T.szs us+T.szs ws:=by
 obtain⟨h,hh⟩:∃h,ahead us ws=h:=⟨_,O⟩;obtain⟨e,he⟩:∃e,ahead (us.drop h).reverse (ws.drop h).reverse=e:=⟨_,O⟩;let hle:=vG us ws;let hel:=vG (us.drop h).reverse (ws.drop h).reverse;rw[hh] at hle;rw[he,pK,pK,nG,nG] at hel;obtain⟨m,hm⟩:∃m,min us...* ws...* - e=m:=⟨_,O⟩;unfold dfR;dsimp only;rw[hh,he,hm,jM,jM];refine xI (zJa hle hel hm) λf1 f2 f3 f4=>?_;clear hle hel hm;let c1:=zLk (h:=h) hD (m - h) ∅ ∅;let c2:=zMn (f:=λi=>.inl ((us...* - e - 1 - i:Nat):Int)) (us:=us) (m:=m) (us...* - e - m) ∅;let c3:=zQj (ws:=ws) (m:=m) (ws...* - e - m) ∅;let s1:=zHg (us:=us) (h:=h) (m:=m) (j:=us...* - e - m) ∅;let s2:=zHg (us:=ws) (h:=h) (m:=m) (j:=ws...* - e - m) ∅
 lia
theorem zBw{ks:List (List Nat)}{us:List T}:∀S:List (List Nat),qI (S.map λk=>((.tak,[nK k], .non):Dd))<=T.szs (S.map λk=>zJ k ks us)
 | []=>mT _
 | k::S=>by
  let:=zBw (ks:=ks) (us:=us) S;let:=zIu (zJ k ks us);show 1+qI _<=T.sz (zJ k ks us)+T.szs _
  lia
theorem zDv{D:T->T->List Dd}{ks ls:List (List Nat)}{us ws:List T}(hD:∀k∈ks,k∈ls->qI (D (zJ k ks us) (zJ k ls ws))<=T.sz (zJ k ks us)+T.sz (zJ k ls ws)):∀S:List (List Nat),(∀k∈S,k∈ls)->qI (S.flatMap λk=>if k∈ks then jB (nK k) (D (zJ k ks us) (zJ k ls ws)) else[(.put,[nK k],zJ k ls ws)])<=T.szs ((S.filter λk=>decide (k∈ks)).map λk=>zJ k ks us)+T.szs (S.map λk=>zJ k ls ws)
 | [],_=>mT _
 | k::S,hs=>by
  let ih:=zDv hD S λk' hk'=>hs k' (mE _ hk');rw[cP,jM];let e:T.szs ((k::S).map λk=>zJ k ls ws)=T.sz (zJ k ls ws)+T.szs (S.map λk=>zJ k ls ws):=rfl;rw[e]
  by_cases hk:k∈ks
  ·rw[mO hk,zFb,tO (p:=λk=>decide (k∈ks)) (nH hk)]
   let:=hD k hk (hs k mG);let e2:T.szs ((k::S.filter λk=>decide (k∈ks)).map λk=>zJ k ks us)=T.sz (zJ k ks us)+T.szs ((S.filter λk=>decide (k∈ks)).map λk=>zJ k ks us):=rfl;rw[e2]
   lia
  ·rw[mL hk,tP (p:=λk=>decide (k∈ks)) (by rw[nL hk];decide)]
   show T.sz (zJ k ls ws)+0+_<=_
   lia
theorem zZb{D:T->T->List Dd}{ks ls:List (List Nat)}{us ws:List T}(nk:ks.Nodup)(hl:ks...*=us...*)(nl:ls.Nodup)(ll:ls...*=ws...*)(hD:∀k∈ks,k∈ls->qI (D (zJ k ks us) (zJ k ls ws))<=T.sz (zJ k ks us)+T.sz (zJ k ls ws)):qI (dfC D ks us ls ws)<=T.szs us+T.szs ws:=by
 unfold dfC;rw[jM];let c1:=zBw (ks:=ks) (us:=us) ((yQ ks).filter λk=>!decide (k∈ls));let c2:=zDv hD (yQ ls) λk hk=>mem_sortK.mp hk;let p1:=gT ((yT ls).map λk=>zJ k ls ws);rw[kK nl ll] at p1;let nsk:=(sO (yT ks)).mpr nk;let nsl:=(sO (yT ls)).mpr nl;let pm:(((yQ ks).filter λk=>!decide (k∈ls))++(yQ ls).filter λk=>decide (k∈ks)).Perm ks:=by
  refine(aO ?_ nk).mpr λk=>?_
  ·refine cO.mpr {nsk.filter _,nsl.filter _,λa ha b hb z=>?_}
   subst z;let h1:=(rA.mp ha).2;let h2:=mem_sortK.mp (rA.mp hb).1;simp[h2] at h1
  ·rw[mX,rA,rA,mem_sortK,mem_sortK]
   by_cases c:k∈ls<;>simp[c]
 let p2:=gT (pm.map λk=>zJ k ks us);rw[mN,c9,kK nk hl] at p2
 lia
theorem zGo:∀(n:Nat)(t u:T),T.few t->T.few u->qI (dfT n t u)<=T.sz t+T.sz u
 | 0,_,_,_,_=>mT _
 | n+1,t,u,hf,hu=>by
  unfold dfT
  by_cases ha:alk t u=true
  ·rw[mO ha];exact mT _
  rw[mL ha];let oth:qI [((.put,[],u):Dd)]<=T.sz t+T.sz u:=by
   show T.sz u+0<=_
   lia
  cases t with
  | lst us=>
   cases u with
   | lst ws=>
    let:=zZm (D:=dfT n) (us:=us) (ws:=ws) λi t u ht hw=>zGo n t u (b5 hf.2 (mF ht)) (b5 hu.2 (mF hw));show _<=T.szs us+1+(T.szs ws+1);dsimp only
    lia
   | _=>exact oth
  | dic ks us=>
   cases u with
   | dic ls ws=>
    let:=zZb (D:=dfT n) hf.1 hf.2.2.1 hu.1 hu.2.2.1 λk hk hkl=>zGo n _ _ (b5 hf.2.2.2 (yO hk hf.2.2.1)) (b5 hu.2.2.2 (yO hkl hu.2.2.1));show _<=T.szs us+1+(T.szs ws+1);dsimp only
    lia
   | _=>exact oth
  | _=>exact oth
structure Gd(t:T):Prop where
 f:T.few t
 g:T.gk t
 n:lnar t=true
theorem Gd.row{us:List T}(h:Gd (.lst us)):us...*<=60/\∀t∈us,Gd t:=by
 let n':(decide (us...*<=60)&& xL us)=true:=h.n;rw[nU,nV] at n';exact{n'.1,λt ht=>{b5 h.f.2 ht,b9 h.g ht,wY n'.2 ht}}
theorem Gd.rcd{ks:List (List Nat)}{us:List T}(h:Gd (.dic ks us)):ks...*<=30/\(∀k∈ks,yY k=true)/\∀t∈us,Gd t:=by
 let n':(decide (ks...*<=30)&& xL us)=true:=h.n;rw[nU,nV] at n';exact nAA n'.1 h.g.1 (λt ht=>{b5 h.f.2.2.2 ht,b9 h.g.2 ht,wY n'.2 ht})
theorem Gd.non:Gd .non:=⟨mH,mH,O⟩
structure Dok(N Zy:Nat)(d:Dd):Prop where
 s:∀k∈d.2.1,okS k
 l:d.2.1...*+T.dep d.2.2<=N
 g:Gd d.2.2
 z:T.sz d.2.2<=Zy
theorem Dok.pre{N M Zy W:Nat}{k:Key}{ds:List Dd}(hk:okS k)(hN:N+1<=M)(hZ:Zy<=W)(h:∀d∈ds,Dok N Zy d):∀d∈jB k ds,Dok M W d:=λd hd=>by
 obtain⟨d',hd',rfl⟩:=nB.mp hd;let:=h d' hd';refine{λq hq=>(mI.mp hq).elim (λe=>by rw[e];exact hk) (this.s q), ?_,this.g,nS this.z hZ};let:=this.l;show d'.2.1...*+1+T.dep d'.2.2<=M
 lia
theorem zNs:∀(n:Nat)(t u:T),Gd t->Gd u->∀d∈dfT n t u,Dok (max (T.dep t) (T.dep u)) (T.sz u) d
 | 0,_,_,_,_,_,h=>nomatch h
 | n+1,t,u,ht,hu,d,h=>by
  unfold dfT at h
  by_cases ha:alk t u=true
  ·rw[mO ha] at h;exact nomatch h
  rw[mL ha] at h;let oth:d∈ [((.put,[],u):Dd)]->Dok (max (T.dep t) (T.dep u)) (T.sz u) d:=λh=>by
   rw[nC.mp h];exact{λ_ z=>(nomatch z),by show 0+T.dep u<=_;lia,hu,mB _}
  cases t with
  | lst us=>
   cases u with
   | lst ws=>
    obtain⟨l1,g1⟩:=ht.row;obtain⟨l2,g2⟩:=hu.row;let et:T.dep (.lst us)=T.deps us+1:=rfl;let eu:T.dep (.lst ws)=T.deps ws+1:=rfl;let ez:T.sz (.lst ws)=T.szs ws+1:=rfl;let h':d∈dfR (dfT n) us ws:=h;obtain⟨k,hh⟩:∃k,ahead us ws=k:=⟨_,O⟩;obtain⟨e,he⟩:∃e,ahead (us.drop k).reverse (ws.drop k).reverse=e:=⟨_,O⟩;let hle:=vG us ws;let hel:=vG (us.drop k).reverse (ws.drop k).reverse;rw[hh] at hle;rw[he,pK,pK,nG,nG] at hel;obtain⟨m,hm⟩:∃m,min us...* ws...* - e=m:=⟨_,O⟩;unfold dfR at h';dsimp only at h';rw[hh,he,hm] at h';refine xI (zJa hle hel hm) λf1 f2 f3 f4=>?_;clear hle hel hm hh he h;rcases mX.mp h' with h | h
    ·rcases mX.mp h with h | h
     ·obtain⟨i,hi,h⟩:=bI.mp h
      let hi':=rH.mp hi;let hxt:us[k+i]? =some us[k+i]:=mJ ∅;let hxw:ws[k+i]? =some ws[k+i]:=mJ ∅;let gt:us.getD (k+i) .non=us[k+i]:=by rw[mZ,hxt];rfl
      let gw:ws.getD (k+i) .non=ws[k+i]:=by rw[mZ,hxw];rfl
      rw[gt,gw] at h;let mt:=mF hxt;let mw:=mF hxw;let d1:=b7 mt;let d2:=b7 mw;let z2:=c8 mw;exact Dok.pre (k:=.inl ((k+i:Nat):Int)) {∅,∅} ∅ ∅ (zNs n _ _ (g1 _ mt) (g2 _ mw)) d h
     ·obtain⟨i,hi,rfl⟩:=nB.mp h
      let hi':=rH.mp hi;refine{λk hk=>?_,by show 1+0<=_;lia,Gd.non,by show 1<=_;lia};rw[nC.mp hk];exact{∅,∅}
    ·obtain⟨i,hi,rfl⟩:=nB.mp h
     let hi':=rH.mp hi;let hxw:ws[m+i]? =some ws[m+i]:=mJ ∅;let gw:ws.getD (m+i) .non=ws[m+i]:=by rw[mZ,hxw];rfl
     let mw:=mF hxw;let d2:=b7 mw;let z2:=c8 mw;rw[gw];refine{λk hk=>?_,by show 1+T.dep ws[m+i]<=_;lia,g2 _ mw,by show T.sz ws[m+i]<=_;lia};rw[nC.mp hk];exact{∅,∅}
   | _=>exact oth h
  | dic ks us=>
   cases u with
   | dic ls ws=>
    obtain⟨l1,o1,g1⟩:=ht.rcd;obtain⟨l2,o2,g2⟩:=hu.rcd;let et:T.dep (.dic ks us)=T.deps us+1:=rfl;let eu:T.dep (.dic ls ws)=T.deps ws+1:=rfl;let ez:T.sz (.dic ls ws)=T.szs ws+1:=rfl;let nok:∀k,yY k=true->okS (nK k):=λk h=>by
     show yY (ts (tx k))=true;rw[wI];exact h
    let h':d∈dfC (dfT n) ks us ls ws:=h;unfold dfC at h';rcases mX.mp h' with h | h
    ·obtain⟨k,hk,rfl⟩:=nB.mp h
     let hk':=mem_sortK.mp (rA.mp hk).1;refine{λq hq=>?_,by show 1+0<=_;lia,Gd.non,by show 1<=_;lia};rw[nC.mp hq];exact nok k (o1 k hk')
    ·obtain⟨k,hk,h⟩:=bI.mp h
     let hkl:=mem_sortK.mp hk;let mw:=yO hkl hu.f.2.2.1;let d2:=b7 mw;let z2:=c8 mw
     by_cases c:k∈ks
     ·rw[mO c] at h
      let mt:=yO c ht.f.2.2.1;let d1:=b7 mt;exact Dok.pre (nok k (o2 k hkl)) ∅ ∅ (zNs n _ _ (g1 _ mt) (g2 _ mw)) d h
     ·rw[mL c] at h
      rw[nC.mp h];refine{λq hq=>?_,by show 1+T.dep (zJ k ls ws)<=_;lia,g2 _ mw,by show T.sz (zJ k ls ws)<=_;lia};rw[nC.mp hq];exact nok k (o2 k hkl)
   | _=>exact oth h
  | _=>exact oth h
section
variable{P:V3}{w:V4}{K:A7}{mg:Str->Option V0}{base:V5}{f:V1}{fd:V7}
noncomputable def zEa:V->Bool
 | .str x=>yY (ts x)
 | _=>false
def zMr:Sp:=λvs H Q _=>∃(v:V)(t:String),vs= [v]/\tyS H v=Y t/\(∀x,v= .str x->x...*<=1000)/\∀H',Same H H'->Q (.bl (zEa v)) H'
theorem zZw{H:Hp}{v:V}{t:String}(ht:tyS H v=Y t)(h:zT t "str" =false):zEa v=false:=by
 cases v with
 | str x=>cases ht;exact absurd h ∎
 | _=>rfl
theorem yCd{H:Hp}{v:V}{t:String}(ht:tyS H v=Y t)(h:¬zT t "str" =false):∃x,v= .str x:=by
 cases v with
 | str x=>exact⟨x,O⟩
 | ref a=>
  let h':(match H a with | some (.lst _)=>some "list" | some (.tup _)=>some "tuple" | some (.dK _)=>some "dict" | _=>none)=Y t:=ht
  split at h'<;>first |(cases h';exact absurd ∎ h)| cases h'
 | non=>cases ht;exact absurd ∎ h
 | bl b=>cases ht;exact absurd ∎ h
 | int b=>cases ht;exact absurd ∎ h
 | byt b=>cases ht
 | flt b=>cases ht
 | ty b=>cases ht
structure Ms(mg:Str->Option V0):Prop where
 LETTERS:∃t,mg "LETTERS" =Y (.str (A6 "abcdefghijklmnopqrstuvwxyz") t)
 NAME_SIGNS:∃t,mg "NAME_SIGNS" =Y (.str (A6 "abcdefghijklmnopqrstuvwxyz0123456789") t)
 MOST_IN_NAME:∃t,mg "MOST_IN_NAME" =Y (.int 12 t)
 MOST_IN_TEXT:∃t,mg "MOST_IN_TEXT" =Y (.int 30 t)
 MOST_IN_ROW:∃t,mg "MOST_IN_ROW" =Y (.int 60 t)
 MOST_IN_RECORD:∃t,mg "MOST_IN_RECORD" =Y (.int 30 t)
 MOST_DEPTH:∃t,mg "MOST_DEPTH" =Y (.int 8 t)
 MOST_SIZE:∃t,mg "MOST_SIZE" =Y (.int 200 t)
 MOST_STEPS:∃t,mg "MOST_STEPS" =Y (.int 8 t)
 MOST_DEEDS:∃t,mg "MOST_DEEDS" =Y (.int 400 t)
abbrev zJm:V6:=top 10
theorem scIsName:zY ["thing"] ["thing"] (zN zJm):=by walk_at "sc"
theorem zOg(F:Fun K "is_name" "is_name" zJm f fd)(B:Bl mg)(M:Ms mg):FnOk P w K mg base CX0 1 f fd ["thing"] zMr:=by
 refine F.ok scIsName (λvs H Q E h=>?_) (λc A o s H vs Q E hr h=>?_)
 ·ext wA h v t r2_ _
  subst r2_
  rfl
 ext yA h v t r2_ ht hl q;subst r2_;let nd:=scIsName.nd;refine{_,(zE (zS (d9 (qM (xR (yB (pI B.isinstance zH B.str qZ (pv 0)))) (jG (xR (zLj uR uR zF (zM zCv O B.len yV (zA (pv 0) zB)) (zCq O M.MOST_IN_NAME)))))) (zG (zK wZ)) zL)
  (zG (zK (vO (yW zOy (yJ zDf (pv 0) zF (λ_ _=>O)) (yBf O M.LETTERS) (by with_unfolding_all rfl)) (vU (zM (qQ O) O B.all uM (zA (xW (own:=["sign"]) (F:=[]) {O,tb_g%,tb_g%,tb_g%, .nil} O (zVt (pv 0)) (λ_ _ _ _=>yF (i:=0) (by show(xX ["sign"] []).Nodup;decide+kernel) O (nN O)) (λ_ _ _ _=>xJ) (λ_ _ _ _=>(yW zOy (pv 0) (yBf O M.NAME_SIGNS) (by with_unfolding_all rfl)))) zB))))))), ?_}
 walk_at "st";lk;refine nEA t ht ?_
 by_cases hs:zT t "str" =false
 ·rw[mO hs]
  let e:zEa v=false:=zZw ht hs;rw[<-e];exact q H (Same.refl H)
 ·rw[mL hs]
  obtain⟨x,rfl⟩:=yCd ht hs;let hx:=hl x O;let hlen:=zDo x;refine zCr x O ∅ ?_
  by_cases h1:(1:Int)<=(x...*:Int)
  ·rw[mO h1]
   by_cases h12:¬(x...*:Int)<=12
   ·rw[mO h12]
    let e:zEa (.str x)=false:=by
     show yY (ts x)=false;unfold yY;rw[show decide ((ts x)...*<=12)=false from nL ∅];simp
    rw[<-e];exact q H (Same.refl H)
   rw[mL h12];obtain⟨c,r,hc⟩:∃c r,ts x=c::r:=by
    cases e:ts x with
    | nil=>rw[e] at hlen;simp at hlen;lia
    | cons c r=>exact⟨c,r,O⟩
   refine zDb (by rw[mQ];lia) (c:=c) (by rw[hc];exact yH (j:=0) O) {c,O, ?_};let en:zEa (.str x)=(decide (c∈letL)&& (ts x).all λc=>decide (c∈letL++zEb)):=by
    show yY (ts x)=_;unfold yY;rw[show decide ((ts x)...*<=12)=true from nH ∅,show decide (1<=(ts x)...*)=true from nH ∅,hc];simp
   simp only[yDy]
   by_cases hcl:c∈letL
   ·rw[mO hcl]
    refine nEA x O (zLi (λi ys H'=>Same H H'/\ys=(((ts x).take i).map λc=>decide (c∈letL++zEb)).map V.bl) (by rw[mQ];lia) {Same.refl _,O} ?_ ?_)
    ·rintro i d ys H' hd _ ⟨hS,rfl⟩
     lk;refine zCr d O hS ?_;let e:(ts x).take (i+1)=(ts x).take i++ [d]:=by rw[List.take_add_one,hd];rfl
     rw[e,zJz];simp only[mN,mV,rB]
    ·rintro ys H' hl' ⟨hS,rfl⟩ p hp
     refine wT p O _ (SqL.of zC) ?_;let e:zEa (.str x)=((((ts x).take (ts x)...*).map λc=>decide (c∈letL++zEb)).all id):=by
      rw[en,nH hcl,Bool.true_and,pA,cT];rfl
     rw[<-e];exact q _ (hS.trans (zD hp _))
   ·rw[mL hcl]
    let e:zEa (.str x)=false:=by rw[en,nL hcl];rfl
    rw[<-e];exact q H (Same.refl H)
  ·rw[mL h1]
   let e:zEa (.str x)=false:=by
    let:ts x= []:=tZ ∅;show yY (ts x)=false;rw[this];rfl
   rw[<-e];exact q H (Same.refl H)
abbrev zNx:V6:=top 35
def zOl:Sp:=λvs H Q _=>∃(v:V)(t:T),vs= [v]/\Rep H v t/\∀H',Same H H'->Q (wM (tyT t)) H'
theorem yCz{k:Nat}{ps:List Str}(h:FnOk P w K mg base CX0 k f fd ps zCn):FnOk P w K mg base CX0 k f fd ps zOl:=
 h.imp λvs H Q E ⟨v,t,e,hv,q⟩=>{v,tyT t,e,(Rep.rp _ _ hv).ty,q}
noncomputable def zAq:T->Bool
 | .int i=>decide (0<=i/\i<60)
 | _=>false
def zCo:Sp:=λvs H Q _=>∃(v:V)(t:T),vs= [v]/\Rep H v t/\∀H',Same H H'->Q (.bl (zAq t)) H'
theorem scPlace:zY ["thing"] ["thing"] (zN zNx):=by walk_at "sc"
theorem zUb(F:Fun K "is_place" "is_place" zNx f fd)(B:Bl mg)(M:Ms mg)(Gkind_of:Dn P w K mg base 1 "kind_of" ["thing"] zOl):FnOk P w K mg base CX0 2 f fd ["thing"] zCo:=by
 refine F.ok scPlace (λvs H Q E h=>?_) (λc A o s H vs Q E hr h=>?_)
 ·ext wA h v t r2_ _
  subst r2_
  rfl
 ext yN h v t r2_ hv q;subst r2_;let nd:=scPlace.nd;refine nEA _ (zG (zK (vO (yW xG (zP Gkind_of hr ∅ O (zA (pv 0) zB)) zU (zO _)) (vU (zLu uR kA zF (pv 0) (zCq O M.MOST_IN_ROW)))))) ?_;walk_at "st";lk;refine{v,t,O,hv,λH1 g1=>?_};let q:=q H1 g1
 cases t with
 | int i=>
  cases (show v=_ from hv);refine{O,iP (show wM "int" =V.str (A6 "number") by decide+kernel) {i,O, ?_}}
  by_cases c0:0<=i
  ·refine iP c0 {i,O, ?_}
   let e:zAq (.int i)=decide (i<60):=by simp[zAq,c0]
   rw[<-e];exact q
  ·refine iN c0 ?_
   let e:zAq (.int i)=false:=by simp[zAq,c0]
   rw[<-e];exact q
 | non=>exact{O,iN (show¬wM "NoneType" =V.str (A6 "number") by decide+kernel) q}
 | bl b=>exact{O,iN (show¬wM "bool" =V.str (A6 "number") by decide+kernel) q}
 | str b=>exact{O,iN (show¬wM "str" =V.str (A6 "number") by decide+kernel) q}
 | lst b=>exact{O,iN (show¬wM "list" =V.str (A6 "number") by decide+kernel) q}
 | dic b c=>exact{O,iN (show¬wM "dict" =V.str (A6 "number") by decide+kernel) q}
 | tup b=>exact{O,iN (show¬wM "tuple" =V.str (A6 "number") by decide+kernel) q}
abbrev sLw:V6:=top 43
abbrev sCc:V6:=top 44
abbrev yCq:V6:=top 46
abbrev yCj:V6:=top 47
abbrev zUg:V6:=top 45
theorem zKy{k:Key}(h:okK k)(i:Int)(e:k= .inl i):zAq (.int i)=true:=by
 subst e;let h':0<=i/\i<=59:=h;simp only[zAq,nV]
 lia
theorem cutTo(xs:List V){i:Int}(h:0<=i):kQ xs none ↥i=xs.take i.toNat:=by
 obtain⟨n,rfl⟩:=sL h;unfold kQ;rw[HT.sIx_nat,HT.sIx_none,sP,aV,rR]
 by_cases c:n<=xs...*
 ·rw[tX c]
 ·rw[tH ∅,pW (mB _),pW ∅]
theorem zKf(xs:List V){i:Int}(h:0<=i):kQ xs ↥i none=xs.drop i.toNat:=by
 obtain⟨n,rfl⟩:=sL h;unfold kQ;rw[HT.sIx_nat,HT.sIx_none,rR]
 by_cases c:n<=xs...*
 ·rw[tX c,pW (by rw[nG];exact mB _)]
 ·rw[tH ∅,pR (mB _),pR ∅,cL]
theorem scLw:zY ["thing","step"] ["thing","step"] (zN sLw):=by walk_at "sc"
theorem ok_lw(F:Fun K "leads_within" "leads_within" sLw f fd)(B:Bl mg)(Gleads_on:Dn P w K mg base 1 "leads_on" ["thing","step"] zXr)(Gis_place:Dn P w K mg base 2 "is_place" ["thing"] zCo):FnOk P w K mg base CX0 3 f fd ["thing","step"] zXr:=by
 refine F.ok scLw (λvs H Q E h=>?_) (λc A o s H vs Q E hr h=>?_)
 ·ext vZ h v t k r3_ _
  subst r3_
  rfl
 ext yC h v t k r3_ hv z_;ext xI z_ hp hz hk q;subst r3_;let nd:=scLw.nd;refine nEA _ (zG (zK (vO (zP Gleads_on hr ∅ O (zA (pv 0) (zA (pv 1) zB))) (vU (yBo (pI B.isinstance zH B.str qZ (pv 1)) (vU (zP Gis_place hr ∅ O (zA (pv 1) zB)))))))) ?_;walk_at "st";lk;refine{v,t,k,O,hv,hp,hz,hk,λH1 g1=>{_,O, ?_}};let q1:=q H1 g1
 cases hb:(xK t k).isSome with
 | false=>rw[hb] at q1;exact iN ∎ q1
 | true=>
  refine iP O ?_
  cases k with
  | inr x=>rw[hb] at q1;exact{"str",O,iP ∎ q1}
  | inl i=>
   refine nEA ("int") O (iN ∎ {_, .int i,O,O,λH2 g2=>?_});rw[zKy hk i O];let q2:=q H2 (g1.trans g2);rw[hb] at q2;exact q2
def spCc:Sp:=λvs H Q _=>∃(v:V)(t:T)(w:Wd)(k:Key),vs= [v, .str w.s,kV k]/\Rep H v t/\T.pure t/\T.sz t<=100000/\okK k/\∀H',Same H H'->Q (.bl (vB w t k)) H'
theorem scCc:zY ["holder","word","step"] ["holder","word","step"] (zN sCc):=by walk_at "sc"
theorem ok_cc(F:Fun K "can_change" "can_change" sCc f fd)(B:Bl mg)(Gleads_within:Dn P w K mg base 3 "leads_within" ["thing","step"] zXr)(Gis_place:Dn P w K mg base 2 "is_place" ["thing"] zCo):FnOk P w K mg base CX0 4 f fd ["holder","word","step"] spCc:=by
 refine F.ok scCc (λvs H Q E h=>?_) (λc A o s H vs Q E hr h=>?_)
 ·ext yS h v t wd k r4_ _
  subst r4_
  rfl
 ext yS h v t wd k r4_ z_;ext vS z_ hv hp hz hk q;subst r4_;let nd:=scCc.nd;refine{_,(zE (zS (zQ xG (pv 1) zU (zO _)) (zG (zK (zP Gleads_within hr ∅ O (zA (pv 0) (zA (pv 2) zB))))) zL)
  (zE (zS (yB (pI B.isinstance zH B.str qZ (pv 2))) (zG (zK (vO (yW xG (pv 1) zU (zO _)) (vU (pI B.isinstance zH B.dict xF (pv 0)))))) zL)
  (zG (zK (vO (pI B.isinstance zH B.list yX (pv 0)) (vO (zP Gis_place hr ∅ O (zA (pv 2) zB)) (vU (yW uR (pv 2) (zM yI O B.len yV (zA (pv 0) zB)) (zO _))))))))), ?_}
 walk_at "st";lk;let q0:=q H (Same.refl H);let tPut:¬Wd.put.s=A6 "take":=by decide+kernel
 let tIns:¬Wd.ins.s=A6 "take":=by decide+kernel
 let pIns:¬Wd.ins.s=A6 "put":=by decide+kernel
 let row:∀(wd:Wd)(i:Int),k= .inl i->(∀us,t= .lst us->vB wd t k=decide (i<=(us...*:Int)))->((∀us,t≠ .lst us)->vB wd t k=false)->(∀H',Same H H'->Q (.bl (vB wd t k)) H')->∃x,tyS H v=Y x/\if zT x "list" =true then zCo [kV k] H (λx H1=>∃c,x=V.bl c/\if c=true then∃p,v=V.ref p/\∃ys,SqL K H1 p ys/\∃i,kV k=V.int i/\Q (V.bl (decide (i<=(ys...*:Int)))) H1 else Q (V.bl false) H1) E0 else Q (V.bl false) H:=by
  intro wd i ek h1 h2 q;subst ek;let no:(∀us,t≠ .lst us)->Q (.bl false) H:=λhne=>by let:=q H (Same.refl H);rw[h2 hne] at this;exact this
  cases t with
  | lst us=>
   ext yN hv b xs r2_ hb hx;subst r2_;refine nEA ("list") (vX hb) (iP ∎ {_, .int i,O,O,λH2 g2=>{_,O, ?_}});rw[zKy hk i O];refine iP O {b,O,xs,SqL.of (g2 _ _ hb),i,O, ?_};let q2:=q H2 g2;rw[h1 us O] at q2;rw[hx...*];exact q2
  | dic ks us=>exact{_,hv.ty,iN (by simp[tyT,zT]) (no (by intro us z;cases z))}
  | tup us=>exact hp.elim
  | non=>exact{_,hv.ty,iN (by simp[tyT,zT]) (no (by intro us z;cases z))}
  | bl b=>exact{_,hv.ty,iN (by simp[tyT,zT]) (no (by intro us z;cases z))}
  | int b=>exact{_,hv.ty,iN (by simp[tyT,zT]) (no (by intro us z;cases z))}
  | str b=>exact{_,hv.ty,iN (by simp[tyT,zT]) (no (by intro us z;cases z))}
 cases wd with
 | tak=>exact iP O ⟨v,t,k,O,hv,hp,hz,hk,q⟩
 | put=>
  refine iN tPut ?_
  cases k with
  | inr x=>
   refine nEA ("str") O (iP ∎ (iP O {_,hv.ty, ?_}));let e:zT (tyT t) "dict" =vB .put t (.inr x):=by cases t<;>first | rfl |(simp[tyT,zT,vB])
   rw[e];exact q0
  | inl i=>exact{"int",O,iN ∎ (row .put i O (λus e=>by subst e;rfl) (λh=>by cases t<;>first | rfl | exact absurd O (h _)) q)}
 | ins=>
  refine iN tIns ?_
  cases k with
  | inr x=>
   refine nEA ("str") O (iP ∎ (iN pIns ?_));let e:vB .ins t (.inr x)=false:=by cases t<;>rfl
   rw[e] at q0;exact q0
  | inl i=>exact{"int",O,iN ∎ (row .ins i O (λus e=>by subst e;rfl) (λh=>by cases t<;>first | rfl | exact absurd O (h _)) q)}
def yBq:Sp:=λvs H Q _=>∃(a:V1)(ps:List (Key×V))(ks:List (List Nat))(us:List T)(w:Wd)(x:Str)(vn:V)(n:T),vs= [.ref a, .str w.s, .str x,vn]/\H a=Y (.dK ps)/\ps.map (·.1)=ks.map nK/\Reps H (ps.map (·.2)) us/\ks.Nodup/\ks...*=us...*/\us...*<=1000/\(w= .put\/w= .tak/\ts x∈ks)/\Rep H vn n/\∀p H',Same H H'->Rep H' (.ref p) (xA w (.dic ks us) (.inr x) n)->Q (.ref p) H'
theorem scRec:zY ["record","word","name","new","changed"] ["record","word","name","new"] (zN yCq):=by walk_at "sc"
theorem yEf(F:Fun K "record_changed" "record_changed" yCq f fd)(B:Bl mg):FnOk P w K mg base CX0 1 f fd ["record","word","name","new"] yBq:=by
 refine F.ok scRec (λvs H Q E h=>?_) (λc A o s H vs Q E hr h=>?_)
 ·ext yM h a ps ks us wd z_
  ext vZ z_ x vn n r8_ _;subst r8_
  rfl
 ext yM h a ps ks us wd z_;ext yC z_ x vn n r8_ ha z_;ext yR z_ hkk hs nk hku hul z_;ext oAA z_ hw hn q;subst r8_;let nd:=scRec.nd;let hu:=wR hr;refine{_,(zE (pS 4 nd (yP zKz O B.dict xF (zA (pv 0) zB)))
  (zE (zS (zQ xG (pv 1) zU (zO _)) (zG (wC (zLe (pv 4) (pv 2) ⟨O,O,O,O⟩))) (zG (kE hu (pv 4) (pv 2) (pv 3) O)))
  (zG (zK (pv 4))))), ?_}
 walk_at "st";lk;refine nEA ps ha (λl hl=>?_);let s1:=zD hl (.dK ps);let hl1:=zC (H:=H) (a:=l) (o:=.dK ps);let hla:∀o,Same H (upd (upd H l (.dK ps)) l o):=λo=>by rw[zYw];exact zD hl o
 let hpl:ps...*=us...*:=by let:=hs...*;rwa [mC] at this
 let ex:(Sum.inr x:Key)=nK (ts x):=by show(Sum.inr x:Key)=Sum.inr (tx (ts x));rw[vH]
 rcases hw with rfl |⟨rfl,hx⟩
 ·refine iN (by decide+kernel) {_,DPut.k (k:=Sum.inr x) hl1 (by rw[mQ];lia), ?_}
  refine q l _ (hla _) ?_;rw[ex];obtain⟨p1,p2⟩:=zAr (p:=(ks,us)) (n:=ts x) (t:=n) hkk hs hn;exact{l,_,O,zC,p1,Reps.same (hla _) _ _ p2}
 ·refine iP O ?_
  refine oEA (Rep.at_name nk hkk hs hx) λxv hv1 _=>?_;refine{l,O, .inl {ps, .inl hl1},ps,nK (ts x),xv,hl1,by rw[<-ex];rfl,hv1, ?_};obtain⟨p1,p2⟩:=Reps.dropK (n:=ts x) hkk hs;refine q l _ (hla _) {l,_,O,zC,p1,Reps.same (hla _) _ _ p2}
def yBp:Sp:=λvs H Q _=>∃(a:V1)(xs:List V)(us:List T)(w:Wd)(i:Int)(vn:V)(n:T),vs= [.ref a, .str w.s, .int i,vn]/\H a=Y (.lst xs)/\Reps H xs us/\us...*<=100000/\0<=i/\Rep H vn n/\∀p H',Same H H'->Rep H' (.ref p) (xA w (.lst us) (.inl i) n)->Q (.ref p) H'
theorem scRow:zY ["row","word","place","new","ahead","behind"] ["row","word","place","new"] (zN yCj):=by walk_at "sc"
theorem yCi(F:Fun K "row_changed" "row_changed" yCj f fd)(B:Bl mg):FnOk P w K mg base CX0 1 f fd ["row","word","place","new"] yBp:=by
 refine F.ok scRow (λvs H Q E h=>?_) (λc A o s H vs Q E hr h=>?_)
 ·ext yM h a xs us wd i z_
  ext wA z_ vn n r7_ _;subst r7_
  rfl
 ext yM h a xs us wd i z_;ext yA z_ vn n r7_ ha hs z_;ext xI z_ hul hi hn q;subst r7_;let nd:=scRow.nd;refine{_,(zE (pS 4 nd (xS vD (pv 0) wG (xO (pv 2))))
  (zE (pS 5 nd (zMq (zQ xG (pv 1) zU (zO _)) (xS vD (pv 0) (xO (pv 2)) wG) (xS vD (pv 0) (xO (zI xH (pv 2) zF)) wG)))
  (zE (zS (zQ xG (pv 1) zU (zO _)) (zG (zK (zI qU (pv 4) (pv 5)))) zL)
  (zG (zK (zI qU (zI qU (pv 4) (yG (zA (pv 3) zB))) (pv 5))))))), ?_}
 walk_at "st";lk;let hxl:=hs...*;refine{a,xs,O,SqL.of ha,λp1 hp1=>?_};rw[cutTo xs hi];let s1:=zD hp1 (.lst (xs.take i.toNat));let e1:=zC (H:=H) (a:=p1) (o:=.lst (xs.take i.toNat));generalize upd H p1 (.lst (xs.take i.toNat))=H1 at s1 e1⊢;let hT:Reps H (xs.take i.toNat) (us.take i.toNat):=Reps.take _ hs;let fin:∀(j:Nat)(p2:V1),H1 p2=none->(∀p H',Same H H'->Rep H' (.ref p) (.lst (us.take i.toNat++n::us.drop j))->Q (.ref p) H')->∀(p:V1),upd H1 p2 (.lst (xs.drop j)) p=none->yAo (V.ref p1) (V.ref p) (upd (upd H1 p2 (.lst (xs.drop j))) p (HO.lst [vn])) λx H1=>yAo x (V.ref p2) H1 Q:=λj p2 hp2 q p3 hp3=>by
  let s2:=zD hp2 (.lst (xs.drop j));let e2:=zC (H:=H1) (a:=p2) (o:=.lst (xs.drop j));generalize upd H1 p2 (.lst (xs.drop j))=H2 at s2 e2 hp3⊢;let s3:=zD hp3 (.lst [vn]);let e3:=zC (H:=H2) (a:=p3) (o:=.lst [vn]);generalize upd H2 p3 (.lst [vn])=H3 at s3 e3⊢;refine{p1,p3,_,_,O,O,s3 _ _ (s2 _ _ e1),e3,by rw[mQ,pH,mY];lia,λp4 hp4=>?_};let s4:=zD hp4 (.lst (xs.take i.toNat++ [vn]));let e4:=zC (H:=H3) (a:=p4) (o:=.lst (xs.take i.toNat++ [vn]));generalize upd H3 p4 (.lst (xs.take i.toNat++ [vn]))=H4 at s4 e4⊢;refine{p4,p2,_,_,O,O,e4,s4 _ _ (s3 _ _ e2),by rw[mQ,mK,pH,nG,mY];lia,λp5 hp5=>?_};let G:=s1.trans (s2.trans (s3.trans (s4.trans (zD hp5 (.lst (xs.take i.toNat++ [vn]++xs.drop j))))));refine q p5 _ G {p5,_,O,zC,Reps.same G _ _ ?_};rw[rY];exact Reps.append (show Reps H ([vn]++xs.drop j) (n::us.drop j) from{vn,_,O,hn,Reps.drop _ hs}) hT
 let i1:(i+1).toNat=i.toNat+1:=by lia
 cases wd with
 | put=>
  refine iN (by decide+kernel) {a,xs,O,SqL.of (s1 _ _ ha),λp2 hp2=>iN (by decide+kernel) ?_};rw[zKf xs ∅,i1] at*;exact fin _ p2 hp2 q
 | ins=>
  refine iP O {a,xs,O,SqL.of (s1 _ _ ha),λp2 hp2=>iN (by decide+kernel) ?_};rw[zKf xs hi] at*;exact fin _ p2 hp2 q
 | tak=>
  refine iN (by decide+kernel) {a,xs,O,SqL.of (s1 _ _ ha),λp2 hp2=>iP O ?_};rw[zKf xs ∅,i1] at*;let s2:=zD hp2 (.lst (xs.drop (i.toNat+1)));let e2:=zC (H:=H1) (a:=p2) (o:=.lst (xs.drop (i.toNat+1)));generalize upd H1 p2 (.lst (xs.drop (i.toNat+1)))=H2 at s2 e2⊢;refine{p1,p2,_,_,O,O,s2 _ _ e1,e2,by rw[mQ,pH,nG];lia,λp3 hp3=>?_};let G:=s1.trans (s2.trans (zD hp3 (.lst (xs.take i.toNat++xs.drop (i.toNat+1)))));exact q p3 _ G {p3,_,O,zC,Reps.same G _ _ (Reps.append (Reps.drop _ hs) hT)}
def zUp:Sp:=λvs H Q _=>∃(v:V)(t:T)(w:Wd)(k:Key)(vn:V)(n:T)(m:Nat),vs= [v, .str w.s,kV k,vn]/\Rep H v t/\T.fewm m t/\m<=63/\T.sz t<=50000/\okK k/\vB w t k=true/\Rep H vn n/\∀v' H',Same H H'->Rep H' v' (xA w t k n)->Q v' H'
theorem scPart:zY ["holder","word","step","new"] ["holder","word","step","new"] (zN zUg):=by walk_at "sc"
theorem zZc(F:Fun K "part_changed" "part_changed" zUg f fd)(B:Bl mg)(Grecord_changed:Dn P w K mg base 1 "record_changed" ["record","word","name","new"] yBq)(Grow_changed:Dn P w K mg base 1 "row_changed" ["row","word","place","new"] yBp):FnOk P w K mg base CX0 2 f fd ["holder","word","step","new"] zUp:=by
 refine F.ok scPart (λvs H Q E h=>?_) (λc A o s H vs Q E hr h=>?_)
 ·ext yM h v t wd k vn z_
  ext wA z_ n m r7_ _;subst r7_
  rfl
 ext yM h v t wd k vn z_;ext yA z_ n m r7_ hv hf z_;ext yR z_ hm hz hk hc hn q;subst r7_;let nd:=scPart.nd;refine{_,(zE (zS (yB (pI B.isinstance zH B.dict xF (pv 0))) (zG (zK (zP Grecord_changed hr ∅ O (zA (pv 0) (zA (pv 1) (zA (pv 2) (zA (pv 3) zB))))))) zL)
  (zG (zK (zP Grow_changed hr ∅ O (zA (pv 0) (zA (pv 1) (zA (pv 2) (zA (pv 3) zB)))))))), ?_}
 walk_at "st";lk
 cases t with
 | dic ks us=>
  ext yA hv a ps r2_ ha hkk hs;subst r2_;let hku:=hf.2.2.1;let hkm:=hf.2.1;refine nEA ("dict") (jW ha) (iP ∎ ?_)
  cases k with
  | inl i=>cases wd<;>cases hc
  | inr x=>
   refine{a,ps,ks,us,wd,x,vn,n,O,ha,hkk,hs,hf.1,hku,∅, ?_,hn,λp H' g h=>q _ H' g h}
   cases wd with
   | put=>exact .inl O
   | ins=>cases hc
   | tak=>
    refine .inr {O, ?_};let hc':(if ts x∈ks then Y (zJ (ts x) ks us) else none).isSome=true:=hc
    by_cases h:ts x∈ks
    ·exact h
    ·rw[mL h] at hc';cases hc'
 | lst us=>
  ext yN hv a xs r2_ ha hs;subst r2_;refine nEA ("list") (vX ha) (iN ∎ ?_)
  cases k with
  | inl i=>exact{a,xs,us,wd,i,vn,n,O,ha,hs,hf.1,hk.1,hn,λp H' g h=>q _ H' g h}
  | inr x=>cases wd<;>cases hc
 | tup us=>exact hf.elim
 | non=>cases wd<;>cases k<;>cases hc
 | bl b=>cases wd<;>cases k<;>cases hc
 | int b=>cases wd<;>cases k<;>cases hc
 | str b=>cases wd<;>cases k<;>cases hc
abbrev yEl:V6:=top 11
abbrev yEt:V6:=top 13
abbrev sHp:V6:=top 14
abbrev sPo:V6:=top 15
abbrev sPz:V6:=top 16
abbrev sTh:V6:=top 12
structure ThI(t:T):Prop where
 g:Gd t
 d:T.dep t<=8
 z:T.sz t<=200
noncomputable def kY(us:List T):List T:=(us.map vP).flatten
theorem zNo(us:List T)(u:T):kY (us++ [u])=kY us++vP u:=by simp[kY]
theorem Gd.kid{t u:T}(h:Gd t)(hu:u∈vP t):Gd u/\T.dep u+1<=T.dep t:=by
 cases t with
 | lst us=>exact{h.row.2 u hu,nY (b7 hu)}
 | dic ks us=>exact{h.rcd.2.2 u hu,nY (b7 hu)}
 | _=>cases hu
theorem zKs:∀us:List T,T.szs (us.filter jA)<=T.szs us
 | []=>mB _
 | u::us=>by
  let ih:=zKs us;show _<=T.sz u+T.szs us
  cases hh:jA u with
  | true=>
   rw[tO hh];show T.sz u+_<=_
   lia
  | false=>
   rw[tP (by rw[hh];decide)]
   lia
theorem zPj:∀us:List T,T.szs (kY (us.filter jA))+us...*<=T.szs us
 | []=>mB _
 | u::us=>by
  let ih:=zPj us;show _<=T.sz u+T.szs us;rw[nI]
  cases hh:jA u with
  | true=>
   rw[tO hh];let e:kY (u::us.filter jA)=vP u++kY (us.filter jA):=rfl;rw[e,c9];let:=(zBb hh).2.1
   lia
  | false=>
   rw[tP (by rw[hh];decide)];let:=zIu u
   lia
def yBl:Sp:=λvs H Q _=>∃c:Nat,vs= [.str (tx [c])]/\∀H',Same H H'->Q (.bl (decide (c∈uU))) H'
theorem zJe(c:Nat):c∈uU↔32<=c/\c<=126/\c≠37:=by
 unfold uU;rw[rA,nB];constructor
 ·rintro⟨⟨i,hi,rfl⟩,h⟩
  let:=rH.mp hi;simp at h
  lia
 ·rintro⟨h1,h2,h3⟩
  exact{{c - 32,rH.mpr ∅,∅},by simp[h3]}
theorem scSgn:zY ["sign"] ["sign"] (zN yEl):=by walk_at "sc"
theorem yDm(F:Fun K "is_text_sign" "is_text_sign" yEl f fd)(B:Bl5 mg):FnOk P w K mg base CX0 1 f fd ["sign"] yBl:=by
 refine F.ok scSgn (λvs H Q E h=>?_) (λc A o s H vs Q E hr h=>?_)
 ·ext oEA h c r1_ _
  subst r1_
  rfl
 ext oEA h c r1_ q;subst r1_;let nd:=scSgn.nd;refine nEA _ (zG (zK (vO (zLu zHk zHk zU (pv 0) zU) (vU (yW zAj (zM zSy O B.ord yFe (zA (pv 0) zB)) zF (zO _)))))) ?_;walk_at "st";lk;let e1:ts (A6 " ")= [32]:=by decide+kernel
 let e2:ts (A6 "~")= [126]:=by decide+kernel
 let e3:ts (tx [c])= [c]:=rfl;let e4:(↑((#[c]:Array Nat).getD 0 0):Int)=(c:Int):=rfl;let l1:∀a b:Nat,([a]:List Nat)< [b]↔a<b:=λa b=>by
  constructor
  ·intro h
   cases h with
   | rel h=>exact h
   | cons h=>cases h
  ·exact λh=>.rel h
 let z:=q H (Same.refl H);rw[e1,e2,e3,e4]
 by_cases c1:c<32
 ·refine nEA false (by rw[nH ((l1 _ _).mpr c1)];rfl) (zGr ?_)
  rw[nL (λh=>by let:=(zJe c).mp h;lia)] at z;exact z
 ·refine nEA true (by rw[nL (λh=>c1 ((l1 _ _).mp h))];rfl) (zGp ?_)
  by_cases c2:126<c
  ·refine nEA false (by rw[nH ((l1 _ _).mpr c2)];rfl) (zGr ?_)
   rw[nL (λh=>by let:=(zJe c).mp h;lia)] at z;exact z
  ·refine nEA true (by rw[nL (λh=>c2 ((l1 _ _).mp h))];rfl) (zGp {O, ?_})
   let e:decide (c∈uU)= !decide ((c:Int)=37):=by
    rw[sH,cJ,zJe];simp
    lia
   rw[e] at z;exact z
theorem zAb(n:Nat):(List.replicate n true).all id=true:=by simp
theorem zAc(i:Nat):(List.replicate i true).map V.bl++ [V.bl true]=(List.replicate (i+1) true).map V.bl:=by rw[List.replicate_succ',mN];rfl
def yBj:Sp:=λvs H Q _=>∃(v:V)(t:T),vs= [v]/\Rep H v t/\Gd t/\∀H',Same H H'->Q (.bl true) H'
theorem scSnd:zY ["thing","kind"] ["thing"] (zN yEt):=by walk_at "sc"
theorem yEd(F:Fun K "is_sound_outside" "is_sound_outside" yEt f fd)(B:Bl5 mg)(M:Ms mg)(Gkind_of:Dn P w K mg base 1 "kind_of" ["thing"] zCn)(Gis_text_sign:Dn P w K mg base 1 "is_text_sign" ["sign"] yBl)(Gis_name:Dn P w K mg base 1 "is_name" ["thing"] zMr):FnOk P w K mg base CX0 2 f fd ["thing"] yBj:=by
 refine F.ok scSnd (λvs H Q E h=>?_) (λc A o s H vs Q E hr h=>?_)
 ·ext wA h v u r2_ _
  subst r2_
  rfl
 ext yA h v u r2_ hv hok q;subst r2_;let nd:=scSnd.nd;refine{_,(zE (pS 1 nd (zP Gkind_of hr ∅ O (zA (pv 0) zB)))
  (zE (zS (zQ xG (pv 1) zU (zO _)) (zG (zK (yW uR (zM zXc O B.abs yEq (zA (pv 0) zB)) (zI zAv zF zF) (zO _)))) zL)
  (zE (zS (zQ xG (pv 1) zU (zO _)) (zG (zK (vO (yW uR (zM zCv O B.len yV (zA (pv 0) zB)) (zCq O M.MOST_IN_TEXT) (zO _)) (vU (zM (qQ O) O B.all uM (zA (xW (own:=["sign"]) (F:=[]) {O,tb_g%,tb_g%,tb_g%, .nil} O (zVt (pv 0)) (λ_ _ _ _=>yF (i:=0) (by show(xX ["sign"] []).Nodup;decide+kernel) O (nN O)) (λ_ _ _ _=>xJ) (λ_ _ _ _=>(zP Gis_text_sign hr ∅ O (zA (pv 0) zB)))) zB)))))) zL)
  (zE (zS (zQ xG (pv 1) zU (zO _)) (zG (zK (yW uR (zM yI O B.len yV (zA (pv 0) zB)) (zCq O M.MOST_IN_ROW) (zO _)))) zL)
  (zE (zS (zQ xG (pv 1) zU (zO _)) (zG (zK (vO (yW uR (zM zDd O B.len yV (zA (pv 0) zB)) (zCq O M.MOST_IN_RECORD) (zO _)) (vU (zM (qQ O) O B.all uM (zA (zBy (xW (own:=["name"]) (F:=[]) {O,tb_g%,tb_g%,tb_g%, .nil} O (zEi (pv 0)) (λ_ _ _ _=>yF (i:=0) (by show(xX ["name"] []).Nodup;decide+kernel) O (nN O)) (λ_ _ _ _=>xJ) (λ_ _ _ _=>(zP Gis_name hr ∅ O (zA (pv 0) zB))))) zB)))))) zL)
  (zG (zK (zIr (zIv (pv 1)))))))))), ?_}
 walk_at "st";lk;refine{v,_,O,(Rep.rp _ _ hv).ty,λH1 g1=>?_};let hv:=Rep.same g1 _ _ hv;let z:=q _ g1
 cases u with
 | lst us=>
  rw[show wM (tyT (T.lst us))= .str "row" from by show wM "list" =_;decide+kernel];ext yN hv a vs r2_ ha hs;subst r2_;let hl:=hs...*;let h60:=hok.row.1;refine{O,iN (by decide+kernel) {O,iN (by decide+kernel) {O,iP O {a,O,vs,SqL.of ha, ?_}}}};rw[show decide ((vs...*:Int)<=60)=true from nH ∅];exact z
 | dic ks us=>
  rw[show wM (tyT (T.dic ks us))= .str "record" from by show wM "dict" =_;decide+kernel];ext yA hv a ps r2_ ha hk hs;subst r2_;refine oAA (hok.rcd) λh30 hnm _=>?_;let hpl:ps...*=ks...*:=by let:=congrArg List.length hk;simpa using this
  refine{O,iN (by decide+kernel) {O,iN (by decide+kernel) {O,iN (by decide+kernel) {O,iP O {a,O,ps, .inl ha, ?_}}}}};rw[mO (by rw[hpl];lia)];refine zVi a O ps (.inl {ha,λo=>?_});refine zAx (λi zs H'=>Same (upd H1 a (.frz o (.dK ps))) H'/\zs=(List.replicate i true).map V.bl) (by rw[mQ];lia) {Same.refl _,O} (λi zs H' h=>h.1 _ _ zC) ?_ ?_
  ·rintro i kv zs H' hkv _ ⟨g,rfl⟩
   let hki:(ks.map nK)[i]? =Y kv.1:=by rw[<-hk,mW,hkv];rfl
   rw[mW] at hki;refine oEA (pJ.mp hki) λk hki e=>?_;let hkn:=hnm k (mF hki);let hlen:=zBs hkn;rw[<-e];lk;refine{_,"str",O,O,λx e=>?_,λH3 g3=>{g.trans g3, ?_}}
   ·let e':tx k=x:=V.str.inj e
    rw[<-e',qC];lia
   ·show _++ [V.bl (yY (ts (tx k)))]=_
    rw[wI,hkn];exact zAc i
  ·rintro zs H' _ ⟨g,rfl⟩ p hp
   let g2:=g.trans (zD hp (.lst ((List.replicate ps...* true).map V.bl)));refine wT p O _ (SqL.of (wS zC (by intro o v z;cases z))) ?_;rw[zAb];exact q _ (g1.trans (kI (o:=o) ha g2))
 | non=>
  cases (show v=_ from hv);exact{by decide+kernel,iN (by decide+kernel) {by decide+kernel,iN (by decide+kernel) {by decide+kernel,iN (by decide+kernel) {by decide+kernel,iN (by decide+kernel) z}}}}
 | bl b=>
  cases (show v=_ from hv);rw[show wM (tyT (T.bl b))= .str "truth" from by show wM "bool" =_;decide+kernel];exact{O,iN (by decide+kernel) {O,iN (by decide+kernel) {O,iN (by decide+kernel) {O,iN (by decide+kernel) z}}}}
 | int i=>
  cases (show v=_ from hv);obtain⟨c1,c2⟩:=hok.g;rw[show wM (tyT (T.int i))= .str "number" from by show wM "int" =_;decide+kernel];refine{O,iP O {i,O, ?_}};rw[show decide ((if i<0 then -i else i)<=1000000000000)=true from nH (by split<;>lia)];exact z
 | str b=>
  cases (show v=_ from hv);obtain⟨h30,hsg⟩:=hok.g;rw[show wM (tyT (T.str b))= .str "text" from by show wM "str" =_;decide+kernel];let hlen:=qC b;refine{O,iN (by decide+kernel) {O,iP O {tx b,O,∅, ?_}}};rw[mO ∅];refine nEA (tx b) O (zLi (λi ys H'=>Same H1 H'/\ys=(List.replicate i true).map V.bl) (by rw[mQ,wI];lia) {Same.refl _,O} ?_ ?_)
  ·rintro i d ys H' hd _ ⟨hS,rfl⟩
   lk;refine{d,O,λH3 g3=>{hS.trans g3, ?_}};rw[wI] at hd;rw[nH (hsg d (mF hd))];exact zAc i
  ·rintro ys H' hl' ⟨hS,rfl⟩ p hp
   refine wT p O _ (SqL.of zC) ?_;rw[zAb];exact q _ (g1.trans (hS.trans (zD hp _)))
 | tup us=>exact hok.g.elim
def spHp:Sp:=λvs H Q _=>∃(v:V)(t:T),vs= [v]/\Rep H v t/\∀H',Same H H'->Q (.bl (jA t)) H'
theorem scHp:zY ["thing"] ["thing"] (zN sHp):=by walk_at "sc"
theorem ok_hp(F:Fun K "holds_parts" "holds_parts" sHp f fd)(B:Bl mg):FnOk P w K mg base CX0 1 f fd ["thing"] spHp:=by
 refine F.ok scHp (λvs H Q E h=>?_) (λc A o s H vs Q E hr h=>?_)
 ·ext wA h v u r2_ _
  subst r2_
  rfl
 ext yN h v u r2_ hv q;subst r2_;let nd:=scHp.nd;refine nEA _ (zG (zK (zM (zOc (T:="list") (W:="dict") ∎ ∎) O B.isinstance zH (zA (pv 0) (zA (wX (zA (xZ (v:=.ty "list") O B.list yX O) (zA (xZ (v:=.ty "dict") O B.dict xF O) zB))) zB))))) ?_;walk_at "st";lk;intro p hp;let g:=zD hp (.tup [V.ty "list",V.ty "dict"]);refine qN v (tyT u) p ⟨O,O⟩ zC (nA ((Rep.rp _ _ (Rep.same g _ _ hv)).ty) ?_);let z:=q _ g;rw[<-zQc] at z;exact z
def spPo:Sp:=λvs H Q _=>∃(H0:Hp)(v:V)(t:T),vs= [v]/\Same H0 H/\Rep H0 v t/\jA t=true/\∀l ys H',Same H H'->H' l=Y (.lst ys)->Reps H0 ys (vP t)->Q (.ref l) H'
theorem scPo:zY ["thing"] ["thing"] (zN sPo):=by walk_at "sc"
theorem ok_po(F:Fun K "parts_of" "parts_of" sPo f fd)(B:Bl mg):FnOk P w K mg base CX0 1 f fd ["thing"] spPo:=by
 refine F.ok scPo (λvs H Q E h=>?_) (λc A o s H vs Q E hr h=>?_)
 ·ext vZ h H0 v u r3_ _
  subst r3_
  rfl
 ext yC h H0 v u r3_ g0 z_;ext oAA z_ hv hh q;subst r3_;let nd:=scPo.nd;refine{_,(zE (zS (yB (zM (kG (T:="dict") ∎) O B.isinstance zH (zA (pv 0) (zA (xZ (v:=.ty "dict") O B.dict xF O) zB)))) (zG (zK (yP (zLb O) O B.list yX (zA (yEj tL PySem.F.slot_dict_values PySem.F.type_dict_values zRq (pv 0)) zB)))) zL)
  (zG (zK (yP uK O B.list yX (zA (pv 0) zB))))), ?_}
 walk_at "st";lk;let hty:=(Rep.rp _ _ (Rep.same g0 _ _ hv)).ty
 cases u with
 | lst us=>
  ext yN hv a xs r2_ ha hs;subst r2_;exact nEA ("list") hty (iN (by decide+kernel) {a,O,xs, .inl (SqL.of (g0 _ _ ha)),λl hl=>q l xs _ (zD hl _) zC hs})
 | dic ks us=>
  ext yA hv a ps r2_ ha hk hs;subst r2_;refine nEA ("dict") hty (iP (by decide+kernel) ?_);let ha:=g0 _ _ ha;refine{{a,ps,O, .inl ha},a,ps,O,O, .inl ha,λp hp=>?_};let g:=zD hp (zLv p a);exact vM p O a zC ps (nA (.inl (g _ _ ha)) (λl hl=>q l _ _ (g.trans (zD hl _)) zC hs))
 | _=>cases hh
def spPz:Sp:=λvs H Q _=>∃(a:V1)(xs:List V)(us:List T),vs= [.ref a]/\H a=Y (.lst xs)/\Reps H xs us/\(∀u∈us,jA u=true)/\T.szs us<=10000/\∀l ys H',Same H H'->H' l=Y (.lst ys)->Reps H' ys (kY us)->Q (.ref l) H'
theorem zMp:∀us:List T,(∀u∈us,jA u=true)->(kY us)...*<=T.szs us
 | [],_=>mB _
 | u::us,h=>by
  let:=zMp us λx hx=>h x (mE _ hx);let e:kY (u::us)=vP u++kY us:=rfl;rw[e,mK];show _<=T.sz u+T.szs us;let h1:=d5 (vP u);let h2:=(zBb (h u mG)).2.1
  lia
theorem scPz:zY ["holders","parts","holder"] ["holders"] (zN sPz):=by walk_at "sc"
theorem yEm(F:Fun K "parts_of_all" "parts_of_all" sPz f fd)(B:Bl mg)(Gparts_of:Dn P w K mg base 1 "parts_of" ["thing"] spPo):FnOk P w K mg base CX0 2 f fd ["holders"] spPz:=by
 refine F.ok scPz (λvs H Q E h=>?_) (λc A o s H vs Q E hr h=>?_)
 ·ext vZ h a xs us r3_ _
  subst r3_
  rfl
 ext yC h a xs us r3_ ha z_;ext xI z_ hs hh hz q;subst r3_;let nd:=scPz.nd;refine{_,(zE (pS 1 nd (yG zB))
  (zE (wU PassesOwn.never O (xN (pv 0)) (yF (i:=2) nd O (nN O)) (zG (wC (qF nQ aX aY zDk (pv 1) (zA (zP Gparts_of hr ∅ O (zA (pv 2) zB)) zB)))))
  (zG (zK (pv 1))))), ?_}
 walk_at "st";lk;intro p hp;let g0:=zD hp (.lst []);refine{{_,SqL.of (g0 _ _ ha)}, ?_};refine jI (K:=K) (a:=a) (xs:=xs) (λi σ H2=>(∃o,σ= [Y (V.ref a),Y (V.ref p),o])/\Same H H2/\∃ys,H2 p=Y (.lst ys)/\Reps H ys (kY (us.take i))) {⟨_,O⟩,g0,[],zC,O} (λi σ H2 _ h=>SqL.of (h.2.1 _ _ ha)) ?_ ?_
 ·rintro i x σ H2 hx ⟨⟨o,rfl⟩,g,ys,hp2,hR⟩
  refine oEA (hs.get hx) λu hu hr'=>?_;let hm:=mF hu;lk;refine{nN {O,_,SqL.of hp2},H,x,u,O,g,hr',hh u hm,λl zs H3 g3 hl hZ=>?_};let h1:=hR...*;let h2:=hZ...*;let h3:=zMp (us.take (i+1)) λx hx=>hh x (pC hx);let h4:=jS us (i+1);let e:=zNo (us.take i) u;rw[<-yK hu] at e;let h5:=congrArg List.length e;rw[mK] at h5;refine{p,l,ys,zs,O,O,g3 _ _ hp2,hl,by rw[mQ];lia,⟨_,O⟩,(g.trans g3).put hp _,ys++zs,zC, ?_};rw[e];exact Reps.append hZ hR
 ·rintro σ H2 ⟨⟨o,rfl⟩,g,ys,hp2,hR⟩
  lk;let hl:=hs...*;rw[hl,pA] at hR;exact q p ys H2 g hp2 (Reps.same g _ _ hR)
def zTn:Sp:=λvs H Q _=>∃(v:V)(t:T),vs= [v]/\Rep H v t/\ThI t/\∀H',Same H H'->Q (.bl true) H'
theorem scTh:zY ["thing","level","size","depth","holders"] ["thing"] (zN sTh):=by walk_at "sc"
theorem ok_th(F:Fun K "is_thing" "is_thing" sTh f fd)(B:Bl mg)(M:Ms mg)(Gis_sound_outside:Dn P w K mg base 2 "is_sound_outside" ["thing"] yBj)(Gholds_parts:Dn P w K mg base 1 "holds_parts" ["thing"] spHp)(Gparts_of_all:Dn P w K mg base 2 "parts_of_all" ["holders"] spPz):FnOk P w K mg base CX0 3 f fd ["thing"] zTn:=by
 refine F.ok scTh (λvs H Q E h=>?_) (λc A o s H vs Q E hr h=>?_)
 ·ext wA h v u r2_ _
  subst r2_
  rfl
 ext yA h v u r2_ hv hok q;subst r2_;let nd:=scTh.nd;refine{_,(zE (pS 1 nd (yG (zA (pv 0) zB)))
  (zE (pS 2 nd zF)
  (zE (pS 3 nd zF)
  (zE (zSr PassesOwn.never (zQ uR (pv 3) (zCq O M.MOST_DEPTH) (zO _)) (zE (zNz (i:=2) nd O (nN O) (zM yI O B.len yV (zA (pv 1) zB)) zMu)
  (zE (zS (d9 (qM (zQ qS (pv 2) (zCq O M.MOST_SIZE) (zO _)) (jG (xR (yB (zM (qQ O) O B.all uM (zA (xW (own:=["part"]) (F:=[]) {O,tb_g%,tb_g%,tb_g%, .nil} O (xN (pv 1)) (λ_ _ _ _=>yF (i:=0) (by show(xX ["part"] []).Nodup;decide+kernel) O (nN O)) (λ_ _ _ _=>xJ) (λ_ _ _ _=>(zP Gis_sound_outside hr ∅ O (zA (pv 0) zB)))) zB))))))) (zG (zK wZ)) zL)
  (zE (kF (i:=4) nd O (nN O) (own:=["part"]) (F:=[]) {O,tb_g%,tb_g%,tb_g%, .nil} O (xN (pv 1)) (λ_ _ _ _=>yF (i:=0) (by show(xX ["part"] []).Nodup;decide+kernel) O (nN O)) (λ_ _ _ _=>(zPn (yB (zP Gholds_parts hr ∅ O (zA (pv 0) zB))))) (λ_ _ _ _=>(pv 0)))
  (zE (zS (xR (zKq (pv 4) (λ_=>O))) (zG (zK wZ)) zL)
  (zE (pS 1 nd (zP Gparts_of_all hr ∅ O (zA (pv 4) zB)))
  (zG (zNz (i:=3) nd O (nN O) zF zMu))))))))
  (zG (zK wZ)))))), ?_}
 walk_at "st";lk;intro p hp;let g0:=zD hp (.lst [v]);refine{λm σ H2=>∃(i z:Nat)(a:V1)(xs:List V)(us:List T)(o:Option V),m=9 - i/\i<=8/\σ= [Y v,Y (V.ref a),Y (V.int z),Y (V.int i),o]/\Same H H2/\H2 a=Y (.lst xs)/\Reps H2 xs us/\(∀t∈us,Gd t)/\z+T.szs us<=200/\T.deps us+i<=8, ?_};refine{{9,0,0,p,[v],[u],none,O,by decide,O,g0,zC,{v,[],O,Rep.same g0 _ _ hv,O},λt ht=>by rw[nC.mp ht];exact hok.g, ?_, ?_}, ?_}
 ·let:=hok.z
  show 0+(T.sz u+0)<=200
  lia
 ·let:=hok.d
  show max (T.dep u) 0+0<=8
  lia
 intro m σ H2 z_;ext yM z_ i z a xs us z_;ext qB z_ o r6_ hi r8_ g z_;ext vS z_ ha hs hgd hsz hdp;subst r6_ r8_;let hxl:=hs...*;let hul:=d5 us;lk;rw[mO ∅];refine{λσ' H'=>∃(a':V1)(xs':List V)(us':List T)(o':Option V),σ'= [Y v,Y (V.ref a'),Y (V.int ((z+us...*:Nat):Int)),Y (V.int ((i+1:Nat):Int)),o']/\Same H H'/\H' a'=Y (.lst xs')/\Reps H' xs' us'/\(∀t∈us',Gd t)/\z+us...*+T.szs us'<=200/\T.deps us'+(i+1)<=8/\i+1<=8, ?_, ?_}
 ·intro σ' H' z_
  ext yS z_ a' xs' us' o' r4_ z_;ext yR z_ g' ha' hs' h1 h2 z_;ext oA z_ h3 h4;subst r4_;exact kZ (9 - (i+1)) ∅ (i+1) O h4 (yCu (z+us...*) a' ⟨o',O⟩ g' xs' (zMs ha' us' hs' h1 h2 h3))
 ·lk
  simp only[yDt,ipI];lk;refine nEA xs (SqL.of ha) ?_;rw[mL (by rw[hxl];lia)];refine{{xs,SqL.of ha},xT (K:=K) (xs:=xs) (λj ys H'=>Same H2 H'/\ys=(List.replicate j true).map V.bl) (by rw[mQ];lia) {Same.refl _,O} (λj ys H' _ h=>SqL.of (h.1 _ _ ha)) ?_ ?_}
  ·rintro j x ys H' hx _ ⟨g3,rfl⟩
   refine oEA (hs.get hx) λu' hu hr'=>?_;lk;exact{x,u',O,Rep.same g3 _ _ hr',hgd _ (mF hu),λH4 g4=>{g3.trans g4,zAc j}}
  ·rintro ys H' _ ⟨g3,rfl⟩ p1 hp1
   let g4:=g3.trans (zD hp1 (.lst ((List.replicate xs...* true).map V.bl)));refine wT p1 O _ (SqL.of zC) ?_;rw[zAb];generalize upd H' p1 (.lst ((List.replicate xs...* true).map V.bl))=H3 at g4⊢;rw[mL ∎];let ha3:=g4 _ _ ha;let hs3:=Reps.same g4 _ _ hs;refine{{xs,SqL.of ha3},xT (K:=K) (xs:=xs) (λj ys H'=>Same H3 H'/\Reps H3 ys ((us.take j).filter jA)) (by rw[mQ];lia) {Same.refl _,O} (λj ys H' _ h=>SqL.of (h.1 _ _ ha3)) ?_ ?_}
   ·rintro j x ys H' hx _ ⟨g5,hys⟩
    refine oEA (hs3.get hx) λu' hu hr'=>?_;lk;refine{x,u',O,Rep.same g5 _ _ hr',λH4 g6=>{jA u',O, ?_}};rw[yK hu,List.filter_append]
    cases hh:jA u' with
    | true=>
     rw[mO O,tO hh];exact{g5.trans g6,Reps.snoc hr' hys}
    | false=>
     rw[mL ∎,tP (by rw[hh];decide),dD,rM];exact{g5.trans g6,hys}
   ·rintro ys H' _ ⟨g5,hys⟩ p2 hp2
    rw[hxl,pA] at hys;let g6:=g5.trans (zD hp2 (.lst ys));let hyl:=hys...*;refine nEA (!ys.isEmpty) (.inl {ys,SqL.of zC,O}) ?_;let hp2':upd H' p2 (.lst ys) p2=Y (.lst ys):=zC;generalize upd H' p2 (.lst ys)=H4 at g6 hp2'⊢
    cases ys with
    | nil=>exact iP O (q _ (g.trans (g4.trans g6)))
    | cons y0 ys=>
     refine iN (by simp) ?_;obtain⟨h0,hm0⟩:∃h0,h0∈us.filter jA:=by
      cases hf:us.filter jA with
      | nil=>rw[hf] at hyl;cases hyl
      | cons h0 _=>exact⟨h0,mG⟩
     let hm1:=rA.mp hm0;let d0:=b7 hm1.1;let d1:=(zBb hm1.2).1;let hnx:=zPj us;let hfz:=zKs us;refine{p2,y0::ys,us.filter jA,O,hp2',Reps.same g6 _ _ hys,λu' hu'=>(rA.mp hu').2,∅,λl zs H5 g7 hl hz'=>?_};let hk:∀t∈kY (us.filter jA),Gd t/\T.dep t+1<=T.deps us:=λt ht=>by
      refine oEA (List.mem_flatten.mp ht) λl' hl' hm=>?_;refine oEA (nB.mp hl') λx hx r2_=>?_;subst r2_;let hxu:=(rA.mp hx).1;obtain⟨k1,k2⟩:=(hgd x hxu).kid hm;exact{k1,nS k2 (b7 hxu)}
     let hdn:T.deps (kY (us.filter jA))<=T.deps us - 1:=d7 λt ht=>by let:=(hk t ht).2;lia
     refine{_,O,_,_,O,O,l,{Y (V.ref p2), ?_},g.trans (g4.trans (g6.trans g7)),zs,hl,kY (us.filter jA),hz',λt ht=>(hk t ht).1,∅,∅,∅};simp only[cH,cI,hxl,Int.natCast_add,Int.cast_ofNat_Int]
end
end K44
namespace K44
open PySem L2 PySem.W
seal L2.PSs L2.PS L2.PE L2.PT L2.PW L2.PA L2.PI L2.PG L2.PGs L2.PPs L2.PTs
theorem zLt(t:T)(ks:List Key):∃u,(goT t ks).getLast? =Y u/\u∈goT t ks:=by
 let h:=(zCj t ks).1
 cases e:(goT t ks).getLast? with
 | none=>rw[List.getLast?_eq_none_iff.mp e] at h;exact absurd h ∎
 | some u=>exact{u,O,List.mem_of_getLast? e}
theorem zIp{α:Type}{xs:List α}{v:α}(h:xs.getLast? =Y v):atI xs (-1)=Y v:=by
 rcases List.eq_nil_or_concat xs with e |⟨ys,y,e⟩
 ·rw[e] at h;cases h
 ·rw[List.concat_eq_append] at e
  subst e;rw[List.getLast?_concat] at h;cases h;exact wL _ _
theorem Reps.last{H:Hp}{vs:List V}{us:List T}{u:T}(h:Reps H vs us)(hu:us.getLast? =Y u):∃v,vs.getLast? =Y v/\Rep H v u:=by
 let hl:=h...*;rw[aT] at hu;let hi:=(mP.mp hu).1;let hi':us...* - 1<vs...*:=by lia
 obtain⟨t,h1,h2⟩:=h.get (mJ hi');rw[hu] at h1;cases h1;refine nEA _ ?_ h2;rw[aT,hl];exact mJ hi'
abbrev sWc:V6:=top 41
abbrev sSl:V6:=top 42
abbrev sCs:V6:=top 40
theorem zZr(ks:List Key):kQ (ks.map kV) none ↥(-1)=ks.dropLast.map kV:=by
 let e:HT.sIx (ks.map kV)...* (ks.map kV)...* ↥(-1)=ks...* - 1:=by
  show(if(-1:Int)<0 then((-1:Int)+((ks.map kV)...*:Int)).toNat else min (-1:Int).toNat (ks.map kV)...*)=_;rw[mO ∎,mC]
  lia
 unfold kQ;rw[e,HT.sIx_none,sP,aV,List.dropLast_eq_take,List.map_take]
structure Tq(m:Nat)(H:Hp)(v:V)(t:T)(pa:V1)(ks:List Key):Prop where
 v:Rep H v t
 few:T.fewm m t
 m:m<62
 sz:T.sz t<=50000
 pa:H pa=Y (.lst (ks.map kV))
 ok:∀k∈ks,okK k
 l8:ks...*<=8
theorem Tq.pure{m:Nat}{H:Hp}{v:V}{t:T}{pa:V1}{ks:List Key}(h:Tq m H v t pa ks):T.pure t:=jP _ t (mB _) (c7 (by let:=h.m;lia) _ h.few)
theorem yAr{t u:T}{k:Key}(hk:okK k)(hs:xK t k=Y u):vB .put t k=true:=by
 rcases gL hs with⟨us,i,rfl,rfl,h,_⟩|⟨ks,us,x,rfl,rfl,hm,rfl,_⟩
 ·let hi:=(mP.mp h).1
  let h0:0<=i/\i<=59:=hk;exact nH ∅
 ·rfl
section
variable{P:V3}{w:V4}{K:PySem.W.Frag}{mg:Str->Option V0}{base:V5}{f:V1}{fd:V7}
def spWc:Sp:=λvs H Q _=>∃(vn:V),vs= [.str Wd.put.s,vn]/\∀H',Same H H'->Q vn H'
theorem scWc:zY ["word","new"] ["word","new"] (zN sWc):=by walk_at "sc"
theorem ok_wc(F:Fun K "whole_changed" "whole_changed" sWc f fd)(B:Bl mg):FnOk P w K mg base CX0 1 f fd ["word","new"] spWc:=by
 refine F.ok scWc (λvs H Q E h=>?_) (λc A o s H vs Q E hr h=>?_)
 ·ext oEA h vn r1_ _
  subst r1_
  rfl
 ext oEA h vn r1_ q;subst r1_;let nd:=scWc.nd;refine{_,(zE (zS (zQ zAj (pv 0) zU (zO _)) (zG zIm) zL)
  (zG (zK (pv 1)))), ?_}
 walk_at "st";lk;exact nEA false (by decide+kernel) (iN ∎ (q H (Same.refl _)))
def spSl:Sp:=λvs H Q _=>∃(v:V)(t:T)(pa:V1)(ks:List Key)(m:Nat),vs= [v, .ref pa]/\Tq m H v t pa ks/\ks...*<=(goT t ks.dropLast)...*/\∀p xs H',Same H H'->H' p=Y (.lst xs)->Reps H' xs (goT t ks.dropLast)->Q (.ref p) H'
theorem scSl:zY ["thing","path","stops","step"] ["thing","path"] (zN sSl):=by walk_at "sc"
theorem ok_sl(F:Fun K "stops_to_last" "stops_to_last" sSl f fd)(B:Bl mg)(Gleads_within:Dn P w K mg base 3 "leads_within" ["thing","step"] zXr):FnOk P w K mg base CX0 4 f fd ["thing","path"] spSl:=by
 refine F.ok scSl (λvs H Q E h=>?_) (λc A o s H vs Q E hr h=>?_)
 ·ext yM h v t pa ks m z_
  ext oA z_ r5_ _;subst r5_
  rfl
 ext yM h v t pa ks m z_;ext xI z_ r5_ hT hlq q;subst r5_;let nd:=scSl.nd;let hu:=wR hr;refine{_,(zE (pS 2 nd (yG (zA (pv 0) zB)))
  (zE (wU PassesOwn.never O (xN (xS vD (pv 1) wG (xO (wF xM zF)))) (yF (i:=3) nd O (nN O)) (zE (zS (xR (yB (zP Gleads_within hr ∅ O (zA (yJ zW (pv 2) (wF xM zF) (λ_ _=>O)) (zA (pv 3) zB))))) (zG zIm) zL)
  (zG (wC (qF nQ pN pV vJ (pv 2) (zA (zIj (yJ zW (yJ zW (pv 2) (wF xM zF) (λ_ _=>O)) (pv 3) (λ_ _=>O)) (wN hu (yJ zW (pv 2) (wF xM zF) (λ_ _=>O)) (pv 3) (λ_ _=>O))) zB))))))
  (zG (zK (pv 2))))), ?_}
 walk_at "st";lk;intro ps hps;let s1:=zD hps (.lst [v]);let e1:=zC (H:=H) (a:=ps) (o:=.lst [v]);let hz:=hT.sz;let h8:=hT.l8;generalize hH1:upd H ps (.lst [v])=H1 at s1 e1⊢;refine{pa,_,O,SqL.of (s1 _ _ hT.pa),λpl hpl=>{pl,O,{_,SqL.of zC}, ?_}};rw[zZr];let s2:=zD hpl (.lst (ks.dropLast.map kV));let e2:=zC (H:=H1) (a:=pl) (o:=.lst (ks.dropLast.map kV));generalize upd H1 pl (.lst (ks.dropLast.map kV))=H2 at s2 e2⊢;let hdl:ks.dropLast...*=ks...* - 1:=List.length_dropLast;let hks:∀k∈ks.dropLast,okK k:=λk hk=>hT.ok k (List.dropLast_subset ks hk);let hplps:pl≠ps:=λz=>by rw[z,e1] at hpl;cases hpl
 generalize ks.dropLast=ds at hdl hks e2 q hlq⊢;let hgl:=zCj t ds;refine jI (K:=K) (a:=pl) (xs:=ds.map kV) (λi σ' H'=>∃o us u ys c,σ'= [Y v,Y (.ref pa),Y (.ref ps),o]/\Same H H'/\H' pl=Y (.lst (ds.map kV))/\H' ps=Y (.lst (ys++ [c]))/\Reps H ys us/\Rep H c u/\us...*=i/\goT t ds=us++goT u (ds.drop i)/\T.pure u/\T.sz u<=100000)
  {none,[],t,[],v,O,s1.trans s2,e2,s2 _ _ e1,O,hT.v,O,O,hT.pure,∅} (λi σ' H' _ h=>by
   ext yM h o us u ys c z_;ext xI z_ _ g h _;exact SqL.of h) ?_ ?_
 ·intro i x σ' H' hx z_
  ext yM z_ o us u ys c z_;ext yR z_ r5_ g hpl' hS hR z_;ext vS z_ hc hl hg hpu hzu;subst r5_;lk;let hyl:=hR...*;rw[mW] at hx
  cases hki:ds[i]? with
  | none=>rw[hki] at hx;cases hx
  | some k=>
   rw[hki] at hx;let ex:kV k=x:=mM hx;subst ex;let hik:=(mP.mp hki).1;let hdr:ds.drop i=k::ds.drop (i+1):=by
    rw[pB hik,(mP.mp hki).2]
   rw[hdr] at hg;refine yL (SqL.of hS) (wL _ _) {c,u,k,O,Rep.same g _ _ hc,hpu,hzu,hks _ (mF hki),λH2 g2=>{_,O, ?_}};let hS2:=g2 _ _ hS;let gg:=g.trans g2
   cases hs:xK u k with
   | none=>
    let e:goT u (k::ds.drop (i+1))= [u]:=by show(match xK u k with | none=>[u] | some u'=>u::goT u' (ds.drop (i+1)))=_;rw[hs]
    rw[e] at hg;let hlen:(goT t ds)...*=i+1:=by rw[hg,mK,hl];rfl
    exact absurd hlq ∅
   | some u'=>
    let e:goT u (k::ds.drop (i+1))=u::goT u' (ds.drop (i+1)):=by show(match xK u k with | none=>[u] | some u'=>u::goT u' (ds.drop (i+1)))=_;rw[hs]
    rw[e] at hg;refine iN (by simp) {nN {O,_,SqL.of hS2}, ?_};let hend:∀c',Rep H c' u'->T.pure u'->T.sz u'<=100000->zQs (V.ref ps) [c'] H2 (λ_ H1=>Same H H1/\H1 pl=Y (.lst (ds.map kV))/\∃us' u1 ys' c1,H1 ps=Y (.lst (ys'++ [c1]))/\Reps H ys' us'/\Rep H c1 u1/\us'...*=i+1/\goT t ds=us'++goT u1 (ds.drop (i+1))/\T.pure u1/\T.sz u1<=100000):=λc' h1 h2 h3=>
     {ps,ys++ [c],c',O,O,hS2,by rw[mQ,mK];show ys...*+1<_;lia,gg.put hps _,by rw[zV hplps];exact g2 _ _ hpl',us++ [u],u',ys++ [c],c',zC,Reps.snoc hc hR,h1,by rw[mK,hl];rfl,by rw[hg,rY];rfl,h2,h3}
    obtain⟨c',h1,h2,h3,⟨b,zs,j,rfl,hb,ej,hat⟩|⟨b,qs,rfl,hb,hvq⟩⟩:=yAv hc hpu hzu (hks _ (mF hki)) hs
    ·refine .inl ?_
     lk;refine yL (SqL.of hS2) (wL _ _) ?_;rw[ej];exact yL (SqL.of (gg _ _ hb)) hat (hend _ h1 h2 h3)
    ·refine .inr ?_
     lk;exact yL (SqL.of hS2) (wL _ _) {b,O,c', .inl {qs,k, .inl (gg _ _ hb),O,hvq.symm},hend _ h1 h2 h3}
 ·intro σ' H' z_
  ext yM z_ o us u ys c z_;ext yR z_ r5_ g hpl' hS hR z_;ext vS z_ hc hl hg hpu hzu;subst r5_;lk;rw[mC,aL] at hg;rw[mC] at hl;let hlen:(goT t ds)...*=ds...*+1:=by rw[hg,mK,hl];rfl
  refine q ps _ _ g hS ?_;rw[hg];exact Reps.snoc (Rep.same g _ _ hc) (Reps.same g _ _ hR)
def yDa:Sp:=λvs H Q _=>∃(v:V)(t:T)(wd:Wd)(pa:V1)(ks:List Key)(vn:V)(n:T)(m:Nat)(r:T),vs= [v, .str wd.s, .ref pa,vn]/\Tq m H v t pa ks/\Rep H vn n/\chG wd (λs k=>xA wd s k n) t ks n= .inr r/\∀v' H',Same H H'->Rep H' v' r->Q v' H'
theorem scCs:zY ["thing","word","path","new","stops","changed","place"] ["thing","word","path","new"] (zN sCs):=by walk_at "sc"
theorem ok_cs(F:FunD K "change_shared" "change_shared" sCs f fd)(B:Bl mg)(Gwhole_changed:Dn P w K mg base 4 "whole_changed" ["word","new"] spWc)(Gstops_to_last:Dn P w K mg base 4 "stops_to_last" ["thing","path"] spSl)(Gcan_change:Dn P w K mg base 4 "can_change" ["holder","word","step"] spCc)(Gpart_changed:Dn P w K mg base 2 "part_changed" ["holder","word","step","new"] zUp):FnOk P w K mg base CX0 5 f fd ["thing","word","path","new"] yDa:=by
 refine F.ok scCs (λvs H Q E h=>?_) (λc A o s H vs Q E hr h=>?_)
 ·ext yM h v t wd pa ks z_
  ext yS z_ vn n m r0 r9_ _;subst r9_
  rfl
 ext yM h v t wd pa ks z_;ext yS z_ vn n m r0 r9_ z_;ext xI z_ hT hn hch0 q;subst r9_;let nd:=scCs.nd;refine{_,(zE (zS (xR (zKq (pv 2) (λ_=>O))) (zG (zK (zP Gwhole_changed hr ∅ O (zA (pv 1) (zA (pv 3) zB))))) zL)
  (zE (pS 4 nd (zP Gstops_to_last hr ∅ O (zA (pv 0) (zA (pv 2) zB))))
  (zE (zS (xR (yB (zP Gcan_change hr ∅ O (zA (yJ zW (pv 4) (wF xM zF) (λ_ _=>O)) (zA (pv 1) (zA (yJ zW (pv 2) (wF xM zF) (λ_ _=>O)) zB)))))) (zG zIm) zL)
  (zE (pS 5 nd (zP Gpart_changed hr ∅ O (zA (yJ zW (pv 4) (wF xM zF) (λ_ _=>O)) (zA (pv 1) (zA (yJ zW (pv 2) (wF xM zF) (λ_ _=>O)) (zA (pv 3) zB))))))
  (zE (wU PassesOwn.never O (yAt O B.range (zA (zI wP (zM yI O B.len yV (zA (pv 2) zB)) zF) (zA (wF xM zF) (zA (wF xM zF) zB)))) (yF (i:=6) nd O (nN O)) (zG (pS 5 nd (zP Gpart_changed hr ∅ O (zA (yJ zW (pv 4) (pv 6) (λ_ _=>O)) (zA zU (zA (yJ zW (pv 2) (pv 6) (λ_ _=>O)) (zA (pv 5) zB))))))))
  (zG (zK (pv 5)))))))), ?_}
 walk_at "st";unfold yBg;lk;refine nEA _ (.inl {_,SqL.of hT.pa,O}) ?_;let hz:=hT.sz;let h8:=hT.l8;let hm:=hT.m
 cases hk:ks.getLast? with
 | none=>
  let e0:ks= []:=List.getLast?_eq_none_iff.mp hk;subst e0
  cases wd with
  | put=>
   let e:n=r0:=Sum.inr.inj hch0;subst e;exact iP O {vn,O,λH' g=>q vn H' g (Rep.same g _ _ hn)}
  | ins=>cases hch0
  | tak=>cases hch0
 | some k=>
  let hne:ks≠ []:=λz=>by rw[z] at hk;cases hk
  let hpos:0<ks...*:=rZ.mpr hne;let hie:(ks.map kV).isEmpty=false:=by cases ks with | nil=>exact absurd O hne | cons _ _=>rfl
  let hch:∀pt:T->Key->T,chG wd pt t ks n=if(goT t ks.dropLast)...*<ks...* then .inl ((goT t ks.dropLast)...* - 1) else
    match (goT t ks.dropLast).getLast? with
    | none=>.inl 0
    | some s=>if vB wd s k=true then .inr (bld (goT t ks.dropLast) ks (ks...* - 1) (pt s k)) else .inl (ks...* - 1):=λpt=>by unfold chG;rw[hk]<;>rfl
  rw[hch] at hch0;let hgl:=zCj t ks.dropLast;let hdl:ks.dropLast...*=ks...* - 1:=List.length_dropLast;let hle:ks...*<=(goT t ks.dropLast)...*:=by
   by_cases c:(goT t ks.dropLast)...*<ks...*
   ·rw[mO c] at hch0;cases hch0
   ·lia
  refine iN (by rw[hie];decide) {v,t,pa,ks,m,O,hT,hle,λp xs H1 g1 hp1 hR=>?_}
  ·let hnlt:¬(goT t ks.dropLast)...*<ks...*:=by lia
   rw[mL hnlt] at hch0;let hlen:(goT t ks.dropLast)...*=ks...*:=by lia
   refine oEA (zLt t ks.dropLast) λs hs hsm=>?_;rw[hs] at hch0;refine oEA (Reps.last hR hs) λxv hxv hxr=>?_;let hsi:(goT t ks.dropLast)[ks...* - 1]? =Y s:=by rw[aT,hlen] at hs;exact hs
   refine oAA (zGl ks.dropLast t _ s hT.few hsi) λs1 s2 s3=>?_;let hkm:k∈ks:=List.mem_of_getLast? hk;let hkl:atI (ks.map kV) (-1)=Y (kV k):=zIp (by rw[List.getLast?_map,hk];rfl);let sp:T.pure s:=jP _ s (mB _) (c7 ∅ _ s1);refine yL (SqL.of hp1) (zIp hxv) (yL (SqL.of (g1 _ _ hT.pa)) hkl {xv,s,wd,k,O,hxr,sp,∅,hT.ok k hkm,λH2 g2=>{_,O, ?_}});let g12:=g1.trans g2
   by_cases hc:vB wd s k=true
   ·rw[show(match Y s with | none=>Sum.inl 0 | some s=>if vB wd s k=true then Sum.inr (bld (goT t ks.dropLast) ks (ks...* - 1) (xA wd s k n)) else Sum.inl (ks...* - 1):Sum Nat T)=Sum.inr (bld (goT t ks.dropLast) ks (ks...* - 1) (xA wd s k n)) from mO hc] at hch0
    let er:=Sum.inr.inj hch0;subst er;refine iN (by rw[hc];decide) (yL (SqL.of (g2 _ _ hp1)) (zIp hxv) (yL (SqL.of (g12 _ _ hT.pa)) hkl {xv,s,wd,k,vn,n,m,O,Rep.same g2 _ _ hxr,s1,∅,∅,hT.ok k hkm,hc,Rep.same g12 _ _ hn,λv' H3 g3 hv3=>?_}));let g13:=g12.trans g3;let hp3:=g3 _ _ (g2 _ _ hp1);let hpa3:=g13 _ _ hT.pa;let hR3:=Reps.same (g2.trans g3) _ _ hR;let hxl:=hR...*;refine nEA _ (SqL.of hpa3) ?_;rw[mC];refine nAA ∅ ∅ ?_;rw[show((ks...*:Int)- 2+1).toNat=ks...* - 1 by lia];refine zHl (λi σ' H'=>∃o c r,σ'= [Y v,Y (.str wd.s),Y (.ref pa),Y vn,Y (.ref p),Y c,o]/\Same H3 H'/\Rep H' c r/\i<=ks...* - 1/\bld (goT t ks.dropLast) ks (ks...* - 1 - i) r=bld (goT t ks.dropLast) ks (ks...* - 1) (xA wd s k n)) {_,v',_,O,Same.refl _,hv3,mT _,O} ?_ ?_
    ·intro i σ' H' hi z_
     ext yC z_ o c r r3_ g z_;ext oAA z_ hc' hil hb;subst r3_;lk;obtain⟨M,hM⟩:∃M,ks...* - 1 - i=M+1:={ks...* - 2 - i,∅};let hpl:(ks...*:Int)- 2 - (i:Int)=(M:Int):=by lia
     rw[hpl];refine yC (zMm ks.dropLast t M ∅) λk' u' u2 h1 h2 z_=>?_;ext oA z_ h3 h4;let hki:ks[M]? =Y k':=by
      rw[List.getElem?_dropLast,mO ∅] at h1;exact h1
     refine oAA (zGl ks.dropLast t M u' hT.few h2) λa1 a2 a3=>?_;let hMx:M<xs...*:=by lia
     refine oEA (hR3.get (i:=M) (v:=xs[M]) (mJ hMx)) λu1 hu1 hr1=>?_;rw[h2] at hu1;cases hu1;let hok:=hT.ok k' (mF hki);refine yL (SqL.of (g _ _ hp3)) (yH (mJ hMx)) (yL (SqL.of (g _ _ hpa3)) (yH (j:=M) (by rw[mW,hki];rfl)) {_,u', .put,k',c,r,m,O,Rep.same g _ _ hr1,a1,∅,∅,hok,yAr hok h4,hc',λv4 H4 g4 hv4=>{_,v4,⟨O,O⟩,g.trans g4,_,hv4,∅, ?_}});let e1:(goT t ks.dropLast).getD M .non=u':=by rw[mZ,h2];rfl
     let e2:ks.getD M (.inl 0)=k':=by rw[mZ,hki];rfl
     rw[hM] at hb;let hb':bld (goT t ks.dropLast) ks M (xA .put ((goT t ks.dropLast).getD M .non) (ks.getD M (.inl 0)) r)=_:=hb;rw[e1,e2] at hb';rw[show ks...* - 1 - (i+1)=M by lia];exact hb'
    ·intro σ' H' z_
     ext yC z_ o c r r3_ g z_;ext oAA z_ hc' hil hb;subst r3_;lk;rw[show ks...* - 1 - (ks...* - 1)=0 by lia] at hb;let hb':r=_:=hb;rw[hb'] at hc';exact q c H' (g13.trans g) hc'
   ·rw[show(match Y s with | none=>Sum.inl 0 | some s=>if vB wd s k=true then Sum.inr (bld (goT t ks.dropLast) ks (ks...* - 1) (xA wd s k n)) else Sum.inl (ks...* - 1):Sum Nat T)=Sum.inl (ks...* - 1) from mL hc] at hch0
    cases hch0
theorem zLn{t:T}{k:Key}{st:List T}{ks:List Key}:∀(m:Nat)(r:T),bld (t::st) (k::ks) (m+1) r=xA .put t k (bld st ks m r)
 | 0,r=>rfl
 | m+1,r=>by
  show bld (t::st) (k::ks) (m+1) (xA .put (st.getD m .non) (ks.getD m (.inl 0)) r)=_;rw[zLn m]
  rfl
theorem zNd{w:Wd}{n:T}:∀(ks:List Key)(t r:T),doT w n ks t=Y r->chG w (λs k=>xA w s k n) t ks n= .inr r
 | [],t,r,h=>by
  cases w with
  | put=>exact congrArg Sum.inr (mM h)
  | ins=>cases h
  | tak=>cases h
 | [k],t,r,h=>by
  let h':(if vB w t k=true then Y (xA w t k n) else none)=Y r:=h
  by_cases hc:vB w t k=true
  ·rw[mO hc] at h'
   let e:=mM h';subst e;show(if 1<1 then Sum.inl 0 else(if vB w t k=true then Sum.inr (xA w t k n) else Sum.inl 0:Sum Nat T))=_;rw[mL ∎,mO hc]
  ·rw[mL hc] at h';cases h'
 | k::k'::ks,t,r,h=>by
  rw[gX (by simp)] at h
  cases hs:xK t k with
  | none=>rw[hs] at h;cases h
  | some s=>
   rw[hs] at h;obtain⟨r',hr',e⟩:=pJ.mp h;subst e;let ih:=zNd (k'::ks) s r' hr';let hgo:goT t (k::(k'::ks).dropLast)=t::goT s (k'::ks).dropLast:=by
    show(match xK t k with | none=>[t] | some u=>t::goT u (k'::ks).dropLast)=_
    rw[hs]
   unfold chG at ih⊢;obtain⟨kl,hkl⟩:∃kl,(k'::ks).getLast? =Y kl:={_,List.getLast?_eq_some_getLast (rN _ _)};let hkl2:(k::k'::ks).getLast? =Y kl:=by rw[List.getLast?_cons_cons];exact hkl
   rw[hkl] at ih;rw[hkl2];let hdl:(k::k'::ks).dropLast=k::(k'::ks).dropLast:=rfl;dsimp only at ih⊢;rw[hdl,hgo]
   by_cases c:(goT s (k'::ks).dropLast)...*<(k'::ks)...*
   ·rw[mO c] at ih;cases ih
   rw[mL c] at ih;rw[nI,nI (as:=k'::ks),mL ∅];obtain⟨sl,hsl,_⟩:=zLt s (k'::ks).dropLast;let hsl2:(t::goT s (k'::ks).dropLast).getLast? =Y sl:=by
    cases hg:goT s (k'::ks).dropLast with
    | nil=>rw[hg] at hsl;cases hsl
    | cons a b=>rw[List.getLast?_cons_cons,<-hg];exact hsl
   rw[hsl] at ih;rw[hsl2];dsimp only at ih⊢
   by_cases hc:vB w sl kl=true
   ·rw[mO hc] at ih⊢
    let e:=Sum.inr.inj ih;rw[show(k'::ks)...*+1 - 1=((k'::ks)...* - 1)+1 by rw[nI];lia,zLn,e]
   ·rw[mL hc] at ih;cases ih
end
end K44
namespace K44
open PySem L2
seal L2.PSs L2.PS L2.PE L2.PT L2.PW L2.PA L2.PI L2.PG L2.PGs L2.PPs L2.PTs
abbrev zJv:V6:=top 34
abbrev zSz:V6:=top 51
abbrev zVl:V6:=top 50
theorem zPf{H:Hp}:∀{ks:List Key}{xs:List V},Reps H xs (ks.map kT)->xs=ks.map kV
 | [],xs,h=>h
 | k::ks,xs,h=>by
  ext yN h v r r2_ h1 h2;subst r2_;rw[zPf h2]
  cases k with
  | inl i=>exact congrArg (· ::ks.map kV) (show v=V.int i from h1)
  | inr s=>
   let e:v=V.str (tx (ts s)):=h1;rw[vH] at e;exact congrArg (· ::ks.map kV) e
def Dlay(H:Hp)(v:V)(d:Dd):Prop:=∃tp pd r,v= .ref tp/\H tp=Y (.tup (.str d.1.s:: .ref pd::r))/\H pd=Y (.lst (d.2.1.map kV))/\((d.1= .tak/\r= [])\/(d.1≠ .tak/\∃x,r= [x]/\Rep H x d.2.2))
theorem Dlay.same{H H':Hp}{v:V}{d:Dd}(g:Same H H')(h:Dlay H v d):Dlay H' v d:=by
 ext yC h tp pd r h1 h2 z_;ext oA z_ h3 h4;exact{tp,pd,r,h1,g _ _ h2,g _ _ h3,h4.imp id fun⟨a,x,b,c⟩=>{a,x,b,Rep.same g _ _ c}}
theorem zUy{H:Hp}{v:V}{d:Dd}(h:Rep H v (ddT d)):Dlay H v d:=by
 obtain⟨w,ks,n⟩:=d;let two:∀r,Rep H v (.tup (.str (ts w.s):: .lst (ks.map kT)::r))->∃tp pd xs,v= .ref tp/\H tp=Y (.tup (.str w.s:: .ref pd::xs))/\H pd=Y (.lst (ks.map kV))/\Reps H xs r:=λr h=>by
  obtain⟨tp,xs,rfl,hp,v1,r1,rfl,e1,v2,r2,rfl,⟨pd,ps,rfl,hpd,hps⟩,hr⟩:=h;let e1:v1=V.str (tx (ts w.s)):=e1;rw[vH] at e1;rw[zPf hps] at hpd;subst e1;exact qN tp pd r2 O hp (nA hpd hr)
 cases w with
 | tak=>
  refine yC (two [] h) λtp pd xs h1 h2 z_=>?_;ext oA z_ h3 h4;let e:xs= []:=h4;subst e;exact{tp,pd,[],h1,h2,h3, .inl ⟨O,O⟩}
 | put=>
  obtain⟨tp,pd,xs,h1,h2,h3,x,r,e,h4,h5⟩:=two [n] h;let e':r= []:=h5;subst e e';exact{tp,pd,[x],h1,h2,h3,bQ {(by intro z;cases z),x,O,h4}}
 | ins=>
  obtain⟨tp,pd,xs,h1,h2,h3,x,r,e,h4,h5⟩:=two [n] h;let e':r= []:=h5;subst e e';exact{tp,pd,[x],h1,h2,h3,bQ {(by intro z;cases z),x,O,h4}}
section
variable{P:V3}{w:V4}{K:A7}{mg:Str->Option V0}{base:V5}{f:V1}{fd:V7}
def zKp:Sp:=λvs H Q _=>∃(pd:V1)(ks:List Key),vs= [.ref pd]/\H pd=Y (.lst (ks.map kV))/\ks...*<=8/\(∀k∈ks,okS k)/\∀H',Same H H'->Q (.bl true) H'
theorem scIsPath:zY ["thing"] ["thing"] (zN zJv):=by walk_at "sc"
theorem zOd(F:Fun K "is_path" "is_path" zJv f fd)(B:Bl mg)(M:Ms mg)(Gis_name:Dn P w K mg base 1 "is_name" ["thing"] zMr)(Gis_place:Dn P w K mg base 2 "is_place" ["thing"] zCo):FnOk P w K mg base CX0 3 f fd ["thing"] zKp:=by
 refine F.ok scIsPath (λvs H Q E h=>?_) (λc A o s H vs Q E hr h=>?_)
 ·ext wA h pd ks r2_ _
  subst r2_
  rfl
 ext yA h pd ks r2_ ha h8 z_;ext oA z_ hok q;subst r2_;let nd:=scIsPath.nd;refine{_,(zE (zS (d9 (qM (xR (yB (pI B.isinstance zH B.list yX (pv 0)))) (jG (zQ qS (zM yI O B.len yV (zA (pv 0) zB)) (zCq O M.MOST_STEPS) (zO _))))) (zG (zK wZ)) zL)
  (zG (zK (zM (qQ O) O B.all uM (zA (xW (own:=["step"]) (F:=[]) {O,tb_g%,tb_g%,tb_g%, .nil} O (xN (pv 0)) (λ_ _ _ _=>yF (i:=0) (by show(xX ["step"] []).Nodup;decide+kernel) O (nN O)) (λ_ _ _ _=>xJ) (λ_ _ _ _=>(yBo (zP Gis_name hr ∅ O (zA (pv 0) zB)) (vU (zP Gis_place hr ∅ O (zA (pv 0) zB)))))) zB))))), ?_}
 walk_at "st";lk;refine nEA ("list") (vX ha) (iN ∎ {_,SqL.of ha, ?_});rw[mC];refine iN ∅ {{_,SqL.of ha}, ?_};refine xT (K:=K) (xs:=ks.map kV) (λi zs H2=>Same H H2/\zs=(List.replicate i true).map V.bl) (by rw[mQ,mC];lia) {Same.refl _,O} (λi zs H2 _ h=>SqL.of (h.1 _ _ ha)) ?_ ?_
 ·rintro i v zs H2 hv _ ⟨g,rfl⟩
  rw[mW] at hv;refine oEA (pJ.mp hv) λk hk r2_=>?_;subst r2_;let hs:=hok k (mF hk);let fin:∀H4,Same H2 H4->Same H H4/\(List.replicate i true).map V.bl++ [V.bl true]=(List.replicate (i+1) true).map V.bl:=λH4 g4=>{g.trans g4,zAc i};lk
  cases k with
  | inl j=>
   refine{_,"int",O,O,(λx e=>by cases e),λH3 g3=>{false,O,iN ∎ {_, .int j,O,O,λH4 g4=>?_}}};let hj:0<=j/\j<=59:=hs;let e:zAq (.int j)=true:=nH {hj.1,∅};rw[e];exact fin H4 (g3.trans g4)
  | inr z=>
   let hz:yY (ts z)=true:=hs;refine{_,"str",O,O,λx e=>by
    cases e;let:=zBs hz;rw[<-vH z,qC]
    lia,λH3 g3=>{true, ?_,iP O (fin H3 g3)}}
   show V.bl (yY (ts z))=_;rw[hz]
 ·rintro zs H2 _ ⟨g,rfl⟩ l hl'
  refine wT l O _ (SqL.of zC) ?_;rw[zAb];exact q _ (g.trans (zD hl' _))
def zWn:Sp:=λvs H Q _=>∃(v:V)(d:Dd),vs= [v]/\Dlay H v d/\Dok 8 200 d/\∀H',Same H H'->Q (.bl true) H'
theorem scDeed:zY ["thing"] ["thing"] (zN zSz):=by walk_at "sc"
theorem yAn(F:Fun K "is_deed" "is_deed" zSz f fd)(B:Bl mg)(Gis_path:Dn P w K mg base 3 "is_path" ["thing"] zKp)(Gis_thing:Dn P w K mg base 3 "is_thing" ["thing"] zTn):FnOk P w K mg base CX0 4 f fd ["thing"] zWn:=by
 refine F.ok scDeed (λvs H Q E h=>?_) (λc A o s H vs Q E hr h=>?_)
 ·ext wA h v d r2_ _
  subst r2_
  rfl
 obtain⟨v,d,rfl,⟨tp,pd,r,rfl,hp,hpd,hr4⟩,hok,q⟩:=h;let nd:=scDeed.nd;let hu:=wR hr;refine{_,(zE (zS (d9 (qM (xR (yB (pI B.isinstance zH B.tuple zAp (pv 0)))) (qM (xR (zLj uR uR zF (zM kC O B.len yV (zA (pv 0) zB)) zF)) (jG (xR (yB (zP Gis_path hr ∅ O (zA (yJ qT (pv 0) zF (λ_ _=>O)) zB)))))))) (zG (zK wZ)) zL)
  (zE (zS (zQ xG (zM kC O B.len yV (zA (pv 0) zB)) zF (zO _)) (zG (zK (yW (zZh hu) (yJ qT (pv 0) zF (λ_ _=>O)) zU (zO _)))) zL)
  (zG (zK (vO (yW (yAc hu) (yJ qT (pv 0) zF (λ_ _=>O)) (wX (zA zU (zA zU zB))) (by with_unfolding_all rfl)) (vU (zP Gis_thing hr ∅ O (zA (yJ qT (pv 0) zF (λ_ _=>O)) zB)))))))), ?_}
 walk_at "st";lk;let hl8:=hok.l;refine nEA ("tuple") (zKk hp) (iN ∎ {_, .inr (SqT.of hp), ?_});rcases hr4 with⟨hw,rfl⟩|⟨hw,x,rfl,hx⟩
 ·refine iP (by show(2:Int)<=((2:Nat):Int);decide) (iN (by show¬¬((2:Nat):Int)<=3;decide) (vK (SqT.of hp) (yH (j:=1) O) {pd,_,O,hpd,∅,hok.s,λH1 g1=>{true,O,iN ∎ {_, .inr (SqT.of (g1 _ _ hp)),iP (by rfl) (vK (SqT.of (g1 _ _ hp)) (yH (j:=0) O) ?_)}}}))
  refine{_,O, .inl {O, ?_}};rw[hw,nH (show V.str Wd.tak.s=V.str (A6 "take") from O)];exact q _ g1
 ·refine iP (by show(2:Int)<=((3:Nat):Int);decide) (iN (by show¬¬((3:Nat):Int)<=3;decide) (vK (SqT.of hp) (yH (j:=1) O) {pd,_,O,hpd,∅,hok.s,λH1 g1=>{true,O,iN ∎ {_, .inr (SqT.of (g1 _ _ hp)),iN (by show¬((3:Nat):Int)=2;decide) (vK (SqT.of (g1 _ _ hp)) (yH (j:=0) O) λp2 hp2=>?_)}}}))
  let g2:=g1.trans (zD hp2 (.tup [V.str (A6 "put"),V.str (A6 "insert")]));refine{p2,[A6 "put",A6 "insert"],O,zC, .inl {O, ?_}};let e:inV (V.str d.1.s) ([A6 "put",A6 "insert"].map V.str)=true:=by
   cases hd:d.1 with
   | put=>decide+kernel
   | ins=>decide+kernel
   | tak=>exact absurd hd hw
  rw[e];refine nEA true O (iP O (vK (SqT.of (g2 _ _ hp)) (yH (j:=2) O) {x,_,O,Rep.same g2 _ _ hx,{hok.g,∅,hok.z},λH3 g3=>q _ (g2.trans g3)}))
def zSt:Sp:=λvs H Q _=>∃(a:V1)(xs:List V)(ds:List Dd),vs= [.ref a]/\H a=Y (.lst xs)/\xs...*=ds...*/\ds...*<=400/\(∀(i:Nat) v d,xs[i]? =Y v->ds[i]? =Y d->Dlay H v d/\Dok 8 200 d)/\∀H',Same H H'->Q (.bl true) H'
theorem scPapr:zY ["thing"] ["thing"] (zN zVl):=by walk_at "sc"
theorem zYp(F:Fun K "is_paper" "is_paper" zVl f fd)(B:Bl mg)(M:Ms mg)(Gis_deed:Dn P w K mg base 4 "is_deed" ["thing"] zWn):FnOk P w K mg base CX0 5 f fd ["thing"] zSt:=by
 refine F.ok scPapr (λvs H Q E h=>?_) (λc A o s H vs Q E hr h=>?_)
 ·ext vZ h a xs ds r3_ _
  subst r3_
  rfl
 ext yC h a xs ds r3_ ha z_;ext xI z_ hl h4 hd q;subst r3_;let nd:=scPapr.nd;refine{_,(zE (zS (d9 (qM (xR (yB (pI B.isinstance zH B.list yX (pv 0)))) (jG (zQ qS (zM yI O B.len yV (zA (pv 0) zB)) (zCq O M.MOST_DEEDS) (zO _))))) (zG (zK wZ)) zL)
  (zG (zK (zM (qQ O) O B.all uM (zA (xW (own:=["part"]) (F:=[]) {O,tb_g%,tb_g%,tb_g%, .nil} O (xN (pv 0)) (λ_ _ _ _=>yF (i:=0) (by show(xX ["part"] []).Nodup;decide+kernel) O (nN O)) (λ_ _ _ _=>xJ) (λ_ _ _ _=>(zP Gis_deed hr ∅ O (zA (pv 0) zB)))) zB))))), ?_}
 walk_at "st";lk;refine nEA ("list") (vX ha) (iN ∎ {_,SqL.of ha,iN ∅ {{_,SqL.of ha}, ?_}});refine xT (K:=K) (xs:=xs) (λi zs H2=>Same H H2/\zs=(List.replicate i true).map V.bl) (by rw[mQ];lia) {Same.refl _,O} (λi zs H2 _ h=>SqL.of (h.1 _ _ ha)) ?_ ?_
 ·rintro i v zs H2 hv _ ⟨g,rfl⟩
  let hi:=(mP.mp hv).1;let hdi:ds[i]? =some ds[i]:=mJ ∅;obtain⟨d1,d2⟩:=hd i v _ hv hdi;lk;exact{v,_,O,d1.same g,d2,λH3 g3=>{g.trans g3,zAc i}}
 ·rintro zs H2 _ ⟨g,rfl⟩ l hl'
  refine wT l O _ (SqL.of zC) ?_;rw[zAb];exact q _ (g.trans (zD hl' _))
end
end K44
namespace L2
open PySem PySem.Spec PyProof.Rows
theorem zZj{X:Cx}{body:List V6}{tb:TS}{ty:Option Expr}{nm:Option Str}{suite:List V6}{hp pos:Pos}(hxe:∀e s,¬X.xe e s)(hb:PSs X body tb):PS X (.Try body [.ExceptHandler ty nm suite hp] [] [] pos) tb:=by
 intro pins s σ H D I h;refine wpAny_Try_except ?_;refine rX (hb pins s σ H D I h) (λf s1 q=>?_) λe s1 z=>absurd z (hxe e s1)
 cases f with
 | next=>exact aQ q
 | brk=>exact q
 | cont=>exact q
 | ret u=>exact q
end L2
namespace K44
open PySem L2
seal L2.PSs L2.PS L2.PE L2.PT L2.PW L2.PA L2.PI L2.PG L2.PGs L2.PPs L2.PTs
abbrev sDf:V6:=top 22
abbrev sAd:V6:=top 54
abbrev yFg:V6:=top 39
abbrev sSo:V6:=top 53
abbrev zTh:V6:=top 52
theorem zRa{K:A7}{l:V1}{xs:List V}{g:TG}{tb:TS}{D:uW}{σ:St}{H:Hp}(Pv:Nat->St->Hp->Prop)(h0:Pv 0 σ H)(hl:∀i σ H,Pv i σ H->SqL K H l xs)
  (hs:∀i x σ H p,xs[i]? =Y x->Pv i σ H->H p=none->g (.ref p) σ (upd H p (.tup [.int i,x])) λσ2 H2=>tb {D with nx:=Pv (i+1),ct:=Pv (i+1),bk:=D.nx} σ2 H2)
  (hd:∀σ H,Pv xs...* σ H->D.nx σ H):zRj g tb D σ (Ite K l) H:=by
 refine{λi k σ H=>k=xs...* - i/\i<=xs...*/\Pv i σ H,{_,O,mT _,h0}, ?_};rintro i k σ H ⟨rfl,h1,p⟩;let q1:=hl i σ H p
 by_cases e1:i<xs...*
 ·refine .inr {{xs,xs[i],q1,by simp[e1]},Pv (i+1),λσ' H' q=>{_,∅,O,e1,q}, ?_}
  intro v H' z_;ext yA z_ a x ha r3_ hx r5_;subst r3_ r5_;exact hs i x σ H a (hx xs q1) p ha
 ·let e:i=xs...*:=by lia
  subst e;exact .inl {{xs,q1,mB _},hd σ H p}
theorem zYz(ds:List Dd):ds.map (pfx [])=ds:=by
 let:∀d:Dd,pfx [] d=d:=λd=>O;rw[rG λd _=>this d,List.map_id']
structure RI(ds:List Dd)(s:T):Prop where
 a:allR (T.fewm 30) ds s
 g:T.gk s
 d:T.dep s<=8
 z:T.sz s+qI ds<=1000
 o:∀d∈ds,Dok 8 200 d
 r:∃r,xU ds s=Y r
theorem RI.few{ds:List Dd}{s:T}(h:RI ds s):T.few s:=c7 ∎ _ h.a.head
theorem RI.step{d:Dd}{ds:List Dd}{s:T}(h:RI (d::ds) s):∃r,doT d.1 d.2.2 d.2.1 s=Y r/\RI ds r:=by
 obtain⟨r,hr⟩:=h.r;let hr':(doT d.1 d.2.2 d.2.1 s).bind (xU ds)=Y r:=hr;obtain⟨s',h1,h2⟩:=Option.bind_eq_some_iff.mp hr';let ok:=h.o d mG;let hz:=h.z;let hz':T.sz s+(cst d+qI ds)<=1000:=hz;let key:∀n,doT d.1 n d.2.1 s=Y s'->T.fewm 30 n->T.gk n->d.2.1...*+T.dep n<=8->T.sz n<=cst d->RI ds s':=λn hdo fn gn hl hn=>by
  refine xI (zKi (m:=30) ∎ fn gn d.2.1 s s' hdo h.a.head h.g ok.s ∅) λ_ b2 b3 b4=>?_;let:=h.d;exact{h.a.2 s' h1,b2,∅,∅,λd' hd'=>h.o d' (mE _ hd'),⟨r,h2⟩}
 refine nEA s' h1 ?_;let hl:=ok.l
 cases hw:d.1 with
 | tak=>
  refine key .non (by rw[hw];rw[hw,zEh (n':=.non)] at h1;exact h1) mH mH (by show d.2.1...*+0<=8;lia) (zQo d)
 | put=>exact key d.2.2 h1 (kJ _ ok.g.f ok.g.n) ok.g.g hl (by unfold cst;rw[hw];exact mB _)
 | ins=>exact key d.2.2 h1 (kJ _ ok.g.f ok.g.n) ok.g.g hl (by unfold cst;rw[hw];exact mB _)
theorem ThI.ri{t u:T}(h:ThI t)(h':ThI u):RI (dfT 20 t u) t/\∃r,xU (dfT 20 t u) t=Y r/\alk r u=true:=by
 let hd:=h.d;let hd':=h'.d;let hz:=h.z;let hz':=h'.z;obtain⟨r,h1,h2⟩:=zEu 20 t u h.g.f h'.g.f h.g.n ∅;let hc:=zGo 20 t u h.g.f h'.g.f;refine zHa {zJk 20 t u h.g.f h'.g.f h.g.n h'.g.n ∅,h.g.g,hd,∅,λd hdm=>?_,⟨r,h1⟩} r h1 h2;let:=zNs 20 t u h.g h'.g d hdm;exact{this.s,by let:=this.l;lia,this.g,by let:=this.z;lia}
section
variable{P:V3}{w:V4}{K:A7}{mg:Str->Option V0}{base:V5}{f:V1}{fd:V7}
def spDf:Sp:=λvs H Q _=>∃(vo vn:V)(t u:T),vs= [vo,vn]/\Rep H vo t/\Rep H vn u/\ThI t/\ThI u/\∀l ys D H',Same H H'->H l=none->H' l=Y (.lst ys)->Sps H' ys ((dfT 20 t u).map ddT) D->(∀b∈D,H b=none/\b≠l)->Q (.ref l) H'
theorem scDf:zY ["old","new"] ["old","new"] (zN sDf):=by walk_at "sc"
theorem ok_df{k:Nat}(F:Fun K "difference" "difference" sDf f fd)(Gdeeds_between:Dn P w K mg base k "deeds_between" ["old","new","path"] (zRv 20)):FnOk P w K mg base CX0 (k+1) f fd ["old","new"] spDf:=by
 refine F.ok scDf (λvs H Q E h=>?_) (λc A o s H vs Q E hr h=>?_)
 ·ext yS h vo vn t u r4_ _
  subst r4_
  rfl
 ext yS h vo vn t u r4_ z_;ext vS z_ ho hn it iu q;subst r4_;let nd:=scDf.nd;refine nEA _ (zG (zK (zP Gdeeds_between hr ∅ O (zA (pv 0) (zA (pv 1) (zA (yG zB) zB)))))) ?_;walk_at "st";lk;intro pa hpa;let s1:=zD hpa (.lst []);let e1:=zC (H:=H) (a:=pa) (o:=.lst []);generalize upd H pa (.lst [])=H1 at s1 e1⊢;let hd:=it.d;let hd':=iu.d;let hz:=it.z;let hz':=iu.z;let hc:=zGo 20 t u it.g.f iu.g.f;let hln:=zEx (dfT 20 t u);refine{vo,vn,pa,t,u,[],O,Rep.same s1 _ _ ho,Rep.same s1 _ _ hn,e1,{it.g.f,iu.g.f,∅,∅,∅,∅,by show 0+T.dep t<=100;lia},∅,∅,λl ys D H2 g2 hl hl2 hs hD=>?_};rw[zYz] at hs;refine q l ys D H2 (s1.trans g2) (zR s1 hl) hl2 hs λb hb=>{?_,(hD b hb).2};rcases(hD b hb).1 with z | z
 ·exact zR s1 z
 ·rw[z];exact hpa
def yBc:Sp:=λvs H Q _=>∃(v:V)(t:T),vs= [v]/\Rep H v t/\ThI t/\∀H',Same H H'->Q v H'
theorem scSou:zY ["thing"] ["thing"] (zN yFg):=by walk_at "sc"
theorem yDo(F:Fun K "sound" "sound" yFg f fd)(Gis_thing:Dn P w K mg base 3 "is_thing" ["thing"] zTn):FnOk P w K mg base CX0 4 f fd ["thing"] yBc:=by
 refine F.ok scSou (λvs H Q E h=>?_) (λc A o s H vs Q E hr h=>?_)
 ·ext wA h v t r2_ _
  subst r2_
  rfl
 ext yA h v t r2_ hv hg q;subst r2_;let nd:=scSou.nd;refine{_,(zE (zS (xR (yB (zP Gis_thing hr ∅ O (zA (pv 0) zB)))) (zG zIm) zL)
  (zG (zK (pv 0)))), ?_}
 walk_at "st";lk;refine{v,t,O,hv,hg,λH1 g1=>{true,O,iN ∎ (q H1 g1)}}
def spAd:Sp:=λvs H Q _=>∃(v x:V)(j:Int)(s:T)(d:Dd)(r:T),vs= [v,x, .int j]/\Rep H v s/\T.fewm 30 s/\T.sz s<=1000/\Dlay H x d/\Dok 8 200 d/\doT d.1 d.2.2 d.2.1 s=Y r/\∀v' H',Same H H'->Rep H' v' r->Q v' H'
theorem scAd:zY ["thing","deed","number","new","refusal"] ["thing","deed","number"] (zN sAd):=by walk_at "sc"
theorem ok_ad(F:Fun K "after_deed" "after_deed" sAd f fd)(B:Bl mg)(Gchange_shared:Dn P w K mg base 5 "change_shared" ["thing","word","path","new"] yDa):FnOk P w K mg base CX0 6 f fd ["thing","deed","number"] spAd:=by
 refine F.ok scAd (λvs H Q E h=>?_) (λc A o s H vs Q E hr h=>?_)
 ·ext yM h v x j s d z_
  ext oEA z_ r r6_ _;subst r6_
  rfl
 obtain⟨v,x,j,s,d,r,rfl,hv,hf,hz,⟨tp,pd,rr,rfl,hp,hpd,hr4⟩,hok,hdo,q⟩:=h;let nd:=scAd.nd;refine{_,(zE (pS 3 nd (zMq (zQ qS (zM kC O B.len yV (zA (pv 1) zB)) zF (zO _)) (yJ qT (pv 1) zF (λ_ _=>O)) jD))
  (zG (zZj (λ_ _ h=>h) (zG (zK (zP Gchange_shared hr ∅ O (zA (pv 0) (zA (yJ qT (pv 1) zF (λ_ _=>O)) (zA (yJ qT (pv 1) zF (λ_ _=>O)) (zA (pv 3) zB)))))))))), ?_}
 walk_at "st";lk;let hl8:=hok.l;let hT:Tq 30 H v s pd d.2.1:={hv,hf,by decide,∅,hpd,λk hk=>(hok.s k hk).k,∅};rcases hr4 with⟨hw,rfl⟩|⟨hw,y,rfl,hy⟩
 ·refine nEA _ (.inr (SqT.of hp)) (iN (by show¬(2:Int)<((2:Nat):Int);decide) (vK (SqT.of hp) (yH (j:=0) O) (vK (SqT.of hp) (yH (j:=1) O) {v,s,d.1,pd,d.2.1, .non, .non,30,r,O,hT,O, ?_,q})))
  refine zNd _ _ _ ?_;rw[hw,zEh (n':=d.2.2),<-hw];exact hdo
 ·exact nEA _ (.inr (SqT.of hp)) (iP (by show(2:Int)<((3:Nat):Int);decide) (vK (SqT.of hp) (yH (j:=2) O) (vK (SqT.of hp) (yH (j:=0) O) (vK (SqT.of hp) (yH (j:=1) O) {v,s,d.1,pd,d.2.1,y,d.2.2,30,r,O,hT,hy,zNd _ _ _ hdo,q}))))
def Dlays(H:Hp)(xs:List V)(ds:List Dd):Prop:=xs...*=ds...*/\∀(i:Nat) v d,xs[i]? =Y v->ds[i]? =Y d->Dlay H v d
theorem Dlays.of{H:Hp}{xs:List V}{ds:List Dd}(h:Reps H xs (ds.map ddT)):Dlays H xs ds:=by
 let hl:=h...*;rw[mC] at hl;refine{hl,λi v d hv hd=>?_};obtain⟨t,ht,hr⟩:=h.get hv;rw[mW,hd] at ht;rw[<-mM ht] at hr;exact zUy hr
theorem zGe{H H':Hp}{d:V1}{o:Obj}{xs:List V}(hd:H d=Y (.lst xs))(g:Same (upd H d (.frz o (.lst xs))) H'):Same H (L2.thaw H H'):=zCz λb u e=>by
 by_cases hb:b=d
 ·subst hb
  rw[hd] at e;cases e;exact .inr {{o,g _ _ zC},λ_ _ z=>by cases z}
 ·exact .inl (g _ _ (by rw[zV hb];exact e))
def spSo:Sp:=λvs H Q _=>∃(v:V)(pa:V1)(xs:List V)(t:T)(ds:List Dd)(r:T),vs= [v, .ref pa]/\Rep H v t/\H pa=Y (.lst xs)/\Dlays H xs ds/\RI ds t/\ds...*<=400/\xU ds t=Y r/\ThI r/\∀l ys y H',Same H H'->H' l=Y (.lst (ys++ [y]))->Rep H' y r->Q (.ref l) H'
theorem scSo:zY ["thing","paper","stands","number","deed"] ["thing","paper"] (zN sSo):=by walk_at "sc"
theorem ok_so(F:Fun K "stands_of" "stands_of" sSo f fd)(B:Bl4 mg)(Gafter_deed:Dn P w K mg base 6 "after_deed" ["thing","deed","number"] spAd)(Gsound:Dn P w K mg base 6 "sound" ["thing"] yBc):FnOk P w K mg base CX0 7 f fd ["thing","paper"] spSo:=by
 refine F.ok scSo (λvs H Q E h=>?_) (λc A o s H vs Q E hr h=>?_)
 ·ext yM h v pa xs t ds z_
  ext oEA z_ r r6_ _;subst r6_
  rfl
 ext yM h v pa xs t ds z_;ext qB z_ r r6_ hv hpa hD z_;ext vS z_ hI hl4 hrun hth q;subst r6_;let nd:=scSo.nd;let hu:=wR hr;refine{_,(zE (pS 2 nd (yG (zA (pv 0) zB)))
  (zE (wU PassesOwn.never O (zOr O B.enumerate (zA (pv 1) zB)) (zNe (n:=2) O (jO (yF (i:=3) nd O (nN O)) (jO (yF (i:=4) nd O (nN O)) zEp))) (zG (wC (qF nQ pN pV vJ (pv 2) (zA (zAy (zP Gafter_deed hr ∅ O (zA (yJ zW (pv 2) (wF xM zF) (λ_ _=>O)) (zA (pv 4) (zA (pv 3) zB))))) zB)))))
  (zE (wC (zP Gsound hr ∅ O (zA (yJ zW (pv 2) (wF xM zF) (λ_ _=>O)) zB)))
  (zG (zK (pv 2)))))), ?_}
 walk_at "st";unfold yBd;lk;intro ps hps;let s1:=zD hps (.lst [v]);let e1:=zC (H:=H) (a:=ps) (o:=.lst [v]);let hv1:Rep (vN (upd H ps (.lst [v])) ps) v t:=Rep.same (λb o e=>by
  let hb:b≠ps:=λz=>by subst z;rw[hps] at e;cases e
  rw[wO hb,zV hb];exact e) _ _ hv
 generalize upd H ps (.lst [v])=H1 at s1 e1 hv1⊢;let hxl:=hD.1;refine{{_,SqL.of (s1 _ _ hpa)}, ?_};refine zRa (K:=K) (l:=pa) (xs:=xs) (λi σ H'=>∃(o1 o2:Option V)(ys:List V)(y:V)(s:T),σ= [Y v,Y (.ref pa),Y (.ref ps),o1,o2]/\Same H H'/\H' ps=Y (.lst (ys++ [y]))/\ys...*=i/\Rep (vN H' ps) y s/\RI (ds.drop i) s/\xU (ds.drop i) s=Y r) {_,_,[],v,t,O,s1,e1,O,hv1,hI,hrun} (λi σ H' h=>?_) ?_ ?_
 ·ext yM h o1 o2 ys y s z_
  ext oAA z_ r5_ g _;subst r5_;exact SqL.of (g _ _ hpa)
 ·intro i x σ H2 p hx z_
  ext yM z_ o1 o2 ys y s z_;ext yR z_ r5_ g2 hps2 hyl hy z_;ext oA z_ hRI hrn;subst r5_;intro hp;lk;let s3:=zD hp (.tup [V.int (i:Int),x]);let e3:=zC (H:=H2) (a:=p) (o:=.tup [V.int (i:Int),x]);let g3:=g2.trans s3;let hps3:=s3 _ _ hps2;let hy3:=Rep.same (gR (d:=ps) s3) _ _ hy;generalize upd H2 p (.tup [V.int (i:Int),x])=H3 at s3 e3 g3 hps3 hy3⊢;let hil:=(mP.mp hx).1;let hdi:ds[i]? =some ds[i]:=mJ ∅;let hdr:ds.drop i=ds[i]::ds.drop (i+1):=pB ∅;rw[hdr] at hRI hrn;refine oEA (hRI.step) λr' hdo hRI'=>?_;rw[uA hdo] at hrn;let hz:=hRI.z;refine zOk _ (SqT.of e3) O _ _ (zTf O _ _ O O (nA (nN {O,_,SqL.of hps3}) ?_));unfold zGq zMd;refine{ps, .inr {_,hps3,λo=>?_}};let gf:Same H (upd H3 ps (.frz o (.lst (ys++ [y])))):=vC g3 hps;lk;refine yL (.inl (.inr ⟨o,zC⟩)) (wL _ _) {y,x,_,s,ds[i],r',O,Rep.same zAf _ _ hy3,hRI.a.head,∅,(hD.2 i x _ hx hdi).same gf,hRI.o _ mG,hdo,λv' Hc gc hv'=>?_};let gt:=zGe hps3 gc;let hv6:Rep (vN (L2.thaw H3 Hc) ps) v' r':=Rep.off (gc _ _ zC) hv';dsimp only;generalize L2.thaw H3 Hc=H6 at gt hv6⊢;refine{ps,ys++ [y],v',O,O,gt _ _ hps3,by rw[mQ,mK,mY];lia, ?_};refine zUr ⟨_,O⟩ (vC (g3.trans gt) hps) (ys++ [y]) v' zC (zXk (by rw[mK,mY];lia) r' (by rw[kL];exact hv6) hRI' hrn)
 ·intro σ H2 z_
  ext yM z_ o1 o2 ys y s z_;ext yR z_ r5_ g2 hps2 hyl hy z_;ext oA z_ hRI hrn;subst r5_;lk;rw[hxl,aL] at hrn hRI;let er:s=r:=mM hrn;subst er;let hz:=hRI.z;refine yL (SqL.of hps2) (wL _ _) {y,s,O,Rep.same wK _ _ hy,hth,λH3 g3=>?_};exact q ps ys y H3 (g2.trans g3) (g3 _ _ hps2) (Rep.same g3 _ _ (Rep.same wK _ _ hy))
def zWx:Sp:=λvs H Q _=>∃(v:V)(pa:V1)(xs:List V)(t:T)(ds:List Dd)(r:T),vs= [v, .ref pa]/\Rep H v t/\H pa=Y (.lst xs)/\Dlays H xs ds/\RI ds t/\ds...*<=400/\xU ds t=Y r/\ThI r/\T.pure r/\T.dep r<20/\T.sz r<=100000/\∀y H',Same H H'->Rep H' y r->Q y H'
theorem scDone:zY ["thing","paper"] ["thing","paper"] (zN zTh):=by walk_at "sc"
theorem zZe(F:Fun K "done" "done" zTh f fd)(Gstands_of:Dn P w K mg base 25 "stands_of" ["thing","paper"] spSo)(Gcopied:Dn P w K mg base 25 "copied" ["thing"] (zGx 20)):FnOk P w K mg base CX0 26 f fd ["thing","paper"] zWx:=by
 refine F.ok scDone (λvs H Q E h=>?_) (λc A o s H vs Q E hr h=>?_)
 ·ext yM h v pa xs t ds z_
  ext oEA z_ r r6_ _;subst r6_
  rfl
 ext yM h v pa xs t ds z_;ext qB z_ r r6_ hv hpa hD z_;ext yR z_ hI hl4 hrun hth hp z_;ext oAA z_ hd hz q;subst r6_;let nd:=scDone.nd;refine nEA _ (zG (zK (zP Gcopied hr ∅ O (zA (yJ zW (zP Gstands_of hr ∅ O (zA (pv 0) (zA (pv 1) zB))) (wF xM zF) (λ_ _=>O)) zB)))) ?_;walk_at "st";lk;refine{v,pa,xs,t,ds,r,O,hv,hpa,hD,hI,hl4,hrun,hth,λl ys y H1 g1 hl hy=>yL (SqL.of hl) (wL _ _) {y,r,O,hy,hp,hd,hz,λv' H2 D g2 sp hD2=>q v' H2 (g1.trans g2) (Sp1.rep _ _ _ sp)}}
abbrev sSa:V6:=top 76
def yEn:Sp:=λvs H Q _=>∃(v:V)(t:T)(m:Int),vs= [v, .int m]/\Rep H v t/\T.few t/\T.gk t/\0<=m/\m<2000000/\∀k H',Same H H'->okS k->Q (kV k) H'
theorem scSa:zY ["_law_there","_law_more"] ["_law_there","_law_more"] (zN sSa):=by walk_at "sc"
theorem ok_sa(F:Fun K "_law_step_at" "_law_step_at" sSa f fd)(B:Bl2 mg)(G_law_name_by:Dn P w K mg base 1 "_law_name_by" ["_law_more"] zDq):FnOk P w K mg base CX0 2 f fd ["_law_there","_law_more"] yEn:=by
 refine F.ok scSa (λvs H Q E h=>?_) (λc A o s H vs Q E hr h=>?_)
 ·ext vZ h v t m r3_ _
  subst r3_
  rfl
 ext yC h v t m r3_ hv z_;ext vS z_ hf hgk h0 h1 q;subst r3_;let nd:=scSa.nd;let hu:=wR hr;refine{_,(zE (zS (yB (pI B.isinstance zH B.list yX (pv 0))) (zG (zK (zM (zBg O) O B.min zKd (zA zF (zA (zI yD (pv 1) (zI xH (zM yI O B.len yV (zA (pv 0) zB)) zF)) zB))))) zL)
  (zE (zS (d9 (wE (yB (pI B.isinstance zH B.dict xF (pv 0))) (wE (zQ qS (zM zDh O B.len yV (zA (pv 0) zB)) zF (zO _)) (wW (zQ qS (zI yD (pv 1) zF) zF (zO _)))))) (zG (zK (yJ zW (zM (wB O) O B.sorted vY (zA (pv 0) zB)) (zI yD (zI yE (pv 1) zF) (zM zDh O B.len yV (zA (pv 0) zB))) (λ_ _=>O)))) zL)
  (zG (zK (zP G_law_name_by hr ∅ O (zA (zI yE (pv 1) zF) zB)))))), ?_}
 walk_at "st";lk;let nm:zDq [V.int (m / 3)] H Q E0:={_,O,∅,∅,λx hx H' g=>q (.inr (tx x)) H' g (by show yY (ts (tx x))=true;rw[wI];exact hx)}
 cases t with
 | lst us=>
  ext yN hv a xs r2_ ha hx;subst r2_;refine nEA ("list") (vX ha) ?_;rw[mO ∎];refine kZ a O xs (SqL.of ha) ∅ (nEEA _ _ ⟨O,O⟩ (q (.inl _) H (Same.refl _) ?_));let e1:=rE m (show(xs...*:Int)+1≠0 by lia);show 0<=_/\_<=(59:Int);split<;>lia
 | dic ks us=>
  ext yA hv a ps r2_ ha hk hx;subst r2_;refine nEA ("dict") (jW ha) ?_;rw[mL ∎];refine nEA ("dict") (jW ha) ?_;rw[mO ∎];refine wT a O ps ha ?_;split
  ·rename_i hp
   split
   ·refine vM a O ps (.inl ha) (ks.map tx) (nAA (by rw[hk,pU];rfl) (by rw[mC];exact hf.2.1) (λl ss hl hp1 hs1=>?_))
    let hkl:=congrArg List.length hk;rw[mC,mC] at hkl;let hsl:=hp1.length_eq;rw[mC] at hsl;refine kZ a O ps (zD hl _ _ _ ha) hp (vR zC (rE _ ∅) (by rw[mC,hsl,<-hkl];exact rF _ hp) λx hx'=>?_);refine oEA (nB.mp hx') λz hz r2_=>?_;subst r2_;let hz':=hp1.mem_iff.mp hz;refine oEA (nB.mp hz') λk hkm r2_=>?_;subst r2_;exact q (.inr (tx k)) _ (zD hl _) (by show yY (ts (tx k))=true;rw[wI];exact hgk.1 k hkm)
   ·exact nm
  ·exact nm
 | non=>exact{_,hv.ty,by rw[mL (by simp[tyT,zT])];exact{_,hv.ty,by rw[mL (by simp[tyT,zT])];exact nm}}
 | bl b=>exact{_,hv.ty,by rw[mL (by simp[tyT,zT])];exact{_,hv.ty,by rw[mL (by simp[tyT,zT])];exact nm}}
 | int b=>exact{_,hv.ty,by rw[mL (by simp[tyT,zT])];exact{_,hv.ty,by rw[mL (by simp[tyT,zT])];exact nm}}
 | str b=>exact{_,hv.ty,by rw[mL (by simp[tyT,zT])];exact{_,hv.ty,by rw[mL (by simp[tyT,zT])];exact nm}}
 | tup us=>exact hf.elim
abbrev sWk:V6:=top 75
def spWk(K:A7):Sp:=λvs H Q _=>∃(a:V1)(ns:List Int)(k:Int)(v:V)(t:T),vs= [.ref a, .int k,v]/\SqL K H a (ns.map V.int)/\ns...*<=63/\0<=k/\k<100000/\Rep H v t/\T.few t/\T.gk t/\∀(l p:V1)(ks:List Key)(x:V)(s:T)(H':Hp),Same H H'->H' l=Y (.lst [.ref p,x])->H' p=Y (.lst (ks.map kV))->ks...*<=7->(∀k∈ks,okS k)->Rep H x s->T.few s->T.gk s->Q (.ref l) H'
theorem scWk:zY ["_law_script","_law_k","_law_thing","_law_path","_law_j","_law_more","_law_step"] ["_law_script","_law_k","_law_thing"] (zN sWk):=by walk_at "sc"
theorem ok_wk(F:Fun K "_law_walk" "_law_walk" sWk f fd)(B:Bl2 mg)(G_law_cell:Dn P w K mg base 1 "_law_cell" ["_law_script","_law_k"] (gJ K)):FnOk P w K mg base CX0 2 f fd ["_law_script","_law_k","_law_thing"] (spWk K):=by
 refine F.ok scWk (λvs H Q E h=>?_) (λc A o s H vs Q E hr h=>?_)
 ·ext yM h a ns k v t z_
  ext oA z_ r5_ _;subst r5_
  rfl
 ext yM h a ns k v t z_;ext yR z_ r5_ ha hns hk0 hk1 z_;ext xI z_ hv hf hgt q;subst r5_;let nd:=scWk.nd;let hu:=wR hr;refine{_,(zE (pS 3 nd (yG zB))
  (zE (wU PassesOwn.never O (wJ O B.range (zA zF zB)) (yF (i:=4) nd O (nN O)) (zE (pS 5 nd (zP G_law_cell hr ∅ O (zA (pv 0) (zA (zI xH (pv 1) (pv 4)) zB))))
  (zE (zS (d9 (qM (zQ xG (zI yD (pv 5) zF) zF (zO _)) (qM (xR (yB (zM (qL (T:="list") (U:="dict") ∎ ∎) O B.isinstance zH (zA (pv 2) (zA (wX (zA (xZ (v:=.ty "list") O B.list yX O) (zA (xZ (v:=.ty "dict") O B.dict xF O) zB))) zB))))) (jG (zQ xG (zM uY O B.len yV (zA (pv 2) zB)) zF (zO _)))))) (zG (zK (yG (zA (pv 3) (zA (pv 2) zB))))) zL)
  (zE (pS 6 nd (zM (zBg O) O B.min zKd (zA zF (zA (zI yD (zI yE (pv 5) zF) (zM uY O B.len yV (zA (pv 2) zB))) zB))))
  (zE (zS (yB (pI B.isinstance zH B.dict xF (pv 2))) (zG (pS 6 nd (yJ zW (zM (wB O) O B.sorted vY (zA (pv 2) zB)) (pv 6) (λ_ _=>O)))) zL)
  (zE (wC (qF nQ pN pV vJ (pv 3) (zA (pv 6) zB)))
  (zG (pS 2 nd (zIj (yJ zW (pv 2) (pv 6) (λ_ _=>O)) (wN hu (pv 2) (pv 6) (λ_ _=>O)))))))))))
  (zG (zK (yG (zA (pv 3) (zA (pv 2) zB))))))), ?_}
 walk_at "st";lk;intro p hp;let s1:=zD hp (.lst []);refine qD (λi σ H'=>∃(y:V)(s:T)(ks:List Key)(o1 o2 o3:Option V),σ= [Y (V.ref a),Y (V.int k),Y y,Y (V.ref p),o1,o2,o3]/\Same H H'/\Rep H y s/\T.few s/\T.gk s/\H' p=Y (.lst (ks.map kV))/\ks...*=i/\(∀k∈ks,okS k)) {_,t,[],_,_,_,O,s1,hv,hf,hgt,zC,O,λ_ h=>nomatch h} ?_ ?_
 ·intro i σ H2 hi z_
  ext yM z_ y s ks o1 o2 z_;ext qB z_ o3 r6_ g2 hy hfs z_;ext xI z_ hgs hp2 hl hok;subst r6_;lk;obtain⟨c,hc,hc0,hc1⟩:∃c:Int,qV ns (k+(0+(i:Int)))=c/\0<=c/\c<1000003:={_,O,vT _ _,qE _ _};refine{a,ns,_,O,g2.seq ha,hns,∅,∅,λH3 g3=>{c,by rw[hc], ?_}};rw[hc];let g4:=g2.trans g3;let ret:∀{H':Hp},Same H3 H'->∀l,H' l=none->Q (V.ref l) (upd H' l (.lst [V.ref p,y])):=λ{H'} g l hl2=>by
   let s3:=zD hl2 (.lst [V.ref p,y]);exact q l p ks y s _ (g4.trans (g.trans s3)) zC (s3 _ _ (g _ _ (g3 _ _ hp2))) ∅ hok hy hfs hgs
  by_cases h5:c % 5=0
  ·exact iP h5 (ret (Same.refl _))
  refine iN h5 λp1 hp1=>?_;let s5:=zD hp1 (.tup [V.ty "list",V.ty "dict"]);refine qN y _ p1 ⟨O,O⟩ zC (nA ((Rep.same (g4.trans s5) _ _ hy).ty) ?_);let hp5:=s5 _ _ (g3 _ _ hp2);let ret5:=ret s5;let g5:=g4.trans s5;generalize upd H3 p1 (.tup [V.ty "list",V.ty "dict"])=H5 at s5 ret5 hp5 g5⊢;let hnp:H p=none:=hp
  cases s with
  | lst us=>
   refine iN (by simp only[tyT];decide+kernel) ?_;let hyo:=hy;ext yN hy b xs r2_ hb hx;subst r2_;let hxl:=hx...*;refine wT b O xs...* (.inl {xs,SqL.of (g5 _ _ hb),O}) ?_
   by_cases h0:(xs...*:Int)=0
   ·exact iP h0 ret5
   refine iN h0 {c,O,b,O,xs...*, .inl {xs,SqL.of (g5 _ _ hb),O},∅,_,_,⟨O,O⟩,_,(Rep.same g5 _ _ hyo).ty,iN (by simp only[tyT];decide+kernel) ?_};let e1:=rE (c / 5) h0;let e2:=rF (c / 5) (show(0:Int)<xs...* by lia);obtain⟨j,hj,hj1,hj2⟩:∃j:Nat,(if c / 5 % (xs...*:Int)<59 then c / 5 % (xs...*:Int) else 59)=(j:Int)/\j<xs...*/\j<=59:={(if c / 5 % (xs...*:Int)<59 then c / 5 % (xs...*:Int) else 59).toNat,by split<;>lia,by split<;>lia,by split<;>lia};rw[hj];refine oEA (hx.get (i:=j) (v:=xs[j]) (by simp[hj1])) λt' ht' hr'=>?_;refine{.inl {O,_,SqL.of hp5},p,_,_,O,O,hp5,by rw[mC,mQ];lia, .inl ?_};let g6:Same H (upd H5 p (.lst (ks.map kV++ [V.int (j:Int)]))):=vC g5 hnp;lk;refine yL (SqL.of (g6 _ _ hb)) (yH (j:=j) (v:=xs[j]) (by simp[hj1])) {xs[j],⟨O,_,O⟩,g6,t',hr',b5 hfs.2 (mF ht'),b9 hgs (mF ht'),ks++ [.inl (j:Int)], ?_,by rw[mK,mY,hl], ?_}
   ·rw[zC];exact congrArg (λz=>Y (HO.lst z)) (zGt ks (.inl (j:Int)))
   ·intro k' hk'
    rcases mX.mp hk' with z | z
    ·exact hok _ z
    ·rw[nC.mp z];exact{∅,∅}
  | dic hs us=>
   refine iN (by simp only[tyT];decide+kernel) ?_;let hyo:=hy;ext yA hy b ps r2_ hb hkk hx;subst r2_;let hpl:ps...*=hs...*:=by let:=congrArg List.length hkk;simpa using this
   refine wT b O ps...* (.inr {ps,g5 _ _ hb,O}) ?_
   by_cases h0:(ps...*:Int)=0
   ·exact iP h0 ret5
   refine iN h0 {c,O,b,O,ps...*, .inr {ps,g5 _ _ hb,O},∅,_,_,⟨O,O⟩,_,(Rep.same g5 _ _ hyo).ty,iP (by simp only[tyT];decide+kernel) ?_};let e1:=rE (c / 5) h0;let e2:=rF (c / 5) (show(0:Int)<ps...* by lia);obtain⟨j,hj,hj1⟩:∃j:Int,(if c / 5 % (ps...*:Int)<59 then c / 5 % (ps...*:Int) else 59)=j/\0<=j/\j<ps...*:={_,O,by split<;>lia,by split<;>lia};rw[hj];refine vM b O ps (.inl (g5 _ _ hb)) (hs.map tx) (nAA (by rw[hkk,pU];rfl) (by rw[mC];exact hfs.2.1) (λl ss hl1 hp1 hs1=>?_));let s6:=zD hl1 (.lst (ss.map V.str));let hsl:=hp1.length_eq;rw[mC] at hsl;refine vR zC hj1.1 (by rw[mC,hsl];lia) λx hx'=>?_;refine oEA (nB.mp hx') λz hz r2_=>?_;subst r2_;refine oEA (nB.mp (hp1.mem_iff.mp hz)) λkk hkm r2_=>?_;subst r2_;let hp6:=s6 _ _ hp5;let g6:=g5.trans s6;generalize upd H5 l (.lst (ss.map V.str))=H6 at hp6 g6⊢;refine{.inl {O,_,SqL.of hp6},p,_,_,O,O,hp6,by rw[mC,mQ];lia, .inr ?_};let g7:Same H (upd H6 p (.lst (ks.map kV++ [V.str (tx kk)]))):=vC g6 hnp;refine oEA (zBh hfs.1 hkk hx hb hkm) λy' hy1 hy2=>?_;unfold zCa;lk;refine kZ y' (hy1 _ g7) y' ⟨O,_,O⟩ g7 (yBt _ hy2 (b5 hfs.2.2.2 (yO hkm hfs.2.2.1)) (b9 hgs.2 (yO hkm hfs.2.2.1)) (ks++ [nK kk]) (nAA ?_ (by rw[mK,mY,hl]) ?_))
   ·rw[zC];exact congrArg (λz=>Y (HO.lst z)) (zGt ks (nK kk))
   ·intro k' hk'
    rcases mX.mp hk' with z | z
    ·exact hok _ z
    ·rw[nC.mp z];show yY (ts (tx kk))=true;rw[wI];exact hgs.1 kk hkm
  | tup us=>exact hfs.elim
  | _=>exact iP (by simp only[tyT];decide+kernel) ret5
 ·intro σ H2 z_
  ext yM z_ y s ks o1 o2 z_;ext qB z_ o3 r6_ g2 hy hfs z_;ext xI z_ hgs hp2 hl hok;subst r6_;lk;intro l hl2;let s3:=zD hl2 (.lst [V.ref p,y]);exact q l p ks y s _ (g2.trans s3) zC (s3 _ _ hp2) ∅ hok hy hfs hgs
end
abbrev sDe:V6:=top 77
mutual
theorem Nice.fewm{d:Nat}:∀(t:T),Nice d t->T.fewm 30 t
 | .lst us,h=>{by let:=h.2.1;lia,NiceL.fewm us h.2.2}
 | .dic ks us,h=>{h.2.2.2.1,by let:=h.2.1;let:=h.2.2.1;lia,h.2.2.1,NiceL.fewm us h.2.2.2.2.2}
 | .tup _,h=>h.elim
 | .non,_=>mH
 | .bl _,_=>mH
 | .int _,_=>mH
 | .str _,_=>mH
theorem NiceL.fewm{d:Nat}:∀(us:List T),NiceL d us->d8 30 us
 | [],_=>mH
 | t::us,h=>{Nice.fewm t h.1,NiceL.fewm us h.2}
end
theorem yCo{H:Hp}(k:Key):Rep H (kV k) (kT k):=by
 cases k with
 | inl i=>exact O
 | inr s=>show V.str s=V.str (tx (ts s));rw[vH]
theorem zIw{H:Hp}:∀ks:List Key,Reps H (ks.map kV) (ks.map kT)
 | []=>rfl
 | k::ks=>{kV k,_,O,yCo k,zIw ks}
theorem zEr:∀ks:List Key,d8 30 (ks.map kT)/\T.deps (ks.map kT)=0/\T.szs (ks.map kT)=ks...*
 | []=>⟨mH,O,O⟩
 | k::ks=>by
  obtain⟨h1,h2,h3⟩:=zEr ks;let e:T.fewm 30 (kT k)/\T.dep (kT k)=0/\T.sz (kT k)=1:=by cases k<;>exact⟨mH,O,O⟩
  refine nAA ⟨e.1,h1⟩ ?_ ?_
  ·show max (T.dep (kT k)) (T.deps (ks.map kT))=0
   rw[e.2.1,h2];rfl
  ·show T.sz (kT k)+T.szs (ks.map kT)=ks...*+1
   rw[e.2.2,h3];lia
theorem zLq{k:List Nat}(h:yY k=true):k...*<=30/\∀c∈k,c∈uU:=by
 refine{nS (zBs h) ∎,λc hc=>?_};unfold yY at h;simp only[nU,pT,nV] at h;let hm:=h.2 c hc;let key:∀x∈letL++zEb,x∈uU:=by decide+kernel
 exact key c hm
theorem zWw:∀{ks:List Key},(∀k∈ks,okS k)->j6 (ks.map kT)
 | [],_=>mH
 | k::ks,h=>by
  refine{?_,zWw λq hq=>h q (mE _ hq)};let hk:=h k mG
  cases k with
  | inl i=>
   let hk':0<=i/\i<=59:=hk;exact{∅,∅}
  | inr s=>exact zLq hk
structure DrI(ks:List Key)(u:T):Prop where
 l:ks...*<=8
 s:∀k∈ks,okS k
 f:T.fewm 30 u
 g:T.gk u
 d:T.dep u<=2
 z:T.sz u<=30
section
variable{P:V3}{w:V4}{K:A7}{mg:Str->Option V0}{base:V5}{f:V1}{fd:V7}
def spDe(K:A7):Sp:=λvs H Q _=>∃(a:V1)(ns:List Int)(k:Int)(v:V)(t:T),vs= [.ref a, .int k,v]/\SqL K H a (ns.map V.int)/\ns...*<=63/\0<=k/\k<10000/\Rep H v t/\T.few t/\T.gk t/\∀(d:V1)(wd:Wd)(ks:List Key)(u:T)(H':Hp),Same H H'->DeedR H' d wd ks u->DrI ks u->Q (.ref d) H'
theorem scDe:zY ["_law_script","_law_k","_law_thing","_law_pair_here","_law_path","_law_there","_law_more","_law_word"] ["_law_script","_law_k","_law_thing"] (zN sDe):=by walk_at "sc"
theorem ok_de{kk:Nat}(F:Fun K "_law_deed" "_law_deed" sDe f fd)(B:Bl2 mg)(G_law_cell:Dn P w K mg base kk "_law_cell" ["_law_script","_law_k"] (gJ K))(G_law_walk:Dn P w K mg base kk "_law_walk" ["_law_script","_law_k","_law_thing"] (spWk K))(G_law_step_at:Dn P w K mg base kk "_law_step_at" ["_law_there","_law_more"] yEn)(G_law_thing_by:Dn P w K mg base kk "_law_thing_by" ["_law_script","_law_k","_law_deep"] (zBq K 3)):FnOk P w K mg base CX0 (kk+1) f fd ["_law_script","_law_k","_law_thing"] (spDe K):=by
 refine F.ok scDe (λvs H Q E h=>?_) (λc A o s H vs Q E hr h=>?_)
 ·ext yM h a ns k v t z_
  ext oA z_ r5_ _;subst r5_
  rfl
 ext yM h a ns k v t z_;ext yR z_ r5_ ha hns hk0 hk1 z_;ext xI z_ hv hf hgt q;subst r5_;let nd:=scDe.nd;let hu:=wR hr;let hu0:=hr.units0;refine{_,(zE (pS 3 nd (zP G_law_walk hr ∅ O (zA (pv 0) (zA (pv 1) (zA (pv 2) zB)))))
  (zE (pS 4 nd (yJ zW (pv 3) zF (λ_ _=>O)))
  (zE (pS 5 nd (yJ zW (pv 3) zF (λ_ _=>O)))
  (zE (pS 6 nd (zP G_law_cell hr ∅ O (zA (pv 0) (zA (zI xH (pv 1) zF) zB))))
  (zE (pS 7 nd (yJ zW (yG (zA zU (zA zU (zA zU (zA zU zB))))) (zI yD (pv 6) zF) (λ_ _=>O)))
  (zE (qX (zS (d9 (qM (yB (zM (qL (T:="list") (U:="dict") ∎ ∎) O B.isinstance zH (zA (pv 5) (zA (wX (zA (xZ (v:=.ty "list") O B.list yX O) (zA (xZ (v:=.ty "dict") O B.dict xF O) zB))) zB)))) (qM (zQ (zIx hu0) (pv 4) (yG zB) (zO _)) (jG (zQ xG (zI yD (zI yE (pv 6) zF) zF) zF (zO _)))))) (zG (pS 4 nd (zI qU (pv 4) (yG (zA (zP G_law_step_at hr ∅ O (zA (pv 5) (zA (zP G_law_cell hr ∅ O (zA (pv 0) (zA (zI xH (pv 1) zF) zB))) zB))) zB))))) zL))
  (zE (qX (zS (d9 (wE (zQ xG (pv 7) zU (zO _)) (wE (yB (pI B.isinstance zH B.str qZ (yJ zW (pv 4) (wF xM zF) (λ_ _=>O)))) (wW (zQ qS (zI yD (zI yE (pv 6) zF) zF) zF (zO _)))))) (zG (pS 7 nd zU)) zL))
  (zE (qX (zS (zQ xG (zI yD (zI yE (pv 6) zF) zF) zF (zO _)) (zG (pS 4 nd (zI qU (xS vD (pv 4) wG (xO (wF xM zF))) (yG (zA (yJ zW (yG (zA zU (zA zF (zA zU (zA zF zB))))) (zI yD (zI yE (pv 6) zF) zF) (λ_ _=>O)) zB))))) zL))
  (zE (qX (zS (zQ xG (zI yD (zI yE (pv 6) zF) zF) zF (zO _)) (zG (pS 4 nd (yG zB))) zL))
  (zE (zS (zQ xG (pv 7) zU (zO _)) (zG (zK (wX (zA (pv 7) (zA (pv 4) zB))))) zL)
  (zG (zK (wX (zA (pv 7) (zA (pv 4) (zA (zP G_law_thing_by hr ∅ O (zA (pv 0) (zA (zI xH (pv 1) zF) (zA (zI yD (zI yE (pv 6) zF) zF) zB)))) zB)))))))))))))))), ?_}
 walk_at "st";refine cut6 λR hR=>?_;lk;unfold zCd;lk;refine{a,ns,k,v,t,O,ha,hns,hk0,∅,hv,hf,hgt,λl p0 ks0 x s H1 g1 hl1 hp1 hlen hok0 hx hfx hgx=>?_};refine yL (SqL.of hl1) (yH (j:=0) O) (yL (SqL.of hl1) (yH (j:=1) O) ?_);obtain⟨c,hc,hc0,hc1⟩:∃c:Int,qV ns (k+8)=c/\0<=c/\c<1000003:={_,O,vT _ _,qE _ _};refine{a,ns,_,O,g1.seq ha,hns,∅,∅,λH2 g2 pw hpw=>{c,by rw[hc], ?_}};rw[hc];refine vR zC ∅ (by show _<((4:Nat):Int);lia) λwv hwv=>?_;obtain⟨wd,rfl⟩:∃wd:Wd,wv=V.str wd.s:=by
  simp only[mI,pE,rL] at hwv;rcases hwv with rfl | rfl | rfl | rfl
  ·exact{.put,O}
  ·exact{.put,O}
  ·exact{.ins,O}
  ·exact{.tak,O}
 let g3:=g2.trans (zD hpw (.lst [V.str (A6 "put"),V.str (A6 "put"),V.str (A6 "insert"),V.str (A6 "take")]));generalize upd H2 pw (.lst [V.str (A6 "put"),V.str (A6 "put"),V.str (A6 "insert"),V.str (A6 "take")])=H3 at g3⊢;let gH3:=g1.trans g3;refine{λσ' H'=>∃(pd:V1)(ks:List Key)(wd:Wd),σ'= [Y (V.ref a),Y (V.int k),Y v,Y (V.ref l),Y (V.ref pd),Y x,Y (V.int c),Y (V.str wd.s)]/\Same H H'/\H' pd=Y (.lst (ks.map kV))/\ks...*<=8/\(∀k∈ks,okS k)/\ks≠ [], ?_, ?_}
 ·intro p hp
  let s4:=zD hp (.tup [V.ty "list",V.ty "dict"]);refine qN x _ p ⟨O,O⟩ zC (nA ((Rep.same (gH3.trans s4) _ _ hx).ty) ?_);generalize upd H3 p (.tup [V.ty "list",V.ty "dict"])=H4 at s4⊢;let gH4:=gH3.trans s4;let ext:∀H5,Same H4 H5->gJ K [V.ref a,V.int (k+9)] H5 (λx_6 H1=>yEn [x,x_6] H1 (λx_7 H1=>∀(p:V1),H1 p=none->yAo (V.ref p0) (V.ref p) (upd H1 p (HO.lst [x_7])) λx_8 H1=>∃(pd:V1)(ks:List Key)(wd':Wd),[Y (V.ref a),Y (V.int k),Y v,Y (V.ref l),Y x_8,Y x,Y (V.int c),Y (V.str wd.s)]= [Y (V.ref a),Y (V.int k),Y v,Y (V.ref l),Y (V.ref pd),Y x,Y (V.int c),Y (V.str wd'.s)]/\Same H H1/\H1 pd=Y (.lst (ks.map kV))/\ks...*<=8/\(∀k∈ks,okS k)/\ks≠ []) E0) E0:=λH5 g5=>by
   let gH5:=gH4.trans g5;let c0:=vT ns (k+9);let c1:=qE ns (k+9);refine{a,ns,_,O,gH5.seq ha,hns,∅,∅,λH6 g6=>{x,s,_,O,Rep.same (gH5.trans g6) _ _ hx,hfx,hgx,c0,∅,λkk H7 g7 hkk p7 hp7=>?_}};let g17:=(g3.trans (s4.trans (g5.trans (g6.trans g7))));let s8:=zD hp7 (.lst [kV kk]);refine{p0,p7,_,_,O,O,s8 _ _ (g17 _ _ hp1),zC,by rw[mC,mY,mQ];lia,λpd hpd=>?_};let s9:=zD hpd (.lst (ks0.map kV++ [kV kk]));refine qN pd (ks0++ [kk]) wd O (g1.trans (g17.trans (s8.trans s9))) (zLo ?_ (by rw[mK,mY];lia) (λk' hk'=>?_) (by simp))
   ·rw[zC];exact congrArg (λz=>Y (HO.lst z)) (zGt ks0 kk)
   ·rcases mX.mp hk' with z | z
    ·exact hok0 _ z
    ·rw[nC.mp z];exact hkk
  by_cases hh:(zT (tyT s) "list" || zT (tyT s) "dict")=true
  ·exact iP hh (ext _ (Same.refl _))
  refine iN hh λp2 hp2=>?_;let s5:=zD hp2 (.lst []);refine{p0,p2,_,O,O,SqL.of ((g3.trans (s4.trans s5)) _ _ hp1),SqL.of zC,_,O, ?_}
  by_cases h0:ks0= []
  ·exact iP (by rw[h0];rfl) (ext _ s5)
  refine iN (by cases ks0 with | nil=>exact absurd O h0 | cons _ _=>simp) {c,O, ?_}
  by_cases h9:c / 4 % 9=1
  ·exact iP h9 (ext _ s5)
  ·exact iN h9 {p0,ks0,wd,O,gH4.trans s5,(g3.trans (s4.trans s5)) _ _ hp1,∅,hok0,h0}
 ·intro σ4 H4 z_
  ext yC z_ pd ks wd r3_ gH4 z_;ext xI z_ hpd hlen hok hne;subst r3_;subst hR;refine kB λR hR=>?_;lk;unfold zCd;lk;refine{λσ' H'=>∃(pd:V1)(ks:List Key)(wd:Wd),σ'= [Y (V.ref a),Y (V.int k),Y v,Y (V.ref l),Y (V.ref pd),Y x,Y (V.int c),Y (V.str wd.s)]/\Same H H'/\H' pd=Y (.lst (ks.map kV))/\ks...*<=8/\(∀k∈ks,okS k)/\ks≠ [], ?_, ?_}
  ·let same0:∀(wd':Wd),∃(pd':V1)(ks:List Key)(wd'':Wd),[Y (V.ref a),Y (V.int k),Y v,Y (V.ref l),Y (V.ref pd),Y x,Y (V.int c),Y (V.str wd'.s)]= [Y (V.ref a),Y (V.int k),Y v,Y (V.ref l),Y (V.ref pd'),Y x,Y (V.int c),Y (V.str wd''.s)]/\Same H H4/\H4 pd'=Y (.lst (ks.map kV))/\ks...*<=8/\(∀k∈ks,okS k)/\ks≠ []:=λwd'=>⟨pd,ks,wd',O,gH4,hpd,hlen,hok,hne⟩
   by_cases hi:wd.s=A6 "insert"
   ·refine iP hi ?_
    obtain⟨ks0,kl,rfl⟩:∃ks0 kl,ks=ks0++ [kl]:={ks.dropLast,ks.getLast hne,(aG hne).symm};refine yL (SqL.of hpd) (v:=kV kl) (by rw[mN];exact wL _ _) ?_
    cases kl with
    | inl i=>exact{"int",O,iN ∎ (same0 wd)}
    | inr z=>
     refine nEA ("str") O (iP ∎ ?_)
     by_cases h5:0<c / 36 % 5
     ·exact iP h5 (same0 .put)
     ·exact iN h5 (same0 wd)
   ·exact iN hi (same0 wd)
  ·intro σ5 H5 z_
   ext yC z_ pd ks wd r3_ gH5 z_;ext xI z_ hpd hlen hok hne;subst r3_;subst hR;refine kB λR hR=>?_;lk;unfold zCd;lk;refine{λσ' H'=>∃(pd:V1)(ks:List Key),σ'= [Y (V.ref a),Y (V.int k),Y v,Y (V.ref l),Y (V.ref pd),Y x,Y (V.int c),Y (V.str wd.s)]/\Same H H'/\H' pd=Y (.lst (ks.map kV))/\ks...*<=8/\(∀k∈ks,okS k), ?_, ?_}
   ·by_cases h17:c / 180 % 17=1
    ·refine iP h17 {pd,_,O,SqL.of hpd,λpc hpc=>?_}
     obtain⟨ks0,kl,rfl⟩:∃ks0 kl,ks=ks0++ [kl]:={ks.dropLast,ks.getLast hne,(aG hne).symm};let ek:List.take (((ks0++ [kl]).map kV)...* - 1) ((ks0++ [kl]).map kV)=ks0.map kV:=by
      rw[mN,mK,mC];exact bU (by simp)
     rw[zFx,ek];let s6:=zD hpc (.lst (ks0.map kV));let e6:=zC (H:=H5) (a:=pc) (o:=.lst (ks0.map kV));generalize upd H5 pc (.lst (ks0.map kV))=H6 at s6 e6⊢;intro p7 hp7;let s7:=zD hp7 (.lst [V.str (A6 "a"),V.int 59,V.str (A6 "zz9"),V.int 0]);refine vR zC ∅ (by show _<((4:Nat):Int);lia) λwv hwv p8 hp8=>?_;obtain⟨kk,rfl,hkk⟩:∃kk,wv=kV kk/\okS kk:=by
      simp only[mI,pE,rL] at hwv;rcases hwv with rfl | rfl | rfl | rfl
      ·exact nEA (.inr _) O (by show yY (ts (A6 "a"))=true;decide+kernel)
      ·exact nEA (.inl 59) O (by show(0:Int)<=59/\(59:Int)<=59;decide)
      ·exact nEA (.inr _) O (by show yY (ts (A6 "zz9"))=true;decide+kernel)
      ·exact nEA (.inl 0) O (by show(0:Int)<=0/\(0:Int)<=59;decide)
     generalize upd H6 p7 (.lst [V.str (A6 "a"),V.int 59,V.str (A6 "zz9"),V.int 0])=H7 at s7 hp8⊢;let s8:=zD hp8 (.lst [kV kk]);rw[mK,mY] at hlen;refine{pc,p8,_,_,O,O,s8 _ _ (s7 _ _ e6),zC,by rw[mC,mY,mQ];lia,λpe hpe=>?_};let s9:=zD hpe (.lst (ks0.map kV++ [kV kk]));refine jU pe (ks0++ [kk]) O (gH5.trans (s6.trans (s7.trans (s8.trans s9)))) ?_ (nA (by rw[mK,mY];lia) (λk' hk'=>?_))
     ·rw[zC];exact congrArg (λz=>Y (HO.lst z)) (zGt ks0 kk)
     ·rcases mX.mp hk' with z | z
      ·exact hok _ (nW _ z)
      ·rw[nC.mp z];exact hkk
    ·exact iN h17 ⟨pd,ks,O,gH5,hpd,hlen,hok⟩
   ·clear hpd hlen hok hne gH5 H5 ks pd
    intro σ5 H5 z_;ext yA z_ pd ks r2_ gH5 hpd z_;ext oA z_ hlen hok;subst r2_;subst hR;refine kB λR hR=>?_;lk;unfold zCd;lk;refine{λσ' H'=>∃(pd:V1)(ks:List Key),σ'= [Y (V.ref a),Y (V.int k),Y v,Y (V.ref l),Y (V.ref pd),Y x,Y (V.int c),Y (V.str wd.s)]/\Same H H'/\H' pd=Y (.lst (ks.map kV))/\ks...*<=8/\(∀k∈ks,okS k), ?_, ?_}
    ·by_cases h29:c / 180 % 29=2
     ·exact iP h29 λp hp=>{p,[],O,gH5.trans (zD hp _),zC,by decide,λ_ h=>nomatch h}
     ·exact iN h29 ⟨pd,ks,O,gH5,hpd,hlen,hok⟩
    ·clear hpd hlen hok gH5 H5 ks pd
     intro σ5 H5 z_;ext yA z_ pd ks r2_ gH5 hpd z_;ext oA z_ hlen hok;subst r2_;subst hR;lk
     by_cases ht:wd.s=A6 "take"
     ·refine iP ht λd hd=>?_
      let s6:=zD hd (.tup [V.str wd.s,V.ref pd]);refine oAA (zEr ks) λe1 e2 e3=>?_;refine q d wd ks (.lst (ks.map kT)) _ (gH5.trans s6) {pd,[],V.ref pd,zC,s6 _ _ hpd,O,by decide,{pd,_,O,s6 _ _ hpd,zIw ks}} {∅,hok,{by rw[mC];lia,e1},zWw hok, ?_, ?_}
      ·show T.deps (ks.map kT)+1<=2
       lia
      ·show T.szs (ks.map kT)+1<=30
       lia
     ·obtain⟨dd,hdd,hd3⟩:∃dd:Nat,c / 7 % 3=(dd:Int)/\dd<=2:={(c / 7 % 3).toNat,∅,∅}
      rw[hdd];let p5:(5:Int)^ dd<=25:=by
       rcases(show dd=0\/dd=1\/dd=2 by lia) with z | z | z<;>subst z<;>decide
      let p0:=yDv dd;refine iN ht {dd,∅,a,ns,_,O,gH5.seq ha,hns,∅, ?_,λx H6 u g6 hx hn d hd=>?_}
      ·let:=Int.mul_le_mul (show k+10+2<=10020 by lia) p5 ∅ ∎
       lia
      ·let s6:=g6.trans (zD hd (.tup [V.str wd.s,V.ref pd,x]))
       let z1:=Nice.sz u hn;let z2:=Nice.dep u hn;let p25:5 ^ dd<=25:=by
        rcases(show dd=0\/dd=1\/dd=2 by lia) with z | z | z<;>subst z<;>decide
       exact q d wd ks u _ (gH5.trans s6) {pd,[x],x,zC,s6 _ _ hpd,O,mB _,Rep.same (zD hd _) _ _ hx} {∅,hok,Nice.fewm u hn,(gK dd u ∅ hn).gk,∅,∅}
abbrev sDs:V6:=top 78
theorem DeedR.off{H H':Hp}{p d:V1}{o:Obj}{w:HO}{wd:Wd}{ks:List Key}{u:T}(hp:H' p=Y (.frz o w))(h:DeedR H' d wd ks u):DeedR (vN (L2.thaw H H') p) d wd ks u:=by
 ext yC h pd r vn h1 h2 z_;ext oAA z_ h3 h4 h5;refine{pd,r,vn, ?_, ?_,h3,h4,Rep.off hp h5}
 ·rw[wO λz=>by rw[z,hp] at h1;cases h1]
  exact wS h1 λ_ _ z=>by cases z
 ·rw[wO λz=>by rw[z,hp] at h2;cases h2]
  exact wS h2 λ_ _ z=>by cases z
theorem DeedR.same{H H':Hp}{d:V1}{wd:Wd}{ks:List Key}{u:T}(g:Same H H')(h:DeedR H d wd ks u):DeedR H' d wd ks u:=by
 ext yC h pd r vn h1 h2 z_;ext oAA z_ h3 h4 h5;exact{pd,r,vn,g _ _ h1,g _ _ h2,h3,h4,Rep.same g _ _ h5}
def spDs(K:A7):Sp:=λvs H Q _=>∃(a:V1)(ns:List Int)(k:Int)(v:V)(n:Int)(t:T),vs= [.ref a, .int k,v, .int n]/\SqL K H a (ns.map V.int)/\ns...*<=63/\0<=k/\k<1000/\0<=n/\n<=5/\Rep H v t/\T.fewm 30 t/\T.gk t/\T.dep t<=9/\T.sz t<=300/\∀(l pp pr:V1)(o:V)(rs:List V)(x:V)(t':T)(H':Hp),Same H H'->H' l=Y (.lst [.ref pp, .ref pr,o])->H' pr=Y (.lst (rs++ [x]))->Rep H' x t'->T.fewm 35 t'->T.gk t'->T.dep t'<=10->T.sz t'<=450->Q (.ref l) H'
theorem scDs:zY ["_law_script","_law_k","_law_thing","_law_many","_law_paper","_law_rows","_law_stopped","_law_j","_law_pair_here"] ["_law_script","_law_k","_law_thing","_law_many"] (zN sDs):=by walk_at "sc"
theorem ok_ds{kk:Nat}(F:Fun K "_law_deeds" "_law_deeds" sDs f fd)(B:Bl2 mg)(G_law_held:Dn P w K mg base kk "_law_held" ["_law_thing"] (zCx 20))(G_law_deed:Dn P w K mg base kk "_law_deed" ["_law_script","_law_k","_law_thing"] (spDe K))(G_law_deed_on:Dn P w K mg base kk "_law_deed_on" ["_law_thing","_law_deed_here"] yDe):FnOk P w K mg base CX0 (kk+1) f fd ["_law_script","_law_k","_law_thing","_law_many"] (spDs K):=by
 refine F.ok scDs (λvs H Q E h=>?_) (λc A o s H vs Q E hr h=>?_)
 ·ext yM h a ns k v n z_
  ext oEA z_ t r6_ _;subst r6_
  rfl
 ext yM h a ns k v n z_;ext qB z_ t r6_ ha hns hk0 z_;ext yR z_ hk1 hn0 hn5 hv hf z_;ext xI z_ hgt hd hz q;subst r6_;let nd:=scDs.nd;let hu:=wR hr;let hu0:=hr.units0;refine{_,(zE (pS 4 nd (yG zB))
  (zE (pS 5 nd (yG (zA (zP G_law_held hr ∅ O (zA (pv 2) zB)) zB)))
  (zE (pS 6 nd jD)
  (zE (wU PassesOwn.never O (wJ O B.range (zA (pv 3) zB)) (yF (i:=7) nd O (nN O)) (zE (wC (qF nQ pN pV vJ (pv 4) (zA (zAy (zP G_law_deed hr ∅ O (zA (pv 0) (zA (zI xH (pv 1) (zI jV zF (pv 7))) (zA (yJ zW (pv 5) (wF xM zF) (λ_ _=>O)) zB))))) zB)))
  (zG (zS (uD (zJi (pv 6))) (zE (pS 8 nd (zP G_law_deed_on hr ∅ O (zA (yJ zW (pv 5) (wF xM zF) (λ_ _=>O)) (zA (yJ zW (pv 4) (wF xM zF) (λ_ _=>O)) zB))))
  (zG (zS (yB (yJ zW (pv 8) zF (λ_ _=>O))) (zG (wC (qF nQ pN pV vJ (pv 5) (zA (yJ zW (pv 8) zF (λ_ _=>O)) zB)))) (zG (pS 6 nd (pv 7)))))) zL))))
  (zG (zK (yG (zA (pv 4) (zA (pv 5) (zA (pv 6) zB)))))))))), ?_}
 walk_at "st";lk;intro pp hpp;let s1:=zD hpp (.lst []);let e1:=zC (H:=H) (a:=pp) (o:=.lst []);generalize upd H pp (.lst [])=H1 at s1 e1⊢;refine{v,t,O,Rep.same s1 _ _ hv,c7 ∎ _ hf,∅,λx H2 D g2 sp hD pr hpr=>?_};let s3:=zD hpr (.lst [x]);let e3:=zC (H:=H2) (a:=pr) (o:=.lst [x]);let hx3:Rep (vN (vN (upd H2 pr (.lst [x])) pp) pr) x t:=by
  refine Sp1.rep _ _ _ (Sp1.keep _ _ _ (λb hb o _ e=>?_) (sp.same s3));rw[wO,wO]
  ·exact e
  ·intro z;subst z;rw[hD b hb] at e1;cases e1
  ·intro z;subst z
   obtain⟨o',ho'⟩:=Sp1.there _ _ _ sp hb;rw[hpr] at ho';cases ho'
 let npr:pr≠pp:=λz=>by subst z;rw[g2 _ _ e1] at hpr;cases hpr
 let g03:=s1.trans (g2.trans s3);let hpp3:=s3 _ _ (g2 _ _ e1);let hpr0:=zR (s1.trans g2) hpr;generalize upd H2 pr (.lst [x])=H3 at s3 e3 hx3 g03 hpp3⊢;refine nAA ∅ ∅ ?_;let hin:n.toNat<=5:=by lia
 refine qD (λi σ H'=>∃(ps rs:List V)(x:V)(t':T)(st:V)(o1 o2:Option V),σ= [Y (V.ref a),Y (V.int k),Y v,Y (V.int n),Y (V.ref pp),Y (V.ref pr),Y st,o1,o2]/\(st= .non\/∃j:Int,st= .int j)/\Same H H'/\H' pp=Y (.lst ps)/\H' pr=Y (.lst (rs++ [x]))/\Rep (vN (vN H' pp) pr) x t'/\T.fewm (30+i) t'/\T.gk t'/\T.dep t'<=10/\T.sz t'<=300+30*i/\ps...*<=i/\rs...*<=i) {[],[],x,t, .non,_,_,O, .inl O,g03,hpp3,e3,hx3,hf,hgt,∅,∅,mB _,mB _} ?_ ?_
 ·intro i σ H5 hi z_
  ext yM z_ ps rs y u st z_;ext yA z_ o1 o2 r7_ hst g5 z_;ext yR z_ hp5 hr5 hy hfu hgu z_;ext xI z_ hdu hzu hl1 hl2;subst r7_;lk;refine{.inl {O,_,SqL.of hp5}, ?_};unfold zGq zMd;refine{pp, .inr {ps,hp5,λo=>?_}};let hsub:∀{w:HO},Same (vN (vN H5 pp) pr) (upd H5 pp w):=λb u e=>by
   let e':=wK _ _ e;exact zAf _ _ e'
  let gf:Same H (upd H5 pp (.frz o (.lst ps))):=vC g5 hpp;let hrf:upd H5 pp (.frz o (.lst ps)) pr=Y (.lst (rs++ [y])):=by rw[zV npr];exact hr5
  lk;refine yL (SqL.of hrf) (wL _ _) {a,ns,_,y,u,O,gf.seq ha,hns,∅,∅,Rep.same hsub _ _ hy,c7 ∅ _ hfu,hgu,λd wd ks z Hc gc hdd hI=>?_};let gt:=zGe hp5 gc;let hd6:DeedR (vN (L2.thaw H5 Hc) pp) d wd ks z:=DeedR.off (gc _ _ zC) hdd;dsimp only;generalize L2.thaw H5 Hc=H6 at gt hd6⊢;refine{pp,ps,_,O,O,gt _ _ hp5,by rw[mQ];lia, ?_};let hy7:Rep (vN (vN (upd H6 pp (.lst (ps++ [V.ref d]))) pp) pr) y u:=by
   rw[kL];exact Rep.same (gR (gR gt)) _ _ hy
  let hd7:DeedR (upd H6 pp (.lst (ps++ [V.ref d]))) d wd ks z:=hd6.same zAf;let g7:Same H (upd H6 pp (.lst (ps++ [V.ref d]))):=vC (g5.trans gt) hpp;let hp7:upd H6 pp (.lst (ps++ [V.ref d])) pp=_:=zC;let hr7:upd H6 pp (.lst (ps++ [V.ref d])) pr=Y (.lst (rs++ [y])):=by rw[zV npr];exact gt _ _ hr5
  generalize upd H6 pp (.lst (ps++ [V.ref d]))=H7 at hy7 hd7 g7 hp7 hr7⊢;let hl3:(ps++ [V.ref d])...*<=i+1:=by rw[mK,mY];lia
  dsimp only;rcases hst with rfl |⟨j,rfl⟩
  ·refine iP O (yL (SqL.of hr7) (wL _ _) (yL (SqL.of hp7) (wL _ _) ?_))
   refine{y,d,wd,ks,u,z,O,Rep.same (λb o e=>wK _ _ (wK _ _ e)) _ _ hy7,c7 ∅ _ hfu,∅,∅,hd7,{by let:=hI.l;lia,λk hk=>(hI.s k hk).k,c7 ∎ _ hI.f,by let:=hI.d;lia},λr hdo l x2 H8 g8 hl8 hx8=>?_,λhdo l x2 H8 g8 hl8=>?_}
   ·let g08:=g7.trans g8
    refine xI (zKi (m:=30+i) ∅ (d6 ∅ _ hI.f) hI.g ks u r hdo hfu hgu hI.s ∅) λb1 b2 b3 b4=>?_;let:=hI.l;let:=hI.d;let:=hI.z;refine yL (SqL.of hl8) (yH (j:=0) O) {true,O, ?_};refine iP O {.inl {O,_,SqL.of (g8 _ _ hr7)},yL (SqL.of hl8) (yH (j:=1) O) {pr,_,_,O,O,g8 _ _ hr7,by rw[mQ,mK,mY];lia, ?_}};refine yEy (ps++ [V.ref d]) (rs++ [y]) x2 r .non (zUx ⟨O,_,O⟩ (.inl O) (vC g08 hpr0) (by rw[zV npr.symm];exact g8 _ _ hp7) zC (zUx (Rep.same (λb o e=>?_) _ _ hx8) b1 b2 ∅ ∅ (nA hl3 (by rw[mK,mY];lia))));let hb:=zEt e;let n1:b≠pp:=λz=>by subst z;rw[hb] at hp7;cases hp7
    let n2:b≠pr:=λz=>by subst z;rw[hb] at hr7;cases hr7
    rw[wO n2,wO n1,zV n2];rw[vF hb] at e;exact e
   ·let g08:=g7.trans g8
    refine yL (SqL.of hl8) (yH (j:=0) O) {false,O, ?_};exact iN ∎ {ps++ [V.ref d],rs,y,u,_,⟨O,_,O⟩, .inr ⟨_,O⟩,g08,g8 _ _ hp7,g8 _ _ hr7,Rep.same (gR (gR g8)) _ _ hy7,d6 ∅ _ hfu,hgu,∅,∅,hl3,∅}
  ·exact iN (by intro z;cases z) {ps++ [V.ref d],rs,y,u,_,⟨O,_,O⟩, .inr ⟨j,O⟩,g7,hp7,hr7,hy7,d6 ∅ _ hfu,hgu,∅,∅,hl3,∅}
 ·intro σ H5 z_
  ext yM z_ ps rs y u st z_;ext yA z_ o1 o2 r7_ hst g5 z_;ext yR z_ hp5 hr5 hy hfu hgu z_;ext xI z_ hdu hzu hl1 hl2;subst r7_;lk;intro l hl;let s6:=zD hl (.lst [V.ref pp,V.ref pr,st]);exact q l pp pr st rs y u _ (g5.trans s6) zC (s6 _ _ hr5) (Rep.same (λb o e=>s6 _ _ (wK _ _ (wK _ _ e))) _ _ hy) (d6 ∅ _ hfu) hgu ∅ ∅
end
abbrev sBa:V6:=top 74
structure BaseI(t:T):Prop where
 f:T.fewm 30 t
 c:T.gk t
 d:T.dep t<=8
 z:T.sz t<=200
 n:lnar t=true
mutual
theorem Nice.lnar{d:Nat}:∀(t:T),Nice d t->lnar t=true
 | .lst us,h=>by
  show(decide (us...*<=60)&& xL us)=true;rw[nH (by let:=h.2.1;lia),NiceL.lnar us h.2.2];rfl
 | .dic ks us,h=>by
  show(decide (ks...*<=30)&& xL us)=true;rw[nH (by let:=h.2.1;let:=h.2.2.1;lia),NiceL.lnar us h.2.2.2.2.2];rfl
 | .tup _,h=>h.elim
 | .non,_=>rfl
 | .bl _,_=>rfl
 | .int _,_=>rfl
 | .str _,_=>rfl
theorem NiceL.lnar{d:Nat}:∀(us:List T),NiceL d us->xL us=true
 | [],_=>rfl
 | t::us,h=>by
  show(K44.lnar t && xL us)=true;rw[Nice.lnar t h.1,NiceL.lnar us h.2];rfl
end
theorem zRb{d:Nat}{t:T}(hd:d<=3)(h:Nice d t):BaseI t:=by
 let f:=gK d t ∅ h;let z:=Nice.sz t h;let e:=Nice.dep t h;let p:5 ^ d<=125:=by
  rcases(show d=0\/d=1\/d=2\/d=3 by lia) with z | z | z | z<;>subst z<;>decide
 exact{Nice.fewm t h,f.gk,∅,∅,Nice.lnar t h}
theorem nam61:∀m:Fin 61,yY (ts (A6 "n" ++A6 (toString ((m.val:Nat):Int))))=true:=by decide+kernel
theorem nam60{j:Int}(h0:0<=j)(h1:j<=60):yY (ts (A6 "n" ++A6 (toString j)))=true:=by
 let:=nam61 {j.toNat,∅}
 rwa [show((j.toNat:Nat):Int)=j by lia] at this
theorem len61:∀m:Fin 61,(A6 (toString ((m.val:Nat):Int)))...*<=10:=by decide+kernel
theorem len60{j:Int}(h0:0<=j)(h1:j<=60):(A6 (toString j))...*<=10:=by
 let:=len61 {j.toNat,∅}
 rwa [show((j.toNat:Nat):Int)=j by lia] at this
theorem l3{α:Type}{H:Hp}{f:α->V}{g:α->T}(h:∀x,Rep H (f x) (g x)):∀l:List α,Reps H (l.map f) (l.map g)
 | []=>rfl
 | x::l=>{_,_,O,h x,l3 h l}
theorem zKv{us:List T}(h:∀u∈us,∃j:Int,u= .int j/\0<=j/\j<=60):d8 30 us/\j6 us/\T.deps us<=0/\T.szs us<=us...*/\xL us=true:=by
 refine zQk (d4 λt ht=>?_) (i4 λt ht=>?_) (d7 λt ht=>?_) ?_ ?_
 ·obtain⟨j,rfl,_⟩:=h t ht
  exact mH
 ·refine xD (h t ht) λj r1_ h0 h1=>?_
  subst r1_;show _/\_
  lia
 ·obtain⟨j,rfl,_⟩:=h t ht
  exact mB _
 ·skip
  induction us with
  | nil=>exact mB _
  | cons u us ih=>
   obtain⟨j,rfl,_⟩:=h u mG;let:=ih λv hv=>h v (mE _ hv);show 1+T.szs us<=us...*+1
   lia
 ·skip
  induction us with
  | nil=>rfl
  | cons u us ih=>
   obtain⟨j,rfl,_⟩:=h u mG;exact ih λv hv=>h v (mE _ hv)
section
variable{P:V3}{w:V4}{K:A7}{mg:Str->Option V0}{base:V5}{f:V1}{fd:V7}
def spBa(K:A7):Sp:=λvs H Q _=>∃(a:V1)(ns:List Int)(k:Int),vs= [.ref a, .int k]/\SqL K H a (ns.map V.int)/\ns...*<=63/\0<=k/\k<7000/\∀(v:V)(t:T)(H':Hp),Same H H'->Rep H' v t->BaseI t->Q v H'
theorem scBa:zY ["_law_script","_law_k","_law_more","_law_deep","_law_j","_law_names","_law_row"] ["_law_script","_law_k"] (zN sBa):=by walk_at "sc"
theorem ok_ba{kk:Nat}(F:Fun K "_law_base" "_law_base" sBa f fd)(B:Bl2 mg)(G_law_cell:Dn P w K mg base kk "_law_cell" ["_law_script","_law_k"] (gJ K))(G_law_thing_by:Dn P w K mg base kk "_law_thing_by" ["_law_script","_law_k","_law_deep"] (zBq K 3)):FnOk P w K mg base CX0 (kk+1) f fd ["_law_script","_law_k"] (spBa K):=by
 refine F.ok scBa (λvs H Q E h=>?_) (λc A o s H vs Q E hr h=>?_)
 ·ext vZ h a ns k r3_ _
  subst r3_
  rfl
 ext yC h a ns k r3_ ha z_;ext xI z_ hns hk0 hk1 q;subst r3_;let nd:=scBa.nd;let hu:=wR hr;let hu0:=hr.units0;refine{_,(zE (pS 2 nd (zP G_law_cell hr ∅ O (zA (pv 0) (zA (pv 1) zB))))
  (zE (zS (zQ kA (zI yD (pv 2) zF) zF (zO _)) (zG (zK (zP G_law_thing_by hr ∅ O (zA (pv 0) (zA (zI xH (pv 1) zF) (zA zF zB)))))) zL)
  (zE (zS (zQ xG (zI yD (pv 2) zF) zF (zO _)) (zG (zK (xW (own:=["_law_j"]) (F:=[("_law_script",0),("_law_k",1)]) {O,tb_g%,tb_g%,tb_g%,(.cons O O O (.cons O O O .nil))} O (wJ O B.range (zA (zI yD (zI yE (pv 2) zF) zF) zB)) (λ_ _ _ _=>yF (i:=0) (by show(xX ["_law_j"] [("_law_script",0),("_law_k",1)]).Nodup;decide+kernel) O (nN O)) (λ_ _ _ _=>xJ) (λ_ _ _ _=>(zP G_law_thing_by hr ∅ O (zA (pv 1) (zA (zI xH (zI xH (pv 2) zF) (pv 0)) (zA (zI yD (pv 0) zF) zB)))))))) zL)
  (zE (pS 3 nd (zI yD (zI yE (pv 2) zF) zF))
  (zE (wU PassesOwn.never O (wJ O B.range (zA zF zB)) (yF (i:=4) nd O (nN O)) (zG (pS 3 nd (yG (zA (pv 3) zB)))))
  (zE (pS 5 nd jR)
  (zE (wU PassesOwn.never O (wJ O B.range (zA (zI wP zF (zI yD (zI yE (pv 2) zF) zF)) zB)) (yF (i:=4) nd O (nN O)) (zG (kE hu (pv 5) (zI qJ zU (yP zCk O B.str qZ (zA (pv 4) zB))) (pv 4) O)))
  (zE (kF (i:=6) nd O (nN O) (own:=["_law_j"]) (F:=[]) {O,tb_g%,tb_g%,tb_g%, .nil} O (wJ O B.range (zA (zI wP zF (zI yD (zI yE (pv 2) zF) zF)) zB)) (λ_ _ _ _=>yF (i:=0) (by show(xX ["_law_j"] []).Nodup;decide+kernel) O (nN O)) (λ_ _ _ _=>xJ) (λ_ _ _ _=>(pv 0)))
  (zG (zK (zJt (gS zU (pv 6) (gS zU (pv 3) (gS zU (pv 5) (gS zU (zAy (zP G_law_thing_by hr ∅ O (zA (pv 0) (zA (zI xH (pv 1) zF) (zA zF zB))))) zIq)))) (by rfl) (by rfl) (rN _ _) ∎))))))))))), ?_}
 walk_at "st";lk;obtain⟨c,hc,hc0,hc1⟩:∃c:Int,qV ns k=c/\0<=c/\c<1000003:={_,O,vT _ _,qE _ _};refine{a,ns,_,O,ha,hns,∅,∅,λH1 g1=>?_};rw[hc];refine nEA c O ?_;let p3:(k+1+2)*5 ^ 3<=1000000:=by
  rw[show(5:Int)^ 3=125 from O];lia
 by_cases h2:c % 5<2
 ·exact iP h2 {3,mB _,a,ns,_,O,g1.seq ha,hns,∅,p3,λv H2 t g2 hv hn=>q v t _ (g1.trans g2) hv (zRb (mB _) hn)}
 refine iN h2 {c,O, ?_}
 by_cases h3:c % 5=2
 ·refine iP h3 {c,O,∅,∅, ?_}
  let hle:(c / 5 % 31).toNat<=30:=by lia
  refine zAe (λi ys H'=>Same H H'/\∃us,Reps H' ys us/\us...*=i/\∀t∈us,Nice 1 t) (by rw[mQ];lia) {g1,[],O,O,λ_ h=>nomatch h} ?_ ?_
  ·rintro i ys H2 hi _ ⟨g2,us,hR,hl,hN⟩
   lk;obtain⟨dd,hdd,hd1⟩:∃dd:Nat,(0+(i:Int))% 2=(dd:Int)/\dd<=1:={((0+(i:Int))% 2).toNat,∅,∅};rw[hdd];refine{dd,∅,a,ns,_,O,g2.seq ha,hns,∅, ?_,λv H3 t g3 hv hn=>{g2.trans g3,us++ [t],Reps.snoc hv (Reps.same g3 _ _ hR),by rw[mK,mY,hl],λu hu=>?_}}
   ·let p5:(5:Int)^ dd<=5:=by
     rcases(show dd=0\/dd=1 by lia) with z | z<;>subst z<;>decide
    let:=Int.mul_le_mul (show k+1+(0+(i:Int))+2<=8000 by lia) p5 (by let:=yDv dd;lia) ∎
    lia
   ·rcases mX.mp hu with z | z
    ·exact hN u z
    ·rw[nC.mp z]
     rcases(show dd=0\/dd=1 by lia) with z | z
     ·subst z
      cases t with
      | lst _=>exact absurd hn.1 ∎
      | dic _ _=>exact absurd hn.1 ∎
      | tup _=>exact hn.elim
      | _=>exact hn
     ·subst z;exact hn
  ·rintro ys H2 _ ⟨g2,us,hR,hl,hN⟩ p hp
   let s3:=zD hp (.lst ys);let hdp:T.deps us<=1:=d7 λt ht=>Nice.dep t (hN t ht);let hsz:=NiceL.sz us (NiceL_iff.mpr hN);refine q _ (.lst us) _ (g2.trans s3) {p,ys,O,zC,Reps.same s3 _ _ hR} {{∅,d4 λt ht=>Nice.fewm t (hN t ht)},i4 λt ht=>(gK 1 t ∎ (hN t ht)).gk, ?_, ?_, ?_}
   ·show T.deps us+1<=8
    lia
   ·show T.szs us+1<=200
    let:us...**5 ^ 1<=30*5:=Nat.mul_le_mul ∅ ∎
    lia
   ·show(decide (us...*<=60)&& xL us)=true
    rw[nH ∅,NiceL.lnar us (NiceL_iff.mpr hN)];rfl
 refine iN h3 {c,O, ?_};refine qD (λi σ H'=>∃(y:V)(t:T)(o:Option V),σ= [Y (V.ref a),Y (V.int k),Y (V.int c),Y y,o,none,none]/\Same H H'/\Rep H' y t/\T.fewm 30 t/\T.gk t/\T.dep t<=i/\T.sz t<=i+1/\lnar t=true) {_, .int _,_,O,g1,O,mH,by show _/\_;lia,mT _,mB _,O} ?_ ?_
 ·intro i σ H2 hi z_
  ext yC z_ y t o r3_ g2 z_;ext yR z_ hy hf hcm hd hz hna;subst r3_;lk;intro p hp;let s3:=zD hp (.lst [y]);refine zXx _ ⟨O,_,O⟩ (g2.trans s3) (.lst [t]) {p,_,O,zC,{y,[],O,Rep.same s3 _ _ hy,O}} (zQk {by simp,hf,mH} ⟨hcm,mH⟩ ?_ ?_ ?_)
  ·show max (T.dep t) 0+1<=i+1
   lia
  ·show T.sz t+0+1<=i+1+1
   lia
  ·show(decide (1<=60)&& (lnar t && true))=true
   rw[hna];rfl
 ·intro σ H2 z_
  ext yC z_ yd td o r3_ g2 z_;ext yR z_ hy hf hcm hd hz hna;subst r3_;lk;intro pn hpn;let s3:=zD hpn (.dK []);let e3:=zC (H:=H2) (a:=pn) (o:=.dK []);let hy3:=Rep.same s3 _ _ hy;let g3:=g2.trans s3;let hyh:Rep (vN (upd H2 pn (.dK [])) pn) yd td:=by
   rw[kL];exact Rep.same (λb o e=>by rw[wO λz=>by subst z;rw[hpn] at e;cases e];exact e) _ _ hy
  generalize upd H2 pn (.dK [])=H3 at s3 e3 hy3 g3 hyh⊢;let hn0:H pn=none:=zR g2 hpn;refine nAA ∅ ∅ ?_;let hle:(30 - c / 36 % 3).toNat<=30:=by lia
  refine qD (λi σ H'=>∃(o:Option V)(ps:List (Key×V))(ks:List (List Nat))(us:List T),σ= [Y (V.ref a),Y (V.int k),Y (V.int c),Y yd,o,Y (V.ref pn),none]/\Same H H'/\Rep (vN H' pn) yd td/\H' pn=Y (.dK ps)/\ps.map (·.1)=ks.map nK/\Reps H (ps.map (·.2)) us/\ks.Nodup/\ks...*=us...*/\(∀k∈ks,yY k=true)/\us...*<=i/\∀u∈us,∃j:Int,u= .int j/\0<=j/\j<=60) {_,[],[],[],O,g3,hyh,e3,O,O,tG,O,zAi,mB _,λ_ h=>nomatch h} ?_ ?_
  ·intro i σ H5 hi z_
   ext yS z_ o5 ps ks us r4_ z_;ext yR z_ g5 hy5 hp5 hkk hs z_;ext vS z_ hnk hku hko hul hui;subst r4_;unfold zOz;lk;let hpl:ps...*=us...*:=by let:=hs...*;rwa [mC] at this
   obtain⟨j,hj,hj0,hj1⟩:∃j:Int,0+(i:Int)=j/\0<=j/\j<=60:={_,O,∅,∅};rw[hj];refine{zIt ∅ ∅, ?_};let l1:=len60 hj0 hj1;let l0:(A6 "n")...*=1:=by decide+kernel
   let hzn:=nam60 hj0 hj1;generalize A6 "n" ++A6 (toString j)=z at hzn⊢;let ex:(Sum.inr z:Key)=nK (ts z):=by show(Sum.inr z:Key)=Sum.inr (tx (ts z));rw[vH]
   refine zMs ∅ _ (DPut.k (k:=Sum.inr z) hp5 (by rw[mQ];lia)) (vC g5 hn0) (by rw[kL];exact hy5) (nEA _ zC ?_);rw[ex];obtain⟨p1,p2⟩:=zAr (H:=H) (p:=(ks,us)) (n:=ts z) (v:=.int j) (t:=.int j) hkk hs O;obtain⟨q1,q2⟩:=gQ (ks:=ks) (us:=us) (n:=ts z) (t:=.int j) hku;exact kZ _ p1 _ p2 (jE hnk) (zLo q1 (λk hk=>(putT_in.mp hk).elim (hko k) λe=>by rw[e];exact hzn) ∅ (λu hu=>(zAs hu).elim (hui u) λe=>⟨j,e,hj0,hj1⟩))
  ·intro σ H5 z_
   ext yS z_ o5 ps ks us r4_ z_;ext yR z_ g5 hy5 hp5 hkk hs z_;ext vS z_ hnk hku hko hul hui;subst r4_;lk;refine nAA ∅ ∅ ?_;let hl6:(60 - c / 108 % 3).toNat<=60:=by lia
   refine zAe (λi ys H'=>H'=H5/\ys=(List.range i).map λj=>V.int (j:Nat)) (by rw[mQ];lia) ⟨O,O⟩ ?_ ?_
   ·rintro i ys H6 hi _ ⟨rfl,rfl⟩
    lk;rw[pY,mN];simp
   ·rintro ys H6 _ ⟨rfl,hys⟩ pw hpw
    generalize (60 - c / 108 % 3).toNat=n6 at hl6 hys;let s7:=zD hpw (.lst ys);let e7:=zC (H:=H6) (a:=pw) (o:=.lst ys);let g7:=g5.trans s7;let hp7:=s7 _ _ hp5;let hy7:Rep (upd H6 pw (.lst ys)) yd td:=Rep.same (λb o e=>s7 _ _ (wK _ _ e)) _ _ hy5;generalize upd H6 pw (.lst ys)=H7 at s7 e7 g7 hp7 hy7⊢;intro p hp;let s8:=zD hp (.dK []);let e8:=zC (H:=H7) (a:=p) (o:=.dK []);unfold zGq zMd;refine{p, .inl {[],e8,λo=>?_}};let gf:Same H7 (upd (upd H7 p (.dK [])) p (.frz o (.dK []))):=vC s8 hp;lk;refine{2,by decide,a,ns,_,O,(g7.trans gf).seq ha,hns,∅,by rw[show(5:Int)^ 2=25 from O];lia,λv Hc t gc hv hn=>?_};let gt:=kI e8 gc;let e9:=zHz e8 (by intro o v z;cases z) gc;let hv9:Rep (vN (L2.thaw (upd H7 p (.dK [])) Hc) p) v t:=Rep.off (gc _ _ zC) hv;dsimp only;generalize L2.thaw (upd H7 p (.dK [])) Hc=H9 at gt e9 hv9⊢;refine zXk e9 ([(Sum.inr (A6 "r"),V.ref pw),(Sum.inr (A6 "d"),yd),(Sum.inr (A6 "n"),V.ref pn),(Sum.inr (A6 "z"),v)]) O (by simp) ?_;rw[qP _ [] (by show([Sum.inr (A6 "r"),Sum.inr (A6 "d"),Sum.inr (A6 "n"),Sum.inr (A6 "z")]:List Key).Nodup;decide+kernel),tW];let gF:Same H7 (upd H9 p (.dK [(Sum.inr (A6 "r"),V.ref pw),(Sum.inr (A6 "d"),yd),(Sum.inr (A6 "n"),V.ref pn),(Sum.inr (A6 "z"),v)])):=vC (s8.trans gt) hp;let hzF:Rep (upd H9 p (.dK [(Sum.inr (A6 "r"),V.ref pw),(Sum.inr (A6 "d"),yd),(Sum.inr (A6 "n"),V.ref pn),(Sum.inr (A6 "z"),v)])) v t:=Rep.same zAf _ _ hv9;let hpF:=zC (H:=H9) (a:=p) (o:=.dK [(Sum.inr (A6 "r"),V.ref pw),(Sum.inr (A6 "d"),yd),(Sum.inr (A6 "n"),V.ref pn),(Sum.inr (A6 "z"),v)]);generalize upd H9 p (.dK [(Sum.inr (A6 "r"),V.ref pw),(Sum.inr (A6 "d"),yd),(Sum.inr (A6 "n"),V.ref pn),(Sum.inr (A6 "z"),v)])=HF at gF hzF hpF⊢;let hr1:∀u∈(List.range n6).map (λj=>T.int ((j:Nat):Int)),∃j:Int,u= .int j/\0<=j/\j<=60:=λu hu=>by
     refine oEA (nB.mp hu) λj hj r2_=>?_;subst r2_;let:=rH.mp hj;exact zCr _ O ∅ ∅
    refine vS (zKv hr1) λr1 r2 r3 r4 r5=>?_;refine vS (zKv hui) λn1 n2 n3 n4 n5=>?_;rw[mC,sI] at r4;let tz:=Nice.sz t hn;let tdp:=Nice.dep t hn;let tz':T.sz t<=25:=tz;refine q _ (.dic [ts (A6 "r"),ts (A6 "d"),ts (A6 "n"),ts (A6 "z")] [.lst ((List.range n6).map λj=>T.int ((j:Nat):Int)),td, .dic ks us,t]) HF (g7.trans gF) {p,_,O,hpF, ?_, ?_} ?_
    ·simp only[mV,rB,vH]
    ·refine{_,_,O,{pw,ys,O,gF _ _ e7, ?_},_,_,O,Rep.same gF _ _ hy7,_,_,O,{pn,ps,O,gF _ _ hp7,hkk,Reps.same (g7.trans gF) _ _ hs},_,_,O,hzF,O}
     rw[hys];exact l3 (f:=λj:Nat=>V.int (j:Int)) (g:=λj:Nat=>T.int (j:Int)) (λx=>show V.int _=V.int _ from O) _
    ·refine{{by decide+kernel,by decide,O,{by rw[mC,sI];lia,r1},hf,{hnk,∅,hku,n1},Nice.fewm t hn,mH},{by decide+kernel,r2,hcm,⟨hko,n2⟩,(gK 2 t ∎ hn).gk,mH}, ?_, ?_, ?_}
     ·show max (T.deps _+1) (max (T.dep td) (max (T.deps us+1) (max (T.dep t) 0)))+1<=8
      lia
     ·show(T.szs _+1)+(T.sz td+((T.szs us+1)+(T.sz t+0)))+1<=200
      lia
     ·show(decide (4<=30)&& ((decide (((List.range n6).map λj=>T.int ((j:Nat):Int))...*<=60)&& xL ((List.range n6).map λj=>T.int ((j:Nat):Int)))&& (lnar td && ((decide (ks...*<=30)&& xL us)&& (lnar t && true)))))=true
      rw[r5,n5,hna,Nice.lnar t hn,nH (show ks...*<=30 by lia),mC,sI,nH hl6];rfl
end
abbrev sPr:V6:=top 84
mutual
theorem zEg:∀t:T,T.few t->lsz t=T.sz t/\zBu t=T.dep t
 | .lst us,h=>by
  obtain⟨a,b⟩:=zGi us h.2;exact{by show zDg us+1=T.szs us+1;rw[a],by show uQ us+1=T.deps us+1;rw[b]}
 | .dic _ us,h=>by
  obtain⟨a,b⟩:=zGi us h.2.2.2;exact{by show zDg us+1=T.szs us+1;rw[a],by show uQ us+1=T.deps us+1;rw[b]}
 | .tup _,h=>h.elim
 | .non,_=>⟨O,O⟩
 | .bl _,_=>⟨O,O⟩
 | .int _,_=>⟨O,O⟩
 | .str _,_=>⟨O,O⟩
theorem zGi:∀us:List T,i3 us->zDg us=T.szs us/\uQ us=T.deps us
 | [],_=>⟨O,O⟩
 | t::us,h=>by
  obtain⟨a,b⟩:=zEg t h.1;obtain⟨c,d⟩:=zGi us h.2;exact{by show lsz t+zDg us=T.sz t+T.szs us;rw[a,c],by show max (zBu t) (uQ us)=max (T.dep t) (T.deps us);rw[b,d]}
end
theorem zTk{u:T}(hf:T.few u)(hg:T.gk u)(h:zDw u=true):ThI u:=by
 unfold zDw at h;rw[nU,nU,nV,nV] at h;obtain⟨a,b⟩:=zEg u hf;exact{⟨hf,hg,h.1.1⟩,∅,∅}
theorem BaseI.th{t:T}(h:BaseI t):ThI t:={{c7 ∎ _ h.f,h.c,h.n},h.d,h.z}
section
variable{P:V3}{w:V4}{K:A7}{mg:Str->Option V0}{base:V5}{f:V1}{fd:V7}
def spPr(K:A7):Sp:=λvs H Q _=>∃(a:V1)(ns:List Int),vs= [.ref a]/\SqL K H a (ns.map V.int)/\ns...*<=63/\∀(l:V1)(vo vn:V)(t u:T)(H':Hp),H' l=Y (.lst [vo,vn])->Rep H' vo t->Rep H' vn u->ThI t->ThI u->Q (.ref l) H'
theorem scPr:zY ["_law_script","_law_old","_law_more","_law_new","_law_j"] ["_law_script"] (zN sPr):=by walk_at "sc"
theorem ok_pr{k:Nat}(F:Fun K "_law_pair" "_law_pair" sPr f fd)(B:Bl2 mg)(G_law_cell:Dn P w K mg base k "_law_cell" ["_law_script","_law_k"] (gJ K))(G_law_base:Dn P w K mg base k "_law_base" ["_law_script","_law_k"] (spBa K))(G_law_held:Dn P w K mg base k "_law_held" ["_law_thing"] (zCx 20))(G_law_name_by:Dn P w K mg base k "_law_name_by" ["_law_more"] zDq)(G_law_varied:Dn P w K mg base k "_law_varied" ["_law_thing","_law_more","_law_names"] (zMg 20))(G_law_deeds:Dn P w K mg base k "_law_deeds" ["_law_script","_law_k","_law_thing","_law_many"] (spDs K))(G_law_good:Dn P w K mg base k "_law_good" ["_law_thing"] spLG):FnOk P w K mg base CX0 (k+1) f fd ["_law_script"] (spPr K):=by
 refine F.ok scPr (λvs H Q E h=>?_) (λc A o s H vs Q E hr h=>?_)
 ·ext wA h a ns r2_ _
  subst r2_
  rfl
 ext yA h a ns r2_ ha hns q;subst r2_;let nd:=scPr.nd;let hu:=wR hr;let hu0:=hr.units0;refine{_,(zE (pS 1 nd (zP G_law_base hr ∅ O (zA (pv 0) (zA zF zB))))
  (zE (pS 2 nd (zP G_law_cell hr ∅ O (zA (pv 0) (zA zF zB))))
  (zE (pS 3 nd (zP G_law_held hr ∅ O (zA (pv 1) zB)))
  (zE (qX (zS (d9 (wE (zQ xG (zI yD (pv 2) zF) zF (zO _)) (wE (zQ qS (zI yD (zI yE (pv 2) zF) zF) zF (zO _)) (wW (yB (pI B.isinstance zH B.list yX (pv 1))))))) (zG (pS 3 nd (xS vD (pv 3) wG (xO (zI yD (zI yE (pv 2) zF) (zI xH (zM yI O B.len yV (zA (pv 1) zB)) zF)))))) zL))
  (zE (qX (zS (d9 (wE (zQ xG (zI yD (pv 2) zF) zF (zO _)) (wE (zQ qS (zI yD (zI yE (pv 2) zF) zF) zF (zO _)) (wE (yB (pI B.isinstance zH B.dict xF (pv 1))) (wW (yB (pI B.isinstance zH B.list yX (zVr hu (pv 1) zU ⟨O,O,O,O⟩)))))))) (zG (kE hu (pv 3) zU (xS vD (wN hu (pv 3) zU (λ_ _=>O)) wG (xO (zI yD (zI yE (pv 2) zF) zF))) O)) zL))
  (zE (qX (zS (zQ xG (zI yD (pv 2) zF) zF (zO _)) (zG (pS 3 nd (zP G_law_base hr ∅ O (zA (pv 0) (zA zF zB))))) zL))
  (zE (qX (zS (zQ zIi (zI yD (pv 2) zF) (wX (zA zF (zA zF zB))) (by with_unfolding_all rfl)) (zG (wU PassesOwn.never O (wJ O B.range (zA (zI xH zF (zI yD (zI yE (pv 2) zF) zF)) zB)) (yF (i:=4) nd O (nN O)) (zG (pS 3 nd (zP G_law_varied hr ∅ O (zA (pv 3) (zA (zP G_law_cell hr ∅ O (zA (pv 0) (zA (zI xH zF (pv 4)) zB))) (zA (zP G_law_name_by hr ∅ O (zA (zP G_law_cell hr ∅ O (zA (pv 0) (zA (zI xH zF (pv 4)) zB))) zB)) zB)))))))) zL))
  (zE (qX (zS (zQ xG (zI yD (pv 2) zF) zF (zO _)) (zG (pS 3 nd (yJ zW (yJ zW (zP G_law_deeds hr ∅ O (zA (pv 0) (zA zF (zA (pv 1) (zA (zI xH zF (zI yD (zI yE (pv 2) zF) zF)) zB))))) zF (λ_ _=>O)) (wF xM zF) (λ_ _=>O)))) zL))
  (zE (zS (xR (yB (zP G_law_good hr ∅ O (zA (pv 3) zB)))) (zG (pS 3 nd (yJ zW (yG (zA (zP G_law_held hr ∅ O (zA (pv 1) zB)) (zA zF (zA (yG (zA (pv 1) zB)) zB)))) (zI yD (zI yE (pv 2) zF) zF) (λ_ _=>O)))) zL)
  (zG (zK (yG (zA (pv 1) (zA (pv 3) zB)))))))))))))), ?_}
 walk_at "st";refine yEo λR hR=>?_;lk;unfold zCd;lk;refine{a,ns,0,O,ha,hns,by decide,by decide,λx t H1 g1 hx hb=>?_};obtain⟨c,hc,hc0,hc1⟩:∃c:Int,qV ns 7=c/\0<=c/\c<1000003:={_,O,vT _ _,qE _ _};refine{a,ns,7,O,g1.seq ha,hns,by decide,by decide,λH2 g2=>?_};rw[hc];let hfx:T.few t:=c7 ∎ _ hb.f;let hbd:=hb.d;let hbz:=hb.z;let ip:ThI t:=hb.th;let hx2:=Rep.same g2 _ _ hx;let g02:=g1.trans g2;refine{x,t,O,hx2,hfx,∅,λy H3 D g3 sp hD=>?_};let hy3:=Sp1.rep _ _ _ sp;let fb:Fig 8 200 t:=⟨hfx,hb.c,hb.d,hb.z⟩;refine{λσ' H'=>∃(z:V),σ'= [Y (V.ref a),Y x,Y (V.int c),Y z,none]/\Same H2 H'/\((∃D,Sp1 H' z t D/\∀b∈D,H2 b=none)\/∃us u,t= .lst us/\Rep H' z u/\Fig 8 200 u), ?_, ?_}
 ·let stay:∃z,[Y (V.ref a),Y x,Y (V.int c),Y y,none]= [Y (V.ref a),Y x,Y (V.int c),Y z,(none:Option V)]/\Same H2 H3/\((∃D,Sp1 H3 z t D/\∀b∈D,H2 b=none)\/∃us u,t= .lst us/\Rep H3 z u/\Fig 8 200 u):={y,O,g3, .inl ⟨D,sp,hD⟩}
  refine nEA c O ?_
  by_cases c1:c % 5=0
  ·refine iP c1 {c,O, ?_}
   by_cases c2:0<c / 5 % 3
   ·refine iP c2 {_,(Rep.same g3 _ _ hx2).ty, ?_}
    cases t with
    | lst us=>
     refine iP (by simp[tyT,zT]) {c,O, ?_};refine yN (Rep.same g3 _ _ hx2) λb xs r2_ hbx hxs=>?_;subst r2_;ext yN hy3 b2 ys r2_ hb2 hys;subst r2_;let hyl:=hys...*;refine{b,O,xs,SqL.of hbx,∅,b2,ys,O,SqL.of hb2,λp hp=>?_};obtain⟨i,hi⟩:∃i:Nat,c / 15 % ((xs...*:Int)+1)=i:={(c / 15 % ((xs...*:Int)+1)).toNat,by let:=rE (c / 15) (show(xs...*:Int)+1≠0 by lia);lia};rw[hi,zMt];let s4:=zD hp (.lst (ys.take i));refine zCr _ O (g3.trans s4) (.inr {us, .lst (us.take i),O,{p,_,O,zC,Reps.same s4 _ _ (Reps.take i hys)}, ?_});let hz1:=jS us i;let hz2:T.szs us+1<=200:=hb.z;let hd2:T.deps us+1<=8:=hb.d;exact Fig.row (λu hu=>{b5 hfx.2 (pC hu),b9 hb.c (pC hu),by let:=b7 (pC hu);lia}) ∎ ∅ ∅
    | dic ks us=>exact iN (by simp[tyT,zT]) stay
    | tup us=>exact hfx.elim
    | _=>exact iN (by simp[tyT,zT]) stay
   ·exact iN c2 stay
  ·exact iN c1 stay
 clear sp hD hy3 g3;intro σ3 H3 z_;ext xD z_ y r1_ g3 hyy;subst r1_;subst hR;refine kB λR hR=>?_;lk;unfold zCd;lk;let gy3:∃u,Rep H3 y u/\Fig 8 200 u:=by
  rcases hyy with⟨D,sp,hD⟩|⟨us,u,_,h1,h2⟩
  ·exact nEA t (Sp1.rep _ _ _ sp) fb
  ·exact nEA u h1 h2
 refine{λσ' H'=>∃(z:V)(u:T),σ'= [Y (V.ref a),Y x,Y (V.int c),Y z,none]/\Same H2 H'/\Rep H' z u/\Fig 8 200 u, ?_, ?_}
 ·let stay:∀H',Same H3 H'->∃(z:V)(u:T),[Y (V.ref a),Y x,Y (V.int c),Y y,none]= [Y (V.ref a),Y x,Y (V.int c),Y z,(none:Option V)]/\Same H2 H'/\Rep H' z u/\Fig 8 200 u:=λH' g=>by
   ext oEA gy3 u h1 h2;exact jU y u O (g3.trans g) (Rep.same g _ _ h1) h2
  by_cases c1:c % 5=0
  ·refine iP c1 ?_
   by_cases c2:0<c / 5 % 3
   ·refine iP c2 {_,(Rep.same g3 _ _ hx2).ty, ?_}
    cases t with
    | dic ks us=>
     refine iP (by simp[tyT,zT]) ?_;unfold zTc;lk;refine yA (Rep.same g3 _ _ hx2) λbx psx r2_ hbx hkx hsx=>?_;subst r2_;let nk:=hfx.1;refine zCr bx O (.inl {_, .inl hbx}) ?_
     by_cases hrm:ts (A6 "r")∈ks
     ·refine oEA (zBh nk hkx hsx hbx hrm) λxv hg1 hrx=>?_
      rw[vH] at hg1;refine wT ↥xv (hg1 _ (Same.refl _)) _ hrx.ty ?_
      cases hl:zJ (ts (A6 "r")) ks us with
      | lst ws=>
       refine iP (by simp[tyT,zT]) ?_;rcases hyy with⟨D,sp,hD⟩|⟨us',u',e,_⟩
       ·ext yC sp b ps D1 r3_ hb' z_
        ext xI z_ hkk r6_ nb hs;subst r3_ r6_;let hR:=Sps.rep _ _ _ hs;refine oEA (zBh nk hkk hR hb' hrm) λyv hg2 hry=>?_;rw[vH] at hg2;rw[hl] at hry;ext yN hry br zs r2_ hbr hzs;subst r2_;refine{b,O,_,hg2 _ (Same.refl _),br,zs,O,SqL.of hbr,λp hp=>?_};obtain⟨i,hi⟩:∃i:Nat,c / 15 % 61=i:={(c / 15 % 61).toNat,∅};rw[hi,zMt];let s4:=zD hp (.lst (zs.take i));let e4:=zC (H:=H3) (a:=p) (o:=.lst (zs.take i));let hpb:p≠b:=λz=>by rw[z,hb'] at hp;cases hp
        generalize upd H3 p (.lst (zs.take i))=H4 at s4 e4⊢;let hpl:ps...*=ks...*:=by let:=congrArg List.length hkk;simpa using this
        let hk30:=hb.f.2.1;refine kZ b O _ (DPut.k (k:=Sum.inr (A6 "r")) (s4 _ _ hb') (by rw[mQ];lia)) (vC (g3.trans s4) (hD b mG)) ?_;let ex:(Sum.inr (A6 "r"):Key)=nK (ts (A6 "r")):=by show(Sum.inr _:Key)=Sum.inr (tx (ts _));rw[vH]
        rw[ex];let e5:=zC (H:=H4) (a:=b) (o:=.dK (wQ ps (nK (ts (A6 "r"))) (V.ref p)));let k5:∀b',b'≠b->∀o,H3 b'=Y o->upd H4 b (.dK (wQ ps (nK (ts (A6 "r"))) (V.ref p))) b'=Y o:=λb' hne o e=>by rw[zV hne];exact s4 _ _ e
        let hp5:upd H4 b (.dK (wQ ps (nK (ts (A6 "r"))) (V.ref p))) p=Y (.lst (zs.take i)):=by rw[zV hpb];exact e4
        generalize upd H4 b (.dK (wQ ps (nK (ts (A6 "r"))) (V.ref p)))=H5 at e5 k5 hp5⊢;let hR5:Reps H5 (ps.map (·.2)) us:=Sps.rep _ _ _ (Sps.keep _ _ _ (λb' hb2 o _ e=>k5 b' (λz=>nb (z▸hb2)) o e) hs);refine oEA (Rep.at_name nk hkk hR5 hrm) λyv' hv1 hv2=>?_;let hyv:yv'=V.ref br:=by
         refine oEA (Rep.at_name nk hkk hR hrm) λw1 hw1 _=>?_;rcases hg2 H3 (Same.refl _) with⟨kvs,k',hkv,hk',hval⟩|⟨kvs,k',b',hkv,hk',hb2,hval⟩
         ·rcases hkv with hkv |⟨o,hkv⟩
          ·rw[hb'] at hkv
           cases hkv;let ek:k'=nK (ts (A6 "r")):=by
            rw[<-ex]
            cases k' with
            | inl q=>cases hk'
            | inr q=>exact congrArg Sum.inr (V.str.inj hk').symm
           rw[ek] at hval;let h0:jH ps (nK (ts (A6 "r")))=Y yv':=hv1;rw[h0] at hval;exact(mM hval).symm
          ·rw[hb'] at hkv;cases hkv
         ·cases hk'
        subst hyv;rw[hl] at hv2;ext yN hv2 br' zs' e hbr' hzs';cases e;let hne:br≠b:=λz=>by rw[z,e5] at hbr';cases hbr'
        let ez:zs'=zs:=by
         let:=k5 br hne _ hbr;rw[hbr'] at this;cases this
         rfl
        subst ez;obtain⟨p1,p2⟩:=zAr (H:=H5) (p:=(ks,us)) (n:=ts (A6 "r")) (v:=.ref p) (t:=.lst (ws.take i)) hkk hR5 {p,_,O,hp5,Reps.take i hzs'};let hst:xK (.dic ks us) (.inr (A6 "r"))=Y (.lst ws):=by
         show(if ts (A6 "r")∈ks then Y (zJ (ts (A6 "r")) ks us) else none)=_;rw[mO hrm,hl]
        refine oAA (zDl hb.f hst) λd1 d2 d3=>?_;let gws:T.gk (.lst ws):=zPo hfx hb.c hst;let hfn:T.fewm 30 (.lst (ws.take i)):={by let:=d1.1;rw[pH];lia,d4 λu hu=>b8 d1.2 (pC hu)};let hgn:T.gk (.lst (ws.take i)):=i4 λu hu=>b9 gws (pC hu);obtain⟨q1,q2⟩:=zIn hb.f hst hfn;let q3:=zJb (r:=.lst (ws.take i)) hb.f hst;let hz1:=jS ws i;let z1:T.sz (.lst ws)=T.szs ws+1:=rfl;let z2:T.sz (.lst (ws.take i))=T.szs (ws.take i)+1:=rfl;let y1:T.dep (.lst ws)=T.deps ws+1:=rfl;let y2:T.dep (.lst (ws.take i))=T.deps (ws.take i)+1:=rfl;let y3:T.deps (ws.take i)<=T.deps ws:=d7 λu hu=>b7 (pC hu);exact{xA .put (.dic ks us) (.inr (A6 "r")) (.lst (ws.take i)),⟨b,_,O,e5,p1,p2⟩,c7 ∎ _ q1,zJg (w:=.put) (k:=.inr (A6 "r")) hb.c hgn (by show yY (ts (A6 "r"))=true;decide+kernel),by let:=hb.d;show T.dep (xA .put (.dic ks us) (.inr (A6 "r")) (.lst (ws.take i)))<=8;lia,by show T.sz (xA .put (.dic ks us) (.inr (A6 "r")) (.lst (ws.take i)))<=200;lia}
       ·cases e
      | tup ws=>exact absurd (b5 hfx.2.2.2 (yO hrm hfx.2.2.1)) (by rw[hl];exact λz=>z)
      | _=>exact iN (by simp[tyT,zT]) ⟨g3,gy3⟩
     ·let hg0:=uX hkx hbx hrm
      rw[vH] at hg0;exact wT none hg0 ("NoneType") O (iN ∎ ⟨g3,gy3⟩)
    | tup us=>exact hfx.elim
    | _=>exact iN (by simp[tyT,zT]) (stay _ (Same.refl _))
   ·exact iN c2 (stay _ (Same.refl _))
  ·exact iN c1 (stay _ (Same.refl _))
 clear hyy gy3 g3;intro σ4 H4 z_;ext yA z_ z u r2_ g4 hz hfit;subst r2_;subst hR;refine kB λR hR=>?_;lk;unfold zCd;lk;refine{λσ' H'=>∃(z:V)(u:T),σ'= [Y (V.ref a),Y x,Y (V.int c),Y z,none]/\Same H2 H'/\Rep H' z u/\Fig 8 200 u, ?_, ?_}
 ·by_cases h4:c % 5=4
  ·exact iP h4 {a,ns,900,O,(g02.trans g4).seq ha,hns,by decide,by decide,λz u H5 g5 hz hbu=>{z,u,O,g4.trans g5,hz,{c7 ∎ _ hbu.f,hbu.c,hbu.d,hbu.z}}}
  ·exact iN h4 ⟨z,u,O,g4,hz,hfit⟩
 clear hz hfit g4 H4 u z;intro σ4 H4 z_;ext yA z_ z u r2_ g4 hz hfit;subst r2_;subst hR;refine kB λR hR=>?_;lk;unfold zCd;lk;refine{λσ' H'=>∃(z:V)(u:T)(o:Option V),σ'= [Y (V.ref a),Y x,Y (V.int c),Y z,o]/\Same H2 H'/\Rep H' z u/\T.few u/\T.gk u/\T.dep u<20/\T.sz u<=20000, ?_, ?_}
 ·refine λp hp=>{p,[V.int 1,V.int 2],O, .inr (SqT.of zC),O,O,_,O, ?_}
  let g5:=g4.trans (zD hp (.tup [V.int 1,V.int 2]));let hz5:=Rep.same (zD hp (.tup [V.int 1,V.int 2])) _ _ hz;generalize upd H4 p (.tup [V.int 1,V.int 2])=H5 at g5 hz5⊢;let e1:=hfit.dep;let e2:=hfit.sz
  by_cases hin:inV (.int (c % 5)) [V.int 1,V.int 2]=true
  ·refine iP hin {∅,∅, ?_}
   obtain⟨m,hm,hm4⟩:∃m:Nat,(1+c / 5 % 4).toNat=m/\m<=4:={_,O,∅};rw[hm];let hp3:∀i,i<=4->3 ^ i<=81/\(i<=3->3 ^ i<=27):=λi hi=>by
    rcases(show i=0\/i=1\/i=2\/i=3\/i=4 by lia) with z | z | z | z | z<;>subst z<;>decide
   refine qD (λi σ' H'=>∃(z:V)(u:T)(o:Option V),σ'= [Y (V.ref a),Y x,Y (V.int c),Y z,o]/\Same H2 H'/\Rep H' z u/\Fig (9+i) (200*3 ^ i) u) {z,u,_,O,g5,hz5,hfit.mono ∎ ∎} ?_ ?_
   ·intro i σ5 H5 hi z_
    ext yC z_ z u o r3_ g5 z_;ext oA z_ hz hfit;subst r3_;let g05:=g02.trans g5;lk;let c1:=vT ns (11+(0+(i:Int)));let c2:=vT ns (21+(0+(i:Int)));let c3:=qE ns (21+(0+(i:Int)));refine{a,ns,_,O,g05.seq ha,hns,∅,∅,λH6 g6=>{a,ns,_,O,(g05.trans g6).seq ha,hns,∅,∅,λH7 g7=>{_,O,c2,∅,λnm hnm H8 g8=>?_}}};let g58:=g6.trans (g7.trans g8);let e1:=hfit.dep;let e2:=hfit.sz;let e3:=(hp3 i ∅).2 ∅;refine{z,_,nm,u,O,Rep.same g58 _ _ hz,hfit.few,hfit.gk,∅,by decide,∅,c1,hnm,λz' H9 u' g9 hz' hf'=>{_,⟨O,_,O⟩,g5.trans (g58.trans g9),u',hz',hf'.mono ∅ ?_}};rw[Nat.pow_succ]
    lia
   ·intro σ5 H5 z_
    ext yC z_ z u o r3_ g5 z_;ext oA z_ hz hfit;subst r3_;let e1:=hfit.dep;let e2:=hfit.sz;let e3:=(hp3 m hm4).1;exact qN z u o rfl g5 (zQk hz hfit.few hfit.gk ∅ ∅)
  ·exact iN hin {z,u,_,O,g5,hz5,hfit.few,hfit.gk,∅,∅}
 clear hz hfit g4 H4 u z;intro σ4 H4 z_;ext yC z_ z u o r3_ g4 z_;ext vS z_ hz hfu hgu hdu hzu;subst r3_;subst hR;refine kB λR hR=>?_;lk;unfold zCd;lk;refine⟨λσ' H'=>∃(z:V)(u:T)(o:Option V),σ'= [Y (V.ref a),Y x,Y (V.int c),Y z,o]/\Same H2 H'/\Rep H' z u/\T.few u/\T.gk u/\T.dep u<20/\T.sz u<=20000, ?_, ?_⟩
 ·by_cases h3:c % 5=3
  ·refine iP h3 {a,ns,600,x,_,t,O,(g02.trans g4).seq ha,hns,by decide,by decide,∅,∅,Rep.same g4 _ _ hx2,hb.f,hb.c,∅,∅,λl pp pr so rs z' u' H5 g5 hl hpr hz' hf' hg' hd' hs'=>?_}
   exact yL (SqL.of hl) (yH (j:=1) O) (yL (SqL.of hpr) (wL _ _) {z',u',_,O,g4.trans g5,hz',c7 ∎ _ hf',hg',∅,∅})
  ·exact iN h3 ⟨z,u,_,O,g4,hz,hfu,hgu,hdu,hzu⟩
 clear hz hfu hgu hdu hzu g4 H4 u z o;intro σ4 H4 z_;ext yC z_ z u o r3_ g4 z_;ext vS z_ hz hfu hgu hdu hzu;subst r3_;subst hR;lk;refine⟨z,u,rfl,hz,j8 _ hfu,hdu,hzu,λH5 g5=>⟨zDw u,rfl, ?_⟩⟩;let hx5:=Rep.same (g4.trans g5) _ _ hx2
 by_cases hg:zDw u=false
 ·refine iP hg {x,t,O,hx5,hfx,∅,λz' H6 D6 g6 sp6 hD6 p hp p2 hp2=>?_}
  let s7:=zD hp (.lst [x]);let s8:=zD hp2 (.lst [z',V.int 5,V.ref p]);let hz8:=Rep.same (s7.trans s8) _ _ (Sp1.rep _ _ _ sp6);let hx8:=Rep.same (g6.trans (s7.trans s8)) _ _ hx5;let e8:=zC (H:=upd H6 p (.lst [x])) (a:=p2) (o:=.lst [z',V.int 5,V.ref p]);generalize upd (upd H6 p (.lst [x])) p2 (.lst [z',V.int 5,V.ref p])=H8 at hz8 hx8 e8⊢;let i5:ThI (.int 5):={{mH,{by decide,by decide},O},by decide,by decide};rcases(show c / 25 % 2=0\/c / 25 % 2=1 by lia) with e | e
  ·rw[e]
   refine yL (SqL.of e8) (yH (j:=0) O) λl hl=>?_;let s9:=zD hl (.lst [x,z']);exact q l x z' t t _ zC (Rep.same s9 _ _ hx8) (Rep.same s9 _ _ hz8) ip ip
  ·rw[e]
   refine yL (SqL.of e8) (yH (j:=1) O) λl hl=>?_;let s9:=zD hl (.lst [x,V.int 5]);exact q l x _ t (.int 5) _ zC (Rep.same s9 _ _ hx8) O ip i5
 ·refine iN hg λl hl=>?_
  let s7:=zD hl (.lst [x,z]);let hg':zDw u=true:=by cases h:zDw u with | true=>rfl | false=>exact absurd h hg
  exact q l x z t u _ zC (Rep.same s7 _ _ hx5) (Rep.same (g5.trans s7) _ _ hz) ip (zTk hfu hgu hg')
abbrev sMk:V6:=top 83
theorem zYq{α:Type}{l:List α}{i:Nat}{a:α}(h:l[i]? =Y a):l.drop i=a::l.drop (i+1):=by
 obtain⟨hi,e⟩:=mP.mp h;rw[pB hi,e]
theorem yAw{us:List T}{i:Nat}{t:T}(h:us[i]? =Y t):us.getD i .non=t:=by rw[mZ,h];rfl
noncomputable def mkN:List Nat:=ts (A6 "mark")
noncomputable def omD(ks:List (List Nat))(r:List T×Int):T×Int:=(.dic (yU (ks,r.1) mkN (.int r.2)).1 (yU (ks,r.1) mkN (.int r.2)).2,r.2+1)
noncomputable def omT:Nat->T->Int->T×Int
 | 0,t,c=>(t,c)
 | n+1, .lst us,c=>zYy (uT (omT n) (List.range us...*) us c)
 | n+1, .dic ks us,c=>omD ks (uT (omT n) (ixs ks) us c)
 | n+1, .tup us,c=>mrkU (uT (omT n) (List.range us...*) us c)
 | _+1,t,c=>(t,c+1)
theorem mk_nK:(Sum.inr (A6 "mark"):Key)=nK mkN:=by
 show(Sum.inr _:Key)=Sum.inr (tx (ts _));rw[vH]
theorem zOj{m:Nat}:∀(n:Nat)(t:T)(c:Int),T.fewm m t/\T.sz t<=90000->T.dep t<n->T.fewm (m+1) (omT n t c).1/\T.dep (omT n t c).1<n
 | 0,_,_,_,h=>absurd h (pM _)
 | n+1, .lst us,c,hf,hd=>by
  let hz':T.szs us+1<=90000:=hf.2;let hd':T.deps us+1<n+1:=hd;obtain⟨h1,h2⟩:=zFg (f:=omT n) (A:=λt=>(T.fewm m t/\T.sz t<=90000)/\T.dep t<n) (B:=λt=>T.fewm (m+1) t/\T.dep t<n) (λt c h=>zOj n t c h.1 h.2) (List.range us...*) us c List.nodup_range (λi hi=>rH.mp hi) λi t hi=>by
   refine{λ_=>?_,λz=>absurd (rH.mpr (mP.mp hi).1) z};let hm:=mF hi;let:=b7 hm;let:=c8 hm;exact{{b8 hf.1.2 hm,∅},∅}
  show T.fewm (m+1) (zYy (uT (omT n) (List.range us...*) us c)).1/\T.dep (zYy (uT (omT n) (List.range us...*) us c)).1<n+1;generalize uT (omT n) (List.range us...*) us c=r at h1 h2⊢;let hall:∀t∈r.1++ [T.int r.2],T.fewm (m+1) t/\T.dep t<n:=λt ht=>by
   rcases mX.mp ht with z | z
   ·exact h1 t z
   ·rw[nC.mp z];exact{mH,show 0<n by lia}
  refine{{?_,d4 λt ht=>(hall t ht).1}, ?_}
  ·rw[mK,h2]
   let:=d5 us;show us...*+1<=_
   lia
  ·show T.deps (r.1++ [T.int r.2])+1<n+1
   let:=k6 (n:=n) ∅ λt ht=>(hall t ht).2
   lia
 | n+1, .dic ks us,c,hf,hd=>by
  obtain⟨⟨nk,h64,hl,hf⟩,hz⟩:=hf;let hz':T.szs us+1<=90000:=hz;let hd':T.deps us+1<n+1:=hd;obtain⟨h1,h2⟩:=zFg (f:=omT n) (A:=λt=>(T.fewm m t/\T.sz t<=90000)/\T.dep t<n) (B:=λt=>T.fewm (m+1) t/\T.dep t<n) (λt c h=>zOj n t c h.1 h.2) (ixs ks) us c (zHc nk) (λi hi=>by let:=yDq hi;lia) λi t hi=>by
   refine{λ_=>?_,λz=>absurd (zZu nk (by let:=(mP.mp hi).1;lia)) z};let hm:=mF hi;let:=b7 hm;let:=c8 hm;exact{{b8 hf hm,∅},∅}
  show T.fewm (m+1) (omD ks (uT (omT n) (ixs ks) us c)).1/\T.dep (omD ks (uT (omT n) (ixs ks) us c)).1<n+1;generalize uT (omT n) (ixs ks) us c=r at h1 h2⊢;let hall:∀t∈(yU (ks,r.1) mkN (.int r.2)).2,T.fewm (m+1) t/\T.dep t<n:=λt ht=>by
   rcases zAs ht with z | z
   ·exact h1 t z
   ·rw[z];exact{mH,show 0<n by lia}
  obtain⟨l1,l2⟩:=gQ (ks:=ks) (us:=r.1) (n:=mkN) (t:=.int r.2) (by rw[h2];exact hl);refine{{jE nk,∅,l1,d4 λt ht=>(hall t ht).1}, ?_};show T.deps (yU (ks,r.1) mkN (.int r.2)).2+1<n+1;let:=k6 (n:=n) ∅ λt ht=>(hall t ht).2
  lia
 | n+1, .tup us,c,hf,hd=>hf.1.elim
 | n+1, .non,c,hf,hd=>⟨mH,hd⟩
 | n+1, .bl _,c,hf,hd=>⟨mH,hd⟩
 | n+1, .int _,c,hf,hd=>⟨mH,hd⟩
 | n+1, .str _,c,hf,hd=>⟨mH,hd⟩
def zVp(n:Nat):Sp:=λvs H Q _=>∃(v:V)(t:T)(D:List V1)(c:Int),vs= [v, .int c]/\Sp1 H v t D/\T.few t/\T.dep t<n/\∀H' D',Keep D H H'->Sp1 H' v (omT n t c).1 D'->(∀b∈D',b∈D)->Q (.int (omT n t c).2) H'
theorem scMk:zY ["_law_thing","_law_number","_law_one","_law_name"] ["_law_thing","_law_number"] (zN sMk):=by walk_at "sc"
def MkW(n:Nat)(H:Hp)(a:V1)(D':List V1)(o0:HO)(xs:List V)(us:List T)(is:List Nat)(c:Int)(i:Nat)(ci:Int)(H2:Hp):Prop:=
 ∃(usi:List T)(Di:List V1),Keep (a::D') H H2/\H2 a=Y o0/\Sps H2 xs usi Di/\(∀b∈Di,b∈D')/\usi...*=us...*/\uT (omT n) (is.drop i) usi ci=uT (omT n) is us c/\∀j∈is.drop i,usi[j]? =us[j]?
theorem MkW.next{n:Nat}{H:Hp}{a:V1}{D':List V1}{o0:HO}{xs:List V}{us:List T}{is:List Nat}{c:Int}{i j:Nat}{ci:Int}{H2:Hp}(h:MkW n H a D' o0 xs us is c i ci H2)(haD:a∉D')(hn:is.Nodup)(hj:is[i]? =Y j){t:T}(ht:us[j]? =Y t):
  ∃v D1,xs[j]? =Y v/\Sp1 H2 v t D1/\(∀b∈D1,b∈D')/\∀H3 D1',Keep D1 H2 H3->Sp1 H3 v (omT n t ci).1 D1'->(∀b∈D1',b∈D1)->MkW n H a D' o0 xs us is c (i+1) (omT n t ci).2 H3:=by
 ext yA h usi Di k2 ha2 hS z_;ext xI z_ hDi hl hmk hsame;let ed:=zYq hj;let hti:usi[j]? =Y t:=by rw[hsame j (by rw[ed];exact mG)];exact ht
 refine yA (hS.at hti) λv D1 g1 g2 g3 g4=>?_;refine jU v D1 g1 g2 (λb hb=>hDi b (g3 b hb)) (λH3 D1' k3 hs hsub=>?_);obtain⟨D2,e1,e2⟩:=g4 H3 _ D1' hs hsub k3;refine{_,D2,k2.trans (k3.mono λb hb=>mE _ (hDi b (g3 b hb))),k3 _ _ (λz=>haD (hDi a (g3 a z))) ha2,e1,λb hb=>hDi b (e2 b hb),by rw[sZ];exact hl, ?_,λj' hj'=>?_}
 ·rw[<-hmk,ed]
  show _=uT (omT n) (is.drop (i+1)) (usi.set j (omT n (usi.getD j .non) ci).1) (omT n (usi.getD j .non) ci).2;rw[yAw hti]
 ·let hne:j'≠j:=λz=>by
   let hnd:(is.drop i).Nodup:=hn.sublist (List.drop_sublist i is);rw[ed,nZ] at hnd;exact hnd.1 (z▸hj')
  rw[rW (Ne.symm hne)];exact hsame j' (by rw[ed];exact mE _ hj')
theorem MkW.fin{n:Nat}{H:Hp}{a:V1}{D':List V1}{o0:HO}{xs:List V}{us:List T}{is:List Nat}{c:Int}{i:Nat}{ci:Int}{H2:Hp}(h:MkW n H a D' o0 xs us is c i ci H2)(hi:is...*<=i):
  ∃(usi:List T)(Di:List V1),Keep (a::D') H H2/\H2 a=Y o0/\Sps H2 xs usi Di/\(∀b∈Di,b∈D')/\usi...*=us...*/\uT (omT n) is us c=(usi,ci):=by
 ext yA h usi Di k2 ha2 hS z_;ext xI z_ hDi hl hmk _;rw[pR hi] at hmk;exact jU usi Di k2 ha2 hS (nAA hDi hl hmk.symm)
theorem yFj{n:Nat}(F:Fun K "_law_own_marks" "_law_own_marks" sMk f fd)(B:Bl2 mg)(G_law_own_marks:Dn P w K mg base (1+n) "_law_own_marks" ["_law_thing","_law_number"] (zVp n)):FnOk P w K mg base CX0 (1+n+1) f fd ["_law_thing","_law_number"] (zVp (n+1)):=by
 refine F.ok scMk (λvs H Q E h=>?_) (λc A o s H vs Q E hr h=>?_)
 ·ext yS h v t D c r4_ _
  subst r4_
  rfl
 ext yS h v t D c r4_ z_;ext xI z_ hv hf hd q;subst r4_;let nd:=scMk.nd;let hu:=wR hr;refine{_,(zE (zS (yB (zM (qL (T:="list") (U:="tuple") ∎ ∎) O B.isinstance zH (zA (pv 0) (zA (wX (zA (xZ (v:=.ty "list") O B.list yX O) (zA (xZ (v:=.ty "tuple") O B.tuple zAp O) zB))) zB)))) (zG (wU PassesOwn.never O (xN (yP uK O B.list yX (zA (pv 0) zB))) (yF (i:=2) nd O (nN O)) (zG (pS 1 nd (zP G_law_own_marks hr ∅ O (zA (pv 2) (zA (pv 1) zB))))))) zL)
  (zE (zS (yB (pI B.isinstance zH B.dict xF (pv 0))) (zE (wU PassesOwn.never O (xN (zM (wB O) O B.sorted vY (zA (pv 0) zB))) (yF (i:=3) nd O (nN O)) (zG (pS 1 nd (zP G_law_own_marks hr ∅ O (zA (wN hu (pv 0) (pv 3) (λ_ _=>O)) (zA (pv 1) zB))))))
  (zG (kE hu (pv 0) zU (pv 1) O))) zL)
  (zE (zS (yB (pI B.isinstance zH B.list yX (pv 0))) (zG (wC (qF nQ pN pV vJ (pv 0) (zA (pv 1) zB)))) zL)
  (zG (zK (zI xH (pv 1) zF)))))), ?_}
 walk_at "st";lk
 cases t with
 | lst us=>
  ext yC hv a xs D' r3_ ha z_;ext oAA z_ r5_ haD hs;subst r3_ r5_;intro p hp;let s1:=zD hp (.tup [V.ty "list",V.ty "tuple"]);let e1:=zC (H:=H) (a:=p) (o:=.tup [V.ty "list",V.ty "tuple"]);generalize upd H p (.tup [V.ty "list",V.ty "tuple"])=H1 at s1 e1⊢;let ha1:=s1 _ _ ha;let hul:=hf.1;let hxl:=hs...*;let hd':T.deps us+1<n+1:=hd;refine qN _ ("list") p ⟨O,O⟩ e1 (nA (vX ha1) (iP ∎ {a,O,xs, .inl (SqL.of ha1),λl hl=>{{_,SqL.of zC}, ?_}}));let s2:=zD hl (.lst xs);let e2:=zC (H:=H1) (a:=l) (o:=.lst xs);let hl0:=zR s1 hl;generalize upd H1 l (.lst xs)=H2 at s2 e2⊢;let g2:=s1.trans s2;let hla:l∉a::D':=λz=>by
   rcases mI.mp z with z | z
   ·rw[z,ha] at hl0;cases hl0
   ·obtain⟨o,ho⟩:=Sps.there _ _ _ hs z
    rw[hl0] at ho;cases ho
  refine jI (K:=K) (a:=l) (xs:=xs) (λi σ H2=>∃o ci,σ= [Y (V.ref a),Y (.int ci),o,none]/\H2 l=Y (.lst xs)/\MkW n H a D' (.lst xs) xs us (List.range us...*) c i ci H2) {_,_,O,e2,us,D',Keep.of g2,g2 _ _ ha,hs.same g2,λ_ h=>h,O,O,λ_ _=>O} (λi σ H2 _ h=>by
   ext yN h o ci _ h _;exact SqL.of h) ?_ ?_
  ·intro i x σ H3 hx z_
   ext yN z_ o ci r2_ hl3 hW;subst r2_;let hi:i<us...*:=by let:=(mP.mp hx).1;lia
   let hm:=tI hi;let d1:=b7 hm;refine yA (hW.next haD List.nodup_range (j:=i) (by simp[hi]) (mJ hi)) λv' D1 g1 g2 g3 g4=>?_;rw[hx] at g1;cases g1;lk;exact{x,us[i],D1,ci,O,g2,b5 hf.2 hm,∅,λH4 D1' k4 hs4 hsub=>{_,_,⟨O,O⟩,k4 _ _ (λz=>hla (mE _ (g3 l z))) hl3,g4 H4 D1' k4 hs4 hsub}}
  ·intro σ H3 z_
   ext yN z_ o ci r2_ hl3 hW;subst r2_;obtain⟨usi,Di,k3,ha3,hS,hDi,hli,hmk⟩:=hW.fin (by rw[sI];lia);lk;refine nEA ("list") (vX ha3) (iN ∎ {"list",vX ha3,iP ∎ {.inl {O,_,SqL.of ha3},a,xs, .int ci,O,O,ha3,by rw[mQ];lia, ?_}});let e:omT (n+1) (.lst us) c=(.lst (usi++ [.int ci]),ci+1):=by
    show zYy (uT (omT n) (List.range us...*) us c)=_;rw[hmk];rfl
   let haDi:a∉Di:=λz=>haD (hDi a z);let:=q (upd H3 a (.lst (xs++ [.int ci]))) (a::Di) (k3.put _ mG);rw[e] at this;refine this {a,_,Di,O,zC,O,haDi, ?_} λb hb=>?_
   ·let:=Sps.snoc (show Sp1 (upd H3 a (.lst (xs++ [.int ci]))) (.int ci) (.int ci) [] from⟨O,O⟩) (Sps.keep _ _ _ (λb hb o _ e=>by rw[zV (show b≠a from λz=>haDi (z▸hb))];exact e) hS) (λ_ _ z=>nomatch z)
    rw[rM] at this;exact this
   ·rcases mI.mp hb with z | z
    ·rw[z];exact mG
    ·exact mE _ (hDi b z)
 | dic ks us=>
  ext yC hv a ps D' r3_ ha z_;ext xI z_ hk r6_ haD hs;subst r3_ r6_;ext xI hf nk h64 hle hf;let hxl:=hs...*;rw[mC] at hxl;let hd':T.deps us+1<n+1:=hd;let nkp:(ps.map (·.1)).Nodup:=by rw[hk];exact qY nk
  intro p hp;let s1:=zD hp (.tup [V.ty "list",V.ty "tuple"]);let e1:=zC (H:=H) (a:=p) (o:=.tup [V.ty "list",V.ty "tuple"]);generalize upd H p (.tup [V.ty "list",V.ty "tuple"])=H1 at s1 e1⊢;let ha1:=s1 _ _ ha;refine qN _ ("dict") p ⟨O,O⟩ e1 (nA (jW ha1) (iN ∎ {"dict",jW ha1,iP ∎ {a,O,ps, .inl ha1,ks.map tx,by rw[hk,pU];rfl,by rw[mC];exact h64,λl ss hl hp1 hs1=>{{_,SqL.of zC}, ?_}}}));let es:=vV hp1 hs1;subst es;let s2':=zD hl (.lst (((yQ ks).map tx).map V.str));let e2:=zC (H:=H1) (a:=l) (o:=.lst (((yQ ks).map tx).map V.str));let hl0:=zR s1 hl;generalize upd H1 l (.lst (((yQ ks).map tx).map V.str))=H2 at s2' e2⊢;let s2:=s1.trans s2';let hla:l∉a::D':=λz=>by
   rcases mI.mp z with z | z
   ·rw[z,ha] at hl0;cases hl0
   ·obtain⟨o,ho⟩:=Sps.there _ _ _ hs z
    rw[hl0] at ho;cases ho
  refine jI (K:=K) (a:=l) (xs:=((yQ ks).map tx).map V.str) (λi σ H2=>∃o ci,σ= [Y (V.ref a),Y (.int ci),none,o]/\H2 l=Y (.lst (((yQ ks).map tx).map V.str))/\MkW n H a D' (.dK ps) (ps.map (·.2)) us (ixs ks) c i ci H2) {_,_,O,e2,us,D',Keep.of s2,s2 _ _ ha,hs.same s2,λ_ h=>h,O,O,λ_ _=>O} (λi σ H2 _ h=>by
   ext yN h o ci _ h _;exact SqL.of h) ?_ ?_
  ·intro i x σ H3 hx z_
   ext yN z_ o ci r2_ hl3 hW;subst r2_;obtain⟨k,hks,rfl⟩:∃k,(yQ ks)[i]? =Y k/\x= .str (tx k):=by
    rw[mW,mW] at hx
    cases hc:(yQ ks)[i]? with
    | none=>rw[hc] at hx;cases hx
    | some k=>rw[hc] at hx;exact{k,O,(mM hx).symm}
   let hkm:k∈ks:=mem_sortK.mp (mF hks);let hjk:=uH hkm;let hj:ks.idxOf k<us...*:=by let:=rD hkm;lia
   let hm:=tI hj;let d1:=b7 hm;obtain⟨v',D1,g1,g2,g3,g4⟩:=hW.next haD (zHc nk) (j:=ks.idxOf k) (by unfold ixs;rw[mW,hks];rfl) (mJ hj);obtain⟨kv,hkv,rfl⟩:∃kv,ps[ks.idxOf k]? =Y kv/\kv.2=v':=by
    rw[mW] at g1
    cases hc:ps[ks.idxOf k]? with
    | none=>rw[hc] at g1;cases g1
    | some kv=>rw[hc] at g1;exact{kv,O,mM g1}
   let hk1:kv.1=nK k:=by
    let h1:(ps.map (·.1))[ks.idxOf k]? =Y kv.1:=by rw[mW,hkv];rfl
    rw[hk,mW,hjk] at h1;exact(mM h1).symm
   let hvv:jH ps (nK k)=Y kv.2:=uJ nkp (by rw[hkv,<-hk1]);let ha3:H3 a=Y (.dK ps):=by obtain⟨_,_,_,h,_⟩:=hW;exact h
   lk;exact{kv.2, .inl {ps,nK k, .inl ha3,O,hvv.symm},kv.2,us[ks.idxOf k],D1,ci,O,g2,b5 hf hm,∅,λH4 D1' k4 hs4 hsub=>{_,_,⟨O,O⟩,k4 _ _ (λz=>hla (mE _ (g3 l z))) hl3,g4 H4 D1' k4 hs4 hsub}}
  ·intro σ H3 z_
   ext yN z_ o ci r2_ hl3 hW;subst r2_;obtain⟨usi,Di,k3,ha3,hS,hDi,hli,hmk⟩:=hW.fin (by rw[mC,mC];unfold ixs;rw[mC];exact mB _);lk;refine nEA _ (DPut.k (k:=Sum.inr (A6 "mark")) ha3 (by rw[mQ];lia)) ?_;rw[mk_nK];obtain⟨hk5,D5,hS5,hD5⟩:=Sps.put (n:=mkN) (c:=ci) hk hS;let haD5:a∉D5:=λz=>haD (hDi a (hD5 a z));let k4:=k3.put (.dK (wQ ps (nK mkN) (.int ci))) (a:=a) mG;let ha4:=zC (H:=H3) (a:=a) (o:=.dK (wQ ps (nK mkN) (.int ci)));let hS6:Sps (upd H3 a (.dK (wQ ps (nK mkN) (.int ci)))) ((wQ ps (nK mkN) (.int ci)).map (·.2)) (yU (ks,usi) mkN (.int ci)).2 D5:=Sps.keep _ _ _ (λb hb o _ e=>by rw[zV (show b≠a from λz=>haD5 (z▸hb))];exact e) hS5;generalize upd H3 a (.dK (wQ ps (nK mkN) (.int ci)))=H4 at k4 ha4 hS6⊢;refine nEA ("dict") (jW ha4) (iN ∎ ?_);let e:omT (n+1) (.dic ks us) c=(.dic (yU (ks,usi) mkN (.int ci)).1 (yU (ks,usi) mkN (.int ci)).2,ci+1):=by
    show omD ks (uT (omT n) (ixs ks) us c)=_;rw[hmk];rfl
   let:=q H4 (a::D5) k4;rw[e] at this;refine this ⟨a,_,D5,O,ha4,hk5,O,haD5,hS6⟩ λb hb=>?_;rcases mI.mp hb with z | z
   ·rw[z];exact mG
   ·exact mE _ (hDi b (hD5 b z))
 | tup us=>exact hf.elim
 | non=>
  let hv':v= .non:=hv.2;subst hv';refine λp hp=>{_,_,p,⟨O,O⟩,zC,O,iN ∎ {_,O,iN ∎ {_,O,iN ∎ ?_}}};exact q _ [] (Keep.of (zD hp _)) ⟨O,O⟩ (λ_ h=>nomatch h)
 | bl b=>
  let hv':v= .bl b:=hv.2;subst hv';refine λp hp=>{_,_,p,⟨O,O⟩,zC,O,iN ∎ {_,O,iN ∎ {_,O,iN ∎ ?_}}};exact q _ [] (Keep.of (zD hp _)) ⟨O,O⟩ (λ_ h=>nomatch h)
 | int b=>
  let hv':v= .int b:=hv.2;subst hv';refine λp hp=>{_,_,p,⟨O,O⟩,zC,O,iN ∎ {_,O,iN ∎ {_,O,iN ∎ ?_}}};exact q _ [] (Keep.of (zD hp _)) ⟨O,O⟩ (λ_ h=>nomatch h)
 | str b=>
  let hv':v= .str (tx b):=hv.2;subst hv';refine λp hp=>{_,_,p,⟨O,O⟩,zC,O,iN ∎ {_,O,iN ∎ {_,O,iN ∎ ?_}}};exact q _ [] (Keep.of (zD hp _)) ⟨O,O⟩ (λ_ h=>nomatch h)
theorem yDh(F:Fun K "_law_own_marks" "_law_own_marks" sMk f fd):FnOk P w K mg base CX0 1 f fd ["_law_thing","_law_number"] (zVp 0):=by
 refine F.ok scMk (λvs H Q E h=>?_) (λc A o s H vs Q E hr h=>?_)
 ·ext yS h v t D c r4_ _
  subst r4_
  rfl
 ext yS h v t D c r4_ z_;ext xI z_ hv hf hd _;subst r4_;exact absurd hd (pM _)
theorem zXa(F:Fun K "_law_own_marks" "_law_own_marks" sMk f fd)(B:Bl2 mg)(b:Binds K fd ["_law_thing","_law_number"] [])(kp:A8 K (.ref f)=true)(m:mg "_law_own_marks" =Y (.ref f)):∀n:Nat,FnOk P w K mg base CX0 (1+n) f fd ["_law_thing","_law_number"] (zVp n)
 | 0=>yDh F
 | n+1=>yFj F B {_,_,zXa F B b kp m n,b,kp,m}
abbrev sPc:V6:=top 82
abbrev sRo:V6:=top 79
def spPc:Sp:=λvs H Q _=>∃(a:V1)(xs:List V)(ds:List Dd),vs= [.ref a]/\H a=Y (.lst xs)/\Dlays H xs ds/\ds...*<=400/\(∀d∈ds,Dok 8 200 d)/\∀l ys D H',Same H H'->H l=none->H' l=Y (.lst ys)->Sps H' ys (ds.map ddT) D->(∀b∈D,H b=none/\b≠l)->Q (.ref l) H'
theorem scPc:zY ["_law_paper"] ["_law_paper"] (zN sPc):=by walk_at "sc"
theorem ok_pc{k:Nat}(F:Fun K "_law_paper_copy" "_law_paper_copy" sPc f fd)(B:Bl6 mg)(G_law_held:Dn P w K mg base k "_law_held" ["_law_thing"] (zCx 20)):FnOk P w K mg base CX0 (k+1) f fd ["_law_paper"] spPc:=by
 refine F.ok scPc (λvs H Q E h=>?_) (λc A o s H vs Q E hr h=>?_)
 ·ext vZ h a xs ds r3_ _
  subst r3_
  rfl
 ext yC h a xs ds r3_ ha z_;ext xI z_ hD hl4 hok q;subst r3_;let nd:=scPc.nd;let hu:=wR hr;refine nEA _ (zG (zK (xW (own:=["_law_deed_here"]) (F:=[]) {O,tb_g%,tb_g%,tb_g%, .nil} O (xN (pv 0)) (λ_ _ _ _=>yF (i:=0) (by show(xX ["_law_deed_here"] []).Nodup;decide+kernel) O (nN O)) (λ_ _ _ _=>xJ) (λ_ _ _ _=>(zI (zWh (K:=K) O) (wX (zA (yJ (zQg (K:=K) O) (pv 0) zF (λ_ _=>O)) (zA (yP (kN (K:=K) O) O B.list yX (zA (yJ (zQg (K:=K) O) (pv 0) zF (λ_ _=>O)) zB)) zB))) (yP (zSn (K:=K) O) O B.tuple zAp (zA (zP G_law_held hr ∅ O (zA (yP (kN (K:=K) O) O B.list yX (zA (xS (yAi (K:=K) O) (pv 0) (xO zF) wG) zB)) zB)) zB))))))) ?_;walk_at "st";lk;let hxl:=hD.1;refine{{_,SqL.of ha},xT (K:=K) (xs:=xs) (λi ys H'=>Same H H'/\∃D,Sps H' ys ((ds.take i).map ddT) D/\∀b∈D,H b=none) (by rw[mQ];lia) {Same.refl _,[],⟨O,O⟩,λ_ h=>nomatch h} (λi ys H' _ h=>SqL.of (h.1 _ _ ha)) ?_ ?_}
 ·rintro i v ys H2 hv _ ⟨g2,D,hS,hDn⟩
  lk;let hil:=(mP.mp hv).1;let hdi:ds[i]? =some ds[i]:=mJ ∅;refine yC ((hD.2 i v _ hv hdi).same g2) λtp pd r r3_ hp z_=>?_;ext oA z_ hpd hr4;subst r3_;let okd:=hok _ (mF hdi);generalize ds[i]=d at hdi hp hpd hr4 okd;let fin:∀z H4 D1,Same H2 H4->Sp1 H4 z (ddT d) D1->(∀b∈D1,H2 b=none)->Same H H4/\∃D,Sps H4 (ys++ [z]) ((ds.take (i+1)).map ddT) D/\∀b∈D,H b=none:=λz H4 D1 g4 hz hn=>by
   refine zHa (g2.trans g4) (D++D1) ?_ (λb hb=>(mX.mp hb).elim (hDn b) λh=>zR g2 (hn b h));rw[yK hdi,mN];refine Sps.snoc hz (hS.same g4) λb hb hb1=>?_;obtain⟨o,ho⟩:=Sps.there _ _ _ hS hb;rw[hn b hb1] at ho;cases ho
  refine vK (SqT.of hp) (yH (j:=0) O) (vK (SqT.of hp) (yH (j:=1) O) {pd,O,_, .inl (SqL.of hpd),λl hl p hp2=>?_});let s3:=zD hl (.lst (d.2.1.map kV));let e3:=zC (H:=H2) (a:=l) (o:=.lst (d.2.1.map kV));generalize upd H2 l (.lst (d.2.1.map kV))=H3 at s3 e3 hp2⊢;let s4:=zD hp2 (.tup [V.str d.1.s,V.ref l]);let e4:=zC (H:=H3) (a:=p) (o:=.tup [V.str d.1.s,V.ref l]);let el:=s4 _ _ e3;generalize upd H3 p (.tup [V.str d.1.s,V.ref l])=H4 at s4 e4 el⊢;let g4:=s3.trans s4;refine{tp,_,O,SqT.of (g4 _ _ hp), .inr {λz=>?_,λp3 hp3=>?_}}
  ·let z1:=z.1
   rw[show(2:Int)=((2:Nat):Int) from O,HT.sIx_nat,nI,nI] at z1
   lia
  rw[show kQ (V.str d.1.s::V.ref pd::r) ↥2 none=r from gO _ 2];let s5:=zD hp3 (.tup r);let e5:=zC (H:=H4) (a:=p3) (o:=.tup r);generalize upd H4 p3 (.tup r)=H5 at s5 e5⊢;refine wT p3 O r (.inr (SqT.of e5)) (λl2 hl2=>?_);let s6:=zD hl2 (.lst r);let e6:=zC (H:=H5) (a:=l2) (o:=.lst r);generalize upd H5 l2 (.lst r)=H6 at s6 e6⊢;let g26:=g4.trans (s5.trans s6);let l8:=okd.l;rcases hr4 with⟨hw,rfl⟩|⟨hw,x,rfl,hx⟩
  ·refine{.ref l2, .lst [],O,{l2,[],O,e6,O},{by decide,mH},by decide,λv' H7 D' g7 sp7 hD7=>?_}
   ext yC sp7 p7 ws D7 r3_ hp7 z_;ext oAA z_ r5_ np7 hs7;subst r3_ r5_;let ew:ws= []:=hs7.1;subst ew;refine zVi p7 O ([]) (.inl {SqL.of hp7,λp8 hp8=>?_});let s8:=zD hp8 (.tup []);let g48:=(s5.trans s6).trans (g7.trans s8);refine{p,p8,_,[],O,O,SqT.of (g48 _ _ e4),SqT.of zC,by simp,by rw[mQ];show 2<=_;decide,λ_=>?_,λh=>absurd O h};obtain⟨w',ks,n⟩:=d;let hw':w'= .tak:=hw;subst hw';refine fin _ _ [p,l] (g4.trans g48) (zNc (g48 _ _ e4) (g48 _ _ el)) λb hb=>?_;rcases mI.mp hb with z | z
   ·rw[z];exact zR s3 hp2
   ·rw[nC.mp z];exact hl
  ·let hx6:=Rep.same g26 _ _ hx
   let hd20:T.dep d.2.2+1<20:=by lia
   refine{.ref l2, .lst [d.2.2],O,{l2,[x],O,e6,x,[],O,hx6,O},{by show 1<=100000;decide,okd.g.f,mH},by show max (T.dep d.2.2) 0+1<20;lia,λv' H7 D' g7 sp7 hD7=>?_};ext yC sp7 p7 ws D7 r3_ hp7 z_;ext oAA z_ r5_ np7 hs7;subst r3_ r5_;obtain⟨x',r',E1,E2,ew,eD,hx7,⟨e1,e2⟩,_⟩:=hs7;subst e1 e2;subst ew eD;refine zVi p7 O ([x']) (.inl {SqL.of hp7,λp8 hp8=>?_});let s8:=zD hp8 (.tup [x']);let e8:=zC (H:=H7) (a:=p8) (o:=.tup [x']);generalize upd H7 p8 (.tup [x'])=H8 at s8 e8⊢;let g48:=(s5.trans s6).trans (g7.trans s8);refine{p,p8,_,[x'],O,O,SqT.of (g48 _ _ e4),SqT.of e8,by simp,by rw[mQ];show 3<=_;decide,(λh=>by cases h),λ_ p9 hp9=>?_};let s9:=zD hp9 (.tup ([V.str d.1.s,V.ref l]++ [x']));let e9:=zC (H:=H8) (a:=p9) (o:=.tup ([V.str d.1.s,V.ref l]++ [x']));generalize upd H8 p9 (.tup ([V.str d.1.s,V.ref l]++ [x']))=H9 at s9 e9⊢;let g49:=g48.trans s9;let hx9:=(hx7.same s8).same s9;obtain⟨w',ks,n⟩:=d;let new7:∀b∈E1,H6 b=none:=λb hb=>hD7 b (mE _ (nW _ hb));refine fin _ _ _ (g4.trans g49) (zIy hw e9 (g49 _ _ el) hx9 (λz=>?_) (λz=>?_)) λb hb=>?_
   ·obtain⟨o,ho⟩:=Sp1.there _ _ _ (hx7.same s8) z
    rw[hp9] at ho;cases ho
   ·let:=new7 l z
    rw[(s5.trans s6) _ _ el] at this;cases this
   ·rcases mI.mp hb with z | z
    ·rw[z];exact zR (g4.trans g48) hp9
    ·rcases mI.mp z with z | z
     ·rw[z];exact hl
     ·exact zR g26 (new7 b z)
 ·rintro ys H2 _ ⟨g2,D,hS,hDn⟩ l hl
  let s3:=zD hl (.lst ys);rw[hxl,pA] at hS;refine q l ys D _ (g2.trans s3) (zR g2 hl) zC (hS.same s3) λb hb=>{hDn b hb,λz=>?_};obtain⟨o,ho⟩:=Sps.there _ _ _ hS hb;rw[z,hl] at ho;cases ho
theorem Dlay.deed{H:Hp}{v:V}{d:Dd}(h:Dlay H v d)(ok:Dok 8 200 d):∃tp u,v= .ref tp/\DeedR H tp d.1 d.2.1 u/\yBm d.2.1 u/\∀s,doT d.1 u d.2.1 s=doT d.1 d.2.2 d.2.1 s:=by
 ext yC h tp pd r r3_ hp z_;ext oA z_ hpd hr4;subst r3_;let l8:=ok.l;rcases hr4 with⟨hw,rfl⟩|⟨hw,x,rfl,hx⟩
 ·obtain⟨e1,e2,e3⟩:=zEr d.2.1
  refine jU tp (.lst (d.2.1.map kT)) O {pd,[],V.ref pd,hp,hpd,O,by decide,{pd,_,O,hpd,zIw d.2.1}} {∅,λk hk=>(ok.s k hk).k,c7 (m:=30) ∎ _ {by rw[mC];lia,e1}, ?_} (λs=>?_)
  ·show T.deps (d.2.1.map kT)+1<20
   lia
  ·rw[hw];exact zEh _ _
 ·exact jU tp d.2.2 O {pd,[x],x,hp,hpd,O,mB _,hx} {∅,λk hk=>(ok.s k hk).k,ok.g.f,∅} (λs=>O)
def spRo:Sp:=λvs H Q _=>∃(v:V)(pa:V1)(xs:List V)(t:T)(ds:List Dd)(r:T),vs= [v, .ref pa]/\Rep H v t/\H pa=Y (.lst xs)/\Dlays H xs ds/\RI ds t/\ds...*<=400/\xU ds t=Y r/\∀l pr rs x H',Same H H'->H' l=Y (.lst [.ref pa, .ref pr, .non])->H' pr=Y (.lst (rs++ [x]))->Rep H' x r->Q (.ref l) H'
theorem scRo:zY ["_law_thing","_law_paper","_law_rows","_law_j","_law_pair_here"] ["_law_thing","_law_paper"] (zN sRo):=by walk_at "sc"
theorem ok_ro{k:Nat}(F:Fun K "_law_rows_of" "_law_rows_of" sRo f fd)(B:Bl2 mg)(G_law_held:Dn P w K mg base k "_law_held" ["_law_thing"] (zCx 20))(G_law_deed_on:Dn P w K mg base k "_law_deed_on" ["_law_thing","_law_deed_here"] yDe):FnOk P w K mg base CX0 (k+1) f fd ["_law_thing","_law_paper"] spRo:=by
 refine F.ok scRo (λvs H Q E h=>?_) (λc A o s H vs Q E hr h=>?_)
 ·ext yM h v pa xs t ds z_
  ext oEA z_ r r6_ _;subst r6_
  rfl
 ext yM h v pa xs t ds z_;ext qB z_ r r6_ hv hpa hD z_;ext xI z_ hI hl4 hrun q;subst r6_;let nd:=scRo.nd;let hu:=wR hr;refine{_,(zE (pS 2 nd (yG (zA (zP G_law_held hr ∅ O (zA (pv 0) zB)) zB)))
  (zE (wU PassesOwn.never O (wJ O B.range (zA (zM yI O B.len yV (zA (pv 1) zB)) zB)) (yF (i:=3) nd O (nN O)) (zE (pS 4 nd (zP G_law_deed_on hr ∅ O (zA (yJ zW (pv 2) (wF xM zF) (λ_ _=>O)) (zA (yJ zW (pv 1) (pv 3) (λ_ _=>O)) zB))))
  (zE (zS (xR (yB (yJ zW (pv 4) zF (λ_ _=>O)))) (zG (zK (yG (zA (pv 1) (zA (pv 2) (zA (pv 3) zB)))))) zL)
  (zG (wC (qF nQ pN pV vJ (pv 2) (zA (yJ zW (pv 4) zF (λ_ _=>O)) zB)))))))
  (zG (zK (yG (zA (pv 1) (zA (pv 2) (zA jD zB)))))))), ?_}
 walk_at "st";lk;let hd8:=hI.d;refine{v,t,O,hv,hI.few,∅,λx H1 D g1 sp hDn pr hpr=>?_};let s2:=zD hpr (.lst [x]);let e2:=zC (H:=H1) (a:=pr) (o:=.lst [x]);let hpr0:=zR g1 hpr;let hx2:Rep (vN (upd H1 pr (.lst [x])) pr) x t:=Rep.same (λb o e=>by
  let hb:b≠pr:=λz=>by subst z;rw[hpr] at e;cases e
  rw[wO hb,zV hb];exact e) _ _ (Sp1.rep _ _ _ sp)
 let g2:=g1.trans s2;generalize upd H1 pr (.lst [x])=H2 at s2 e2 hx2 g2⊢;let hxl:=hD.1;refine zBz xs (SqL.of (g2 _ _ hpa)) ∅ ∅ ?_;refine qD (λi σ H'=>∃(rs:List V)(y:V)(s:T)(o1 o2:Option V),σ= [Y v,Y (V.ref pa),Y (V.ref pr),o1,o2]/\Same H H'/\H' pr=Y (.lst (rs++ [y]))/\rs...*<=i/\Rep (vN H' pr) y s/\RI (ds.drop i) s/\xU (ds.drop i) s=Y r) {[],x,t,_,_,O,g2,e2,mB _,hx2,hI,hrun} ?_ ?_
 ·intro i σ H5 hi z_
  ext yM z_ rs y s o1 o2 z_;ext yR z_ r5_ g5 hr5 hrl hy z_;ext oA z_ hRI hrn;subst r5_;lk;let hil:i<xs...*:=by lia
  let hv5:xs[i]? =some xs[i]:=mJ hil;let hdi:ds[i]? =some ds[i]:=mJ ∅;let hdr:ds.drop i=ds[i]::ds.drop (i+1):=pB ∅;rw[hdr] at hRI hrn;refine oEA (hRI.step) λr' hdo hRI'=>?_;rw[uA hdo] at hrn;let hz:=hRI.z;let hd:=hRI.d;refine yA (((hD.2 i _ _ hv5 hdi).same g5).deed (hRI.o _ mG)) λtp u etp hDR hDI heq=>?_;rw[show(0:Int)+(i:Int)=(i:Int) by lia];refine yL (SqL.of hr5) (wL _ _) (yL (SqL.of (g5 _ _ hpa)) (yH hv5) ?_);rw[etp];refine{y,tp,ds[i].1,ds[i].2.1,s,u,O,Rep.same wK _ _ hy,hRI.few,∅,∅,hDR,hDI,λr2 hr2 l x2 H8 g8 hl8 hx8=>?_,λhn=>?_}
  ·rw[heq s,hdo] at hr2
   let er:=mM hr2;subst er;refine yL (SqL.of hl8) (yH (j:=0) O) {true,O,iN ∎ {.inl {O,_,SqL.of (g8 _ _ hr5)},yL (SqL.of hl8) (yH (j:=1) O) {pr,_,_,O,O,g8 _ _ hr5,by rw[mQ,mK,mY];lia, ?_}}};refine zUr ⟨_,O⟩ (vC (g5.trans g8) hpr0) (rs++ [y]) x2 zC (zXk (by rw[mK,mY];lia) r' (Rep.same (λb o e=>?_) _ _ hx8) hRI' hrn);let hb:=zEt e;let n2:b≠pr:=λz=>by subst z;rw[hb] at hr5;cases hr5
   rw[wO n2,zV n2];rw[vF hb] at e;exact e
  ·rw[heq s,hdo] at hn;cases hn
 ·intro σ H5 z_
  ext yM z_ rs y s o1 o2 z_;ext yR z_ r5_ g5 hr5 hrl hy z_;ext oA z_ hRI hrn;subst r5_;lk;rw[show(xs...*:Int).toNat=ds...* by lia,aL] at hrn;let er:s=r:=mM hrn;subst er;intro l hl;let s6:=zD hl (.lst [V.ref pa,V.ref pr,V.non]);exact q l pr rs y _ (g5.trans s6) zC (s6 _ _ hr5) (Rep.same s6 _ _ (Rep.same wK _ _ hy))
end
theorem zVm{r u:T}(h:alk r u=true):(∃us ws,r= .lst us/\u= .lst ws)\/(∃ks us ls ws,r= .dic ks us/\u= .dic ls ws)\/((∃us,r= .tup us)\/∃us,u= .tup us)\/(T.sz r=1/\lnar r=true/\T.sz u=1/\lnar u=true):=by
 let h':xY (zZ r) (zZ u)=0:=rP h
 cases r with
 | tup us=>exact .inr (.inr (.inl (.inl ⟨us,O⟩)))
 | lst us=>
  cases u with
  | lst ws=>exact .inl ⟨us,ws,O,O⟩
  | tup us=>exact .inr (.inr (.inl (.inr ⟨us,O⟩)))
  | _=>exact absurd h' (by simp[zZ,xY,C.ord,sgI])
 | dic ks us=>
  cases u with
  | dic ls ws=>exact .inr (.inl ⟨ks,us,ls,ws,O,O⟩)
  | tup us=>exact .inr (.inr (.inl (.inr ⟨us,O⟩)))
  | _=>exact absurd h' (by simp[zZ,xY,C.ord,sgI])
 | _=>
  cases u with
  | tup us=>exact .inr (.inr (.inl (.inr ⟨us,O⟩)))
  | lst us=>exact absurd h' (by simp[zZ,xY,C.ord,sgI])
  | dic ks us=>exact absurd h' (by simp[zZ,xY,C.ord,sgI])
  | _=>exact .inr (.inr (.inr ⟨O,O,O,O⟩))
theorem zJd:∀(us ws:List T),us...*=ws...*->(∀(i:Nat) t u,us[i]? =Y t->ws[i]? =Y u->T.sz t=T.sz u/\lnar t=lnar u)->T.szs us=T.szs ws/\xL us=xL ws
 | [],[],_,_=>⟨O,O⟩
 | [],_::_,h,_=>by simp at h
 | _::_,[],h,_=>by simp at h
 | t::us,u::ws,hl,h=>by
  obtain⟨a,b⟩:=h 0 t u O O;obtain⟨c,d⟩:=zJd us ws (by simpa using hl) λi t u h1 h2=>h (i+1) t u (by simpa using h1) (by simpa using h2);exact{by show T.sz t+T.szs us=T.sz u+T.szs ws;rw[a,c],by show(lnar t && xL us)=(lnar u && xL ws);rw[b,d]}
theorem zHi:∀us:List T,xL us=true↔∀t∈us,lnar t=true
 | []=>by simp[xL]
 | t::us=>by
  show(lnar t && xL us)=true↔_;rw[nU,zHi us];simp
theorem zZd{ks:List (List Nat)}{us:List T}(nk:ks.Nodup)(hl:ks...*=us...*){t:T}(h:t∈us):∃k∈ks,zJ k ks us=t:=by
 obtain⟨i,hi,e⟩:=List.mem_iff_getElem.mp h;let hk:ks[i]? =Y (ks[i]'∅):=mJ _;exact nEA _ (mF hk) (jT nk hk (by rw[mJ hi,e]))
theorem zEz{ks:List (List Nat)}{us:List T}(nk:ks.Nodup)(hl:ks...*=us...*):xL us=true↔∀k∈ks,lnar (zJ k ks us)=true:=by
 rw[zHi];constructor
 ·exact λh k hk=>h _ (yO hk hl)
 ·intro h t ht
  obtain⟨k,hk,rfl⟩:=zZd nk hl ht;exact h k hk
theorem zDi:∀(n:Nat)(r u:T),T.few r->T.few u->T.dep r<n->alk r u=true->T.sz r=T.sz u/\lnar r=lnar u
 | 0,_,_,_,_,h,_=>absurd h (pM _)
 | n+1,r,u,hf,hu,hd,h=>by
  rcases zVm h with⟨us,ws,rfl,rfl⟩|⟨ks,us,ls,ws,rfl,rfl⟩|(⟨us,rfl⟩|⟨us,rfl⟩)|⟨a,b,c,d⟩
  ·obtain⟨hl,he⟩:=alk_lst.mp h
   let hd':T.deps us+1<n+1:=hd;obtain⟨a,b⟩:=zJd us ws hl λi t u h1 h2=>by
    let m1:=mF h1;let:=b7 m1;exact zDi n t u (b5 hf.2 m1) (b5 hu.2 (mF h2)) ∅ (he i t u h1 h2)
   exact{by show T.szs us+1=T.szs ws+1;rw[a],by show(decide (us...*<=60)&& xL us)=(decide (ws...*<=60)&& xL ws);rw[hl,b]}
  ·let nk:=hf.1
   let lk:=hf.2.2.1;let nl:=hu.1;let ll:=hu.2.2.1;obtain⟨hl,he⟩:=(zOu nk).mp h;let hd':T.deps us+1<n+1:=hd;let key:∀k∈ks,T.sz (zJ k ks us)=T.sz (zJ k ls ws)/\lnar (zJ k ks us)=lnar (zJ k ls ws):=λk hk=>by
    let m1:=yO hk lk;let:=b7 m1;exact zDi n _ _ (b5 hf.2.2.2 m1) (b5 hu.2.2.2 (yO (he k hk).1 ll)) ∅ (he k hk).2
   let sub2:∀k∈ls,k∈ks:=λk hk=>by
    by_cases c:k∈ks
    ·exact c
    ·let hnd:(k::ks).Nodup:=nZ.mpr ⟨c,nk⟩
     let:=hnd.length_le_of_subset (l₂:=ls) λq hq=>(mI.mp hq).elim (λe=>by rw[e];exact hk) λz=>(he q z).1;rw[nI] at this
     lia
   let pm:ks.Perm ls:=(aO nk nl).mpr λk=>{λhk=>(he k hk).1,sub2 k};let s1:=kK nk lk;let s2:=kK nl ll;let s3:=gT (pm.map λk=>zJ k ls ws);let s4:(T.szs (ks.map λk=>zJ k ks us)=T.szs (ks.map λk=>zJ k ls ws))/\_:=zJd (ks.map λk=>zJ k ks us) (ks.map λk=>zJ k ls ws) (by simp) λi t u h1 h2=>by
    rw[mW] at h1 h2;obtain⟨k,hk,rfl⟩:=pJ.mp h1;rw[hk] at h2;rw[<-mM h2];exact key k (mF hk)
   let e:xL us=xL ws:=by
    rw[sH,zEz nk lk,zEz nl ll];constructor
    ·intro h k hk
     rw[<-(key k (sub2 k hk)).2];exact h k (sub2 k hk)
    ·intro h k hk
     rw[(key k hk).2];exact h k (he k hk).1
   let s5:=s4.1;exact{by show T.szs us+1=T.szs ws+1;lia,by show(decide (ks...*<=30)&& xL us)=(decide (ls...*<=30)&& xL ws);rw[hl,e]}
  ·exact hf.elim
  ·exact hu.elim
  ·exact{by rw[a,c],by rw[b,d]}
theorem RI.last:∀{ds:List Dd}{s r:T},RI ds s->xU ds s=Y r->RI [] r
 | [],s,r,h,e=>by
  let:s=r:=mM e;rw[<-this];exact h
 | d::ds,s,r,h,e=>by
  obtain⟨s',h1,h2⟩:=h.step;rw[uA h1] at e;exact h2.last e
theorem yBv{t u:T}(h:ThI t)(h':ThI u):(dfT 20 t u).isEmpty=alk t u:=by
 obtain⟨_,r,h1,h2⟩:=h.ri h'
 cases ha:alk t u with
 | true=>
  let e:dfT 20 t u= []:=by
   show(if alk t u=true then[] else _)= [];rw[mO ha]
  rw[e];rfl
 | false=>
  cases hd:dfT 20 t u with
  | nil=>
   rw[hd] at h1;rw[<-mM h1,ha] at h2;cases h2
  | cons d ds=>rfl
theorem ThI.end{t u r:T}(h:ThI t)(h':ThI u)(hr:xU (dfT 20 t u) t=Y r):ThI r/\T.few r/\T.dep r<=8/\T.sz r<=200/\alk r u=true:=by
 obtain⟨ri,r',h1,h2⟩:=h.ri h';rw[hr] at h1;let e:=mM h1;subst e;let rl:=ri.last hr;let hd:=rl.d;obtain⟨a,b⟩:=zDi 20 r u rl.few h'.g.f ∅ h2;let hz:=h'.z;let gd:Gd r:={rl.few,rl.g,by rw[b];exact h'.g.n};exact zQk {gd,hd,∅} rl.few hd ∅ h2
noncomputable def dlT(d:Dd):T:=match ddT d with
 | .tup us=>.lst us
 | t=>t
theorem yBw(d:Dd):∃us,ddT d= .tup us/\dlT d= .lst us:=by
 obtain⟨w,ks,n⟩:=d;cases w<;>exact⟨_,O,O⟩
theorem Dok.row{d:Dd}(h:Dok 8 200 d):T.fewm 30 (dlT d)/\T.dep (dlT d)<=9/\T.sz (dlT d)<=212:=by
 obtain⟨w,ks,n⟩:=d;let fn:=kJ _ h.g.f h.g.n;let l8:ks...*+T.dep n<=8:=h.l;let z2:T.sz n<=200:=h.z;obtain⟨e1,e2,e3⟩:=zEr ks;let fp:T.fewm 30 (.lst (ks.map kT)):={by rw[mC];lia,e1};let three:∀z:Str,T.fewm 30 (.lst [.str (ts z), .lst (ks.map kT),n])/\T.dep (.lst [.str (ts z), .lst (ks.map kT),n])<=9/\T.sz (.lst [.str (ts z), .lst (ks.map kT),n])<=212:=λz=>by
  refine nAA {by show 3<=100000;decide,mH,fp,fn,mH} ?_ ?_
  ·show max 0 (max (T.deps (ks.map kT)+1) (max (T.dep n) 0))+1<=9
   lia
  ·show 1+((T.szs (ks.map kT)+1)+(T.sz n+0))+1<=212
   lia
 cases w with
 | put=>exact three _
 | ins=>exact three _
 | tak=>
  refine nAA {by show 2<=100000;decide,mH,fp,mH} ?_ ?_
  ·show max 0 (max (T.deps (ks.map kT)+1) 0)+1<=9
   lia
  ·show 1+((T.szs (ks.map kT)+1)+0)+1<=212
   lia
theorem zYf{ds:List Dd}(h:∀d∈ds,Dok 8 200 d)(hl:ds...*<=400):T.fewm 30 (.lst (ds.map dlT))/\T.dep (.lst (ds.map dlT))<=10/\T.sz (.lst (ds.map dlT))<=90000:=by
 refine nAA {by rw[mC];lia,d4 λt ht=>?_} ?_ ?_
 ·obtain⟨d,hd,rfl⟩:=nB.mp ht
  exact(h d hd).row.1
 ·let:T.deps (ds.map dlT)<=9:=d7 λt ht=>by
   obtain⟨d,hd,rfl⟩:=nB.mp ht;exact(h d hd).row.2.1
  show T.deps (ds.map dlT)+1<=10
  lia
 ·let key:∀ds:List Dd,(∀d∈ds,Dok 8 200 d)->T.szs (ds.map dlT)<=212*ds...*:=λds=>by
   induction ds with
   | nil=>exact λ_=>mT _
   | cons d ds ih=>
    intro h;let:=ih λd' hd'=>h d' (mE _ hd');let:=(h d mG).row.2.2;show T.sz (dlT d)+T.szs (ds.map dlT)<=212*(ds...*+1)
    lia
  let:=key ds h;show T.szs (ds.map dlT)+1<=90000
  lia
def LsI(H:Hp)(D:List V1)(ys:List V)(ds:List Dd)(i:Nat)(zs:List V)(H2:Hp):Prop:=Same H H2/\∃E Dr,Sps H (ys.drop i) ((ds.drop i).map ddT) Dr/\(∀b∈Dr,b∈D)/\Sps H2 zs ((ds.take i).map dlT) E/\(∀b∈E,b∉Dr)/\∀b∈E,b∈D\/H b=none
theorem k8{H:Hp}{D:List V1}{ys:List V}{ds:List Dd}(h:Sps H ys (ds.map ddT) D):LsI H D ys ds 0 [] H:={Same.refl _,[],D,h,λ_ z=>z,⟨O,O⟩,(λ_ z=>nomatch z),(λ_ z=>nomatch z)}
theorem LsI.step{H:Hp}{D:List V1}{ys:List V}{ds:List Dd}{i:Nat}{zs:List V}{H2:Hp}(h:LsI H D ys ds i zs H2)(hl:ys...*=ds...*){v:V}(hv:ys[i]? =Y v):∃p us,v= .ref p/\H2 p=Y (.tup us)/\∀l,H2 l=none->LsI H D ys ds (i+1) (zs++ [.ref l]) (upd H2 l (.lst us)):=by
 obtain⟨g,E,Dr,hS,hDr,hE,hdis,hnew⟩:=h;let hil:=(mP.mp hv).1;let hdi:ds[i]? =some ds[i]:=mJ ∅;let e1:ys.drop i=v::ys.drop (i+1):=by rw[pB hil,(mP.mp hv).2]
 let e2:ds.drop i=ds[i]::ds.drop (i+1):=pB ∅;rw[e1,e2,mV] at hS;ext yS hS v' r' D1 D2 ev z_;ext xI z_ eD h1 h2 h3;injection ev with ev1 ev2;subst ev1 ev2 eD;obtain⟨us,t1,t2⟩:=yBw ds[i];rw[t1] at h1;ext yC h1 p xs Dp r3_ hp z_;ext oAA z_ r5_ np hsx;subst r3_ r5_;refine zPg p xs O (g _ _ hp) (λl hl2=>?_);let s3:=zD hl2 (.lst xs);let nl:∀b,b∈Dp->b≠l:=λb hb z=>by
  obtain⟨o,ho⟩:=Sps.there _ _ _ hsx hb;let:=g _ _ ho;rw[z,hl2] at this;cases this
 let hl0:H l=none:=zR g hl2;let nE:l∉E:=λz=>by
  obtain⟨o,ho⟩:=Sps.there _ _ _ hE z;rw[hl2] at ho;cases ho
 refine{g.trans s3,E++l::Dp,D2,h2,λb hb=>hDr b (nJ _ hb), ?_,λb hb hb2=>?_,λb hb=>?_}
 ·rw[yK hdi,mN]
  refine Sps.snoc (show Sp1 _ (.ref l) (dlT ds[i]) (l::Dp) from ?_) (hE.same s3) λb hb z=>?_
  ·rw[t2]
   exact{l,xs,Dp,O,zC,O,λz=>nl l z O,(hsx.same g).same s3}
  ·rcases mI.mp z with z | z
   ·exact nE (z▸hb)
   ·exact hdis b hb (nW _ (mE _ z))
 ·rcases mX.mp hb with z | z
  ·exact hdis b z (nJ _ hb2)
  ·rcases mI.mp z with z | z
   ·obtain⟨o,ho⟩:=Sps.there _ _ _ h2 hb2
    rw[z,hl0] at ho;cases ho
   ·exact h3 b (mE _ z) hb2
 ·rcases mX.mp hb with z | z
  ·exact hnew b z
  ·rcases mI.mp z with z | z
   ·rw[z];exact .inr hl0
   ·exact .inl (hDr b (nW _ (mE _ z)))
theorem LsI.end{H:Hp}{D:List V1}{ys:List V}{ds:List Dd}{zs:List V}{H2:Hp}(h:LsI H D ys ds ys...* zs H2)(hl:ys...*=ds...*){l:V1}(hl2:H2 l=none):∃E,Same H (upd H2 l (.lst zs))/\Sp1 (upd H2 l (.lst zs)) (.ref l) (.lst (ds.map dlT)) (l::E)/\H l=none/\∀b∈l::E,b∈D\/H b=none:=by
 obtain⟨g,E,Dr,_,_,hE,_,hnew⟩:=h;let s3:=zD hl2 (.lst zs);rw[hl,pA] at hE;let nE:l∉E:=λz=>by
  obtain⟨o,ho⟩:=Sps.there _ _ _ hE z;rw[hl2] at ho;cases ho
 refine zBz E (g.trans s3) {l,zs,E,O,zC,O,nE,hE.same s3} (zR g hl2) (λb hb=>?_);rcases mI.mp hb with z | z
 ·rw[z];exact .inr (zR g hl2)
 ·exact hnew b z
abbrev zJf:V6:=top 85
mutual
theorem zNl:∀t:T,m5 t<=2*T.dep t
 | .lst us=>by let:=zEs us;show i8 us+1<=2*(T.deps us+1);lia
 | .dic _ us=>by let:=zEs us;show i8 us+2<=2*(T.deps us+1);lia
 | .tup us=>by let:=zEs us;show i8 us+1<=2*(T.deps us+1);lia
 | .non=>mT _
 | .bl _=>mT _
 | .int _=>mT _
 | .str _=>mT _
theorem zEs:∀us:List T,i8 us<=2*T.deps us
 | []=>mT _
 | t::us=>by
  let:=zNl t;let:=zEs us;show max (m5 t) (i8 us)<=2*max (T.dep t) (T.deps us)
  lia
end
theorem zBe{H H1 H2:Hp}{D:List V1}(g:Same H H1)(k:Keep D H1 H2)(hD:∀b∈D,H b=none):Same H H2:=λb o e=>k b o (λz=>by rw[hD b z] at e;cases e) (g _ _ e)
theorem zKl{H H':Hp}{v:V}{t:T}{D E:List V1}(h:Sp1 H v t D)(k:Keep E H H')(hD:∀b∈D,b∉E):Sp1 H' v t D:=Sp1.keep _ _ _ (λb hb o _ e=>k b o (hD b hb) e) h
theorem zWy{H H':Hp}{vs:List V}{ts:List T}{D E:List V1}(h:Sps H vs ts D)(k:Keep E H H')(hD:∀b∈D,b∉E):Sps H' vs ts D:=Sps.keep _ _ _ (λb hb o _ e=>k b o (hD b hb) e) h
theorem uZ{n:Nat}{H:Hp}{v u:V}{t t':T}{Q:VK}(hv:Rep H v t)(hu:Rep H u t')(hf:T.few t)(hf':T.few t')(hd:2*T.dep t<=n)(hd':2*T.dep t'<=n)(q:∀H',Same H H'->Q (.bl (alk t t')) H'):zMx n [v,u] H Q E0:={v,u,t,t',O,hv,hu,hf,hf',by let:=zNl t;lia,by let:=zNl t';lia,q}
section
variable{P:V3}{w:V4}{K:A7}{mg:Str->Option V0}{base:V5}{f:V1}{fd:V7}
def zOn(K:A7):Sp:=λvs H Q _=>∃(a:V1)(ns:List Int),vs= [.ref a]/\SqL K H a (ns.map V.int)/\ns...*<=63/\∀H',Q (.bl true) H'
theorem scLaw:zY ["_law_script","_law_pair_here","_law_old","_law_new","_law_held_here","_law_deeds_here","_law_handed","_law_first","_law_kept","_law_told","_law_rows"] ["_law_script"] (zN zJf):=by walk_at "sc"
theorem yCl{k:Nat}(F:Fun K "law" "law" zJf f fd)(B:Bl6 mg)(G_law_pair:Dn P w K mg base k "_law_pair" ["_law_script"] (spPr K))(G_law_held:Dn P w K mg base k "_law_held" ["_law_thing"] (zCx 20))(Gdifference:Dn P w K mg base k "difference" ["old","new"] spDf)(Gis_paper:Dn P w K mg base k "is_paper" ["thing"] zSt)(G_law_same:Dn P w K mg base k "_law_same" ["_law_one","_law_other"] (zMx 40))(G_law_size:Dn P w K mg base k "_law_size" ["_law_thing"] (zDm 20))(G_law_paper_copy:Dn P w K mg base k "_law_paper_copy" ["_law_paper"] spPc)(G_law_own_marks:Dn P w K mg base k "_law_own_marks" ["_law_thing","_law_number"] (zVp 20))(G_law_rows_of:Dn P w K mg base k "_law_rows_of" ["_law_thing","_law_paper"] spRo)(Gdone:Dn P w K mg base k "done" ["thing","paper"] zWx):FnOk P w K mg base CX0 (k+1) f fd ["_law_script"] (zOn K):=by
 refine F.ok scLaw (λvs H Q E h=>?_) (λc A o s H vs Q E hr h=>?_)
 ·ext wA h a ns r2_ _
  subst r2_
  rfl
 ext yA h a ns r2_ ha hns q;subst r2_;let nd:=scLaw.nd;let hu:=wR hr;let hu0:=hr.units0;refine{_,(zE (pS 1 nd (zP G_law_pair hr ∅ O (zA (pv 0) zB)))
  (zE (pS 2 nd (yJ zW (pv 1) zF (λ_ _=>O)))
  (zE (pS 3 nd (yJ zW (pv 1) zF (λ_ _=>O)))
  (zE (pS 4 nd (zP G_law_held hr ∅ O (zA (pv 1) zB)))
  (zE (pS 5 nd (zP Gdifference hr ∅ O (zA (pv 2) (zA (pv 3) zB))))
  (zE (zS (d9 (qM (xR (yB (pI B.isinstance zH B.list yX (pv 5)))) (qM (xR (yB (zP Gis_paper hr ∅ O (zA (pv 5) zB)))) (jG (zQ zAj (yW (zIx hu0) (pv 5) (yG zB) (zO _)) (zP G_law_same hr ∅ O (zA (pv 2) (zA (pv 3) zB))) (zO _)))))) (zG (zK wZ)) zL)
  (zE (zS (d9 (qM (zQ qS (zM yI O B.len yV (zA (pv 5) zB)) (zI xH (zP G_law_size hr ∅ O (zA (pv 2) zB)) (zP G_law_size hr ∅ O (zA (pv 3) zB))) (zO _)) (jG (xR (yB (zP G_law_same hr ∅ O (zA (pv 1) (zA (pv 4) zB)))))))) (zG (zK wZ)) zL)
  (zE (pS 6 nd (zP G_law_held hr ∅ O (zA (pv 1) zB)))
  (zE (pS 7 nd (zP Gdifference hr ∅ O (zA (yJ zW (pv 6) zF (λ_ _=>O)) (zA (yJ zW (pv 6) zF (λ_ _=>O)) zB))))
  (zE (kF (i:=8) nd O (nN O) (own:=["_law_deed_here"]) (F:=[]) {O,tb_g%,tb_g%,tb_g%, .nil} O (xN (zP G_law_paper_copy hr ∅ O (zA (pv 7) zB))) (λ_ _ _ _=>yF (i:=0) (by show(xX ["_law_deed_here"] []).Nodup;decide+kernel) O (nN O)) (λ_ _ _ _=>xJ) (λ_ _ _ _=>(yP (kN (K:=K) O) O B.list yX (zA (pv 0) zB))))
  (zE (wC (zP G_law_own_marks hr ∅ O (zA (pv 6) (zA zF zB))))
  (zE (kF (i:=9) nd O (nN O) (own:=["_law_deed_here"]) (F:=[]) {O,tb_g%,tb_g%,tb_g%, .nil} O (xN (pv 7)) (λ_ _ _ _=>yF (i:=0) (by show(xX ["_law_deed_here"] []).Nodup;decide+kernel) O (nN O)) (λ_ _ _ _=>xJ) (λ_ _ _ _=>(yP (kN (K:=K) O) O B.list yX (zA (pv 0) zB))))
  (zE (zS (d9 (qM (xR (yB (zP G_law_same hr ∅ O (zA (pv 9) (zA (pv 8) zB))))) (qM (zQ zAj (zP G_law_own_marks hr ∅ O (zA (pv 9) (zA zF zB))) (zP G_law_own_marks hr ∅ O (zA (pv 8) (zA zF zB))) (zO _)) (jG (xR (yB (zP G_law_same hr ∅ O (zA (pv 9) (zA (pv 8) zB))))))))) (zG (zK wZ)) zL)
  (zE (pS 10 nd (zP G_law_rows_of hr ∅ O (zA (pv 2) (zA (pv 5) zB))))
  (zE (zS (d9 (qM (uD (zIv (yJ zW (pv 10) zF (λ_ _=>O)))) (qM (xR (yB (zP G_law_same hr ∅ O (zA (yJ zW (yJ zW (pv 10) zF (λ_ _=>O)) (wF xM zF) (λ_ _=>O)) (zA (pv 3) zB))))) (jG (xR (yB (zP G_law_same hr ∅ O (zA (zP Gdone hr ∅ O (zA (pv 2) (zA (pv 5) zB))) (zA (pv 3) zB))))))))) (zG (zK wZ)) zL)
  (zE (wC (zP G_law_own_marks hr ∅ O (zA (xW (own:=["_law_deed_here"]) (F:=[]) {O,tb_g%,tb_g%,tb_g%, .nil} O (xN (pv 5)) (λ_ _ _ _=>yF (i:=0) (by show(xX ["_law_deed_here"] []).Nodup;decide+kernel) O (nN O)) (λ_ _ _ _=>xJ) (λ_ _ _ _=>(yP (kN (K:=K) O) O B.list yX (zA (pv 0) zB)))) (zA zF zB))))
  (zG (zK (vO (zP G_law_same hr ∅ O (zA (pv 1) (zA (pv 4) zB))) (vU (zP G_law_same hr ∅ O (zA (zP Gdone hr ∅ O (zA (pv 2) (zA (zP Gdifference hr ∅ O (zA (pv 2) (zA (pv 3) zB))) zB))) (zA (pv 3) zB))))))))))))))))))))))), ?_}
 walk_at "st";refine yEo λR hR=>?_;lk;refine{a,ns,O,ha,hns,λl vo vn t u H1 hl ho hn it iu=>?_};let hd1:=it.d;let hd2:=iu.d;let hz1:=it.z;let hz2:=iu.z;let hpair:Rep H1 (.ref l) (.lst [t,u]):=⟨l,_,O,hl,vo,_,O,ho,vn,_,O,hn,O⟩;let fpair:T.few (.lst [t,u]):={by show 2<=100000;decide,it.g.f,iu.g.f,mH};let dpair:T.dep (.lst [t,u])<=9:=by show max (T.dep t) (max (T.dep u) 0)+1<=9;lia
 refine yL (SqL.of hl) (yH (j:=0) O) (yL (SqL.of hl) (yH (j:=1) O) {_,_,O,hpair,fpair,∅,λvh H2 Dh g2 sph hDh=>?_});subst hR;refine kB λR hR=>?_;lk;let hh2:=Sp1.rep _ _ _ sph;refine{vo,vn,t,u,O,Rep.same g2 _ _ ho,Rep.same g2 _ _ hn,it,iu,λld ys D H3 g3 hld hld3 hsp hD=>?_};let hsR:=Sps.rep _ _ _ hsp;obtain⟨ri,r,hrun,hrk⟩:=it.ri iu;refine vS (it.end iu hrun) λhth hfr hdr hzr halk=>?_;let hcs:=zGo 20 t u it.g.f iu.g.f;let hln:=zEx (dfT 20 t u);let hnil:=yBv it iu;obtain⟨ds,hds⟩:∃ds,dfT 20 t u=ds:=⟨_,O⟩;rw[hds] at hsp hsR ri hrun hcs hln hnil;let hl4:ds...*<=400:=by lia
 let hDl:=Dlays.of hsR;let hyl:ys...*=ds...*:=hDl.1;let hye:ys.isEmpty=alk t u:=by
  rw[<-hnil]
  cases ys with
  | nil=>cases ds with
   | nil=>rfl
   | cons _ _=>simp at hyl
  | cons _ _=>cases ds with
   | nil=>simp at hyl
   | cons _ _=>rfl
 let alkp:alk (.lst [t,u]) (.lst [t,u])=true:=gM fpair;subst hR;refine kB λR hR=>?_;lk;refine nEA ("list") (vX hld3) (iN ∎ {ld,ys,ds,O,hld3,hyl,hl4,λi v d hv hd=>{hDl.2 i v d hv hd,ri.o d (mF hd)},λH4 g4=>{true,O,iN ∎ λp hp=>?_}});let s5:=zD hp (.lst []);let e5:=zC (H:=H4) (a:=p) (o:=.lst []);generalize upd H4 p (.lst [])=H5 at s5 e5⊢;let g35:=g4.trans s5;let g25:=g3.trans g35;let ho2:=Rep.same g2 _ _ ho;let hn2:=Rep.same g2 _ _ hn;let hp2:=Rep.same g2 _ _ hpair;refine{ld,p,ys,O,O,SqL.of (g35 _ _ hld3),SqL.of e5,uZ (Rep.same g25 _ _ ho2) (Rep.same g25 _ _ hn2) it.g.f iu.g.f ∅ ∅ λH6 g6=>?_};refine zHa O false (by rw[hye];simp) (iN ∎ ?_);subst hR;refine kB λR hR=>?_;lk;refine{ys,SqL.of (g6 _ _ (g35 _ _ hld3)),vo,t,O,Rep.same (g25.trans g6) _ _ ho2,j8 _ it.g.f,∅,∅,λH7 g7=>{vn,u,O,Rep.same (g25.trans (g6.trans g7)) _ _ hn2,j8 _ iu.g.f,∅,∅,λH8 g8=>{_,O,_,O,iN ?_ ?_}}}
 ·let z1:=(zEg t it.g.f).1
  let z2:=(zEg u iu.g.f).1
  lia
 let g38:=g35.trans (g6.trans (g7.trans g8));let g28:=g3.trans g38;refine uZ (Rep.same g28 _ _ hp2) (Rep.same g28 _ _ hh2) fpair fpair ∅ ∅ λH9 g9=>{_,O,iN (by rw[alkp];decide) ?_};subst hR;refine cut2 λR hR=>?_;lk;let g39:=g38.trans g9;let g29:=g3.trans g39;refine{_,_,O,Rep.same g29 _ _ hp2,fpair,∅,λva H10 Da g10 spa hDa=>?_};let spa0:=spa;ext yC spa0 pa ws Da' r3_ hpa z_;ext oAA z_ eDa npa hsa;subst r3_;obtain⟨a0,w1,E1,E2,rfl,_,sa0,⟨a1,w2,E3,E4,rfl,_,sa1,⟨ew,_⟩,_⟩,_⟩:=hsa;subst ew;refine yL (SqL.of hpa) (yH (j:=0) O) (yL (SqL.of hpa) (yH (j:=1) O) {a0,a1,t,u,O,Sp1.rep _ _ _ sa0,Sp1.rep _ _ _ sa1,it,iu,λlf fs D1 H11 g11 hlf hlf11 hsf hDf=>?_});subst hR;refine kB λR hR=>?_;lk;rw[hds] at hsf;let hfl:=Dlays.of (Sps.rep _ _ _ hsf);refine{lf,fs,ds,O,hlf11,hfl,hl4,ri.o,λlc cs D2 H12 g12 hlc hlc12 hsc hDc=>?_};let hcl:=(Dlays.of (Sps.rep _ _ _ hsc)).1;refine zCr lc O {_,SqL.of hlc12} (xT (K:=K) (xs:=cs) (λi zs H'=>LsI H12 D2 cs ds i zs H') (by rw[mQ];lia) (k8 hsc) (λi zs H' _ h=>SqL.of (h.1 _ _ hlc12)) ?_ ?_)
 ·rintro i v zs H' hv _ h
  refine yN (h.step hcl hv) λp us r2_ hp hq=>?_;subst r2_;lk;exact nEA us (.inr (SqT.of hp)) (λl hl=>hq l hl)
 rintro zs H' _ h lk hlk;refine jZ (h.end hcl hlk) λEk gk spk hlk12 hEk=>?_;generalize upd H' lk (.lst zs)=H13 at gk spk⊢;subst hR;refine kB λR hR=>?_;lk;let g1013:Same H10 H13:=g11.trans (g12.trans gk);refine oAA (zYf ri.o hl4) λfX dX zX=>?_;let fX':=c7 ∎ _ fX;let alkX:=gM fX';let inDa:∀b,H10 b=none->b∉Da:=λb hb z=>by
  obtain⟨o,ho⟩:=Sp1.there _ _ _ spa z;rw[hb] at ho;cases ho
 refine{.ref pa,_,Da,0,O,Sp1.same g1013 spa,fpair,∅,λH14 Da2 k14 _ _=>?_};subst hR;refine kB λR hR=>?_;lk;let hlf14:H14 lf=Y (.lst fs):=k14 _ _ (inDa lf hlf) ((g12.trans gk) _ _ hlf11);let hsf14:Sps H14 fs (ds.map ddT) D1:=zWy (hsf.same (g12.trans gk)) k14 λb hb=>inDa b (hDf b hb).1;let h11n:∀b∈lk::Ek,H11 b=none:=λb hb=>(hEk b hb).elim (λz=>(hDc b z).1) λz=>zR g12 z;let spk14:=zKl spk k14 λb hb=>inDa b (zR g11 (h11n b hb));refine{{_,SqL.of hlf14},xT (K:=K) (xs:=fs) (λi zs H'=>LsI H14 D1 fs ds i zs H') (by let:=hfl.1;rw[mQ];lia) (k8 hsf14) (λi zs H' _ h=>SqL.of (h.1 _ _ hlf14)) ?_ ?_}
 ·rintro i v zs H' hv _ h
  refine yN (h.step hfl.1 hv) λp us r2_ hp hq=>?_;subst r2_;lk;exact nEA us (.inr (SqT.of hp)) (λl hl=>hq l hl)
 clear h hlk;rintro zs2 H' _ h lt hlt;refine jZ (h.end hfl.1 hlt) λEt gt spt hlt14 hEt=>?_;generalize upd H' lt (.lst zs2)=H15 at gt spt⊢;subst hR;refine kB λR hR=>?_;lk;let dis:∀b∈lt::Et,b∉lk::Ek:=λb hb z=>by
  rcases hEt b hb with y | y
  ·obtain⟨o,ho⟩:=Sps.there _ _ _ hsf y
   rw[h11n b z] at ho;cases ho
  ·obtain⟨o,ho⟩:=Sp1.there _ _ _ spk14 z
   rw[y] at ho;cases ho
 let spk15:=Sp1.same gt spk14;refine uZ (Sp1.rep _ _ _ spt) (Sp1.rep _ _ _ spk15) fX' fX' ∅ ∅ λH16 g16=>{_,O,iN (by rw[alkX];decide) ?_};refine{.ref lt,_,_,0,O,Sp1.same g16 spt,fX',∅,λH17 Dt' k17 spt17 subt=>?_};let spk17:=zKl (Sp1.same g16 spk15) k17 λb hb z=>dis b z hb;refine{.ref lk,_,_,0,O,spk17,fX',∅,λH18 Dk' k18 spk18 subk=>?_};let spt18:=zKl spt17 k18 λb hb=>dis b (subt b hb);obtain⟨fY,dY⟩:=zOj (m:=30) 20 (.lst (ds.map dlT)) 0 ⟨fX,zX⟩ ∅;let fY':=c7 ∎ _ fY;let alkY:=gM fY';refine zHa O false (by simp) (iN ∎ ?_);refine uZ (Sp1.rep _ _ _ spt18) (Sp1.rep _ _ _ spk18) fY' fY' ∅ ∅ λH19 g19=>{_,O,iN (by rw[alkY];decide) ?_};subst hR;refine kB λR hR=>?_;lk;let g310:=g39.trans g10;let g314:Same H3 H14:=zBe (g310.trans g1013) k14 λb hb=>zR g39 (hDa b hb);let g317:Same H3 H17:=zBe (g314.trans (gt.trans g16)) k17 λb hb=>(hEt b hb).elim (λz=>zR g310 (hDf b z).1) λz=>zR g314 z;let g318:Same H3 H18:=zBe g317 k18 λb hb=>zR (g310.trans g11) (h11n b hb);let g319:=g318.trans g19;let pr:T.pure r:=jP _ r (mB _) hfr;refine{vo,ld,ys,t,ds,r,O,Rep.same (g3.trans g319) _ _ ho2,g319 _ _ hld3,Dlays.of (Reps.same g319 _ _ hsR),ri,hl4,hrun,λlr pr rs x H20 g20 hlr hpr hx=>?_};subst hR;refine kB λR hR=>?_;lk;let g320:=g319.trans g20;refine yL (SqL.of hlr) (yH (j:=2) O) {false,by simp,iN ∎ (yL (SqL.of hlr) (yH (j:=1) O) (yL (SqL.of hpr) (wL _ _) (uZ hx (Rep.same (g3.trans g320) _ _ hn2) hfr iu.g.f ∅ ∅ λH21 g21=>{_,O,iN (by rw[halk];decide) ?_})))};let g321:=g320.trans g21;refine{vo,ld,ys,t,ds,r,O,Rep.same (g3.trans g321) _ _ ho2,g321 _ _ hld3,Dlays.of (Reps.same g321 _ _ hsR),ri,hl4,hrun,hth,jP _ r (mB _) hfr,∅,∅,λy H22 g22 hy=>?_};let g322:=g321.trans g22;refine uZ hy (Rep.same (g3.trans g322) _ _ hn2) hfr iu.g.f ∅ ∅ λH23 g23=>{_,O,iN (by rw[halk];decide) ?_};let g323:=g322.trans g23;subst hR;refine kB λR hR=>?_;lk;let hld23:=g323 _ _ hld3;let hsp23:=Sps.same g323 hsp;refine{{_,SqL.of hld23},xT (K:=K) (xs:=ys) (λi zs H'=>LsI H23 D ys ds i zs H') (by rw[mQ];lia) (k8 hsp23) (λi zs H' _ h=>SqL.of (h.1 _ _ hld23)) ?_ ?_}
 ·rintro i v zs H' hv _ h
  refine yN (h.step hyl hv) λp us r2_ hp hq=>?_;subst r2_;lk;exact nEA us (.inr (SqT.of hp)) (λl hl=>hq l hl)
 clear h hlt;rintro zs3 H' _ h lm hlm;refine jZ (h.end hyl hlm) λEm gm spm hlm23 hEm=>?_;generalize upd H' lm (.lst zs3)=H24 at gm spm⊢;refine{.ref lm,_,_,0,O,spm,fX',∅,λH25 Dm' k25 _ _=>?_};subst hR;lk;let g223:=g3.trans g323;let g225:Same H2 H25:=zBe (g223.trans gm) k25 λb hb=>(hEm b hb).elim (λz=>(hD b z).1) λz=>zR g223 z;refine uZ (Rep.same g225 _ _ hp2) (Rep.same g225 _ _ hh2) fpair fpair ∅ ∅ λH26 g26=>{true,by rw[alkp],iP O ?_};let g226:=g225.trans g26;refine{vo,vn,t,u,O,Rep.same g226 _ _ ho2,Rep.same g226 _ _ hn2,it,iu,λlz zz Dz H27 g27 hlz hlz27 hsz hDz=>?_};rw[hds] at hsz;let g227:=g226.trans g27;refine{vo,lz,zz,t,ds,r,O,Rep.same g227 _ _ ho2,hlz27,Dlays.of (Sps.rep _ _ _ hsz),ri,hl4,hrun,hth,jP _ r (mB _) hfr,∅,∅,λy2 H28 g28' hy2=>?_};refine uZ hy2 (Rep.same (g227.trans g28') _ _ hn2) hfr iu.g.f ∅ ∅ λH29 g29'=>?_;rw[halk];exact q H29
end
end K44
namespace K44
open PySem L2 PySem.W
section
variable{K:Frag}{dT:V1}{kV doc pm cdv ct:V0}{an:Option V1}
theorem biCs{o:Obj}{i0:V0}{n:Nat}(hd:K.lookup dT=Y o)(hs:o.data= .seq #[i0] n):Binds K (fnOf "change_shared" "change_shared" (qO sCs) (vW sCs) (zN sCs) (.ref dT) kV doc pm an cdv ct) ["thing","word","path","new"] []:=by
 refine λs us hK hl=>?_;rw[rM] at hl⊢;rcases us with _ |⟨a,_ |⟨b,_ |⟨c,_ |⟨d,_ |⟨e,r⟩⟩⟩⟩⟩
 case cons.cons.cons.cons.nil=>exact binds_K hK O hd hs O O
 all_goals exact absurd hl (by simp)
end
end K44
namespace K44
open PySem L2 PySem.W
def FA(K:A7)(x:Str)(st:V6)(f:V1):Prop:=A9 K A0 x=Y ↥(.ref f)/\∃oc od kV dc pm an cd ct sl,K.lookup f=Y {oc,od, .func (W.fnOf x x (qO st) (vW st) (zN st) .none kV dc pm an cd ct),sl}/\S0 K cd x=true/\A8 K (.ref f)=true
theorem FA.out{K:A7}{h:V5}{mg:Str->Option V0}{x:Str}{st:V6}{f:V1}(a:FA K x st f)(X:K.In h)(G:h.Ns A0 mg):mg x=Y (.ref f)/\(∃fd,Fun K x x st f fd)/\A8 K (.ref f)=true:=by
 obtain⟨a,oc,od,kV,dc,pm,an,cd,ct,sl,l,c,k⟩:=a;exact nAA (tQ X G a) {_,zVe l c k} k
theorem gP{P:V3}{w:V4}{K:A7}{mg:Str->Option V0}{base:V5}{k j:Nat}{x:Str}{ps:List Str}{sp:Sp}(h:Dn P w K mg base k x ps sp)(l:k<=j):Dn P w K mg base j x ps sp:=by
 obtain⟨_,_,z,b,p,m⟩:=h;exact{_,_,FnOk.mono z l,b,p,m}
theorem dn_mk{P:V3}{w:V4}{K:A7}{mg:Str->Option V0}{base:V5}{k:Nat}{x:Str}{ps:List Str}{sp:Sp}{f:V1}{fd:V7}(m:mg x=Y (.ref f))(p:A8 K (.ref f)=true)(o:FnOk P w K mg base CX0 k f fd ps sp)(b:Binds K fd ps []):Dn P w K mg base k x ps sp:=⟨_,_,o,b,p,m⟩
theorem all_mk{l:W.OpenLaw}{w:V4}{K:A7}{h:V5}{mg:Str->Option V0}{fa f0 f1 f2 f3 f4 f5 f6 f7 f8 f9 f10 f11 f12 f13 f14 f15 f16 f17 f18 f19 f20 f21 f22 f23 f24 f25 f26 f27 f28 f29 f30 f31 f32 f33 f34 f35 f36 f37 f38 f39 f40 f41 f42 f43 f44 f45 f46 f47 f48 f49 f50 f51 f52 f53 f54 f55 f56 f57 f58 f59 f60 f61 f62:V1}(X:K.In h)(G:h.Ns A0 mg)(hfa:mg "law" =Y (.ref fa))
  {od62 an62:Option V1} {sl62:Array (Option V0)} {oc62 kV62 dc62 pm62 cd62 ct62:V0}
  {u0:Tok}
  {u1:Tok}
  {v0:Tok}
  {v1:Tok}
  {v2:Tok}
  {v3:Tok}
  {v4:Tok}
  {v5:Tok}
  {v6:Tok}
  {v7:Tok}
  {hF hD:V1} {hoc hkV hdc hpm hcd hct htc:V0} {hod han hto:Option V1} {hsl hts:Array (Option V0)} {htn:Nat}
  (a0:FA K "kind_of" zJr f0)
  (a1:FA K "is_name" zJm f1)
  (a2:FA K "is_text_sign" yEl f2)
  (a3:FA K "is_thing" sTh f3)
  (a4:FA K "is_sound_outside" yEt f4)
  (a5:FA K "holds_parts" sHp f5)
  (a6:FA K "parts_of" sPo f6)
  (a7:FA K "parts_of_all" sPz f7)
  (a8:FA K "alike" zSv f8)
  (a9:FA K "alike_rows" zQa f9)
  (a10:FA K "alike_records" zPv f10)
  (a11:FA K "copied" sCp f11)
  (a12:FA K "difference" sDf f12)
  (a13:FA K "deeds_between" sDb f13)
  (a14:FA K "deeds_between_records" sDc f14)
  (a15:FA K "deeds_between_rows" sDr f15)
  (a16:FA K "alike_ahead" sAh f16)
  (a17:FA K "is_path" zJv f17)
  (a18:FA K "is_place" zNx f18)
  (a19:FA K "leads_on" sLo f19)
  (a20:FA K "sound" yFg f20)
  (a21:FA K "whole_changed" sWc f21)
  (a22:FA K "stops_to_last" sSl f22)
  (a23:FA K "leads_within" sLw f23)
  (a24:FA K "can_change" sCc f24)
  (a25:FA K "part_changed" zUg f25)
  (a26:FA K "record_changed" yCq f26)
  (a27:FA K "row_changed" yCj f27)
  (a28:FA K "is_paper" zVl f28)
  (a29:FA K "is_deed" zSz f29)
  (a30:FA K "done" zTh f30)
  (a31:FA K "stands_of" sSo f31)
  (a32:FA K "after_deed" sAd f32)
  (a33:FA K "_law_cell" zWt f33)
  (a34:FA K "_law_name_by" zVy f34)
  (a35:FA K "_law_signs" zOf f35)
  (a36:FA K "_law_text_by" zTw f36)
  (a37:FA K "_law_number_by" yEr f37)
  (a38:FA K "_law_thing_by" zFs f38)
  (a39:FA K "_law_kind" zVd f39)
  (a40:FA K "_law_rows_compare" zOv f40)
  (a41:FA K "_law_compare" zUo f41)
  (a42:FA K "_law_same" zWm f42)
  (a43:FA K "_law_inner" zNu f43)
  (a44:FA K "_law_depth" zFf f44)
  (a45:FA K "_law_size" zLg f45)
  (a46:FA K "_law_narrow" zCh f46)
  (a47:FA K "_law_good" zNp f47)
  (a48:FA K "_law_held" sCo f48)
  (a49:FA K "_law_put_in" sPi f49)
  (a50:FA K "_law_deed_on" sDo f50)
  (a51:FA K "_law_base" sBa f51)
  (a52:FA K "_law_walk" sWk f52)
  (a53:FA K "_law_step_at" sSa f53)
  (a54:FA K "_law_deed" sDe f54)
  (a55:FA K "_law_deeds" sDs f55)
  (a56:FA K "_law_rows_of" sRo f56)
  (a57:FA K "_law_leaf_other" zSu f57)
  (a58:FA K "_law_varied" zTz f58)
  (a59:FA K "_law_paper_copy" sPc f59)
  (a60:FA K "_law_own_marks" sMk f60)
  (a61:FA K "_law_pair" sPr f61)
  (a62:A9 K A0 "law" =Y ↥(.ref f62))
  (l62:K.lookup f62=Y {oc62,od62, .func (W.fnOf "law" "law" (qO zJf) (vW zJf) (zN zJf) .none kV62 dc62 pm62 an62 cd62 ct62),sl62})
  (c62:S0 K cd62 "law" =true)
  (k62:A8 K (.ref f62)=true)
  (z0:A9 K A0 "len" =Y none)
  (z1:A9 K A0 "range" =Y none)
  (z2:A9 K A0 "isinstance" =Y none)
  (z3:A9 K A0 "all" =Y none)
  (z4:A9 K A0 "sum" =Y none)
  (z5:A9 K A0 "int" =Y none)
  (z6:A9 K A0 "str" =Y none)
  (z7:A9 K A0 "bool" =Y none)
  (z8:A9 K A0 "list" =Y none)
  (z9:A9 K A0 "dict" =Y none)
  (z10:A9 K A0 "tuple" =Y none)
  (y0:A9 K A0 "max" =Y none)
  (y1:A9 K A0 "min" =Y none)
  (y2:A9 K A0 "sorted" =Y none)
  (r0:A9 K A0 "enumerate" =Y none)
  (q0:A9 K A0 "abs" =Y none)
  (q1:A9 K A0 "ord" =Y none)
  (zz0:A9 K A0 "zip" =Y none)
  (s0:A9 K A0 "LETTERS" =Y ↥(.str (A6 "abcdefghijklmnopqrstuvwxyz") u0))
  (s1:A9 K A0 "NAME_SIGNS" =Y ↥(.str (A6 "abcdefghijklmnopqrstuvwxyz0123456789") u1))
  (n0:A9 K A0 "MOST_IN_NAME" =Y ↥(.int 12 v0))
  (n1:A9 K A0 "MOST_IN_TEXT" =Y ↥(.int 30 v1))
  (n2:A9 K A0 "MOST_IN_ROW" =Y ↥(.int 60 v2))
  (n3:A9 K A0 "MOST_IN_RECORD" =Y ↥(.int 30 v3))
  (n4:A9 K A0 "MOST_DEPTH" =Y ↥(.int 8 v4))
  (n5:A9 K A0 "MOST_SIZE" =Y ↥(.int 200 v5))
  (n6:A9 K A0 "MOST_STEPS" =Y ↥(.int 8 v6))
  (n7:A9 K A0 "MOST_DEEDS" =Y ↥(.int 400 v7))
  (ha:A9 K A0 "change_shared" =Y ↥(.ref hF))
  (hs:K.lookup hF=Y {hoc,hod, .func (W.fnOf "change_shared" "change_shared" (qO sCs) (vW sCs) (zN sCs) (.ref hD) hkV hdc hpm han hcd hct),hsl})
  (ht:S0 K hcd "change_shared" =true)
  (hk:A8 K (.ref hF)=true)
  (hu:K.lookup hD=Y {htc,hto, .seq #[.none] htn,hts}):
  ∃fd:V7,(∀(s:V2)(v:V0),BindsTo s fd {[v],[]} [("_law_script",v)])/\∀base:V5,K.In base->base.Ns A0 mg->FnOk l.prog w K mg base CX0 107 fa fd ["_law_script"] (zOn K):=by
 let e:=hfa.symm.trans (tQ X G a62);cases e;let F0:=(a0.out X G).2.1.choose_spec;let F1:=(a1.out X G).2.1.choose_spec;let F2:=(a2.out X G).2.1.choose_spec;let F3:=(a3.out X G).2.1.choose_spec;let F4:=(a4.out X G).2.1.choose_spec;let F5:=(a5.out X G).2.1.choose_spec;let F6:=(a6.out X G).2.1.choose_spec;let F7:=(a7.out X G).2.1.choose_spec;let F8:=(a8.out X G).2.1.choose_spec;let F9:=(a9.out X G).2.1.choose_spec;let F10:=(a10.out X G).2.1.choose_spec;let F11:=(a11.out X G).2.1.choose_spec;let F12:=(a12.out X G).2.1.choose_spec;let F13:=(a13.out X G).2.1.choose_spec;let F14:=(a14.out X G).2.1.choose_spec;let F15:=(a15.out X G).2.1.choose_spec;let F16:=(a16.out X G).2.1.choose_spec;let F17:=(a17.out X G).2.1.choose_spec;let F18:=(a18.out X G).2.1.choose_spec;let F19:=(a19.out X G).2.1.choose_spec;let F20:=(a20.out X G).2.1.choose_spec;let F21:=(a21.out X G).2.1.choose_spec;let F22:=(a22.out X G).2.1.choose_spec;let F23:=(a23.out X G).2.1.choose_spec;let F24:=(a24.out X G).2.1.choose_spec;let F25:=(a25.out X G).2.1.choose_spec;let F26:=(a26.out X G).2.1.choose_spec;let F27:=(a27.out X G).2.1.choose_spec;let F28:=(a28.out X G).2.1.choose_spec;let F29:=(a29.out X G).2.1.choose_spec;let F30:=(a30.out X G).2.1.choose_spec;let F31:=(a31.out X G).2.1.choose_spec;let F32:=(a32.out X G).2.1.choose_spec;let F33:=(a33.out X G).2.1.choose_spec;let F34:=(a34.out X G).2.1.choose_spec;let F35:=(a35.out X G).2.1.choose_spec;let F36:=(a36.out X G).2.1.choose_spec;let F37:=(a37.out X G).2.1.choose_spec;let F38:=(a38.out X G).2.1.choose_spec;let F39:=(a39.out X G).2.1.choose_spec;let F40:=(a40.out X G).2.1.choose_spec;let F41:=(a41.out X G).2.1.choose_spec;let F42:=(a42.out X G).2.1.choose_spec;let F43:=(a43.out X G).2.1.choose_spec;let F44:=(a44.out X G).2.1.choose_spec;let F45:=(a45.out X G).2.1.choose_spec;let F46:=(a46.out X G).2.1.choose_spec;let F47:=(a47.out X G).2.1.choose_spec;let F48:=(a48.out X G).2.1.choose_spec;let F49:=(a49.out X G).2.1.choose_spec;let F50:=(a50.out X G).2.1.choose_spec;let F51:=(a51.out X G).2.1.choose_spec;let F52:=(a52.out X G).2.1.choose_spec;let F53:=(a53.out X G).2.1.choose_spec;let F54:=(a54.out X G).2.1.choose_spec;let F55:=(a55.out X G).2.1.choose_spec;let F56:=(a56.out X G).2.1.choose_spec;let F57:=(a57.out X G).2.1.choose_spec;let F58:=(a58.out X G).2.1.choose_spec;let F59:=(a59.out X G).2.1.choose_spec;let F60:=(a60.out X G).2.1.choose_spec;let F61:=(a61.out X G).2.1.choose_spec;let Flaw:=zVe (st:=zJf) l62 c62 k62;let B:Bl mg:={pX X G z0,pX X G z1,pX X G z2,pX X G z3,pX X G z4,pX X G z5,pX X G z6,pX X G z7,pX X G z8,pX X G z9,pX X G z10};let B2:Bl2 mg:={B,pX X G y0,pX X G y1,pX X G y2};let B4:Bl4 mg:={B2,pX X G r0};let B5:Bl5 mg:={B2,pX X G q0,pX X G q1};let B6:Bl6 mg:={B2,pX X G zz0};let M:Ms mg:={{_,tQ X G s0},{_,tQ X G s1},{_,tQ X G n0},{_,tQ X G n1},{_,tQ X G n2},{_,tQ X G n3},{_,tQ X G n4},{_,tQ X G n5},{_,tQ X G n6},{_,tQ X G n7}};refine nEA (W.fnOf "law" "law" (qO zJf) (vW zJf) (zN zJf) .none kV62 dc62 pm62 an62 cd62 ct62) (λs v=>.of_eq O) (λbase _ _=>?_);let D {k x ps sp f fd}:=@dn_mk l.prog w K mg base k x ps sp f fd;let Gcell:=D (a33.out X G).1 (a33.out X G).2.2 (zYl F33 B) (F33.binds (by walk_at "b2"));let Gnum:=D (a37.out X G).1 (a37.out X G).2.2 (yDl F37) (F37.binds (by walk_at "b1"));let Gname:=D (a34.out X G).1 (a34.out X G).2.2 (zYu F34 B) (F34.binds (by walk_at "b1"));let Gsigns:=D (a35.out X G).1 (a35.out X G).2.2 (zUm F35) (F35.binds (by walk_at "b0"));let Gtext:=D (a36.out X G).1 (a36.out X G).2.2 (zYt F36 B Gsigns) (F36.binds (by walk_at "b1"));let Gthing:=D (a38.out X G).1 (a38.out X G).2.2 (zSl (n:=3) (zHw F38 B Gcell Gnum Gtext Gname (F38.binds (by walk_at "b3")) (a38.out X G).2.2 (a38.out X G).1)) (F38.binds (by walk_at "b3"));let Gco:=D (a48.out X G).1 (a48.out X G).2.2 (zXd F48 B (F48.binds (by walk_at "b1")) (a48.out X G).2.2 (a48.out X G).1 20) (F48.binds (by walk_at "b1"));let Gkind:=D (a39.out X G).1 (a39.out X G).2.2 (zYr F39 B) (F39.binds (by walk_at "b1"));let Gcmp:=D (a41.out X G).1 (a41.out X G).2.2 (zOx F41 F40 B2 Gkind (F41.binds (by walk_at "b2")) (a41.out X G).2.2 (a41.out X G).1 (F40.binds (by walk_at "b2")) (a40.out X G).2.2 (a40.out X G).1 40) (F41.binds (by walk_at "b2"));let Gsame:=D (a42.out X G).1 (a42.out X G).2.2 (zYk F42 B2 Gkind Gcmp) (F42.binds (by walk_at "b2"));let Gleaf:=D (a57.out X G).1 (a57.out X G).2.2 (zZn F57 B) (F57.binds (by walk_at "b2"));let Gvar:=D (a58.out X G).1 (a58.out X G).2.2 (zPd F58 B2 Gleaf Gco (F58.binds (by walk_at "b3")) (a58.out X G).2.2 (a58.out X G).1 20) (F58.binds (by walk_at "b3"));let Gkr:=D (a0.out X G).1 (a0.out X G).2.2 (zFr F0 B) (F0.binds (by walk_at "b1"));let Galk:=D (a8.out X G).1 (a8.out X G).2.2 (zPa F8 F9 F10 B4 Gkr (F8.binds (by walk_at "b2")) (a8.out X G).2.2 (a8.out X G).1 (F9.binds (by walk_at "b2")) (a9.out X G).2.2 (a9.out X G).1 (F10.binds (by walk_at "b2")) (a10.out X G).2.2 (a10.out X G).1 20) (F8.binds (by walk_at "b2"));let Gcp:=D (a11.out X G).1 (a11.out X G).2.2 (zVv F11 B (F11.binds (by walk_at "b1")) (a11.out X G).2.2 (a11.out X G).1 20) (F11.binds (by walk_at "b1"));let Gah:=D (a16.out X G).1 (a16.out X G).2.2 (ok_ah F16 B6 Galk) (F16.binds (by walk_at "b2"));let Ga:=λk (hk:43<=k)=>gP Galk (nS ∎ hk);let Gh:=λk (hk:43<=k)=>gP Gah (nS ∎ hk);let Gc:=λk (hk:43<=k)=>gP Gcp (nS ∎ hk);let Gdb:=D (a13.out X G).1 (a13.out X G).2.2 (zUn F13 F15 F14 B6 Ga Gh Gc (F13.binds (by walk_at "b3")) (a13.out X G).2.2 (a13.out X G).1 (F15.binds (by walk_at "b3")) (a15.out X G).2.2 (a15.out X G).1 (F14.binds (by walk_at "b3")) (a14.out X G).2.2 (a14.out X G).1 20) (F13.binds (by walk_at "b3"));let Gdf:=D (a12.out X G).1 (a12.out X G).2.2 (FnOk.mono (ok_df F12 Gdb) (show 43+2+2*20+1<=106 by decide)) (F12.binds (by walk_at "b2"));let Gnr:=D (a43.out X G).1 (a43.out X G).2.2 (zSx F43 B) (F43.binds (by walk_at "b1"));let Gdp:=D (a44.out X G).1 (a44.out X G).2.2 (zHy F44 B2 Gnr (F44.binds (by walk_at "b1")) (a44.out X G).2.2 (a44.out X G).1 20) (F44.binds (by walk_at "b1"));let Gsz:=D (a45.out X G).1 (a45.out X G).2.2 (zLf F45 B Gnr (F45.binds (by walk_at "b1")) (a45.out X G).2.2 (a45.out X G).1 20) (F45.binds (by walk_at "b1"));let Gnw:=D (a46.out X G).1 (a46.out X G).2.2 (zGh F46 B Gnr (F46.binds (by walk_at "b1")) (a46.out X G).2.2 (a46.out X G).1 20) (F46.binds (by walk_at "b1"));let Ggd:=D (a47.out X G).1 (a47.out X G).2.2 (FnOk.mono (zWf F47 B Gnw Gdp Gsz) (show 23<=41 by decide)) (F47.binds (by walk_at "b1"));let Gsa:=D (a53.out X G).1 (a53.out X G).2.2 (FnOk.mono (ok_sa F53 B2 Gname) (show 2<=6 by decide)) (F53.binds (by walk_at "b2"));let Gwk:=D (a52.out X G).1 (a52.out X G).2.2 (FnOk.mono (ok_wk F52 B2 Gcell) (show 2<=6 by decide)) (F52.binds (by walk_at "b3"));let Gcell6:=gP Gcell (show _<=6 by decide);let Gde:=D (a54.out X G).1 (a54.out X G).2.2 (FnOk.mono (ok_de F54 B2 Gcell6 Gwk Gsa Gthing) (show 7<=23 by decide)) (F54.binds (by walk_at "b3"));let Gpi:=D (a49.out X G).1 (a49.out X G).2.2 (FnOk.mono (ok_pi F49 B Gco) (show 1+20+1<=22 by decide)) (F49.binds (by walk_at "b4"));let Gco22:=gP Gco (show _<=22 by decide);let Gdo:=D (a50.out X G).1 (a50.out X G).2.2 (ok_do F50 B Gco22 Gpi) (F50.binds (by walk_at "b2"));let Gco23:=gP Gco (show _<=23 by decide);let Gds:=D (a55.out X G).1 (a55.out X G).2.2 (FnOk.mono (ok_ds F55 B2 Gco23 Gde Gdo) (show 24<=41 by decide)) (F55.binds (by walk_at "b4"));let Gba:=D (a51.out X G).1 (a51.out X G).2.2 (FnOk.mono (ok_ba F51 B2 Gcell6 Gthing) (show 7<=41 by decide)) (F51.binds (by walk_at "b2"));let Gcell41:=gP Gcell (show _<=41 by decide);let Gco41:=gP Gco (show _<=41 by decide);let Gname41:=gP Gname (show _<=41 by decide);let Gpr:=D (a61.out X G).1 (a61.out X G).2.2 (FnOk.mono (ok_pr F61 B2 Gcell41 Gba Gco41 Gname41 Gvar Gds Ggd) (show 42<=106 by decide)) (F61.binds (by walk_at "b1"));let GkT:=D (a0.out X G).1 (a0.out X G).2.2 (yCz (zFr F0 B)) (F0.binds (by walk_at "b1"));let Gplace:=D (a18.out X G).1 (a18.out X G).2.2 (zUb F18 B M GkT) (F18.binds (by walk_at "b1"));let Glo:=D (a19.out X G).1 (a19.out X G).2.2 (ok_lo F19 B) (F19.binds (by walk_at "b2"));let Glw:=D (a23.out X G).1 (a23.out X G).2.2 (ok_lw F23 B Glo Gplace) (F23.binds (by walk_at "b2"));let Gcc:=D (a24.out X G).1 (a24.out X G).2.2 (ok_cc F24 B Glw Gplace) (F24.binds (by walk_at "b3"));let Grec:=D (a26.out X G).1 (a26.out X G).2.2 (yEf F26 B) (F26.binds (by walk_at "b4"));let Grow:=D (a27.out X G).1 (a27.out X G).2.2 (yCi F27 B) (F27.binds (by walk_at "b4"));let Gpart:=D (a25.out X G).1 (a25.out X G).2.2 (zZc F25 B Grec Grow) (F25.binds (by walk_at "b4"));let Gwc:=D (a21.out X G).1 (a21.out X G).2.2 (FnOk.mono (ok_wc F21 B) (show 1<=4 by decide)) (F21.binds (by walk_at "b2"));let Gsl:=D (a22.out X G).1 (a22.out X G).2.2 (ok_sl F22 B Glw) (F22.binds (by walk_at "b2"));let FCs:FunD K "change_shared" "change_shared" sCs hF (W.fnOf "change_shared" "change_shared" (qO sCs) (vW sCs) (zN sCs) (.ref hD) hkV hdc hpm han hcd hct):={{hoc,hod, .ref hD,hkV,hdc,hpm,han,hcd,hct,hsl,O,hs,ht}};let mCs:=tQ X G ha;let Gcs:Dn l.prog w K mg base 5 "change_shared" ["thing","word","path","new"] yDa:={_,_,ok_cs FCs B Gwc Gsl Gcc Gpart,biCs hu O,hk,mCs};let Gad:=D (a32.out X G).1 (a32.out X G).2.2 (ok_ad F32 B Gcs) (F32.binds (by walk_at "b3"));let Gin:=D (a1.out X G).1 (a1.out X G).2.2 (zOg F1 B M) (F1.binds (by walk_at "b1"));let Gsg:=D (a2.out X G).1 (a2.out X G).2.2 (yDm F2 B5) (F2.binds (by walk_at "b1"));let Gsnd:=D (a4.out X G).1 (a4.out X G).2.2 (yEd F4 B5 M Gkr Gsg Gin) (F4.binds (by walk_at "b1"));let Ghp:=D (a5.out X G).1 (a5.out X G).2.2 (ok_hp F5 B) (F5.binds (by walk_at "b1"));let Gpo:=D (a6.out X G).1 (a6.out X G).2.2 (ok_po F6 B) (F6.binds (by walk_at "b1"));let Gpz:=D (a7.out X G).1 (a7.out X G).2.2 (yEm F7 B Gpo) (F7.binds (by walk_at "b1"));let Gth:=D (a3.out X G).1 (a3.out X G).2.2 (ok_th F3 B M Gsnd Ghp Gpz) (F3.binds (by walk_at "b1"));let Gsou:=D (a20.out X G).1 (a20.out X G).2.2 (FnOk.mono (yDo F20 Gth) (show 4<=6 by decide)) (F20.binds (by walk_at "b1"));let Gso:=D (a31.out X G).1 (a31.out X G).2.2 (FnOk.mono (ok_so F31 B4 Gad Gsou) (show 7<=25 by decide)) (F31.binds (by walk_at "b2"));let Gcp25:=gP Gcp (show _<=25 by decide);let Gdone:=D (a30.out X G).1 (a30.out X G).2.2 (FnOk.mono (zZe F30 Gso Gcp25) (show 26<=106 by decide)) (F30.binds (by walk_at "b2"));let Gip:=D (a17.out X G).1 (a17.out X G).2.2 (zOd F17 B M Gin Gplace) (F17.binds (by walk_at "b1"));let Gid:=D (a29.out X G).1 (a29.out X G).2.2 (yAn F29 B Gip Gth) (F29.binds (by walk_at "b1"));let Gpap:=D (a28.out X G).1 (a28.out X G).2.2 (FnOk.mono (zYp F28 B M Gid) (show 5<=106 by decide)) (F28.binds (by walk_at "b1"));let Gmk:=D (a60.out X G).1 (a60.out X G).2.2 (FnOk.mono (zXa F60 B2 (F60.binds (by walk_at "b2")) (a60.out X G).2.2 (a60.out X G).1 20) (show 1+20<=106 by decide)) (F60.binds (by walk_at "b2"));let Gpc:=D (a59.out X G).1 (a59.out X G).2.2 (FnOk.mono (ok_pc F59 B6 Gco) (show 1+20+1<=106 by decide)) (F59.binds (by walk_at "b1"));let Gro:=D (a56.out X G).1 (a56.out X G).2.2 (FnOk.mono (ok_ro F56 B2 Gco23 Gdo) (show 24<=106 by decide)) (F56.binds (by walk_at "b2"));let Gco106:=gP Gco (show _<=106 by decide);let Gsame106:=gP Gsame (show _<=106 by decide);let Gsz106:=gP Gsz (show _<=106 by decide);exact yCl Flaw B6 Gpr Gco106 Gdf Gpap Gsame106 Gsz106 Gpc Gmk Gro Gdone
theorem walk{l:W.OpenLaw}{q:V3}{loose:List Str}{XP:(Str->Option V0)->V5->Prop}{YP:V4->V5->Prop}{d:DefRec}{K:Params->A7}(hn:l.most=Y 63)(hdf:d.params.defaults= [])
  (hY:∀(w:V4)(h:V5),YP w h->(K w.params).In h)
  (F:∀(w:V4)(mg:Str->Option V0)(fa:V1)(h:V5),(K w.params).In h->h.Ns A0 mg->mg d.name=Y (.ref fa)->
   ∃fd:V7,(∀(s:V2)(u:V0),BindsTo s fd {[u],[]} [("_law_script",u)])/\∀base:V5,(K w.params).In base->base.Ns A0 mg->FnOk l.prog w (K w.params) mg base CX0 107 fa fd ["_law_script"] (zOn (K w.params))):
  W.WalkO q loose XP YP l.row.toRowW d [] (λf vs=>PySem.call f vs):=
 L2.zPb (n:=63) (k:=107) (x:="_law_script") (CX:=λ_=>CX0) (sp:=λw=>zOn (K w.params)) hn ∎ hdf {O,by decide,by decide} hY F (λ_ _ a ns hl _ hS=>{a,ns,O,hS,hl,λ_=>O}) λ_ _ _ _ _ z=>z
end K44
end
end
end
namespace PySem.W.Fast
def tw343579394198334208:=()
def tw6951520480399040261:=()
def tw15262933303023263360:=()
def tw10810892382391969123:=()
def tw12065861604523541419:=()
def tw17835411580881236437:=()
def tw14222147829538720977:=()
def tw2787773883956403500:=()
def tw13391067535006887251:=()
def tw15309474142925029693:=()
def tw11406593884323824880:=()
def tw17884585473226676949:=()
def tw8524746209365678831:=()
def tw12191795763036261753:=()
def tw17420857828022401760:=()
def tw10938945822542103236:=()
def tw14199475854339026531:=()
def tw18007591918191705649:=()
def tw8169354073107484019:=()
def tw12598940148533488493:=()
def tw7353079028150367173:=()
def tw5435978596549030768:=()
def tw9003370042975333646:=()
def tw591947759410268338:=()
def tw1744996751927740297:=()
def tw13961759697704539862:=()
def tw8817981620384225263:=()
def tw1919921516967851709:=()
def tw16413935828622386224:=()
def tw6961329278018669701:=()
def tw16093807306551861358:=()
def tw14373369911087466099:=()
def tw15338671604225884653:=()
def tw8004437154538492862:=()
def tw4539614067524147083:=()
def tw6712848187200549840:=()
def tw2066363654331765348:=()
def tw12546773623297901308:=()
def tw11254193446122603024:=()
def tw56645391627714443:=()
def tw8995837777574317640:=()
def tw6552165665795140480:=()
def tw11661815611597020323:=()
def tw17214994695612886705:=()
def tw12974904762208752803:=()
def tw6813697228364984457:=()
def tw8207710718624905438:=()
def tw15076147420196086867:=()
def tw11329258045625473145:=()
def tw7923080222090857811:=()
def tw4195317403430968317:=()
def tw11932175956749727238:=()
def tw2944949823846452882:=()
def tw10919054148049069044:=()
def tw16198133776441506709:=()
def tw17398354443235048545:=()
def tw2102228017809302751:=()
def tw14960138618863616752:=()
def tw14408913324276427317:=()
def tw831283246548749928:=()
def tw13106644390404415338:=()
def tw9681897518043117225:=()
def tw13728197078504807352:=()
def tw11381243894191920994:=()
def tw963277914708831273:=()
def tw4418073764674606154:=()
def tw13089419003436907781:=()
def tw11957261668156101052:=()
def tw4327556335742763367:=()
def tw2422772304743364040:=()
def tw6224268151096338121:=()
def tw8373229603432808730:=()
def tw15669427104708978664:=()
def tw8860863984367487390:=()
def tw2719225821188222329:=()
def tw8700197345388732688:=()
def tw2879095378013244231:=()
def tw11587754543187053477:=()
def tw11028116169136028552:=()
def tw4524666705424742796:=()
def tw5565517191563330561:=()
def tw13838213720852265566:=()
def tw6078389393059361143:=()
def tw7584121518573613847:=()
def tw13474405732036861260:=()
def tw18370932507334788077:=()
def tw3119456846600567029:=()
def tw6830209559140316803:=()
def tw9669487468436591145:=()
def tw10116043303594408440:=()
def tw16186354725993181224:=()
def tw5424561944662892374:=()
def tw13063516387922291209:=()
def tw3881734932776724782:=()
def tw8094653527027248949:=()
def tw3542755216504396664:=()
def tw1337082478939643593:=()
def tw454747134104734923:=()
def tw10868266151748874969:=()
def tw6513284317302055665:=()
def tw16477978710191654277:=()
def tw7456104192516167111:=()
def tw1207931229400312745:=()
def tw17022851687957660990:=()
def tw13914879588655211282:=()
def tw18134387436853442800:=()
def tw2635070623610085451:=()
def tw14519483500368327990:=()
def tw8153546793962791313:=()
def tw7135695028806597905:=()
def tw3296558697078078677:=()
def tw11386993359023819661:=()
def tw11826278041998720149:=()
def tw9082910426007814432:=()
def tw3279770045829965328:=()
def tw2512051316957908027:=()
def tw14848709950710978590:=()
def tw5943151107734221784:=()
def tw12587760582645111376:=()
def tw17759636336129837680:=()
def tw7606378605878856556:=()
def tw7330428556402032639:=()
def tw11190452786978051336:=()
def tw3566562379458923632:=()
def tw3073814541400549777:=()
def tw14435318784162337027:=()
def tw1108082110872838272:=()
def tw15768586588284823897:=()
def tw14161013882726513061:=()
def tw13180163303473384311:=()
def tw700431526329424774:=()
def tw8849425711509177266:=()
def tw9299608615580808697:=()
def tw10990713690055150384:=()
def tw13706147874926160962:=()
def tw4292947916186937572:=()
def tw5342766900929149222:=()
def tw13183117246639684645:=()
def tw15824728096693575172:=()
def tw8312637053743313466:=()
def tw15433995290689284611:=()
def tw14871159368043648450:=()
def tw5043528498451127300:=()
def tw8847031689176783471:=()
def tw13237142675739781825:=()
def tw13651296377045162532:=()
def tw14368596074500924313:=()
def tw6660681090930308003:=()
def tw12001897697239513977:=()
def tw14380038529764072697:=()
def tw2143177392289494216:=()
def tw18029560939547303963:=()
def tw8760416240170627609:=()
def tw5562256280695939084:=()
def tw17029916001582005500:=()
def tw6971510609725916049:=()
def tw16044306722580218489:=()
def tw1977548103941732560:=()
def tw10124321721890742498:=()
def tw12107489417344283330:=()
def tw17581562707056756857:=()
def tw11568206617061046637:=()
def tw1742236013946524867:=()
def tw7362448489562397582:=()
def tw9954025307814207765:=()
def tw7710837527536954179:=()
def tw15343423477745769536:=()
def tw3643572523095730317:=()
def tw11866700790867341492:=()
def tw1990485453439701027:=()
def tw2460957780662095922:=()
def tw2464785828712027405:=()
def tw12501493672175203893:=()
def tw1127416365579208719:=()
def tw11351698879750403271:=()
def tw4383921790023647223:=()
def tw17468294754890797157:=()
def tw14073860752317796705:=()
def tw9898277439439887942:=()
def tw15717122172025790934:=()
def tw14811421194167615956:=()
def tw6102839256156206315:=()
def tw14490466632668404981:=()
def tw13842306883400232326:=()
def tw882093719051931457:=()
def tw3652915571709074286:=()
def tw11845888542604502916:=()
def tw8199705985650306373:=()
def tw14414440514426794255:=()
def tw14866177941529422296:=()
def tw18060957848971222500:=()
def tw4238770841813478643:=()
def tw18035273561196408999:=()
def tw13144937334931478496:=()
def tw8950015163497572381:=()
def tw14970926564215275608:=()
def tw13529460036146978155:=()
def tw17648159742996949788:=()
def tw7380049420434807329:=()
def tw16810072658883684933:=()
def tw12555772067549293741:=()
def tw6515119720548404808:=()
def tw14370888030107802655:=()
def tw3939893783966662122:=()
def tw4475434754073639620:=()
def tw921603076566932638:=()
def tw18191925742800972250:=()
def tw8027968835361667916:=()
def tw2602629462382960184:=()
def tw7669806203976935083:=()
def tw8014988788390925428:=()
def tw2282095750350043781:=()
def tw4595765298047806293:=()
def tw17338570178194336195:=()
def tw10806739929480567569:=()
def tw2302596342092513554:=()
def tw12464189958306877695:=()
def tw3672610165201108520:=()
def tw8803232359831305125:=()
def tw4431255139557423504:=()
def tw18151693866339741971:=()
def tw9747075014909673042:=()
def tw13888911531372567681:=()
def tw10805777478879674066:=()
def tw11759709467540584703:=()
def tw18339813884276433315:=()
def tw15512253071122975075:=()
def tw11520532318447869197:=()
def tw5478705334739004074:=()
def tw17274191392856041919:=()
def tw3956860495033252745:=()
def tw17435631748008992232:=()
def tw6087906710597171728:=()
def tw4114867722216237870:=()
def tw5640839144771391041:=()
def tw13486282463268724614:=()
def tw10731844389204774840:=()
def tw1299823940242652889:=()
def tw16805717579528727527:=()
def tw7491167454527183383:=()
def tw11597401395401002644:=()
def tw14478386414977537864:=()
def tw10802410685863295666:=()
def tw11872098923182327496:=()
def tw12276468490733011833:=()
def tw12588450938295213494:=()
def tw13029508305316671246:=()
def tw15656951881610021417:=()
def tw10029883059129995198:=()
def tw11864854141526448258:=()
def tw7648281256861641859:=()
def tw7897834336737646359:=()
def tw18399695270947056413:=()
def tw5548786359092806387:=()
def tw15540133406404230457:=()
def tw14014902944071256261:=()
def tw15297202822736566837:=()
def tw6060640903743322218:=()
def tw17186604022665703054:=()
def tw9362581990696851823:=()
def tw10412050933563255760:=()
def tw16740921104956422866:=()
def tw7949830471386005540:=()
def tw2154473033625840022:=()
def tw12178334945666316761:=()
def tw16999640534460192101:=()
def tw6936298224171080770:=()
end PySem.W.Fast
open PySem PySem.W PyProof.Rows
set_option maxRecDepth 100000 in
set_option maxHeartbeats 0 in
theorem PySem.Challenge.cw_cabinet_k44_differences_holds : PySem.Challenge.rw_cabinet_k44_differences.Holds := by
  w_on;o_law;k_head;(case hw=>w_witness2)
  k_fill
  refine K44.walk (l:=PySem.Challenge.rw_cabinet_k44_differences) rfl rfl (fun w h Y=>PySem.W.kIn_of Y) ?F
  case F=>
    intro w mg fa h KX G hmg;refine' K44.all_mk KX G hmg ?a0 ?a1 ?a2 ?a3 ?a4 ?a5 ?a6 ?a7 ?a8 ?a9 ?a10 ?a11 ?a12 ?a13 ?a14 ?a15 ?a16 ?a17 ?a18 ?a19 ?a20 ?a21 ?a22 ?a23 ?a24 ?a25 ?a26 ?a27 ?a28 ?a29 ?a30 ?a31 ?a32 ?a33 ?a34 ?a35 ?a36 ?a37 ?a38 ?a39 ?a40 ?a41 ?a42 ?a43 ?a44 ?a45 ?a46 ?a47 ?a48 ?a49 ?a50 ?a51 ?a52 ?a53 ?a54 ?a55 ?a56 ?a57 ?a58 ?a59 ?a60 ?a61 ?a62 ?l62 ?c62 ?k62 ?z0 ?z1 ?z2 ?z3 ?z4 ?z5 ?z6 ?z7 ?z8 ?z9 ?z10 ?y0 ?y1 ?y2 ?r0 ?q0 ?q1 ?zz0 ?s0 ?s1 ?n0 ?n1 ?n2 ?n3 ?n4 ?n5 ?n6 ?n7 ?ha ?hs ?ht ?hk ?hu
    case a0 | a1 | a2 | a3 | a4 | a5 | a6 | a7 | a8 | a9 | a10 | a11 | a12 | a13 | a14 | a15 | a16 | a17 | a18 | a19 | a20 | a21 | a22 | a23 | a24 | a25 | a26 | a27 | a28 | a29 | a30 | a31 | a32 | a33 | a34 | a35 | a36 | a37 | a38 | a39 | a40 | a41 | a42 | a43 | a44 | a45 | a46 | a47 | a48 | a49 | a50 | a51 | a52 | a53 | a54 | a55 | a56 | a57 | a58 | a59 | a60 | a61=>exact⟨by k_is,_,_,_,_,_,_,_,_,_,by k_is,by k_is,by k_is⟩
    case a62 | l62 | c62 | k62 | z0 | z1 | z2 | z3 | z4 | z5 | z6 | z7 | z8 | z9 | z10 | y0 | y1 | y2 | r0 | q0 | q1 | zz0 | s0 | s1 | n0 | n1 | n2 | n3 | n4 | n5 | n6 | n7 | ha | hs | ht | hk | hu=>k_is
