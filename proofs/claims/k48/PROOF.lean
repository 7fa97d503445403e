import PyProof.Rows.All
import Wide.All
import OpenK.AllK
import Wide.FinOn
import Lean
import PyProof.EqAt
import PyProof.EqKinds
import PyProof.TupleCall
import PyProof.StrReplace2
import PyProof.DictItems
import PyProof.EnumStmt
import PyProof.EnumFor
import PyProof.DictItemsLoops
import PyProof.ZipIter
import PyProof.IsRules
import PyProof.Rows.SortRev
import KE.KIntText
import OpenK.KRaise
import KE.TryInHelper
import PyProof.RulesRaise
import PyProof.Rows.RaiseClass
import PyProof.RaisesMany
import PyProof.ExcClass3
import PyProof.ExcBaseAll.ValueError
import KE.KTryMore
import PyProof.InstStoreFacts
import OpenK.KMake
import PyProof.ExcAttrAll.ValueError
import KE.KIsAll
import OpenK.KWalk
import OpenK.KDescr
import PyProof.PureStr
import PyProof.ExcStr
import PyProof.CallStr
import KE.KCallOwn
import KE.KSortTup
import PyProof.Rows.StrCut
import PyProof.StrBlock
import KE.IntTextLaws
import PyProof.DictValues
import PyProof.DictWalks
import PyProof.Rows.Range3
import KE.KDictOf
import KE.KRevIter
import KE.KDictList
import PyProof.EqAt
import PySem.Challenge.RW_cabinet_k48_whole_there_and_back
set_option compiler.extract_closed false
set_option Elab.async false
set_option linter.all false
set_option maxRecDepth 100000
set_option maxHeartbeats 4000000
section
variable{t1 t2 t3 t4 t5:Type}{G:Prop}{p00 p01 p02 p03 p04 p05:Prop}{p11 p12 p13 p14 p15:t1→Prop}{p22 p23 p24 p25:t1→t2→Prop}{p33 p34 p35:t1→t2→t3→Prop}{p44 p45:t1→t2→t3→t4→Prop}{p55:t1→t2→t3→t4→t5→Prop}
theorem oA(h:p00∧p01)(k:p00→p01→G):G:=by obtain⟨a,b⟩:=h;exact k a b
theorem oAA(h:p00∧p01∧p02)(k:p00→p01→p02→G):G:=by obtain⟨a,b,c⟩:=h;exact k a b c
theorem yZ(h:p00∧p01∧p02∧p03)(k:p00→p01→p02→p03→G):G:=by obtain⟨a,b,c,d⟩:=h;exact k a b c d
theorem wY(h:p00∧p01∧p02∧p03∧p04)(k:p00→p01→p02→p03→p04→G):G:=by obtain⟨a,b,c,d,e⟩:=h;exact k a b c d e
theorem zS(h:p00∧p01∧p02∧p03∧p04∧p05)(k:p00→p01→p02→p03→p04→p05→G):G:=by obtain⟨a,b,c,d,e,f⟩:=h;exact k a b c d e f
theorem yGv(h:p00∧p01∧p02∧p03∧(∃e,p15 e))(k:p00→p01→p02→p03→∀e,p15 e→G):G:=by obtain⟨a,b,c,d,e,f⟩:=h;exact k a b c d e f
theorem yDl(h:p00∧p01∧(∃c,p13 c∧p14 c))(k:p00→p01→∀c,p13 c→p14 c→G):G:=by obtain⟨a,b,c,d,e⟩:=h;exact k a b c d e
theorem oE(h:∃a,p11 a)(k:∀a,p11 a→G):G:=by obtain⟨a,b⟩:=h;exact k a b
theorem oEA(h:∃a,p11 a∧p12 a)(k:∀a,p11 a→p12 a→G):G:=by obtain⟨a,b,c⟩:=h;exact k a b c
theorem xE(h:∃a,p11 a∧p12 a∧p13 a)(k:∀a,p11 a→p12 a→p13 a→G):G:=by obtain⟨a,b,c,d⟩:=h;exact k a b c d
theorem vN(h:∃a,p11 a∧p12 a∧p13 a∧p14 a)(k:∀a,p11 a→p12 a→p13 a→p14 a→G):G:=by obtain⟨a,b,c,d,e⟩:=h;exact k a b c d e
theorem wQ(h:∃a,p11 a∧p12 a∧p13 a∧p14 a∧p15 a)(k:∀a,p11 a→p12 a→p13 a→p14 a→p15 a→G):G:=by obtain⟨a,b,c,d,e,f⟩:=h;exact k a b c d e f
theorem oEE(h:∃a,∃b,p22 a b)(k:∀a,∀b,p22 a b→G):G:=by obtain⟨a,b,c⟩:=h;exact k a b c
theorem wO(h:∃a,∃b,p22 a b∧p23 a b)(k:∀a,∀b,p22 a b→p23 a b→G):G:=by obtain⟨a,b,c,d⟩:=h;exact k a b c d
theorem yO(h:∃a,∃b,p22 a b∧p23 a b∧p24 a b)(k:∀a,∀b,p22 a b→p23 a b→p24 a b→G):G:=by obtain⟨a,b,c,d,e⟩:=h;exact k a b c d e
theorem zV(h:∃a,∃b,p22 a b∧p23 a b∧p24 a b∧p25 a b)(k:∀a,∀b,p22 a b→p23 a b→p24 a b→p25 a b→G):G:=by obtain⟨a,b,c,d,e,f⟩:=h;exact k a b c d e f
theorem yEv(h:∃a,∃b,p22 a b∧(∃d,∃e,p45 a b d e))(k:∀a,∀b,p22 a b→∀d,∀e,p45 a b d e→G):G:=by obtain⟨a,b,c,d,e,f⟩:=h;exact k a b c d e f
theorem zXo(h:∃a,∃b,∃c,p33 a b c)(k:∀a,∀b,∀c,p33 a b c→G):G:=by obtain⟨a,b,c,d⟩:=h;exact k a b c d
theorem zBr(h:∃a,∃b,∃c,p33 a b c∧p34 a b c)(k:∀a,∀b,∀c,p33 a b c→p34 a b c→G):G:=by obtain⟨a,b,c,d,e⟩:=h;exact k a b c d e
theorem yB(h:∃a,∃b,∃c,p33 a b c∧p34 a b c∧p35 a b c)(k:∀a,∀b,∀c,p33 a b c→p34 a b c→p35 a b c→G):G:=by obtain⟨a,b,c,d,e,f⟩:=h;exact k a b c d e f
theorem yN(h:∃a,∃b,∃c,∃d,p44 a b c d∧p45 a b c d)(k:∀a,∀b,∀c,∀d,p44 a b c d→p45 a b c d→G):G:=by obtain⟨a,b,c,d,e,f⟩:=h;exact k a b c d e f
theorem yA(h:∃a,∃b,∃c,∃d,∃e,p55 a b c d e)(k:∀a,∀b,∀c,∀d,∀e,p55 a b c d e→G):G:=by obtain⟨a,b,c,d,e,f⟩:=h;exact k a b c d e f

theorem nA(a:p00)(b:p01):p00∧p01:=⟨a,b⟩
theorem nAA(a:p00)(b:p01)(c:p02):p00∧p01∧p02:=⟨a,b,c⟩
theorem zTz(a:p00)(b:p01)(c:p02)(d:p03):p00∧p01∧p02∧p03:=⟨a,b,c,d⟩
theorem yDe(a:p00)(b:p01)(c:p02)(d:p03)(e:p04):p00∧p01∧p02∧p03∧p04:=⟨a,b,c,d,e⟩
theorem nAAEA(a:p00)(b:p01)(c:t1)(d:p13 c)(e:p14 c):p00∧p01∧(∃c,p13 c∧p14 c):=⟨a,b,c,d,e⟩
theorem zOb(a:p00)(b:t1)(c:p12 b)(d:p13 b):p00∧(∃b,p12 b∧p13 b):=⟨a,b,c,d⟩
theorem nAEAA(a:p00)(b:t1)(c:p12 b)(d:p13 b)(e:p14 b):p00∧(∃b,p12 b∧p13 b∧p14 b):=⟨a,b,c,d,e⟩
theorem zKp(a:p00)(b:t1)(c:p12 b)(d:p13 b)(e:p14 b)(f:p15 b):p00∧(∃b,p12 b∧p13 b∧p14 b∧p15 b):=⟨a,b,c,d,e,f⟩
theorem zKr(a:p00)(b:t1)(c:p12 b)(d:t2)(e:p24 b d)(f:p25 b d):p00∧(∃b,p12 b∧(∃d,p24 b d∧p25 b d)):=⟨a,b,c,d,e,f⟩
theorem zXf(a:p00)(b:t1)(c:t2)(d:p23 b c)(e:p24 b c)(f:p25 b c):p00∧(∃b,∃c,p23 b c∧p24 b c∧p25 b c):=⟨a,b,c,d,e,f⟩
theorem nEA(a:t1)(b:p11 a)(c:p12 a):∃a,p11 a∧p12 a:=⟨a,b,c⟩
theorem zTb(a:t1)(b:p11 a)(c:p12 a)(d:p13 a):∃a,p11 a∧p12 a∧p13 a:=⟨a,b,c,d⟩
theorem zGn(a:t1)(b:p11 a)(c:p12 a)(d:p13 a)(e:p14 a):∃a,p11 a∧p12 a∧p13 a∧p14 a:=⟨a,b,c,d,e⟩
theorem yGw(a:t1)(b:p11 a)(c:p12 a)(d:p13 a)(e:p14 a)(f:p15 a):∃a,p11 a∧p12 a∧p13 a∧p14 a∧p15 a:=⟨a,b,c,d,e,f⟩
theorem yGe(a:t1)(b:p11 a)(c:p12 a)(d:p13 a)(e:t2)(f:p25 a e):∃a,p11 a∧p12 a∧p13 a∧(∃e,p25 a e):=⟨a,b,c,d,e,f⟩
theorem yEh(a:t1)(b:p11 a)(c:p12 a)(d:t2)(e:p24 a d)(f:p25 a d):∃a,p11 a∧p12 a∧(∃d,p24 a d∧p25 a d):=⟨a,b,c,d,e,f⟩
theorem zYn(a:t1)(b:p11 a)(c:p12 a)(d:t2)(e:t3)(f:p35 a d e):∃a,p11 a∧p12 a∧(∃d,∃e,p35 a d e):=⟨a,b,c,d,e,f⟩
theorem nEAE(a:t1)(b:p11 a)(c:t2)(d:p23 a c):∃a,p11 a∧(∃c,p23 a c):=⟨a,b,c,d⟩
theorem qM(a:t1)(b:p11 a)(c:t2)(d:p23 a c)(e:p24 a c):∃a,p11 a∧(∃c,p23 a c∧p24 a c):=⟨a,b,c,d,e⟩
theorem zAk(a:t1)(b:p11 a)(c:t2)(d:p23 a c)(e:p24 a c)(f:p25 a c):∃a,p11 a∧(∃c,p23 a c∧p24 a c∧p25 a c):=⟨a,b,c,d,e,f⟩
theorem vB(a:t1)(b:p11 a)(c:t2)(d:p23 a c)(e:t3)(f:p35 a c e):∃a,p11 a∧(∃c,p23 a c∧(∃e,p35 a c e)):=⟨a,b,c,d,e,f⟩
theorem zZk(a:t1)(b:p11 a)(c:t2)(d:t3)(e:p34 a c d)(f:p35 a c d):∃a,p11 a∧(∃c,∃d,p34 a c d∧p35 a c d):=⟨a,b,c,d,e,f⟩
theorem nEEA(a:t1)(b:t2)(c:p22 a b)(d:p23 a b):∃a,∃b,p22 a b∧p23 a b:=⟨a,b,c,d⟩
theorem zVg(a:t1)(b:t2)(c:p22 a b)(d:p23 a b)(e:p24 a b):∃a,∃b,p22 a b∧p23 a b∧p24 a b:=⟨a,b,c,d,e⟩
theorem uI(a:t1)(b:t2)(c:p22 a b)(d:p23 a b)(e:p24 a b)(f:p25 a b):∃a,∃b,p22 a b∧p23 a b∧p24 a b∧p25 a b:=⟨a,b,c,d,e,f⟩
theorem yFl(a:t1)(b:t2)(c:p22 a b)(d:p23 a b)(e:t3)(f:p35 a b e):∃a,∃b,p22 a b∧p23 a b∧(∃e,p35 a b e):=⟨a,b,c,d,e,f⟩
theorem gD(a:t1)(b:t2)(c:t3)(d:p33 a b c)(e:p34 a b c)(f:p35 a b c):∃a,∃b,∃c,p33 a b c∧p34 a b c∧p35 a b c:=⟨a,b,c,d,e,f⟩
end

section
open PySem renaming Value→V0,Addr→V1,Shared→V2,Program→V3,World→V4,Heap→V5,Stmt→V6,FuncData→V7,wpAny→V8,sizeLine→V9,mainGlobals→A0,bootBuiltins→A1,starEach→A2,compareOp→A3,sysModules→A4,standAt→S0,swapsWith→S1,backTo→S2,model→S5,assignEach→S6,Env→S7
open PySem.Str renaming ofString→A5
open PySem.W renaming Frag→A6,keepIn→A7,nsIn→A8,codeIn→A9
open PySem.NameKind renaming free→S3
open PySem.Builtin.Range renaming rangeSize→S4
theorem O.{u}{α:Sort u}{a:α}:a=a:=rfl
section
open Option renaming some→Y
set_option hygiene false
local macro_rules|`(tactic|let $d:letDecl)=>`(tactic|have $d:letDecl)
local macro_rules|`(tactic|lk)=>`(tactic|walk_at "rd3")
local macro_rules|`(∅)=>`(by lia)
local macro_rules|`(∎)=>`(by decide)
local macro_rules|`(tb_g%)=>`(by walk_at "wu")
local macro_rules|`(↥$x)=>`(some $x)
local macro_rules|`($x...*)=>`(($x).length)
local macro_rules|`($x⁻¹)=>`(($x).heap.objs.size)
local macro_rules|`({$x:term,*})=>`(⟨$x,*⟩)
set_option hygiene true
local macro_rules|`(tactic|ext $x*)=>let a:Array Lean.Term:=x.map fun s=>⟨if s.raw[0].isOfKind `Lean.Parser.Tactic.rcasesPat.one then s.raw[0][0] else Lean.mkNode `Lean.Parser.Term.hole #[Lean.mkAtom "_"]⟩;let f:=a[0]!;let z:=a[1]!;let r:=a.extract 2 a.size;`(tactic|(revert $z;intro z_;refine $f z_ fun $r* =>?_;clear z_))
namespace L2
open PySem PySem.Spec PyProof.Rows
abbrev mC:=@Nat.le_refl
abbrev mE:=@List.mem_cons_self
abbrev mF:=@wpAny_bind
abbrev mG:=@List.mem_cons
abbrev mH:=@List.mem_singleton
abbrev mI:=@List.mem_cons_of_mem
abbrev mJ:=@List.length_map
abbrev mK:=@if_neg
abbrev mL:=@List.length_append
abbrev mM:=@List.mem_of_getElem?
abbrev mN:=@if_pos
abbrev mO:=@Heap.get?_push_of_some
abbrev mP:=@List.getElem?_eq_getElem
abbrev mQ:=@Option.some.inj
abbrev mS:=@List.getElem?_eq_some_iff
abbrev mT:=@True.intro
abbrev mU:=@List.map_append
abbrev mV:=@sizeLine_eq
abbrev mW:=@Heap.lt_size
abbrev mX:=@List.length_cons
abbrev mY:=@List.length_singleton
abbrev mZ:=@List.mem_append
abbrev nB:=@wpAny_pure
abbrev nD:=@List.size_toArray
abbrev nE:=@List.getD_eq_getElem?_getD
abbrev nF:=@decide_eq_true
abbrev nG:=@List.getElem?_map
abbrev nH:=@Bool.and_eq_true
abbrev nI:=@List.length_drop
abbrev nJ:=@Nat.zero_le
abbrev nL:=@Bool.false_ne_true
abbrev nM:=@Heap.get?_update_other
abbrev nN:=@List.mem_append_right
abbrev nO:=@List.map_cons
abbrev nP:=@decide_eq_false
abbrev nQ:=@Heap.get?_push_size
abbrev nR:=@Nat.lt_of_lt_of_le
abbrev nS:=@List.mem_map
abbrev nU:=@List.length_take
abbrev nV:=@Nat.ne_of_lt
abbrev nW:=@List.getElem?_append_right
abbrev nX:=@decide_eq_true_eq
abbrev nY:=@List.getElem?_append_left
abbrev nZ:=@Or.inl
abbrev pA:=@PySem.F.plainAttrs_list
abbrev pB:=@Nat.le_trans
abbrev pC:=@List.nodup_cons
abbrev pG:=@List.mem_append_left
abbrev pH:=@List.append_nil
abbrev pJ:=@List.length_reverse
abbrev pK:=@Array.getElem?_eq_some_iff
abbrev pL:=@wpAny_mono
abbrev pM:=@PySem.F.slot_list_append
abbrev pO:=@List.not_mem_nil
abbrev pP:=@List.getElem?_cons_zero
abbrev pQ:=@PyProof.Rows.callWith_type1
abbrev pU:=@Option.map_eq_some_iff
abbrev pV:=@Nat.le_succ
abbrev pW:=@List.filterMap_cons
abbrev pY:=@W.mg_none_of
abbrev pZ:=@List.drop_eq_getElem_cons
abbrev rA:=@Nat.not_lt_zero
abbrev rB:=@List.take_length
abbrev rC:=@List.drop_of_length_le
abbrev rD:=@Array.getElem?_setIfInBounds_ne
abbrev rE:=@PySem.F.type_list_append
abbrev rF:=@List.length_nil
abbrev rG:=@List.range_succ
abbrev rH:=@List.all_eq_true
abbrev rJ:=@of_decide_eq_true
abbrev rK:=@Nat.succ_le_succ
abbrev rL:=@List.map_congr_left
abbrev rM:=@List.append_assoc
abbrev rN:=@Int.toNat_natCast
abbrev rO:=@wpAny_holding
abbrev rP:=@List.mem_filter
abbrev rQ:=@Heap.get?_none_of_le
abbrev rR:=@wpAny_Call_Name_kw
abbrev rT:=@List.mem_of_mem_drop
abbrev rV:=@wpAny_field
abbrev rW:=@wpAny_truthy_bool
abbrev rX:=@Nat.ne_of_gt
abbrev rY:=@List.length_replicate
abbrev rZ:=@List.filter_cons_of_pos
abbrev sD:=@List.filter_cons_of_neg
abbrev sE:=@wpAny_typeOf_ref
abbrev sF:=@wpAny_standAt
abbrev sG:=@codeAny_mono
abbrev sH:=@List.map_map
abbrev sI:=@List.mem_range
abbrev sJ:=@List.getElem?_set_self
abbrev sK:=@List.take_of_length_le
abbrev sL:=@beq_eq_false_iff_ne
abbrev sM:=@PySem.mem_of_lookup
abbrev sN:=@List.take_append_drop
abbrev sO:=@List.lookup_cons
abbrev sP:=@Int.emod_lt_of_pos
abbrev sQ:=@List.cons_ne_nil
abbrev sR:=@List.getElem?_set_ne
abbrev sS:=@List.mem_of_mem_take
abbrev sT:=@Int.emod_nonneg
abbrev sU:=@List.idxOf_lt_length_of_mem
abbrev sV:=@List.flatMap_append
abbrev sW:=@Nat.le_add_right
abbrev sX:=@Array.getElem?_toList
abbrev sY:=@List.getElem?_eq_none
abbrev sZ:=@wpAny_setField
abbrev tD:=@List.contains_cons
abbrev tE:=@List.getElem?_drop
abbrev tF:=@Bool.eq_iff_iff
abbrev tG:=@List.map_nil
abbrev tH:=@Array.size_setIfInBounds
abbrev tI:=@Nat.lt_irrefl
abbrev tJ:=@Array.getElem?_setIfInBounds_self_of_lt
abbrev tK:=@Int.eq_ofNat_of_zero_le
abbrev tL:=@PySem.F.slot_list_index
abbrev tM:=@Array.length_toList
abbrev tO:=@List.Perm.nodup_iff
abbrev tP:=@or_false
abbrev tQ:=@W.mg_of
abbrev tR:=@List.flatMap_singleton
abbrev tS:=@W.kia_one
abbrev tT:=@wpAny_passesOwn
abbrev tU:=@List.reverse_cons
abbrev tV:=@Nat.le_succ_of_le
abbrev tW:=@List.length_range
abbrev tX:=@Heap.size_push
abbrev tY:=@Nat.le_of_lt
abbrev tZ:=@Nat.lt_succ_self
abbrev aA:=@Bool.or_true
abbrev aB:=@decide_eq_decide
abbrev aD:=@List.replicate_succ
abbrev aE:=@List.getElem?_cons_succ
abbrev aF:=@PySem.F.type_list_index
abbrev aG:=@List.getLast?_cons_cons
abbrev aH:=@wpAny_execs_nil
abbrev aI:=@List.find?_cons
abbrev aJ:=@List.nil_append
abbrev aK:=@List.take_left'
abbrev aL:=@Calls.callWith_builtin
abbrev aM:=@List.eq_nil_of_length_eq_zero
abbrev aN:=@List.nodup_append
abbrev aO:=@List.drop_zero
abbrev aP:=@List.mem_iff_getElem?
abbrev aQ:=@List.dropLast_concat_getLast
abbrev aR:=@call_meets
abbrev aS:=@List.filter_cons
abbrev aT:=@Nat.mul_le_mul_right
abbrev aU:=@Nat.not_succ_le_zero
abbrev aV:=@List.drop_length
abbrev aW:=@ks_wpAny_isType_inst
abbrev aX:=@List.cons_append
abbrev aY:=@List.length_set
abbrev aZ:=@Nat.le_add_left
abbrev bA:=@List.getLast?_eq_none_iff
abbrev bB:=@List.getLast?_eq_getElem?
abbrev bC:=@Calls.spliced_cons
abbrev bE:=@List.getElem?_take_of_lt
abbrev bF:=@tupleKind_room_in1
abbrev bG:=@wpAny_comprehension_free
abbrev bH:=@List.set_cons_zero
abbrev bI:=@List.set_cons_succ
abbrev bJ:=@decide_eq_true_iff
abbrev bK:=@List.map_singleton
abbrev bL:=@PySem.F.slot_list_extend
abbrev bM:=@PySem.F.type_list_extend
abbrev bN:=@Bool.false_and
abbrev bO:=@wpAny_call
abbrev bP:=@Bool.and_false
abbrev bQ:=@List.nodup_nil
abbrev bS:=@List.getElem?_replicate
abbrev bT:=@PySem.F.plainAttrs_dict
abbrev bU:=@Calls.spliced_nil
abbrev bV:=@List.flatten_cons
abbrev bW:=@Nat.lt_succ_of_le
abbrev bX:=@PyProof.noPylong_small
abbrev bY:=@Or.inr
abbrev bZ:=@List.drop_eq_nil_of_le
abbrev cA:=@List.set_eq_take_append_cons_drop
abbrev cD:=@Bool.true_and
abbrev cE:=@wpAny_execs_cons
abbrev cF:=@List.getElem_mem
abbrev cG:=@List.mem_flatMap
abbrev cI:=@Heap.get?_update_self
abbrev cJ:=@List.getElem?_reverse
abbrev cK:=@plainObj_wpAny_Assign_Attribute
abbrev cL:=@List.of_mem_zip
abbrev cM:=@PyProof.Rows.callWith_builtin1
abbrev cN:=@Nat.lt_trans
abbrev cO:=@and_congr_right
abbrev cP:=@F.excBase_ValueError
abbrev cQ:=@F.slot_dict_itemiterator_iter
abbrev cR:=@List.getLast?_eq_some_getLast
abbrev cS:=@wpAny_isSubtype_exc
abbrev cU:=@List.take_zero
abbrev cV:=@W.kitx_dict
abbrev cW:=@wpAny_pyIter_range
abbrev cX:=@Nat.lt_of_le_of_lt
abbrev cY:=@List.pairwise_cons
abbrev cZ:=@wpAny_assign_Name
abbrev dA:=@wpAny_pyIter_list
abbrev dB:=@PySem.list_append
abbrev dC:=@Option.isSome_map
abbrev dE:=@wpAny_newObj_type
abbrev dG:=@List.flatMap_cons
abbrev dH:=@List.any_eq_true
abbrev dI:=@List.all_map
abbrev dJ:=@beq_self_eq_true
abbrev dL:=@Nat.min_eq_right
abbrev dM:=@Nat.sub_zero
abbrev dO:=@eq_false
abbrev dP:=@List.mem_reverse
abbrev dQ:=@List.foldl_cons
abbrev dR:=@Nat.le_max_left
abbrev dS:=@Nat.min_eq_left
abbrev dU:=@exists_eq_left'
abbrev dW:=@List.filter_nil
abbrev dX:=@W.kitx_list
abbrev dY:=@if_true
abbrev Key:=Sum Int Str
def zFq:Key->V0->Bool
 |.inl k,v=>Value.isInt k v|.inr x,v=>Value.isStrOf x v
def keyH(w:V4):Key->Int
 |.inl k=>hashInt k|.inr x=>hashStr w x
theorem xU:∀{k:Key}{v:V0},zFq k v=true->(∃i t,k=Sum.inl i/\v=Value.int i t)\/(∃x t,k=Sum.inr x/\v=Value.str x t)
 |.inl i,v,h=>by
  obtain⟨t,e⟩:=Value.isInt_shape (k:=i) (v:=v) h;exact .inl ⟨i,t,O,e⟩
 |.inr x,v,h=>by
  obtain⟨t,e⟩:=Value.isStrOf_shape (x:=x) (v:=v) h;exact .inr ⟨x,t,O,e⟩
theorem zSn(i:Int)(t:Tok):zFq (.inl i) (.int i t)=true:=by simp[zFq,Value.isInt]
theorem zUj(x:Str)(t:Tok):zFq (.inr x) (.str x t)=true:=by simp[zFq,Value.isStrOf]
theorem yGq(a b:Int):decide ((Sum.inl a:Key)=Sum.inl b)=(a==b):=by
 by_cases e:a=b
 ·subst e;simp
 ·let h:¬(Sum.inl a:Key)=Sum.inl b:=λq=>e (Sum.inl.inj q)
  rw[nP h];exact(sL.mpr e).symm
theorem yEk(a b:Str):decide ((Sum.inr a:Key)=Sum.inr b)=decide (a=b):=by
 by_cases e:a=b
 ·subst e;simp
 ·let h:¬(Sum.inr a:Key)=Sum.inr b:=λq=>e (Sum.inr.inj q)
  rw[nP h,nP e]
theorem yDt(a:Int)(b:Str):decide ((Sum.inl a:Key)=Sum.inr b)=false:=nP (λq=>nomatch q)
theorem yDy(a:Str)(b:Int):decide ((Sum.inr a:Key)=Sum.inl b)=false:=nP (λq=>nomatch q)
def yU(prog:V3)(w:V4):PySem.KeyKind prog w Key where
 is:=zFq
 hash:=keyH w
 inj:=λv a b g f=>by
  rcases xU g with⟨i,t,rfl,rfl⟩|⟨x,t,rfl,rfl⟩
  ·rcases xU f with⟨j,u,rfl,e⟩|⟨y,u,rfl,e⟩
   ·injection e with c _;rw[c]
   ·exact nomatch e
  ·rcases xU f with⟨j,u,rfl,e⟩|⟨y,u,rfl,e⟩
   ·exact nomatch e
   ·injection e with c _;rw[c]
 byValue:=λk v h=>by
  rcases xU h with⟨i,t,rfl,rfl⟩|⟨x,t,rfl,rfl⟩<;>rfl
 pyHash:=λd h=>by
  rcases xU d with⟨i,t,rfl,rfl⟩|⟨x,t,rfl,rfl⟩
  ·exact wpAny_pyHash_int h
  ·exact wpAny_pyHash_str h
 eqBool:=λl d h=>by
  rcases xU l with⟨i,t,rfl,rfl⟩|⟨x,t,rfl,rfl⟩
  ·rcases xU d with⟨j,u,rfl,rfl⟩|⟨y,u,rfl,rfl⟩
   ·rw[yGq] at h;exact wpAny_eqBool_int h
   ·rw[yDt] at h;exact SeqAt.EqAt.int_str i t y u _ _ _ _ h
  ·rcases xU d with⟨j,u,rfl,rfl⟩|⟨y,u,rfl,rfl⟩
   ·rw[yDy] at h;exact SeqAt.EqAt.str_int x t j u _ _ _ _ h
   ·rw[yEk] at h;exact wpAny_eqBool_str h
 «strs»:=λk x t v h=>by
  rcases xU h with⟨i,u,rfl,e⟩|⟨y,u,rfl,e⟩
  ·exact nomatch e
  ·injection e with c _
   subst c;cases v<;>rfl
theorem zNs(prog:V3)(w:V4)(i:Int)(t:Tok):(yU prog w).is (.inl i) (.int i t)=true:=zSn i t
theorem zKz(prog:V3)(w:V4)(x:Str)(t:Tok):(yU prog w).is (.inr x) (.str x t)=true:=zUj x t
inductive V where
 |non | bl (b:Bool)| int (i:Int)| str (x:Str)| byt (b:Array UInt8)| flt (b:UInt64)| ref (a:V1)| ty (n:String)
 deriving DecidableEq
def RelV:V->V0->Prop
 |.non,u=>u=Value.none|.bl b,u=>u=Value.bool b|.int i,u=>∃t,u=Value.int i t|.str x,u=>∃t,u=Value.str x t|.byt b,u=>∃t,u=Value.bytes b t|.flt b,u=>∃t,u=Value.float b t|.ref a,u=>u=Value.ref a|.ty n,u=>u=Value.type n
abbrev Vals:List V->List V0->Prop:=Paired RelV
abbrev _root_.B3:=List V
abbrev _root_.B7:=List V0
theorem Vals.length{xs:B3}{us:B7}(r:Vals xs us):xs...*=us...*:=Paired.length r
theorem Vals.get:∀{xs:B3}{us:B7}{i:Nat}{x:V},Vals xs us->xs[i]? =Y x->∃u,us[i]? =Y u/\RelV x u
 |_,_,_,_, .nil,e=>by simp at e|_,_,0,_, .cons r _,e=>by simp at e;subst e;exact⟨_,O,r⟩|_,_,i+1,x, .cons _ t,e=>by
  obtain⟨u,b,a⟩:=Vals.get (i:=i) (x:=x) t (by simpa using e);exact{u,by simpa using b,a}
theorem Vals.set{x:V}{u:V0}(r:RelV x u):∀{xs:B3}{us:B7}(i:Nat),Vals xs us->Vals (xs.set i x) (us.set i u)
 |_,_,_, .nil=>.nil|_,_,0, .cons _ t=>.cons r t|_,_,i+1, .cons q t=>.cons q (Vals.set r i t)
theorem Vals.append:∀{xs ys:B3}{us ws:B7},Vals xs us->Vals ys ws->Vals (xs++ys) (us++ws)
 |_,_,_,_, .nil,s=>s|_,_,_,_, .cons r t,s=>.cons r (Vals.append t s)
theorem Vals.take:∀{xs:B3}{us:B7}(n:Nat),Vals xs us->Vals (xs.take n) (us.take n)
 |_,_,0,_=>.nil|_,_,_+1, .nil=>.nil|_,_,n+1, .cons r t=>.cons r (Vals.take n t)
theorem Vals.drop:∀{xs:B3}{us:B7}(n:Nat),Vals xs us->Vals (xs.drop n) (us.drop n)
 |_,_,0,r=>r|_,_,_+1, .nil=>.nil|_,_,n+1, .cons _ t=>Vals.drop n t
def RelO:Option V->Option V0->Prop
 |some v,Y u=>RelV v u|none,none=>True|_,_=>False
def KV{κ:Type}:List (κ×V)->List (κ×V0)->Prop:=Paired fun(p:κ×V) (q:κ×V0)=>p.1=q.1/\RelV p.2 q.2
def kV:Key->V
 |.inl i=>.int i|.inr x=>.str x
abbrev _root_.D7:=List (Key×V)
inductive HO where
 |lst (xs:B3)
 |tup (xs:B3)
 |dK (kvs:D7)| dT (kvs:List (List Key×V))
 |set (S:Int->Bool) (n:Nat)
 |ins (C dx:V1) (fs:List (Str×V))
 |own (x:V1)
 |xd (fs:List (Str×V))
 |met (f x:V1)
 |rng (lo hi:Int)
 |frz (o:Obj) (u:HO)
 |tbl (ps:Array V0)
 |ext (φ:V5->Prop)
abbrev Hp:=V1->Option HO
def upd(H:Hp)(a:V1)(o:HO):Hp:=λb=>if b=a then Y o else H b
theorem zD{H:Hp}{a:V1}{o:HO}:upd H a o a=Y o:=by unfold upd;rw[mN O]
theorem zM{H:Hp}{a b:V1}{o:HO}(h:b≠a):upd H a o b=H b:=by unfold upd;rw[mK h]
theorem zKe{H:Hp}{a:V1}{o u:HO}:upd (upd H a o) a u=upd H a u:=by
 funext b;unfold upd;split<;>rfl
theorem ne_of{H:Hp}{a b:V1}{o u:HO}(h:H a=Y o)(h':H b=Y u)(d:o≠u):a≠b:=by
 intro e;subst e;rw[h] at h';exact d (mQ h')
theorem yK{H:Hp}{a b:V1}{o:HO}(h:H a=Y o)(h':H b=none):a≠b:=by
 intro e;subst e;rw[h] at h';cases h'
section
variable(P:V3)(w:V4)
def ObjOk(H:Hp)(h:V5)(a:V1):HO->Prop
 |.lst c=>c...*<=V9/\∃(b:B7)(n:Nat),Vals c b/\h.get? a=some {cls:=.type "list",data:=.seq b.toArray n}|.tup c=>c...*<=V9/\∃b:List V0,Vals c b/\IsTup h a b.toArray|.dK kvs=>kvs...*<=V9/\(a==A4)=false/\∃i,KV kvs i/\h.DictOf (yU P w) a i|.dT kvs=>kvs...*<=V9/\(a==A4)=false/\∃c:List (List Key×V1×V0),
   Paired (fun(p:List Key×V) (q:List Key×V1×V0)=>p.1=q.1/\H q.2.1=Y (.tup (p.1.map kV))/\RelV p.2 q.2.2) kvs c/\
   ∃o j m,h.get? a=Y o/\o.ExactDict/\o.data= .dict j m/\j.toList=c.map (entryOfKey (tupleKind (yU P w)))/\(c.map (·.1)).Nodup
 |.set S n=>h.SetOf (intKind P w) a S n|.ins C g e=>H g=Y (.own a)/\e...*<=1000/\g≠a/\h.get? a=Y (W.instObj C g)/\
   ∃d,h.Ns1 g d/\(∀f,RelO (e.lookup f) (d f))/\PySem.Within d (e.map (·.1))
 |.own _=>∃o,h.get? a=Y o|.xd e=>∃d,h.Ns1 a d/\∀f,RelO (e.lookup f) (d f)|.rng lo r=>∃t u v,h.get? a=some {cls:=.type "range",data:=.fields #[.int lo t, .int r u, .int 1 v]}|.frz o u=>h.get? a=Y o/\ObjOk H h a u|.tbl ps=>h.get? a=some {cls:=.none,data:=.fields ps}|.met f x=>h.get? a=Y (W.methodObj (.ref f) (.ref x))|.ext φ=>φ h/\(∃o,h.get? a=Y o)/\∀l k:V5,φ l->(∀o,l.get? a=Y o->k.get? a=Y o)->φ k
def HOk(H:Hp)(h:V5):Prop:=∀a o,H a=Y o->ObjOk P w H h a o
end
section
variable{P:V3}{w:V4}{H H':Hp}{h h':V5}{a:V1}{o:HO}
theorem ObjOk.lt(x:ObjOk P w H h a o):a<h.objs.size:=by
 cases o with
 |lst d=>obtain⟨_,_,_,_,e⟩:=x;exact mW e
 |tup d=>obtain⟨_,_,_,p⟩:=x;exact p.lt
 |dK b=>obtain⟨_,_,_,_,o,_,_,e,_⟩:=x;exact mW e
 |dT b=>obtain⟨_,_,_,_,o,_,_,e,_⟩:=x;exact mW e
 |set S n=>obtain⟨o,_,_,_,e,_⟩:=x;exact mW e
 |ins C i c=>obtain⟨_,_,_,e,_⟩:=x;exact mW e
 |own y=>obtain⟨_,e⟩:=x;exact mW e
 |xd c=>obtain⟨_,⟨_,_,_,e,_⟩,_⟩:=x;exact mW e
 |rng lo k=>obtain⟨_,_,_,e⟩:=x;exact mW e
 |frz j u=>obtain⟨e,_⟩:=x;exact mW e
 |tbl g=>exact mW (show h.get? a=Y _ from x)|met f y=>exact mW (show h.get? a=Y _ from x)|ext φ=>obtain⟨_,⟨_,e⟩,_⟩:=x;exact mW e
theorem j3{α β:Type}{F G:α->β->Prop}:∀{d:List α}{c:List β},Paired F d c->(∀a b,F a b->G a b)->Paired G d c
 |_,_, .nil,_=>.nil|_,_, .cons r t,f=>.cons (f _ _ r) (j3 t f)
theorem ObjOk.stay(x:ObjOk P w H h a o)(k:∀b u,(b=a\/H b=Y (.own a))->h.get? b=Y u->h'.get? b=Y u)
  (J:∀b,H b=Y (.own a)->H' b=Y (.own a)) (N:∀b m,H b=Y (.tup m)->H' b=Y (.tup m)):ObjOk P w H' h' a o:=by
 induction o with
 |lst m=>obtain⟨z,l,n,r,e⟩:=x;exact{z,l,n,r,k _ _ (.inl O) e}
 |tup m=>obtain⟨z,l,r,g,e,c⟩:=x;exact{z,l,r,g,k _ _ (.inl O) e,c}
 |dK A=>obtain⟨z,y,E,r,g,j,i,e,c⟩:=x;exact{z,y,E,r,g,j,i,k _ _ (.inl O) e,c}
 |dT A=>
  obtain⟨z,y,m,r,g,j,i,e,c⟩:=x;exact{z,y,m,j3 r λp q z=>{z.1,N _ _ z.2.1,z.2.2},g,j,i,k _ _ (.inl O) e,c}
 |set S n=>obtain⟨g,j,i,t,e,c⟩:=x;exact{g,j,i,t,k _ _ (.inl O) e,c}
 |ins C dx I=>
  obtain⟨d,z,Q,e,s,⟨B,j,i,M,c⟩,r⟩:=x;exact{J _ d,z,Q,k _ _ (.inl O) e,s,{B,j,i,k _ _ (.inr d) M,c},r}
 |own y=>obtain⟨g,e⟩:=x;exact{g,k _ _ (.inl O) e}
 |xd I=>obtain⟨s,⟨B,j,i,e,c⟩,r⟩:=x;exact{s,{B,j,i,k _ _ (.inl O) e,c},r}
 |rng lo hi=>obtain⟨t,u,v,e⟩:=x;exact{t,u,v,k _ _ (.inl O) e}
 |frz g u L=>obtain⟨e,q⟩:=x;exact{k _ _ (.inl O) e,L q}
 |tbl D=>
  let e:h.get? a=some {cls:=.none,data:=.fields D}:=x;show h'.get? a=some {cls:=.none,data:=.fields D};exact k a _ (.inl O) e
 |met f y=>
  let e:h.get? a=Y (W.methodObj (.ref f) (.ref y)):=x;show h'.get? a=Y (W.methodObj (.ref f) (.ref y));exact k a _ (.inl O) e
 |ext φ=>obtain⟨p,⟨o,e⟩,st⟩:=x;exact{st _ _ p λo q=>k _ _ (.inl O) q,{o,k _ _ (.inl O) e},st}
theorem HOk.lt(x:HOk P w H h)(e:H a=Y o):a<h.objs.size:=(x a o e).lt
theorem HOk.fresh(x:HOk P w H h)(e:h.objs.size<=a):H a=none:=by
 cases q:H a with|none=>rfl|some u=>exact absurd (nR (x.lt q) e) (tI _)
theorem HOk.kept(x:HOk P w H h)(k:∀b u,h.get? b=Y u->h'.get? b=Y u):HOk P w H h':=λa o e=>
 (x a o e).stay (λb u _ q=>k b u q) (λ_ q=>q) λ_ _ q=>q
theorem HOk.laid(x:HOk P w H h)(k:∀b u,h.get? b=Y u->h'.get? b=Y u)(i:h.objs.size<=a)(d:ObjOk P w (upd H a o) h' a o):HOk P w (upd H a o) h':=λb u e=>by
 let f:=x.fresh i
 by_cases g:b=a
 ·subst g;rw[zD] at e;cases e;exact d
 ·rw[zM g] at e
  exact(x b u e).stay (λc v _ q=>k c v q) (λc q=>by rw[zM (yK q f)];exact q) λc j q=>by rw[zM (yK q f)];exact q
end
def Rd(H:Hp)(a:V1)(u:HO):Prop:=H a=Y u\/∃o,H a=Y (.frz o u)
theorem Rd.ok{P:V3}{w:V4}{H:Hp}{h:V5}{a:V1}{u:HO}(r:Rd H a u)(x:HOk P w H h):ObjOk P w H h a u:=by
 rcases r with r |⟨o,r⟩
 ·exact x a u r
 ·obtain⟨_,q⟩:=x a _ r
  exact q
def Mut:Option HO->Prop
 |some (.lst _)=>True|some (.dK _)=>True|some (.dT _)=>True|some (.set _ _)=>True|some (.ins _ _ _)=>True|some (.ext _)=>True|_=>False
section
variable{P:V3}{w:V4}{H:Hp}{h h':V5}{x e:V1}{o':HO}
theorem HOk.write(p:HOk P w H h)(g:Mut (H x))(o:e=x\/H e=Y (.own x))(k:∀b u,b≠e->h.get? b=Y u->h'.get? b=Y u)(m:∃u,h'.get? e=Y u)
  (l:ObjOk P w (upd H x o') h' x o'):HOk P w (upd H x o') h':=λb u q=>by
 let d:∀c y,H c=Y (.own y)->c≠x:=λc y r z=>by subst z;rw[r] at g;exact g
 let f:∀c i,H c=Y (.tup i)->c≠x:=λc i r z=>by subst z;rw[r] at g;exact g
 by_cases j:b=x
 ·subst j;rw[zD] at q;cases q;exact l
 ·rw[zM j] at q
  by_cases a:b=e
  ·let n:H b=Y (.own x):=by
    rcases o with z | z
    ·exact absurd (a.trans z) j
    ·rw[a];exact z
   rw[q] at n;cases n;obtain⟨v,s⟩:=m;exact{v,by rw[a];exact s}
  ·refine(p b u q).stay (λc v hc r=>k c v ?_ r) (λc r=>by rw[zM (d c b r)];exact r) λc i r=>by rw[zM (f c i r)];exact r
   rcases hc with rfl | hc
   ·exact a
   ·rintro rfl
    rcases o with z | z
    ·exact d c b hc z
    ·rw[hc] at z;cases z;exact j O
end
abbrev _root_.B9:=List V1
structure Un(fs ex:B9)(H H':Hp)(h h':V5):Prop where
 keep:∀b o,h.get? b=Y o->H b=none->b∉fs->b∉ex->h'.get? b=Y o
 slot:∀b o,h.get? b=Y o->H b=none->b∈fs->b∉ex->∃sl,h'.get? b=some {o with slots:=sl}
 free:∀b o,h.get? b=Y o->H b=none->b∉ex->H' b=none
 there:∀b o,h.get? b=Y o->b∉ex->∃o',h'.get? b=Y o'
 tups:∀b xs,H b=Y (.tup xs)->H' b=Y (.tup xs)
 frzs:∀b o u,H b=Y (.frz o u)->H' b=Y (.frz o u)
 tbls:∀b ps,H b=Y (.tbl ps)->∃more,H' b=Y (.tbl (ps++more))
section
variable{fs fs' ex ex':B9}{H H1 H2:Hp}{h h1 h2 h':V5}{a x e:V1}{o:HO}
theorem Un.any(u:Un fs ex H H1 h h1){b:V1}{c:Obj}(q:h.get? b=Y c)(n:H b=none)(d:b∉ex):∃g,h1.get? b=some {c with slots:=g}:=by
 by_cases f:b∈fs
 ·exact u.slot b c q n f d
 ·exact{c.slots,u.keep b c q n f d}
theorem Un.kept(k:∀b u,h.get? b=Y u->h'.get? b=Y u):Un fs ex H H h h':=
 {λb c q _ _ _=>k b c q,λb c q _ _ _=>{c.slots,k b c q},λ_ _ _ n _=>n,λb c q _=>{c,k b c q},λ_ _ q=>q,λ_ _ _ q=>q,λ_ d q=>{#[],by rw[q];simp}}
theorem Un.refl:Un fs ex H H h h:=Un.kept λ_ _ q=>q
theorem Un.laid(k:∀b u,h.get? b=Y u->h'.get? b=Y u)(f:h.objs.size<=a)(c:H a=none):Un fs ex H (upd H a o) h h' where
 keep:=λb u q _ _ _=>k b u q
 slot:=λb u q _ _ _=>{u.slots,k b u q}
 free:=λb u q n _=>by rw[zM (nV (nR (mW q) f))];exact n
 there:=λb u q _=>{u,k b u q}
 tups:=λb d q=>by rw[zM (yK q c)];exact q
 frzs:=λb u d q=>by rw[zM (yK q c)];exact q
 tbls:=λb g q=>{#[],by rw[zM (yK q c),q];simp}
theorem Un.write(d:Mut (H x))(p:e=x\/H e=Y (.own x))(k:∀b u,b≠e->h.get? b=Y u->h'.get? b=Y u)(g:∃u,h'.get? e=Y u):Un fs ex H (upd H x o) h h':=by
 let i:∀b,H b=none->b≠x:=λb n z=>by subst z;rw[n] at d;exact d
 let j:∀b,H b=none->b≠e:=λb n z=>by
  subst z;rcases p with r | r
  ·exact i b n r
  ·rw[n] at r;cases r
 let f:∀b u,H b=Y u->¬Mut ↥u->b≠x:=λb u q l z=>by subst z;rw[q] at d;exact l d
 refine{λb u q n _ _=>k b u (j b n) q,λb u q n _ _=>{u.slots,k b u (j b n) q},λb u q n _=>by rw[zM (i b n)];exact n,λb u q _=>?_,
  λb m q=>by rw[zM (f b _ q λz=>z)];exact q,λb u m q=>by rw[zM (f b _ q λz=>z)];exact q,λb s q=>{#[],by rw[zM (f b _ q λz=>z),q];simp}}
 by_cases c:b=e
 ·subst c;exact g
 ·exact{u,k b u c q}
end
def trk(h:V5)(H:Hp):List V1:=(List.range h.objs.size).filter λa=>(H a).isSome
def zKd(h:V5)(H:Hp):V5:=W.hideAll h (trk h H)
theorem zTg(h:V5)(H:Hp):(zKd h H).objs.size=h.objs.size:=W.hideAll_size _ _
theorem zXg{h:V5}{H:Hp}{b:V1}{o:Obj}(e:h.get? b=Y o)(n:H b=none):(zKd h H).get? b=Y o:=
 W.hideAll_get _ e λa=>by
  let q:(H b).isSome=true:=(rP.mp a).2;rw[n] at q;simp at q
theorem yAv{h:V5}{H:Hp}{b:V1}{o:Obj}(e:(zKd h H).get? b=Y o):h.get? b=Y o/\H b=none:=by
 let a:h.get? b=Y o:=W.of_hideAll (trk h H) e;refine{a, ?_}
 cases q:H b with
 |none=>rfl|some x=>
  let c:b∈trk h H:=rP.mpr {sI.mpr (mW a),by simp[q]};let z:(zKd h H).get? b=none:=W.hideAll_none (trk h H) c;rw[z] at e;cases e
def yAw(g h:V5)(L:V1):List (V1×Obj):=(List.range h.objs.size).filterMap λa=>if a=L\/(g.get? a).isSome=true then none else(h.get? a).map λo=>(a,o)
def rest(g h:V5)(L d:V1):List (V1×Obj):=(yAw g h L).filter λp=>decide (p.1≠d)
abbrev _root_.C8:=Str->Option V0
structure Mod(K:A6)(mg:C8)(base:V5):Prop where
 kin:K.In base
 glob:base.Ns A0 mg
 blt:∃mb,base.Ns builtinsNs mb/\∀x:Str,x≠ "__name__"->mb x=A1 x
 nolimit:base.NoLimit
structure Cx where
 prog:V3
 w:V4
 K:A6
 mg:Str->Option V0
 base:V5
 A:Around
 N:List Str
 s₀:V2
 H₀:Hp
 env:S7
 outer:List S7
 stack:List S7
 ex:List V1
 fn:Str->Bool
 calm:Bool
 pn:List (V1×Obj)
 xe:V0->V2->Prop
def frs(l:List S7):List V1:=l.filterMap (·.frame)
abbrev Cx.fs(X:Cx):List V1:=frs X.outer
def Vis(a:Scope)(x:Str):Prop:=a.names.lookup x=some .local\/a.names.lookup x=some .cell\/a.names.lookup x=some .free
def Loc(a:Scope)(x:Str):Prop:=a.names.lookup x=some .local\/a.names.lookup x=some .cell
def Look(a:S7)(h:V5)(m:C8)(x:Str)(u:V0):Prop:=
 (a.kindOf x=some .local/\m x=Y u)\/((a.kindOf x=some .cell\/a.kindOf x=some .free)/\∃c,a.cells.lookup x=Y c/\h.IsCell c ↥u)
structure Cx.Ok(X:Cx):Prop where
 mod:Mod X.K X.mg X.base
 kind:X.env.scope.kind= .function
 glob:X.env.globals=A0
 blt:X.env.builtins=builtinsNs
 above:X.s₀⁻¹<=X.env.locals
 inj:∀x y c,X.env.cells.lookup x=Y c->X.env.cells.lookup y=Y c->x=y
 has:∀x,(X.env.kindOf x=some .cell\/X.env.kindOf x=some .free)->∃c,X.env.cells.lookup x=Y c
 cab:∀x c,X.fn x=true->X.env.cells.lookup x=Y c->X.s₀⁻¹<=c
 hd:X.calm=true->X.A.handled=none
 frames:X.A.frames=Y X.stack
 stk:X.stack=X.outer\/(X.stack=X.env::X.outer/\X.env.frame=Y X.env.locals)
 exf:∀b∈X.ex,b≠X.env.locals/\∀x c,X.env.cells.lookup x=Y c->c≠b
 bs:∀b o,X.base.get? b=Y o->X.s₀.heap.get? b=Y o/\X.H₀ b=none
 bsz:X.base.objs.size<=X.s₀⁻¹
 noex:∀b o,X.base.get? b=Y o->b∉X.ex
 exfs:∀b∈X.ex,b∉X.fs
 funs:X.s₀.heap.FunFrames X.base X.outer
 frf:∀b∈X.fs,X.H₀ b=none
abbrev _root_.C7:=List (V1×Obj)
structure Inv(X:Cx)(pins:C7)(σ:List (Option V))(H:Hp)(s:V2):Prop where
 ok:X.Ok
 os:s.os=X.s₀.os
 bare:AllBare s.gens
 base:Un X.fs X.ex X.H₀ H X.s₀.heap s.heap
 loc:∃m,s.heap.Ns X.env.locals m/\∀(i:Nat)(x:Str)(v:V),X.N[i]? =Y x->σ[i]? =Y ↥v->Vis X.env.scope x->∃u,RelV v u/\Look X.env s.heap m x u
 cell:∀x c,X.env.cells.lookup x=Y c->∃v,s.heap.IsCell c v
 free:H X.env.locals=none
 freeC:∀x c,X.env.cells.lookup x=Y c->H c=none
 pin:∀p∈X.pn++pins,s.heap.get? p.1=Y p.2/\H p.1=none/\p.1≠X.env.locals/\p.1∉X.fs/\∀v,p.2.data≠ .cell v
 hok:HOk X.prog X.w H s.heap
 len:σ...*=X.N...*
section
variable{X:Cx}{pins:C7}{σ:List (Option V)}{H H':Hp}{s:V2}{h':V5}
theorem Cx.Ok.nofr(c:X.Ok){b:V1}{o:Obj}(e:X.base.get? b=Y o):b∉X.fs:=λa=>by
 let:=(c.funs.mem a).1;rw[e] at this;cases this
theorem Inv.bs(I:Inv X pins σ H s):∀b o,X.base.get? b=Y o->s.heap.get? b=Y o/\H b=none:=λb o e=>
 ⟨I.base.keep b o (I.ok.bs b o e).1 (I.ok.bs b o e).2 (I.ok.nofr e) (I.ok.noex b o e),I.base.free b o (I.ok.bs b o e).1 (I.ok.bs b o e).2 (I.ok.noex b o e)⟩
theorem Inv.bk(I:Inv X pins σ H s):∀b o,X.base.get? b=Y o->s.heap.get? b=Y o:=λb o e=>(I.bs b o e).1
theorem Inv.mod(I:Inv X pins σ H s):Mod X.K X.mg X.base:=I.ok.mod
theorem Inv.kIn(I:Inv X pins σ H s):X.K.In s.heap:=I.ok.mod.kin.keeps I.bk
theorem Inv.lt(I:Inv X pins σ H s):X.env.locals<s⁻¹:=let ⟨_,hn,_⟩:=I.loc;hn.lt
theorem Inv.sz(I:Inv X pins σ H s):X.s₀⁻¹<=s⁻¹:=pB I.ok.above (tY I.lt)
theorem Inv.nofs(I:Inv X pins σ H s){a:V1}(h:s⁻¹<=a):a∉X.fs:=λc=>by
 obtain⟨_,o,b,_⟩:=I.ok.funs.mem c;exact absurd (nR (mW b) (pB I.sz h)) (tI _)
theorem Inv.cne(I:Inv X pins σ H s):∀x c,X.env.cells.lookup x=Y c->c≠X.env.locals:=λx c e z=>by
 refine wO (I.cell x c e) λv o d f=>?_;obtain⟨m,⟨i,g,h,a,b,_⟩,_⟩:=I.loc;rw[z,a] at d;cases d;rw[b] at f;cases f
theorem Inv.funs(I:Inv X pins σ H s):s.heap.FunFrames X.base X.outer:=by
 let all:∀(l:List S7),(∀b∈frs l,b∈X.fs)->X.s₀.heap.FunFrames X.base l->s.heap.FunFrames X.base l:=by
  intro l
  induction l with
  |nil=>intro _ _;trivial|cons h r j=>
   intro f p;obtain⟨m,⟨L,o,d,n,g,i⟩,k⟩:=p;let c:L∈X.fs:=f L (by unfold frs;rw[pW,d];exact mE);obtain⟨q,e⟩:=I.base.slot L o g (I.ok.frf L c) c λz=>I.ok.exfs L z c;exact⟨m,⟨L,_,d,n,e,i⟩,j (λb a=>f b (by unfold frs;rw[pW,d];exact mI _ a)) k⟩
 exact all X.outer (λ_ a=>a) I.ok.funs
theorem Inv.stack(I:Inv X pins σ H s):s.heap.FunFrames X.base X.stack:=by
 rcases I.ok.stk with e |⟨e,b⟩
 ·rw[e];exact I.funs
 ·rw[e]
  obtain⟨m,a,_⟩:=I.loc;refine .cons (by rw[I.ok.kind];decide) b a ?_ I.funs;exact rQ (pB I.ok.bsz I.ok.above)
theorem Inv.stkSub(I:Inv X pins σ H s):∀b∈frs X.stack,b∈X.env.locals::X.fs:=λb a=>by
 rcases I.ok.stk with e |⟨e,c⟩
 ·rw[e] at a;exact mI _ a
 ·rw[e] at a
  unfold frs at a;rw[pW,c] at a;exact a
theorem Inv.stkFree(I:Inv X pins σ H s):∀b∈frs X.stack,H b=none:=λb hb=>by
 rcases mG.mp (I.stkSub b hb) with e | hb
 ·rw[e];exact I.free
 ·obtain⟨_,o,a,_⟩:=I.ok.funs.mem hb
  exact I.base.free b o a (I.ok.frf b hb) λz=>I.ok.exfs b z hb
theorem Inv.step{g':Array GenState}{t':Nat}{d':Drawn}{ch:B9}(I:Inv X pins σ H s)
  (g:∀b∈ch,(b∈X.ex\/X.s₀⁻¹<=b)/\b≠X.env.locals/\(∀x c,X.env.cells.lookup x=Y c->c≠b)/\∀p∈X.pn++pins,p.1≠b)
  (j:∀b o,b≠X.env.locals->b∉X.fs->b∉ch->s.heap.get? b=Y o->H b=none->h'.get? b=Y o)
  (A:∀b o,b≠X.env.locals->b∈X.fs->b∉ch->s.heap.get? b=Y o->H b=none->∃sl,h'.get? b=some {o with slots:=sl}) (free:∀b o,b∉ch->s.heap.get? b=Y o->H b=none->H' b=none)
  (D:∀b o,b∉ch->s.heap.get? b=Y o->∃N,h'.get? b=Y N)
  (J:∀b y,H b=Y (.tup y)->H' b=Y (.tup y)) (M:∀b o u,H b=Y (.frz o u)->H' b=Y (.frz o u)) (L:∀b ps,H b=Y (.tbl ps)->∃more,H' b=Y (.tbl (ps++more)))
  (ns:∀m,s.heap.Ns X.env.locals m->h'.Ns X.env.locals m) (ab:HOk X.prog X.w H' h') (hg:AllBare g'):
  Inv X pins σ H' {s with heap:=h',gens:=g',drawn:=d',toks:=t'}:=by
 let aa:∀b o,X.s₀.heap.get? b=Y o->b≠X.env.locals:=λb o e=>nV (nR (mW e) I.ok.above);let t:∀b o,X.s₀.heap.get? b=Y o->b∉X.ex->b∉ch:=λb o e a B=>by
  rcases(g b B).1 with z | z
  ·exact a z
  ·exact absurd (nR (mW e) z) (tI _)
 let f:∀x c,X.env.cells.lookup x=Y c->∀v,s.heap.IsCell c v->h'.IsCell c v:=λx c e v ⟨o,E,hd⟩=>by
  let h:c∉ch:=λz=>(g c z).2.2.1 x c e O
  by_cases hc:c∈X.fs
  ·obtain⟨sl,q⟩:=A c o (I.cne x c e) hc h E (I.freeC x c e)
   exact⟨_,q,hd⟩
  ·exact⟨o,j c o (I.cne x c e) hc h E (I.freeC x c e),hd⟩
 refine{I.ok,I.os,hg,⟨λb o e n B a=>?_,λb o e n B a=>?_,λb o e n a=>?_,λb o e a=>?_,λb y e=>J b y (I.base.tups b y e),λb o y e=>M b o y (I.base.frzs b o y e),λb ps e=>?_⟩, ?_,λx c e=>?_, ?_,λx c e=>?_,λp hp=>?_,ab,I.len}
 ·exact j b o (aa b o e) B (t b o e a) (I.base.keep b o e n B a) (I.base.free b o e n a)
 ·obtain⟨sl,w⟩:=I.base.slot b o e n B a
  obtain⟨ac,Q⟩:=A b _ (aa b o e) B (t b o e a) w (I.base.free b o e n a);exact⟨ac,Q⟩
 ·obtain⟨N,w⟩:=I.base.there b o e a
  exact free b N (t b o e a) w (I.base.free b o e n a)
 ·obtain⟨N,w⟩:=I.base.there b o e a
  exact D b N (t b o e a) w
 ·obtain⟨m1,w⟩:=I.base.tbls b ps e
  obtain⟨m2,Q⟩:=L b _ w;exact{m1++m2,by rw[Q,Array.append_assoc]}
 ·obtain⟨m,hn,hl⟩:=I.loc
  refine{m,ns m hn,λi x v w Q e3=>?_};obtain⟨u,r,l⟩:=hl i x v w Q e3;refine{u,r, ?_};rcases l with l |⟨k,c,e,z⟩
  ·exact .inl l
  ·exact .inr {k,c,e,f x c e _ z}
 ·obtain⟨v,z⟩:=I.cell x c e
  exact{v,f x c e v z}
 ·obtain⟨m,⟨o,_,_,E,_⟩,_⟩:=I.loc
  exact free _ o (λz=>(g _ z).2.1 rfl) E I.free
 ·refine wO (I.cell x c e) λv o E hd=>?_
  exact free c o (λz=>(g c z).2.2.1 x c e rfl) E (I.freeC x c e)
 ·refine wY (I.pin p hp) λe n ne nf d=>?_
  let h:p.1∉ch:=λz=>(g p.1 z).2.2.2 p hp O;exact{j p.1 p.2 ne nf h e n,free p.1 p.2 h e n,ne,nf,d}
theorem Inv.un{t':Nat}(I:Inv X pins σ H s)(u:Un X.fs [] H H' s.heap h')(f:HOk X.prog X.w H' h'):Inv X pins σ H' {s with heap:=h',toks:=t'}:=by
 obtain⟨m,⟨o,t,l,h,r⟩,_⟩:=id I.loc;obtain⟨v,k⟩:=u.any h I.free (by simp);exact I.step (g':=s.gens) (d':=s.drawn) (ch:=[]) (λ_ z=>nomatch z) (λb o _ g _ e n=>u.keep b o e n g (by simp)) (λb o _ g _ e n=>u.slot b o e n g (by simp)) (λb o _ e n=>u.free b o e n (by simp)) (λb o _ e=>u.there b o e (by simp)) u.tups u.frzs u.tbls (λq j=>by
  ext zBr j p d c a i;rw[h] at a;cases a;exact⟨_,d,c,k,i⟩) f I.bare
theorem Inv.call{g':Array GenState}{t':Nat}{d':Drawn}{ch:B9}(I:Inv X pins σ H s)(u:Un (frs X.stack) ch H H' s.heap h')(i:HOk X.prog X.w H' h')(t:AllBare g')
  (d:∀b∈ch,(b∈X.ex\/X.s₀⁻¹<=b)/\b≠X.env.locals/\(∀x c,X.env.cells.lookup x=Y c->c≠b)/\∀p∈X.pn++pins,p.1≠b):
  Inv X pins σ H' {s with heap:=h',gens:=g',drawn:=d',toks:=t'}:=by
 obtain⟨m,⟨o,B,w,k,r⟩,_⟩:=id I.loc;obtain⟨D,j⟩:=u.any k I.free λz=>(d _ z).2.1 O;exact I.step (ch:=ch) d (λb o j v a e n=>u.keep b o e n (λz=>(mG.mp (I.stkSub b z)).elim j v) a) (λb o _ _ a e n=>u.any e n a) (λb o a e n=>u.free b o e n a) (λb o a e=>u.there b o e a) u.tups u.frzs u.tbls (λA q=>by
  ext zBr q y h g f l;rw[k] at f;cases f;exact⟨_,h,g,j,l⟩) i t
theorem Inv.turned{t':Nat}{it:V1}(I:Inv X pins σ H s)(k:∀b o,b≠it->s.heap.get? b=Y o->h'.get? b=Y o)(w:H it=none)(f:it≠X.env.locals)
  (y:it∈X.ex\/X.s₀⁻¹<=it) (t:∀x c,X.env.cells.lookup x=Y c->c≠it) (j:∀p∈X.pn++pins,p.1≠it):Inv X pins σ H {s with heap:=h',toks:=t'}:=by
 let d:∀b u,H b=Y u->b≠it:=λb u e z=>by rw[z,w] at e;cases e
 refine I.step (g':=s.gens) (d':=s.drawn) (ch:=[it]) (λb A=>?_) (λb o _ _ a e _=>k b o (λz=>a (by simp[z])) e) (λb o _ _ a e _=>⟨o.slots,k b o (λz=>a (by simp[z])) e⟩) (λ_ _ _ _ n=>n)
  (λb o a e=>⟨o,k b o (λz=>a (by simp[z])) e⟩) (λ_ _ e=>e) (λ_ _ _ e=>e) (λb B e=>{#[],by rw[e];simp}) (λm h=>?_) (λb u e=>?_) I.bare
 ·let e:b=it:=by simpa using A
  subst e;exact⟨y,f,t,j⟩
 ·ext zBr h o l i g r
  exact⟨o,l,i,k _ o (Ne.symm f) g,r⟩
 ·refine(I.hok b u e).stay (λc v a q=>k c v ?_ q) (λ_ q=>q) λ_ _ q=>q
  rcases a with z | z
  ·rw[z];exact d b u e
  ·exact d c _ z
theorem Inv.tok(I:Inv X pins σ H s)(t:Nat):Inv X pins σ H {s with toks:=t}:=I.un (h':=s.heap) (t':=t) Un.refl I.hok
theorem Inv.kept{t':Nat}(I:Inv X pins σ H s)(k:∀b u,s.heap.get? b=Y u->h'.get? b=Y u):Inv X pins σ H {s with heap:=h',toks:=t'}:=I.un (Un.kept k) (I.hok.kept k)
theorem Inv.laid{a:V1}{o:HO}{t':Nat}(I:Inv X pins σ H s)(k:∀b u,s.heap.get? b=Y u->h'.get? b=Y u)(d:s⁻¹<=a)(c:ObjOk X.prog X.w (upd H a o) h' a o):
  Inv X pins σ (upd H a o) {s with heap:=h',toks:=t'}:=I.un (Un.laid k d (I.hok.fresh d)) (I.hok.laid k d c)
theorem Inv.write{x e:V1}{o:HO}{t':Nat}(I:Inv X pins σ H s)(d:Mut (H x))(f:e=x\/H e=Y (.own x))(k:∀b u,b≠e->s.heap.get? b=Y u->h'.get? b=Y u)(a:∃u,h'.get? e=Y u)
  (c:ObjOk X.prog X.w (upd H x o) h' x o):Inv X pins σ (upd H x o) {s with heap:=h',toks:=t'}:=I.un (Un.write d f k a) (I.hok.write d f k a c)
theorem Inv.weak{a:List (Option V)}(I:Inv X pins σ H s)(d:a...*=σ...*)(w:∀(i:Nat) v,a[i]? =Y ↥v->σ[i]? =Y ↥v):Inv X pins a H s:=
 {I.ok,I.os,I.bare,I.base,let ⟨m,hn,hl'⟩:=I.loc;{m,hn,λi x v e b c=>hl' i x v e (w i v b) c},I.cell,I.free,I.freeC,I.pin,I.hok,d.trans I.len}
theorem Inv.pins_of{pins':C7}(I:Inv X pins σ H s)(h:∀p∈pins',s.heap.get? p.1=Y p.2/\H p.1=none/\p.1≠X.env.locals/\p.1∉X.fs/\∀v,p.2.data≠ .cell v):Inv X pins' σ H s:=
 {I.ok,I.os,I.bare,I.base,I.loc,I.cell,I.free,I.freeC,λp a=>(mZ.mp a).elim (λz=>I.pin p (pG _ z)) (h p),I.hok,I.len}
abbrev _root_.C1:=List Str
theorem zMz{N:C1}(c:N.Nodup){i j:Nat}{x:Str}(a:N[i]? =Y x)(b:N[j]? =Y x):i=j:=by
 obtain⟨g,e⟩:=mS.mp a;obtain⟨f,d⟩:=mS.mp b;exact(List.getElem_inj c).mp (e.trans d.symm)
abbrev _root_.C9:=V0->V2->Prop
theorem zDg{M:Model}{A:Around}{E:C9}{i:Nat}{x:Str}{v:V}{u:V0}{Q:Unit->V2->Prop}(I:Inv X pins σ H s)(hN:X.N.Nodup)(hi:X.N[i]? =Y x)(t:Loc X.env.scope x)(r:RelV v u)
  (h:∀s',Inv X pins (σ.set i ↥v) H s'->(∃a,Heap.SameBut a s.heap s'.heap/\(a=X.env.locals\/X.env.cells.lookup x=Y a))->Q () s') (hf:X.fn x=true\/X.env.scope.names.lookup x=some .local:=by first | exact .inl O | exact .inr O | assumption):V8 M A (storeName X.env x u) Q E s:=by
 obtain⟨m,hn,hl⟩:=id I.loc;let ab:(X.env.scope.kind== .class ||(X.env.scope.kind== .module && X.env.locals !=X.env.globals))=false:=by rw[I.ok.kind];rfl
 let ag:i<σ...*:=by rw[I.len];exact(mS.mp hi).1
 let D:=I.cne;let l:∀{a:V1}{h':V5},(∃o,s.heap.get? a=Y o/\H a=none)->Heap.SameBut a s.heap h'->HOk X.prog X.w H h':=λ{a h'} ha f b ob e=>by
  obtain⟨_,_,w⟩:=ha;refine(I.hok b ob e).stay (λc w' hc q=>(f.2 c ?_).trans q) (λ_ q=>q) λ_ _ q=>q;rintro rfl;rcases hc with rfl | hc
  ·rw[w] at e;cases e
  ·rw[w] at hc;cases hc
 rcases t with hk | hk
 ·refine wpAny_storeName_local hk hn (λh' ah f=>?_) ab
  refine zBr (id hn) λoL _ _ ai _=>?_;refine h _ {I.ok,I.os,I.bare,⟨λb o e n J t=>?_,λb o e n J t=>?_,I.base.free,λb o e t=>?_,I.base.tups,I.base.frzs,I.base.tbls⟩,{_,ah,λj y v' g B e3=>?_},λy c e=>?_,I.free,I.freeC,λp hp=>?_,l ⟨oL,ai,I.free⟩ f,by simpa using I.len} {_,f, .inl O}
  ·exact(f.2 b (nV (nR (mW e) I.ok.above))).trans (I.base.keep b o e n J t)
  ·obtain⟨sl,g⟩:=I.base.slot b o e n J t
   exact{sl,(f.2 b (nV (nR (mW e) I.ok.above))).trans g}
  ·obtain⟨o',g⟩:=I.base.there b o e t
   exact{o',(f.2 b (nV (nR (mW e) I.ok.above))).trans g}
  ·by_cases L:j=i
   ·subst L
    rw[hi] at g;cases g;rw[sJ ag] at B;cases B;exact{u,r, .inl {hk,by simp}}
   ·rw[sR (Ne.symm L)] at B
    obtain⟨u',r',q⟩:=hl j y v' g B e3;refine{u',r', ?_};rcases q with⟨k,e⟩|⟨k,c,e,z⟩
    ·refine .inl {k, ?_}
     let:y≠x:=λe=>L (zMz hN g (e▸hi));simp[this,e]
    ·exact .inr {k,c,e,z.sameBut f (D y c e)}
  ·obtain⟨w',z⟩:=I.cell y c e
   exact{w',z.sameBut f (D y c e)}
  ·refine wY (I.pin p hp) λe n ne nf d=>?_
   exact{(f.2 p.1 ne).trans e,n,ne,nf,d}
 ·let N:X.fn x=true:=by
   rcases hf with z | z
   ·exact z
   ·rw[z] at hk;cases hk
  obtain⟨c,hc⟩:=I.ok.has x (.inl hk);obtain⟨w',z⟩:=I.cell x c hc;refine wpAny_storeName_cell I.ok.kind hk hc z (λh' aa f=>?_);obtain⟨oc,af,ac⟩:=id z;refine h {s with heap:=h'} {I.ok,I.os,I.bare,⟨λb o e n J t=>?_,λb o e n J t=>?_,I.base.free,λb o e t=>?_,I.base.tups,I.base.frzs,I.base.tbls⟩,{m,hn.sameBut f (Ne.symm (D x c hc)),λj y v' g B e3=>?_},λy c' e=>?_,I.free,I.freeC,λp hp=>?_,l {oc,af,I.freeC x c hc} f,by simpa using I.len} {c,f, .inr hc}
  ·exact(f.2 b (nV (nR (mW e) (I.ok.cab x c N hc)))).trans (I.base.keep b o e n J t)
  ·obtain⟨sl,g⟩:=I.base.slot b o e n J t
   exact{sl,(f.2 b (nV (nR (mW e) (I.ok.cab x c N hc)))).trans g}
  ·obtain⟨o',g⟩:=I.base.there b o e t
   exact{o',(f.2 b (nV (nR (mW e) (I.ok.cab x c N hc)))).trans g}
  ·by_cases L:j=i
   ·subst L
    rw[hi] at g;cases g;rw[sJ ag] at B;cases B;exact{u,r, .inr {.inl hk,c,hc,aa}}
   ·rw[sR (Ne.symm L)] at B
    obtain⟨u',r',q⟩:=hl j y v' g B e3;refine{u',r', ?_};rcases q with q |⟨k,c',e,z'⟩
    ·exact .inl q
    ·refine .inr {k,c',e,z'.sameBut f ?_}
     rintro rfl;exact L (zMz hN g (I.ok.inj _ _ _ e hc▸hi))
  ·by_cases ae:c'=c
   ·subst ae;exact⟨_,aa⟩
   ·obtain⟨w2,z2⟩:=I.cell y c' e
    exact{w2,z2.sameBut f ae}
  ·refine wY (I.pin p hp) λe n ne nf d=>?_
   refine{(f.2 p.1 ?_).trans e,n,ne,nf,d};intro q;rw[q,af] at e;let q':oc=p.2:=mQ e;exact d w' (by rw[<-q'];exact ac)
theorem zCt{M:Model}{A:Around}{E:C9}{i:Nat}{x:Str}{v:V}{u:V0}{Q:Unit->V2->Prop}(I:Inv X pins σ H s)(f:X.N.Nodup)(e:X.N[i]? =Y x)(c:Loc X.env.scope x)(r:RelV v u)
  (h:∀a,Inv X pins (σ.set i ↥v) H a->Q () a) (d:X.fn x=true\/X.env.scope.names.lookup x=some .local:=by first | exact .inl O | exact .inr O | assumption):V8 M A (storeName X.env x u) Q E s:=
 zDg I f e c r (λa b _=>h a b) d
theorem Inv.call'{s':V2}{ch:B9}(I:Inv X pins σ H s)(f:s'.os=s.os)(u:Un (frs X.stack) ch H H' s.heap s'.heap)(d:HOk X.prog X.w H' s'.heap)(k:AllBare s'.gens)
  (a:∀b∈ch,(b∈X.ex\/X.s₀⁻¹<=b)/\b≠X.env.locals/\(∀x c,X.env.cells.lookup x=Y c->c≠b)/\∀p∈X.pn++pins,p.1≠b):Inv X pins σ H' s':=by
 obtain⟨h',g,h,i,j⟩:=s';let e:j=s.os:=f;subst e;exact I.call (g':=g) (t':=i) (d':=h) u d k a
end
abbrev XK:=V0->Option V1->Hp->Prop
abbrev St:=List (Option V)
abbrev VK:=V->Hp->Prop
abbrev TE:=St->Hp->VK->Prop
abbrev TT:=St->Hp->(Bool->Hp->Prop)->Prop
abbrev TA:=St->Hp->(List V->Hp->Prop)->Prop
structure gO where
 nx:St->Hp->Prop
 rt:VK
 bk:St->Hp->Prop:=λ_ _=>False
 ct:St->Hp->Prop:=λ_ _=>False
abbrev TS:=gO->St->Hp->Prop
def EP(X:Cx)(a:C7)(σ:St)(Q:VK)(u:V0)(s':V2):Prop:=∃v b,Inv X a σ b s'/\RelV v u/\Q v b
def TP(X:Cx)(a:C7)(σ:St)(Q:Bool->Hp->Prop)(b:Bool)(s':V2):Prop:=∃c,Inv X a σ c s'/\Q b c
def AP(X:Cx)(a:C7)(σ:St)(Q:List V->Hp->Prop)(us:B7)(s':V2):Prop:=∃b c,Inv X a σ c s'/\Vals b us/\Q b c
def SP(X:Cx)(a:C7)(D:gO)(f:Flow)(s':V2):Prop:=
 match f with|.next=>∃c b,Inv X a c b s'/\D.nx c b|.brk=>∃c b,Inv X a c b s'/\D.bk c b|.cont=>∃c b,Inv X a c b s'/\D.ct c b|.ret u=>∃v c b,Inv X a c b s'/\RelV v u/\D.rt v b
def PE(X:Cx)(e:Expr)(t:TE):Prop:=
 ∀(a:C7)(s:V2)(σ:St)(H:Hp)(Q:VK),Inv X a σ H s->t σ H Q->V8 (S5 X.prog X.w) X.A (eval e X.env) (EP X a σ Q) X.xe s
def PT(X:Cx)(e:Expr)(t:TT):Prop:=
 ∀(a:C7)(s:V2)(σ:St)(H:Hp)(Q:Bool->Hp->Prop),Inv X a σ H s->t σ H Q->V8 (S5 X.prog X.w) X.A (isTrue e X.env (eval e X.env)) (TP X a σ Q) X.xe s
def PW(X:Cx)(e:Expr)(t:TT):Prop:=
 ∀(b:Sem V0)(a:C7)(s:V2)(σ:St)(H:Hp)(Q:Bool->Hp->Prop),Inv X a σ H s->t σ H Q->V8 (S5 X.prog X.w) X.A (isTrue e X.env b) (TP X a σ Q) X.xe s
theorem i8{X:Cx}{e:Expr}{t:TT}(h:PW X e t):PT X e t:=h _
abbrev _root_.C5:=List Expr
def PA(X:Cx)(c:C5)(t:TA):Prop:=
 ∀(b:Pos)(a:C7)(s:V2)(σ:St)(H:Hp)(Q:List V->Hp->Prop),Inv X a σ H s->t σ H Q->V8 (S5 X.prog X.w) X.A (spliced (S2 b (A2 c X.env))) (AP X a σ Q) X.xe s
def PS(X:Cx)(st:V6)(t:TS):Prop:=
 ∀(a:C7)(s:V2)(σ:St)(H:Hp)(D:gO),Inv X a σ H s->t D σ H->V8 (S5 X.prog X.w) X.A (exec st X.env) (SP X a D) X.xe s
def PSs(X:Cx)(st:List V6)(t:TS):Prop:=
 ∀(a:C7)(s:V2)(σ:St)(H:Hp)(D:gO),Inv X a σ H s->t D σ H->V8 (S5 X.prog X.w) X.A (execs st X.env) (SP X a D) X.xe s
theorem thn{α:Type}{t:Sem α}{Q b:α->V2->Prop}{M:Model}{A:Around}{E:C9}{s:V2}(h:V8 M A t Q E s)(c:∀a s,Q a s->b a s):V8 M A t b E s:=pL h c λ_ _ x=>x
section
variable{X:Cx}
def qH(i:Nat):TE:=λσ H Q=>match σ[i]? with|some ↥v=>Q v H|_=>False
theorem yBs{i:Nat}{σ:St}{H:Hp}{Q:VK}(h:qH i σ H Q):∃v,σ[i]? =Y ↥v/\Q v H:=by
 unfold qH at h;split at h
 ·exact{_,by assumption,h}
 ·exact h.elim
def tC(v:V):TE:=λ_ H Q=>Q v H
theorem zWw{i:Nat}{x:Str}{f:Pos}(t:X.N[i]? =Y x)(q:Vis X.env.scope x)(g:(x==("__debug__" :Str))=false:=by decide)(j:(x==("__classdict__" :Str))=false:=by decide):PE X (.Name x f) (qH i):=by
 intro d s σ H Q I h;obtain⟨v,e,h⟩:=yBs h;obtain⟨m,o,p⟩:=I.loc;obtain⟨u,r,l⟩:=p i x v t e q;let b:EP X d σ Q u s:=⟨v,H,I,r,h⟩;rcases l with⟨hk,n⟩|⟨hk,c,k,a⟩
 ·exact wpAny_Name (wpAny_loadName_local I.ok.kind hk o n b) g
 ·rcases hk with hk | hk
  ·exact wpAny_Name (wpAny_loadName_cell I.ok.kind hk k a b) g
  ·exact wpAny_Name (wpAny_loadName_free I.ok.kind hk k a b j) g
theorem zE{i j pos}:PE X (.Constant (.int i) j pos) (tC (.int i)):=λ_ _ _ H _ I h=>wpAny_Constant_int {.int i,H,I.tok _,⟨_,O⟩,h}
theorem vQ{b j pos}:PE X (.Constant (.bool b) j pos) (tC (.bl b)):=λ_ _ _ H _ I h=>Constant_bool {.bl b,H,I,O,h}
theorem zAc{j pos}:PE X (.Constant .none j pos) (tC .non):=λ_ _ _ H _ I h=>Constant_none {.non,H,I,O,h}
theorem zP{x j pos}:PE X (.Constant (.str x) j pos) (tC (.str x)):=λ_ _ _ H _ I h=>Calls.Constant_str {.str x,H,I.tok _,⟨_,O⟩,h}
def Gl(X:Cx)(x:Str):Prop:=X.env.kindOf x=some .globalImplicit
theorem jA{E:C9}{a:C7}{s:V2}{σ:St}{H:Hp}{x:Str}{u:V0}{b:Pos}{Q:C9}(I:Inv X a σ H s)(c:Gl X x)(d:X.mg x=Y u)(h:Q u s)
  (e:(x==("__debug__" :Str))=false:=by decide):V8 (S5 X.prog X.w) X.A (eval (.Name x b) X.env) Q E s:=
 Calls.Name_function_global I.ok.kind c (Calls.loadGlobal_global (by rw[I.ok.glob];exact I.mod.glob.keeps I.bk) d h) e
theorem kI{E:C9}{a:C7}{s:V2}{σ:St}{H:Hp}{x:Str}{u:V0}{b:Pos}{Q:C9}(I:Inv X a σ H s)(i:Gl X x)(c:X.mg x=none)(j:A1 x=Y u)(h:Q u s)
  (f:x≠ "__name__":=by decide) (d:(x==("__debug__" :Str))=false:=by decide):V8 (S5 X.prog X.w) X.A (eval (.Name x b) X.env) Q E s:=by
 obtain⟨k,g,e⟩:=I.mod.blt;exact Calls.Name_function_global I.ok.kind i (Calls.loadGlobal_builtin (by rw[I.ok.glob];exact I.mod.glob.keeps I.bk) c (by rw[I.ok.blt];exact g.keeps I.bk) ((e x f).trans j) h) d
theorem zQj{x:Str}{v:V}{u:V0}{a:Pos}(d:Gl X x)(b:X.mg x=Y u)(r:RelV v u)(c:(x==("__debug__" :Str))=false:=by decide):PE X (.Name x a) (tC v):=
 λ_ _ _ H _ I h=>jA I d b ⟨v,H,I,r,h⟩ c
theorem vL{x:Str}{v:V}{u:V0}{a:Pos}(e:Gl X x)(b:X.mg x=none)(f:A1 x=Y u)(r:RelV v u)(d:x≠ "__name__":=by decide)(c:(x==("__debug__" :Str))=false:=by decide):PE X (.Name x a) (tC v):=
 λ_ _ _ H _ I h=>kI I e b f ⟨v,H,I,r,h⟩ d c
variable{a b:Expr}{ta tb:TE}{pos:Pos}
def PC(X:Cx)(d:CmpOp)(a b:Expr)(t:TE):Prop:=
 ∀(c:C7)(s:V2)(σ:St)(H:Hp)(Q:VK),Inv X c σ H s->t σ H Q->
  V8 (S5 X.prog X.w) X.A (eval a X.env) (λv f=>V8 (S5 X.prog X.w) X.A (eval b X.env) (λu e=>V8 (S5 X.prog X.w) X.A (A3 d v u) (EP X c σ Q) X.xe e) X.xe f) X.xe s
theorem zMx(b:Expr){c:CmpOp}(h:c≠ .In)(d:c≠ .NotIn):behindInMarks c b=false:=by
 let f:(c==CmpOp.In)=false:=by cases c<;>first | rfl | exact absurd O h
 let e:(c==CmpOp.NotIn)=false:=by cases c<;>first | rfl | exact absurd O d
 cases b<;>simp[behindInMarks,f,e]
def yDv(ta:TE):TE:=λσ H Q=>ta σ H λx c=>Q (.bl (decide (x= .non))) c
def zWi(ta:TE):TE:=λσ H Q=>ta σ H λx c=>Q (.bl (!decide (x= .non))) c
theorem RelV.none_iff{x:V}{v:V0}(r:RelV x v):(v==Value.none)=decide (x= .non):=by
 cases x with
 |non=>cases r;rfl|bl _=>cases r;rfl|int _=>obtain⟨t,rfl⟩:=r;rfl
 |str _=>obtain⟨t,rfl⟩:=r;rfl
 |byt _=>obtain⟨t,rfl⟩:=r;rfl
 |flt _=>obtain⟨t,rfl⟩:=r;rfl
 |ref _=>cases r;rfl|ty _=>cases r;rfl
theorem zKh{j pos'}(f:PE X a ta):PC X .Is a (.Constant .none j pos') (yDv ta):=by
 intro c s σ H Q I h;refine thn (f c s σ H _ I h) λv k z_=>?_;obtain⟨x,e,d,g,i⟩:=z_;exact Constant_none (is_none_gen {.bl _,e,d,by rw[g.none_iff];rfl,i})
theorem zQr{j pos'}(f:PE X a ta):PC X .IsNot a (.Constant .none j pos') (zWi ta):=by
 intro c s σ H Q I h;refine thn (f c s σ H _ I h) λv k z_=>?_;obtain⟨x,e,d,g,i⟩:=z_;exact Constant_none (isnot_none_gen {.bl _,e,d,by rw[g.none_iff];rfl,i})
def tB(t:TE):TT:=λσ H Q=>t σ H λx d=>∃c,x= .bl c/\Q c d
theorem zJx{d:CmpOp}{t:TE}(h:PC X d a b t)(f:behindInMarks d b=false:=by first | exact zMx _ ∎ ∎| rfl):PE X (.Compare a [d] [b] pos) t:=λc s σ H Q I e=>wpAny_Compare1 (h c s σ H Q I e) f
theorem zAm{f:CmpOp}{t:TE}(h:PC X f a b t)(g:behindInMarks f b=false:=by first | exact zMx _ ∎ ∎| rfl):PT X (.Compare a [f] [b] pos) (tB t):=by
 intro e s σ H Q I k;refine wpAny_isTrue_Compare1 (thn (h e s σ H _ I k) λv o g=>thn g λu p m=>thn m λc r z_=>?_) g;obtain⟨x,i,l,n,j⟩:=z_;obtain⟨d,rfl,q⟩:=j;cases n;exact rW ⟨i,l,q⟩
theorem yG{e:Expr}{t:TE}(h:PE X e t)(k:∀whole,isTrue e X.env whole=(do let v <-whole;S0 e.pos;holding [v] (truthy v)):=by intro _;rfl):PT X e (tB t):=by
 intro c s σ H Q I i;refine isTrue_plain (thn (h c s σ H _ I i) λv m z_=>?_) (k _);obtain⟨x,f,j,l,g⟩:=z_;obtain⟨d,rfl,q⟩:=g;cases l;exact rW ⟨f,j,q⟩
variable{tA tB':TT}{rest:C5}
def yFk(t u:TT):TT:=λσ H Q=>t σ H λc d=>if c=true then u σ d Q else Q false d
def tOr(t u:TT):TT:=λσ H Q=>t σ H λc d=>if c=true then Q true d else u σ d Q
def yFg(t:TT):TT:=λσ H Q=>t σ H λc d=>Q (!c) d
theorem qE(f:PT X a tA):PW X (.BoolOp .And [a] pos) tA:=by
 intro i d s σ H Q I h;refine isTrue_and (thn (f d s σ H Q I h) λc g e=>?_)
 cases c with|true=>exact isTrue_and_nil e|false=>exact e
theorem zAl(f:PT X a tA):PW X (.BoolOp .Or [a] pos) tA:=by
 intro i d s σ H Q I h;refine isTrue_or (thn (f d s σ H Q I h) λc g e=>?_)
 cases c with|false=>exact isTrue_or_nil e|true=>exact e
theorem vZ(k:PT X a tA)(l:PW X (.BoolOp .And (b::rest) pos) tB'):PW X (.BoolOp .And (a::b::rest) pos) (yFk tA tB'):=by
 intro j d s σ H Q I h;refine isTrue_and (thn (k d s σ H _ I h) λc i z_=>?_);obtain⟨f,e,g⟩:=z_
 cases c with|true=>exact l j d i σ f Q e g|false=>exact⟨f,e,g⟩
theorem zBb(k:PT X a tA)(l:PW X (.BoolOp .Or (b::rest) pos) tB'):PW X (.BoolOp .Or (a::b::rest) pos) (tOr tA tB'):=by
 intro j d s σ H Q I h;refine isTrue_or (thn (k d s σ H _ I h) λc i z_=>?_);obtain⟨f,e,g⟩:=z_
 cases c with|true=>exact⟨f,e,g⟩|false=>exact l j d i σ f Q e g
theorem wJ(f:PT X a tA):PT X (.UnaryOp .Not a pos) (yFg tA):=by
 intro d s σ H Q I h;exact isTrue_not (f d s σ H (λc e=>Q (!c) e) I h)
def zRv(ta tb:TE):TE:=λσ H Q=>ta σ H λx d=>∃c,x= .bl c/\if c=true then tb σ d Q else Q (.bl false) d
def yFw(ta tb:TE):TE:=λσ H Q=>ta σ H λx d=>∃c,x= .bl c/\if c=true then Q (.bl true) d else tb σ d Q
def yDc(ta:TE):TE:=λσ H Q=>ta σ H λx d=>∃c,x= .bl c/\Q (.bl (!c)) d
theorem qT{op}{t:TE}(h:PE X a t):PE X (.BoolOp op [a] pos) t:=λc s σ H Q I d=>BoolOp_one (h c s σ H Q I d)
theorem qJ(j:PE X a ta)(l:PE X (.BoolOp .And (b::rest) pos) tb):PE X (.BoolOp .And (a::b::rest) pos) (zRv ta tb):=by
 intro d s σ H Q I h;refine BoolOp_and (thn (j d s σ H _ I h) λv i z_=>?_);obtain⟨x,f,g,k,e⟩:=z_;obtain⟨c,rfl,e⟩:=e;cases k;refine rW ?_
 cases c with|true=>exact l d i σ f Q g e|false=>exact{.bl false,f,g,O,e}
theorem pe_or(j:PE X a ta)(l:PE X (.BoolOp .Or (b::rest) pos) tb):PE X (.BoolOp .Or (a::b::rest) pos) (yFw ta tb):=by
 intro d s σ H Q I h;refine BoolOp_or (thn (j d s σ H _ I h) λv i z_=>?_);obtain⟨x,f,g,k,e⟩:=z_;obtain⟨c,rfl,e⟩:=e;cases k;refine rW ?_
 cases c with|false=>exact l d i σ f Q g e|true=>exact{.bl true,f,g,O,e}
def tIf(t:TT)(ta tb:TE):TE:=λσ H Q=>t σ H λc d=>if c=true then ta σ d Q else tb σ d Q
theorem zMy{c:Expr}(k:PT X c tA)(l:PE X a ta)(m:PE X b tb):PE X (.IfExp c a b pos) (tIf tA ta tb):=by
 intro e s σ H Q I h;refine wpAny_IfExp (thn (k e s σ H _ I h) λd f z_=>?_);obtain⟨i,g,j⟩:=z_
 cases d with|true=>exact l e f σ i Q g j|false=>exact m e f σ i Q g j
end
def SqL(K:A6)(H:Hp)(a:V1)(xs:B3):Prop:=
 Rd H a (.lst xs)\/
  ∃(o:Obj)(b:Array V0)(n:Nat),K.lookup a=Y o/\o.cls= .type "list"/\o.dict=none/\o.data= .seq b n/\b.size<=V9/\Vals xs b.toList
def SqT(K:A6)(H:Hp)(a:V1)(xs:B3):Prop:=
 Rd H a (.tup xs)\/
  ∃(o:Obj)(b:Array V0)(n:Nat),K.lookup a=Y o/\o.cls= .type "tuple"/\o.data= .seq b n/\b.size<=V9/\Vals xs b.toList
def absV:V0->Option V
 |.none=>some .non|.bool b=>Y (.bl b)|.int i _=>Y (.int i)|.str x _=>Y (.str x)|.bytes b _=>Y (.byt b)|.float b _=>Y (.flt b)|.ref a=>Y (.ref a)|.type n=>Y (.ty n)|_=>none
theorem RelV.abs{x:V}{u:V0}(r:RelV x u):absV u=Y x:=by
 cases x with
 |non=>cases r;rfl|bl _=>cases r;rfl|int _=>obtain⟨t,rfl⟩:=r;rfl
 |str _=>obtain⟨t,rfl⟩:=r;rfl
 |byt _=>obtain⟨t,rfl⟩:=r;rfl
 |flt _=>obtain⟨t,rfl⟩:=r;rfl
 |ref _=>cases r;rfl|ty _=>cases r;rfl
theorem RelV.inj{x y:V}{u:V0}(r:RelV x u)(q:RelV y u):x=y:=mQ (r.abs.symm.trans q.abs)
theorem Vals.inj:∀{xs ys:B3}{us:B7},Vals xs us->Vals ys us->xs=ys
 |_,_,_, .nil, .nil=>rfl|_,_,_, .cons r t, .cons a b=>by rw[r.inj a,Vals.inj t b]
section
variable{X:Cx}{pins:C7}{σ:St}{H:Hp}{s:V2}{a:V1}{xs ys:B3}
theorem SqL.of{K:A6}(h:H a=Y (.lst xs)):SqL K H a xs:=.inl (.inl h)
theorem SqT.of{K:A6}(h:H a=Y (.tup xs)):SqT K H a xs:=.inl (.inl h)
theorem Inv.list(I:Inv X pins σ H s)(h:SqL X.K H a xs):∃b:List V0,Vals xs b/\PlainL s.heap a b.toArray/\xs...*<=V9:=by
 rcases h with h |⟨o,b,n,c,d,f,g,i,r⟩
 ·obtain⟨z,b,n,r,e⟩:=h.ok I.hok
  exact{b,r,⟨_,n,e,O,O,O⟩,z}
 ·refine{b.toList,r,⟨o,n,I.kIn a o c,d,f,by simpa using g⟩, ?_}
  let e:=r...*;simp only[tM] at e
  lia
theorem Inv.tuple(I:Inv X pins σ H s)(h:SqT X.K H a xs):∃b:List V0,Vals xs b/\IsTup s.heap a b.toArray/\xs...*<=V9:=by
 rcases h with h |⟨o,b,n,c,d,f,g,r⟩
 ·obtain⟨z,b,r,p⟩:=h.ok I.hok
  exact⟨b,r,p,z⟩
 ·refine{b.toList,r,⟨o,I.kIn a o c,d,n,by simpa using f⟩, ?_}
  let e:=r...*;simp only[tM] at e
  lia
theorem Inv.list_inj(I:Inv X pins σ H s)(h:SqL X.K H a xs)(h':SqL X.K H a ys):xs=ys:=by
 obtain⟨c,r,⟨o,n,e,_,_,d⟩,_⟩:=I.list h;obtain⟨b,i,⟨l,k,f,_,_,g⟩,_⟩:=I.list h';rw[e] at f;cases f;rw[d] at g;injection g with j _;let:c=b:=by simpa using congrArg Array.toList j
 subst this;exact r.inj i
end
abbrev Cx.wish(X:Cx)(E:C9):Cx:={X with xe:=E}
abbrev Cx.nox(X:Cx):Cx:=X.wish λ_ _=>False
theorem Cx.Ok.wish{X:Cx}(a:X.Ok)(E:C9):(X.wish E).Ok:=
 ⟨a.mod,a.kind,a.glob,a.blt,a.above,a.inj,a.has,a.cab,a.hd,a.frames,a.stk,a.exf,a.bs,a.bsz,a.noex,a.exfs,a.funs,a.frf⟩
theorem Cx.Ok.unwish{X:Cx}{E:C9}(a:(X.wish E).Ok):X.Ok:=
 ⟨a.mod,a.kind,a.glob,a.blt,a.above,a.inj,a.has,a.cab,a.hd,a.frames,a.stk,a.exf,a.bs,a.bsz,a.noex,a.exfs,a.funs,a.frf⟩
section
variable{X:Cx}{pins:C7}{σ:St}{H:Hp}{s:V2}{E:C9}
theorem Inv.wish(I:Inv X pins σ H s)(E:C9):Inv (X.wish E) pins σ H s:={I.ok.wish E,I.os,I.bare,I.base,I.loc,I.cell,I.free,I.freeC,I.pin,I.hok,I.len}
theorem Inv.unwish(I:Inv (X.wish E) pins σ H s):Inv X pins σ H s:=⟨I.ok.unwish,I.os,I.bare,I.base,I.loc,I.cell,I.free,I.freeC,I.pin,I.hok,I.len⟩
theorem SP.unwish{D:gO}{f:Flow}{s':V2}(h:SP (X.wish E) pins D f s'):SP X pins D f s':=by
 cases f with
 |next=>obtain⟨b,a,I,q⟩:=h;exact⟨b,a,I.unwish,q⟩
 |brk=>obtain⟨b,a,I,q⟩:=h;exact⟨b,a,I.unwish,q⟩
 |cont=>obtain⟨b,a,I,q⟩:=h;exact⟨b,a,I.unwish,q⟩
 |ret u=>obtain⟨v,b,a,I,r,q⟩:=h;exact⟨v,b,a,I.unwish,r,q⟩
theorem PSs.nox{st:List V6}{t:TS}(h:PSs X.nox st t):PSs X st t:=λpins s σ H D I a=>
 pL (h pins s σ H D (I.wish _) a) (λ_ _ q=>q.unwish) λ_ _ z=>False.elim z
end
section
variable{X:Cx}{st:V6}{rest:List V6}{t u:TS}{e:Expr}{te:TE}{pos:Pos}
def zWq:TS:=λD σ H=>D.nx σ H
def vV(t u:TS):TS:=λD σ H=>t {D with nx:=u D} σ H
theorem zL:PSs X [] zWq:=λ_ _ σ H _ I h=>aH ⟨σ,H,I,h⟩
theorem zC(i:PS X st t)(g:PSs X rest u):PSs X (st::rest) (vV t u):=by
 intro a s σ H D I h;refine cE (thn (i a s σ H {D with nx:=u D} I h) λf b q=>?_)
 cases f with
 |next=>
  ext wO q j c d q;exact g a b j c D d q
 |ret v=>exact q|brk=>exact q|cont=>exact q
theorem zG(b:PS X st t):PSs X [st] t:=by
 intro a s σ H D I h;refine cE (thn (b a s σ H D I h) λf c q=>?_)
 cases f with|next=>exact aH q|ret v=>exact q|brk=>exact q|cont=>exact q
def tCont:TS:=λD σ H=>D.ct σ H
theorem zMp:PS X (.Continue pos) tCont:=λ_ _ σ H _ I h=>wpAny_Continue ⟨σ,H,I,h⟩
theorem Inv.quiet{a:C7}{σ:St}{H:Hp}{s:V2}(I:Inv X a σ H s):interactive X.env=false:=by simp[interactive,I.ok.kind]
def zWj(te:TE):TS:=λD σ H=>te σ H λ_ a=>D.nx σ a
theorem xS(d:PE X e te)(f:S1 e none pos.line X.env=pure false:=by rfl):PS X (.Expr e pos) (zWj te):=by
 intro a s σ H D I h;refine wpAny_Expr_any (thn (d a s σ H _ I h) λv i z_=>?_) I.quiet f;obtain⟨x,c,b,j,g⟩:=z_;exact ⟨σ,c,b,g⟩
def zLo(te:TE):TS:=λD σ H=>te σ H D.rt
theorem zJ(d:PE X e te):PS X (.Return ↥e pos) (zLo te):=by
 intro a s σ H D I h;refine wpAny_Return_some (thn (d a s σ H _ I h) λv i z_=>?_);obtain⟨x,c,b,f,g⟩:=z_;exact ⟨x,σ,c,b,f,g⟩
def yDn:TS:=λD _ H=>D.rt .non H
def yEn(c:TT)(t u:TS):TS:=λD σ H=>c σ H λb a=>if b=true then t D σ a else u D σ a
theorem zT{c:Expr}{a b:List V6}{k:TT}(m:PT X c k)(n:PSs X a t)(o:PSs X b u):PS X (.If c a b pos) (yEn k t u):=by
 intro f s σ H D I h;refine wpAny_If (thn (m f s σ H _ I h) λd g z_=>?_);obtain⟨j,i,l⟩:=z_
 cases d with|true=>exact n f g σ j D i l|false=>exact o f g σ j D i l
def zOy:TS:=λ_ _ _=>False
theorem zEb{a:List V6}:PSs X a zOy:=λ_ _ _ _ _ _ h=>h.elim
end
abbrev TG:=V->St->Hp->(St->Hp->Prop)->Prop
abbrev TGs:=List V->St->Hp->(St->Hp->Prop)->Prop
def PG(X:Cx)(a:Expr)(t:TG):Prop:=
 ∀(b:C7)(s:V2)(σ:St)(H:Hp)(v:V)(u:V0)(Q:St->Hp->Prop),Inv X b σ H s->RelV v u->t v σ H Q->
  V8 (S5 X.prog X.w) X.A (assign a X.env u) (λ_ e=>∃d c,Inv X b d c e/\Q d c) X.xe s
def PGs(X:Cx)(ts:C5)(t:TGs):Prop:=
 ∀(a:C7)(s:V2)(σ:St)(H:Hp)(b:B3)(e:B7)(Q:St->Hp->Prop),Inv X a σ H s->Vals b e->t b σ H Q->
  V8 (S5 X.prog X.w) X.A (assignInOrder ((S6 ts X.env).map (·.2)) e) (λ_ f=>∃d c,Inv X a d c f/\Q d c) X.xe s
abbrev yFs:=V->V->V->Hp->(Hp->Prop)->Prop
def PSet(X:Cx)(t:yFs):Prop:=
 ∀(a:C7)(s:V2)(σ:St)(H:Hp)(o i v:V)(c b u:V0)(Q:Hp->Prop),Inv X a σ H s->RelV o c->RelV i b->RelV v u->t o i v H Q->
  V8 (S5 X.prog X.w) X.A (setItem c b u) (λ_ e=>∃d,Inv X a σ d e/\Q d) X.xe s
abbrev TIp:=V->V->Hp->VK->Prop
def PIp(X:Cx)(b:Operator)(t:TIp):Prop:=
 ∀(a:C7)(s:V2)(σ:St)(H:Hp)(x y:V)(v u:V0)(Q:VK),Inv X a σ H s->RelV x v->RelV y u->t x y H Q->
  V8 (S5 X.prog X.w) X.A (inplaceOp b v u) (EP X a σ Q) X.xe s
section
variable{X:Cx}{pos:Pos}
def qG(i:Nat):TG:=λv σ H Q=>Q (σ.set i ↥v) H
theorem yF{i:Nat}{x:Str}(f:X.N.Nodup)(d:X.N[i]? =Y x)(c:Loc X.env.scope x)(e:X.fn x=true\/X.env.scope.names.lookup x=some .local:=by first | exact .inl O | exact .inr O | assumption):PG X (.Name x pos) (qG i):=by
 intro a s σ H v u Q I r h;exact cZ (zCt I f d c r (λg b=>⟨_,H,b,h⟩) e)
def yBh:TGs:=λa σ H Q=>a= []/\Q σ H
def zNa(t:TG)(u:TGs):TGs:=λa σ H Q=>∃v r,a=v::r/\t v σ H λc b=>u r c b Q
theorem zCh:PGs X [] yBh:=by
 intro a s σ H b c Q I r h;obtain⟨e,h⟩:=h;subst e;cases r;exact assignInOrder_nil ⟨σ,H,I,h⟩
theorem vP{e:Expr}{b:C5}{t:TG}{u:TGs}(n:PG X e t)(m:PGs X b u)
  (g:(S6 (e::b) X.env).map (·.2)=assign e X.env::(S6 b X.env).map (·.2):=by rfl):PGs X (e::b) (zNa t u):=by
 intro a s σ H o q Q I r h;ext wO h v p k h;subst k
 cases r with
 |cons r j=>
  rw[g];refine assignInOrder_cons (thn (n a s σ H _ _ _ I r h) λ_ c z_=>?_);obtain⟨f,d,l,i⟩:=z_;exact m a c f d _ _ Q l j i
def zXi(K:A6)(n:Nat)(t:TGs):TG:=λv σ H Q=>∃a b,v= .ref a/\SqT K H a b/\b...*=n/\t b σ H Q
theorem zOi{d:C5}{k:Nat}{t:TGs}{n:Nat}(l:X.calm=true)(h:PGs X d t)
  (y:(S6 d X.env)...*=n:=by rfl) (g:(S6 d X.env).findIdx? (·.1)=none:=by rfl):PG X (.Tuple d k pos) (zXi X.K n t):=by
 intro c s σ H v u Q I r f;ext zV f a q p A B f;subst p;cases r;refine xE (I.tuple A) λm i z D=>?_;refine assign_Tuple_tuple (I.ok.hd l) z (by simp[y,<-B,i...*]) g λj x=>?_;let w:Inv X c σ H {s with heap:=j}:=I.kept (t':=s.toks) λb o e=>x b o (nV (mW e)) e;exact h c _ σ H q _ Q w (by simpa using i) f
def gSub(e d:TE)(t:yFs):TG:=λv σ H Q=>e σ H λo b=>d σ b λi a=>t o i v a λc=>Q σ c
theorem yFm{o i:Expr}{e d:TE}{t:yFs}(j:PE X o e)(E:PE X i d)(p:PSet X t)
  (n:∀v,assign (.Subscript o i pos) X.env v=(do
   let b <-holding [v] (eval o X.env);let c <-holding [v,b] (eval i X.env)
   S0 pos
   holding [v,b,c] (setItem b c v)
   release [v,b,c] []):=by intro _;rfl):PG X (.Subscript o i pos) (gSub e d t):=by
 intro a s σ H v u Q I r h;rw[n];refine mF (rO (thn (j a s σ H _ I h) λb f z_=>?_));obtain⟨x,l,D,J,q⟩:=z_;refine mF (rO (thn (E a f σ l _ D q) λc w z_=>?_));obtain⟨y,z,g,A,L⟩:=z_;refine mF (sF (mF (rO (thn (p a w σ z x y v b c u _ g J A r L) λ_ M z_=>?_))));obtain⟨m,k,B⟩:=z_;exact wpAny_release ⟨σ,m,k,B⟩
def zOq(a:TE)(g:TG):TS:=λD σ H=>a σ H λx b=>g x σ b D.nx
theorem yHb{b e:Expr}{c:TE}{g:TG}(n:PE X e c)(k:PG X b g)(i:swapsWithSole [b] e pos.line X.env=pure false:=by rfl)(l:swappedStores [b] e X.env=pure none:=by rfl)
  (p:(S6 [b] X.env).map (·.2)= [assign b X.env]:=by rfl):PS X (.Assign [b] e pos) (zOq c g):=by
 intro a s σ H D I h;refine wpAny_Assign_stores (thn (n a s σ H _ I h) λv d z_=>?_) i l;obtain⟨x,f,m,o,j⟩:=z_;rw[p];exact thn (k a d σ f x v _ m o j) λ_ r q=>q
theorem zDy{i:Nat}{x:Str}{e:Expr}{c:TE}{a:Pos}(q:X.N.Nodup)(m:X.N[i]? =Y x)(k:Loc X.env.scope x)(n:PE X e c)(g:S1 e ↥(.Name x a) pos.line X.env=pure false:=by rfl)(p:X.fn x=true\/X.env.scope.names.lookup x=some .local:=by first | exact .inl O | exact .inr O | assumption):
  PS X (.Assign [.Name x a] e pos) (zOq c (qG i)):=by
 intro b s σ H D I h;refine wpAny_Assign_Name (thn (n b s σ H _ I h) λv r z_=>?_) g;obtain⟨y,f,l,o,j⟩:=z_;exact zCt l q m k o (λt d=>⟨_,f,d,j⟩) p
def yFt(i:Nat)(d:TE)(c:TIp):TS:=λD σ H=>∃x,σ[i]? =Y ↥x/\d σ H λy b=>c x y b λz a=>D.nx (σ.set i ↥z) a
theorem zOh{i:Nat}{x:Str}{e:Expr}{q:TE}{f:Operator}{p:TIp}{d:Pos}(hN:X.N.Nodup)(n:X.N[i]? =Y x)(j:Loc X.env.scope x)(he:PE X e q)(ho:PIp X f p)(hf:X.fn x=true\/X.env.scope.names.lookup x=some .local:=by first | exact .inl O | exact .inr O | assumption):
  PS X (.AugAssign (.Name x d) f e pos) (yFt i q p):=by
 intro a s σ H D I h;obtain⟨v,E,h⟩:=h;obtain⟨m,hn,Q⟩:=I.loc;let g:Vis X.env.scope x:=by rcases j with k | k;exact .inl k;exact .inr (.inl k)
 obtain⟨u,r,l⟩:=Q i x v n E g;refine wpAny_AugAssign_Name ?_;let o:V8 (S5 X.prog X.w) X.A (eval e X.env) (λw J=>V8 (S5 X.prog X.w) X.A (inplaceOp f u w) (λr M=>V8 (S5 X.prog X.w) X.A (storeName X.env x r) (λ_=>SP X a D .next) X.xe M) X.xe J) X.xe s:=by
  refine thn (he a s σ H _ I h) λw s1 z_=>?_;obtain⟨y,H1,L,N,q1⟩:=z_;refine thn (ho a s1 σ H1 v y u w _ L r N q1) λz s2 z_=>?_;obtain⟨zv,H2,t,r2,q2⟩:=z_;exact zCt t hN n j r2 (λs3 A=>⟨_,H2,A,q2⟩) hf
 rcases l with⟨hk,B⟩|⟨hk,c,hc,b⟩
 ·exact wpAny_loadName_local I.ok.kind hk hn B o
 ·rcases hk with hk | hk
  ·exact wpAny_loadName_cell I.ok.kind hk hc b o
  ·rcases j with k | k
   ·let:X.env.scope.names.lookup x=some .free:=hk
    rw[k] at this;cases this
   ·let:X.env.scope.names.lookup x=some .free:=hk
    rw[k] at this;cases this
def ipI(f:Int->Int->Int):TIp:=λx y H Q=>∃i j,x= .int i/\y= .int j/\Q (.int (f i j)) H
theorem zOr:PIp X .Add (ipI λi j=>i+j):=by
 intro a s σ H x y v u Q I e c h;ext yO h i j b d q;subst b;subst d;obtain⟨t,rfl⟩:=e;obtain⟨f,rfl⟩:=c;exact iadd_int {.int _,H,I.tok _,⟨_,O⟩,q}
def yEd(c:TT)(tb:TS):TS:=λD σ H=>∃W:Nat->St->Hp->Prop,(∃m,W m σ H)/\∀m σ H,W m σ H->
 c σ H λb d=>if b=true then∃N:St->Hp->Prop,(∀f e,N f e->∃a,a<m/\W a f e)/\tb {D with nx:=N,ct:=N,bk:=D.nx} σ d else D.nx σ d
theorem zWk{c:Expr}{d:List V6}{u:TT}{tb:TS}(y:PassesOwn (S5 X.prog X.w) X.A X.env X.xe)(hc:PT X c u)(M:PSs X d tb):PS X (.While c d [] pos) (yEd u tb):=by
 intro a s σ H D I h;obtain⟨W,⟨E,B⟩,g⟩:=h;refine wpAny_While (codeAny_whileLoop (λn s'=>∃w t,Inv X a w t s'/\W n w t) ?_ E ⟨σ,H,I,B⟩);intro n Q z_;ext wO z_ k x J L;refine tT y (thn (hc a Q k x _ J (g n k x L)) λb s2 z_=>?_);obtain⟨z,r,l⟩:=z_
 cases b with
 |true=>
  obtain⟨N,A,l⟩:=l;rw[mN O];refine tT y (thn (M a s2 k z _ r l) λf s3 j=>?_)
  cases f with
  |next=>
   ext wO j i e m n3;obtain⟨q,o,p⟩:=A i e n3;exact⟨q,o,i,e,m,p⟩
  |cont=>
   ext wO j i e m n3;obtain⟨q,o,p⟩:=A i e n3;exact⟨q,o,i,e,m,p⟩
  |brk=>exact j|ret v=>exact j
 |false=>
  rw[mK nL];exact aH ⟨k,z,r,l⟩
end
structure It where
 go:Nat->Hp->Prop
 yld:Nat->Hp->V->Hp->Prop
 stop:Nat->Hp->Prop
def zBz(X:Cx)(a:C7)(H:Hp)(b:V1):Prop:=
 H b=none/\b≠X.env.locals/\b∉X.fs/\(b∈X.ex\/X.s₀⁻¹<=b)/\(∀x c,X.env.cells.lookup x=Y c->c≠b)/\∀p∈X.pn++a,p.1≠b
theorem Inv.fpOk{X:Cx}{a:C7}{σ:St}{H f:Hp}{s:V2}{b:V1}(I:Inv X a σ H s)(d:s⁻¹<=b)(g:f b=none):zBz X a f b:=by
 refine{g,rX (nR I.lt d),I.nofs d, .inr (pB I.sz d),λx c e z=>?_,λp h z=>?_}
 ·obtain⟨v,q⟩:=I.cell x c e
  exact absurd (nR q.lt (by rw[z];exact d)) (tI _)
 ·exact absurd (nR (mW (I.pin p h).1) (by rw[z];exact d)) (tI _)
structure zGb(P:V3)(w:V4)(K:A6)(tg:Expr)(J:It)(fp:B9)(it:V1)(tn:Nat->V5->Prop):Prop where
 mem:it∈fp
 obj:∀i h,tn i h->∀b∈fp,∃o,h.get? b=Y o/\∀v,o.data≠ .cell v
 keep:∀i h h',tn i h->(∀b∈fp,∀o,h.get? b=Y o->h'.get? b=Y o)->tn i h'
 item:∀(X:Cx),X.prog=P->X.w=w->X.K=K->X.calm=true->∀(i:Nat)(pins:C7)(s:V2)(σ:St)(H:Hp)(E:C9),Inv X pins σ H s->(∀b∈fp,zBz X pins H b)->tn i s.heap->J.go i H->
  V8 (S5 P w) X.A (pyNext (.ref it)) (λr s1=>∃u,r=Y u/\
   V8 (S5 P w) X.A (letOwnedTupleGo tg (.ref it) u) (λ_ s2=>∃x H',Inv X pins σ H' s2/\RelV x u/\J.yld i H x H'/\tn (i+1) s2.heap/\∀b∈fp,H' b=none) E s1) E s
 done:∀(X:Cx),X.prog=P->X.w=w->X.K=K->X.calm=true->∀(i:Nat)(pins:C7)(s:V2)(σ:St)(H:Hp)(E:C9),Inv X pins σ H s->(∀b∈fp,zBz X pins H b)->tn i s.heap->J.stop i H->
  V8 (S5 P w) X.A (pyNext (.ref it)) (λr s1=>r=none/\Inv X pins σ H s1) E s
 self:∀(A:Around)(i:Nat)(s:V2)(Q:C9)(E:C9),tn i s.heap->Q (.ref it) s->V8 (S5 P w) A (pyIter (.ref it)) Q E s
abbrev TI:=St->Hp->(It->Hp->Prop)->Prop
def PIE(X:Cx)(a:C7)(σ:St)(i:Expr)(R:It->Hp->Prop)(d:V0)(g:V2):Prop:=
 ∃(f:V1)(e:B9)(h:Nat->V5->Prop)(J:It)(c:Hp),d= .ref f/\Inv X a σ c g/\zGb X.prog X.w X.K i J e f h/\h 0 g.heap/\(∀b∈e,zBz X a c b)/\R J c
def PI(X:Cx)(d iter:Expr)(c:TI):Prop:=
 ∀(a:C7)(s:V2)(σ:St)(H:Hp)(R:It->Hp->Prop),Inv X a σ H s->c σ H R->
  V8 (S5 X.prog X.w) X.A (eval iter X.env) (λv b=>V8 (S5 X.prog X.w) X.A (pyIter v) (PIE X a σ d R) X.xe b) X.xe s
theorem zMu{M:Model}{A:Around}{E:C9}{s:V2}{b:Expr}{it:V1}{u:V0}{o:Obj}{n:String}{vs:Array V0}{Q:Unit->V2->Prop}(c:s.heap.get? it=Y o)(e:o.cls= .type n)(f:o.data= .fields vs)
    (d: ["enumerate","zip","dict_itemiterator","dict_reverseitemiterator","odict_iterator","itertools.zip_longest","itertools.pairwise"].contains n=false) (a:Q () s):V8 M A (letOwnedTupleGo b (.ref it) u) Q E s:=by
  unfold letOwnedTupleGo;cases b<;>first
    |exact nB a
    |(cases u<;>first
        |exact nB a
        | (refine mF (wpAny_load c ?_)
           rw[e,f];show V8 M A (if(["enumerate","zip","dict_itemiterator","dict_reverseitemiterator","odict_iterator","itertools.zip_longest","itertools.pairwise"].contains n && vs[0]? ==Y (rawInt _))=true then _ else _) Q E s;rw[mK (by intro h;rw[d,bN] at h;cases h)];exact nB a))
def Itl(K:A6)(a:V1):It:=
 {λi H=>∃b x,SqL K H a b/\b[i]? =Y x,λi H x c=>c=H/\∀b,SqL K H a b->b[i]? =Y x,λi H=>∃b,SqL K H a b/\b...*<=i}
def Itr(lo:Int)(n:Nat):It:={λi _=>i<n,λi H x a=>a=H/\x= .int (lo+i),λi _=>n<=i}
theorem zTy{P:V3}{w:V4}{K:A6}{tg:Expr}(a it:V1):zGb P w K tg (Itl K a) [it] it (λi h=>h.IsListIter it a i) where
 mem:=by simp
 obj:=λi h st b g=>by
  let e:b=it:=by simpa using g
  subst e;ext xE st o e c d;exact⟨o,e,λv z=>by rw[d] at z;cases z⟩
 keep:=λi h m st k=>st.at λo e=>k it (by simp) o e
 item:=by
  intro X r y q hc i f s σ H E I l st t;subst r y q;ext wO t xs x n N;refine xE (I.list n) λJ Q p hz=>?_;obtain⟨u,hu,ru⟩:=Q.get N;refine zS (l it (by simp)) λA L f2 M D B=>?_;refine wpAny_pyNext_list_item st p.isList (x:=u) (by simpa using hu) λm j sb=>?_;let I1:Inv X f σ H {s with heap:=m}:=I.turned (t':=s.toks) (λb o g e=>(sb.2 b g).trans e) A L M D B;refine xE (id j) λo e c d=>?_;exact{u,O,zMu (s:={s with heap:=m}) e c d ∎ {x,H,I1,ru,{O,λys hy=>by rw[I.list_inj hy n];exact N},j,λb g=>(l b g).1}}
 done:=by
  intro X r y q hc i f s σ H E I l st t;subst r y q;obtain⟨xs,n,N⟩:=t;refine xE (I.list n) λJ Q p hz=>?_;refine zS (l it (by simp)) λA L f2 M D B=>?_;let hl:=Q...*;exact wpAny_pyNext_list_end (I.ok.hd hc) st p.isList (by simp;lia) λm eb=>{O,I.turned (t':=s.toks) (λb o g e=>eb b o g e) A L M D B}
 self:=λ_ _ _ _ _ st h=>wpAny_pyIter_listiter st h
theorem zOj{P:V3}{w:V4}{K:PySem.W.Frag}{M:Expr}(it:V1)(lo:Int)(n:Nat):zGb P w K M (Itr lo n) [it] it (λi h=>IsRangeIter h it (lo+(i:Nat)*1) ((n:Int)- (i:Nat)) 1) where
 mem:=by simp
 obj:=λi h st b c=>by
  let e:b=it:=by simpa using c
  subst e;exact{_,st,λv z=>by
   let Q:Data.fields _=Data.cell v:=z;cases Q}
 keep:=λi h g st k=>k it (by simp) _ st
 item:=by
  intro X l p j x i a s σ H E I f st m;subst l p j;refine zS (f it (by simp)) λq y D A u r=>?_;let W:=Walks.range (prog:=X.prog) (w:=X.w) (I.ok.hd x) it lo 1 n;refine W.item i s _ _ m st λv g B N d L=>?_;obtain⟨t,rfl⟩:=N;let J:Inv X a σ H {s with heap:=g,toks:=B}:=I.turned (λb o c e=>L b o (by simpa using c) e) q y A u r;refine{_,O,zMu (s:={s with heap:=g,toks:=B}) (n:="range_iterator") d O O ∎ {.int (lo+i),H,J,{t, ?_},⟨O,O⟩,d,λb c=>(f b c).1}};rw[Int.mul_one]
 done:=by
  intro X l p j x i a s σ H E I f st m;subst l p j;refine zS (f it (by simp)) λq y D A u r=>?_;exact wpAny_pyNext_range_end (I.ok.hd x) st (by let:n<=i:=m;lia) λg eb=>{O,I.turned (t':=s.toks) (λb o c e=>eb b o c e) q y A u r}
 self:=λ_ _ _ _ _ st h=>wpAny_pyIter_rangeiter st h
section
variable{X:Cx}{tg:Expr}
def zWe(K:A6)(c:TE):TI:=λσ H R=>c σ H λx b=>∃a,x= .ref a/\(∃d,SqL K b a d)/\R (Itl K a) b
theorem vJ{l:Expr}{g:TE}(r:PE X l g):PI X tg l (zWe X.K g):=by
 intro c s σ H R I h;refine thn (r c s σ H _ I h) λv d z_=>?_;obtain⟨x,i,f,m,k⟩:=z_;obtain⟨a,e,⟨w,n⟩,q⟩:=k;subst e;cases m;refine xE (f.list n) λj y p u=>?_;refine dA p.isList ?_;refine⟨d⁻¹,[d⁻¹],_,_,i,O,f.kept (t':=d.toks) λb o e=>mO _ e,zTy a _,⟨_,nQ _ rfl,rfl,rfl⟩,λb t=>?_,q⟩;let e:b=d⁻¹:=by simpa using t
 subst e;exact f.fpOk (mC _) (f.hok.fresh (mC _))
theorem zLp{c:C7}{σ:St}{H:Hp}{s:V2}{R:It->Hp->Prop}{E:C9}{lo a:Int}{t u v:Tok}{d:Nat}(I:Inv X c σ H s)(l: -(2 ^ 62)<=lo)(k:lo<2 ^ 62)(g: -(2 ^ 62)<=a)(i:a<2 ^ 62)
  (q:R (Itr lo (a - lo).toNat) H):V8 (S5 X.prog X.w) X.A (pyIter (.ref s⁻¹)) (PIE X c σ tg R) E {s with heap:=s.heap.push {cls:=.type "range",data:=.fields #[.int lo t, .int a u, .int 1 v]},toks:=d}:=by
 refine cW (IsRange.new ..) (small_one l k g i) ?_;let f:Inv X c σ H {s with heap:=s.heap.push {cls:=.type "range",data:=.fields #[.int lo t, .int a u, .int 1 v]},toks:=d}:=I.kept λb o e=>mO _ e;refine⟨(s.heap.push {cls:=.type "range",data:=.fields #[.int lo t, .int a u, .int 1 v]}).objs.size,[(s.heap.push {cls:=.type "range",data:=.fields #[.int lo t, .int a u, .int 1 v]}).objs.size],_,_,H,rfl,
  f.kept (t':=d) λb o e=>mO _ e,zOj _ lo (a - lo).toNat, ?_,λb m=>?_,q⟩
 ·let h:lo+((0:Nat):Int)*1=lo:=by simp
  let j:(((a - lo).toNat:Nat):Int)- ((0:Nat):Int)=S4 lo a 1:=by rw[rangeSize_one];split<;>lia
  show IsRangeIter _ _ (lo+((0:Nat):Int)*1) ((((a - lo).toNat:Nat):Int)- ((0:Nat):Int)) 1;rw[h,j];exact nQ _ O
 ·let e:b=(s.heap.push {cls:=.type "range",data:=.fields #[.int lo t, .int a u, .int 1 v]}).objs.size:=by simpa using m
  subst e;exact f.fpOk (mC _) (f.hok.fresh (mC _))
def zYs(ta:TA):TI:=λσ H R=>ta σ H λa b=>∃j:Int,a= [.int j]/\-(2 ^ 62)<=j/\j<2 ^ 62/\R (Itr 0 j.toNat) b
def zZc(ta:TA):TI:=λσ H R=>ta σ H λa b=>∃i j:Int,a= [.int i, .int j]/\(-(2 ^ 62)<=i/\i<2 ^ 62/\-(2 ^ 62)<=j/\j<2 ^ 62)/\R (Itr i (j - i).toNat) b
theorem wE{a:Expr}{ta:TA}{p c:Pos}(k:Gl X "range")(f:X.mg "range" =none)(g:PA X [a] ta)(i:A2 [a] X.env= [(false,eval a X.env)]:=by rfl):PI X tg (.Call (.Name "range" p) [a] [] c) (zYs ta):=by
 intro b s σ H R I h;refine Call_ (kI I k f boot_range (pQ (thn (g c b s σ H _ I h) λx u z_=>?_) i O));obtain⟨v,w,m,n,d⟩:=z_;ext vN d j e d o q;subst e
 cases n with
 |cons r l=>
  cases l;obtain⟨t,rfl⟩:=r;exact call_range_1 (zLp m ∅ ∅ d o (by simpa using q))
theorem zIo{a b:Expr}{ta:TA}{p f:Pos}(u:Gl X "range")(m:X.mg "range" =none)(n:PA X [a,b] ta)(o:A2 [a,b] X.env= [(false,eval a X.env),(false,eval b X.env)]:=by rfl)(c:A2 [b] X.env= [(false,eval b X.env)]:=by rfl):
  PI X tg (.Call (.Name "range" p) [a,b] [] f) (zZc ta):=by
 intro d s σ H R I h;refine Call_ (kI I u m boot_range (pQ (thn (n f d s σ H _ I h) λE A z_=>?_) (by rw[o,c]) (by rw[c];rfl)));obtain⟨B,D,w,y,g⟩:=z_;obtain⟨i,j,e,⟨g,z,v,x⟩,q⟩:=g;subst e
 cases y with
 |cons r k=>
  cases k with
  |cons l k=>
   cases k;obtain⟨t,rfl⟩:=r;obtain⟨J,rfl⟩:=l;exact call_range_2 (zLp w g z v x q)
def tFor(e:TI)(g:TG)(tb:TS):TS:=λD σ H=>e σ H λJ d=>∃W:Nat->Nat->St->Hp->Prop,(∃m,W 0 m σ d)/\∀i m σ H,W i m σ H->
 (J.stop i H/\D.nx σ H)\/(J.go i H/\∃N:St->Hp->Prop,(∀c a,N c a->∃b,b<m/\W (i+1) b c a)/\∀x a,J.yld i H x a->g x σ a λh f=>tb {D with nx:=N,ct:=N,bk:=D.nx} h f)
def zAb(fp:B9)(h:V5):List (V1×Obj):=fp.filterMap λb=>(h.get? b).map λo=>(b,o)
theorem qR{fp:B9}{h:V5}{b:V1}{o:Obj}(a:b∈fp)(e:h.get? b=Y o):(b,o)∈zAb fp h:=List.mem_filterMap.mpr {b,a,by rw[e];rfl}
theorem zUb{fp:B9}{h:V5}{p:V1×Obj}(a:p∈zAb fp h):p.1∈fp/\h.get? p.1=Y p.2:=by
 obtain⟨b,d,e⟩:=List.mem_filterMap.mp a
 cases q:h.get? b with
 |none=>rw[q] at e;cases e|some o=>
  rw[q] at e;let c:(b,o)=p:=mQ e;subst c;exact⟨d,q⟩
theorem Inv.pinned{a:C7}{σ:St}{H:Hp}{s:V2}{fp:B9}(I:Inv X a σ H s)(h:∀b∈fp,zBz X a H b)(i:∀b∈fp,∃o,s.heap.get? b=Y o/\∀v,o.data≠ .cell v):Inv X (a++zAb fp s.heap) σ H s:=
 I.pins_of λp k=>(mZ.mp k).elim (λz=>I.pin p (nN _ z)) λz=>by
  obtain⟨c,e⟩:=zUb z;refine yZ (h p.1 c) λj l g _=>?_;obtain⟨o,f,d⟩:=i p.1 c;rw[e] at f;cases f;exact⟨e,j,l,g,d⟩
theorem Inv.unpinned{a pl:C7}{σ:St}{H:Hp}{s:V2}(I:Inv X (a++pl) σ H s):Inv X a σ H s:=I.pins_of λp b=>I.pin p (nN _ (pG _ b))
theorem wW{iter:Expr}{w:List V6}{wi:TI}{g:TG}{tb:TS}{ac:Pos}(E:PassesOwn (S5 X.prog X.w) X.A X.env X.xe)(hc:X.calm=true)(hi:PI X tg iter wi)(hg:PG X tg g)(c:PSs X w tb)
  (hs:∀x,foldedSetIterable iter X.env x=pure x:=by intro _;rfl):PS X (.For tg iter w [] ac) (tFor wi g tb):=by
 intro a s σ H D I h;refine wpAny_For (thn (hi a s σ H _ I h) λv s1 h1=>thn h1 λaf s2 h2=>?_) hs;obtain⟨it,M,tn,J,H2,e,I2,T,ae,f2,W,⟨m0,w0⟩,L⟩:=h2;subst e
 -- what stays true of the iterator's objects through the loop
 let k:∀{q:Hp},(∀b∈M,q b=none)->∀b∈M,zBz X a q b:=λhn b c=>{hn b c,(f2 b c).2};refine codeAny_forLoop_any (λn s'=>∃i B q,Inv X a B q s'/\tn i s'.heap/\(∀b∈M,q b=none)/\W i n B q) ?_ m0 {0,σ,H2,I2,ae,λb c=>(f2 b c).1,w0};intro n s3 z_;ext yB z_ i σ3 H3 I3 Q z_;ext oA z_ A w3;rcases L i n σ3 H3 w3 with⟨stop,qn⟩|⟨go,N,hN,step⟩
 ·refine tT E (thn (T.done X O O O hc i a s3 σ3 H3 X.xe I3 (k A) Q stop) λr s4 z_=>?_);obtain⟨hr,I4⟩:=z_
  subst hr;exact aH ⟨σ3,H3,I4,qn⟩
 ·refine tT E (thn (T.item X O O O hc i a s3 σ3 H3 X.xe I3 (k A) Q go) λr s4 z_=>?_);obtain⟨u,hr,h4⟩:=z_
  subst hr;refine tT E (thn h4 λ_ s5 z_=>?_);obtain⟨x,H5,I5,r5,y5,y,aa⟩:=z_;let ab:=I5.pinned (k aa) (T.obj _ _ y);refine tT E (thn (hg _ s5 σ3 H5 x u _ ab r5 (step x H5 y5)) λ_ s6 z_=>?_);obtain⟨σ6,H6,I6,q6⟩:=z_;refine tT E (thn (c _ s6 σ6 H6 _ I6 q6) λf s7 t=>?_);let again:∀{l:St}{j:Hp},Inv X (a++zAb M s5.heap) l j s7->N l j->∃m,m<n/\∃i B q,Inv X a B q s7/\tn i s7.heap/\(∀b∈M,q b=none)/\W i m B q:=λ{l j} p z=>by
   obtain⟨m',hm,w7⟩:=hN l j z;refine⟨m',hm,i+1,l,j,p.unpinned,T.keep _ _ _ y λb c o e=>(p.pin (b,o) (nN _ (nN _ (qR c e)))).1,λb c=>?_,w7⟩;obtain⟨o,e,d⟩:=T.obj _ _ y b c;exact(p.pin (b,o) (nN _ (nN _ (qR c e)))).2.1
  cases f with
  |next=>obtain⟨l,j,p,z⟩:=t;exact again p z
  |cont=>obtain⟨l,j,p,z⟩:=t;exact again p z
  |brk=>obtain⟨l,j,p,t⟩:=t;exact⟨l,j,p.unpinned,t⟩
  |ret v=>obtain⟨x7,l,j,p,r7,t⟩:=t;exact⟨x7,l,j,p.unpinned,r7,t⟩
end
theorem zYe{K:PySem.W.Frag}{a:V1}{xs:B3}{g:TG}{tb:TS}{D:gO}{σ:St}{H:Hp}(Pv:Nat->St->Hp->Prop)(o:Pv 0 σ H)(s:∀i σ H,i<=xs...*->Pv i σ H->SqL K H a xs)
  (n:∀i x σ H,xs[i]? =Y x->Pv i σ H->g x σ H λf d=>tb {D with nx:=Pv (i+1),ct:=Pv (i+1),bk:=D.nx} f d) (l:∀σ H,Pv xs...* σ H->D.nx σ H):
  ∃W:Nat->Nat->St->Hp->Prop,(∃m,W 0 m σ H)/\∀i m σ H,W i m σ H->
   ((Itl K a).stop i H/\D.nx σ H)\/((Itl K a).go i H/\∃N:St->Hp->Prop,(∀h b,N h b->∃j,j<m/\W (i+1) j h b)/\∀x b,(Itl K a).yld i H x b->g x σ b λf d=>tb {D with nx:=N,ct:=N,bk:=D.nx} f d):=by
 refine{λi m σ H=>m=xs...* - i/\i<=xs...*/\Pv i σ H,{xs...*,by simp,nJ _,o}, ?_};rintro i m σ H ⟨rfl,r,p⟩;let q:=s i σ H r p
 by_cases c:i<xs...*
 ·refine .inr {{xs,xs[i],q,by simp[c]},Pv (i+1),λh b k=>{xs...* - (i+1),∅,O,c,k},λx b y=>?_}
  obtain⟨e,y⟩:=y;subst e;exact n i x σ _ (y xs q) p
 ·let e:i=xs...*:=by lia
  subst e;exact .inl {{xs,q,mC _},l σ H p}
theorem zSu{lo:Int}{n:Nat}{g:TG}{tb:TS}{D:gO}{σ:St}{H:Hp}(Pv:Nat->St->Hp->Prop)(o:Pv 0 σ H)
  (l:∀i σ H,i<n->Pv i σ H->g (.int (lo+i)) σ H λd c=>tb {D with nx:=Pv (i+1),ct:=Pv (i+1),bk:=D.nx} d c) (k:∀σ H,Pv n σ H->D.nx σ H):
  ∃W:Nat->Nat->St->Hp->Prop,(∃m,W 0 m σ H)/\∀i m σ H,W i m σ H->
   ((Itr lo n).stop i H/\D.nx σ H)\/((Itr lo n).go i H/\∃N:St->Hp->Prop,(∀f b,N f b->∃h,h<m/\W (i+1) h f b)/\∀x b,(Itr lo n).yld i H x b->g x σ b λd c=>tb {D with nx:=N,ct:=N,bk:=D.nx} d c):=by
 refine{λi m σ H=>m=n - i/\i<=n/\Pv i σ H,{n,by simp,nJ _,o}, ?_};rintro i m σ H ⟨rfl,q,p⟩
 by_cases a:i<n
 ·refine .inr {a,Pv (i+1),λf b j=>{n - (i+1),∅,O,a,j},λx b y=>?_}
  obtain⟨e,y⟩:=y;subst e y;exact l i σ _ a p
 ·let e:i=n:=by lia
  subst e;exact .inl {mC _,k σ H p}
abbrev R2:=V->V->Hp->VK->Prop
def OpR(X:Cx)(f:V0->V0->Sem V0)(r:R2):Prop:=
 ∀(a:C7)(s:V2)(σ:St)(H:Hp)(x y:V)(v u:V0)(Q:VK),Inv X a σ H s->RelV x v->RelV y u->r x y H Q->
  V8 (S5 X.prog X.w) X.A (f v u) (EP X a σ Q) X.xe s
def UnR(X:Cx)(f:V0->Sem V0)(r:V->Hp->VK->Prop):Prop:=
 ∀(a:C7)(s:V2)(σ:St)(H:Hp)(x:V)(v:V0)(Q:VK),Inv X a σ H s->RelV x v->r x H Q->
  V8 (S5 X.prog X.w) X.A (f v) (EP X a σ Q) X.xe s
def wR(X:Cx)(f:V0)(r:List V->Hp->VK->Prop):Prop:=
 ∀(a:C7)(s:V2)(σ:St)(H:Hp)(c:B3)(b:B7)(Q:VK),Inv X a σ H s->Vals c b->r c H Q->
  V8 (S5 X.prog X.w) X.A (call f b) (EP X a σ Q) X.xe s
def TruR(X:Cx)(r:V->Hp->(Bool->Hp->Prop)->Prop):Prop:=
 ∀(a:C7)(s:V2)(σ:St)(H:Hp)(x:V)(v:V0)(Q:Bool->Hp->Prop),Inv X a σ H s->RelV x v->r x H Q->
  V8 (S5 X.prog X.w) X.A (truthy v) (TP X a σ Q) X.xe s
def tOp(r:R2)(ta tb:TE):TE:=λσ H Q=>ta σ H λx b=>tb σ b λy a=>r x y a Q
def tUn(r:V->Hp->VK->Prop)(ta:TE):TE:=λσ H Q=>ta σ H λx a=>r x a Q
def rI(C:Int->Int->Prop)(g:Int->Int->V):R2:=λx y H Q=>∃i j,x= .int i/\y= .int j/\C i j/\Q (g i j) H
def rI0(g:Int->Int->V):R2:=λx y H Q=>∃i j,x= .int i/\y= .int j/\Q (g i j) H
def rU(g:Int->V):V->Hp->VK->Prop:=λx H Q=>∃i,x= .int i/\Q (g i) H
section
variable{X:Cx}{a b c:Expr}{ta tb tc:TE}{pos:Pos}
theorem yDs(l:PE X a ta)(w:PE X b tb){d:C7}{s:V2}{σ:St}{H:Hp}{R:V->V->Hp->Prop}(I:Inv X d σ H s)
  (h:ta σ H λx i=>tb σ i λy e=>R x y e) {Q:C9} {f:V0->V0->Sem V0}
  (n:∀v u g x y e,Inv X d σ e g->RelV x v->RelV y u->R x y e->V8 (S5 X.prog X.w) X.A (f v u) Q X.xe g):
  V8 (S5 X.prog X.w) X.A (eval a X.env) (λv r=>V8 (S5 X.prog X.w) X.A (eval b X.env) (λu p=>V8 (S5 X.prog X.w) X.A (f v u) Q X.xe p) X.xe r) X.xe s:=by
 refine thn (l d s σ H _ I h) λv j z_=>?_;obtain⟨x,i,q,t,m⟩:=z_;refine thn (w d j σ i _ q m) λu g z_=>?_;obtain⟨y,e,k,o,z⟩:=z_;exact n v u g x y e k t o z
theorem zI{e:Operator}{r:R2}(g:OpR X (binaryOp e) r)(i:PE X a ta)(n:PE X b tb):PE X (.BinOp a e b pos) (tOp r ta tb):=by
 intro d s σ H Q I h;exact wpAny_BinOp (yDs i n I h λv u j x y l f k m q=>g d j σ l x y v u Q f k m q)
theorem xW{e:UnaryOp}{r:V->Hp->VK->Prop}(g:UnR X (unaryOp e) r)(k:PE X a ta):PE X (.UnaryOp e a pos) (tUn r ta):=by
 intro d s σ H Q I h;refine UnaryOp_ (thn (k d s σ H _ I h) λv f z_=>?_);obtain⟨x,j,i,l,m⟩:=z_;exact g d f σ j x v Q i l m
theorem opI{f:V0->V0->Sem V0}{C:Int->Int->Prop}{g:Int->Int->Int}
  (rule:∀(i j:Int)(t u:Tok)(s:V2)(Q:C9)(E:C9),C i j->Q (.int (g i j) s.toks) {s with toks:=s.toks+1}->V8 (S5 X.prog X.w) X.A (f (.int i t) (.int j u)) Q E s):
  OpR X f (rI C λi j=>.int (g i j)):=by
 intro k s σ H x y v u Q I m n h;ext zV h i j e d l q;subst e d;obtain⟨t,rfl⟩:=m;obtain⟨o,rfl⟩:=n;exact rule i j t o s _ _ l {.int (g i j),H,I.tok _,⟨_,O⟩,q}
theorem opI0{f:V0->V0->Sem V0}{g:Int->Int->Int}
  (rule:∀(i j:Int)(t u:Tok)(s:V2)(Q:C9)(E:C9),Q (.int (g i j) s.toks) {s with toks:=s.toks+1}->V8 (S5 X.prog X.w) X.A (f (.int i t) (.int j u)) Q E s):
  OpR X f (rI0 λi j=>.int (g i j)):=by
 intro k s σ H x y v u Q I l m h;ext yO h i j e d q;subst e d;obtain⟨t,rfl⟩:=l;obtain⟨n,rfl⟩:=m;exact rule i j t n s _ _ {.int (g i j),H,I.tok _,⟨_,O⟩,q}
theorem yCg{f:V0->V0->Sem V0}{g:Int->Int->Bool}
  (rule:∀(i j:Int)(t u:Tok)(s:V2)(Q:C9)(E:C9),Q (.bool (g i j)) s->V8 (S5 X.prog X.w) X.A (f (.int i t) (.int j u)) Q E s):
  OpR X f (rI0 λi j=>.bl (g i j)):=by
 intro k s σ H x y v u Q I l m h;ext yO h i j e d q;subst e d;obtain⟨t,rfl⟩:=l;obtain⟨n,rfl⟩:=m;exact rule i j t n s _ _ {.bl (g i j),H,I,O,q}
def yEo(i j:Int):Prop:=0<j/\j<1073741824
def yGo(i j:Int):Prop:=0<=j/\j<=1000000/\i.natAbs<2 ^ 64
def CMul(i j:Int):Prop:=(-(2 ^ 64)<i/\i<2 ^ 64)\/(-(2 ^ 64)<j/\j<2 ^ 64)
theorem CMul.ok{i j:Int}(h:CMul i j):IntMulOk i j:=by
 rcases h with⟨e,d⟩|⟨e,d⟩
 ·exact .of_left (intBits_le_64 e d)
 ·exact .of_right (intBits_le_64 e d)
theorem xK:OpR X (binaryOp .Add) (rI0 λi j=>.int (i+j)):=opI0 λ_ _ _ _ _ _ _ q=>add_int q
theorem xY:OpR X (binaryOp .Sub) (rI0 λi j=>.int (i - j)):=opI0 λ_ _ _ _ _ _ _ q=>sub_int q
theorem jM:OpR X (binaryOp .Mult) (rI CMul λi j=>.int (i*j)):=opI λ_ _ _ _ _ _ _ d q=>mul_int q d.ok
theorem yJ:OpR X (binaryOp .FloorDiv) (rI yEo λi j=>.int (i / j)):=opI λi j _ _ _ _ _ d q=>by
 let f:(0:Int)<j:=d.1;let e:j<1073741824:=d.2;exact floordiv_int ∅ (by rw[Int.fdiv_eq_ediv_of_nonneg i ∅];exact q) (.inl (bX ∅))
theorem yL:OpR X (binaryOp .Mod) (rI (λ_ j=>0<j) λi j=>.int (i % j)):=opI λi j _ _ _ _ _ d q=>by
 let e:(0:Int)<j:=d;exact mod_int' ∅ (by rw[Int.fmod_eq_emod_of_nonneg i ∅];exact q)
theorem zAj:OpR X (binaryOp .Pow) (rI yGo λi j=>.int (i ^ j.toNat)):=opI λ_ _ _ _ _ _ _ d q=>pow_int_small d.1 d.2.1 d.2.2 q
theorem unI{f:V0->Sem V0}{g:Int->Int}
  (rule:∀(i:Int)(t:Tok)(s:V2)(Q:C9)(E:C9),Q (.int (g i) s.toks) {s with toks:=s.toks+1}->V8 (S5 X.prog X.w) X.A (f (.int i t)) Q E s):
  UnR X f (rU λi=>.int (g i)):=by
 intro d s σ H x v Q I e h;obtain⟨i,rfl,q⟩:=h;obtain⟨t,rfl⟩:=e;exact rule i t s _ _ {.int (g i),H,I.tok _,⟨_,O⟩,q}
theorem xH:UnR X (unaryOp .USub) (rU λi=>.int (-i)):=unI λ_ _ _ _ _ q=>neg_int q
def yAq:V->V->Bool
 |.non, .non=>true | .non, .int _=>true | .int _, .non=>true | .non, .bl _=>true | .bl _, .non=>true | .non, .str _=>true | .str _, .non=>true|.int _, .int _=>true | .bl _, .bl _=>true | .str _, .str _=>true | .byt _, .byt _=>true|.int _, .str _=>true | .str _, .int _=>true | .bl _, .str _=>true | .str _, .bl _=>true|_,_=>false
def rEq:R2:=λx y H Q=>yAq x y=true/\Q (.bl (decide (x=y))) H
def rNe:R2:=λx y H Q=>yAq x y=true/\Q (.bl (!decide (x=y))) H
theorem zQz{i j:Int}:decide (V.int i=V.int j)=(i==j):=by
 rw[tF];simp
theorem zYh{i j:Bool}:decide (V.bl i=V.bl j)=(i==j):=by
 rw[tF];simp
theorem zPz{i j:Str}:decide (V.str i=V.str j)=(i==j):=by
 rw[tF];simp
theorem zPw{i j:Array UInt8}:decide (V.byt i=V.byt j)=(i.toList==j.toList):=by
 rw[tF];cases i;cases j;simp
theorem yS{d:C7}{σ:St}{H:Hp}{s:V2}{Q:VK}{k k':Bool}(I:Inv X d σ H s)(q:Q (.bl k) H)(e:k=k'):EP X d σ Q (.bool k') s:=by
 subst e;exact{.bl k,H,I,O,q}
theorem xD:OpR X (A3 .Eq) rEq:=by
 intro k s σ H x y v u Q I g d h;obtain⟨f,q⟩:=h
 cases x with
 |non=>
  cases g
  cases y with
  |non=>cases d;exact PySem.EqNone.eq_none_none (yS I q (by simp))|bl j=>cases d;exact PySem.EqNone.eq_none_bool (yS I q (by simp))|int j=>obtain⟨e,rfl⟩:=d;exact PySem.EqNone.eq_none_int (yS I q (by simp))
  |str j=>obtain⟨e,rfl⟩:=d;exact PySem.EqNone.eq_none_str (yS I q (by simp))
  |_=>exact absurd (show false=true from f) nL
 |bl i=>
  cases g
  cases y with
  |non=>cases d;exact PySem.EqNone.eq_bool_none (yS I q (by simp))|bl j=>cases d;exact eq_bool (yS I q zYh)|str j=>obtain⟨e,rfl⟩:=d;exact PySem.EqMixed.eq_bool_str (yS I q (by simp))
  |_=>exact absurd (show false=true from f) nL
 |int i=>
  obtain⟨t,rfl⟩:=g
  cases y with
  |non=>cases d;exact PySem.EqNone.eq_int_none (yS I q (by simp))|int j=>obtain⟨e,rfl⟩:=d;exact eq_int (yS I q zQz)
  |str j=>obtain⟨e,rfl⟩:=d;exact PySem.EqMixed.eq_int_str (yS I q (by simp))
  |_=>exact absurd (show false=true from f) nL
 |str i=>
  obtain⟨t,rfl⟩:=g
  cases y with
  |non=>cases d;exact PySem.EqNone.eq_str_none (yS I q (by simp))|bl j=>cases d;exact PySem.EqMixed.eq_str_bool (yS I q (by simp))|int j=>obtain⟨e,rfl⟩:=d;exact PySem.EqMixed.eq_str_int (yS I q (by simp))
  |str j=>obtain⟨e,rfl⟩:=d;exact eq_str (yS I q zPz)
  |_=>exact absurd (show false=true from f) nL
 |byt i=>
  obtain⟨t,rfl⟩:=g
  cases y with
  |byt j=>obtain⟨e,rfl⟩:=d;exact W.eq_bytes (yS I q zPw)
  |_=>exact absurd (show false=true from f) nL
 |_=>cases y<;>exact absurd (show false=true from f) nL
theorem zEj:OpR X (A3 .NotEq) rNe:=by
 intro k s σ H x y v u Q I g d h;obtain⟨f,q⟩:=h
 cases x with
 |non=>
  cases g
  cases y with
  |non=>cases d;exact PySem.EqNone.ne_none_none (yS I q (by simp))|bl j=>cases d;exact PySem.EqNone.ne_none_bool (yS I q (by simp))|int j=>obtain⟨e,rfl⟩:=d;exact PySem.EqNone.ne_none_int (yS I q (by simp))
  |str j=>obtain⟨e,rfl⟩:=d;exact PySem.EqNone.ne_none_str (yS I q (by simp))
  |_=>exact absurd (show false=true from f) nL
 |bl i=>
  cases g
  cases y with
  |non=>cases d;exact PySem.EqNone.ne_bool_none (yS I q (by simp))|bl j=>cases d;exact ne_bool (yS I q (congrArg not zYh))|str j=>obtain⟨e,rfl⟩:=d;exact PySem.EqMixed.ne_bool_str (yS I q (by simp))
  |_=>exact absurd (show false=true from f) nL
 |int i=>
  obtain⟨t,rfl⟩:=g
  cases y with
  |non=>cases d;exact PySem.EqNone.ne_int_none (yS I q (by simp))|int j=>obtain⟨e,rfl⟩:=d;exact ne_int (yS I q (congrArg not zQz))
  |str j=>obtain⟨e,rfl⟩:=d;exact PySem.EqMixed.ne_int_str (yS I q (by simp))
  |_=>exact absurd (show false=true from f) nL
 |str i=>
  obtain⟨t,rfl⟩:=g
  cases y with
  |non=>cases d;exact PySem.EqNone.ne_str_none (yS I q (by simp))|bl j=>cases d;exact PySem.EqMixed.ne_str_bool (yS I q (by simp))|int j=>obtain⟨e,rfl⟩:=d;exact PySem.EqMixed.ne_str_int (yS I q (by simp))
  |str j=>obtain⟨e,rfl⟩:=d;exact ne_str (yS I q (congrArg not zPz))
  |_=>exact absurd (show false=true from f) nL
 |byt i=>
  obtain⟨t,rfl⟩:=g
  cases y with
  |byt j=>obtain⟨e,rfl⟩:=d;exact W.ne_bytes (yS I q (congrArg not zPw))
  |_=>exact absurd (show false=true from f) nL
 |_=>cases y<;>exact absurd (show false=true from f) nL
theorem kS:OpR X (A3 .Lt) (rI0 λi j=>.bl (decide (i<j))):=yCg λ_ _ _ _ _ _ _ q=>lt_int q
theorem zAh:OpR X (A3 .LtE) (rI0 λi j=>.bl (decide (i<=j))):=yCg λ_ _ _ _ _ _ _ q=>le_int q
theorem uP:OpR X (A3 .Gt) (rI0 λi j=>.bl (decide (j<i))):=yCg λ_ _ _ _ _ _ _ q=>gt_int q
theorem op_ge:OpR X (A3 .GtE) (rI0 λi j=>.bl (decide (j<=i))):=yCg λ_ _ _ _ _ _ _ q=>ge_int q
theorem zUh:OpR X (A3 .In) (λx y H Q=>∃i j,x= .str i/\y= .str j/\Q (.bl (!(Builtin.Str.occurrences j i 0 j...* 1).isEmpty)) H):=by
 intro f s σ H x y v u Q I g k h;ext yO h i j e d q;subst e d;obtain⟨t,rfl⟩:=g;obtain⟨l,rfl⟩:=k;exact in_str (yS I q O)
theorem zVh(b:Expr){d:CmpOp}(h:d≠ .In:=by decide)(e:d≠ .NotIn:=by decide):behindInMarks d b=false:=by
 let g:(d==CmpOp.In)=false:=by cases d<;>first | rfl | exact absurd O h
 let f:(d==CmpOp.NotIn)=false:=by cases d<;>first | rfl | exact absurd O e
 cases b<;>simp[behindInMarks,g,f]
theorem zJl{e:CmpOp}{r:R2}(g:OpR X (A3 e) r)(j:PE X a ta)(o:PE X b tb)(i:behindInMarks e b=false):PE X (.Compare a [e] [b] pos) (tOp r ta tb):=by
 intro d s σ H Q I h;exact wpAny_Compare1 (yDs j o I h λv u k x y m f l n q=>g d k σ m x y v u Q f l n q) i
def zLr(t:TE):TT:=λσ H Q=>t σ H λx d=>∃k,x= .bl k/\Q k d
theorem yAz{f:CmpOp}{r:R2}(j:OpR X (A3 f) r)(p:PE X a ta)(L:PE X b tb)(o:behindInMarks f b=false):PT X (.Compare a [f] [b] pos) (zLr (tOp r ta tb)):=by
 intro d s σ H Q I h;refine wpAny_isTrue_Compare1 (thn (p d s σ H _ I h) λv g ⟨x,m,D,J,q⟩=>thn (L d g σ m _ D q) λu t ⟨y,w,i,A,M⟩=>
  thn (j d t σ w x y v u _ i J A M) λc N ⟨z,n,l,E,k,e,B⟩=>?_) o
 subst e;cases E;exact rW ⟨n,l,B⟩
def zKl(r f:R2)(ta tb tc:TE):TE:=λσ H Q=>ta σ H λx g=>tb σ g λy e=>r x y e λz d=>∃k,z= .bl k/\
 (if k=true then tc σ d λh i=>f y h i Q else Q (.bl false) d)
theorem zLc{i g:CmpOp}{r n:R2}(N:OpR X (A3 i) r)(j:OpR X (A3 g) n)(ha:PE X a ta)(J:PE X b tb)(hc:PE X c tc)
  (t:lastMarks [i,g] [b,c]=false:=by with_unfolding_all rfl):PE X (.Compare a [i,g] [b,c] pos) (zKl r n ta tb tc):=by
 intro f s σ H Q I h;refine Compare_chain (thn (ha f s σ H _ I h) λv M ⟨x,H1,D,E,q1⟩=>chain_link (thn (J f M σ H1 _ D q1) λu s2 ⟨y,H2,q,p,q2⟩=>
  thn (N f s2 σ H2 x y v u _ q E p q2) λd B ⟨z,o,l,r3,k,e,m⟩=>?_)) t
 subst e;cases r3;refine rW ?_
 cases k with|false=>exact ite_ff {.bl false,o,l,O,m}|true=>exact ite_tt (chain_last (thn (hc f B σ o _ l m) λw' A ⟨z',w,L,r4,q4⟩=>j f A σ w y z' u w' Q L p r4 q4))
theorem zVs{i g:CmpOp}{r n:R2}(ho:OpR X (A3 i) r)(j:OpR X (A3 g) n)(ha:PE X a ta)(N:PE X b tb)(hc:PE X c tc)
  (w:lastMarks [i,g] [b,c]=false:=by with_unfolding_all rfl):PT X (.Compare a [i,g] [b,c] pos) (zLr (zKl r n ta tb tc)):=by
 intro f s σ H Q I h;refine isTrue_chain (thn (ha f s σ H _ I h) λv s1 ⟨x,H1,J,M,q1⟩=>test_link (thn (N f s1 σ H1 _ J q1) λu s2 ⟨y,H2,q,p,q2⟩=>
  thn (ho f s2 σ H2 x y v u _ q M p q2) λd D ⟨z,o,l,r3,k,e,m⟩=>?_)) w
 subst e;cases r3;refine rW ?_
 cases k with
 |false=>
  obtain⟨k',E,q'⟩:=m;cases E;exact ite_ff ⟨o,l,q'⟩
 |true=>
  refine ite_tt (test_last (thn (hc f D σ o _ l m) λw' B z_=>?_));obtain⟨z',A,I4,r4,q4⟩:=z_;refine thn (j f B σ A y z' u w' _ I4 p r4 q4) λd' s5 z_=>?_;obtain⟨z2,H5,t,L,k2,e2,q5⟩:=z_;subst e2;cases L;exact rW ⟨H5,t,q5⟩
def TruV(K:A6)(x:V)(H:Hp)(k:Bool):Prop:=
 match x with|.non=>k=false|.bl b=>k=b|.int i=>k=(i !=0)|.str y=>y...*<=V9/\k=((y...*:Int) !=0)|.byt y=>y.size<=V9/\k=((y.size:Int) !=0)|.ref p=>(∃e,SqL K H p e/\k= !e.isEmpty)\/(∃e,SqT K H p e/\k= !e.isEmpty)\/∃d,H p=Y (.dK d)/\k= !d.isEmpty|_=>False
theorem zOg{κ:Type}{kvs:List (κ×V)}{vs:List (κ×V0)}(r:KV kvs vs):(!vs.isEmpty)= !kvs.isEmpty:=by
 cases r<;>rfl
theorem zFf{xs:B3}{d:B7}(r:Vals xs d):(!d.toArray.isEmpty)= !xs.isEmpty:=by
 cases r<;>simp
theorem zBh:(V9:Nat)<2 ^ 63:=by rw[mV];decide
theorem yEf:TruR X (λx H Q=>∃k,TruV X.K x H k/\Q k H):=by
 intro z s σ H x v Q I l h;obtain⟨k,e,q⟩:=h;let J:=zBh;let E:V9=16777216:=mV
 cases x with
 |non=>
  cases l;let d:k=false:=e;subst d;exact truthy_none ⟨H,I,q⟩
 |bl b=>
  cases l;let d:k=b:=e;subst d;exact rW ⟨H,I,q⟩
 |int i=>
  obtain⟨t,rfl⟩:=l;let d:k=(i !=0):=e;subst d;exact PySem.P.truthy_int ⟨H,I,q⟩
 |str y=>
  obtain⟨t,rfl⟩:=l;obtain⟨D,d⟩:y...*<=V9/\k=((y...*:Int) !=0):=e;subst d;exact PySem.P.truthy_str ∅ {H,I.tok _,q}
 |byt y=>
  obtain⟨t,rfl⟩:=l;obtain⟨D,d⟩:y.size<=V9/\k=((y.size:Int) !=0):=e;subst d;exact W.truthy_bytes ∅ {H,I.tok _,q}
 |ref p=>
  cases l;let d:(∃j,SqL X.K H p j/\k= !j.isEmpty)\/(∃j,SqT X.K H p j/\k= !j.isEmpty)\/∃f,H p=Y (.dK f)/\k= !f.isEmpty:=e;rcases d with⟨j,n,d⟩|⟨j,n,d⟩|⟨f,n,d⟩
  ·subst d
   refine xE (I.list n) λu r w A=>?_;let g:=r...*;exact wpAny_truthy_list w.isList (by simp only[nD];lia) {H,I.tok _,by rw[zFf r];exact q}
  ·subst d
   refine xE (I.tuple n) λu r w A=>?_;let g:=r...*;exact truthy_tuple w (by simp only[nD];lia) {H,I.tok _,by rw[zFf r];exact q}
  ·subst d
   obtain⟨A,B,o,r,m⟩:f...*<=V9/\(p==A4)=false/\∃o,KV f o/\s.heap.DictOf (yU X.prog X.w) p o:=I.hok p _ n;let g:f...*=o...*:=Paired.length r;exact wpAny_truthy_dict B m ∅ {H,I.tok _,by rw[zOg r];exact q}
 |_=>exact(show False from e).elim
theorem zMj(i:PE X a ta)(m:∀whole,isTrue a X.env whole=(do let v <-whole;S0 a.pos;holding [v] (truthy v))):
  PT X a (λσ H Q=>ta σ H λx e=>∃k,TruV X.K x e k/\Q k e):=by
 intro d s σ H Q I h;refine isTrue_plain (thn (i d s σ H _ I h) λv f z_=>?_) (m _);obtain⟨x,g,l,n,j⟩:=z_;exact yEf d f σ g x v Q l n j
theorem qQ:OpR X (binaryOp .Add) (λx y H Q=>∃i j,x= .str i/\y= .str j/\i...*+j...*<=V9/\Q (.str (i++j)) H):=by
 intro f s σ H x y v u Q I k l h;ext zV h i j e d g q;subst e d;obtain⟨t,rfl⟩:=k;obtain⟨m,rfl⟩:=l;exact add_str (λm n=>{.str (i++j),H,I.tok _,⟨_,O⟩,q}) g
theorem jP{x:V}{us:B7}(r:Vals [x] us):∃u,us= [u]/\RelV x u:=by
 cases r with|cons e d=>cases d;exact⟨_,O,e⟩
theorem zEf{x y:V}{us:B7}(r:Vals [x,y] us):∃u d,us= [u,d]/\RelV x u/\RelV y d:=by
 cases r with
 |cons g e=>
  cases e with|cons h f=>cases f;exact⟨_,_,O,g,h⟩
theorem zXr:wR X (.builtin "abs") (λxs H Q=>∃i,xs= [.int i]/\Q (.int (if i<0 then -i else i)) H):=by
 intro d s σ H xs e Q I r h;obtain⟨i,rfl,q⟩:=h;obtain⟨u,rfl,t,rfl⟩:=jP r;exact call_abs_int λu f=>{.int (if i<0 then -i else i),H,I.tok _,⟨_,O⟩,q}
theorem zAp(g:X.calm=true):wR X (.builtin "min") (λxs H Q=>∃i j,xs= [.int i, .int j]/\Q (.int (if j<i then j else i)) H):=by
 intro f s σ H xs n Q I r h;ext wO h i j e q;subst e;obtain⟨u,m,rfl,⟨t,rfl⟩,⟨p,rfl⟩⟩:=zEf r;refine min_two_ints (I.ok.hd g) λl o k=>{_,H,I.kept k, ?_,q}
 by_cases d:j<i
 ·rw[mN d,mN d];exact⟨_,O⟩
 ·rw[mK d,mK d];exact⟨_,O⟩
theorem zSq:wR X (.type "int") (λxs H Q=>(∃i,xs= [.int i]/\Q (.int i) H)\/∃k,xs= [.bl k]/\Q (.int (if k then 1 else 0)) H):=by
 intro d s σ H xs f Q I r h;rcases h with⟨i,rfl,q⟩|⟨k,rfl,q⟩
 ·obtain⟨u,rfl,t,rfl⟩:=jP r
  exact call_int_int {.int i,H,I,⟨_,O⟩,q}
 ·obtain⟨u,rfl,e⟩:=jP r
  cases e;exact call_int_bool {.int (if k then 1 else 0),H,I.tok _,⟨_,O⟩,q}
theorem zJr:wR X (.type "str") (λxs H Q=>∃i,xs= [.int i]/\i.natAbs.log2<1920/\Q (.str (toString i)) H):=by
 intro e s σ H xs g Q I r h;ext xE h i d f q;subst d;obtain⟨u,rfl,t,rfl⟩:=jP r;exact PySem.P.str_of_int f {.str _,H,I.tok _,⟨_,O⟩,q}
theorem zXe:wR X (.builtin "ord") (λxs H Q=>∃x,xs= [.str x]/\x...*=1/\Q (.int (x.cps.getD 0 0:Nat)) H):=by
 intro e s σ H xs g Q I r h;ext xE h x d f q;subst d;obtain⟨u,rfl,t,rfl⟩:=jP r;exact ord_of_one f {.int _,H,I.tok _,⟨_,O⟩,q}
end
structure ObjM(h:V5)(x dx C:V1)(mA:C8):Prop where
 obj:h.get? x=Y (W.instObj C dx)
 ns:h.Ns1 dx mA
 ne:dx≠x
theorem zTc{h:V5}{g:V1}{d:C8}(n:h.Ns1 g d):∃od,h.get? g=Y od/\∀b,W.lookIn b od=Y (d b):=by
 ext yB n o f s i k r;ext oAA r l _ j;refine⟨o,i,λb=>?_⟩;let e:=j b;unfold nsFind findBy at e;rw[<-Array.find?_toList] at e;unfold W.lookIn;rw[k];dsimp only;split
 ·rename_i y q
  rw[q] at e;exact congrArg some e
 ·rename_i q
  rw[q] at e;let a:f.toList.any (·.refKey)=false:=by
   rw[List.any_eq_false];intro y m;obtain⟨z,t,c⟩:=l y (Array.mem_toList_iff.mp m);simp[DictEntry.refKey,c]
  let p:¬f.toList.any (·.refKey)=true:=by rw[a];exact nL
  rw[mK p];exact congrArg some e
theorem ObjM.look{h:V5}{x b C:V1}{c:C8}(I:ObjM h x b C c):∃od,W.InstAt h x (W.instObj C b) C ↥od/\∀a,W.lookIn a od=Y (c a):=
 let ⟨od,ho,hl⟩:=zTc I.ns
 {od,⟨I.obj,O,O,ho⟩,hl}
section
variable{prog:V3}{w:V4}{A:Around}{E:C9}{s:V2}{K:A6}{x dx C f:V1}{mA:C8}{name:Str}{v:V0}
end
theorem i9{v:V}{o:Option V0}(r:RelO ↥v o):∃u,o=Y u/\RelV v u:=by
 cases o with|none=>exact(show False from r).elim|some u=>exact⟨u,O,r⟩
section
variable{P:V3}{w:V4}{H H':Hp}{h h':V5}{a C dx:V1}{fs fs':List (Str×V)}
theorem yCa(c:HOk P w H h)(e:H a=Y (.ins C dx fs)):∃b,ObjM h a dx C b/\(∀f,RelO (fs.lookup f) (b f))/\PySem.Within b (fs.map (·.1))/\fs...*<=1000/\H dx=Y (.own a):=by
 obtain⟨d,z,i,g,b,n,r,q⟩:=(show ObjOk P w H h a (.ins C dx fs) from c a _ e);exact{b,⟨g,n,i⟩,r,q,z,d}
end
structure Cls(K:A6)(C:V1):Prop where
 pg:W.plainGet K C Str.empty=true
 hd:W.hasDictIn K C=true
 po:W.plainOver K C=true
 sa:W.findIn K (.ref C) "__setattr__" =Y ↥(.builtin "object.__setattr__")
theorem Cls.get{K:A6}{C:V1}(c:Cls K C)(f:Str):W.plainGet K C f=true:=c.pg
structure Con(K:A6)(C:V1)(f:Str)(v:V)(u:V0):Prop where
 at_:W.findIn K (.ref C) f=Y ↥u
 rel:RelV v u
 get:W.specialIn K u "__get__" =Y none
 cp:W.copiedNames.contains f=false
structure Meth(K:A6)(C:V1)(m:Str)(f:V1):Prop where
 at_:W.findIn K (.ref C) m=Y ↥(.ref f)
 fn:W.isFn K (.ref f)=true
 kp:A7 K (.ref f)=true
section
variable{X:Cx}{pins:C7}{σ:St}{H:Hp}{s:V2}{a C dx:V1}{fs:List (Str×V)}{f:Str}{v:V}{A:Around}{E:C9}
end
section
variable{X:Cx}{o e value:Expr}{f:Str}{pos pos' tpos:Pos}{ta tv:TE}
end
section
variable{X:Cx}{pins:C7}{σ:St}{H:Hp}{s:V2}{A:Around}{E:C9}{Q:C9}{c:V0}{b:Bool}
inductive zDt (K:A6) (H:Hp):V->V0->Prop where
 |non:zDt K H .non (.type "NoneType")
 |bl (x:Bool):zDt K H (.bl x) (.type "bool")
 |int (i:Int):zDt K H (.int i) (.type "int")
 |str (x:Str):zDt K H (.str x) (.type "str")
 |flt (x:UInt64):zDt K H (.flt x) (.type "float")
 |lst {a:V1} {xs:B3} (e:H a=Y (.lst xs)):zDt K H (.ref a) (.type "list")
 |frz {a:V1} {o:Obj} {xs:B3} (e:H a=Y (.frz o (.lst xs))):zDt K H (.ref a) (.type "list")
 |tup {a:V1} {xs:B3} (e:H a=Y (.tup xs)):zDt K H (.ref a) (.type "tuple")
 |dK {a:V1} {kvs:D7} (e:H a=Y (.dK kvs)):zDt K H (.ref a) (.type "dict")
 |dT {a:V1} {kvs:List (List Key×V)} (e:H a=Y (.dT kvs)):zDt K H (.ref a) (.type "dict")
 |ins {a C dx:V1} {fs:List (Str×V)} (e:H a=Y (.ins C dx fs)) (cl:Cls K C) (ha:W.findIn K (.ref C) "__class__" =Y ↥(.builtin "object.__class__"))
   (hn:W.specialIn K (.builtin "object.__class__") "__get__" =Y ↥(.builtin "getset_descriptor.__get__")) (htk:W.takesIn K (.builtin "object.__class__")=Y true)
   (hm:W.mroIn K C (.type "object")=Y true):zDt K H (.ref a) (.ref C)
theorem zTa{x:V}{u t:V0}(I:Inv X pins σ H s)(f:RelV x u)(M:zDt X.K H x t)(e:W.kitOne X.K t c=Y b)(h:∀tk,Q (.bool b) {s with toks:=tk}):
  V8 (S5 X.prog X.w) A (call (.builtin "isinstance") [u,c]) Q E s:=by
 cases M with
 |non=>cases (show u=Value.none from f);exact tS W.kitx_none I.kIn mT e (λz=>nomatch z) h|bl y=>cases (show u=Value.bool y from f);exact tS W.kitx_bool I.kIn mT e (λz=>nomatch z) h|int i=>obtain⟨t,q⟩:=(show∃t,u=Value.int i t from f);cases q;exact tS W.kitx_int I.kIn mT e (λz=>nomatch z) h
 |str y=>obtain⟨t,q⟩:=(show∃t,u=Value.str y t from f);cases q;exact tS W.kitx_str I.kIn mT e (λz=>nomatch z) h
 |flt y=>obtain⟨t,q⟩:=(show∃t,u=Value.float y t from f);cases q;exact tS W.kitx_float I.kIn mT e (λz=>nomatch z) h
 |@lst a k d=>
  cases (show u=Value.ref a from f);obtain⟨_,_,n,_,g⟩:=(show ObjOk X.prog X.w H s.heap a (.lst k) from I.hok a _ d);exact tS dX I.kIn ⟨_,g,O⟩ e (λz=>nomatch z) h
 |@frz a ob k d=>
  cases (show u=Value.ref a from f);obtain⟨_,_,_,n,_,g⟩:=(show ObjOk X.prog X.w H s.heap a (.frz ob (.lst k)) from I.hok a _ d);exact tS dX I.kIn ⟨_,g,O⟩ e (λz=>nomatch z) h
 |@tup a k d=>
  cases (show u=Value.ref a from f);obtain⟨_,_,_,p⟩:=(show ObjOk X.prog X.w H s.heap a (.tup k) from I.hok a _ d);ext xE p o g l _;exact tS W.kitx_tuple I.kIn ⟨o,g,l⟩ e (λz=>nomatch z) h
 |@dK a j d=>
  cases (show u=Value.ref a from f);obtain⟨_,_,vs,_,p⟩:=(show ObjOk X.prog X.w H s.heap a (.dK j) from I.hok a _ d);ext yB p o L D g l _;exact tS cV I.kIn ⟨o,g,l.1⟩ e (λz=>nomatch z) h
 |@dT a j d=>
  cases (show u=Value.ref a from f);obtain⟨_,_,k,_,o,L,D,g,l,_⟩:=(show ObjOk X.prog X.w H s.heap a (.dT j) from I.hok a _ d);exact tS cV I.kIn ⟨o,g,l.1⟩ e (λz=>nomatch z) h
 |@ins a C dx fs d r B N m v=>
  cases (show u=Value.ref a from f);obtain⟨mA,w,_⟩:=yCa I.hok d;obtain⟨od,J,_⟩:=w.look;exact tS (W.kitx_own (r.get _) r.hd B N m v) I.kIn J e (λz=>nomatch z) h
end
structure Room(k:Nat)(A:Around):Prop where
 hd:A.handled=none
 dp:A.depth+3*k+5<recursionLimit
 un:A.units+16*k+200<cLine
theorem Room.mono{j k:Nat}{A:Around}(r:Room k A)(h:j<=k):Room j A:={r.hd,by let:=r.dp;lia,by let:=r.un;lia}
theorem Room.deeper{k:Nat}{A:Around}(r:Room (k+1) A)(a:S7):Room k (A.deeper a):=
 {r.hd,by let:=r.dp;show A.depth+1+3*k+5<_;lia,by let:=r.un;show A.units+3+16*k+200<_;lia}
theorem zGf{A:Around}{C:V1}{us:B7}{a:List (Str×V0)}:(A.under (.builtin "type.__call__" {.ref C::us,a})).depth=A.depth+1:=by
 first | rfl | simp[Around.under,Code.weight,Code.isCreation,Code.isGuard,Code.isCaller,Code.frames,Code.isFrame,guardIds]
theorem zHb{A:Around}{C:V1}{us:B7}{a:List (Str×V0)}:(A.under (.builtin "type.__call__" {.ref C::us,a})).units=A.units+1:=by
 first | rfl | simp[Around.under,Code.cUnits,Code.frames,Code.isFrame]
theorem Room.make{k:Nat}{A:Around}(r:Room (k+1) A)(C:V1)(us:B7)(a:List (Str×V0)):Room k (A.under (.builtin "type.__call__" {.ref C::us,a})):=
 {r.hd,by let:=r.dp;rw[zGf];lia,by let:=r.un;rw[zHb];lia}
theorem Room.depth{k:Nat}{A:Around}(r:Room k A):A.depth<recursionLimit:=by let:=r.dp;lia
theorem Room.units{k:Nat}{A:Around}(r:Room k A):A.units+64<cLine:=by let:=r.un;lia
theorem Room.units0{k:Nat}{A:Around}(r:Room k A):A.units<cLine:=by let:=r.un;lia
def zBu:TA:=λ_ H Q=>Q [] H
def vG(ta:TE)(a:TA):TA:=λσ H Q=>ta σ H λx d=>a σ d λb c=>Q (x::b) c
section
variable{X:Cx}{e:Expr}{es:C5}{te:TE}{t:TA}{pos:Pos}
theorem zB:PA X [] zBu:=λ_ _ _ _ H Q I h=>bU {[],H,I, .nil,h}
theorem zA(g:PE X e te)(f:PA X es t)(i:A2 (e::es) X.env=(false,eval e X.env)::A2 es X.env:=by rfl):PA X (e::es) (vG te t):=by
 intro pos a s σ H Q I h;rw[i];show V8 _ _ (spliced ((false,eval e X.env)::S2 pos (A2 es X.env))) _ _ s;refine bC (thn (g a s σ H _ I h) λu b z_=>?_);obtain⟨x,d,n,o,j⟩:=z_;refine thn (f pos a b σ d _ n j) λr q z_=>?_;obtain⟨k,l,c,m,p⟩:=z_;exact {x::k,l,c, .cons o m,p}
def yFh(t:TA):TE:=λσ H Q=>t σ H λa b=>a...*<=V9/\∀p,b p=none->Q (.ref p) (upd b p (.tup a))
def zWl(t:TA):TE:=λσ H Q=>t σ H λa b=>a...*<=V9/\∀p,b p=none->Q (.ref p) (upd b p (.lst a))
theorem vX{x1}(h:PA X es t):PE X (.Tuple es x1 pos) (yFh t):=by
 intro a s σ H Q I j;refine wpAny_Tuple_spliced (thn (h pos a s σ H _ I j) λg c z_=>?_);obtain⟨i,d,f,r,z,q⟩:=z_;refine {by rw[<-r...*];exact z, ?_};let k:d c⁻¹=none:=f.hok.fresh (mC _);refine{.ref c⁻¹,upd d c⁻¹ (.tup i),f.laid (t':=c.toks) (λb u e=>mO _ e) (mC _) ?_,O,q _ k};exact{z,g,r,{_,nQ _ O,O,_,O}}
theorem yM(h:PA X es t):PE X (.List es pos) (zWl t):=by
 intro a s σ H Q I j;refine wpAny_List_spliced (thn (h pos a s σ H _ I j) λg c z_=>?_);obtain⟨i,d,f,r,z,q⟩:=z_;refine {by rw[<-r...*];exact z, ?_};let k:d c⁻¹=none:=f.hok.fresh (mC _);refine{.ref c⁻¹,upd d c⁻¹ (.lst i),f.laid (t':=c.toks) (λb u e=>mO _ e) (mC _) ?_,O,q _ k};exact{z,g,0,r,nQ _ O}
end
abbrev Sp:=List V->Hp->VK->XK->Prop
abbrev CXT:=List S7->Hp->V2->XK->V0->V2->Prop
structure Env0(P:V3)(w:V4)(K:A6)(mg:C8)(base:V5)(A:Around)(outer:List S7)(s:V2)(H:Hp):Prop where
 frames:A.frames=Y outer
 mod:Mod K mg base
 bs:∀b o,base.get? b=Y o->s.heap.get? b=Y o/\H b=none
 bsz:base.objs.size<=s⁻¹
 funs:s.heap.FunFrames base outer
 frf:∀b∈frs outer,H b=none
 hok:HOk P w H s.heap
 bare:AllBare s.gens
def CE(a:List S7)(P:V3)(w:V4)(H:Hp)(s:V2)(Q:VK)(u:V0)(s':V2):Prop:=
 ∃v b,s'.os=s.os/\AllBare s'.gens/\Un (frs a) [] H b s.heap s'.heap/\HOk P w b s'.heap/\RelV v u/\Q v b
def CR(CX:CXT)(a:List S7)(P:V3)(w:V4)(H:Hp)(s:V2)(Q:VK)(E:XK)(r:Result)(s':V2):Prop:=
 match r with|.ok (.ret u)=>CE a P w H s Q u s'|.ok _=>False|.error e=>CX a H s E e s'
structure FnOk(P:V3)(w:V4)(K:A6)(mg:C8)(base:V5)(CX:CXT)(k:Nat)(f:V1)(fd:V7)(ps:C1)(sp:Sp):Prop where
 len:∀vs H Q E,sp vs H Q E->vs...*=ps...*
 run:∀(A:Around)(outer:List S7)(s:V2)(H:Hp)(args:Args)(us:B7)(vs:B3)(Q:VK)(E:XK),Room k A->Env0 P w K mg base A outer s H->BindsTo s fd args (ps.zip us)->Vals vs us->sp vs H Q E->
  codeAny (S5 P w) A (.call (.ref f) args) (CR CX outer P w H s Q E) s
theorem FnOk.mono{P:V3}{w:V4}{K:A6}{d:C8}{base:V5}{CX:CXT}{j k:Nat}{f:V1}{c:V7}{ps:C1}{sp:Sp}(F:FnOk P w K d base CX j f c ps sp)(h:j<=k):
  FnOk P w K d base CX k f c ps sp:={F.len,λA a s H b i e Q E g=>F.run A a s H b i e Q E (g.mono h)}
theorem FnOk.imp{P:V3}{w:V4}{K:A6}{g:C8}{base:V5}{CX:CXT}{k:Nat}{f:V1}{e:V7}{ps:C1}{sp d:Sp}(F:FnOk P w K g base CX k f e ps sp)
  (h:∀b H Q E,d b H Q E->sp b H Q E):FnOk P w K g base CX k f e ps d:=
 {λb H Q E q=>F.len b H Q E (h _ _ _ _ q),λA a s H c l b Q E i m o n j=>F.run A a s H c l b Q E i m o n (h _ _ _ _ j)}
theorem Env0.make{P:V3}{w:V4}{K:A6}{b:C8}{base:V5}{A:Around}{a:List S7}{s:V2}{H:Hp}(e:Env0 P w K b base A a s H)(C:V1)(us:B7)(c:List (Str×V0)):
  Env0 P w K b base (A.under (.builtin "type.__call__" {.ref C::us,c})) a s H:={by first | exact e.frames |(simpa [Around.under,Code.envs,Code.isFrame,pushEnvs] using e.frames),e.mod,e.bs,e.bsz,e.funs,e.frf,e.hok,e.bare}
section
variable{X:Cx}{pins:C7}{σ:St}{H:Hp}{s s':V2}
theorem Inv.env0(I:Inv X pins σ H s):Env0 X.prog X.w X.K X.mg X.base X.A X.stack s H:=
 {I.ok.frames,I.ok.mod,I.bs,pB I.ok.bsz I.sz,I.stack,I.stkFree,I.hok,I.bare}
theorem Inv.after{Q:VK}{u:V0}(I:Inv X pins σ H s)(h:CE X.stack X.prog X.w H s Q u s'):EP X pins σ Q u s':=by
 ext zV h v j os a i k;ext oAA k c r q;obtain⟨f,g,d,t,e⟩:=s';obtain rfl:e=s.os:=os;exact{v,j,I.call (h':=f) (g':=g) (d':=d) (t':=t) (ch:=[]) i c a (λb z=>absurd z (by simp)),r,q}
end
def kY(sp:Sp)(a:B3)(E:XK)(t:TA):TE:=λσ H Q=>t σ H λb c=>sp (b++a) c Q E
def Binds(K:A6)(b:V7)(ps:C1)(ds:B7):Prop:=
 ∀(s:V2)(a:B7),K.In s.heap->(a++ds)...*=ps...*->BindsTo s b {a,[]} (ps.zip (a++ds))
theorem Binds.all{K:A6}{b:V7}{ps:C1}(h:∀a:List V0,a...*=ps...*->bindArgs b {a,[]}=pure (ps.zip a)):Binds K b ps []:=λs a _ c=>by
 rw[pH] at c⊢;exact .of_eq (h a c)
def uD(CX:CXT)(X:Cx)(E:XK):Prop:=∀(a:C7)(σ:St)(H:Hp)(s:V2)(e:V0)(b:V2),Inv X a σ H s->CX X.stack H s E e b->X.xe e b
section
variable{X:Cx}{CX:CXT}{k:Nat}{f C:V1}{fd:V7}{ps:C1}{sp:Sp}{dvs:B3}{ds:B7}{E:XK}{x m:Str}{p pos apos:Pos}{e o:Expr}{es:C5}{ta:TE}{t:TA}
theorem zXp{a:C7}{σ:St}{H:Hp}{s:V2}{Q:VK}{us:B7}{vs:B3}(F:FnOk X.prog X.w X.K X.mg X.base CX k f fd ps sp)(l:Room k X.A)(q:Binds X.K fd ps ds)(j:Vals dvs ds)(d:uD CX X E)
  (I:Inv X a σ H s) (r:Vals vs us) (h:sp (vs++dvs) H Q E):V8 (S5 X.prog X.w) X.A (call (.ref f) us) (EP X a σ Q) X.xe s:=by
 let c:Vals (vs++dvs) (us++ds):=r.append j;let n:(us++ds)...*=ps...*:=by rw[<-c...*];exact F.len _ _ _ _ h
 refine bO (sG (F.run X.A X.stack s H {us,[]} (us++ds) (vs++dvs) Q E l I.env0 (q s us I.kIn n) c h) λr g b=>?_)
 cases r with
 |error e=>exact d a σ H s e g I b|ok i=>
  cases i with|ret u=>exact I.after b|next=>exact False.elim b|brk=>exact False.elim b|cont=>exact False.elim b
theorem zJq(F:FnOk X.prog X.w X.K X.mg X.base CX k f fd ps sp)(j:Room k X.A)(n:Gl X x)(g:X.mg x=Y (.ref f))(u:A7 X.K (.ref f)=true)(y:Binds X.K fd ps ds)(i:Vals dvs ds)(v:uD CX X E)
  (l:PA X (e::es) t) (b:(x==("__debug__" :Str))=false:=by decide) (w:A2 (e::es) X.env=(false,eval e X.env)::A2 es X.env:=by rfl) (c:(S2 pos (A2 es X.env)).any (·.1)=false:=by rfl):
  PE X (.Call (.Name x p) (e::es) [] pos) (kY sp dvs E t):=by
 intro a s σ H Q I h;refine rR (jA I n g ?_ b);refine W.callWith_K (h₀:=X.base) I.ok.mod.kin u (thn (l pos a s σ H _ I h) λD z z_=>?_) w c;obtain⟨A,B,d,r,q⟩:=z_;refine {d.kIn, ?_};exact zXp F j y i v d r q
theorem zXk(F:FnOk X.prog X.w X.K X.mg X.base CX k f fd ps sp)(j:Room k X.A)(l:Gl X x)(g:X.mg x=Y (.ref f))(c:A7 X.K (.ref f)=true)(n:Binds X.K fd ps ds)(i:Vals dvs ds)(d:uD CX X E)
  (a:(x==("__debug__" :Str))=false:=by decide):PE X (.Call (.Name x p) [] [] pos) (kY sp dvs E zBu):=by
 intro b s σ H Q I h;refine rR (jA I l g ?_ a);exact W.callWith_K0 I.kIn c (zXp (us:=[]) F j n i d I .nil h)
structure Mk(K:A6)(C f:V1):Prop where
 makes:W.makesIn K C=true
 init:W.findIn K (.ref C) "__init__" =Y ↥(.ref f)
 fn:W.isFn K (.ref f)=true
 kp:A7 K (.ref C)=true
end
section
variable{X:Cx}{CX:CXT}{k:Nat}{f C:V1}{fd:V7}{ps ks:C1}{sp:Sp}{E:XK}{x m:Str}{p pos apos kpos:Pos}{e o:Expr}{es:C5}{kws:List Keyword}{te ta:TE}{t tk:TA}{nm:Option Str}
structure KBinds(K:A6)(fd:V7)(ps ks:C1)(g:List V0->List V0->List V0)(gV:List V->List V->List V):Prop where
 to:∀(s:V2)(us ws:B7),K.In s.heap->(g us ws)...*=ps...*->BindsTo s fd {us,ks.zip ws} (ps.zip (g us ws))
 rel:∀{vs:B3}{us:B7}{zs:B3}{ws:B7},Vals vs us->Vals zs ws->Vals (gV vs zs) (g us ws)
variable{g:List V0->List V0->List V0}{gV:List V->List V->List V}
end
structure wF(N P:C1)(sc:Scope):Prop where
 kind:sc.kind= .function
 co:sc.isCoroutine=false
 gen:sc.isGenerator=false
 nd:N.Nodup
 pre:N.take P...*=P
 par:∀x∈P,sc.names.lookup x=some .local\/sc.names.lookup x=some .cell
 nofree:∀y∈sc.names,y.2≠ .free
theorem zIt{kindOf:Str->Option NameKind}{x:Str}:∀{a:List (Str×V0)}{m:C8},(∀v,(x,v)∉a)->bindL kindOf a m x=m x
 |[],_,_=>rfl|(n,v)::r,m,h=>by
  unfold bindL;rw[zIt λw b=>h w (mI _ b)];split
  ·let:x≠n:=by rintro rfl;exact h v mE
   simp[this]
  ·rfl
theorem zIp{kindOf:Str->Option NameKind}{x:Str}:∀{a:List (Str×V0)}{m:C8},(∀v,(x,v)∉a)->bindC kindOf a m x=m x
 |[],_,_=>rfl|(n,v)::r,m,h=>by
  unfold bindC;rw[zIp λw b=>h w (mI _ b)];split
  ·rfl
  ·let:x≠n:=by rintro rfl;exact h v mE
   simp[this]
theorem zHz{kindOf:Str->Option NameKind}{x:Str}{v:V0}:∀{P:C1}{vs:B7}{i:Nat}{m:C8},P.Nodup->P[i]? =Y x->vs[i]? =Y v->kindOf x=some .local->
  bindL kindOf (P.zip vs) m x=Y v
 |[],_,_,_,_,h,_,_=>by simp at h|_::_,[],_,_,_,_,h,_=>by simp at h|p::P,w::vs,0,m,d,b,a,c=>by
  simp at b a;subst b;subst a;show bindL kindOf ((p,w)::P.zip vs) m p=_;unfold bindL;rw[zIt λv e=>(pC.mp d).1 (cL e).1,mN c];simp
 |p::P,w::vs,i+1,m,d,b,a,c=>by
  show bindL kindOf ((p,w)::P.zip vs) m x=_;unfold bindL;exact zHz (i:=i) (pC.mp d).2 (by simpa using b) (by simpa using a) c
theorem zIf{kindOf:Str->Option NameKind}{x:Str}{v:V0}:∀{P:C1}{vs:B7}{i:Nat}{m:C8},P.Nodup->P[i]? =Y x->vs[i]? =Y v->kindOf x≠some .local->
  bindC kindOf (P.zip vs) m x=Y v
 |[],_,_,_,_,h,_,_=>by simp at h|_::_,[],_,_,_,_,h,_=>by simp at h|p::P,w::vs,0,m,d,b,a,c=>by
  simp at b a;subst b;subst a;show bindC kindOf ((p,w)::P.zip vs) m p=_;unfold bindC;rw[zIp λv e=>(pC.mp d).1 (cL e).1,mK c];simp
 |p::P,w::vs,i+1,m,d,b,a,c=>by
  show bindC kindOf ((p,w)::P.zip vs) m x=_;unfold bindC;exact zIf (i:=i) (pC.mp d).2 (by simpa using b) (by simpa using a) c
def jI(N:C1)(vs:B3):St:=vs.map some++List.replicate (N...* - vs...*) none
def zCj(CX:CXT)(P:V3)(w:V4)(K:A6)(h:C8)(base:V5)(N:C1)(c:Str)(a:Scope)(f:V1)(g:V0)(A:Around)(b:List S7)(s:V2)(H:Hp)(E:XK):Cx where
 prog:=P
 w:=w
 K:=K
 mg:=h
 base:=base
 A:=A.deeper (envOfC c a s⁻¹ f g)
 N:=N
 s₀:=s
 H₀:=H
 env:=envOfC c a s⁻¹ f g
 outer:=b
 stack:=envOfC c a s⁻¹ f g::b
 ex:=[]
 calm:=true
 fn:=λ_=>true
 pn:=[]
 xe:=λe i=>V8 (S5 P w) (A.deeper (envOfC c a s⁻¹ f g)) (leaving (envOfC c a s⁻¹ f g) e) (λ_ d=>CX b H s E e d) (λj d=>CX b H s E j d) i
theorem zMn{a:Scope}{n:Nat}{x:Str}(h:a.names.lookup x=some .cell):∃c,(cellsFrom n a.names []).lookup x=Y c:=by
 let q:=W.cellsFrom_some a.names n [] (.inl h);exact Option.isSome_iff_exists.mp q
theorem zHq{CX:CXT}{P:V3}{w:V4}{K:A6}{M:C8}{base:V5}{N ps:C1}{j:Str}{d:Scope}{f:V1}{I:V0}{A:Around}{g:List S7}{s s1:V2}{H:Hp}{E:XK}{us:B7}{vs:B3}
  (S:wF N ps d) (hd:A.handled=none) (m:Env0 P w K M base A g s H) (hl:vs...*=ps...*) (r:Vals vs us)
  (x:InCallC s s⁻¹ (bindL (envOfC j d s⁻¹ f I).kindOf (ps.zip us) λ_=>none) (cellsFrom (s⁻¹+1) d.names []) (bindC (envOfC j d s⁻¹ f I).kindOf (ps.zip us) λ_=>none) s1):
  Inv (zCj CX P w K M base N j d f I A g s H E) [] (jI N vs) H s1:=by
 let aa:ps...*<=N...*:=by let:=congrArg List.length S.pre;rw[nU] at this;lia
 refine wO (x.done) λJ tk L Q=>?_;subst L;let o:∀b:V1,b∉(zCj CX P w K M base N j d f I A g s H E).ex:=λb z=>absurd (show b∈([]:B9) from z) (by simp);refine{{m.mod,S.kind,O,O,mC _,λy z c J l=>?_,λy hy=>?_,λy c _ h=>?_,λ_=>hd,Around.frames_deeper m.frames, .inr ⟨O,O⟩,λb z=>absurd z (o b),m.bs,m.bsz,λb _ _=>o b,λb z=>absurd z (o b),m.funs,m.frf},
  rfl,m.bare,Un.kept Q,{_,x.toInCall.ns,λi y v J l h3=>?_},λy c h=>{_,x.cell y c h},m.hok.fresh (mC _),λy c h=>?_,λp B=>absurd (show p∈([]:C7) from B) (by simp),m.hok.kept Q, ?_}
 ·exact name_of_addr x.apart (sM J) (sM l)
 ·let hy:d.names.lookup y=some .cell\/d.names.lookup y=some .free:=hy
  rcases hy with hy | hy
  ·exact zMn hy
  ·exact absurd O (S.nofree _ (sM hy))
 ·exact tY (x.above y c (sM h))
 ·let D:i<vs...*:=by
   unfold jI at l
   by_cases D:i<vs...*
   ·exact D
   ·rw[nW (by simpa using D)] at l
    rw[bS] at l;split at l<;>cases l
  let ha:vs[i]? =Y v:=by
   unfold jI at l;rw[nY (by simpa using D),nG] at l
   cases e:vs[i]? with|none=>rw[e] at l;cases l|some a=>rw[e] at l;cases l;rfl
  obtain⟨u,hu,rv⟩:=r.get ha;let B:ps[i]? =Y y:=by
   rw[<-S.pre,bE ∅];exact J
  let t:ps.Nodup:=by rw[<-S.pre];exact S.nd.sublist (List.take_sublist _ _)
  refine{u,rv, ?_};rcases S.par y (mM B) with k | k
  ·exact .inl {k,zHz t B hu k}
  ·obtain⟨c,e⟩:=zMn (n:=s⁻¹+1) k
   refine .inr {.inl k,c,e, ?_};let q:=x.cell y c e;rw[zIf t B hu (by show d.names.lookup y≠_;rw[k];decide)] at q;exact q
 ·exact m.hok.fresh (tY (x.above y c (sM h)))
 ·unfold jI
  show _=N...*;rw[mL,mJ,rY]
  lia
theorem zSe{CX:CXT}{P:V3}{w:V4}{K:A6}{mg:C8}{base:V5}{k:Nat}{f:V1}{m d:Str}{h:Arguments}{i:List V6}{a:Scope}{dV kV aa pm g ct oc:V0}{an od:Option V1}
  {ab:Array (Option V0)} {N ps:C1} {sp:Sp} (lk:K.lookup f=Y {oc,od, .func (W.fnOf m d h i a dV kV aa pm an g ct),ab}) (ac:A9 K g d=true) (S:wF N ps a)
  (len:∀j H Q E,sp j H Q E->j...*=ps...*)
  (p:∀(A:Around)(c:List S7)(s:V2)(H:Hp)(j:B3)(Q:VK)(E:XK),Room k (A.deeper (envOfC d a s⁻¹ f g))->sp j H Q E->
   ∃t,PSs (zCj CX P w K mg base N d a f g A c s H E) i t/\t {nx:=λ_ l=>Q .non l,rt:=Q} (jI N j) H):
  FnOk P w K mg base CX (k+1) f (W.fnOf m d h i a dV kV aa pm an g ct) ps sp:=by
 refine{len,λA c s H af us j Q E hr D hb r M=>?_};let hl:=len _ _ _ _ M;let KX:K.In s.heap:=D.mod.kin.keeps λb o e=>(D.bs b o e).1;let ae:s.heap.NoLimit:=D.mod.nolimit.keeps λb o e=>(D.bs b o e).1;let z:∀y∈ps.zip us,a.names.lookup y.1=some .local\/(a.names.lookup y.1=some .cell/\((cellsFrom (s⁻¹+1) a.names []).lookup y.1).isSome=true):=fun⟨n,v⟩ hy=>by
  rcases S.par n (cL hy).1 with q | q
  ·exact .inl q
  ·exact .inr {q,W.cellsFrom_some _ _ _ (.inl q)}
 refine codeAny_call_function hr.depth (KX _ _ lk) O S.co S.gen O (W.codeRec_of KX ac) (hb _ _ _ _ ?_);refine wpAny_newFunctionEnv_cells S.kind z λag he s1 x=>?_;subst he;refine{ae.keeps x.toInCall.keep,codeAny_func ?_};obtain⟨t,ht,hq⟩:=p A c s H j Q E (hr.deeper _) M;let I:Inv (zCj CX P w K mg base N d a f g A c s H E) [] (jI N j) H s1:=zHq S hr.hd D hl r x;refine pL (ht [] s1 (jI N j) H _ I hq) (λfl s' B=>?_) λe s' B=>B;let L:∀{σ':St}{l:Hp}{v:V}{u:V0},Inv (zCj CX P w K mg base N d a f g A c s H E) [] σ' l s'->RelV v u->Q v l->CE c P w H s Q u s':=
  λ{σ' l v u} J rv q=>⟨v,l,J.os,J.bare,J.base,J.hok,rv,q⟩
 cases fl with
 |ret u=>
  ext yB B v σ' l J rv q;exact L J rv q
 |next=>
  ext wO B σ' l J q;exact L (v:=V.non) (u:=Value.none) J O q
 |brk=>
  ext wO B _ _ _ q;exact False.elim q
 |cont=>
  ext wO B _ _ _ q;exact False.elim q
section
variable{X:Cx}{x:Str}{p pos:Pos}{e:Expr}{es:C5}{t:TA}{id T:String}{r:List V->Hp->VK->Prop}
def tCB(r:List V->Hp->VK->Prop)(t:TA):TE:=λσ H Q=>t σ H λa b=>r a b Q
theorem zO(g:wR X (.builtin id) r)(m:Gl X x)(j:X.mg x=none)(w:A1 x=Y (.builtin id))(k:PA X (e::es) t)(u:x≠ "__name__":=by decide)(b:(x==("__debug__" :Str))=false:=by decide)
  (q:A2 (e::es) X.env=(false,eval e X.env)::A2 es X.env:=by rfl) (c:(S2 pos (A2 es X.env)).any (·.1)=false:=by rfl):PE X (.Call (.Name x p) (e::es) [] pos) (tCB r t):=by
 intro a s σ H Q I h;refine rR (kI I m j w ?_ u b);refine cM (thn (k pos a s σ H _ I h) λn d z_=>?_) q c;obtain⟨f,i,o,v,l⟩:=z_;exact g a d σ i f n Q o v l
theorem yW(g:wR X (.type T) r)(m:Gl X x)(j:X.mg x=none)(w:A1 x=Y (.type T))(k:PA X (e::es) t)(u:x≠ "__name__":=by decide)(b:(x==("__debug__" :Str))=false:=by decide)
  (q:A2 (e::es) X.env=(false,eval e X.env)::A2 es X.env:=by rfl) (c:(S2 pos (A2 es X.env)).any (·.1)=false:=by rfl):PE X (.Call (.Name x p) (e::es) [] pos) (tCB r t):=by
 intro a s σ H Q I h;refine rR (kI I m j w ?_ u b);refine pQ (thn (k pos a s σ H _ I h) λn d z_=>?_) q c;obtain⟨f,i,o,v,l⟩:=z_;exact g a d σ i f n Q o v l
end
end L2
namespace HT
open PySem PyProof.Rows
section
open PySem.SeqAt
open PySem.AutoSeq1 (wpAny_loadPart')
open PySem.MeetsSeq PySem.MeetsSeq2 PySem.MeetsSeq3
end
section
variable{prog:V3}{w:V4}{A:Around}{E:C9}{s:V2}
def sIx(n d:Nat):Option Int->Nat
 |none=>d|some v=>if v<0 then(v+(n:Int)).toNat else min v.toNat n
theorem sIx_none(n d:Nat):sIx n d none=d:=rfl
theorem sIx_nat(n d k:Nat):sIx n d ↥(k:Int)=min k n:=by
 show(if(k:Int)<0 then((k:Int)+(n:Int)).toNat else min (k:Int).toNat n)=min k n;rw[if_neg ∅,Int.toNat_natCast]
end
end HT
namespace L2
open PySem PySem.Spec PyProof.Rows
abbrev TO:=St->Hp->(Option Int->Hp->Prop)->Prop
def PO(X:Cx)(e:Option Expr)(t:TO):Prop:=
 ∀(a:C7)(s:V2)(σ:St)(H:Hp)(Q:Option Int->Hp->Prop),Inv X a σ H s->t σ H Q->
  V8 (S5 X.prog X.w) X.A (evalPart e X.env) (λu c=>∃o b,Inv X a σ b c/\IsPart u o/\Q o b) X.xe s
def zJc:TO:=λ_ H Q=>Q none H
def zYx(t:TE):TO:=λσ H Q=>t σ H λx a=>∃i,x= .int i/\Q ↥i a
section
variable{X:Cx}{e:Expr}{te:TE}{lo hi:Option Expr}{tl th:TO}{pos p2:Pos}
theorem kQ:PO X none zJc:=by
 intro a s σ H Q I h;rw[evalPart_none];exact nB {none,H,I, .none,h}
theorem qY(h:PE X e te):PO X ↥e (zYx te):=by
 intro a s σ H Q I d;rw[evalPart_some];refine thn (h a s σ H _ I d) λu j z_=>?_;obtain⟨x,b,f,g,c⟩:=z_;obtain⟨i,rfl,q⟩:=c;obtain⟨t,rfl⟩:=g;exact{Y i,b,f, .int i t,q}
def SlR(X:Cx)(r:V->Option Int->Option Int->Hp->VK->Prop):Prop:=
 ∀(a:C7)(s:V2)(σ:St)(H:Hp)(x:V)(v d c:V0)(lo hi:Option Int)(b:V1)(Q:VK),Inv X a σ H s->RelV x v->s.heap.IsSliceOf b d c .none->IsPart d lo->IsPart c hi->r x lo hi H Q->
  ∃T id,typeLookup (.type T) "__getitem__" =pure ↥(.builtin id)/\s.TypeIs v T/\V8 (S5 X.prog X.w) X.A (getItem v (.ref b)) (EP X a σ Q) X.xe s
def tSl(r:V->Option Int->Option Int->Hp->VK->Prop)(te:TE)(tl th:TO):TE:=λσ H Q=>te σ H λx b=>tl σ b λl a=>th σ a λu c=>r x l u c Q
theorem jC{r:V->Option Int->Option Int->Hp->VK->Prop}(B:SlR X r)(he:PE X e te)(t:PO X lo tl)(N:PO X hi th):PE X (.Subscript e (.Slice lo hi none p2) pos) (tSl r te tl th):=by
 intro a s σ H Q I h;refine Subscript_ (thn (he a s σ H _ I h) λv z z_=>?_);obtain⟨x,A,o,p,E⟩:=z_;refine wpAny_Slice (thn (t a z σ A _ o E) λf J z_=>?_);obtain⟨l,L,i,D,q2⟩:=z_;refine thn (N a J σ L _ i q2) λd c z_=>?_;obtain⟨u,g,j,w,n⟩:=z_;rw[evalPart_none];refine nB ?_;let y:Inv X a σ g {c with heap:=c.heap.push {cls:=.type "slice",data:=.fields #[f,d, .none]}}:=j.kept (t':=c.toks) λb ob q=>mO _ q;refine yO (B a {c with heap:=c.heap.push {cls:=.type "slice",data:=.fields #[f,d, .none]}} σ g x v f d l u c⁻¹ Q y p (Heap.IsSliceOf.new ..) D w n) λT id M k m=>?_;show V8 (S5 X.prog X.w) X.A (subscriptTail e (.Slice lo hi none p2) v (.ref c⁻¹)) (EP X a σ Q) X.xe {c with heap:=c.heap.push {cls:=.type "slice",data:=.fields #[f,d, .none]}};exact tail_any (ops:=[.ref c⁻¹,v]) k M m (by with_unfolding_all rfl)
def zCo(xs:B3)(lo hi:Option Int):List V:=(xs.drop (HT.sIx xs...* 0 lo)).take (HT.sIx xs...* xs...* hi - HT.sIx xs...* 0 lo)
theorem zMt(xs:B3)(lo hi:Option Int):(zCo xs lo hi)...*<=xs...*:=by
 unfold zCo;rw[nU,nI]
 lia
end
def ixN(n:Nat)(i:Int):Option Nat:=if 0<=i then(if i<n then Y i.toNat else none) else if -(n:Int)<=i then Y (i+n).toNat else none
def atI{α:Type}(xs:List α)(i:Int):Option α:=(ixN xs...* i).bind λj=>xs[j]?
theorem zKw{n:Nat}{i:Int}{j:Nat}(h:ixN n i=Y j):seqIndex? i n=Y j/\j<n/\-(n:Int)<=i/\i<n:=by
 unfold ixN at h
 by_cases b:0<=i
 ·rw[mN b] at h
  by_cases a:i<n
  ·rw[mN a] at h
   let e:i.toNat=j:=mQ h;exact{by rw[seqIndex_of b a,e],∅,∅,a}
  ·rw[mK a] at h;cases h
 ·rw[mK b] at h
  by_cases a: -(n:Int)<=i
  ·rw[mN a] at h
   let e:(i+n).toNat=j:=mQ h;exact{by rw[seqIndex_neg ∅ a,e],∅,a,∅}
  ·rw[mK a] at h;cases h
theorem zKv{α:Type}{xs:List α}{i:Int}{v:α}(h:atI xs i=Y v):∃j,seqIndex? i xs...*=Y j/\xs[j]? =Y v/\j<xs...*/\-(xs...*:Int)<=i/\i<xs...*:=by
 unfold atI at h
 cases e:ixN xs...* i with
 |none=>rw[e] at h;cases h|some j=>
  rw[e] at h;refine yZ (zKw e) λc a d b=>?_;exact⟨j,c,h,a,d,b⟩
theorem yI{α:Type}{xs:List α}{j:Nat}{v:α}(h:xs[j]? =Y v):atI xs (j:Int)=Y v:=by
 let a:j<xs...*:=(mS.mp h).1;let e:ixN xs...* (j:Int)=Y j:=by
  unfold ixN;rw[mN ∅,mN ∅];simp
 unfold atI;rw[e];exact h
theorem xV{α:Type}(xs:List α)(v:α):atI (xs++ [v]) (-1)=Y v:=by
 let a:(xs++ [v])...*=xs...*+1:=by simp
 let e:ixN (xs++ [v])...* (-1)=Y xs...*:=by
  unfold ixN;rw[a,mK ∎,mN ∅]
  congr 1
  lia
 unfold atI;rw[e];show(xs++ [v])[xs...*]? =Y v;simp
def zRd(b:Expr):Prop:=∀o i,subscripted b false o i=operate [o,i] (getItem o i)
def IxR(X:Cx)(r:R2):Prop:=
 ∀(c a:Expr)(b:C7)(s:V2)(σ:St)(H:Hp)(x y:V)(v u:V0)(Q:VK),Inv X b σ H s->RelV x v->RelV y u->r x y H Q->
  subscripted a false v u=operate [v,u] (getItem v u)->V8 (S5 X.prog X.w) X.A (subscriptTail c a v u) (EP X b σ Q) X.xe s
def MtR(X:Cx)(id:String)(r:V->List V->Hp->VK->Prop):Prop:=
 ∀(a:C7)(s:V2)(σ:St)(H:Hp)(x:V)(b:B3)(v:V0)(c:B7)(Q:VK),Inv X a σ H s->RelV x v->Vals b c->r x b H Q->
  V8 (S5 X.prog X.w) X.A (call (.builtin id) (v::c)) (EP X a σ Q) X.xe s
section
variable{X:Cx}{a b:Expr}{ta tb:TE}{pos:Pos}
theorem pe_ix{r:R2}(e:IxR X r)(f:PE X a ta)(m:PE X b tb)(g:zRd b):PE X (.Subscript a b pos) (tOp r ta tb):=by
 intro c s σ H Q I h;exact Subscript_ (yDs f m I h λv u i x y k d j l q=>e a b c i σ k x y v u Q d j l q (g _ _))
def yAl(K:A6):R2:=λx y H Q=>∃p c i v,x= .ref p/\y= .int i/\SqL K H p c/\atI c i=Y v/\Q v H
def yAh(K:A6):R2:=λx y H Q=>∃p c i v,x= .ref p/\y= .int i/\SqT K H p c/\atI c i=Y v/\Q v H
def rIxS:R2:=λx y H Q=>∃z i c,x= .str z/\y= .int i/\z...*<=V9/\atI z.cps.toList i=Y c/\Q (.str {#[c]}) H
theorem zU:IxR X (yAl X.K):=by
 intro f g c s σ H x y v u Q I rx ry h B;ext yN h p xs i z k z_;ext yZ z_ l hq he q;subst k l;cases rx;obtain⟨t,rfl⟩:=ry;refine xE (I.list hq) λm r o hz=>?_;refine wQ (zKv he) λj e M h3 L J=>?_;obtain⟨w,D,A⟩:=r.get M;let N:=r...*;let hn:=zBh;let d:EP X c σ Q w s:=⟨z,H,I,A,q⟩
 by_cases E:0<=i
 ·let n:i.toNat=j:=by
   rw[seqIndex_of E J] at e;exact mQ e
  exact item_listR o.isList E ∅ (by rw[n];simpa using D) d B
 ·let n:(i+(m.toArray.size:Int)).toNat=j:=by
   rw[seqIndex_neg ∅ L] at e;rw[nD,<-N];exact mQ e
  exact subscriptTail_builtinR (x:=w) o.isList.typeIs slot_list_getitem.lookup
   (wpAny_getItem_list_neg (Q:=λr s'=>r=w/\EP X c σ Q r s') o.isList ∅ (by rw[nD]<;>lia) ∅ (by rw[n];simpa using D) ⟨O,d⟩) B
theorem kC:IxR X (yAh X.K):=by
 intro d e c s σ H x y v u Q I E J h n;ext yN h p xs i z f z_;ext yZ z_ k N L q;subst f k;cases E;obtain⟨t,rfl⟩:=J;refine xE (I.tuple N) λD r m hz=>?_;refine wQ (zKv L) λj M A h3 h4 h5=>?_;obtain⟨w,o,l⟩:=r.get A;let B:=r...*;let hn:=zBh;let g:EP X c σ Q w s:=⟨z,H,I,l,q⟩;exact subscriptTail_builtinR (x:=w) m.typeIs slot_tuple_getitem.lookup
  (getItem_tuple (j:=j) (Q:=λr s'=>r=w/\EP X c σ Q r s') m ∅ ∅ (by rw[nD,<-B];exact M) (by simpa using o) ⟨O,g⟩) n
theorem zDs:IxR X rIxS:=by
 intro d e k s σ H x y v u Q I A B h m;ext yB h z i c g f J;ext oAA J L E q;subst g f;obtain⟨t,rfl⟩:=A;obtain⟨M,rfl⟩:=B;refine wQ (zKv E) λj l r N p n=>?_;let w:z.cps.toList...*=z...*:=by simp[Str.length]
 rw[w] at l p n;let hn:=zBh;exact tail_any (typeIs_str s z t) slot_str_getitem.lookup (getItem_str (c:=c) (by
  let o:decide (i< -(2 ^ 63:Int))=false:=nP ∅;let D:decide (i≥2 ^ 63)=false:=nP ∅;rw[o,D,Bool.or_false]) (by rw[l];simpa using r) {.str {#[c]},H,I.tok _,⟨_,O⟩,q}) m
theorem zOx(c:B7)(n j:Nat)(u:V0):Obj.mapSeq (·.setIfInBounds j u) {cls:=.type "list",data:=.seq c.toArray n}={cls:=.type "list",data:=.seq (c.set j u).toArray n}:=by
 simp[Obj.mapSeq]
theorem Inv.lst{d:C7}{σ:St}{H:Hp}{s:V2}{p:V1}{xs:B3}(I:Inv X d σ H s)(h:H p=Y (.lst xs)):
  ∃(c:B7)(n:Nat),Vals xs c/\s.heap.get? p=some {cls:=.type "list",data:=.seq c.toArray n}/\xs...*<=V9:=by
 obtain⟨z,c,n,r,e⟩:=I.hok p _ h;exact⟨c,n,r,e,z⟩
theorem Inv.lstUpd{c:C7}{σ:St}{H:Hp}{s:V2}{p:V1}{xs ys:B3}{d its':B7}{n n':Nat}{f:Obj->Obj}(I:Inv X c σ H s)(h:H p=Y (.lst xs))
  (i:s.heap.get? p=some {cls:=.type "list",data:=.seq d.toArray n}) (g:f {cls:=.type "list",data:=.seq d.toArray n}={cls:=.type "list",data:=.seq its'.toArray n'}) (r:Vals ys its') (hz:ys...*<=V9) (t:Nat):
  Inv X c σ (upd H p (.lst ys)) {s with heap:=s.heap.update p f,toks:=t}:=by
 let e:(s.heap.update p f).get? p=some {cls:=.type "list",data:=.seq its'.toArray n'}:=by
  rw[cI f i (by rw[g]<;>rfl),g]
 refine I.write (x:=p) (e:=p) (by rw[h];trivial) (.inl O) (λb u j q=>(nM _ _ (Ne.symm j)).trans q) ⟨_,e⟩ ?_;exact⟨hz,its',n',r,e⟩
def rSetL:V->V->V->Hp->(Hp->Prop)->Prop:=λo i v H Q=>∃p c k j,o= .ref p/\i= .int k/\H p=Y (.lst c)/\ixN c...* k=Y j/\Q (upd H p (.lst (c.set j v)))
theorem zUo:PSet X rSetL:=by
 intro c s σ H o i v ov iv u Q I M L N h;ext yN h p E k j f z_;ext yZ z_ l z J q;subst f l;cases M;obtain⟨t,rfl⟩:=L;refine yO (I.lst z) λd n r w D=>?_;refine yZ (zKw J) λe h2 A x=>?_;let m:=r...*;let hn:=zBh;let B:Inv X c σ (upd H p (.lst (E.set j v))) {s with heap:=s.heap.update p (Obj.mapSeq (·.setIfInBounds j u))}:=
  I.lstUpd z w (zOx d n j u) (r.set N j) (by rw[aY];exact D) s.toks
 by_cases y:0<=k
 ·let g:k.toNat=j:=by
   rw[seqIndex_of y x] at e;exact mQ e
  exact W.ki_setAt w y ∅ (by rw[nD,<-m];exact x) (by rw[g];exact⟨_,B,q⟩)
 ·let g:(k+(d.toArray.size:Int)).toNat=j:=by
   rw[seqIndex_neg ∅ A] at e;rw[nD,<-m];exact mQ e
  exact W.ki_setBack w ∅ (by rw[nD,<-m];exact A) ∅ (by rw[g];exact⟨_,B,q⟩)
theorem zKg(lo c:Option Int)(n:Nat):(sliceBounds lo c none n).1=((HT.sIx n 0 lo:Nat):Int)/\(sliceBounds lo c none n).2.1=((HT.sIx n n c:Nat):Int)/\(sliceBounds lo c none n).2.2=1:=by
 refine{?_, ?_,O}
 ·cases lo with
  |none=>simp[sliceBounds,HT.sIx]|some i=>
   simp only[sliceBounds,HT.sIx,Option.getD_none,show(1:Int)>0 by decide,dY]
   by_cases h:i<0
   ·simp only[h,dY]<;>lia
   ·simp only[h,if_false]<;>lia
 ·cases c with
  |none=>simp[sliceBounds,HT.sIx]|some i=>
   simp only[sliceBounds,HT.sIx,Option.getD_none,show(1:Int)>0 by decide,dY]
   by_cases h:i<0
   ·simp only[h,dY]<;>lia
   ·simp only[h,if_false]<;>lia
theorem zHj(c:B7)(lo d:Option Int):slicePick c.toArray lo d none=((c.drop (HT.sIx c...* 0 lo)).take (HT.sIx c...* c...* d - HT.sIx c...* 0 lo)).toArray:=by
 obtain⟨f,e,g⟩:=zKg lo d c.toArray.size;unfold slicePick;rw[f,e,g];simp only[sliceRange_one,pick_run,nD]<;>rfl
def rSlL(K:A6):V->Option Int->Option Int->Hp->VK->Prop:=λx lo d H Q=>∃a c,x= .ref a/\SqL K H a c/\∀p,H p=none->Q (.ref p) (upd H p (.lst (zCo c lo d)))
theorem kZ:SlR X (rSlL X.K):=by
 intro g s σ H x v u w lo f y Q I n l m t h;ext yO h a c e p q;subst e;cases n;refine xE (I.list p) λj r i k=>?_;let d:=r...*;refine{"list",_,slot_list_getitem.lookup,i.isList.typeIs, ?_};refine wpAny_getItem_list_slice i.isList l m t .none (by simp) ?_ (by rw[nD]<;>lia);rw[zHj,<-d];refine{.ref s⁻¹,_,I.laid (t':=s.toks) (o:=.lst (zCo c lo f)) (λb z q=>mO _ q) (mC _) ?_,O,q _ (I.hok.fresh (mC _))};exact{pB (zMt c lo f) k,_,0,(r.drop (HT.sIx c...* 0 lo)).take (HT.sIx c...* c...* f - HT.sIx c...* 0 lo),nQ _ O}
def uS:V->Bool
 |.non=>true|.bl _=>true|.int _=>true|.str _=>true|_=>false
def eqV:V->V->Bool
 |.non, .non=>true|.bl a, .bl b=>a==b|.bl a, .int b=>(if a then 1 else 0)==b|.int a, .bl b=>a==(if b then 1 else 0)|.int a, .int b=>a==b|.str a, .str b=>a==b|_,_=>false
theorem yEx{A:Around}{s:V2}{y x:V}{u v:V0}(e:RelV y u)(c:RelV x v)(g:uS y=true)(f:uS x=true):SeqAt.EqAt A s u v (eqV y x):=by
 cases y with
 |non=>
  cases e
  cases x with
  |non=>cases c;exact SeqAt.EqAt.same _|bl b=>cases c;exact SeqAt.EqAt.none_bool b|int b=>obtain⟨t,rfl⟩:=c;exact SeqAt.EqAt.none_int b t
  |str b=>obtain⟨t,rfl⟩:=c;exact SeqAt.EqAt.none_str b t
  |_=>exact absurd (show false=true from f) nL
 |bl a=>
  cases e
  cases x with
  |non=>cases c;exact SeqAt.EqAt.bool_none a|bl b=>cases c;exact SeqAt.EqAt.bool_bool a b|int b=>obtain⟨t,rfl⟩:=c;exact SeqAt.EqAt.bool_int a b t
  |str b=>obtain⟨t,rfl⟩:=c;exact SeqAt.EqAt.bool_str a b t
  |_=>exact absurd (show false=true from f) nL
 |int a=>
  obtain⟨d,rfl⟩:=e
  cases x with
  |non=>cases c;exact SeqAt.EqAt.int_none a d|bl b=>cases c;exact SeqAt.EqAt.int_bool a d b|int b=>obtain⟨t,rfl⟩:=c;exact SeqAt.EqAt.int_int a d b t
  |str b=>obtain⟨t,rfl⟩:=c;exact SeqAt.EqAt.int_str a d b t
  |_=>exact absurd (show false=true from f) nL
 |str a=>
  obtain⟨d,rfl⟩:=e
  cases x with
  |non=>cases c;exact SeqAt.EqAt.str_none a d|bl b=>cases c;exact SeqAt.EqAt.str_bool a d b|int b=>obtain⟨t,rfl⟩:=c;exact SeqAt.EqAt.str_int a d b t
  |str b=>obtain⟨t,rfl⟩:=c;exact SeqAt.EqAt.str_str a d b t
  |_=>exact absurd (show false=true from f) nL
 |_=>exact absurd (show false=true from g) nL
theorem zCm:wR X (.builtin "len") (λxs H Q=>∃p ys,xs= [.ref p]/\(SqL X.K H p ys\/SqT X.K H p ys)/\Q (.int ys...*) H):=by
 intro i s σ H xs l Q I r h;ext yO h p ys g hq q;subst g;obtain⟨u,rfl,k⟩:=jP r;cases k;let m:=zBh;rcases hq with hq | hq
 ·refine xE (I.list hq) λe d f j=>?_
  let c:=d...*;exact Calls.call_len_list f.isList (by simp only[nD]<;>lia) {.int ys...*,H,I.tok _,{s.toks+1,by rw[nD,c]},q}
 ·refine xE (I.tuple hq) λe d f j=>?_
  let c:=d...*;exact len_tuple f (by simp only[nD]<;>lia) {.int ys...*,H,I.tok _,{s.toks+1,by rw[nD,c]},q}
theorem zCf:wR X (.builtin "len") (λxs H Q=>∃z,xs= [.str z]/\z...*<=V9/\Q (.int z...*) H):=by
 intro d s σ H xs f Q I r h;ext xE h z c e q;subst c;obtain⟨u,rfl,t,rfl⟩:=jP r;let g:=zBh;exact len_str ∅ {.int z...*,H,I.tok _,⟨_,O⟩,q}
theorem zDa:wR X (.type "list") (λxs H Q=>∃p ys,xs= [.ref p]/\(SqL X.K H p ys\/SqT X.K H p ys)/\∀l,H l=none->Q (.ref l) (upd H l (.lst ys))):=by
 intro i s σ H xs D Q I r h;ext yO h p ys w hq q;subst w;obtain⟨u,rfl,B⟩:=jP r;cases B;let k:∀(c:B7),Vals ys c->ys...*<=V9->∀(d:V5)(f:Nat),(∀b A,s.heap.get? b=Y A->d.get? b=Y A)->
   d.get? s⁻¹=some {cls:=.type "list",dict:=none,data:=.seq c.toArray f,slots:=#[]}->EP X i σ Q (.ref s⁻¹) {s with heap:=d}:=λc g j d f t e=>
  {.ref s⁻¹,_,I.laid (t':=s.toks) t (mC _) (show ObjOk X.prog X.w _ d _ (.lst ys) from⟨j,c,f,g,e⟩),O,q _ (I.hok.fresh (mC _))}
 rcases hq with hq | hq
 ·refine xE (I.list hq) λc g z j=>?_
  let m:=g...*;obtain⟨o,x,y,n,v⟩:=z.isList;exact call_list_seq p (.inl O) x y v (λd f t e=>k c g j d f t e) (by simp only[nD]<;>lia)
 ·refine xE (I.tuple hq) λc g z j=>?_
  let m:=g...*;obtain⟨o,x,y,n,v⟩:=z;exact call_list_seq p (.inr O) x y v (λd f t e=>k c g j d f t e) (by simp only[nD]<;>lia)
theorem zHi:wR X (.type "tuple") (λxs H Q=>∃p ys,xs= [.ref p]/\((SqL X.K H p ys/\∀l,H l=none->Q (.ref l) (upd H l (.tup ys)))\/(SqT X.K H p ys/\Q (.ref p) H))):=by
 intro c s σ H xs y Q I r h;ext wO h p ys g h;subst g;obtain⟨u,rfl,x⟩:=jP r;cases x;rcases h with⟨k,q⟩|⟨k,q⟩
 ·refine xE (I.list k) λd i j m=>?_
  let n:=i...*;refine call_tuple_list j.isList (λf w=>?_) (by simp only[nD]<;>lia);let t:Inv X c σ H {s with heap:=f}:=I.kept (t':=s.toks) w;let v:Inv X c σ (upd H f.objs.size (.tup ys)) {s with heap:=f.push {cls:=.type "tuple",data:=.seq d.toArray}}:=
   t.laid (t':=s.toks) (λb o e=>mO _ e) (mC _) (show ObjOk X.prog X.w _ _ _ (.tup ys) from{m,d,i,IsTup.new _ _})
  exact{.ref f.objs.size,_,v,O,q _ (t.hok.fresh (mC _))}
 ·refine xE (I.tuple k) λd i j m=>?_
  exact call_tuple_same j {.ref p,H,I,O,q}
def tyV(K:A6)(T:String)(x:V)(H:Hp):Prop:=match x with
 |.str _=>T= "str"|.int _=>T= "int"|.ref p=>(T= "list"/\∃d,SqL K H p d)\/(T= "tuple"/\∃o,K.lookup p=Y o/\o.cls= .type "tuple"/\o.dict=none)\/
   (T= "dict"/\((∃c,H p=Y (.dK c))\/∃c,H p=Y (.dT c)))\/(T= "set"/\∃S n,H p=Y (.set S n))
 |_=>False
theorem zXz{g:C7}{σ:St}{H:Hp}{s:V2}{T:String}{x:V}{v:V0}(I:Inv X g σ H s)(r:RelV x v)(h:tyV X.K T x H):
  s.TypeIs v T/\∀a,v= .ref a->∃q,s.heap.get? a=Y q/\q.dict=none:=by
 cases x with
 |str z=>
  obtain⟨t,rfl⟩:=r;cases (show T= "str" from h);exact{typeIs_str s z t,λ_ e=>nomatch e}
 |int i=>
  obtain⟨t,rfl⟩:=r;cases (show T= "int" from h);exact{typeIs_int s i t,λ_ e=>nomatch e}
 |ref p=>
  cases r;rcases h with⟨rfl,B,A⟩|⟨rfl,o,d,u,j⟩|⟨rfl,d⟩|⟨rfl,S,n,d⟩
  ·refine xE (I.list A) λw _ m _=>?_
   refine{m.isList.typeIs,λa e=>?_};cases e;ext zV m o n e c j _;exact⟨o,e,j⟩
  ·refine{⟨o,I.kIn p o d,u⟩,λa e=>?_}
   cases e;exact⟨o,I.kIn _ o d,j⟩
  ·let z:∃o,s.heap.get? p=Y o/\o.ExactDict:=by
    rcases d with⟨l,d⟩|⟨l,d⟩
    ·obtain⟨_,_,_,_,o,_,_,e,f,_⟩:=I.hok p _ d
     exact⟨o,e,f⟩
    ·obtain⟨_,_,_,_,o,_,_,e,f,_⟩:=I.hok p _ d
     exact⟨o,e,f⟩
   obtain⟨o,e,f⟩:=z;refine{⟨o,e,f.1⟩,λa k=>?_};cases k;exact⟨o,e,f.2.1⟩
  ·refine yN (I.hok p _ d) λo _ _ _ e y=>?_
   ext oA y f _;refine{⟨o,e,f.1⟩,λa k=>?_};cases k;exact⟨o,e,f.2.1⟩
 |_=>exact False.elim h
def yGk(K:A6)(T:String)(r:V->List V->Hp->VK->Prop)(d:TE):TE:=λσ H Q=>d σ H λx c=>tyV K T x c/\r x [] c Q
def tBM(K:A6)(T:String)(r:V->List V->Hp->VK->Prop)(f:TE)(t:TA):TE:=λσ H Q=>f σ H λx c=>tyV K T x c/\t σ c λd e=>r x d e Q
variable{o e:Expr}{es:C5}{to:TE}{t:TA}{name:Str}{apos cpos:Pos}{T id:String}{r:V->List V->Hp->VK->Prop}
theorem yEa(z:PlainAttrs T)(g:Slot T name id)(i:typeOf (.builtin id)=pure (.type "method_descriptor"))(p:MtR X id r)(m:PE X o to)
  (f:attributeBase o name X.env (eval o X.env)=eval o X.env:=by rfl) (d:(apos.endLine==cpos.line)=true:=by rfl):PE X (.Call (.Attribute o name apos) [] [] cpos) (yGk X.K T r to):=by
 intro c s σ H Q I h;refine wpAny_Call_method0_late f d (thn (m c s σ H _ I h) λv l z_=>?_);obtain⟨x,n,j,k,u,q⟩:=z_;obtain⟨y,w⟩:=zXz j k u;exact{T,id,z,g,i,y,w,aL O (PySem.evalArgs_none (p c l σ n x [] v [] Q j k .nil q))}
theorem qA(pa:PlainAttrs T)(i:Slot T name id)(k:typeOf (.builtin id)=pure (.type "method_descriptor"))(z:MtR X id r)(w:PE X o to)(A:PA X (e::es) t)
  (g:attributeBase o name X.env (eval o X.env)=eval o X.env:=by rfl)
  (j:((S2 cpos (A2 (e::es) X.env)).all (λx=>!x.1)&& (backToKw cpos (keywordEach [] X.env)).all (λx=>x.1.isSome)
   && decide ((e::es)...*+([]:List Keyword)...*+(if([]:List Keyword).isEmpty then 0 else 1)<30))=true:=by rfl)
  (f:(apos.endLine==cpos.line)=true:=by rfl) (B:A2 (e::es) X.env=(false,eval e X.env)::A2 es X.env:=by rfl) (d:(S2 cpos (A2 es X.env)).any (·.1)=false:=by rfl):
  PE X (.Call (.Attribute o name apos) (e::es) [] cpos) (tBM X.K T r to t):=by
 intro c s σ H Q I h;refine wpAny_Call_method_late g j f O (thn (w c s σ H _ I h) λv p z_=>?_);obtain⟨x,y,m,n,ty,D⟩:=z_;obtain⟨h1,N⟩:=zXz m n ty;refine{T,id,pa,i,k,h1,N, ?_};let l:=A cpos c p σ y _ m D;rw[B] at l⊢;refine aL (by show(false ||(S2 cpos (A2 es X.env)).any (·.1))=false;rw[d]<;>rfl) (Calls.evalArgs_plain ?_)
 refine thn l λJ E z_=>?_;obtain⟨q,L,u,M,q2⟩:=z_;exact z c E σ L x q v J Q u n M q2
/- xs.append(e),list.index on a module's tuple .. are MtR facts of 06m -/
end
def MtM(X:Cx)(id:String)(r:V->List V->Hp->VK->Prop):Prop:=
 ∀(a:C7)(s:V2)(σ:St)(H:Hp)(x:V)(b:B3)(v:V0)(c:B7)(Q:VK),Inv X a σ H s->RelV x v->Vals b c->r x b H Q->
  V8 (S5 X.prog X.w) X.A (call (.builtin id) (v::c)) (EP X a σ Q) X.xe s
theorem Vals.one{x:V}{us:B7}(h:Vals [x] us):∃u,us= [u]/\RelV x u:=by
 cases h with
 |cons r h=>
  cases h;exact⟨_,O,r⟩
theorem Vals.two{x y:V}{us:B7}(h:Vals [x,y] us):∃u v,us= [u,v]/\RelV x u/\RelV y v:=by
 cases h with
 |cons r h=>
  cases h with
  |cons q h=>
   cases h;exact⟨_,_,O,r,q⟩
theorem Vals.eraseIdx:∀{xs:B3}{us:B7}(i:Nat),Vals xs us->Vals (xs.eraseIdx i) (us.eraseIdx i)
 |_,_,_, .nil=>.nil|_,_,0, .cons _ t=>t|_,_,i+1, .cons r t=>.cons r (Vals.eraseIdx i t)
theorem Vals.reverse{xs:B3}{us:B7}(h:Vals xs us):Vals xs.reverse us.reverse:=by
 induction h with|nil=>exact .nil|cons r t a=>rw[tU,tU];exact Vals.append a (.cons r .nil)
theorem zIq{α:Type}:∀(l:List α)(i:Nat),(l.eraseIdx i)...*<=l...*
 |[],_=>mC _|_::_,0=>pV _|_::r,i+1=>rK (zIq r i)
section
variable{X:Cx}{pins:C7}{σ:St}{H:Hp}{s:V2}{l b:V1}{xs ys zs:B3}
theorem Inv.lset{a its':B7}{n:Nat}{f:Array V0->Array V0}{t':Nat}(I:Inv X pins σ H s)(g:H l=Y (.lst xs))
  (e:s.heap.get? l=some {cls:=.type "list",data:=.seq a.toArray n}) (c:f a.toArray=its'.toArray) (h:Vals ys its') (hz:ys...*<=V9):
  Inv X pins σ (upd H l (.lst ys)) {s with heap:=s.heap.update l (Obj.mapSeq f),toks:=t'}:=by
 let q:=PySem.IsL.update e f;rw[c] at q;refine I.write (x:=l) (e:=l) (by rw[g];exact trivial) (.inl O) (λj u i d=>(nM s.heap (Obj.mapSeq f) (Ne.symm i)).trans d) ⟨_,q⟩ ?_;exact⟨hz,its',_,h,q⟩
theorem Inv.lnew{a:B7}{t':Nat}(I:Inv X pins σ H s)(c:Vals ys a)(hz:ys...*<=V9):
  Inv X pins σ (upd H s⁻¹ (.lst ys)) {s with heap:=s.heap.push {cls:=.type "list",data:=.seq a.toArray},toks:=t'}:=
 I.laid (λ_ _ q=>mO _ q) (mC _) {hz,a,0,c,nQ _ O}
theorem Inv.fresh(I:Inv X pins σ H s):H s⁻¹=none:=I.hok.fresh (mC _)
theorem Inv.lstM(I:Inv X pins σ H s)(c:H l=Y (.lst xs)):xs...*<=V9/\∃(a:B7)(n:Nat),Vals xs a/\xs...*=a...*/\s.heap.get? l=some {cls:=.type "list",data:=.seq a.toArray n}:=by
 obtain⟨z,a,n,r,e⟩:=I.hok l _ c;exact{z,a,n,r,r...*,e}
theorem zVx{n:Nat}(h:n<=V9):Builtin.List.listTooLong n=false:=by
 unfold Builtin.List.listTooLong;exact nP ∅
end
section
variable{X:Cx}
def zKt:V->List V->Hp->VK->Prop:=λx b H Q=>∃l a y,x= .ref l/\b= [y]/\H l=Y (.lst a)/\a...*<V9/\Q .non (upd H l (.lst (a++ [y])))
theorem vK:MtM X "list.append" zKt:=by
 intro d s σ H x m v p Q I g i h;ext yB h l t y b c k;ext oAA k f o q;subst b c;cases g;obtain⟨u,rfl,j⟩:=i.one;obtain⟨z,a,n,r,w,e⟩:=I.lstM f;refine aR F.slot_list_append ⟨_,e,O⟩ F.entry_list_append (F.args_list_append_2 _ _) (dB l a.toArray n u (by rw[nD];lia)) {e, ?_};refine{.non,_,I.lset (its':=a++ [u]) f e (by simp) (r.append (.cons j .nil)) ?_,O,q};rw[mL,mY]
 lia
def zZy:V->List V->Hp->VK->Prop:=λx d H Q=>∃l b a c,x= .ref l/\d= [.ref b]/\H l=Y (.lst a)/\H b=Y (.lst c)/\a...*+c...*<=V9/\Q .non (upd H l (.lst (a++c)))
theorem zDw:MtM X "list.extend" zZy:=by
 intro j s σ H x E v us Q I w B h;ext yN h l b M J f D;ext wY D g k m L q;subst f g;cases w;obtain⟨u,rfl,p⟩:=B.one;cases p;obtain⟨z,c,n,r,N,e⟩:=I.lstM k;obtain⟨z2,a,t,y,o,A⟩:=I.lstM m;let i:c.toArray.size+a.toArray.size<=V9:=by rw[nD,nD];lia
 let d:¬(!c.toArray.isEmpty && Builtin.List.listTooLong (c.toArray.size+a.toArray.size))=true:=by
  rw[zVx i,bP];exact nL
 refine aR F.slot_list_extend ⟨_,e,O⟩ F.entry_list_extend (F.args_list_extend_2 _ _)
  (AutoSeq1.list_extend_list_list_0 l c.toArray n b a.toArray t d (by rw[nD];lia) ∅) {e,A, ?_}
 refine{.non,_,I.lset (its':=c++a) k e (by simp) (r.append y) ?_,O,q};rw[mL]
 lia
def yFe:V->List V->Hp->VK->Prop:=λx b H Q=>∃l a i k y,x= .ref l/\b= [.int i]/\H l=Y (.lst a)/\-(2 ^ 63)<=i/\i<2 ^ 63/\seqIndex? i a...*=Y k/\a[k]? =Y y/\Q y (upd H l (.lst (a.eraseIdx k)))
theorem zYm:MtM X "list.pop" yFe:=by
 intro g s σ H x N v us Q I J L h;ext yA h l m i k y f;ext zS f c b j M A f;ext oAA f o B q;subst c b;cases J;obtain⟨u,rfl,D⟩:=L.one;obtain⟨t,rfl⟩:=D;obtain⟨z,a,n,r,E,e⟩:=I.lstM j;obtain⟨w,p,d⟩:=r.get B;refine aR F.slot_list_pop ⟨_,e,O⟩ F.entry_list_pop (F.args_list_pop_2 _ _)
  (MeetsSeq.list_pop_at l a.toArray n i t k w (fitsIndex_both M A) (by rw[nD,<-E];exact o) (by rw[<-sX];exact p) (by rw[nD];lia)) {e, ?_}
 refine{y,_,I.lset (its':=a.eraseIdx k) j e ?_ (r.eraseIdx k) ?_,d,q}
 ·show a.toArray.eraseIdxIfInBounds k=(a.eraseIdx k).toArray
  rw[List.eraseIdxIfInBounds_toArray]
 ·let:=zIq m k
  lia
def yCd:R2:=λx y H Q=>∃l b a c,x= .ref l/\y= .ref b/\H l=Y (.lst a)/\H b=Y (.lst c)/\a...*+c...*<=V9/\∀p,H p=none->Q (.ref p) (upd H p (.lst (a++c)))
theorem qU:OpR X (binaryOp .Add) yCd:=by
 intro g s σ H x y v u Q I m p h;ext yN h l b E B d A;ext wY A f w i D q;subst d f;cases m;cases p;obtain⟨z,c,n,r,J,e⟩:=I.lstM w;obtain⟨M,a,L,o,j,t⟩:=I.lstM i;refine PySem.P.add_list e t ?_ (by rw[nD,nD];lia);let k:c.toArray++a.toArray=(c++a).toArray:=by simp
 rw[k];exact{.ref _,_,I.lnew (t':=s.toks) (r.append o) (by rw[mL];lia),O,q _ I.fresh}
end
section
variable{prog:V3}{w:V4}{A:Around}{E:C9}{s:V2}
set_option maxRecDepth 100000 in
end
section
variable{X:Cx}
end
section
variable{κ:Type} [DecidableEq κ]
def jL(kvs:List (κ×V))(k:κ):Option V:=(kvs.find? λa=>decide (a.1=k)).map (·.2)
def jK(kvs:List (κ×V))(k:κ)(v:V):List (κ×V):=
 if(kvs.any λa=>decide (a.1=k))=true then kvs.map (λa=>if a.1=k then(a.1,v) else a) else kvs++ [(k,v)]
def dropK(kvs:List (κ×V))(k:κ):List (κ×V):=kvs.filter λa=>decide (a.1≠k)
theorem zCr{p:κ×V}{r:List (κ×V)}{k:κ}(e:p.1=k):jL (p::r) k=Y p.2:=by simp[jL,aI,e]
theorem uN{p:κ×V}{r:List (κ×V)}{k:κ}(e:¬p.1=k):jL (p::r) k=jL r k:=by simp[jL,aI,e]
theorem zCu(k:κ):∀kvs:List (κ×V),(kvs.any λkv=>decide (kv.1=k))=(jL kvs k).isSome
 |[]=>rfl|p::r=>by
  rw[List.any_cons]
  by_cases e:p.1=k
  ·simp only[zCr e,nF e,Bool.true_or,Option.isSome_some]
  ·rw[uN e,nP e,Bool.false_or];exact zCu k r
theorem uO(kvs:List (κ×V))(k:κ)(v:V):(jK kvs k v)...*<=kvs...*+1:=by
 unfold jK;split
 ·rw[mJ];lia
 ·rw[mL,mX,rF];lia
theorem zWr{kvs:List (κ×V)}{k:κ}(v:V)(h:jL kvs k=none):jK kvs k v=kvs++ [(k,v)]:=by
 unfold jK;rw[zCu,h];exact mK ∎
theorem RelO.isSome_eq{o:Option V}{u:Option V0}(r:RelO o u):o.isSome=u.isSome:=by
 cases o with
 |none=>cases u with
  |none=>rfl|some _=>exact(show False from r).elim
 |some _=>cases u with
  |none=>exact(show False from r).elim|some _=>rfl
theorem KV.val{kvs:List (κ×V)}{vs:List (κ×V0)}(r:KV kvs vs)(k:κ):RelO (jL kvs k) (valueAt vs k):=by
 unfold KV at r
 induction r with
 |nil=>exact mT|@cons p q i c h t f=>
  obtain⟨d,g⟩:=h
  by_cases e:p.1=k
  ·let a:q.1=k:=d.symm.trans e
   let b:valueAt (q::c) k=Y q.2:=by simp[valueAt,aI,a]
   rw[zCr e,b];exact g
  ·let a:¬q.1=k:=λz=>e (d.trans z)
   let b:valueAt (q::c) k=valueAt c k:=by simp[valueAt,aI,a]
   rw[uN e,b];exact f
theorem KV.any{kvs:List (κ×V)}{vs:List (κ×V0)}(r:KV kvs vs)(k:κ):(kvs.any λkv=>decide (kv.1=k))=vs.any λkv=>decide (kv.1=k):=by
 unfold KV at r
 induction r with|nil=>rfl|cons h t a=>rw[List.any_cons,List.any_cons,a,h.1]
theorem KV.repl{kvs:List (κ×V)}{vs:List (κ×V0)}(r:KV kvs vs)(k:κ){y:V}{u:V0}(b:RelV y u):
  KV (kvs.map λkv=>if kv.1=k then(kv.1,y) else kv) (vs.map λkv=>if kv.1=k then(kv.1,u) else kv):=by
 unfold KV at r⊢
 induction r with
 |nil=>exact .nil|@cons p q g f h t c=>
  rw[nO,nO];refine .cons ?_ c;obtain⟨a,d⟩:=h
  by_cases e:p.1=k
  ·rw[mN e,mN (a.symm.trans e)];exact⟨a,b⟩
  ·rw[mK e,mK (λz=>e (a.trans z))];exact⟨a,d⟩
theorem KV.put{kvs:List (κ×V)}{vs:List (κ×V0)}(r:KV kvs vs)(k:κ){y:V}{u:V0}(a:RelV y u):KV (jK kvs k y) (stored vs k u):=by
 unfold jK stored;rw[r.any k]
 by_cases e:(vs.any λb=>decide (b.1=k))=true
 ·rw[mN e,mN e];exact r.repl k a
 ·rw[mK e,mK e];exact Paired.snoc r ⟨O,a⟩
theorem KV.drop{kvs:List (κ×V)}{vs:List (κ×V0)}(r:KV kvs vs)(k:κ):KV (dropK kvs k) (without vs k):=by
 unfold KV at r⊢;unfold dropK without
 induction r with
 |nil=>exact .nil|@cons p q j i h t d=>
  obtain⟨c,g⟩:=h;rw[aS,aS]
  by_cases e:p.1=k
  ·let a:¬decide (p.1≠k)=true:=by simp[e]
   let b:¬decide (q.1≠k)=true:=by simp[c.symm.trans e]
   rw[mK a,mK b];exact d
  ·let f:¬q.1=k:=λz=>e (c.trans z)
   let a:decide (p.1≠k)=true:=by simp[e]
   let b:decide (q.1≠k)=true:=by simp[f]
   rw[mN a,mN b];exact .cons ⟨c,g⟩ d
theorem KV.keys{kvs:List (κ×V)}{vs:List (κ×V0)}(r:KV kvs vs):kvs.map (·.1)=vs.map (·.1):=by
 unfold KV at r
 induction r with|nil=>rfl|cons h t a=>rw[nO,nO,a,h.1]
theorem KV.length{kvs:List (κ×V)}{vs:List (κ×V0)}(r:KV kvs vs):kvs...*=vs...*:=Paired.length r
theorem zUt(kvs:List (κ×V))(k:κ):(dropK kvs k)...*<=kvs...*:=List.length_filter_le _ _
end
theorem zEe{P:V3}{w:V4}{k:Key}{u:V0}(r:RelV (kV k) u):(yU P w).is k u=true:=by
 cases k with
 |inl i=>obtain⟨t,e⟩:=(show∃t,u=Value.int i t from r);subst e;exact zNs P w i t
 |inr x=>obtain⟨t,e⟩:=(show∃t,u=Value.str x t from r);subst e;exact zKz P w x t
abbrev _root_.B8:=List Key
theorem zHx{P:V3}{w:V4}:∀{ks:B8}{us:B7},Vals (ks.map kV) us->ItemsAre (yU P w) ks us
 |[],_,r=>by rw[tG] at r;cases r;exact .nil|k::ks,_,r=>by
  rw[nO] at r
  cases r with|cons h t=>exact .cons (zEe h) (zHx t)
abbrev KT(H:Hp):List (List Key×V)->List (List Key×V1×V0)->Prop:=Paired λp q=>p.1=q.1/\H q.2.1=Y (.tup (p.1.map kV))/\RelV p.2 q.2.2
theorem KT.val{H:Hp}{kvs:List (List Key×V)}{xs:List (List Key×V1×V0)}(r:KT H kvs xs)(k:B8):RelO (jL kvs k) ((atKey xs k).map (·.2)):=by
 induction r with
 |nil=>exact mT|@cons p q i c h t f=>
  obtain⟨d,_,g⟩:=h
  by_cases e:p.1=k
  ·let a:q.1=k:=d.symm.trans e
   let b:atKey (q::c) k=Y q.2:=by simp[atKey,aI,a]
   rw[zCr e,b];exact g
  ·let a:¬q.1=k:=λz=>e (d.trans z)
   let b:atKey (q::c) k=atKey c k:=by simp[atKey,aI,a]
   rw[uN e,b];exact f
theorem KT.repl{H:Hp}{kvs:List (List Key×V)}{xs:List (List Key×V1×V0)}(r:KT H kvs xs)(k:B8){y:V}{u:V0}(c:RelV y u):
  KT H (kvs.map λkv=>if kv.1=k then(kv.1,y) else kv) (xs.map (putAt k u)):=by
 induction r with
 |nil=>exact .nil|@cons p q i g h t d=>
  rw[nO,nO];refine .cons ?_ d;obtain⟨a,b,f⟩:=h;unfold putAt
  by_cases e:p.1=k
  ·rw[mN e,mN (a.symm.trans e)];exact⟨a,b,c⟩
  ·rw[mK e,mK (λz=>e (a.trans z))];exact⟨a,b,f⟩
theorem KT.put{H:Hp}{kvs:List (List Key×V)}{xs:List (List Key×V1×V0)}(r:KT H kvs xs)(k:B8){b:V1}{y:V}{u:V0}(d:H b=Y (.tup (k.map kV)))(a:RelV y u):
  KT H (jK kvs k y) (storedH xs k b u):=by
 let e:(kvs.any λc=>decide (c.1=k))=(atKey xs k).isSome:=by
  rw[zCu,(r.val k).isSome_eq,dC]
 unfold jK storedH;rw[e]
 by_cases q:(atKey xs k).isSome=true
 ·rw[mN q,mN q];exact r.repl k a
 ·rw[mK q,mK q];exact Paired.snoc r ⟨O,d,a⟩
theorem KT.keeps{H a:Hp}{kvs:List (List Key×V)}{xs:List (List Key×V1×V0)}(r:KT H kvs xs)(c:∀b ys,H b=Y (.tup ys)->a b=Y (.tup ys)):KT a kvs xs:=
 j3 r λ_ _ z=>{z.1,c _ _ z.2.1,z.2.2}
section
variable{P:V3}{w:V4}{H:Hp}{h:V5}{a:V1}
theorem yCq{u:HO}(b:HOk P w H h)(e:Rd H a u):ObjOk P w H h a u:=e.ok b
theorem kW{kvs:D7}(b:HOk P w H h)(e:Rd H a (.dK kvs)):kvs...*<=V9/\(a==A4)=false/\∃vs,KV kvs vs/\h.DictOf (yU P w) a vs:=
 show ObjOk P w H h a (.dK kvs) from yCq b e
theorem zQi{kvs:D7}(b:HOk P w H h)(e:H a=Y (.dK kvs)):kvs...*<=V9/\(a==A4)=false/\∃vs,KV kvs vs/\h.DictOf (yU P w) a vs:=kW b (.inl e)
theorem zGg{ks:B8}(g:HOk P w H h)(e:H a=Y (.tup (ks.map kV))):(tupleKind (yU P w)).is h ks a:=by
 obtain⟨_,b,r,o,d,c,n,f⟩:=(show ObjOk P w H h a (.tup (ks.map kV)) from g a _ e);exact{o,b.toArray,n,d,c,f,by simpa using zHx r}
theorem zIb{kvs:List (List Key×V)}(b:HOk P w H h)(e:Rd H a (.dT kvs)):kvs...*<=V9/\(a==A4)=false/\
  ∃xs,KT H kvs xs/\h.DictOfH (tupleKind (yU P w)) a xs:=by
 obtain⟨z,y,xs,r,o,j,g,s,n,i,k,f⟩:=(show ObjOk P w H h a (.dT kvs) from yCq b e);refine{z,y,xs,r,o,j,g,s,n,i,k,λx hx=>?_,f};let all:∀{l:List (List Key×V)}{m:List (List Key×V1×V0)},KT H l m->∀x∈m,(tupleKind (yU P w)).is h x.1 x.2.1:=by
  intro l m q
  induction q with
  |nil=>intro x hx;exact nomatch hx|@cons p q u v c t d=>
   intro x hx;rcases mG.mp hx with e | hx
   ·subst e
    exact zGg b (by rw[<-c.1];exact c.2.1)
   ·exact d x hx
 exact all r x hx
theorem dt_of{kvs:List (List Key×V)}(b:HOk P w H h)(e:H a=Y (.dT kvs)):kvs...*<=V9/\(a==A4)=false/\
  ∃xs,KT H kvs xs/\h.DictOfH (tupleKind (yU P w)) a xs:=zIb b (.inl e)
end
def zGz(H:Hp)(a:V1)(y:V)(r:Option V):Prop:=
 (∃c k,Rd H a (.dK c)/\y=kV k/\r=jL c k)\/∃c k b,Rd H a (.dT c)/\y= .ref b/\H b=Y (.tup (k.map kV))/\r=jL c k
def DPut(H:Hp)(a:V1)(y v:V)(d:Hp):Prop:=
 (∃c k,H a=Y (.dK c)/\y=kV k/\c...*<V9/\d=upd H a (.dK (jK c k v)))\/
 ∃c k b,H a=Y (.dT c)/\y= .ref b/\H b=Y (.tup (k.map kV))/\c...*<V9/\d=upd H a (.dT (jK c k v))
theorem DPut.k{H:Hp}{a:V1}{kvs:D7}{k:Key}{v:V}(e:H a=Y (.dK kvs))(b:kvs...*<V9):DPut H a (kV k) v (upd H a (.dK (jK kvs k v))):=.inl ⟨kvs,k,e,O,b,O⟩
section
variable{X:Cx}{pins:C7}{σ:St}{H:Hp}{s:V2}{a:V1}{y v:V}{u r:V0}{o:Option V}{A:Around}{E:C9}
theorem Inv.big(I:Inv X pins σ H s):A4<s⁻¹:=by
 let h:A0<s⁻¹:=(I.mod.glob.keeps I.bk).lt;exact cN ∎ h
theorem zSx{Q:C9}(L:A.units+1<cLine)(I:Inv X pins σ H s)(g:zGz H a y ↥v)(t:RelV y u)(h:∀f s',Inv X pins σ H s'->RelV v f->Q f s'):
  V8 (S5 X.prog X.w) A (getItem (.ref a) u) Q E s:=by
 rcases g with⟨n,k,e,j,l⟩|⟨n,k,b,e,j,J,l⟩
 ·subst j
  obtain⟨z,x,w,c,q⟩:=kW I.hok e;obtain⟨f,m,d⟩:=i9 (v:=v) (o:=valueAt w k) (by rw[l];exact c.val k);exact wpAny_getItem_of (zEe t) q.mapOf m (h f _ (I.tok _) d)
 ·subst j
  cases (show u=Value.ref b from t);obtain⟨z,x,D,c,q⟩:=zIb I.hok e;obtain⟨f,m,d⟩:=i9 (v:=v) (o:=(atKey D k).map (·.2)) (by rw[l];exact c.val k);obtain⟨p,B,i⟩:=pU.mp m;refine wpAny_getItem_heap (bF L) (zGg I.hok J) q B ?_;rw[i];exact h f _ (I.tok _) d
theorem d_in{Q:C9}(p:A.units+1<cLine)(I:Inv X pins σ H s)(g:zGz H a y o)(m:RelV y u)(h:∀s',Inv X pins σ H s'->Q (.bool o.isSome) s'):
  V8 (S5 X.prog X.w) A (A3 .In u (.ref a)) Q E s:=by
 rcases g with⟨i,k,e,d,l⟩|⟨i,k,b,e,d,n,l⟩
 ·subst d
  obtain⟨z,f,t,c,j⟩:=kW I.hok e;refine wpAny_in_of (zEe m) f j.mapOf ?_;rw[<-(c.val k).isSome_eq,<-l];exact h _ (I.tok _)
 ·subst d
  cases (show u=Value.ref b from m);obtain⟨z,f,w,c,j⟩:=zIb I.hok e;refine wpAny_in_heap (bF p) (zGg I.hok n) f j ?_;let q:=(c.val k).isSome_eq;rw[dC] at q;rw[<-q,<-l];exact h _ (I.tok _)
theorem yAj{Q:C9}(p:A.units+1<cLine)(I:Inv X pins σ H s)(g:zGz H a y o)(m:RelV y u)(h:∀s',Inv X pins σ H s'->Q (.bool (!o.isSome)) s'):
  V8 (S5 X.prog X.w) A (A3 .NotIn u (.ref a)) Q E s:=by
 rcases g with⟨i,k,e,d,l⟩|⟨i,k,b,e,d,n,l⟩
 ·subst d
  obtain⟨z,f,t,c,j⟩:=kW I.hok e;refine wpAny_notIn_of (zEe m) f j.mapOf ?_;rw[<-(c.val k).isSome_eq,<-l];exact h _ (I.tok _)
 ·subst d
  cases (show u=Value.ref b from m);obtain⟨z,f,w,c,j⟩:=zIb I.hok e;refine wpAny_notIn_heap (bF p) (zGg I.hok n) f j ?_;let q:=(c.val k).isSome_eq;rw[dC] at q;rw[<-q,<-l];exact h _ (I.tok _)
theorem zEs{h':V5}{t':Nat}{d:HO}(I:Inv X pins σ H s)(f:Mut (H a))(h:Heap.SameBut a s.heap h')(g:∃q,h'.get? a=Y q)(c:ObjOk X.prog X.w (upd H a d) h' a d):
  Inv X pins σ (upd H a d) {s with heap:=h',toks:=t'}:=
 I.write (x:=a) (e:=a) f (.inl O) (λb q i z=>(h.2 b i).trans z) g c
theorem zJe{P:V3}{w:V4}{c:Hp}{h':V5}{kvs:D7}{vs:List (Key×V0)}(z:kvs...*<=V9)(e:(a==A4)=false)(b:KV kvs vs)(d:h'.DictOf (yU P w) a vs):
  ObjOk P w c h' a (.dK kvs):=⟨z,e,vs,b,d⟩
theorem zTk{D:Hp}{Q:Unit->V2->Prop}(hu:A.units+1<cLine)(I:Inv X pins σ H s)(g:DPut H a y v D)(N:RelV y u)(rv:RelV v r)(h:∀s',Inv X pins σ D s'->Q () s'):
  V8 (S5 X.prog X.w) A (setItem (.ref a) u r) Q E s:=by
 rcases g with⟨f,k,e,t,l,x⟩|⟨f,k,b,e,t,M,l,x⟩
 ·subst t x
  obtain⟨z,m,vs,d,B⟩:=zQi I.hok e;let n:vs...*<=V9:=by rw[<-d...*];exact z
  let w:(jK f k v)...*<=V9:=by let:=uO f k v;lia
  refine wpAny_setItem_pairs (hsz:=n) (zEe N) B λJ i p=>h _ ?_;let he:∃q,J.get? a=Y q:=let ⟨q,_,_,j,_⟩:=i;⟨q,j⟩;exact zEs I (by rw[e];exact mT) p he (zJe w m (d.put k rv) i)
 ·subst t x
  cases (show u=Value.ref b from N);obtain⟨z,m,xs,d,B⟩:=dt_of I.hok e;let n:xs...*<=V9:=by rw[<-Paired.length d];exact z
  let w:(jK f k v)...*<=V9:=by let:=uO f k v;lia
  refine wpAny_setItem_heap (hsz:=n) (bF hu) (zGg I.hok M) B λJ i p=>h _ ?_;ext yB i q es ep j h2 z_;ext yZ z_ h3 h4 _ h5;refine zEs I (by rw[e];exact mT) p ⟨q,j⟩ {w,m,_,(d.put k M rv).keeps λc ys L=>?_,q,es,ep,j,h2,h3,h4,h5};rw[zM (ne_of L e (λz=>nomatch z))];exact L
end
section
variable{X:Cx}{pins:C7}{σ:St}{H:Hp}{s:V2}{a:V1}{kvs:D7}{k:Key}{u:V0}{A:Around}{E:C9}
theorem d_pop{v:V}{b:B7}{Q:C9}(I:Inv X pins σ H s)(e:H a=Y (.dK kvs))(j:RelV (kV k) u)(l:jL kvs k=Y v)(n:b= []\/∃x,b= [x])
  (h:∀d s',Inv X pins σ (upd H a (.dK (dropK kvs k))) s'->RelV v d->Q d s'):V8 (S5 X.prog X.w) A (call (.builtin "dict.pop") (.ref a::u::b)) Q E s:=by
 obtain⟨z,w,m,c,p⟩:=zQi I.hok e;obtain⟨d,J,g⟩:=i9 (v:=v) (o:=valueAt m k) (by rw[<-l];exact c.val k);let D:(keyPart u).isSome=true:=by
  cases k with
  |inl i=>obtain⟨t,q⟩:=(show∃t,u=Value.int i t from j);subst q;rfl
  |inr x=>obtain⟨t,q⟩:=(show∃t,u=Value.str x t from j);subst q;rfl
 let y:argsOk "dict.pop" {.ref a::u::b,[]}:=by
  rcases n with q |⟨x,q⟩
  ·subst q;exact PySem.F.args_dict_pop_2 _ _
  ·subst q;exact PySem.F.args_dict_pop_3 _ _ _
 refine call_meetsIn PySem.F.slot_dict_pop p.typeIs PySem.F.entry_dict_pop y (meets_dict_pop_there (yU X.prog X.w) a (zEe j) b n D)
  {m,d,p,by rw[<-c...*];exact z,J,λr f B=>h d _ ?_ g}
 let L:∃q,r.get? a=Y q:=let ⟨q,_,_,hq,_⟩:=f;⟨q,hq⟩;exact zEs I (by rw[e];exact mT) B L (zJe (pB (zUt kvs k) z) w (c.drop k) f)
theorem yCm{Q:C9}(I:Inv X pins σ H s)(e:Rd H a (.dK kvs))(h:∀t s',Inv X pins σ H s'->Q (.int kvs...* t) s'):V8 (S5 X.prog X.w) A (call (.builtin "len") [.ref a]) Q E s:=by
 obtain⟨z,d,f,b,c⟩:=kW I.hok e;refine call_len_dict d c (by rw[<-b...*];rw[mV] at z;lia) ?_;rw[<-b...*];exact h _ _ (I.tok _)
end
def NoSl(i:Expr):Prop:=∀a b,subscripted i false a b=operate [a,b] (getItem a b)
theorem yAd{prog:V3}{w:V4}{A:Around}{E:C9}{s:V2}{c:S7}{b a:Expr}{f:Pos}{T id:String}{Q:C9}
  (q:typeLookup (.type T) "__getitem__" =pure ↥(.builtin id)) (m:NoSl a)
  (h:V8 (S5 prog w) A (eval b c) (λo l=>V8 (S5 prog w) A (eval a c) (λi e=>e.TypeIs o T/\V8 (S5 prog w) A (getItem o i) Q E e) E l) E s):
  V8 (S5 prog w) A (eval (.Subscript b a f) c) Q E s:=by
 refine Subscript_ (pL h (λo l p=>pL p (λi e g=>?_) λ_ _ x=>x) λ_ _ x=>x);obtain⟨j,g⟩:=g;unfold subscriptTail;refine mF ?_;rw[getitemInPython_of_ne j.not_modules];refine mF (wpAny_specialOf j q ?_);let d:V8 (S5 prog w) A (subscripted a false o i) (λr k=>V8 (S5 prog w) A (letTemporaryGo b o r>>=λ_=>pure r) Q E k) E e:=by
  rw[m o i];exact wpAny_operating (pL g (λr k n=>mF (wpAny_letTemporaryGo (nB n))) λ_ _ x=>x)
 first
  |exact nB (mF d)
  |exact mF (nB (mF d))
  |exact mF d
theorem zMh{X:Cx}{c:C7}{σ:St}{H:Hp}{s:V2}{a:V1}{y:V}{o:Option V}(I:Inv X c σ H s)(g:zGz H a y o):s.TypeIs (.ref a) "dict":=by
 rcases g with⟨d,k,e,_,_⟩|⟨d,k,b,e,_,_,_⟩
 ·obtain⟨_,_,h,_,f⟩:=kW I.hok e
  exact f.typeIs
 ·obtain⟨_,_,i,_,f⟩:=zIb I.hok e
  exact f.typeIs
def zCs(c e:TE):TE:=λσ H Q=>c σ H λx d=>e σ d λy b=>∃a v,x= .ref a/\zGz b a y ↥v/\Q v b
def zTr(e c:TE):TE:=λσ H Q=>e σ H λy d=>c σ d λx b=>∃a o,x= .ref a/\zGz b a y o/\Q (.bl o.isSome) b
def zQl(e c:TE):TE:=λσ H Q=>e σ H λy d=>c σ d λx b=>∃a o,x= .ref a/\zGz b a y o/\Q (.bl (!o.isSome)) b
def zRz(d h g:TE):TS:=λD σ H=>g σ H λv e=>d σ e λx c=>h σ c λy f=>∃a b,x= .ref a/\DPut f a y v b/\D.nx σ b
section
variable{X:Cx}{o i e value:Expr}{pos pos' tpos:Pos}{td ty tv:TE}
theorem vT(A:X.A.units+1<cLine)(j:PE X o td)(z:PE X i ty)(q:NoSl i):PE X (.Subscript o i pos) (zCs td ty):=by
 intro b s σ H Q I h;refine yAd PySem.F.slot_dict_getitem.lookup q (thn (j b s σ H _ I h) λu f z_=>?_);obtain⟨x,l,t,n,m⟩:=z_;refine thn (z b f σ l _ t m) λL D z_=>?_;obtain⟨y,r,d,w,a,v,p,g,B⟩:=z_;subst p;obtain rfl:u=Value.ref a:=n;exact{zMh d g,zSx A d g w λE J k c=>⟨v,r,k,c,B⟩}
theorem zHa(w:X.A.units+1<cLine)(v:PE X i ty)(f:PE X o td):PC X .In i o (zTr ty td):=by
 intro b s σ H Q I h;refine thn (v b s σ H _ I h) λD c z_=>?_;obtain⟨y,k,r,t,m⟩:=z_;refine thn (f b c σ k _ r m) λu A z_=>?_;obtain⟨x,q,d,n,a,l,p,g,z⟩:=z_;subst p;obtain rfl:u=Value.ref a:=n;exact d_in w d g t λB j=>{.bl l.isSome,q,j,O,z}
theorem zSy(w:X.A.units+1<cLine)(v:PE X i ty)(f:PE X o td):PC X .NotIn i o (zQl ty td):=by
 intro b s σ H Q I h;refine thn (v b s σ H _ I h) λD c z_=>?_;obtain⟨y,k,r,t,m⟩:=z_;refine thn (f b c σ k _ r m) λu A z_=>?_;obtain⟨x,q,d,n,a,l,p,g,z⟩:=z_;subst p;obtain rfl:u=Value.ref a:=n;exact yAj w d g t λB j=>{.bl (!l.isSome),q,j,O,z}
theorem zEu(M:X.A.units+1<cLine)(t:PE X o td)(p:PE X i ty)(m:PE X value tv)(f:S1 value ↥(.Subscript o i pos') pos.line X.env=pure false):
  PS X (.Assign [.Subscript o i pos'] value pos) (zRz td ty tv):=by
 intro b s σ H D I h;refine wpAny_Assign_Subscript (thn (m b s σ H _ I h) λr q z_=>?_) f;obtain⟨v,w,l,N,z⟩:=z_;refine thn (t b q σ w _ l z) λu A z_=>?_;obtain⟨x,J,c,B,Q⟩:=z_;refine thn (p b A σ J _ c Q) λiv s3 z_=>?_;obtain⟨y,H3,d,L,a,j,E,g,k⟩:=z_;subst E;obtain rfl:u=Value.ref a:=B;exact zTk M d g L N λs4 n=>⟨σ,j,n,k⟩
end
theorem zNy{P:V3}{w:V4}{H:Hp}(h:V5)(a:A4<h.objs.size):ObjOk P w H (h.push {cls:=.type "dict",data:=.dict #[]}) h.objs.size (.dK []):=
 {nJ _,sL.mpr (Ne.symm (nV a)),[], .nil,Heap.DictOf.new h}
def zPd:TE:=λ_ H Q=>∀p,H p=none->Q (.ref p) (upd H p (.dK []))
section
variable{X:Cx}{pos:Pos}
theorem zMr:PE X (.Dict [] [] pos) zPd:=λb s σ H Q I h=>
 wpAny_Dict_empty {.ref s⁻¹,_,I.laid (a:=s⁻¹) (o:=.dK []) (t':=s.toks) (λ_ _ q=>mO _ q) (mC _) (zNy s.heap I.big),O,h _ (I.hok.fresh (mC _))}
end
def zGt:List (TE×TE)->St->Hp->(List (V×V)->Hp->Prop)->Prop
 |[],_,H,Q=>Q [] H|(tk,d)::r,σ,H,Q=>tk σ H λx b=>d σ b λy a=>zGt r σ a λe c=>Q ((x,y)::e) c
abbrev VV:List (V×V)->List (V0×V0)->Prop:=Paired λp q=>RelV p.1 q.1/\RelV p.2 q.2
def PPs(X:Cx)(e:Pos)(c:List (Option Expr))(a:C5)(d:List (TE×TE)):Prop:=
 ∀(b:C7)(s:V2)(σ:St)(H:Hp)(Q:List (V×V)->Hp->Prop),Inv X b σ H s->zGt d σ H Q->
  V8 (S5 X.prog X.w) X.A (evalPairs (pairTrees c a X.env e)) (λh i=>∃g f,Inv X b σ f i/\VV g h/\Q g f) X.xe s
theorem zZq{X:Cx}{a:Pos}:PPs X a [] [] []:=λb s σ H Q I h=>pairTrees_nil_walk {[],H,I, .nil,h}
theorem zCg{X:Cx}{c:Pos}{k v:Expr}{ks:List (Option Expr)}{vs:C5}{f e:TE}{b:List (TE×TE)}(w:PE X k f)(D:PE X v e)(n:PPs X c ks vs b):
  PPs X c (Y k::ks) (v::vs) ((f,e)::b):=λa s σ H Q I h=>
 pairTrees_cons_walk (thn (w a s σ H _ I h) λu g ⟨x,l,A,q,o⟩=>thn (D a g σ l _ A o) λJ p ⟨y,t,i,B,E⟩=>
  thn (n a p σ t _ i E) λL M ⟨r,m,j,d,z⟩=>{(x,y)::r,m,j, .cons ⟨q,B⟩ d,z})
def jO(kvs a:D7):List (Key×V):=a.foldl (λb c=>jK b c.1 c.2) kvs
theorem KV.merge:∀{a:D7}{b:List (Key×V0)}{kvs:D7}{vs:List (Key×V0)},KV a b->KV kvs vs->KV (jO kvs a) (merged vs b):=by
 intro a b kvs vs r;unfold KV at r
 induction r generalizing kvs vs with
 |nil=>intro q;exact q|@cons p q g f h t c=>
  intro d;let e:KV (jK kvs p.1 p.2) (stored vs q.1 q.2):=by
   let:=d.put p.1 h.2;rw[<-h.1];exact this
  exact c e
theorem gI:∀(a kvs:D7),(jO kvs a)...*<=kvs...*+a...*
 |[],kvs=>by show kvs...*<=kvs...*+0;lia|p::r,kvs=>by
  let c:=gI r (jK kvs p.1 p.2);let b:=uO kvs p.1 p.2;show(jO (jK kvs p.1 p.2) r)...*<=_;rw[mX];lia
theorem zGq{P:V3}{w:V4}:∀{kvs:D7}{ws:List (V0×V0)},VV (kvs.map λkv=>(kV kv.1,kv.2)) ws->∃d,Carries (yU P w) ws d/\KV kvs d
 |[],_,r=>by rw[tG] at r;cases r;exact{[],mT, .nil}|p::kvs,_,r=>by
  rw[nO] at r
  cases r with
  |@cons a b as f h t=>
   obtain⟨d,c,q⟩:=zGq (P:=P) (w:=w) t;obtain⟨g,e⟩:=b;exact{(p.1,e)::d,{zEe h.1,O,c}, .cons ⟨O,h.2⟩ q}
def zUl(b:List (TE×TE)):TE:=λσ H Q=>∀p,H p=none->zGt b σ (upd H p (.dK [])) λe c=>c p=Y (.dK [])/\∃a:List (Key×V),e=a.map (λd=>(kV d.1,d.2))/\a...*<=15/\Q (.ref p) (upd c p (.dK (jO [] a)))
theorem yBe{X:Cx}{g:Pos}{b:List (Option Expr)}{d:C5}{k:List (TE×TE)}(h:PPs X g b d k)(l:b.all (·.isSome)=true)(B:b...*=d...*)(D:b≠ [])
  (n:b...*<=15):PE X (.Dict b d g) (zUl k):=by
 intro f s σ H Q I q;let L:=I.hok.fresh (mC s⁻¹);let A:=I.laid (a:=s⁻¹) (o:=.dK []) (h':=s.heap.push {cls:=.type "dict",data:=.dict #[]}) (t':=s.toks) (λ_ _ q=>mO _ q) (mC _) (zNy s.heap I.big);refine wpAny_Dict_walk (knd:=yU X.prog X.w) l B D n (thn (h f _ σ _ _ A (q _ L)) λws s2 z_=>?_);obtain⟨ps,H2,p,m,e,j,v,lk,q2⟩:=z_;subst v;obtain⟨r,c,rk⟩:=zGq (P:=X.prog) (w:=X.w) m;obtain⟨z,t,N,r0,y⟩:=zQi p.hok e;cases r0;refine{r,c,y,λE i x=>{.ref s⁻¹,_, ?_,O,q2}};let u:(jO [] j)...*<=V9:=by
  let M:=gI j [];rw[rF] at M;rw[mV];lia
 let J:∃q,E.get? s⁻¹=Y q:=let ⟨q,_,_,hq,_⟩:=i;⟨q,hq⟩;exact zEs p (by rw[e];exact mT) x J (zJe u t (rk.merge .nil) i)
structure M1(X:Cx)(o:Expr)(m:Str)(apos:Pos)(e:Expr)(cpos:Pos):Prop where
 base:attributeBase o m X.env (eval o X.env)=eval o X.env
 few:((S2 cpos (A2 [e] X.env)).all (λx=>!x.1)&& (backToKw cpos (keywordEach [] X.env)).all (λx=>x.1.isSome)
  && decide (([e]:C5)...*+([]:List Keyword)...*+(if([]:List Keyword).isEmpty then 0 else 1)<30))=true
 line:(apos.endLine==cpos.line)=true
 trees:S2 cpos (A2 [e] X.env)= [(false,eval e X.env)]
structure M2(X:Cx)(o:Expr)(m:Str)(apos:Pos)(e f:Expr)(cpos:Pos):Prop where
 base:attributeBase o m X.env (eval o X.env)=eval o X.env
 few:((S2 cpos (A2 [e,f] X.env)).all (λx=>!x.1)&& (backToKw cpos (keywordEach [] X.env)).all (λx=>x.1.isSome)
  && decide (([e,f]:C5)...*+([]:List Keyword)...*+(if([]:List Keyword).isEmpty then 0 else 1)<30))=true
 line:(apos.endLine==cpos.line)=true
 trees:S2 cpos (A2 [e,f] X.env)= [(false,eval e X.env),(false,eval f X.env)]
def IsD(H:Hp)(a:V1):Prop:=(∃b,Rd H a (.dK b))\/∃b,Rd H a (.dT b)
theorem yGh{X:Cx}{f:C7}{σ:St}{H:Hp}{s:V2}{a:V1}(I:Inv X f σ H s)(d:IsD H a):
  s.TypeIs (.ref a) "dict"/\(∀b,Value.ref a= .ref b->∃c,s.heap.get? b=Y c/\c.dict=none)/\(a==A4)=false:=by
 rcases d with⟨k,e⟩|⟨k,e⟩
 ·obtain⟨_,h,l,_,g⟩:=kW I.hok e
  refine{g.typeIs,λb q=>?_,h};cases q;ext yB g c _ _ j i _;exact⟨c,j,i.2.1⟩
 ·obtain⟨_,h,m,_,g⟩:=zIb I.hok e
  refine{g.typeIs,λb q=>?_,h};cases q;ext yB g c _ _ j i _;exact⟨c,j,i.2.1⟩
section
variable{X:Cx}{pins:C7}{σ:St}{H:Hp}{s:V2}{a:V1}{y d:V}{u r:V0}{o:Option V}{A:Around}{E:C9}
end
def zWx(e f:TE):TE:=λσ H Q=>e σ H λx d=>∃a,x= .ref a/\IsD d a/\f σ d λy c=>∃b k v,c a=Y (.dK b)/\y=kV k/\jL b k=Y v/\Q v (upd c a (.dK (dropK b k)))
section
variable{X:Cx}{o e f:Expr}{apos cpos:Pos}{td ty tx:TE}
theorem zMe(t:PE X o td)(J:PE X e ty)(m:M1 X o "pop" apos e cpos):PE X (.Call (.Attribute o "pop" apos) [e] [] cpos) (zWx td ty):=by
 intro b s σ H Q I h;refine wpAny_Call_method m.base m.few m.line bT PySem.F.slot_dict_pop PySem.F.type_dict_pop (thn (t b s σ H _ I h) λu q z_=>?_);obtain⟨x,w,g,D,a,A,d,B⟩:=z_;subst A;obtain rfl:u=Value.ref a:=D;obtain⟨z,t2,_⟩:=yGh g d;refine{z,t2, ?_};rw[m.trees];refine aL O (Calls.evalArgs_plain (bC (thn (J b q σ w _ g B) λN s2 z_=>?_)));obtain⟨y,H2,i,E,p,k,v,r,n,l,L⟩:=z_;refine bU ?_;subst n;exact d_pop i r E l (.inl O) λw' M j c=>⟨v,_,j,c,L⟩
end
section
variable{X:Cx}{pins:C7}{σ:St}{H:Hp}{s:V2}{a:V1}{kvs:D7}{A:Around}{E:C9}
end
section
variable{X:Cx}{pins:C7}{σ:St}{H:Hp}{s:V2}{a:V1}{y:V}{u:V0}{A:Around}{E:C9}
end
end L2
namespace Att
open PySem PySem.W PySem.Calls PyProof.Rows
theorem zEl{P:Params}{h:V5}:∀(c:List Int)(vs:B7),WellAll P h vs (c.map WData.int)->IntsAre vs c:=by
 intro c
 induction c with
 |nil=>
  intro vs w;rw[List.map_nil] at w;cases w;exact .nil
 |cons n c d=>
  intro vs w;rw[List.map_cons] at w
  cases w with
  |cons a b=>
   cases a;exact .cons _ _ (d _ b)
theorem zTi{l:OpenLaw}{n:Nat}(x:l.most=Y n){P:Params}{h:V5}{args:List WData}{c:B7}
  (e:l.row.toRowW.claim.pre args=true) (o:WellAll P h c args):
  ∃a vs b,c= [Value.ref a]/\args= [WData.list (b.map WData.int)]/\h.get? a=some {cls:=.type "list",data:=.seq vs.toArray}/\IntsAre vs b/\b...*<=n:=by
 let k:WShape.hasAll [] args [.list .int]=true:=(pre_splitW e).1;let p:l.pre.holds [] {args:=args}=true:=(pre_splitW e).2;refine yO (hasAllW_cons k) λd r m y w=>?_;subst m;obtain rfl:=hasAllW_nil w;obtain⟨A,rfl,v⟩:=hasW_list y;obtain⟨b,rfl⟩:=items_int v;let g:b...*<=n:=by
  unfold OpenLaw.pre at p;let j:(WTm.not (.lt (.lit (.int (n:Int))) (.len (.arg 0)))).holds [] {args:=[.list (b.map .int)]}=true:=by
   let j:=(holds_andW p).1;rw[x] at j;exact j
  let i:=condW_of j (w_not (w_lt w_lit (w_len_list (w_arg O))));rw[List.length_map] at i;refine Nat.le_of_not_lt λq=>?_;let t:(n:Int)<((b...*:Nat):Int):=by lia
  first
   |(rw[decide_eq_true t] at i;exact absurd i ∎)
   |(simp at i;lia)
 cases o with
 |cons z u=>
  cases u
  cases z with|list s f=>exact{_,_,b,O,O,s,zEl b _ f,g}
theorem zUa(l:OpenLaw)(args:List WData):l.row.toRowW.claim.post args (.bool true) args=true:=
 postW_of (r:=l.row.toRowW) (X:=(true==true))
  (show WShape.has [] (.bool true) .bool=true by first | rfl | decide | simp[WShape.has,WShape.arms,WShape.armsAll])
  (show(WTm.eq .res (.lit (.bool true))).value [] {args:=args,res:=Y (.bool true),after:=args}=Y (.bool (true==true)) from w_eq_bool (w_res O) w_lit) O
theorem attach_call{l:OpenLaw}{n:Nat}{q:V3}{c:C1}{L:(Str->Option V0)->V5->Prop}{N:V4->V5->Prop}{d:DefRec}
  (hn:l.most=Y n) (z:d.params.defaults= [])
  (call:∀(w:V4)(A b:V2)(s E:C8)(h:V1)(o:Obj)(D p e:V0)(a:V1)(vs:B7)(m:List Int),
   Ground q c [] L w A s E b.heap->N w b.heap->
   b.heap.get? h=Y o->o.data= .func (docDef d.name d.params d.body d.scope D p e)->b.heap.CodeRec p d.name->s d.name=Y (.ref h)->
   b.heap.get? a=some {cls:=.type "list",data:=.seq vs.toArray}->IntsAre vs m->m...*<=n->b.gens= #[]->
   codeAny (S5 l.prog w) callerA (.call (.ref h) {[.ref a],[]}) (λr t=>r= .ok (.ret (.bool true))/\OldK b.heap t.heap/\t.os=b.os/\AllBare t.gens) b):
  WalkO q c L N l.row.toRowW d [] (λf vs=>PySem.call f vs):=by
 intro w A b s E G Yy h o D p e dV kV ho hd u M x hg J I as k Q aa H ab;obtain rfl:dV= .none:=Dflts.none M z;obtain rfl:kV= .none:=Dflts.noKw M;refine yB (zTi hn k H) λa vs m B v z_=>?_;ext oAA z_ j g i;subst B v;refine enter_call (codeAny_mono (call w A b s E h o D p e a vs m G Yy ho (fd_plain hd) u x j g i hg) λr t hq=>?_);ext yZ hq y h2 h3 h4;subst y;exact{.inl {.bool true, .bool true,[],O,λ_=>O, .bool true,zUa l _,λ_=>{List.Pairwise.nil,λ_ hm=>(nomatch hm)}},h2,h3,h4}
section
variable{prog:V3}{w:V4}{A:Around}{E:C9}{s:V2}{K:Frag}
end
end Att
namespace L2
open PySem PySem.Spec PyProof.Rows
theorem zIg:∀{vs:B7}{a:List Int},IntsAre vs a->Vals (a.map V.int) vs
 |_,_, .nil=>.nil|_,_, .cons n t h=>.cons ⟨t,O⟩ (zIg h)
def yEj(H:Hp):Prop:=∀b,H b=none\/∃o a,H b=Y (.frz o (.lst a))
theorem zWd{P:V3}{w:V4}{K:A6}{L mb:C8}{CX:CXT}{k:Nat}{fa a:V1}{fd:V7}{x:Str}{sp:Sp}{c:V2}{vs:B7}{p:List Int}
  (KX:K.In c.heap) (D:c.heap.Ns A0 L) (g:c.heap.Ns builtinsNs mb) (ae:∀x:Str,x≠ "__name__"->mb x=A1 x) (I:c.heap.NoLimit) (hg:c.gens= #[])
  (Q:c.heap.get? a=some {cls:=.type "list",data:=.seq vs.toArray}) (hi:IntsAre vs p) (hl:p...*<=V9) (hr:Room k callerA)
  (F:∀base:V5,K.In base->base.Ns A0 L->FnOk P w K L base CX k fa fd [x] sp) (l:∀(s:V2)(u:V0),BindsTo s fd {[u],[]} [(x,u)])
  (aa:∀H:Hp,yEj H->SqL K H a (p.map V.int)->sp [.ref a] H (λv _=>v= .bl true) λ_ _ _=>False)
  (ab:∀H e s',CX [] H c (λ_ _ _=>False) e s'->False):
  codeAny (S5 P w) callerA (.call (.ref fa) {[.ref a],[]}) (λr s'=>r= .ok (.ret (.bool true))/\OldK c.heap s'.heap/\s'.os=c.os/\AllBare s'.gens) c:=by
 let rv:=zIg hi;let B:=hi...*
 -- from an abstract heap in which nothing but the script may be tracked
 let j:∀H:Hp,yEj H->SqL K H a (p.map V.int)->HOk P w H c.heap->(∀b,H b≠none->b=a)->(H a≠none->K.lookup a=none)->
   codeAny (S5 P w) callerA (.call (.ref fa) {[.ref a],[]}) (λr s'=>r= .ok (.ret (.bool true))/\OldK c.heap s'.heap/\s'.os=c.os/\AllBare s'.gens) c:=by
  intro H hO hS E hA hK;let f:∀{b:V1}{o:Obj},c.heap.get? b=Y o->H b=none->(zKd c.heap H).get? b=Y o:=λe n=>zXg e n;let ac:∀{b:V1}{o:Obj}{A:Array DictEntry}{t:Nat},c.heap.get? b=Y o->o.data= .dict A t->H b=none:=λ{b o A t} e d=>by
   cases q:H b with
   |none=>rfl|some u=>
    let e':b=a:=hA b (by rw[q];simp);subst e';rw[Q] at e;cases e;let d':Data.seq vs.toArray _=Data.dict A t:=d;cases d'
  let i:∀{b:V1}{m:C8},c.heap.Ns b m->(zKd c.heap H).Ns b m:=λ{b m} ⟨o,A,t,e,d,r⟩=>{o,A,t,f e (ac e d),d,r};let M:K.In (zKd c.heap H):=λb o e=>f (KX b o e) (by
   cases q:H b with
   |none=>rfl|some u=>
    let e':b=a:=hA b (by rw[q];simp);subst e';rw[hK (by rw[q];simp)] at e;cases e)
  let hM:Mod K L (zKd c.heap H):={M,i D,{mb,i g,ae},let ⟨mc,h1,h2⟩:=I;{mc,i h1,h2}};let e0:Env0 P w K L (zKd c.heap H) callerA [] c H:=⟨O,hM,λb o e=>yAv e,Nat.le_of_eq (zTg _ _),trivial,λb g=>absurd (show b∈([]:B9) from g) (by simp),E, .of_eq hg⟩;refine sG ((F _ M (i D)).run callerA [] c H {[.ref a],[]} [.ref a] [.ref a] _ _ hr e0 (l c (.ref a)) (.cons O .nil) (aa H hO hS)) λr s' h=>?_
  cases r with
  |error e=>exact(ab H e s' h).elim|ok fl=>
   cases fl with
   |next=>exact False.elim h|brk=>exact False.elim h|cont=>exact False.elim h|ret u=>
    ext zV h v H' os y un z_;ext oAA z_ N r' q;let q':v= .bl true:=q;subst q';obtain rfl:u=Value.bool true:=r';refine⟨O,OldK.of_keep λb o e=>?_,os,y⟩
    cases q:H b with
    |none=>exact un.keep b o e q (by intro z;exact absurd (show b∈([]:B9) from z) (by simp)) (by simp)|some u=>
     rcases hO b with z |⟨ob,xs,z⟩
     ·rw[q] at z;cases z
     ·let z2:=un.frzs b ob _ z
      obtain⟨e1,_⟩:=E b _ z;obtain⟨e2,_⟩:=N b _ z2;rw[e] at e1;cases e1;exact e2
 cases hk:K.lookup a with
 |some o=>
  -- the script is one of the module's own objects
  let e:=KX a o hk;rw[Q] at e;cases e;refine j (λ_=>none) (λ_=>.inl rfl) (.inr ⟨_,vs.toArray,_,hk,rfl,rfl,rfl,by rw[nD,B];exact hl,by simpa using rv⟩) (λb u z=>by let J:(none:Option HO)=Y u:=z;cases J) (λb z=>absurd rfl z) λz=>absurd rfl z
 |none=>
  refine j (λb=>if b=a then Y (.frz {cls:=.type "list",data:=.seq vs.toArray} (.lst (p.map V.int))) else none) (λb=>?_) (.inl (.inr {{cls:=.type "list",data:=.seq vs.toArray},mN O})) (λb u z=>?_) (λb z=>?_) λ_=>hk
  ·by_cases g:b=a
   ·exact .inr {_,_,mN g}
   ·exact .inl (mK g)
  ·by_cases g:b=a
   ·let J:=(mN g).symm.trans z
    cases J;subst g;exact{Q,by rw[mJ];exact hl,vs,_,rv,Q}
   ·let J:=(mK g).symm.trans z
    cases J
  ·by_cases g:b=a
   ·exact g
   ·exact absurd (mK g) z
abbrev KOf{K:A6}{h:V5}(_:K.In h):A6:=K
theorem zRi{l:W.OpenLaw}{n k:Nat}{q:V3}{g:C1}{XP:(Str->Option V0)->V5->Prop}{I:V4->V5->Prop}{d:DefRec}{K:Params->A6}{CX:V4->CXT}{sp:V4->Sp}{x:Str}
  (hn:l.most=Y n) (B:n<=V9) (y:d.params.defaults= []) (hr:Room k callerA)
  (hY:∀(w:V4)(h:V5),I w h->(K w.params).In h)
  (F:∀(w:V4)(i:C8)(m:V1)(h:V5),(K w.params).In h->h.Ns A0 i->i d.name=Y (.ref m)->
   ∃A:V7,(∀(s:V2)(u:V0),BindsTo s A {[u],[]} [(x,u)])/\
    ∀base:V5,(K w.params).In base->base.Ns A0 i->FnOk l.prog w (K w.params) i base (CX w) k m A [x] (sp w))
  (t:∀(w:V4)(H:Hp)(a:V1)(p:List Int),p...*<=n->yEj H->SqL (K w.params) H a (p.map V.int)->sp w [.ref a] H (λv _=>v= .bl true) λ_ _ _=>False)
  (z:∀(w:V4)(H:Hp)(s:V2)(e:V0)(D:V2),CX w [] H s (λ_ _ _=>False) e D->False):
  W.WalkO q g XP I l.row.toRowW d [] (λf vs=>PySem.call f vs):=by
 refine Att.attach_call hn y λw s₀ s₁ i mb m o pm cd aa a vs p G Yy ho hd M r j c b N=>?_;let E:=hY w _ Yy;obtain⟨A,hb,L⟩:=F w i m _ E G.T.g r;exact zWd E G.T.g G.T.b G.T.builtins G.T.nolimit N j c (pB b B) hr L hb (λH J Q=>t w H a p b J Q) λH e D=>z w H s₁ e D
end L2
/- THE LAST THEOREM (shape;LID,My.*are yours):
   My.Adr:a structure of the addresses that your layer names (classes,functions);My.Txt K t:a structure (Prop) of the equations over K;
   My.txt_mk:{K} {implicit addresses ..} (e1:nsIn K A0 "law" =Y ↥(.ref f)) (e2:K.lookup f=Y {oc,od, .func (fnOf "law" "law" params body scope dV kV doc pm an cdv ct),sl}) (e3:codeIn K cdv "law" =true) .. :∃t,My.Txt K t
set_option maxRecDepth 100000 in
set_option maxHeartbeats 0 in
theorem PySem.Challenge.cw_LID_holds : PySem.Challenge.rw_LID.Holds := by
  w_on;o_law;k_head;(case hw=>w_witness2)
  k_fill
  refine L2.zRi (l:=PySem.Challenge.rw_LID) (n:=63) (k:=40) (x:="script") (CX:=λw=>..) (sp:=λ_=>My.sp_law) O ∎ O {O,by decide,by decide} (λw h i=>PySem.W.kIn_of i) ?F ?S ?C
  case F=>
    intro w p f h e G d;let T:∃t,My.Txt (L2.KOf e) t:=by
      dsimp only[L2.KOf]                          -- K must stand as «<heap const>w.params» for k_is;refine' My.txt_mk ?e1 ?e2 ?e3 ..
      (case e1=>PySem.W.k_is)                    -- in the order:a name ->its address ->its object ->its parts
      (case e2=>PySem.W.k_is)
      ..
    obtain⟨t,T⟩:=T;let g:=d.symm.trans (PySem.W.mg_of e G T.law);cases g                                       -- f is the law's own address;exact{_,λs u=>.of_eq O,λbase c nb=>My.law_fn T c nb}     -- if «.of_eq O» comes too early:refine' {_, ?b,λbase c nb=>My.law_fn T c nb};exact λs u=>.of_eq O
  case S=>exact λw H a m q j o=>..
  case C=>exact ..
(the tactic k_is has no namespace:write k_is)-/
namespace L2
open PySem PySem.Spec PyProof.Rows
def xR(s:V6):Arguments:=match s with|.FunctionDef _ a _ _ _ _ _ _ _ _=>a|_=>{posonlyargs:=[],args:=[],vararg:=none,kwonlyargs:=[],kw_defaults:=[],kwarg:=none,defaults:=[]}
def xJ(s:V6):List V6:=match s with|.FunctionDef _ _ b _ _ _ _ _ _ _=>b|_=>[]
def zY(s:V6):Scope:=match s with|.FunctionDef _ _ _ _ _ _ a _ _ _=>a|_=>{kind:=.function,names:=[],isGenerator:=false,isCoroutine:=false}
abbrev CX0:CXT:=λ_ _ _ _ _ _=>False
abbrev E0:XK:=λ_ _ _=>False
theorem yDj{X:Cx}:uD CX0 X E0:=λ_ _ _ _ _ _ _ h=>h.elim
structure Fun(K:A6)(x qual:Str)(st:V6)(f:V1)(fd:V7):Prop where
 ex:∃(oc:V0)(od:Option V1)(kV doc pm:V0)(an:Option V1)(cdv ct:V0)(osl:Array (Option V0)),
  fd=W.fnOf x qual (xR st) (xJ st) (zY st) .none kV doc pm an cdv ct/\K.lookup f=Y {oc,od, .func fd,osl}/\A9 K cdv qual=true
 kp:A7 K (.ref f)=true
section
variable{P:V3}{w:V4}{K:A6}{mg:C8}{base:V5}
theorem Fun.ok{x b:Str}{st:V6}{f:V1}{m:V7}{N ps:C1}{k:Nat}{sp:Sp}(F:Fun K x b st f m)(S:wF N ps (zY st))(len:∀d H Q E,sp d H Q E->d...*=ps...*)
  (e:∀(c:V0)(A:Around)(a:List S7)(s:V2)(H:Hp)(d:B3)(Q:VK)(E:XK),Room k (A.deeper (envOfC b (zY st) s⁻¹ f c))->sp d H Q E->
   ∃t,PSs (zCj CX0 P w K mg base N b (zY st) f c A a s H E).nox (xJ st) t/\t {nx:=λ_ H'=>Q .non H',rt:=Q} (jI N d) H):FnOk P w K mg base CX0 (k+1) f m ps sp:=by
 refine yA (F.ex) λz y kV o u l=>?_;ext yN l r c v n i l;ext oA l lk g;subst i;refine zSe lk g S len λA a s H d Q E p j=>?_;obtain⟨t,h,q⟩:=e c A a s H d Q E p j;exact⟨t,h.nox,q⟩
theorem Fun.binds{x a:Str}{st:V6}{f:V1}{k:V7}{ps:C1}(F:Fun K x a st f k)
  (h:∀(kV c g:V0)(e:Option V1)(b i:V0)(us:B7),us...*=ps...*->bindArgs (W.fnOf x a (xR st) (xJ st) (zY st) .none kV c g e b i) {us,[]}=pure (ps.zip us)):Binds K k ps []:=by
 refine yA (F.ex) λo n kV c g j=>?_;ext yN j e b i l d j;ext oA j lk m;subst d;exact .all (h kV c g e b i)
theorem zYf{x a:Str}{st:V6}{f:V1}{j:V0}{od g:Option V1}{e:Array (Option V0)}{kV d h b i:V0}(l:K.lookup f=Y {j,od, .func (W.fnOf x a (xR st) (xJ st) (zY st) .none kV d h g b i),e})
  (c:A9 K b a=true) (k:A7 K (.ref f)=true):Fun K x a st f (W.fnOf x a (xR st) (xJ st) (zY st) .none kV d h g b i):={⟨j,od,kV,d,h,g,b,i,e,O,l,c⟩,k}
end
theorem vE{A:Around}{k:Nat}(a:Room k A):A.units+1<cLine:=cX (Nat.add_le_add_left (by decide:1<=64) _) a.units
section
variable{X:Cx}
theorem pv(i:Nat){x:Str}{b:Pos}(c:X.N[i]? =Y x:=by rfl)(d:Vis X.env.scope x:=by first | exact nZ O | exact bY (nZ O)| exact bY (bY O))(e:(x==("__debug__" :Str))=false:=by decide)
  (a:(x==("__classdict__" :Str))=false:=by decide):PE X (.Name x b) (qH i):=zWw c d e a
theorem zHh{A B:Prop}(h:B):if false=true then A else B:=by
 rw[mK nL];exact h
theorem zHo{A B:Prop}(h:A):if true=true then A else B:=by
 rw[mN O];exact h
def Same(H a:Hp):Prop:=∀b o,H b=Y o->a b=Y o
theorem Same.refl(H:Hp):Same H H:=λ_ _ h=>h
theorem Same.trans{H H1 d:Hp}(a:Same H H1)(b:Same H1 d):Same H d:=λc o h=>b c o (a c o h)
theorem Same.seq{K:A6}{H b:Hp}{a:V1}{xs:B3}(e:Same H b)(h:SqL K H a xs):SqL K b a xs:=by
 rcases h with(h |⟨o,h⟩)| h
 ·exact .inl (.inl (e _ _ h))
 ·exact .inl (.inr {o,e _ _ h})
 ·exact .inr h
theorem zDn:wR X (.builtin "len") (λxs H Q=>∃a kvs,xs= [V.ref a]/\H a=Y (.dK kvs)/\Q (.int kvs...*) H):=by
 intro c s σ H xs g Q I r h;ext yO h a kvs b d q;subst b;obtain⟨u,rfl,f⟩:=jP r;cases f;exact yCm I (.inl d) λt i e=>{.int kvs...*,H,e,⟨t,O⟩,q}
end
section
variable{κ:Type} [DecidableEq κ]
theorem yBq{kvs:List (κ×V)}{k:κ}{v:V}(h:jL kvs k=Y v):k∈kvs.map (·.1):=by
 let q:(kvs.any λa=>decide (a.1=k))=true:=by
  rw[zCu,h]
  all_goals rfl
 obtain⟨p,b,e⟩:=dH.mp q;exact nS.mpr {p,b,rJ e}
theorem zQp:∀{l:List κ}{k:κ},l.Nodup->¬k∈l->(l++ [k]).Nodup
 |[],k,_,_=>by simp|a::r,k,h,b=>by
  obtain⟨d,c⟩:=pC.mp h;show(a::(r++ [k])).Nodup;refine pC.mpr {λm=>?_,zQp c λm=>b (mG.mpr (bY m))};rcases mZ.mp m with q | q
  ·exact d q
  ·exact b (mG.mpr (nZ (mH.mp q).symm))
end
abbrev ts(x:Str):List Nat:=x.cps.toList
abbrev tx(l:List Nat):Str:=⟨l.toArray⟩
theorem wG(l:List Nat):ts (tx l)=l:=rfl
theorem jH(x:Str):tx (ts x)=x:=by cases x;simp[tx,ts]
theorem zOs(x:Str):x...*=(ts x)...*:=by simp[Str.length,ts]
theorem gE(l:List Nat):(tx l)...*=l...*:=by simp[Str.length,tx]
theorem zKu{x y:Str}(h:ts x=ts y):x=y:=by rw[<-jH x,<-jH y,h]
theorem zGu(a b:List Nat):tx a++tx b=tx (a++b):=by
 apply zKu;show(a.toArray++b.toArray).toList=a++b;simp
theorem zIn(xs:Array Nat):∀(k:Nat)(acc:Array Nat),((List.replicate k xs).foldl (· ++ ·) acc).toList=acc.toList++(List.replicate k xs.toList).flatten
 |0,acc=>by simp|k+1,acc=>by
  rw[aD,dQ,zIn xs k (acc++xs)];simp[aD]
theorem yEz(x:Str)(n:Int):Txt.mul x n=tx (List.replicate n.toNat (ts x)).flatten:=by
 apply zKu;rw[wG];unfold Txt.mul
 by_cases b:n<1
 ·rw[mN b]
  let e:n.toNat=0:=by lia
  rw[e];rfl
 ·rw[mK b]
  by_cases a:(n==1 || x...*==0)=true
  ·rw[mN a]
   rcases(Bool.or_eq_true _ _).mp a with h3 | h3
   ·let e:n=1:=by simpa using h3
    subst e;simp
   ·let e:x...*=0:=by simpa using h3
    rw[zOs] at e;let c:ts x= []:=aM e;show ts x=_;rw[c];simp
  ·rw[mK a]
   show((List.replicate n.toNat x.cps).foldl (· ++ ·) #[]).toList=_;rw[zIn];simp
section
variable{X:Cx}
def zWb:R2:=λx y H Q=>∃z n,x= .str z/\y= .int n/\z...*<=1000/\-1000<=n/\n<=1000/\Q (.str (tx (List.replicate n.toNat (ts z)).flatten)) H
theorem uH:OpR X (binaryOp .Mult) zWb:=by
 intro f s σ H x y v u Q I i j h;ext zV h z n d c g m;ext oAA m o r q;subst d c;obtain⟨t,rfl⟩:=i;obtain⟨l,rfl⟩:=j;refine SB.mul {by rw[nP ∅,nP ∅];rfl,λa _ b=>?_,λa _=>?_} λl k=>{.str (Txt.mul z n),H,I.tok _,⟨_,O⟩,by rw[yEz];exact q}
 ·let p:(9223372036854775:Int)<=(2 ^ 63 - 1:Int)/ n:=Int.le_ediv_of_mul_le ∅ ∅
  lia
 ·unfold PySem.Builtin.Str.tooLong
  let e:z...**n.toNat<=1000*1000:=Nat.mul_le_mul g ∅;exact nP (by rw[mV];lia)
theorem zOm{ys:C1}:∀{us:B7},Vals (ys.map V.str) us->StrsAre us ys:=by
 induction ys with
 |nil=>intro us r;rw[tG] at r;cases r;exact .nil|cons n d b=>
  intro us r;rw[nO] at r
  cases r with
  |cons c a=>
   obtain⟨t,e⟩:=c;subst e;exact .cons n t (b a)
theorem zFk(g:Str):∀(ps:C1)(acc:Array Nat),(ps.foldl (λa p=>a++g.cps++p.cps) acc).toList=acc.toList++(ps.map λp=>ts g++ts p).flatten
 |[],acc=>by simp|p::ps,acc=>by
  rw[dQ,zFk g ps];simp
theorem zVo(ys:C1):Txt.join (tx []) ys=tx (ys.map ts).flatten:=by
 apply zKu;show((ys.drop 1).foldl (λa p=>a++(tx []).cps++p.cps) (ys.headD Str.empty).cps).toList=_;rw[zFk]
 cases ys with
 |nil=>rfl|cons y r=>
  show ts y++(List.map (λp=>ts (tx [])++ts p) r).flatten=ts y++(List.map ts r).flatten;simp only[wG,aJ]
def rJoin(K:A6):V->List V->Hp->VK->Prop:=λx b H Q=>∃(p:V1)(a:C1),x= .str (tx [])/\b= [.ref p]/\SqL K H p (a.map V.str)/\((a.map ts).flatten)...*<=100000/\Q (.str (tx (a.map ts).flatten)) H
theorem yBp(ys:C1):(ys.map (·.length)).sum=((ys.map ts).flatten)...*:=by
 induction ys with|nil=>rfl|cons y r a=>rw[nO,List.sum_cons,a,nO,bV,mL,zOs]
theorem zQa:MtR X "str.join" (rJoin X.K):=by
 intro c s σ H x n v w Q I g i h;ext zV h p d b a l m;ext oA m o q;subst b a;obtain⟨t,rfl⟩:=g;obtain⟨u,rfl,j⟩:=i.one;cases j;refine xE (I.list l) λe r f _=>?_;refine join_list (ys:=d) f.isList (by simpa using zOm r) ?_ λy k=>{.str (Txt.join (tx []) d),H,I.tok _,⟨_,O⟩,by rw[zVo];exact q};rw[yBp,show(tx [])...*=0 from O,Nat.mul_zero]
 lia
def yFv(a:Bool):R2:=λx y H Q=>∃c j,x= .str (tx [c])/\y= .str j/\Q (.bl (if a then !decide (c∈ts j) else decide (c∈ts j))) H
theorem zQf:OpR X (A3 .In) (yFv false):=by
 intro a s σ H x y v u Q I f g h;ext yO h c j d b q;subst d b;refine zUh a s σ H _ _ v u Q I f g {_,_,O,O, ?_};let e:=StrLaws.found_one j c;rw[show(tx [c]:Str)={#[c]} from O,e];exact q
def Its(x:Str):It:={λi _=>i<(ts x)...*,λi H y a=>a=H/\∃c,(ts x)[i]? =Y c/\y= .str (tx [c]),λi _=>(ts x)...*<=i}
theorem zYj{P:V3}{w:V4}{K:A6}{tg:Expr}(x:Str)(t:Tok)(it:V1)(q:String)(j:q= "str_ascii_iterator"\/q= "str_iterator"):zGb P w K tg (Its x) [it] it (λi h=>h.IsStrIter it q x t i) where
 mem:=by simp
 obj:=λi h st b l=>by
  let e:b=it:=by simpa using l
  subst e;ext xE st o e c d;exact⟨o,e,λv z=>by rw[d] at z;cases z⟩
 keep:=λi h a st k=>by
  ext xE st o e c d;exact⟨o,k it (by simp) o e,c,d⟩
 item:=by
  intro X Q hw M hc i g s σ H E I y st hg;subst Q hw M;refine zS (y it (by simp)) λr J f2 L D A=>?_;let B:i<(ts x)...*:=hg;let p:x.cps[i]? =some (ts x)[i]:=by
   rw[<-sX];simp[B]
  let n:∀a,a.IsStrIter it q x t (i+1)->Heap.SameBut it s.heap a->∃u,Y (Value.str {#[(ts x)[i]]} s.toks)=Y u/\
    V8 (S5 X.prog X.w) X.A (letOwnedTupleGo tg (.ref it) u) (λ_ s2=>∃x' N,Inv X g σ N s2/\RelV x' u/\(Its x).yld i H x' N/\s2.heap.IsStrIter it q x t (i+1)/\∀b∈ [it],N b=none) E {s with heap:=a,toks:=s.toks+1}:=λa f m=>by
   let I1:Inv X g σ H {s with heap:=a,toks:=s.toks+1}:=I.turned (t':=s.toks+1) (λb o l e=>(m.2 b l).trans e) r J L D A;refine xE (id f) λo e c d=>?_;refine{_,O,zMu (s:={s with heap:=a,toks:=s.toks+1}) e c d ?_ {.str (tx [(ts x)[i]]),H,I1,⟨_,O⟩,{O,_,by simp[B],O},f,λb l=>(y b l).1}};rcases j with z | z<;>(rw[z];decide)
  rcases j with z | z
  ·subst z;exact wpAny_pyNext_ascii_item st p λa f m=>n a f m
  ·subst z;exact wpAny_pyNext_wide_item st p λa f m=>n a f m
 done:=by
  intro X Q hw M hc i g s σ H E I y st hg;subst Q hw M;refine zS (y it (by simp)) λr J f2 L D A=>?_;let B:(ts x)...*<=i:=hg;let p:x.cps[i]? =none:=by
   rw[<-sX];exact sY B
  rcases j with z | z
  ·subst z;exact wpAny_pyNext_ascii_end (I.ok.hd hc) st p λa eb=>{O,I.turned (t':=s.toks) (λb o l e=>eb b o l e) r J L D A}
  ·subst z;exact wpAny_pyNext_wide_end (I.ok.hd hc) st p λa eb=>{O,I.turned (t':=s.toks) (λb o l e=>eb b o l e) r J L D A}
 self:=λ_ _ _ _ _ st h=>by
  rcases j with z | z
  ·subst z;exact wpAny_pyIter_striter_ascii st h
  ·subst z;exact wpAny_pyIter_striter_wide st h
def yFo(a:TE):TI:=λσ H R=>a σ H λx b=>∃z,x= .str z/\R (Its z) b
theorem zWs{m l:Expr}{j:TE}(p:PE X l j):PI X m l (yFo j):=by
 intro a s σ H R I h;refine thn (p a s σ H _ I h) λv c z_=>?_;obtain⟨x,u,g,n,w⟩:=z_;obtain⟨z,rfl,q⟩:=w;obtain⟨t,rfl⟩:=n;let d:∀f,(f= "str_ascii_iterator"\/f= "str_iterator")->PIE X a σ m R (.ref c⁻¹) {c with heap:=c.heap.push {cls:=.type f,data:=.fields #[.str z t, .int 0 0]}}:=λf i=>by
  refine⟨c⁻¹,[c⁻¹],_,_,u,O,g.kept (t':=c.toks) λb o e=>mO _ e,zYj z t _ f i,⟨_,nQ _ rfl,rfl,rfl⟩,λb r=>?_,q⟩;let e:b=c⁻¹:=by simpa using r
  subst e;exact g.fpOk (mC _) (g.hok.fresh (mC _))
 cases k:z.cps.all (· <128) with|true=>exact wpAny_pyIter_ascii k (d _ (.inl O))|false=>exact wpAny_pyIter_wide k (d _ (.inr O))
theorem zNb{a:List Bool}:∀{us:B7},Vals (a.map V.bl) us->PyProof.Rows.LSm.BoolsAre us a:=by
 induction a with
 |nil=>intro us r;rw[tG] at r;cases r;exact .nil|cons n e d=>
  intro us r;rw[nO] at r
  cases r with
  |cons c b=>
   cases (show _=Value.bool n from c);exact .cons n (d b)
theorem gQ(o:X.calm=true):wR X (.builtin "all") (λxs H Q=>∃(p:V1)(c:List Bool),xs= [.ref p]/\SqL X.K H p (c.map V.bl)/\Q (.bl (c.all id)) H):=by
 intro j s σ H xs J Q I r h;ext yO h p c d y q;subst d;obtain⟨u,rfl,w⟩:=jP r;cases w;refine xE (I.list y) λa x t z=>?_;let f:=t.isList;let k:=zNb x;let g:p<s⁻¹:=by obtain⟨_,e,_⟩:=f;exact mW e
 refine call_all_walk (dA f ?_);refine{s⁻¹,[s⁻¹,p],[s⁻¹],a.toArray.size,_,_,λi=>(c[i]?).getD true,O,Walks.list (A:=X.A.in1) (I.ok.hd o) _ p (nV g) a.toArray,
  {{_,nQ _ O,O,O},f.push _},λi v M B L m l=>?_,λE D n=>?_}
 ·obtain⟨b,e,rfl⟩:=k.get i v (by simpa using m)
  simp only[e,Option.getD_some] at l;exact rW l
 ·let e:((List.range a.toArray.size).all λi=>(c[i]?).getD true)=c.all id:=by
   rw[nD,k...*];exact PyProof.Rows.LSm.range_all c
  rw[e];exact{.bl _,H,I.kept (PyProof.Rows.LSm.kept_iter n),O,q}
def zHn:List V->List V->Bool
 |[],[]=>true|x::a,y::b=>eqV x y && zHn a b|_,_=>false
theorem zFe:∀(xs ys:B3),xs...*=ys...*->(List.range xs...*).all (λj=>match xs[j]?,ys[j]? with | some a,Y b=>eqV a b | _,_=>true)=zHn xs ys
 |[],[],_=>rfl|x::xs,y::ys,h=>by
  let c:=zFe xs ys (by simpa using h);rw[mX,List.range_succ_eq_map,List.all_cons,dI];show(eqV x y && _)=(eqV x y && zHn xs ys);rw[<-c]
  congr 1
theorem zNl:∀{xs ys:B3},xs...*≠ys...*->zHn xs ys=false
 |[],[],h=>absurd O h|[],_::_,_=>rfl|_::_,[],_=>rfl|x::xs,y::ys,h=>by
  let a:=zNl (xs:=xs) (ys:=ys) (by simpa using h);show(eqV x y && zHn xs ys)=false;rw[a,bP]
def rEqL(K:A6)(e:Bool):R2:=λx y H Q=>∃a b c d,x= .ref a/\y= .ref b/\SqL K H a c/\SqL K H b d/\c.all uS=true/\d.all uS=true/\Q (.bl (if e then !zHn c d else zHn c d)) H
theorem Vals.some_at{xs:B3}{us:B7}(r:Vals xs us){j:Nat}(h:j<us...*):∃x,xs[j]? =Y x/\RelV x us[j]:=by
 let c:=r...*;obtain⟨x,e⟩:∃x,xs[j]? =Y x:={xs[j],by simp[c,h]};obtain⟨u,a,b⟩:=r.get e;let d:us[j]? =some us[j]:=by simp[h]
 rw[d] at a;cases a;exact⟨x,e,b⟩
theorem zXl{A:Around}{s:V2}{xs ys:B3}{us ws:B7}(r:Vals xs us)(q:Vals ys ws)(i:xs.all uS=true)(g:ys.all uS=true):
  ∀j(f:j<us.toArray.size)(e:j<ws.toArray.size),SeqAt.EqAt A s us.toArray[j] ws.toArray[j] ((λj=>match xs[j]?,ys[j]? with | some a,Y b=>eqV a b | _,_=>true) j):=λj f e=>by
 obtain⟨x,c,m⟩:=r.some_at (j:=j) (by simpa using f);obtain⟨y,d,l⟩:=q.some_at (j:=j) (by simpa using e);let h:uS x=true:=rH.mp i x (mM c);let k:uS y=true:=rH.mp g y (mM d);let z:=yEx (A:=A) (s:=s) m l h k;simp only[c,d]
 simpa using z
theorem yBw(p:X.A.units<cLine):OpR X (A3 .NotEq) (rEqL X.K true):=by
 intro i s σ H x y v u Q I D J h;ext yN h a b l n f L;ext zS L g A t E B q;subst f g;cases D;cases J;refine xE (I.list A) λw m c _=>?_;refine xE (I.list t) λk o d _=>?_;let j:=m...*;let r:=o...*
 by_cases e:l...*=n...*
 ·refine SeqAt.RcNeAt.lists c.isList d.isList (by simp only[nD];lia) p (zXl m o E B) X.prog X.w X.xe _ {.bl _,H,I,O, ?_}
  rw[nD,<-j,zFe l n e];exact q
 ·refine SeqAt.RcNeAt.lists_lengths c.isList d.isList (by simp only[nD];simpa [<-j,<-r] using e) p X.prog X.w X.xe _ {.bl _,H,I,O, ?_}
  let z:=zNl e
  simpa [z] using q
def tyS(H:Hp):V->Option String
 |.non=>some "NoneType"|.bl _=>some "bool"|.int _=>some "int"|.str _=>some "str"|.ref a=>match H a with
  |some (.lst _)=>some "list"|some (.tup _)=>some "tuple"|some (.dK _)=>some "dict"|_=>none
 |_=>none
def zX(t T:String):Bool:=t==T ||(t== "bool" && T== "int")
theorem zXc{K:A6}{H:Hp}{x:V}{t:String}(h:tyS H x=Y t):zDt K H x (.type t):=by
 cases x with
 |non=>cases h;exact .non|bl b=>cases h;exact .bl b|int i=>cases h;exact .int i|str z=>cases h;exact .str z|ref a=>
  let c:(match H a with | some (.lst _)=>some "list" | some (.tup _)=>some "tuple" | some (.dK _)=>some "dict" | _=>none)=Y t:=h
  cases e:H a with
  |none=>rw[e] at c;cases c|some o=>
   rw[e] at c
   cases o with|lst d=>cases c;exact .lst e|tup d=>cases c;exact .tup e|dK f=>cases c;exact .dK e|_=>cases c
 |byt b=>cases h|flt b=>cases h|ty n=>cases h
def tyL:List String:=["NoneType","bool","int","str","list","tuple","dict"]
def kitB(t T:String):Option Bool:=if(Value.type t==Value.type T)=true then Y true else if W.kitMeta T=true then(fastBuiltinMro t).map (·.contains (.type T)) else none
theorem yCe:(tyL.all λt=>tyL.all λT=>kitB t T==Y (zX t T))=true:=by decide+kernel
theorem zDi{K:A6}{t T:String}(d:t∈tyL)(c:T∈tyL):W.kitOne K (.type t) (.type T)=Y (zX t T):=by
 let a:=rH.mp (rH.mp yCe t d) T c;let b:kitB t T=Y (zX t T):=by simpa using a
 exact b
theorem vU{H:Hp}{x:V}{t:String}(h:tyS H x=Y t):t∈tyL:=by
 cases x<;>first |(cases h;simp[tyL];done)|(cases h;done)| skip
 rename_i a;let b:(match H a with | some (.lst _)=>some "list" | some (.tup _)=>some "tuple" | some (.dK _)=>some "dict" | _=>none)=Y t:=h
 split at b<;>first |(cases b;simp[tyL];done)|(cases b;done)
theorem yAe{g:C7}{σ:St}{H:Hp}{s:V2}{x:V}{u:V0}{t:String}(I:Inv X g σ H s)(b:RelV x u)(h:tyS H x=Y t):
  ∃φ:V5->Prop,W.KitX X.K u (.type t) φ/\φ s.heap/\u≠ .builtin "__main__.__loader__#opaque":=by
 cases zXc (K:=X.K) h with
 |non=>cases (show u=Value.none from b);exact{_,W.kitx_none,mT,λz=>nomatch z}|bl y=>cases (show u=Value.bool y from b);exact{_,W.kitx_bool,mT,λz=>nomatch z}|int i=>obtain⟨t,q⟩:=(show∃t,u=Value.int i t from b);cases q;exact{_,W.kitx_int,mT,λz=>nomatch z}
 |str y=>obtain⟨t,q⟩:=(show∃t,u=Value.str y t from b);cases q;exact{_,W.kitx_str,mT,λz=>nomatch z}
 |flt y=>obtain⟨t,q⟩:=(show∃t,u=Value.float y t from b);cases q;exact{_,W.kitx_float,mT,λz=>nomatch z}
 |@lst a f c=>
  cases (show u=Value.ref a from b);obtain⟨_,_,n,_,d⟩:=(show ObjOk X.prog X.w H s.heap a (.lst f) from I.hok a _ c);exact{_,dX,⟨_,d,O⟩,λz=>nomatch z}
 |@frz a m f c=>
  cases (show u=Value.ref a from b);obtain⟨_,_,_,n,_,d⟩:=(show ObjOk X.prog X.w H s.heap a (.frz m (.lst f)) from I.hok a _ c);exact{_,dX,⟨_,d,O⟩,λz=>nomatch z}
 |@tup a f c=>
  cases (show u=Value.ref a from b);obtain⟨_,_,_,p⟩:=(show ObjOk X.prog X.w H s.heap a (.tup f) from I.hok a _ c);ext xE p o d j _;exact⟨_,W.kitx_tuple,⟨o,d,j⟩,λz=>nomatch z⟩
 |@dK a e c=>
  cases (show u=Value.ref a from b);obtain⟨_,_,r,_,p⟩:=(show ObjOk X.prog X.w H s.heap a (.dK e) from I.hok a _ c);ext yB p o l k d j _;exact⟨_,cV,⟨o,d,j.1⟩,λz=>nomatch z⟩
 |@dT a e c=>
  cases (show u=Value.ref a from b);obtain⟨_,_,f,_,o,l,k,d,j,_⟩:=(show ObjOk X.prog X.w H s.heap a (.dT e) from I.hok a _ c);exact{_,cV,⟨o,d,j.1⟩,λz=>nomatch z}
theorem zBa{T U:String}(hT:T∈tyL)(hU:U∈tyL):wR X (.builtin "isinstance") (λxs H Q=>∃x t p,xs= [x, .ref p]/\H p=Y (.tup [.ty T, .ty U])/\tyS H x=Y t/\Q (.bl (zX t T || zX t U)) H):=by
 intro j s σ H xs us Q I r h;ext yB h x t p d M z_;ext oA z_ g q;subst d;refine yO (zEf r) λu w' a y f=>?_;subst a;cases (show w'=Value.ref p from f);refine xE (yAe I y g) λφ Zy A c=>?_;obtain⟨_,E,rv,L⟩:=(show ObjOk X.prog X.w H s.heap p (.tup [.ty T, .ty U]) from I.hok p _ M);refine yO (zEf rv) λk J e z r2=>?_;subst e;cases (show k=Value.type T from z);cases (show J=Value.type U from r2);obtain⟨o,B,D,n,v⟩:=L;obtain⟨N,od,i,l⟩:=o;cases (show N=Value.type "tuple" from D);cases (show i=Data.seq _ n from v);refine W.kia_tup Zy I.kIn A B (b:=zX t T || zX t U) ?_ c λtk=>{.bl _,H,I.tok _,O,q}
 let w:=zDi (K:=X.K) (vU g) hT;let m:=zDi (K:=X.K) (vU g) hU;simp only[W.kitAny,w,m];cases zX t T<;>cases zX t U<;>rfl
theorem zFy{T:String}(f:T∈tyL):wR X (.builtin "isinstance") (λxs H Q=>∃x t,xs= [x, .ty T]/\tyS H x=Y t/\Q (.bl (zX t T)) H):=by
 intro c s σ H xs i Q I r h;ext yO h x t a d q;subst a;refine yO (zEf r) λu e a g b=>?_;subst a;cases (show e=Value.type T from b);exact zTa I g (zXc d) (zDi (vU d) f) λj=>{.bl _,H,I.tok _,O,q}
end
theorem yR:A1 "len" =Y (.builtin "len"):=by decide+kernel
theorem zK:A1 "isinstance" =Y (.builtin "isinstance"):=by decide+kernel
theorem zDp:A1 "all" =Y (.builtin "all"):=by decide+kernel
theorem yEq:A1 "abs" =Y (.builtin "abs"):=by decide+kernel
theorem yDz:A1 "ord" =Y (.builtin "ord"):=by decide+kernel
theorem zJs:A1 "min" =Y (.builtin "min"):=by decide+kernel
theorem jW:A1 "sorted" =Y (.builtin "sorted"):=by decide+kernel
theorem qI:A1 "int" =Y (.type "int"):=by decide+kernel
theorem qP:A1 "str" =Y (.type "str"):=by decide+kernel
theorem zSf:A1 "bool" =Y (.type "bool"):=by decide+kernel
theorem wA:A1 "list" =Y (.type "list"):=by decide+kernel
theorem xQ:A1 "dict" =Y (.type "dict"):=by decide+kernel
theorem zLy:A1 "tuple" =Y (.type "tuple"):=by decide+kernel
structure Bl(mg:C8):Prop where
 len:mg "len" =none
 range:mg "range" =none
 isinstance:mg "isinstance" =none
 all:mg "all" =none
 sum:mg "sum" =none
 int:mg "int" =none
 str:mg "str" =none
 bool:mg "bool" =none
 list:mg "list" =none
 dict:mg "dict" =none
 tuple:mg "tuple" =none
structure Dn(P:V3)(w:V4)(K:A6)(mg:C8)(base:V5)(k:Nat)(x:Str)(ps:C1)(sp:Sp):Prop where
 ex:∃(f:V1)(fd:V7),FnOk P w K mg base CX0 k f fd ps sp/\Binds K fd ps []/\A7 K (.ref f)=true/\mg x=Y (.ref f)
section
variable{X:Cx}{k j:Nat}{x:Str}{ps:C1}{sp:Sp}{e:Expr}{es:C5}{t:TA}{p pos:Pos}
theorem pe_cd(D:Dn X.prog X.w X.K X.mg X.base k x ps sp)(h:Room j X.A)(g:k<=j)(n:Gl X x)(i:PA X (e::es) t)(a:(x==("__debug__" :Str))=false:=by decide)
  (l:A2 (e::es) X.env=(false,eval e X.env)::A2 es X.env:=by rfl) (b:(S2 pos (A2 es X.env)).any (·.1)=false:=by rfl):PE X (.Call (.Name x p) (e::es) [] pos) (kY sp [] E0 t):=by
 refine zV (D.ex) λf q m d o c=>?_;exact zJq m (h.mono g) n c o d .nil yDj i a l b
theorem yFy(D:Dn X.prog X.w X.K X.mg X.base k x ps sp)(g:Room j X.A)(d:k<=j)(i:Gl X x)(a:(x==("__debug__" :Str))=false:=by decide):PE X (.Call (.Name x p) [] [] pos) (kY sp [] E0 zBu):=by
 refine zV (D.ex) λf m h c l b=>?_;exact zXk h (g.mono d) i b l c .nil yDj a
end
theorem zPa{α β:Type}{l:List α}{f:α->β->Sem (ForInStep β)}(g:β->α->β)(h:∀x∈l,∀c,f x c=pure (.yield (g c x))):∀b:β,forIn l b f=pure (l.foldl g b):=by
 induction l with
 |nil=>intro b;rfl|cons a r e=>
  intro b;rw[List.forIn_cons,h a mE];show forIn r (g b a) f=_;rw[e (λx d=>h x (mI _ d)) (g b a)]
  rfl
def vR(b:S7)(cs:List (Str×V1))(x:Str×NameKind):List (Str×V1):=
 if(x.2==S3)=true then(match b.cells.lookup x.1 with | some a=>(x.1,a)::cs | none=>cs) else cs
def clo(b:S7)(a:List (Str×NameKind)):List (Str×V1):=a.foldl (vR b) []
theorem kA{b:Scope}{d:S7}(h:∀x∈b.names,x.2= .free->∃c,d.cells.lookup x.1=Y c):closureFor b d=pure (clo d b.names):=by
 simp only[closureFor];rw[zPa (vR d) (λx i c=>by
  obtain⟨n,k⟩:=x
  by_cases f:k= .free
  ·subst f
   obtain⟨a,e⟩:=h _ i O;let g:d.cells.lookup n=Y a:=e;simp[vR,cellOf,g]
  ·let e:(k==S3)=false:=by simpa using f
   simp[vR,e])]
 rfl
theorem zQg{b:S7}:∀(c:List (Str×NameKind))(cs:List (Str×V1)),(∀p∈cs,b.cells.lookup p.1=Y p.2)->∀p∈c.foldl (vR b) cs,b.cells.lookup p.1=Y p.2
 |[],_,h=>h|x::r,cs,h=>by
  refine zQg r (vR b cs x) λp d=>?_;unfold vR at d;split at d
  ·split at d
   ·rename_i a e
    rcases mG.mp d with z | z
    ·rw[z];exact e
    ·exact h p z
   ·exact h p d
  ·exact h p d
theorem zLu{b:S7}{p:Str×V1}:∀(a:List (Str×NameKind))(cs:List (Str×V1)),p∈cs->p∈a.foldl (vR b) cs
 |[],_,h=>h|x::r,cs,h=>by
  refine zLu r (vR b cs x) ?_;unfold vR;split
  ·split
   ·exact mI _ h
   ·exact h
  ·exact h
theorem zQs{d:S7}{n:Str}{c:V1}(e:d.cells.lookup n=Y c):∀(b:List (Str×NameKind))(cs:List (Str×V1)),(n,S3)∈b->(n,c)∈b.foldl (vR d) cs
 |[],_,h=>nomatch h|x::r,cs,h=>by
  rcases mG.mp h with z | z
  ·subst z
   refine zLu r _ ?_;unfold vR;rw[mN (by rfl)];show(n,c)∈(match d.cells.lookup n with | some a=>(n,a)::cs | none=>cs)
   rw[e];exact mE
  ·exact zQs e r _ z
theorem kE{α:Type}{n:Str}{c:α}:∀{l:List (Str×α)},(n,c)∈l->∃a,l.lookup n=Y a
 |[],h=>nomatch h|(m,d)::r,h=>by
  by_cases e:n=m
  ·subst e;exact{d,by simp[sO]}
  ·rcases mG.mp h with z | z
   ·cases z;exact absurd O e
   ·obtain⟨a,q⟩:=kE z
    let b:(n==m)=false:=by simpa using e
    exact{a,by rw[sO,b];exact q}
theorem zVt{b:S7}{a:List (Str×NameKind)}{n:Str}{c:V1}(h:(clo b a).lookup n=Y c):b.cells.lookup n=Y c:=
 zQg a [] (λ_ z=>nomatch z) (n,c) (sM h)
theorem zGj{b:S7}{a:List (Str×NameKind)}{n:Str}{c:V1}(e:b.cells.lookup n=Y c)(h:(n,S3)∈a):(clo b a).lookup n=Y c:=by
 obtain⟨f,q⟩:=kE (zQs e a [] h);let d:(clo b a).lookup n=Y f:=q;let z:=zVt d;rw[e] at z;rw[d,<-z]
abbrev _root_.E1:=List (Str×Nat)
inductive FreeOk (X:Cx) (scope:Scope):List (Str×Nat)->Prop where
 |nil:FreeOk X scope []
 |cons {x:Str} {i:Nat} {r:E1} (h1:X.N[i]? =Y x) (h2:X.env.kindOf x=some .cell) (h3:scope.names.lookup x=some .free) (h:FreeOk X scope r):FreeOk X scope ((x,i)::r)
theorem FreeOk.mem{X:Cx}{a:Scope}:∀{F:E1},FreeOk X a F->∀p∈F,X.N[p.2]? =Y p.1/\X.env.kindOf p.1=some .cell/\a.names.lookup p.1=some .free
 |_, .nil,_,h=>nomatch h|_, .cons d b e h,p,c=>by
  rcases mG.mp c with z | z
  ·subst z;exact⟨d,b,e⟩
  ·exact h.mem p z
structure CompSc(X:Cx)(scope:Scope)(own:C1)(F:E1):Prop where
 kind:scope.kind= .function
 nocell:(scope.names.all λy=>!(y.2==NameKind.cell))=true
 loc:(scope.names.all λy=>!(y.2==NameKind.local)||(scope.names.lookup y.1==Y NameKind.local))=true
 fr:(scope.names.all λy=>!(y.2==S3)||(X.env.scope.names.lookup y.1==Y NameKind.cell))=true
 free:FreeOk X scope F
def wM(own:C1)(F:E1):List Str:=own++F.map (·.1)
def gS(own:C1)(F:E1)(σ:St):St:=own.map (λ_=>Option.none)++F.map (λp=>(σ[p.2]?).join)
def yY(X:Cx)(own:C1)(F:E1)(a:Scope)(C:V1)(d:V2)(c:Hp)(b:B9):Cx where
 prog:=X.prog
 w:=X.w
 K:=X.K
 mg:=X.mg
 base:=X.base
 A:=X.A
 N:=wM own F
 s₀:=d
 H₀:=c
 env:=compEnvC a (clo X.env a.names) C X.env
 outer:=X.stack
 stack:=X.stack
 ex:=b
 fn:=λ_=>false
 calm:=X.calm
 pn:=[]
 xe:=λ_ _=>False
theorem CompSc.nc{X:Cx}{a:Scope}{own:C1}{F:E1}(S:CompSc X a own F):∀y∈a.names,y.2≠ .cell:=λy b e=>by
 let q:=rH.mp S.nocell y b;rw[e] at q;exact absurd q ∎
theorem CompSc.lc{X:Cx}{a:Scope}{own:C1}{F:E1}(S:CompSc X a own F):∀y∈a.names,y.2= .local->a.names.lookup y.1=some .local:=λy b e=>by
 let q:=rH.mp S.loc y b;rw[e] at q
 simpa using q
theorem CompSc.fc{X:Cx}{a:Scope}{own:C1}{F:E1}(S:CompSc X a own F):∀y∈a.names,y.2= .free->X.env.kindOf y.1=some .cell:=λy b e=>by
 let q:=rH.mp S.fr y b;rw[e] at q;let c:X.env.scope.names.lookup y.1=Y NameKind.cell:=by simpa using q
 exact c
theorem zKk{a:Scope}{b:S7}(l:∀y∈a.names,y.2≠ .cell){x:Str}(h:(relabel a b).names.lookup x=some .cell\/(relabel a b).names.lookup x=some .free):(x,S3)∈a.names:=by
 let g:∀k,(relabel a b).names.lookup x=Y k->k= .cell\/k= .free->(x,S3)∈a.names:=λk e j=>by
  let m:=sM e;unfold relabel at m;obtain⟨⟨n,f⟩,i,c⟩:=nS.mp m
  by_cases d:f= .free
  ·subst d
   dsimp only at c;split at c<;>(cases c;exact i)
  ·let o:(f==S3)=false:=by simpa using d
   simp only[o,bN,Bool.false_eq_true,if_false] at c;cases c;rcases j with z | z
   ·exact absurd z (l _ i)
   ·exact absurd z d
 rcases h with h | h
 ·exact g _ h (.inl O)
 ·exact g _ h (.inr O)
theorem jQ{a:S7}(g:a.scope.kind= .function):∀{b:List (Str×NameKind)}{x:Str},b.lookup x=some .free->a.kindOf x=some .cell->
  (b.map fun(n,k)=>if(k==S3 && a.scope.kind== .function && a.kindOf n==some .cell) then(n,NameKind.cell) else(n,k)).lookup x=some .cell
 |[],_,h,_=>by simp at h|(n,k)::r,x,h,f=>by
  let l:=@jQ a g r x;rw[nO]
  by_cases e:x=n
  ·subst e
   let i:k= .free:=by simpa [sO] using h
   subst i;let c:(S3==S3 && a.scope.kind== .function && a.kindOf x==some .cell)=true:=by rw[g,f];rfl
   show List.lookup x ((if(S3==S3 && a.scope.kind== .function && a.kindOf x==some .cell)=true then(x,NameKind.cell) else(x,S3))::_)=_;rw[mN c];simp[sO]
  ·let d:(x==n)=false:=by simpa using e
   let j:r.lookup x=some .free:=by rw[sO,d] at h;exact h
   let q:=l j f;dsimp only;split
   ·rw[sO,d];exact q
   ·rw[sO,d];exact q
section
variable{X:Cx}{pins:C7}{σ:St}{H:Hp}{s:V2}
theorem Inv.freeCells{a:Scope}{own:C1}{F:E1}(I:Inv X pins σ H s)(S:CompSc X a own F):∀x∈a.names,x.2= .free->∃c,X.env.cells.lookup x.1=Y c:=λx b e=>
 I.ok.has x.1 (.inl (S.fc x b e))
theorem Inv.notStk(I:Inv X pins σ H s){b:V1}(c:b≠X.env.locals)(a:b∉X.fs):b∉frs X.stack:=λz=>(mG.mp (I.stkSub b z)).elim c a
theorem zHf{f:Scope}{own:C1}{F:E1}{fp:B9}{t:V5}{tk:Nat}(I:Inv X pins σ H s)(S:CompSc X f own F)(A:∀b∈fp,zBz X pins H b)(N:∀b∈fp,b<s⁻¹){h:V2}
  (e3:h={s with heap:=s.heap.push {cls:=.type "list",data:=.seq ([]:B7).toArray}})
  (M:t.Ns h⁻¹ (λ_=>none)) (w:∀b o,h.heap.get? b=Y o->t.get? b=Y o):
  Inv (yY X own F f h⁻¹ h H (s⁻¹::fp)) [] (gS own F σ) H {h with heap:=t,toks:=tk}:=by
 let ab:h⁻¹=s⁻¹+1:=by rw[e3];exact tX ..
 let J:∀b o,s.heap.get? b=Y o->h.heap.get? b=Y o:=λb o e=>by rw[e3];exact mO _ e
 let B:Inv X pins σ H h:=by rw[e3];exact I.kept (t':=s.toks) λb o e=>mO _ e
 let d:∀x c,(clo X.env f.names).lookup x=Y c->X.env.cells.lookup x=Y c:=λx c e=>zVt e;let j:∀b o,X.base.get? b=Y o->b<X.s₀⁻¹:=λb o e=>nR (mW e) I.ok.bsz;let kf:X.env.scope.kind= .function:=I.ok.kind;refine{⟨I.ok.mod,S.kind,I.ok.glob,I.ok.blt,mC _,λx y c t h2=>I.ok.inj x y c (d x c t) (d y c h2),λx hx=>?_,λx c hx _=>(nomatch hx),I.ok.hd,I.ok.frames, .inl O,λb n=>?_,λb o e=>?_, ?_,λb o e n=>?_,λb n=>?_,B.stack,λb n=>I.stkFree b n⟩,
  rfl,B.bare,Un.kept w,{_,M,λi x v e1 g aa=>?_},λx c e=>?_, ?_,λx c e=>I.freeC x c (d x c e),λp hp=>absurd (show p∈([]:C7) from hp) (by simp),B.hok.kept w, ?_}
 ·let hm:=zKk S.nc hx
  obtain⟨c,e⟩:=I.freeCells S _ hm O;exact{c,zGj e hm}
 ·rcases mG.mp n with z | z
  ·subst z
   refine{λq=>?_,λx c e q=>?_}
   ·let q':s⁻¹=h⁻¹:=q
    lia
   ·obtain⟨v,u⟩:=I.cell x c (d x c e)
    exact absurd u.lt (by rw[q];exact tI _)
  ·refine{λq=>?_,λx c e=>(A b z).2.2.2.2.1 x c (d x c e)}
   exact nV (nR (N b z) (show s⁻¹<=h⁻¹ by lia)) q
 ·obtain⟨a1,a2⟩:=I.bs b o e
  exact⟨J b o a1,a2⟩
 ·exact pB (pB I.ok.bsz I.sz) (by show s⁻¹<=h⁻¹;lia)
 ·let l1:=j b o e
  rcases mG.mp n with z | z
  ·exact absurd (nR l1 I.sz) (by rw[z];exact tI _)
  ·rcases(A b z).2.2.2.1 with q | q
   ·exact I.ok.noex b o e q
   ·exact absurd l1 (Nat.not_lt.mpr q)
 ·rcases mG.mp n with z | z
  ·subst z
   exact I.notStk (rX I.lt) (I.nofs (mC _))
  ·exact I.notStk (A b z).2.1 (A b z).2.2.1
 ·-- a name that is seen
  let hi:own...*<=i:=by
   by_cases z:i<own...*
   ·rw[gS,nY (by simpa using z),nG] at g
    cases q:own[i]? with|none=>rw[q] at g;cases g|some y=>rw[q] at g;cases g
   ·lia
  rw[gS,nW (by simpa using hi),nG] at g;let k:(own++F.map (·.1))[i]? =Y x:=e1;rw[nW hi,nG] at k;simp only[mJ] at g
  cases q:F[i - own...*]? with
  |none=>rw[q] at g;cases g|some p=>
   rw[q] at k g;simp only[Option.map_some,Option.some.injEq] at k g;obtain⟨f1,E,f3⟩:=S.free.mem p (mM q);subst k;obtain⟨m,hn,hl⟩:=I.loc;let e4:σ[p.2]? =Y ↥v:=by
    cases r:σ[p.2]? with|none=>rw[r] at g;cases g|some o=>rw[r] at g;exact congrArg some g
   obtain⟨u,ru,l⟩:=hl p.2 p.1 v f1 e4 (.inr (.inl E));refine{u,ru, .inr {.inl (jQ kf f3 E), ?_}};rcases l with⟨l,_⟩|⟨_,c,ec,z⟩
   ·rw[E] at l;cases l
   ·refine{c,zGj ec (sM f3), ?_}
    obtain⟨Q,L,D⟩:=z;exact{Q,w _ _ (J _ _ L),D}
 ·refine wO (I.cell x c (d x c e)) λv Q L D=>?_
  exact{v,Q,w _ _ (J _ _ L),D}
 ·exact I.hok.fresh (by show s⁻¹<=h⁻¹;lia)
 ·show(gS own F σ)...*=(wM own F)...*
  simp[gS,wM]
theorem zAs{d:Scope}{own:C1}{F:E1}{fp:B9}{g j:V2}{A:St}{m:Hp}{ys:B3}{f:B7}{n:Nat}(I:Inv X pins σ H s)(M:∀b∈fp,zBz X pins H b)
  (v:g={s with heap:=s.heap.push {cls:=.type "list",data:=.seq ([]:B7).toArray}})
  (J:Inv (yY X own F d g⁻¹ g H (s⁻¹::fp)) [] A m j) (hz:ys...*<=V9) (Q:Vals ys f)
  (B:j.heap.get? s⁻¹=some {cls:=.type "list",data:=.seq f.toArray n}) (l:m s⁻¹=none):Inv X pins σ (upd m s⁻¹ (.lst ys)) j:=by
 let N:g⁻¹=s⁻¹+1:=by rw[v];exact tX ..
 let p:∀b o,s.heap.get? b=Y o->g.heap.get? b=Y o:=λb o e=>by rw[v];exact mO _ e
 let U:Un (frs X.stack) (s⁻¹::fp) H m g.heap j.heap:=J.base;let x:∀b o,s.heap.get? b=Y o->b≠s⁻¹:=λb o e=>nV (mW e);let r:∀b o,s.heap.get? b=Y o->b∉fp->b∉s⁻¹::fp:=λb o e h z=>(mG.mp z).elim (x b o e) h;let t:j.os=s.os:=by
  let q:j.os=g.os:=J.os;rw[q,v]
 refine I.call' (ch:=fp) t ⟨λb o e z a i=>U.keep b o (p b o e) z a (r b o e i),λb o e z a i=>U.slot b o (p b o e) z a (r b o e i),λb o e z i=>?_,λb o e i=>U.there b o (p b o e) (r b o e i),λb w e=>?_,λb o u e=>?_,λb L e=>?_⟩ (λb u e=>?_) J.bare λb a=>?_
 ·rw[zM (x b o e)]
  exact U.free b o (p b o e) z (r b o e i)
 ·let q:=U.tups b w e
  rw[zM (yK q l)];exact q
 ·let q:=U.frzs b o u e
  rw[zM (yK q l)];exact q
 ·obtain⟨k,q⟩:=U.tbls b L e
  exact{k,by rw[zM (yK q l)];exact q}
 ·by_cases a:b=s⁻¹
  ·subst a
   rw[zD] at e;cases e;exact⟨hz,f,n,Q,B⟩
  ·rw[zM a] at e
   exact(J.hok b u e).stay (λ_ _ _ q=>q) (λc q=>by rw[zM (yK q l)];exact q) λc w q=>by rw[zM (yK q l)];exact q
 ·refine zS (M b a) λ_ D _ E y f5=>?_
  exact⟨E,D,y,f5⟩
theorem zBk{f:Hp}{a:V2}{C:V1}{h':V5}{g:St}(I:Inv X pins σ H s)(d:s⁻¹<=C)(h:Inv X pins g f a)(k:f C=none)(i:Heap.SameBut C a.heap h'):Inv X pins g f {a with heap:=h'}:=by
 let q:=h.turned (it:=C) (t':=a.toks) (h':=h') (λb o l e=>(i.2 b l).trans e) k (rX (nR I.lt d)) (.inr (pB I.sz d)) (λx c e z=>?_) (λp j z=>?_)
 ·exact q
 ·obtain⟨v,u⟩:=I.cell x c e
  exact absurd (nR u.lt (by rw[z];exact d)) (tI _)
 ·exact absurd (nR (mW (I.pin p j).1) (by rw[z];exact d)) (tI _)
end
def PTs(X:Cx)(b:C5)(t:TT):Prop:=
 ∀(a:C7)(s:V2)(σ:St)(H:Hp)(Q:Bool->Hp->Prop),Inv X a σ H s->t σ H Q->
  V8 (S5 X.prog X.w) X.A (forIn b true λc r=>if r=true then do let ok <-isTrue c X.env (eval c X.env);pure (ForInStep.yield ok) else pure (ForInStep.yield r)) (TP X a σ Q) X.xe s
def zBw:TT:=λ_ H Q=>Q true H
theorem xT{X:Cx}:PTs X [] zBw:=λ_ _ _ H _ I h=>wpAny_tests_nil ⟨H,I,h⟩
theorem zRs{X:Cx}{c:Expr}{t:TT}(h:PT X c t):PTs X [c] t:=λa s σ H Q I q=>wpAny_tests_one (h a s σ H Q I q)
theorem zLs{prog:V3}{w:V4}{A:Around}{R:Result->V2->Prop}{s:V2}{g a iter:Expr}{e:C5}{d:Scope}{i:Pos}{it acc:V0}{b:S7}(I:Nat->V2->Prop)
  (k:∀n s,I n s->V8 (S5 prog w) A (pyNext it) (λr l=>match r with
   | none=>R (.ok .next) l|some v=>V8 (S5 prog w) A (letOwnedTupleGo a it v) (λ_ t=>V8 (S5 prog w) A (assign a b v) (λ_ u=>
     V8 (S5 prog w) A (forIn e true λc r=>if r=true then do let j <-isTrue c b (eval c b);pure (ForInStep.yield j) else pure (ForInStep.yield r)) (λj o=>
      if j=true then V8 (S5 prog w) A (eval g b) (λx p=>
       V8 (S5 prog w) A (call (.builtin "list.append") [acc,x]) (λ_ z=>∃m,m<n/\I m z) (λ_ _=>False) p) (λ_ _=>False) o
      else∃m,m<n/\I m o) (λ_ _=>False) u) (λ_ _=>False) t) (λ_ _=>False) l) (λ_ _=>False) s)
  (n:Nat) (h:I n s):codeAny (S5 prog w) A (.compLoop (.ListComp g [{a,iter,e,0}] d i) 0 it acc b) R s:=by
 refine codeAny_loop O I (λn s D=>?_) n h;show V8 _ A ((compTurn (.ListComp g [{a,iter,e,0}] d i) 0 it acc b).onRaise (λx=>do noteFrame x b;theTreesLotGoes x)) _ _ s;refine wpAny_noted ?_;rw[compTurn_list];refine mF (sF (mF (pL (k n s D) (λr l y=>?_) λ_ _ f=>f.elim)))
 cases r with
 |none=>exact nB y|some v=>
  refine mF (pL y (λ_ t H=>mF (pL H (λ_ u E=>mF (pL E (λj o q=>?_) λ_ _ f=>f.elim)) λ_ _ f=>f.elim)) λ_ _ f=>f.elim)
  cases j with|false=>exact nB ⟨O,q⟩|true=>exact mF (mF (pL q (λx p J=>mF (pL J (λ_ z B=>nB (nB ⟨O,B⟩)) λ_ _ f=>f.elim)) λ_ _ f=>f.elim))
def yGs(σ a:St):Prop:=a...*=σ...*/\∀(i:Nat) v,a[i]? =Y ↥v->σ[i]? =Y ↥v
theorem zYo{σ:St}{i:Nat}{v:Option V}(h:σ[i]? =Y none):yGs (σ.set i v) σ:=by
 refine{by simp,λj u e=>?_}
 by_cases a:i=j
 ·subst a;rw[h] at e;cases e
 ·rw[sR a];exact e
def wL(own:C1)(F:E1)(g:TG)(q:TT)(o:TE)(σ:St)(Q:VK)(J:It)(H1:Hp):Prop:=∃W:Nat->Nat->List V->Hp->Prop,(∃m,W 0 m [] H1)/\∀i m c a,W i m c a->c...*<=i->
 (J.stop i a/\i<=V9/\∀p,a p=none->Q (.ref p) (upd a p (.lst c)))\/
 (J.go i a/\i<V9/\∃N:List V->Hp->Prop,(∀d e,N d e->∃j,j<m/\W (i+1) j d e)/\
  ∀x k,J.yld i a x k->g x (gS own F σ) k λf n=>yGs f (gS own F σ)/\q f n λb h=>if b=true then o f h λy l=>N (c++ [y]) l else N c h)
def zFp(own:C1)(F:E1)(b:TI)(g:TG)(a:TT)(c:TE):TE:=λσ H Q=>b σ H λJ d=>wL own F g a c σ Q J d
section
variable{X:Cx}{scope:Scope}{own:C1}{F:E1}{elt tg iter:Expr}{ifs:C5}{pos:Pos}{wi:TI}{g:TG}{tt:TT}{te:TE}
abbrev zW(s:V2):V2:={s with heap:=s.heap.push {cls:=.type "list",data:=.seq ([]:B7).toArray}}
theorem zLt{t:C7}{σ:St}{H:Hp}{s:V2}{Q:VK}{RR:V1->Result->V2->Prop}{it:V1}{fp:B9}{tn:Nat->V5->Prop}{J:It}(S:CompSc X scope own F)(hc:X.calm=true)
  (hg:∀C s₃ H₃ ex,PG (yY X own F scope C s₃ H₃ ex) tg g) (ht:∀C s₃ H₃ ex,PTs (yY X own F scope C s₃ H₃ ex) ifs tt) (he:∀C s₃ H₃ ex,PE (yY X own F scope C s₃ H₃ ex) elt te)
  (I:Inv X t σ H s) (T:zGb X.prog X.w X.K tg J fp it tn) (st:tn 0 s.heap) (hf:∀b∈fp,zBz X t H b)
  (h:wL own F g tt te σ Q J H)
  (hR:∀C s4 H4,s⁻¹<=C->C≠s⁻¹->Inv X t σ H4 s4->Q (.ref s⁻¹) H4->H4 C=none->(∃m,s4.heap.Ns C m)->RR C (.ok .next) s4):
  V8 (S5 X.prog X.w) X.A (newList []) (λacc s₃=>V8 (S5 X.prog X.w) X.A (newFunctionEnv scope X.env.globals (clo X.env scope.names) [] X.env.qual none .none ↥X.env) (λD s₄=>
   codeAny (S5 X.prog X.w) X.A (.compStart (.ListComp elt [{tg,iter,ifs,0}] scope pos) 0 (.ref it) acc {D with scope:=relabel scope X.env}) (λr s'=>acc= .ref s⁻¹/\RR D.locals r s') s₄) X.xe s₃) X.xe s:=by
 obtain⟨W,⟨m0,w0⟩,ai⟩:=h;let M:∀b∈fp,b<s⁻¹:=λb c=>by
  obtain⟨o,e,_⟩:=T.obj _ _ st b c;exact mW e
 refine dE (wpAny_newFunctionEnv S.nc (by intro y hy;simp at hy) (λh₁ B E=>?_) S.kind);dsimp only at B E⊢;let ah:zW s={s with heap:=s.heap.push {cls:=.type "list",data:=.seq ([]:B7).toArray}}:=rfl;let au:(zW s)⁻¹=s⁻¹+1:=tX ..;let k3:∀b o,(zW s).heap.get? b=Y o->h₁.get? b=Y o:=λb o e=>E.extBut b o (nV (mW e)) (mO _ e);let k2:∀b o,s.heap.get? b=Y o->(zW s).heap.get? b=Y o:=λb o e=>mO _ e;let ak:h₁.Ns (zW s)⁻¹ (λ_=>none):=by simpa using B
 let I0:Inv (yY X own F scope (zW s)⁻¹ (zW s) H (s⁻¹::fp)) [] (gS own F σ) H {zW s with heap:=h₁,toks:=(zW s).toks+([]:List (Str×V0))...*}:=zHf I S hf M ah ak k3;let aa:h₁.get? s⁻¹=some {cls:=.type "list",data:=.seq ([]:B7).toArray 0}:=k3 _ _ (nQ _ O);let af:tn 0 h₁:=T.keep _ _ _ st λb _ o e=>k3 b o (k2 b o e);let ae:codeAny (S5 X.prog X.w) X.A (.compLoop (.ListComp elt [{tg,iter,ifs,0}] scope pos) 0 (.ref it) (.ref s⁻¹) (compEnvC scope (clo X.env scope.names) (zW s)⁻¹ X.env)) (RR (zW s)⁻¹) {zW s with heap:=h₁,toks:=(zW s).toks+([]:List (Str×V0))...*}:=by
  refine zLs (λn s'=>∃i ys f a k,Inv (yY X own F scope (zW s)⁻¹ (zW s) H (s⁻¹::fp)) [] (gS own F σ) f s'/\tn i s'.heap/\(∀b∈fp,f b=none)/\f s⁻¹=none/\
   Vals ys a/\s'.heap.get? s⁻¹=some {cls:=.type "list",data:=.seq a.toArray k}/\ys...*<=i/\W i n ys f) ?_ m0 {0,[],H,[],0,I0,af,λb c=>(hf b c).1,I.hok.fresh (mC _), .nil,aa,mC _,w0}
  intro n s5 z_;ext yA z_ i ys H5 a k z_;ext zS z_ I5 t5 ag ap v5 z_;ext oAA z_ o5 l5 w5;let ac:Inv (yY X own F scope (zW s)⁻¹ (zW s) H (s⁻¹::fp)) [(s⁻¹,{cls:=.type "list",data:=.seq a.toArray k})] (gS own F σ) H5 s5:=I5.pins_of λp j=>by
   let z:p=(s⁻¹,{cls:=.type "list",data:=.seq a.toArray k}):=by simpa using j
   subst z;obtain⟨x1,x2⟩:=I0.ok.exf s⁻¹ mE;exact{o5,ap,x1,I0.ok.exfs _ mE,λv z=>by cases z}
  let L:∀{f:Hp},(∀b∈fp,f b=none)->∀b∈fp,zBz (yY X own F scope (zW s)⁻¹ (zW s) H (s⁻¹::fp)) [(s⁻¹,{cls:=.type "list",data:=.seq a.toArray k})] f b:=λ{f} hn b c=>by
   obtain⟨x1,x2⟩:=I0.ok.exf b (mI _ c);refine{hn b c,x1,I0.ok.exfs b (mI _ c), .inl (mI _ c),x2,λp j=>?_};let z:p=(s⁻¹,{cls:=.type "list",data:=.seq a.toArray k}):=by
    let ao:p∈([]:C7)++ [(s⁻¹,{cls:=.type "list",data:=.seq a.toArray k})]:=j
    simpa using ao
   subst z;exact rX (M b c)
  rcases ai i n ys H5 w5 l5 with⟨stop,hz,q⟩|⟨go,hz,N,hN,step⟩
  ·refine thn (T.done (yY X own F scope (zW s)⁻¹ (zW s) H (s⁻¹::fp)) O O O hc i _ s5 _ H5 (λ_ _=>False) ac (L ag) t5 stop) λr s6 z_=>?_;obtain⟨hr,I6⟩:=z_
   subst hr;obtain⟨a6,b6,_⟩:=I6.pin (s⁻¹,{cls:=.type "list",data:=.seq a.toArray k}) (nN _ (mH.mpr O));let J6:=I6.pins_of (pins':=[]) (λp j=>nomatch j);let I7:=zAs I hf ah J6 (pB l5 hz) v5 a6 b6;let hC:H5 (zW s)⁻¹=none:=J6.free;refine hR _ s6 _ (show s⁻¹<=(zW s)⁻¹ by lia) (λz=>by let z':(zW s)⁻¹=s⁻¹:=z;lia) I7 (q _ b6) (by rw[zM (λz=>by let z':(zW s)⁻¹=s⁻¹:=z;lia)];exact hC) ?_;obtain⟨m,hn,_⟩:=J6.loc;exact⟨m,hn⟩
  ·refine thn (T.item (yY X own F scope (zW s)⁻¹ (zW s) H (s⁻¹::fp)) O O O hc i _ s5 _ H5 (λ_ _=>False) ac (L ag) t5 go) λr s6 z_=>?_;obtain⟨u,hr,h6⟩:=z_
   subst hr;refine thn h6 λ_ s7 z_=>?_;obtain⟨x,H7,I7,r7,y7,t7,aj⟩:=z_;let J7:=I7.pinned (L aj) (T.obj _ _ t7);refine thn (hg _ _ _ _ _ s7 _ H7 x u _ J7 r7 (step x H7 y7)) λ_ s8 z_=>?_;obtain⟨σ8,H8,I8,wk,q8⟩:=z_;refine thn (ht _ _ _ _ _ s8 σ8 H8 _ I8 q8) λok s9 z_=>?_;obtain⟨H9,I9,q9⟩:=z_;let A:∀{σ':St}{f:Hp}{s':V2},Inv (yY X own F scope (zW s)⁻¹ (zW s) H (s⁻¹::fp)) ([(s⁻¹,{cls:=.type "list",data:=.seq a.toArray k})]++zAb fp s7.heap) σ' f s'->
     tn (i+1) s'.heap/\(∀b∈fp,f b=none)/\f s⁻¹=none/\s'.heap.get? s⁻¹=some {cls:=.type "list",data:=.seq a.toArray k}:=λ{σ' f s'} J=>by
    let pa:=J.pin (s⁻¹,{cls:=.type "list",data:=.seq a.toArray k}) (nN _ (pG _ (mH.mpr O)));refine⟨T.keep _ _ _ t7 λb c o e=>(J.pin (b,o) (nN _ (nN _ (qR c e)))).1,λb c=>?_,pa.2.1,pa.1⟩;obtain⟨o,e,d⟩:=T.obj _ _ t7 b c;exact(J.pin (b,o) (nN _ (nN _ (qR c e)))).2.1
   cases ok with
   |false=>
    rw[mK nL] at q9⊢;obtain⟨m',hm,w9⟩:=hN _ _ q9;refine yZ (A I9) λa1 a2 a3 a4=>?_;exact{m',hm,i+1,ys,H9,a,k,(I9.pins_of (pins':=[]) (λp j=>nomatch j)).weak wk.1 wk.2,a1,a2,a3,v5,a4,tV l5,w9}
   |true=>
    rw[mN O] at q9⊢;refine thn (he _ _ _ _ _ s9 σ8 H9 _ I9 q9) λu' w z_=>?_;obtain⟨y,am,ab,aq,an⟩:=z_;obtain⟨m',hm,al⟩:=hN _ _ an;refine yZ (A ab) λa1 a2 a3 a4=>?_;let hl:=v5...*;refine aR pM ⟨_,a4,O⟩ PySem.F.entry_list_append (PySem.F.args_list_append_2 _ _) (dB s⁻¹ a.toArray k u' (by rw[nD];lia)) {a4, ?_};let q:=PySem.IsL.update a4 (λxs:Array V0=>xs.push u');let eq:a.toArray.push u'=(a++ [u']).toArray:=by simp
    rw[eq] at q;obtain⟨x1,x2⟩:=I0.ok.exf s⁻¹ mE;let ar:=(ab.pins_of (pins':=[]) (λp j=>nomatch j)).turned (it:=s⁻¹) (t':=w.toks) (h':=w.heap.update s⁻¹ (Obj.mapSeq (λxs:Array V0=>xs.push u'))) (λb o c e=>(nM w.heap _ (Ne.symm c)).trans e) a3 x1 (.inl mE) x2 (λp j=>absurd (show p∈([]:C7) from j) (by simp));refine{m',hm,i+1,ys++ [y],am,a++ [u'],_,ar.weak wk.1 wk.2, ?_,a2,a3,v5.append (.cons aq .nil),q,by rw[mL,mY];lia,al};exact T.keep _ _ _ a1 λb c o e=>(nM w.heap _ (rX (M b c))).trans e
 let l:=sG ae (R':=λr s'=>Value.ref s⁻¹= .ref s⁻¹/\RR (zW s)⁻¹ r s') λr s' z=>⟨O,z⟩;exact codeAny_compStart_list l (T.self X.A 0 _ _ _ af l)
theorem vI(S:CompSc X scope own F)(D:X.calm=true)(z:PI X tg iter wi)
  (o:∀C s₃ H₃ ex,PG (yY X own F scope C s₃ H₃ ex) tg g) (n:∀C s₃ H₃ ex,PTs (yY X own F scope C s₃ H₃ ex) ifs tt) (he:∀C s₃ H₃ ex,PE (yY X own F scope C s₃ H₃ ex) elt te)
  (l:∀x,foldedSetIterable iter X.env x=pure x:=by intro _;rfl):PE X (.ListComp elt [{tg,iter,ifs,0}] scope pos) (zFp own F wi g tt te):=by
 intro a s σ H Q I h;rw[eval_ListComp];refine bG (use:=none) O l (kA (I.freeCells S)) S.kind S.lc ?_;refine thn (z a s σ H _ I h) λv s1 h1=>thn h1 λw f z_=>?_;obtain⟨it,fp,tn,J,H2,e,d,T,b,t,q2⟩:=z_;subst e;refine thn (zLt (Q:=Q) (RR:=λC r j=>compPost (S5 X.prog X.w) X.A X.xe none (EP X a σ Q) (.ref f⁻¹) C r j) S D o n he d T b t q2 λC q p M c2 y N A k=>?_) λaa s3 L=>thn L λi q u=>sG u λr j ⟨B,E⟩=>?_
 ·obtain⟨m,hn⟩:=k
  exact{m,hn,λh' c=>{.ref f⁻¹,p,zBk d M y A c,O,N}}
 ·rw[B];exact E
theorem uE{i:Nat}{x:Str}{b d:Pos}(hN:X.N.Nodup)(p:X.N[i]? =Y x)(hx:Loc X.env.scope x)(S:CompSc X scope own F)(hc:X.calm=true)(hi:PI X tg iter wi)
  (M:∀C s₃ H₃ ex,PG (yY X own F scope C s₃ H₃ ex) tg g) (L:∀C s₃ H₃ ex,PTs (yY X own F scope C s₃ H₃ ex) ifs tt) (he:∀C s₃ H₃ ex,PE (yY X own F scope C s₃ H₃ ex) elt te)
  (k:S1 (.ListComp elt [{tg,iter,ifs,0}] scope pos) ↥(.Name x b) d.line X.env=pure true:=by rfl)
  (E:∀x,foldedSetIterable iter X.env x=pure x:=by intro _;rfl) (hf:X.fn x=true\/X.env.scope.names.lookup x=some .local:=by first | exact .inl O | exact .inr O | assumption):
  PS X (.Assign [.Name x b] (.ListComp elt [{tg,iter,ifs,0}] scope pos) d) (zOq (zFp own F wi g tt te) (qG i)):=by
 intro c s σ H D I h;rw[exec_Assign_Name_used x b _ _ k];refine mF (sF (mF ?_));refine mF ?_;refine pL (Q:=λ_ f=>SP X c D .next f) ?_ (λ_ f q=>nB (nB q)) λ_ _ z=>z;refine bG (use:=Y (assign (.Name x b) X.env)) O E (kA (I.freeCells S)) S.kind S.lc ?_;refine thn (hi c s σ H _ I h) λv s1 h1=>thn h1 λaa t z_=>?_;obtain⟨it,fp,tn,J,H2,e,j,T,l,f2,q2⟩:=z_;subst e;refine thn (zLt (Q:=λx H1=>qG i x σ H1 D.nx) (RR:=λC r f=>compPost (S5 X.prog X.w) X.A X.xe ↥(assign (.Name x b) X.env) (λ_ f=>SP X c D .next f) (.ref t⁻¹) C r f) S hc M L he j T l f2 q2 λC s4 N o c2 I4 q4 n4 A=>?_) λab s3 h3=>thn h3 λw s4 h4=>sG h4 λr f ⟨ea,hr⟩=>?_
 ·obtain⟨m,hn⟩:=A
  refine cZ (zDg I4 hN p hx (v:=.ref t⁻¹) O (λs5 y z_=>?_) hf);obtain⟨a,B,ha⟩:=z_;let aC:a≠C:=by
   rcases ha with z | z
   ·rw[z];exact nV (nR j.lt o)
   ·obtain⟨v,u⟩:=j.cell _ _ z
    exact nV (nR u.lt o)
  exact{m,hn.sameBut B (Ne.symm aC),λh' n=>{_,N,zBk j o y n4 n,q4}}
 ·rw[ea];exact hr
end
abbrev _root_.C6:=List (List Nat)
inductive T where
 |non | bl (b:Bool)| int (i:Int)| str (x:List Nat)| lst (ts:List T)| dic (ks:C6) (ts:List T)| tup (ts:List T)
mutual
def Rep(H:Hp):V->T->Prop
 |v, .non=>v= .non|v, .bl b=>v= .bl b|v, .int i=>v= .int i|v, .str x=>v= .str (tx x)|v, .lst ts=>∃a c,v= .ref a/\H a=Y (.lst c)/\Reps H c ts|v, .dic e ts=>∃a d,v= .ref a/\H a=Y (.dK d)/\d.map (·.1)=e.map (λk=>(Sum.inr (tx k):Key))/\Reps H (d.map (·.2)) ts|v, .tup ts=>∃a c,v= .ref a/\H a=Y (.tup c)/\Reps H c ts
def Reps(H:Hp):List V->List T->Prop
 |vs,[]=>vs= []|vs,t::ts=>∃v r,vs=v::r/\Rep H v t/\Reps H r ts
end
abbrev _root_.B0:=List T
mutual
theorem Rep.same{H g:Hp}(e:Same H g):∀(v:V)(t:T),Rep H v t->Rep g v t
 |_, .non,h=>h|_, .bl _,h=>h|_, .int _,h=>h|_, .str _,h=>h|_, .lst ts,⟨a,b,d,c,f⟩=>{a,b,d,e _ _ c,Reps.same e b ts f}|_, .dic k ts,⟨a,j,d,c,f,i⟩=>{a,j,d,e _ _ c,f,Reps.same e _ ts i}|_, .tup ts,⟨a,b,d,c,f⟩=>{a,b,d,e _ _ c,Reps.same e b ts f}
theorem Reps.same{H a:Hp}(e:Same H a):∀(vs:B3)(ts:B0),Reps H vs ts->Reps a vs ts
 |_,[],h=>h|_,t::ts,⟨v,r,c,b,d⟩=>{v,r,c,Rep.same e v t b,Reps.same e r ts d}
end
theorem Reps.snoc{H:Hp}{v:V}{t:T}(h:Rep H v t):∀{vs:B3}{ts:B0},Reps H vs ts->Reps H (vs++ [v]) (ts++ [t])
 |_,[],e=>by
  let f:_= []:=e;subst f;exact{v,[],O,h,O}
 |_,g::ts,⟨a,r,c,b,d⟩=>by
  subst c;exact{a,r++ [v],O,b,Reps.snoc h d}
theorem Reps.length{H:Hp}:∀{vs:B3}{ts:B0},Reps H vs ts->vs...*=ts...*
 |_,[],e=>by
  let c:_= []:=e;subst c;rfl
 |_,g::ts,⟨d,r,a,f,b⟩=>by
  subst a;simp[Reps.length b]
theorem Reps.get{H:Hp}:∀{vs:B3}{ts:B0}{i:Nat}{v:V},Reps H vs ts->vs[i]? =Y v->∃t,ts[i]? =Y t/\Rep H v t
 |_,[],i,v,e,h=>by
  let g:_= []:=e;subst g;simp at h
 |_,c::ts,0,v,⟨f,r,a,b,d⟩,h=>by
  subst a;simp at h;subst h;exact⟨c,O,b⟩
 |_,c::ts,i+1,v,⟨f,r,a,b,d⟩,h=>by
  subst a;obtain⟨t,e,q⟩:=Reps.get (i:=i) (v:=v) d (by simpa using h);exact{t,by simpa using e,q}
noncomputable def tyT:T->String
 |.non=>"NoneType"|.bl _=>"bool"|.int _=>"int"|.str _=>"str"|.lst _=>"list"|.dic _ _=>"dict"|.tup _=>"tuple"
theorem Rep.ty{H:Hp}{v:V}:∀{t:T},Rep H v t->tyS H v=Y (tyT t)
 |.non,h=>by cases (show v= .non from h);rfl|.bl b,h=>by cases (show v= .bl b from h);rfl|.int i,h=>by cases (show v= .int i from h);rfl|.str x,h=>by cases (show v= .str (tx x) from h);rfl|.lst ts,h=>by obtain⟨a,d,e,c,_⟩:=h;subst e;show(match H a with | some (.lst _)=>some "list" | some (.tup _)=>some "tuple" | some (.dK _)=>some "dict" | _=>none)=_;rw[c];rfl
 |.dic ks ts,h=>by obtain⟨a,d,e,c,_⟩:=h;subst e;show(match H a with | some (.lst _)=>some "list" | some (.tup _)=>some "tuple" | some (.dK _)=>some "dict" | _=>none)=_;rw[c];rfl
 |.tup ts,h=>by obtain⟨a,d,e,c,_⟩:=h;subst e;show(match H a with | some (.lst _)=>some "list" | some (.tup _)=>some "tuple" | some (.dK _)=>some "dict" | _=>none)=_;rw[c];rfl
noncomputable def letL:List Nat:=(List.range 26).map (· +97)
noncomputable def zGi:List Nat:=(List.range 10).map (· +48)
noncomputable def zCx:List Nat:=((List.range 95).map (· +32)).filter (· !=37)
noncomputable def xA(w:List Nat):Bool:=decide (1<=w...*)&& decide (w...*<=12)&& (match w with | []=>false | c::_=>decide (c∈letL))&& w.all (λc=>decide (c∈letL++zGi))
noncomputable def zDq(w:List Nat):Bool:=decide (w...*<=30)&& w.all (λc=>decide (c∈zCx))
mutual
def Nice:Nat->T->Prop
 |_, .non=>True|_, .bl _=>True|_, .int i=>-(10 ^ 12)<=i/\i<=10 ^ 12|_, .str x=>zDq x=true|d, .lst ts=>1<=d/\ts...*<=4/\NiceL (d - 1) ts|d, .dic a ts=>1<=d/\ts...*<=4/\a...*=ts...*/\a.Nodup/\(∀k∈a,xA k=true)/\NiceL (d - 1) ts|_, .tup _=>False
def NiceL:Nat->List T->Prop
 |_,[]=>True|d,t::ts=>Nice d t/\NiceL d ts
end
theorem NiceL.snoc{d:Nat}{t:T}(h:Nice d t):∀{ts:B0},NiceL d ts->NiceL d (ts++ [t])
 |[],_=>⟨h,trivial⟩|_::ts,⟨a,b⟩=>{a,NiceL.snoc h b}
theorem zF{H:Hp}{p:V1}(h:H p=none)(o:HO):Same H (upd H p o):=λb u q=>by rw[zM (yK q h)];exact q
section
variable{K:A6}{H:Hp}{Q:VK}{a b:V1}{xs ys:B3}
theorem yDq{c:Bool}(f:SqL K H a xs)(e:SqL K H b ys)(g:xs.all uS=true)(d:ys.all uS=true)(q:Q (.bl (if c then !zHn xs ys else zHn xs ys)) H):rEqL K c (.ref a) (.ref b) H Q:=
 ⟨a,b,xs,ys,O,O,f,e,g,d,q⟩
theorem yH{i:Int}{v:V}(d:SqL K H a xs)(c:atI xs i=Y v)(q:Q v H):yAl K (.ref a) (.int i) H Q:=⟨a,xs,i,v,O,O,d,c,q⟩
theorem qO{i:Int}{v:V}(d:SqT K H a xs)(c:atI xs i=Y v)(q:Q v H):yAh K (.ref a) (.int i) H Q:=⟨a,xs,i,v,O,O,d,c,q⟩
theorem zEa{z:Str}{i:Int}{c:Nat}(e:z...*<=V9)(d:atI (ts z) i=Y c)(q:Q (.str (tx [c])) H):rIxS (.str z) (.int i) H Q:=⟨z,i,c,O,O,e,d,q⟩
end
theorem zAi{α:Type}{xs:List α}{i:Int}(b:0<=i)(c:i<xs...*):∃v,atI xs i=Y v/\v∈xs:=by
 obtain⟨j,rfl⟩:=tK b;let a:j<xs...*:=by lia
 exact{xs[j],yI (by simp[a]),cF a}
theorem zXx{α:Type}{xs:List α}{i:Int}{d:α}(b:0<=i)(c:i<xs...*):atI xs i=Y (xs.getD i.toNat d):=by
 obtain⟨j,rfl⟩:=tK b;let a:j<xs...*:=by lia
 refine yI ?_;simp[List.getD,a]
theorem zEv{x:Str}{F:E1}{J:It}{n:Nat}{j:TT}{h:TE}{σ:St}{Q:VK}{H1:Hp}(Pv:Nat->List V->Hp->Prop)(v:n<=V9)(r:Pv 0 [] H1)(f:∀i a H,i<n->Pv i a H->J.go i H)
  (g:∀a H,Pv n a H->J.stop n H)
  (o:∀i a H y d,i<n->a...*<=i->Pv i a H->J.yld i H y d->j (Y y::F.map (λp=>(σ[p.2]?).join)) d λb H3=>if b=true then h (Y y::F.map (λp=>(σ[p.2]?).join)) H3 λz H4=>Pv (i+1) (a++ [z]) H4 else Pv (i+1) a H3)
  (l:∀a H,a...*<=n->Pv n a H->∀p,H p=none->Q (.ref p) (upd H p (.lst a))):wL [x] F (qG 0) j h σ Q J H1:=by
 refine{λi m a H=>m=n - i/\i<=n/\Pv i a H,{n,by simp,nJ _,r}, ?_};rintro i m a H ⟨rfl,w,p⟩ k
 by_cases c:i<n
 ·refine .inr {f i a H c p,∅,Pv (i+1),λs t q=>{n - (i+1),∅,O,c,q},λy d u=>?_}
  exact{zYo (i:=0) O,o i a H y d c k p u}
 ·let e:i=n:=by lia
  subst e;exact .inl {g a H p,v,l a H k p}
theorem uX{x:Str}{F:E1}{lo:Int}{n:Nat}{b:TE}{σ:St}{Q:VK}{H1:Hp}(Pv:Nat->List V->Hp->Prop)(j:n<=V9)(l:Pv 0 [] H1)
  (d:∀(i:Nat) a H,i<n->a...*<=i->Pv i a H->b (Y (.int (lo+i))::F.map (λp=>(σ[p.2]?).join)) H λz H4=>Pv (i+1) (a++ [z]) H4)
  (c:∀a H,a...*<=n->Pv n a H->∀p,H p=none->Q (.ref p) (upd H p (.lst a))):wL [x] F (qG 0) zBw b σ Q (Itr lo n) H1:=
 zEv Pv j l (λi _ _ h _=>h) (λ_ _ _=>mC _) (λi a H y m k g e f=>by
  obtain⟨rfl,rfl⟩:=f;exact d i a _ k g e) c
theorem zLl{x:Str}{F:E1}{w:Str}{e:TT}{d:TE}{σ:St}{Q:VK}{H1:Hp}(Pv:Nat->List V->Hp->Prop)(n:(ts w)...*<=V9)(o:Pv 0 [] H1)
  (j:∀i c a H,(ts w)[i]? =Y c->a...*<=i->Pv i a H->e (Y (.str (tx [c]))::F.map (λp=>(σ[p.2]?).join)) H λb H3=>if b=true then d (Y (.str (tx [c]))::F.map (λp=>(σ[p.2]?).join)) H3 λz H4=>Pv (i+1) (a++ [z]) H4 else Pv (i+1) a H3)
  (g:∀a H,a...*<=(ts w)...*->Pv (ts w)...* a H->∀p,H p=none->Q (.ref p) (upd H p (.lst a))):wL [x] F (qG 0) e d σ Q (Its w) H1:=
 zEv Pv n o (λi _ _ h _=>h) (λ_ _ _=>mC _) (λi a H y q r m k l=>by
  obtain⟨rfl,c,f,rfl⟩:=l;exact j i c a _ f m k) g
section
variable{X:Cx}{x:Str}{pos:Pos}
theorem yCx{z:Str}(a:Gl X x)(h:∃t,X.mg x=Y (.str z t))(b:(x==("__debug__" :Str))=false:=by decide):PE X (.Name x pos) (tC (.str z)):=by
 obtain⟨t,h⟩:=h;exact zQj a h ⟨t,O⟩ b
theorem zGv{z:Int}(a:Gl X x)(h:∃t,X.mg x=Y (.int z t))(b:(x==("__debug__" :Str))=false:=by decide):PE X (.Name x pos) (tC (.int z)):=by
 obtain⟨t,h⟩:=h;exact zQj a h ⟨t,O⟩ b
end
theorem yEi{CX:CXT}{P:V3}{w:V4}{K:A6}{e:C8}{base:V5}{N:C1}{c:Str}{b:Scope}{f:V1}{d:V0}{A:Around}{a:List S7}{s:V2}{H:Hp}{E:XK}:(zCj CX P w K e base N c b f d A a s H E).K=K:=rfl
theorem nox_K{X:Cx}:X.nox.K=X.K:=rfl
theorem zYd{X:Cx}{own:C1}{F:E1}{a:Scope}{C:V1}{d:V2}{b:Hp}{c:B9}:(yY X own F a C d b c).K=X.K:=rfl
theorem zTl(a:List Int):(a.map V.int).all uS=true:=by
 rw[dI];exact rH.mpr λ_ _=>O
theorem zVz(xs:B3):zHn xs []=xs.isEmpty:=by cases xs<;>rfl
end L2
namespace L2
theorem zUz:Int.natAbs 10=10:=rfl
end L2
namespace L2
open PySem PySem.Spec PyProof.Rows
def zTd(g:TG)(tb:TS)(D:gO)(σ:St)(J:It)(H1:Hp):Prop:=∃W:Nat->Nat->St->Hp->Prop,(∃m,W 0 m σ H1)/\∀i m σ H,W i m σ H->
 (J.stop i H/\D.nx σ H)\/(J.go i H/\∃N:St->Hp->Prop,(∀c a,N c a->∃b,b<m/\W (i+1) b c a)/\∀x a,J.yld i H x a->g x σ a λe d=>tb {D with nx:=N,ct:=N,bk:=D.nx} e d)
theorem zZs(a:TI)(g:TG)(tb:TS)(D:gO)(σ:St)(H:Hp):tFor a g tb D σ H=a σ H λJ H1=>zTd g tb D σ J H1:=rfl
theorem qL{lo:Int}{n:Nat}{g:TG}{tb:TS}{D:gO}{σ:St}{H:Hp}(Pv:Nat->St->Hp->Prop)(b:Pv 0 σ H)
  (a:∀i σ H,i<n->Pv i σ H->g (.int (lo+i)) σ H λσ2 H2=>tb {D with nx:=Pv (i+1),ct:=Pv (i+1),bk:=D.nx} σ2 H2) (c:∀σ H,Pv n σ H->D.nx σ H):zTd g tb D σ (Itr lo n) H:=zSu Pv b a c
theorem gP{K:A6}{a:V1}{xs:B3}{g:TG}{tb:TS}{D:gO}{σ:St}{H:Hp}(Pv:Nat->St->Hp->Prop)(d:Pv 0 σ H)(c:∀i σ H,i<=xs...*->Pv i σ H->SqL K H a xs)
  (b:∀i x σ H,xs[i]? =Y x->Pv i σ H->g x σ H λσ2 H2=>tb {D with nx:=Pv (i+1),ct:=Pv (i+1),bk:=D.nx} σ2 H2) (e:∀σ H,Pv xs...* σ H->D.nx σ H):zTd g tb D σ (Itl K a) H:=zYe Pv d c b e
section
variable{X:Cx}
theorem wD:wR X (.type "int") (λxs H Q=>∃k,xs= [.bl k]/\Q (.int (if k then 1 else 0)) H):=λa s σ H xs b Q I r h=>zSq a s σ H xs b Q I r (.inr h)
theorem zZ:wR X (.builtin "len") (λxs H Q=>∃p,xs= [.ref p]/\∃ys,SqL X.K H p ys/\Q (.int ys...*) H):=λa s σ H xs b Q I r ⟨p,e,ys,h,q⟩=>zCm a s σ H xs b Q I r {p,ys,e, .inl h,q}
end
abbrev nK(k:List Nat):Key:=Sum.inr (tx k)
theorem zAe{a b:List Nat}(h:nK a=nK b):a=b:=by
 let e:tx a=tx b:=Sum.inr.inj h;rw[<-wG a,e,wG]
theorem Reps.repl{H:Hp}{k:Key}{v:V}{t:T}(i:Rep H v t):∀{ps:D7}{ts:B0},Reps H (ps.map (·.2)) ts->∃a,Reps H ((ps.map λkv=>if kv.1=k then(kv.1,v) else kv).map (·.2)) a/\a...*=ts...*/\∀u∈a,u∈ts\/u=t
 |[],ts,h=>{ts,h,O,λu o=>.inl o}|p::ps,[],h=>by
  let j:(p::ps).map (·.2)= []:=h;cases j
 |p::ps,u::ts,⟨m,r,e,w,s⟩=>by
  let x:p.2::ps.map (·.2)=m::r:=e;injection x with l n;subst l n;obtain⟨a,c,f,d⟩:=Reps.repl i s
  by_cases g:p.1=k
  ·refine{t::a,{v,_, ?_,i,c},by simp[f],λz b=>?_}
   ·rw[nO,mN g,nO]
   ·rcases mG.mp b with q | q
    ·exact .inr q
    ·exact(d z q).imp (mI _) id
  ·refine{u::a,{p.2,_, ?_,w,c},by simp[f],λz b=>?_}
   ·rw[nO,mK g,nO]
   ·rcases mG.mp b with q | q
    ·exact .inl (by rw[q];exact mE)
    ·exact(d z q).imp (mI _) id
theorem yBy{H:Hp}{ps:D7}{ks:C6}{ts:B0}{n:List Nat}{v:V}{t:T}(c:ps.map (·.1)=ks.map nK)(f:Reps H (ps.map (·.2)) ts)(g:ks.Nodup)(i:Rep H v t):
  ∃(a:C6)(b:B0),(jK ps (nK n) v).map (·.1)=a.map nK/\Reps H ((jK ps (nK n) v).map (·.2)) b/\a.Nodup/\(∀k∈a,k∈ks\/k=n)/\(∀u∈b,u∈ts\/u=t)/\a...*<=ks...*+1:=by
 unfold jK
 by_cases h:(ps.any λj=>decide (j.1=nK n))=true
 ·rw[mN h]
  refine xE (Reps.repl (k:=nK n) i f) λb l w r=>?_;refine{ks,b, ?_,l,g,λk c=>.inl c,r,pV _};rw[<-c,sH];apply rL;intro p _;show(if p.1=nK n then(p.1,v) else p).1=p.1;split<;>rfl
 ·rw[mK h]
  refine{ks++ [n],ts++ [t],by rw[mU,c,mU];rfl,by rw[mU];exact Reps.snoc i f, ?_,λk c=>?_,λu s=>?_,by simp}
  ·refine zQp g λm=>h (dH.mpr ?_)
   let d:nK n∈ps.map (·.1):=by rw[c];exact nS.mpr ⟨n,m,O⟩
   obtain⟨p,o,e⟩:=nS.mp d;exact{p,o,nF e}
  ·rcases mZ.mp c with q | q
   ·exact .inl q
   ·exact .inr (mH.mp q)
  ·rcases mZ.mp s with q | q
   ·exact .inl q
   ·exact .inr (mH.mp q)
theorem NiceL_iff{d:Nat}:∀{ts:B0},NiceL d ts↔∀t∈ts,Nice d t
 |[]=>{λ_ _ h=>(nomatch h),λ_=>trivial}|u::ts=>by
  show(Nice d u/\NiceL d ts)↔_;rw[NiceL_iff (ts:=ts)];exact{λh t a=>(mG.mp a).elim (λe=>e▸h.1) (h.2 t),λh=>{h u mE,λt a=>h t (mI _ a)}}
theorem zJd:ts (A5 "abcdefghijklmnopqrstuvwxyz0123456789")=letL++zGi:=by decide+kernel
theorem yHa:ts (A5 "abcdefghijklmnopqrstuvwxyz")=letL:=by decide+kernel
theorem ts_a:ts (A5 "a")= [97]:=by decide+kernel
theorem ts_q:ts (A5 "'")= [39]:=by decide+kernel
theorem zZl:A5 "" =tx []:=by decide+kernel
theorem zFa(c k:Nat):(List.replicate k [c]).flatten=List.replicate k c:=by
 induction k with|zero=>rfl|succ k a=>rw[aD,bV,a,aD];rfl
theorem zIw{w:List Nat}(d:w...*<=12)(e:∃c r,w=c::r/\c∈letL)(b:∀c∈w,c∈letL++zGi):xA w=true:=by
 ext wO e c r a f;subst a;unfold xA;simp only[nH,nX,rH];exact{{{by simp,d},f},b}
theorem zIm{w:List Nat}(b:w...*<=30)(a:∀c∈w,c∈zCx):zDq w=true:=by
 unfold zDq;simp only[nH,nX,rH];exact⟨b,a⟩
theorem yDu{i:Int}(a:0<=i)(b:i<36):∃c,atI (letL++zGi) i=Y c/\c∈letL++zGi:=zAi a (by show i<((36:Nat):Int);lia)
theorem zWf{i:Int}(d:0<=i)(e:i<26):∃c,atI (letL++zGi) i=Y c/\c∈letL:=by
 obtain⟨j,rfl⟩:=tK d;let b:j<26:=by lia
 let a:j<letL...*:=b;refine{letL[j],yI (by rw[nY a];simp[a]),cF a}
theorem zPl:97∈letL:=by decide
theorem zCp{c:Nat}(h:c∈letL):c∈letL++zGi:=pG _ h
end L2
namespace L2
end L2
namespace L2
open PySem PySem.Spec PyProof.Rows
theorem yEc:A5 " !\"#$&'()*+,-./0123456789:;<=>?@ABCDEFGHIJKLMNOPQRSTUVWXYZ[\\]^_`" ++A5 "abcdefghijklmnopqrstuvwxyz{|}~" =tx zCx:=by decide+kernel
theorem yGy:39∈zCx:=by decide
theorem zWz{i:Int}(a:0<=i)(b:i<94):∃c,atI zCx i=Y c/\c∈zCx:=zAi a (by show i<((94:Nat):Int);lia)
theorem zMl(cs:List Nat):((cs.map λc=>tx [c]).map ts).flatten=cs:=by
 induction cs with|nil=>rfl|cons d r a=>simp only[nO,bV,a,wG];rfl
theorem HOk.sim{P:V3}{w:V4}{H f:Hp}{h:V5}(l:HOk P w H h)(j:∀b a,H b=Y (.own a)->f b=Y (.own a))(k:∀b d,H b=Y (.tup d)->f b=Y (.tup d))
  (m:∀b u,f b=Y u->H b=Y u\/(∃o,H b=Y (.frz o u))\/∃o i,u= .frz o i/\H b=Y i/\h.get? b=Y o):HOk P w f h:=λb u e=>by
 rcases m b u e with q |⟨o,q⟩|⟨o,i,rfl,q,g⟩
 ·exact(l b u q).stay (λ_ _ _ z=>z) (λc z=>j c b z) λc d z=>k c d z
 ·obtain⟨_,z⟩:=(show ObjOk P w H h b (.frz o u) from l b _ q)
  exact z.stay (λ_ _ _ z=>z) (λc z=>j c b z) λc d z=>k c d z
 ·exact{g,(l b i q).stay (λ_ _ _ z=>z) (λc z=>j c b z) λc d z=>k c d z}
section
variable{X:Cx}{pins:C7}{σ σ':St}{H H':Hp}{s s':V2}
theorem Inv.sim(I:Inv X pins σ H s)(h:∀b,H b=none->H' b=none)(j:∀b a,H b=Y (.own a)->H' b=Y (.own a))(i:∀b f,H b=Y (.tup f)->H' b=Y (.tup f))
  (v:∀b g,H b=Y (.tbl g)->H' b=Y (.tbl g)) (r:∀b o u,X.H₀ b=Y (.frz o u)->H' b=Y (.frz o u))
  (k:∀b u,H' b=Y u->H b=Y u\/(∃o,H b=Y (.frz o u))\/∃o u',u= .frz o u'/\H b=Y u'/\s.heap.get? b=Y o):Inv X pins σ H' s:=
 {I.ok,I.os,I.bare,{I.base.keep,I.base.slot,λb o e n t=>h b (I.base.free b o e n t),I.base.there,λb f e=>i b f (I.base.tups b f e),r,λb g e=>by
  obtain⟨m,q⟩:=I.base.tbls b g e;exact{m,v b _ q}},I.loc,I.cell,h _ I.free,λx c e=>h _ (I.freeC x c e),λp l=>by
  refine wY (I.pin p l) λa b c d e=>?_;exact{a,h _ b,c,d,e},I.hok.sim j i k,I.len}
theorem Inv.freeze{d:V1}{kvs:D7}{o:Obj}(I:Inv X pins σ H s)(h:H d=Y (.dK kvs))(i:s.heap.get? d=Y o):Inv X pins σ (upd H d (.frz o (.dK kvs))) s:=by
 let c:∀b u,H b=u->u≠Y (.dK kvs)->b≠d:=λb u e n z=>by subst z;exact n (e.symm.trans h)
 refine I.sim (λb e=>by rw[zM (c b _ e (by intro z;cases z))];exact e) (λb a e=>by rw[zM (c b _ e (by intro z;cases z))];exact e) (λb a e=>by rw[zM (c b _ e (by intro z;cases z))];exact e)
  (λb a e=>by rw[zM (c b _ e (by intro z;cases z))];exact e) (λb j u e=>?_) λb u e=>?_
 ·let f:=I.base.frzs b j u e
  rw[zM (c b _ f (by intro z;cases z))];exact f
 ·by_cases g:b=d
  ·subst g
   rw[zD] at e;cases e;exact .inr (.inr ⟨o,_,O,h,i⟩)
  ·rw[zM g] at e;exact .inl e
def thaw(H H':Hp):Hp:=λb=>match H b with
 |some (.frz _ _)=>H' b|_=>match H' b with
  |some (.frz _ u)=>Y u|y=>y
theorem zLq{b:V1}{o:Obj}{u:HO}(h:H b=Y (.frz o u)):thaw H H' b=H' b:=by unfold thaw;rw[h]
theorem zIx{b:V1}(h:H' b=none):thaw H H' b=none:=by unfold thaw;rw[h];split<;>rfl
theorem wP{b:V1}{u:HO}(h:H' b=Y u)(n:∀o v,u≠ .frz o v):thaw H H' b=Y u:=by
 unfold thaw;rw[h];split
 ·rfl
 ·cases u<;>first | rfl | exact absurd O (n _ _)
theorem zRp{b:V1}{o:Obj}{u:HO}(h:H' b=Y (.frz o u))(n:∀o v,H b≠Y (.frz o v)):thaw H H' b=Y u:=by
 unfold thaw;rw[h]
 cases e:H b with
 |none=>rfl|some v=>cases v<;>first | rfl | exact absurd e (n _ _)
theorem zYl{b:V1}{u:HO}(h:thaw H H' b=Y u):H' b=Y u\/∃o,H' b=Y (.frz o u):=by
 unfold thaw at h;split at h
 ·exact .inl h
 ·split at h
  ·rename_i o v e
   cases h;exact .inr ⟨_,e⟩
  ·exact .inl h
theorem Inv.thaw(I:Inv X pins σ H s)(J:Inv X pins σ' H' s'):Inv X pins σ' (thaw H H') s':=
 J.sim (λb e=>zIx e) (λb a e=>wP e (by intro o v z;cases z)) (λb a e=>wP e (by intro o v z;cases z)) (λb a e=>wP e (by intro o v z;cases z))
  (λb o u e=>by rw[zLq (I.base.frzs b o u e)];exact J.base.frzs b o u e) λb u e=>(zYl e).imp id .inl
theorem zDu{H H':Hp}(h:∀b u,H b=Y u->H' b=Y u\/((∃o,H' b=Y (.frz o u))/\∀o v,u≠ .frz o v)):Same H (L2.thaw H H'):=λb u e=>by
 rcases h b u e with q |⟨⟨o,q⟩,n⟩
 ·cases u with|frz o v=>rw[zLq e];exact q|_=>exact wP q (by intro o v z;cases z)
 ·refine zRp q λa v z=>?_
  rw[e] at z;cases z;exact n _ _ O
def zVm(t:TE):TE:=λσ H Q=>t σ H λv H'=>Q v (thaw H H')
theorem zEy{e:Expr}{t:TE}(h:PE X e t):PE X e (zVm t):=by
 intro pins s σ H Q I q;refine thn (h pins s σ H _ I q) λu c z_=>?_;obtain⟨v,d,a,r,b⟩:=z_;exact {v,_,I.thaw a,r,b}
end
theorem KV.get{κ:Type}:∀{kvs:List (κ×V)}{vs:List (κ×V0)}{i:Nat}{kv:κ×V},KV kvs vs->kvs[i]? =Y kv->∃q,vs[i]? =Y q/\kv.1=q.1/\RelV kv.2 q.2
 |_,_,_,_, .nil,e=>by simp at e|_,_,0,_, .cons r _,e=>by simp at e;subst e;exact⟨_,O,r⟩|_,_,i+1,x, .cons _ t,e=>by
  obtain⟨u,b,a⟩:=KV.get (i:=i) (kv:=x) t (by simpa using e);exact{u,by simpa using b,a}
theorem zJj{P:V3}{w:V4}{k:Key}{u:V0}(h:(yU P w).is k u=true):RelV (kV k) u:=by
 rcases xU (show zFq k u=true from h) with⟨i,t,rfl,rfl⟩|⟨x,t,rfl,rfl⟩
 ·exact⟨t,O⟩
 ·exact⟨t,O⟩
theorem zAo{P:V3}{w:V4}{H:Hp}{h:V5}{d:V1}{o:Obj}{kvs:D7}{i:Array DictEntry}{ep:Nat}(n:HOk P w H h)(e:H d=Y (.frz o (.dK kvs)))(j:o.data= .dict i ep):
  ∃vs,KV kvs vs/\h.DictAt (yU P w) d vs ep/\(d==A4)=false/\kvs...*<=V9:=by
 obtain⟨g,z,m,vs,b,p,l,k,f,c,a,r⟩:=(show ObjOk P w H h d (.frz o (.dK kvs)) from n d _ e);rw[g] at f;cases f;rw[j] at a;cases a;exact{vs,b,⟨o,i,g,c,j,r⟩,m,z}
def Itd(d:V1)(o:Obj)(kvs:D7):It:=
 ⟨λi H=>i<kvs...*/\H d=Y (.frz o (.dK kvs)),λi H y b=>b=H/\∃a,kvs[i]? =Y a/\y=kV a.1,λi H=>kvs...*<=i/\H d=Y (.frz o (.dK kvs))⟩
theorem zTo{P:V3}{w:V4}{K:A6}{tg:Expr}(d it:V1)(o:Obj)(kvs:D7):zGb P w K tg (Itd d o kvs) [it] it (λi h=>∃l ep,o.data= .dict l ep/\h.IsKeyIter it d i kvs...* ep) where
 mem:=by simp
 obj:=λi h st b n=>by
  obtain⟨l,ep,_,u,e,c,dd⟩:=st;let e':b=it:=by simpa using n
  subst e';exact{u,e,λv z=>by rw[dd] at z;cases z}
 keep:=λi h A st k=>by
  ext wO st l ep a st;exact{l,ep,a,st.at λu e=>k it (by simp) u e}
 item:=by
  intro X J L B hc i j s σ H E I y st m;subst J L B;ext wO st l ep g st;obtain⟨hi,m⟩:=m;refine vN (zAo I.hok m g) λvs f D _ _=>?_;refine zS (y it (by simp)) λM f1 f2 f3 f4 Q=>?_;let x:=f...*;obtain⟨t,p⟩:∃t,kvs[i]? =Y t:={kvs[i],by simp[hi]};refine xE (KV.get f p) λq hq N ab=>?_;rw[x] at st;refine wpAny_pyNext_dict_item (k:=q.1) (v:=q.2) st D hq λaa A hk r sb=>?_;let I1:Inv X j σ H {s with heap:=A}:=I.turned (t':=s.toks) (λb o n e=>(sb.2 b n).trans e) M f1 f3 f4 Q;refine xE (id r) λu e c dd=>?_;exact{aa,O,zMu (s:={s with heap:=A}) e c dd ∎ {kV t.1,H,I1,by rw[N];exact zJj hk,⟨O,t,p,O⟩,{l,ep,g,by rw[x];exact r},λb n=>(y b n).1}}
 done:=by
  intro X J L B hc i j s σ H E I y st m;subst J L B;ext wO st l ep g st;obtain⟨hi,m⟩:=m;refine vN (zAo I.hok m g) λvs f D _ _=>?_;refine zS (y it (by simp)) λM f1 f2 f3 f4 Q=>?_;let x:=f...*;rw[x] at st;exact wpAny_pyNext_dict_end (I.ok.hd hc) st D (by simp;lia) λA eb=>{O,I.turned (t':=s.toks) (λb o n e=>eb b o n e) M f1 f3 f4 Q}
 self:=λ_ _ _ _ _ st h=>by
  ext wO st l ep _ st;exact wpAny_pyIter_keyiter st h
def zWc(c:TE):TI:=λσ H R=>c σ H λx b=>∃d a,x= .ref d/\((b d=Y (.dK a)/\∀o,R (Itd d o a) (upd b d (.frz o (.dK a))))\/∃o,b d=Y (.frz o (.dK a))/\R (Itd d o a) b)
section
variable{X:Cx}
theorem zJa{J l:Expr}{E:TE}(N:PE X l E):PI X J l (zWc E):=by
 intro a s σ H R I h;refine thn (N a s σ H _ I h) λv i z_=>?_;obtain⟨x,H1,A,M,q1⟩:=z_;ext wO q1 d f w q;subst w;cases M;let n:∀o k,Inv X a σ k i->k d=Y (.frz o (.dK f))->R (Itd d o f) k->V8 (S5 X.prog X.w) X.A (pyIter (.ref d)) (PIE X a σ J R) X.xe i:=λo k p e q=>by
  obtain⟨g,z,D,B,m,o',y,u,t,c,j,r⟩:=(show ObjOk X.prog X.w k i.heap d (.frz o (.dK f)) from p.hok d _ e);rw[g] at t;cases t;let L:i.heap.DictAt (yU X.prog X.w) d B u:=⟨o,y,g,c,j,r⟩;refine wpAny_pyIter_dict D L ?_;refine⟨i⁻¹,[i⁻¹],_,_,k,O,p.kept (t':=i.toks) λb o e=>mO _ e,zTo d _ o f,⟨y,u,j,_,nQ _ rfl,rfl,by rw[m...*];rfl⟩,λb Q=>?_,q⟩;let e:b=i⁻¹:=by simpa using Q
  subst e;exact p.fpOk (mC _) (p.hok.fresh (mC _))
 rcases q with⟨e,q⟩|⟨o,e,q⟩
 ·obtain⟨z,D,B,m,o,y,u,t,_⟩:=(show ObjOk X.prog X.w H1 i.heap d (.dK f) from A.hok d _ e)
  exact n o _ (A.freeze e t) zD (q o)
 ·exact n o _ A e q
theorem zDh{x:Str}{F:E1}{d:V1}{o:Obj}{kvs:D7}{g:TT}{f:TE}{σ:St}{Q:VK}{H1:Hp}(Pv:Nat->List V->Hp->Prop)(q:kvs...*<=V9)(r:Pv 0 [] H1)(hz:∀i a H,Pv i a H->H d=Y (.frz o (.dK kvs)))
  (k:∀i c a H,kvs[i]? =Y c->a...*<=i->Pv i a H->g (Y (kV c.1)::F.map (λp=>(σ[p.2]?).join)) H λb H3=>if b=true then f (Y (kV c.1)::F.map (λp=>(σ[p.2]?).join)) H3 λz H4=>Pv (i+1) (a++ [z]) H4 else Pv (i+1) a H3)
  (j:∀a H,a...*<=kvs...*->Pv kvs...* a H->∀p,H p=none->Q (.ref p) (upd H p (.lst a))):wL [x] F (qG 0) g f σ Q (Itd d o kvs) H1:=
 zEv Pv q r (λi a H h p=>{h,hz i a H p}) (λa H p=>{mC _,hz _ a H p}) (λi a H y s t n l m=>by
  obtain⟨rfl,c,e,rfl⟩:=m;exact k i c a _ e n l) j
theorem jX{K:A6}{x:Str}{F:E1}{a:V1}{xs:B3}{f:TT}{d:TE}{σ:St}{Q:VK}{H1:Hp}(Pv:Nat->List V->Hp->Prop)(n:xs...*<=V9)(q:Pv 0 [] H1)(hz:∀i c H,i<=xs...*->Pv i c H->SqL K H a xs)
  (j:∀i v c H,xs[i]? =Y v->c...*<=i->Pv i c H->f (Y v::F.map (λp=>(σ[p.2]?).join)) H λb H3=>if b=true then d (Y v::F.map (λp=>(σ[p.2]?).join)) H3 λz H4=>Pv (i+1) (c++ [z]) H4 else Pv (i+1) c H3)
  (g:∀c H,c...*<=xs...*->Pv xs...* c H->∀p,H p=none->Q (.ref p) (upd H p (.lst c))):wL [x] F (qG 0) f d σ Q (Itl K a) H1:=
 zEv Pv n q (λi c H h p=>{xs,xs[i],hz i c H (tY h) p,by simp[h]}) (λc H p=>{xs,hz _ c H (mC _) p,mC _}) (λi c H y r o l e k=>by
  obtain⟨rfl,m⟩:=k;exact j i y c _ (m xs (hz i c _ (tY o) e)) l e) g
noncomputable def zMd(p d:V1):HO:=.ext λh=>h.IsValuesView p d
theorem zRu{κ:Type}:∀{kvs:List (κ×V)}{vs:List (κ×V0)},KV kvs vs->Vals (kvs.map (·.2)) (vs.map (·.2))
 |_,_, .nil=>.nil|_,_, .cons r t=>.cons r.2 (zRu t)
def zXu:V->List V->Hp->VK->Prop:=λx b H Q=>∃d a,x= .ref d/\b= []/\Rd H d (.dK a)/\∀p,H p=none->Q (.ref p) (upd H p (zMd p d))
theorem zTp:MtR X "dict.values" zXu:=by
 intro f s σ H x u v w Q I m n h;ext zV h d t c a p q;subst c a;cases m;cases n;obtain⟨z,j,l,i,g⟩:=kW I.hok p;refine call_meetsIn PySem.F.slot_dict_values g.typeIs PySem.F.entry_dict_values (PySem.F.args_dict_values_1 _) (meets_dict_values (yU X.prog X.w) d j) {⟨l,g⟩, ?_};refine{.ref s⁻¹,_,I.laid (t':=s.toks) (λb o e=>mO _ e) (mC _) (o:=zMd s⁻¹ d) ?_,O,q _ (I.hok.fresh (mC _))};exact⟨{_,nQ _ O,O,O},{_,nQ _ O},λA y ⟨o,e,r⟩ k=>⟨o,k o e,r⟩⟩
theorem zLb(A:X.calm=true):wR X (.type "list") (λxs H Q=>∃p d kvs,xs= [.ref p]/\H p=Y (zMd p d)/\Rd H d (.dK kvs)/\∀l,H l=none->Q (.ref l) (upd H l (.lst (kvs.map (·.2))))):=by
 intro i s σ H xs us Q I r h;ext yB h p d kvs f B J;ext oA J E q;subst f;obtain⟨u,rfl,D⟩:=jP r;cases D;obtain⟨z,M,g,b,L⟩:=kW I.hok E;obtain⟨y,_⟩:=(show ObjOk X.prog X.w H s.heap p (zMd p d) from I.hok p _ B);obtain⟨m,c⟩:=L.dictAt;let N:=b...*;refine W.kdl_call (W.kdl_values (knd:=yU X.prog X.w) (kvs:=g) (ep:=m)) (I.ok.hd A) ⟨y,c⟩ ∅ λh' t a w x n k=>?_;refine{.ref s⁻¹,_,I.laid (t':=t) x (mC _) (o:=.lst (kvs.map (·.2))) ?_,O,q _ (I.hok.fresh (mC _))};let e:a.toList=g.map (·.2):=W.kdl_vals_eq a.toList (by rw[tM];exact k.1) (λj v e=>k.2 j v (by rw[<-sX];exact e));exact{by rw[mJ];exact z,a.toList,w,by rw[e];exact zRu b,by simpa using n}
end
theorem zJm:typeLookup (.type "list") "keys" =pure none:=am_miss_of_fast (by decide+kernel)
theorem zBe:entryFor table "dict.update.loop" =some Builtin.«dict.update.loop»:=entryFor_of_tree (by kernel_rfl)
theorem qX:plainId "dict.update.loop" =true:=by decide+kernel
section
variable{prog:V3}{w:V4}{A:Around}{E:C9}
theorem zUc{s:V2}{a:V1}{xs:Array V0}{k:Nat}{c:Str}{Q:Option V0->V2->Prop}
  (p:s.heap.get? a=some {cls:=.type "list",dict:=none,data:=.seq xs k,slots:=#[]}) (f:typeLookup (.type "list") c=pure none) (i:(["__module__","__name__","__qualname__","__doc__","__annotations__"]:C1).contains c=false) (r:A.handled=none)
  (h:∀m n,(∀b o,s.heap.get? b=Y o->m.get? b=Y o)->Q none {s with heap:=m,toks:=n}) (hsz:c...*+100<=V9:=by size_fits):
  V8 (S5 prog w) A (getAttr? (.ref a) c) Q E s:=by
 obtain⟨t,g,d,n,os⟩:=s;let q:∀j,(⟨t,g,d,j,os⟩:V2).TypeIs (.ref a) "list":=λ_=>⟨_,p,O⟩;let v:=sub_AttributeError;let x:=F.slot_list_getattribute.lookup;let u:=F.slot_list_getattribute.bind (.ref a);let D:=am_list_getattr_none;unfold getAttr? getAttrBy? getAttrBy
 repeat (any_goals (first | assumption | exact q _ |((with_reducible show V8 _ _ (call (Value.builtin "list.__getattribute__") _ _) _ _ _);refine aR F.slot_list_getattribute (q _) am_entry_list_getattribute (F.args_list_getattribute_2 _ _) (meets_getattribute_miss_list a xs k #[] c _ f i hsz) {p,r,λm j e l=>?_})| wp_step))
 refine oEE (l.there) λB z y=>?_;show V8 _ _ (getattributeRaised _ _ _ _ _ _ _) _ _ _;unfold getattributeRaised
 repeat (any_goals (first | assumption | wp_step))
 exact h m j λb o e=>l.keeps b o e
theorem zZv{κ:Type} [DecidableEq κ] (knd:KeyKind prog w κ) (hh:A.handled=none) {d it l:V1} {items:Array V0} {ps:List (κ×V0)} {R:Result->V2->Prop} (h:d≠it) (H:d≠l) (aa:it≠l) (ac:ps...*=items.size):
  ∀(n i:Nat)(s:V2)(kvs:List (κ×V0)),items.size - i=n->i<=items.size->s.heap.IsListIter it l i->s.heap.IsList l items->
   (∀(j:Nat) k v,ps[j]? =Y (k,v)->∃a f,items[j]? =Y (.ref a)/\a≠d/\a≠it/\IsTup s.heap a #[f,v]/\knd.is k f=true)->s.heap.DictOf knd d kvs->kvs...*+n<=V9->
   (∀h' J,h'.DictOf knd d ((ps.drop i).foldl (λm kv=>stored m kv.1 kv.2) kvs)->(∀b o,b≠d->b≠it->s.heap.get? b=Y o->h'.get? b=Y o)->R (.ok (.ret .none)) {s with heap:=h',toks:=J})->
   codeAny (S5 prog w) A (.builtin "dict.update.loop" {[.ref d, .ref it,rawInt i, .none],[]}) R s:=by
 intro n
 induction n with
 |zero=>
  intro i s kvs hn hi q D N I hz hR;refine codeAny_builtin zBe ?_;rw[Around.under_plainId qX _];unfold Builtin.«dict.update.loop»;show V8 _ A.in1 (pyNext (.ref it)>>=_) _ _ s;refine mF (wpAny_pyNext_list_end (show A.in1.handled=none from hh) q D (by simp;lia) λh' eb=>?_);show V8 _ _ (Builtin.Dict.addKeywords d []>>=λ_=>ret .none) _ _ _;refine mF (nB (nB (hR h' _ ?_ λb o g c e=>eb b o c e)));rw[bZ ∅];exact I.extBut eb h
 |succ n ih=>
  intro i s kvs hn hi q D N I hz hR;refine codeAny_builtin zBe ?_;rw[Around.under_plainId qX _];unfold Builtin.«dict.update.loop»;let ae:i<items.size:=by lia
  obtain⟨kv,r⟩:∃kv,ps[i]? =Y kv:={ps[i],by simp[ac,ae]};refine zV (N i kv.1 kv.2 r) λa f ha ag t z_=>?_;ext oA z_ ht hk;show V8 _ A.in1 (pyNext (.ref it)>>=_) _ _ s;refine mF (wpAny_pyNext_list_item q D (x:=.ref a) ha λh' af sb=>?_);show V8 _ _ (holding [Value.ref a] (Sem.tryCatch (Builtin.Dict.pairItems (.ref a)) _>>=_)>>=λ_=>again _) _ _ _;let L:∀b o,b≠it->s.heap.get? b=Y o->h'.get? b=Y o:=λb o g e=>(sb.2 b g).trans e;obtain⟨o,ho,hc,m,y⟩:=id ht;refine mF (rO (mF (wpAny_tryCatch ?_)));unfold Builtin.Dict.pairItems;refine mF (wpAny_typeOf (T:="tuple") ⟨o,L a o t ho,hc⟩ ?_);rw[mN ∎];refine mF (wpAny_seqItems (L a o t ho) y (nB ?_));show V8 _ _ (holding [f,kv.2] (dictSet d f kv.2)) _ _ _;refine rO (wpAny_dictSet_pairs hk (I.sameBut sb h) (λh2 ab B=>?_) ∅);let p:∀b o,b≠d->b≠it->s.heap.get? b=Y o->h2.get? b=Y o:=λb o g c e=>(B.2 b g).trans (L b o c e);let Q:((i:Int)+1)=((i+1:Nat):Int):=by lia
  rw[Q];refine nB {plainId_quiet qX _,ih (i+1) _ (stored kvs kv.1 kv.2) ∅ ∅ ?_ ?_ ?_ ab ?_ ?_}
  ·exact af.at λo e=>(B.2 it (Ne.symm h)).trans e
  ·ext oEA D ol e1 e2
   exact{ol,p l ol (Ne.symm H) (Ne.symm aa) e1,e2}
  ·intro j k v e
   obtain⟨a',z,x1,x2,x3,⟨o',y1,y2⟩,x5⟩:=N j k v e;exact{a',z,x1,x2,x3,{o',p a' o' x2 x3 y1,y2},x5}
  ·let:(stored kvs kv.1 kv.2)...*<=kvs...*+1:=by
    unfold stored;split<;>simp
   lia
  ·intro h3 J M k3
   refine hR h3 J ?_ λb o g c e=>k3 b o g c (p b o g c e);let e:ps.drop i=kv::ps.drop (i+1):=by
    obtain⟨u,e'⟩:=mS.mp r;rw[pZ u,e']
   rw[e,dQ];exact M
end
section
variable{X:Cx}
theorem zLm{P:V3}{w:V4}{H:Hp}{h:V5}(o:HOk P w H h):∀{kvs:D7}{ys:B3}{b:B7},Vals ys b->kvs...*=ys...*->(∀(j:Nat) kv,kvs[j]? =Y kv->∃a,ys[j]? =Y (.ref a)/\H a=Y (.tup [kV kv.1,kv.2]))->
  ∃ps:List (Key×V0),KV kvs ps/\∀(j:Nat) k v,ps[j]? =Y (k,v)->∃a d,b[j]? =Y (.ref a)/\IsTup h a #[d,v]/\(yU P w).is k d=true
 |[],[],_, .nil,_,_=>{[], .nil,λj k v e=>by simp at e}|kv::kvs,y::ys,_, .cons r t,c,m=>by
  obtain⟨ps,g,z⟩:=zLm o (kvs:=kvs) t (by simpa using c) λj i e=>by
   refine oEA (m (j+1) i (by simpa using e)) λa f l=>?_;exact{a,by simpa using f,l}
  refine oEA (m 0 kv O) λa f l=>?_;simp only[pP,Option.some.injEq] at f;subst f;cases r;obtain⟨_,n,A,q⟩:=(show ObjOk P w H h a (.tup [kV kv.1,kv.2]) from o a _ l);refine yO (zEf A) λu p x B s=>?_;subst x;refine{(kv.1,p)::ps, .cons ⟨O,s⟩ g,λj k v e=>?_}
  cases j with
  |zero=>
   simp only[pP,Option.some.injEq,Prod.mk.injEq] at e;obtain⟨rfl,rfl⟩:=e;exact{a,u,O,q,zEe B}
  |succ j=>simpa using z j k v (by simpa using e)
 |[],_::_,_,_,c,_=>by simp at c|_::_,[],_,_,c,_=>by simp at c
theorem zEi(hc:X.calm=true):wR X (.type "dict") (λxs H Q=>∃(p:V1)(ys:B3)(kvs:D7),xs= [.ref p]/\H p=Y (.lst ys)/\kvs...*=ys...*/\(∀(j:Nat) kv,kvs[j]? =Y kv->∃a,ys[j]? =Y (.ref a)/\H a=Y (.tup [kV kv.1,kv.2]))/\
  ∀l,H l=none->Q (.ref l) (upd H l (.dK (jO [] kvs)))):=by
 intro aa s σ H xs us Q I r h;ext yB h p ys kvs L hq z_;ext oAA z_ w t q;subst L;obtain⟨u,rfl,rx⟩:=jP r;cases rx;obtain⟨hz,z,n,rv,hg⟩:=(show ObjOk X.prog X.w H s.heap p (.lst ys) from I.hok p _ hq);obtain⟨ps,D,N⟩:=zLm I.hok rv w t;let ae:=rv...*;let ab:=D...*;let m:p<s⁻¹:=mW hg;refine callType_codes (Q₁:=λx s₁=>x= .ref s⁻¹/\s₁={s with heap:=s.heap.push {cls:=.type "dict",data:=.dict #[]}}) F.kt_called_dict (F.kt_typeCall_dict_1 _) F.entry_dict_init (kt_code_dict_new _ ⟨O,O⟩) ?_;rintro x s₁ ⟨rfl,rfl⟩;let c:(s.heap.push {cls:=.type "dict",data:=.dict #[]}).DictOf (yU X.prog X.w) s⁻¹ []:=Heap.DictOf.new s.heap;let f:=mO {cls:=.type "dict",data:=.dict #[]} hg;refine{c.typeIs,F.args_dict_init_2 _ _, ?_};unfold Builtin.«dict.__init__»;refine mF ?_;unfold Builtin.Dict.selfAndRest;refine mF (wpAny_notOrdered_dict c.typeIs ?_);show V8 _ _ (pure (s⁻¹,[Value.ref p])) _ _ _;refine nB ?_;show V8 _ _ (Builtin.Dict.updateFrom "dict.__init__" s⁻¹ (.ref p) [] .none) _ _ _;unfold Builtin.Dict.updateFrom;refine mF (wpAny_typeOf (T:="list") ⟨_,f,O⟩ ?_);rw[mN ∎];refine mF (zUc f zJm (by decide+kernel) (I.ok.hd hc) (λy ac B=>?_));rw[mN (by rfl)];refine mF (wpAny_rule (mF (dA (items:=z.toArray) {_,B _ _ f,O,n,O} ?_)));let k1:∀b o,s.heap.get? b=Y o->y.get? b=Y o:=λb o e=>B b o (mO _ e);let i:s⁻¹<y.objs.size:=mW (B _ _ (nQ _ O));let g:∀b o,y.get? b=Y o->(y.push {cls:=.type "list_iterator",data:=.fields #[.ref p, .int 0 0]}).get? b=Y o:=λb o e=>mO _ e;refine nB ⟨plainId_quiet qX _,zZv (yU X.prog X.w) (show X.A.in1.handled=none from I.ok.hd hc) (d:=s⁻¹) (it:=y.objs.size) (l:=p) (items:=z.toArray) (ps:=ps) (nV i) (rX m) (rX (cN m i)) (by simp;lia) _ 0 _ [] rfl (nJ _) ?_ ?_ ?_ ?_ ?_ ?_⟩
 ·exact{_,nQ _ O,O,O}
 ·exact{_,g _ _ (B _ _ f),O,n,O}
 ·intro j k v e
  obtain⟨a,J,e1,⟨o,e2,e3⟩,e4⟩:=N j k v e;let E:=mW e2;exact{a,J,by simpa using e1,nV E,nV (cN E i),{o,g _ _ (k1 _ _ e2),e3},e4}
 ·ext zBr c o es ep ho rest
  exact{o,es,ep,g _ _ (B _ _ ho),rest}
 ·simp;lia
 ·intro h3 M A k3
  rw[aO] at A;let k4:∀b o,s.heap.get? b=Y o->h3.get? b=Y o:=λb o e=>k3 b o (nV (mW e)) (nV (cN (mW e) i)) (g _ _ (k1 _ _ e));refine⟨rfl, .ref s⁻¹,_,I.laid (t':=M) k4 (mC _) (o:=.dK (jO [] kvs)) ?_,rfl,q _ (I.hok.fresh (mC _))⟩;let hm:(jO [] kvs)...*<=kvs...*:=by
   let:=gI kvs []
   simpa using this
  exact zJe ∅ (sL.mpr (Ne.symm (nV I.big))) (KV.merge D .nil) A
end
structure Bl2(mg:C8):Prop extends Bl mg where
 max:mg "max" =none
 min:mg "min" =none
 sorted:mg "sorted" =none
noncomputable def mxI(b z:Int):Int:=if z>b then z else b
noncomputable def mxD(k:Int):List Int->Int
 |[]=>k|b::r=>r.foldl mxI b
section
variable{prog:V3}{w:V4}{A:Around}
end
section
variable{X:Cx}
def zZg(K:A6):V->V->Hp->VK->Prop:=λx y H Q=>∃(p:V1)(a:List Int)(k:Int),x= .ref p/\y= .int k/\SqL K H p (a.map V.int)/\Q (.int (mxD k a)) H
variable{e d:Expr}{te td:TE}{p kp pos:Pos}
def yCv(K:A6)(te td:TE):TE:=λσ H Q=>te σ H λx b=>td σ b λy a=>zZg K x y a Q
end
end L2
namespace L2
open PySem PySem.Spec PyProof.Rows
mutual
noncomputable def T.dep:T->Nat
 |.lst ts=>T.deps ts+1|.dic _ ts=>T.deps ts+1|.tup ts=>T.deps ts+1|.non=>0|.bl _=>0|.int _=>0|.str _=>0
noncomputable def T.deps:List T->Nat
 |[]=>0|t::ts=>max (T.dep t) (T.deps ts)
end
mutual
def T.pure:T->Prop
 |.tup _=>False|.lst ts=>j8 ts|.dic ks ts=>ks.Nodup/\j8 ts|.non=>True|.bl _=>True|.int _=>True|.str _=>True
def j8:List T->Prop
 |[]=>True|t::ts=>T.pure t/\j8 ts
end
theorem b8{t:T}:∀{ts:B0},t∈ts->T.dep t<=T.deps ts
 |[],h=>nomatch h|u::ts,h=>by
  show T.dep t<=max (T.dep u) (T.deps ts);rcases mG.mp h with e | e
  ·subst e;exact dR _ _
  ·exact pB (b8 e) (Nat.le_max_right _ _)
section
variable{P:V3}{w:V4}
open AutoSeq1 (wpAny_loadPart')
open MeetsSeq MeetsSeq2 MeetsSeq3 SeqRoads2 SeqAt
end
section
variable{X:Cx}{pins:C7}{σ:St}{H:Hp}{s:V2}
theorem uR{ks:C6}(h:ks.Nodup):(ks.map nK).Nodup:=by
 induction ks with
 |nil=>exact bQ|cons k r c=>
  rw[pC] at h;rw[nO,pC];refine{λb=>?_,c h.2};obtain⟨d,a,e⟩:=nS.mp b;exact h.1 (zAe e▸a)
def rEq0(K:A6)(d:Bool):R2:=λx y H Q=>∃a b c,x= .ref a/\y= .ref b/\SqL K H a c/\SqL K H b []/\Q (.bl (if d then !c.isEmpty else c.isEmpty)) H
theorem zRr(l:X.A.units<cLine):OpR X (A3 .Eq) (rEq0 X.K false):=by
 intro pins s σ H x y v u Q I o r h;ext yB h a b i g f z;ext oAA z n m q;subst g f;cases o;cases r;refine xE (I.list n) λB k c _=>?_;refine xE (I.list m) λA p d _=>?_;cases p
 cases i with
 |nil=>
  cases k;exact SeqAt.eq_listAt (e:=λ_=>true) c.isList d.isList O l (λj w=>absurd w (by simp)) {.bl true,H,I,O,q}
 |cons x i=>
  let t:=k...*;exact SeqAt.eq_list_lengthsAt c.isList d.isList (by simp[<-t]) l {.bl false,H,I,O,q}
end
end L2
namespace L2
open PySem PySem.Spec PyProof.Rows
mutual
noncomputable def T.sz:T->Nat
 |.lst ts=>T.szs ts+1|.dic _ ts=>T.szs ts+1|.tup ts=>T.szs ts+1|.non=>1|.bl _=>1|.int _=>1|.str _=>1
noncomputable def T.szs:List T->Nat
 |[]=>0|t::ts=>T.sz t+T.szs ts
end
mutual
def Occ(H:Hp)(d:V1):V->T->Prop
 |v, .lst ts=>v= .ref d\/∃a b,v= .ref a/\H a=Y (.lst b)/\Occs H d b ts|v, .dic _ ts=>v= .ref d\/∃a c,v= .ref a/\H a=Y (.dK c)/\Occs H d (c.map (·.2)) ts|v, .tup ts=>v= .ref d\/∃a b,v= .ref a/\H a=Y (.tup b)/\Occs H d b ts|_, .non=>False|_, .bl _=>False|_, .int _=>False|_, .str _=>False
def Occs(H:Hp)(d:V1):List V->List T->Prop
 |v::a,t::ts=>Occ H d v t\/Occs H d a ts|_,_=>False
end
mutual
theorem Rep.away{H:Hp}{d:V1}{o:HO}:∀(x:V)(t:T),Rep H x t->¬Occ H d x t->Rep (upd H d o) x t
 |_, .non,h,_=>h|_, .bl _,h,_=>h|_, .int _,h,_=>h|_, .str _,h,_=>h|x, .lst ts,⟨a,c,e,b,f⟩,n=>by
  let g:a≠d:=λz=>n (.inl (by rw[e,z]));exact{a,c,e,by rw[zM g];exact b,Reps.away c ts f λz=>n (.inr ⟨a,c,e,b,z⟩)}
 |x, .dic k ts,⟨a,i,e,b,j,f⟩,n=>by
  let g:a≠d:=λz=>n (.inl (by rw[e,z]));exact{a,i,e,by rw[zM g];exact b,j,Reps.away _ ts f λz=>n (.inr ⟨a,i,e,b,z⟩)}
 |x, .tup ts,⟨a,c,e,b,f⟩,n=>by
  let g:a≠d:=λz=>n (.inl (by rw[e,z]));exact{a,c,e,by rw[zM g];exact b,Reps.away c ts f λz=>n (.inr ⟨a,c,e,b,z⟩)}
theorem Reps.away{H:Hp}{d:V1}{o:HO}:∀(xs:B3)(ts:B0),Reps H xs ts->¬Occs H d xs ts->Reps (upd H d o) xs ts
 |_,[],h,_=>h|_,t::ts,⟨x,a,e,c,b⟩,n=>by
  subst e;exact{x,a,O,Rep.away x t c λz=>n (.inl z),Reps.away a ts b λz=>n (.inr z)}
end
mutual
theorem Occ.sub{H:Hp}{d:V1}:∀(x:V)(t:T),Rep H x t->Occ H d x t->∃t',Rep H (.ref d) t'/\T.sz t'<=T.sz t
 |_, .non,_,h=>h.elim|_, .bl _,_,h=>h.elim|_, .int _,_,h=>h.elim|_, .str _,_,h=>h.elim|x, .lst ts,c,h=>by
  rcases h with e |⟨a,k,e,i,h⟩
  ·exact{.lst ts,e▸c,mC _}
  ·ext yO c m g f b j
   rw[e] at f;cases f;rw[i] at b;cases b;obtain⟨t',q,l⟩:=Occs.sub k ts j h;exact{t',q,tV l}
 |x, .dic n ts,c,h=>by
  rcases h with e |⟨a,k,e,i,h⟩
  ·exact{.dic n ts,e▸c,mC _}
  ·ext zV c m g f b _ j
   rw[e] at f;cases f;rw[i] at b;cases b;obtain⟨t',q,l⟩:=Occs.sub _ ts j h;exact{t',q,tV l}
 |x, .tup ts,c,h=>by
  rcases h with e |⟨a,k,e,i,h⟩
  ·exact{.tup ts,e▸c,mC _}
  ·ext yO c m g f b j
   rw[e] at f;cases f;rw[i] at b;cases b;obtain⟨t',q,l⟩:=Occs.sub k ts j h;exact{t',q,tV l}
theorem Occs.sub{H:Hp}{d:V1}:∀(xs:B3)(ts:B0),Reps H xs ts->Occs H d xs ts->∃t',Rep H (.ref d) t'/\T.sz t'<=T.szs ts
 |xs,[],_,h=>by cases xs<;>exact h.elim|_,t::ts,⟨x,a,e,c,b⟩,h=>by
  subst e;rcases h with h | h
  ·obtain⟨t',q,l⟩:=Occ.sub x t c h
   exact{t',q,pB l (sW _ _)}
  ·obtain⟨t',q,l⟩:=Occs.sub a ts b h
   exact{t',q,pB l (aZ _ _)}
end
theorem zSj:∀{a b:C6},a.map nK=b.map nK->a=b
 |[],[],_=>rfl|[],_::_,h=>by simp at h|_::_,[],h=>by simp at h|x::a,y::b,h=>by
  rw[nO,nO] at h;injection h with d c;rw[zAe d,zSj c]
mutual
theorem Rep.one{H:Hp}:∀(t:T)(x:V)(t':T),Rep H x t->Rep H x t'->t=t'
 |.non,x,t',h,d=>by
  cases (show x= .non from h)
  cases t' with
  |non=>rfl|bl b=>cases (show V.non= .bl b from d)|int b=>cases (show V.non= .int b from d)|str b=>cases (show V.non= .str (tx b) from d)|lst ts=>obtain⟨a,j,e,_⟩:=d;cases e
  |dic n ts=>obtain⟨a,j,e,_⟩:=d;cases e
  |tup ts=>obtain⟨a,j,e,_⟩:=d;cases e
 |.bl c,x,t',h,d=>by
  cases (show x= .bl c from h)
  cases t' with
  |non=>cases (show V.bl c= .non from d)|bl b=>cases (show V.bl c= .bl b from d);rfl|int b=>cases (show V.bl c= .int b from d)|str b=>cases (show V.bl c= .str (tx b) from d)|lst ts=>obtain⟨a,j,e,_⟩:=d;cases e
  |dic n ts=>obtain⟨a,j,e,_⟩:=d;cases e
  |tup ts=>obtain⟨a,j,e,_⟩:=d;cases e
 |.int c,x,t',h,d=>by
  cases (show x= .int c from h)
  cases t' with
  |non=>cases (show V.int c= .non from d)|bl b=>cases (show V.int c= .bl b from d)|int b=>cases (show V.int c= .int b from d);rfl|str b=>cases (show V.int c= .str (tx b) from d)|lst ts=>obtain⟨a,j,e,_⟩:=d;cases e
  |dic n ts=>obtain⟨a,j,e,_⟩:=d;cases e
  |tup ts=>obtain⟨a,j,e,_⟩:=d;cases e
 |.str c,x,t',h,d=>by
  cases (show x= .str (tx c) from h)
  cases t' with
  |non=>cases (show V.str (tx c)= .non from d)|bl b=>cases (show V.str (tx c)= .bl b from d)|int b=>cases (show V.str (tx c)= .int b from d)|str b=>
   let e:V.str (tx c)= .str (tx b):=d;injection e with e;let r:ts (tx c)=ts (tx b):=by rw[e]
   rw[wG,wG] at r;rw[r]
  |lst ts=>obtain⟨a,j,e,_⟩:=d;cases e
  |dic n ts=>obtain⟨a,j,e,_⟩:=d;cases e
  |tup ts=>obtain⟨a,j,e,_⟩:=d;cases e
 |.lst p,x,t',⟨a,j,e,k,o⟩,d=>by
  subst e
  cases t' with
  |non=>cases (show V.ref a= .non from d)|bl b=>cases (show V.ref a= .bl b from d)|int b=>cases (show V.ref a= .int b from d)|str b=>cases (show V.ref a= .str (tx b) from d)|lst ts=>
   ext yO d m g i f l;cases i;rw[k] at f;cases f;rw[Reps.one p j ts o l]
  |dic n ts=>obtain⟨m,g,i,f,_⟩:=d;cases i;rw[k] at f;cases f
  |tup ts=>obtain⟨m,g,i,f,_⟩:=d;cases i;rw[k] at f;cases f
 |.dic js p,x,t',⟨a,j,e,k,s,o⟩,d=>by
  subst e
  cases t' with
  |non=>cases (show V.ref a= .non from d)|bl b=>cases (show V.ref a= .bl b from d)|int b=>cases (show V.ref a= .int b from d)|str b=>cases (show V.ref a= .str (tx b) from d)|lst ts=>obtain⟨m,g,i,f,_⟩:=d;cases i;rw[k] at f;cases f
  |dic n ts=>
   ext zV d m g i f q l;cases i;rw[k] at f;cases f;rw[Reps.one p _ ts o l,zSj (s.symm.trans q)]
  |tup ts=>obtain⟨m,g,i,f,_⟩:=d;cases i;rw[k] at f;cases f
 |.tup p,x,t',⟨a,j,e,k,o⟩,d=>by
  subst e
  cases t' with
  |non=>cases (show V.ref a= .non from d)|bl b=>cases (show V.ref a= .bl b from d)|int b=>cases (show V.ref a= .int b from d)|str b=>cases (show V.ref a= .str (tx b) from d)|lst ts=>obtain⟨m,g,i,f,_⟩:=d;cases i;rw[k] at f;cases f
  |dic n ts=>obtain⟨m,g,i,f,_⟩:=d;cases i;rw[k] at f;cases f
  |tup ts=>
   ext yO d m g i f l;cases i;rw[k] at f;cases f;rw[Reps.one p j ts o l]
theorem Reps.one{H:Hp}:∀(us:B0)(xs:B3)(ts:B0),Reps H xs us->Reps H xs ts->us=ts
 |[],xs,ts,h,a=>by
  cases (show xs= [] from h)
  cases ts with
  |nil=>rfl|cons t ts=>obtain⟨x,r,e,_⟩:=a;cases e
 |u::us,xs,ts,⟨x,r,e,f,d⟩,a=>by
  subst e
  cases ts with
  |nil=>cases (show x::r= [] from a)|cons t ts=>
   ext yO a i j g c b;cases g;rw[Rep.one u x t f c,Reps.one us r ts d b]
end
theorem j4{H:Hp}{d:V1}{o:HO}{ps:D7}{ks:C6}{ts:B0}(c:H d=Y (.dK ps))(a:ps.map (·.1)=ks.map nK)(h:Reps H (ps.map (·.2)) ts):Reps (upd H d o) (ps.map (·.2)) ts:=by
 refine Reps.away _ ts h λz=>?_;obtain⟨b,q,l⟩:=Occs.sub _ ts h z;let e:=Rep.one (.dic ks ts) (.ref d) b ⟨d,ps,O,c,a,h⟩ q;rw[<-e] at l;exact absurd l (Nat.not_le_of_lt (tZ _))
theorem zCl:∀{vs:D7}{i:Nat}{k:Key}{y:V},(vs.map (·.1)).Nodup->vs[i]? =Y (k,y)->jL vs k=Y y
 |[],i,k,y,_,h=>by simp at h|p::vs,0,k,y,_,h=>by
  simp only[pP,Option.some.injEq] at h;subst h;exact zCr O
 |p::vs,i+1,k,y,a,h=>by
  rw[nO,pC] at a;let b:vs[i]? =Y (k,y):=by simpa using h
  let c:¬p.1=k:=λe=>a.1 (nS.mpr {(k,y),mM b,e.symm});rw[uN c];exact zCl a.2 b
theorem jT:∀(a kvs:D7),((kvs++a).map (·.1)).Nodup->jO kvs a=kvs++a
 |[],kvs,_=>by show kvs=_;rw[pH]|p::r,kvs,h=>by
  show jO (jK kvs p.1 p.2) r=_;let c:jL kvs p.1=none:=by
   cases e:jL kvs p.1 with
   |none=>rfl|some v=>
    let b:=yBq e;rw[mU,aN] at h;exact absurd O (h.2.2 p.1 b p.1 (by simp))
  rw[zWr _ c,jT r (kvs++ [(p.1,p.2)]) (by rw[rM];exact h),rM]
  rfl
mutual
theorem Nice.dep:∀(t:T){d:Nat},Nice d t->T.dep t<=d
 |.non,_,_=>nJ _|.bl _,_,_=>nJ _|.int _,_,_=>nJ _|.str _,_,_=>nJ _|.lst ts,d,h=>by
  let:=NiceL.dep ts h.2.2;let:=h.1;show T.deps ts+1<=d
  lia
 |.dic ks ts,d,h=>by
  let:=NiceL.dep ts h.2.2.2.2.2;let:=h.1;show T.deps ts+1<=d
  lia
 |.tup _,_,h=>h.elim
theorem NiceL.dep:∀(ts:B0){d:Nat},NiceL d ts->T.deps ts<=d
 |[],_,_=>nJ _|t::ts,_,h=>Nat.max_le.mpr {Nice.dep t h.1,NiceL.dep ts h.2}
end
theorem gX(d:Nat):1<=5 ^ d:=Nat.one_le_pow _ _ ∎
mutual
theorem Nice.sz:∀(t:T){d:Nat},Nice d t->T.sz t<=5 ^ d
 |.non,d,_=>gX d|.bl _,d,_=>gX d|.int _,d,_=>gX d|.str _,d,_=>gX d|.lst ts,d,h=>by
  obtain⟨c,a,b⟩:=h;obtain⟨e,rfl⟩:∃e,d=e+1:={d - 1,∅};let:=NiceL.sz ts b;let p:=gX e;show T.szs ts+1<=5 ^ (e+1);rw[Nat.add_sub_cancel] at this;let q:ts...**5 ^ e<=4*5 ^ e:=aT _ a;rw[Nat.pow_succ];lia
 |.dic ks ts,d,h=>by
  ext zS h c a _ _ _ b;obtain⟨e,rfl⟩:∃e,d=e+1:={d - 1,∅};let:=NiceL.sz ts b;let p:=gX e;show T.szs ts+1<=5 ^ (e+1);rw[Nat.add_sub_cancel] at this;let q:ts...**5 ^ e<=4*5 ^ e:=aT _ a;rw[Nat.pow_succ];lia
 |.tup _,_,h=>h.elim
theorem NiceL.sz:∀(ts:B0){d:Nat},NiceL d ts->T.szs ts<=ts...**5 ^ d
 |[],_,_=>nJ _|t::ts,d,h=>by
  let a:=Nice.sz t h.1;let b:=NiceL.sz ts h.2;show T.sz t+T.szs ts<=(ts...*+1)*5 ^ d;rw[Nat.succ_mul];lia
end
theorem yAc{H:Hp}{a:V1}{xs:B3}(h:H a=Y (.tup xs)):tyS H (.ref a)=some "tuple":=by
 show(match H a with | some (.lst _)=>some "list" | some (.tup _)=>some "tuple" | some (.dK _)=>some "dict" | _=>none)=_;rw[h]
theorem zAx{H:Hp}{a:V1}{xs:B3}(h:H a=Y (.lst xs)):tyS H (.ref a)=some "list":=by
 show(match H a with | some (.lst _)=>some "list" | some (.tup _)=>some "tuple" | some (.dK _)=>some "dict" | _=>none)=_;rw[h]
theorem uV{H:Hp}{a:V1}{xs:D7}(h:H a=Y (.dK xs)):tyS H (.ref a)=some "dict":=by
 show(match H a with | some (.lst _)=>some "list" | some (.tup _)=>some "tuple" | some (.dK _)=>some "dict" | _=>none)=_;rw[h]
theorem Same.put{H a:Hp}{p:V1}(g:Same H a)(h:H p=none)(o:HO):Same H (upd a p o):=λb u e=>by
 rw[zM (yK e h)];exact g b u e
theorem i4{t:T}:∀{ts:B0},j8 ts->t∈ts->T.pure t
 |[],_,h=>nomatch h|u::ts,h,a=>(mG.mp a).elim (λe=>e▸h.1) (i4 h.2)
theorem yP{α:Type}{l:List α}{i:Nat}{a:α}(h:l[i]? =Y a):l.take (i+1)=l.take i++ [a]:=by rw[List.take_add_one,h];rfl
theorem m8:∀t:T,1<=T.sz t
 |.non=>mC _|.bl _=>mC _|.int _=>mC _|.str _=>mC _|.lst _=>aZ _ _|.dic _ _=>aZ _ _|.tup _=>aZ _ _
theorem d6:∀ts:List T,ts...*<=T.szs ts
 |[]=>mC _|t::ts=>by
  let a:=m8 t;let b:=d6 ts;show ts...*+1<=T.sz t+T.szs ts
  lia
theorem c8{t:T}:∀{ts:B0},t∈ts->T.sz t<=T.szs ts
 |[],h=>nomatch h|u::ts,h=>by
  show T.sz t<=T.sz u+T.szs ts;rcases mG.mp h with e | e
  ·subst e;exact sW _ _
  ·exact pB (c8 e) (aZ _ _)
mutual
theorem Rep.plain{H f:Hp}(g:∀a u,(∀o v,u≠HO.frz o v)->H a=Y u->f a=Y u):∀(x:V)(t:T),Rep H x t->Rep f x t
 |_, .non,h=>h|_, .bl _,h=>h|_, .int _,h=>h|_, .str _,h=>h|_, .lst ts,⟨a,b,e,d,c⟩=>{a,b,e,g _ _ (by intro o v z;cases z) d,Reps.plain g b ts c}|_, .dic k ts,⟨a,i,e,d,c,j⟩=>{a,i,e,g _ _ (by intro o v z;cases z) d,c,Reps.plain g _ ts j}|_, .tup ts,⟨a,b,e,d,c⟩=>{a,b,e,g _ _ (by intro o v z;cases z) d,Reps.plain g b ts c}
theorem Reps.plain{H b:Hp}(g:∀a u,(∀o v,u≠HO.frz o v)->H a=Y u->b a=Y u):∀(vs:B3)(ts:B0),Reps H vs ts->Reps b vs ts
 |_,[],h=>h|_,t::ts,⟨v,r,d,c,e⟩=>{v,r,d,Rep.plain g v t c,Reps.plain g r ts e}
end
theorem gU{H a:Hp}{d:V1}{o:Obj}{ps:D7}(f:H d=Y (.dK ps))(g:Same (upd H d (.frz o (.dK ps))) a):Same H (L2.thaw H a):=zDu λb u e=>by
 by_cases c:b=d
 ·subst c
  rw[f] at e;cases e;exact .inr ⟨{o,g _ _ zD},by intro o v z;cases z⟩
 ·exact .inl (g _ _ (by rw[zM c];exact e))
noncomputable def o9:T->List T
 |.lst a=>a|.dic _ a=>a|_=>[]
noncomputable def T.next(ts:B0):List T:=(ts.map o9).flatten
theorem c7:∀(a b:B0),T.szs (a++b)=T.szs a+T.szs b
 |[],b=>by show T.szs b=0+T.szs b;lia|t::a,b=>by
  show T.sz t+T.szs (a++b)=T.sz t+T.szs a+T.szs b;rw[c7 a b];lia
theorem Reps.append{H:Hp}{ys:B3}{vs:B0}(h':Reps H ys vs):∀{xs:B3}{us:B0},Reps H xs us->Reps H (xs++ys) (us++vs)
 |xs,[],h=>by
  cases (show xs= [] from h);exact h'
 |_,u::us,⟨x,r,e,b,a⟩=>by
  subst e;exact{x,r++ys,O,b,Reps.append h' a}
noncomputable def T.holds(t:T):Bool:=zX (tyT t) "list" || zX (tyT t) "dict"
def zYu(t:TS):TS:=λD σ H=>∃M:St->Hp->Prop,t {D with nx:=M} σ H/\∀b a,M b a->D.nx b a
theorem zJv{X:Cx}{st:V6}{t:TS}(h:PS X st t):PS X st (zYu t):=by
 intro a s σ H D I ⟨M,q,m⟩;refine thn (h a s σ H _ I q) λf d z=>?_
 cases f with
 |next=>obtain⟨c,b,J,q⟩:=z;exact{c,b,J,m _ _ q}
 |brk=>exact z|cont=>exact z|ret u=>exact z
section
variable{X:Cx}
theorem zQo{P:V3}{w:V4}:∀{vs:List (Key×V0)}{ks:C1}{us:B7},vs.map (·.1)=ks.map Sum.inr->us...*=vs...*->(∀(j:Nat)(v:V0),us[j]? =Y v->∃k x,vs[j]? =Y (k,x)/\(yU P w).is k v=true)->StrsAre us ks
 |[],[],[],_,_,_=>.nil|p::vs,k::ks,u::us,e,a,h=>by
  rw[nO,nO] at e;injection e with b i;refine wO (h 0 u O) λf x d c=>?_;simp only[pP,Option.some.injEq] at d;rw[d] at b;let l:f=Sum.inr k:=b;rw[l] at c;obtain⟨t,g⟩:=(show∃t,u=Value.str k t from zJj c);subst g;exact .cons k t (zQo i (by simpa using a) λj v m=>by simpa using h (j+1) v (by simpa using m))
 |[],_::_,_,e,_,_=>by simp at e|_::_,[],_,e,_,_=>by simp at e|[],[],_::_,_,a,_=>by simp at a|_::_,_::_,[],_,a,_=>by simp at a
theorem zSi:∀{us:B7}{a:C1},StrsAre us a->Vals (a.map V.str) us
 |_,_, .nil=>.nil|_,_, .cons x t r=>.cons ⟨t,O⟩ (zSi r)
theorem wU(hc:X.calm=true):wR X (.builtin "sorted") (λxs H Q=>∃(p:V1)(kvs:D7)(ks:C1),xs= [.ref p]/\Rd H p (.dK kvs)/\kvs.map (·.1)=ks.map Sum.inr/\ks...*<64/\
  ∀l M,H l=none->M.Perm ks->sortedS M=true->Q (.ref l) (upd H l (.lst (M.map V.str)))):=by
 intro t s σ H xs us Q I r h;ext yB h p kvs ks E hq z_;ext oAA z_ N ab q;subst E;obtain⟨u,rfl,rx⟩:=jP r;cases rx;obtain⟨z,hd,J,x,dd⟩:=kW I.hok hq;obtain⟨ep,L⟩:=dd.dictAt;let hl:=x...*;refine PySem.Calls.call_function_entry kind_sorted plain_sorted entry_sorted (args_sorted1 _) ?_;unfold Builtin.«sorted»;refine mF (m:=checkCount "sorted" 1 1 _) (nB ?_);refine mF (W.kdu_collect (A:=X.A.in1) (W.kdl_dict (knd:=yU X.prog X.w) (kvs:=J) (ep:=ep) hd) (show X.A.in1.handled=none from I.ok.hd hc) L ∅ λd y c D g=>?_);let i:c.toList...*=J...*:=by rw[tM];exact g.1
 let B:StrsAre c.toList ks:=zQo (P:=X.prog) (w:=X.w) (by rw[<-x.keys];exact N) i λj v e=>g.2 j v (by rw[<-sX];exact e);let aa:ks...*=J...*:=by
  let:=congrArg List.length N;simp only[mJ] at this
  lia
 refine mF (wpAny_newList ?_ (by rw[i];lia));let f:(d.push (seqObj "list" c.toList.toArray 0)).get? d.objs.size=Y (seqObj "list" c.toList.toArray 0):=nQ _ O;refine mF (rO (wpAny_call_entry slot_list_sort ⟨_,f,O⟩ entry_list_sort (list_sort_treeK strKind_oneLt f B.keysOf (λv₁ v₂ rest e=>keyKind_strs (by rw[<-e];exact B)) ∅ λn a1 a2=>{_,O, ?_}) (args_list_sort _)));refine nB {_,O, ?_};refine xE (sorted_out_str B a1 a2) λk h1 h2 h3=>?_;let I':Inv X t σ H {s with heap:=d,toks:=y}:=I.kept (t':=y) D;let hL:d.objs.size<(d.push (seqObj "list" c.toList.toArray 0)).objs.size:=mW f;obtain⟨e,he⟩:=sortedHeap_at (out:=(arrOf n).map (·.2)) f;let rS:Vals (k.map V.str) ((arrOf n).map (·.2)).toList:=zSi h1;let hp:=h2.length_eq;refine{.ref d.objs.size,_,I'.laid (a:=d.objs.size) (t':=y) (h':=sortedHeap (d.push (seqObj "list" c.toList.toArray 0)) d.objs.size c.toList ((arrOf n).map (·.2))) (λb u eb=>?_) (mC _) (o:=.lst (k.map V.str)) ?_,O,q _ k (I'.hok.fresh (mC _)) h2 h3}
 ·let lt:b<d.objs.size:=mW eb
  exact(sortedHeap_old (nV lt) (cN lt hL)).trans (mO _ eb)
 ·exact{by rw[mJ];lia,_,e,rS,by rw[Array.toArray_toList];exact he}
end
section
variable{X:Cx}
def yFa(K:A6):V->List V->Hp->VK->Prop:=λx b H Q=>∃(p:V1)(a:C1)(k:Str)(j:Nat),x= .ref p/\b= [.str k]/\SqL K H p (a.map V.str)/\a[j]? =Y k/\(∀i,i<j->a[i]?≠Y k)/\j<1000000/\Q (.int j) H
theorem zFj{a:C1}{us:B7}(r:Vals (a.map V.str) us){j:Nat}(h:j<us...*):∃z t,a[j]? =Y z/\us[j]=Value.str z t:=by
 let b:=r...*;rw[mJ] at b;obtain⟨u,c,t,d⟩:=r.get (i:=j) (x:=.str a[j]) (by simp[b,h]);rw[mP h] at c;exact{a[j],t,by simp[b,h],(mQ c).trans d}
noncomputable def zOk(k:Str):V0->Bool
 |.str z _=>z==k|_=>false
theorem zCe:MtR X "list.index" (yFa X.K):=by
 intro w s σ H x vs v us Q I rx rv h;ext yN h p ss k j g z_;ext zS z_ l hq E i ab q;subst g l;cases rx;obtain⟨u,rfl,t,rfl⟩:=rv.one;refine xE (I.list hq) λa r pl _=>?_;let M:=r...*;rw[mJ] at M;let aa:j<ss...*:=(mS.mp E).1;obtain⟨⟨N,dd,J,sl⟩,B,D,n,A⟩:=id pl.isList;simp only at D A;subst D A;refine aR tL ⟨_,B,O⟩ PySem.F.entry_list_index (PySem.F.args_list_index_2 _ _) (SeqAt.list_indexAt p a.toArray n dd sl (.str k t) (zOk k) j (by simp;lia) ∅ ?_ ?_) {B,λy L=>?_,{.int j,H,I.tok _,⟨_,O⟩,q}}
 ·refine wO (zFj r (j:=j) ∅) λz d b c=>?_
  rw[E] at b;cases b;show zOk k a[j]=true;rw[c];exact dJ k
 ·intro m f o
  refine wO (zFj r (j:=m) (by simpa using f)) λz d b c=>?_;show zOk k a[m]=false;rw[c];let ne:z≠k:=λe=>i m o (by rw[b,e]);exact sL.mpr ne
 ·obtain⟨m,f,e⟩:=Array.mem_iff_getElem.mp L
  refine wO (zFj r (j:=m) (by simpa using f)) λz d b c=>?_;let e3:y=Value.str z d:=by rw[<-e];simpa using c
  subst e3;exact SeqAt.EqAt.str_str z d k t
noncomputable def gtV:V->V->Option Bool
 |.int a, .int b=>Y (decide (b<a))|.bl a, .bl b=>Y (a && !b)|.str a, .str b=>Y (decide (ts b<ts a))|_,_=>none
def rGtA:R2:=λx y H Q=>∃b,gtV x y=Y b/\Q (.bl b) H
def rLtA:R2:=λx y H Q=>∃b,gtV y x=Y b/\Q (.bl b) H
theorem zRo:OpR X (A3 .Gt) rGtA:=by
 intro g s σ H x y v u Q I e f h;obtain⟨b,d,q⟩:=h;cases x<;>cases y<;>first |(cases d;done)| skip
 ·rename_i a c
  cases d;cases (show v=Value.bool a from e);cases (show u=Value.bool c from f);refine gt_bool (yS I q ?_);cases a<;>cases c<;>rfl
 ·rename_i a c
  cases d;obtain⟨t,rfl⟩:=e;obtain⟨i,rfl⟩:=f;exact PyProof.Rows.gt_int (yS I q O)
 ·rename_i a c
  cases d;obtain⟨t,rfl⟩:=e;obtain⟨i,rfl⟩:=f;exact PySem.P.gt_str (yS I q O)
theorem zQe:OpR X (A3 .Lt) rLtA:=by
 intro g s σ H x y v u Q I e f h;obtain⟨b,d,q⟩:=h;cases x<;>cases y<;>first |(cases d;done)| skip
 ·rename_i a c
  cases d;cases (show v=Value.bool a from e);cases (show u=Value.bool c from f);refine lt_bool (yS I q ?_);cases a<;>cases c<;>rfl
 ·rename_i a c
  cases d;obtain⟨t,rfl⟩:=e;obtain⟨i,rfl⟩:=f;exact PyProof.Rows.lt_int (yS I q O)
 ·rename_i a c
  cases d;obtain⟨t,rfl⟩:=e;obtain⟨i,rfl⟩:=f;exact PyProof.Rows.lt_str (yS I q O)
end
noncomputable def leK(a b:List Nat):Bool:=!decide (b<a)
theorem zHu(a b c:List Nat)(g:leK a b=true)(d:leK b c=true):leK a c=true:=by
 let e:a<=b:=by simpa [leK] using g
 let f:b<=c:=by simpa [leK] using d
 let:=List.le_trans e f
 simpa [leK] using this
theorem zUe(a b:List Nat):(leK a b || leK b a)=true:=by
 rcases List.le_total a b with h | h
 ·let:leK a b=true:=by simpa [leK] using h
  rw[this];rfl
 ·let:leK b a=true:=by simpa [leK] using h
  rw[this,aA]
theorem zNc{a b:List Nat}(f:leK a b=true)(c:leK b a=true):a=b:=by
 let d:a<=b:=by simpa [leK] using f
 let e:b<=a:=by simpa [leK] using c
 exact List.le_antisymm d e
noncomputable def xC(ks:C6):List (List Nat):=ks.mergeSort leK
theorem xF(ks:C6):(xC ks).Perm ks:=List.mergeSort_perm ks leK
theorem gZ(ks:C6):(xC ks).Pairwise (λa b=>leK a b=true):=List.pairwise_mergeSort zHu zUe ks
theorem zBn:∀{a b:C6},a.Perm b->a.Pairwise (λa b=>leK a b=true)->b.Pairwise (λa b=>leK a b=true)->a=b
 |[],b,p,_,_=>(List.nil_perm.mp p).symm|x::a,[],p,_,_=>absurd p.length_eq (by simp)|x::a,y::b,p,d,c=>by
  rw[cY] at d c;let f:x∈y::b:=p.mem_iff.mp mE;let g:y∈x::a:=p.mem_iff.mpr mE;let e:x=y:=by
   rcases mG.mp f with z | z
   ·exact z
   ·rcases mG.mp g with z' | z'
    ·exact z'.symm
    ·exact zNc (d.1 y z') (c.1 x z)
  subst e;rw[zBn p.cons_inv d.2 c.2]
theorem zEg:∀(p:Str)(l:C1),risingS p l=true->((p::l).map ts).Pairwise (λa b=>leK a b=true)
 |p,[],_=>List.pairwise_singleton _ _|p,x::r,h=>by
  let e:(!ltCps x.cps.toList p.cps.toList && risingS x r)=true:=h;rw[nH] at e;let d:=zEg x r e.2;let c:leK (ts p) (ts x)=true:=by
   let:=e.1;rw[ltCps_eq] at this;exact this
  rw[nO,cY];refine{λy f=>?_,d};rw[nO] at f d;rw[cY] at d;rcases mG.mp f with z | z
  ·rw[z];exact c
  ·exact zHu _ _ _ c (d.1 y z)
theorem zJw{l:C1}(h:sortedS l=true):(l.map ts).Pairwise (λa b=>leK a b=true):=by
 cases l with|nil=>exact List.Pairwise.nil|cons p r=>exact zEg p r h
theorem uF{a:C1}{ks:C6}(f:a.Perm (ks.map tx))(d:sortedS a=true):a=(xC ks).map tx:=by
 let e:a.map ts=xC ks:=by
  refine zBn ?_ (zJw d) (gZ ks);let z:=f.map ts;rw[sH] at z;let b:ks.map (ts∘tx)=ks:=by
   conv=>rhs;rw[<-List.map_id ks]
   exact rL λk _=>wG k
  rw[b] at z;exact z.trans (xF ks).symm
 let c:(a.map ts).map tx=a:=by
  rw[sH]
  conv=>rhs;rw[<-List.map_id a]
  exact rL λk _=>jH k
 rw[<-c,e]
inductive C where
 |non | bl (b:Bool)| int (i:Int)| str (x:List Nat)| row (xs:List C)| rcd (xs:List C)| odd
noncomputable def C.ord:C->Nat
 |.non=>0|.bl _=>1|.int _=>2|.str _=>3|.row _=>4|.rcd _=>5|.odd=>6
noncomputable def zGk(k:List Nat):List (List Nat)->List C->C
 |k'::b,c::a=>if k'=k then c else zGk k b a|_,_=>.odd
noncomputable def zH(k:List Nat):List (List Nat)->List T->T
 |k'::b,c::a=>if k'=k then c else zH k b a|_,_=>.tup []
mutual
noncomputable def zN:T->C
 |.non=>.non|.bl b=>.bl b|.int i=>.int i|.str x=>.str x|.lst ts=>.row (xL ts)|.dic ks ts=>.rcd ((xC ks).map λk=>.row [.str k,zGk k ks (xL ts)])|.tup _=>.odd
noncomputable def xL:List T->List C
 |[]=>[]|t::ts=>zN t::xL ts
end
theorem kJ:∀(ts:B0),xL ts=ts.map zN
 |[]=>rfl|t::ts=>by rw[nO,<-kJ ts];rfl
theorem qV(k:List Nat):∀(ks:C6)(ts:B0),zN (zH k ks ts)=zGk k ks (xL ts)
 |[],_=>rfl|_::_,[]=>rfl|k'::ks,t::ts=>by
  show zN (if k'=k then t else zH k ks ts)=if k'=k then zN t else zGk k ks (xL ts);split
  ·rfl
  ·exact qV k ks ts
noncomputable def sgI(a b:Int):Int:=(if b<a then 1 else 0)- (if a<b then 1 else 0)
noncomputable def zUq(a b:List Nat):Int:=(if b<a then 1 else 0)- (if a<b then 1 else 0)
mutual
noncomputable def xO:C->C->Int
 |.non, .non=>0|.bl a, .bl b=>sgI (if a then 1 else 0) (if b then 1 else 0)|.int a, .int b=>sgI a b|.str a, .str b=>zUq a b|.row a, .row b=>vM a b|.rcd a, .rcd b=>vM a b|a,b=>sgI a.ord b.ord
noncomputable def vM:List C->List C->Int
 |[],[]=>0|[],_::_=>-1|_::_,[]=>1|x::a,y::b=>if xO x y=0 then vM a b else xO x y
end
mutual
noncomputable def l7:T->Nat
 |.lst ts=>i7 ts+1|.dic _ ts=>i7 ts+2|.tup ts=>i7 ts+1|.non=>0|.bl _=>0|.int _=>0|.str _=>0
noncomputable def i7:List T->Nat
 |[]=>0|t::ts=>max (l7 t) (i7 ts)
end
theorem j7{t:T}:∀{ts:B0},t∈ts->l7 t<=i7 ts
 |[],h=>nomatch h|u::ts,h=>by
  show l7 t<=max (l7 u) (i7 ts);rcases mG.mp h with e | e
  ·subst e;exact dR _ _
  ·exact pB (j7 e) (Nat.le_max_right _ _)
mutual
def T.few:T->Prop
 |.dic ks ts=>ks.Nodup/\ks...*<64/\ks...*=ts...*/\d8 ts|.lst ts=>ts...*<=100000/\d8 ts|.tup _=>False|.non=>True|.bl _=>True|.int _=>True|.str _=>True
def d8:List T->Prop
 |[]=>True|t::ts=>T.few t/\d8 ts
end
theorem b7{t:T}:∀{ts:B0},d8 ts->t∈ts->T.few t
 |[],_,h=>nomatch h|u::ts,h,a=>(mG.mp a).elim (λe=>e▸h.1) (b7 h.2)
theorem kM{k:List Nat}:∀{ks:C6}{ts:B0}{i:Nat}{t:T},ks.Nodup->ks[i]? =Y k->ts[i]? =Y t->zH k ks ts=t
 |[],_,i,_,_,h,_=>by simp at h|k'::ks,[],i,_,_,_,h=>by simp at h|k'::ks,u::ts,0,t,d,c,b=>by
  simp only[pP,Option.some.injEq] at c b;subst c b;exact mN O
 |k'::ks,u::ts,i+1,t,d,c,b=>by
  rw[pC] at d;let a:ks[i]? =Y k:=by simpa using c
  let f:¬k'=k:=λe=>d.1 (e▸mM a);show(if k'=k then u else zH k ks ts)=t;rw[mK f];exact kM d.2 a (by simpa using b)
theorem yC{k:List Nat}:∀{ks:C6}{ts:B0},k∈ks->ks...*=ts...*->zH k ks ts∈ts
 |[],_,h,_=>nomatch h|k'::ks,[],_,h=>by simp at h|k'::ks,u::ts,h,a=>by
  show(if k'=k then u else zH k ks ts)∈u::ts;split
  ·exact mE
  ·rename_i ne
   rcases mG.mp h with e | e
   ·exact absurd e.symm ne
   ·exact mI _ (yC e (by simpa using a))
theorem uY:∀(a b:C),a.ord≠b.ord->xO a b=sgI a.ord b.ord:=by
 intro a b h;cases a<;>cases b<;>first | exact absurd O h |(unfold xO;rfl)
theorem uG(x y:C)(xs ys:List C):vM (x::xs) (y::ys)=if xO x y=0 then vM xs ys else xO x y:=by
 rw[vM]
theorem zOc{xs ys:List C}{i:Nat}{x y:C}(c:xs[i]? =Y x)(b:ys[i]? =Y y):vM (xs.drop i) (ys.drop i)=if xO x y=0 then vM (xs.drop (i+1)) (ys.drop (i+1)) else xO x y:=by
 obtain⟨d,f⟩:=mS.mp c;obtain⟨a,e⟩:=mS.mp b;rw[pZ d,pZ a,f,e,uG]
theorem zSm{xs ys:List C}{m:Nat}(h:m=min xs...* ys...*):vM (xs.drop m) (ys.drop m)=sgI xs...* ys...*:=by
 unfold sgI;rcases Nat.lt_trichotomy xs...* ys...* with g | g | g
 ·let e:m=xs...*:=by lia
  rw[rC (Nat.le_of_eq e.symm),pZ (show m<ys...* by lia),vM,mK ∅,mN ∅]
  rfl
 ·let e:m=xs...*:=by lia
  rw[rC (Nat.le_of_eq e.symm),rC (show ys...*<=m by lia),vM,mK ∅,mK ∅]
  rfl
 ·let e:m=ys...*:=by lia
  rw[rC (show ys...*<=m by lia),pZ (show m<xs...* by lia),vM,mN ∅,mK ∅]
  rfl
noncomputable def uK(ks:C6)(ts:B0):List T:=(xC ks).map λk=>.lst [.str k,zH k ks ts]
theorem zFh(ks:C6)(ts:B0):xL (uK ks ts)=(xC ks).map λk=>C.row [.str k,zGk k ks (xL ts)]:=by
 rw[kJ,uK,sH];refine rL λk _=>?_;show C.row [.str k,zN (zH k ks ts)]=_;rw[qV]
theorem mem_sortK{k:List Nat}{ks:C6}:k∈xC ks↔k∈ks:=(xF ks).mem_iff
theorem zCd{ts:B0}(h:∀t∈ts,T.few t):d8 ts:=by
 induction ts with|nil=>exact mT|cons t ts b=>exact{h t mE,b λu a=>h u (mI _ a)}
theorem yGm{n:Nat}{ts:B0}(h:∀t∈ts,l7 t<=n):i7 ts<=n:=by
 induction ts with|nil=>exact nJ _|cons t ts b=>exact Nat.max_le.mpr {h t mE,b λu a=>h u (mI _ a)}
theorem zLz{ks:C6}{ts:B0}(c:ks...*=ts...*)(h:d8 ts):d8 (uK ks ts):=by
 refine zCd λt b=>?_;obtain⟨k,a,rfl⟩:=nS.mp b;exact{by simp,mT,b7 h (yC (mem_sortK.mp a) c),mT}
theorem zPt{ks:C6}{ts:B0}(c:ks...*=ts...*):i7 (uK ks ts)<=i7 ts+1:=by
 refine yGm λt b=>?_;obtain⟨k,a,rfl⟩:=nS.mp b;let:=j7 (yC (mem_sortK.mp a) c);show max 0 (max (l7 (zH k ks ts)) 0)+1<=_
 lia
theorem zFu(ks:C6)(ts:B0):(uK ks ts)...*=ks...*:=by
 rw[uK,mJ];exact(xF ks).length_eq
theorem vH(ts:B0):(xL ts)...*=ts...*:=by rw[kJ,mJ]
theorem uJ{ts:B0}{i:Nat}{t:T}(h:ts[i]? =Y t):(xL ts)[i]? =Y (zN t):=by rw[kJ,nG,h];rfl
theorem Rep.at_name{H:Hp}{ps:D7}{ks:C6}{us:B0}(f:ks.Nodup)(e:ps.map (·.1)=ks.map λk=>(Sum.inr (tx k):Key))(n:Reps H (ps.map (·.2)) us){k:List Nat}(l:k∈ks):
  ∃v,jL ps (Sum.inr (tx k))=Y v/\Rep H v (zH k ks us):=by
 obtain⟨j,g⟩:=aP.mp l;let c:(ps.map (·.1))[j]? =Y (Sum.inr (tx k):Key):=by rw[e,nG,g];rfl
 rw[nG] at c
 cases a:ps[j]? with
 |none=>rw[a] at c;cases c|some d=>
  rw[a] at c;let h:d.1=(Sum.inr (tx k):Key):=mQ c;let b:ps[j]? =Y ((Sum.inr (tx k):Key),d.2):=by rw[a,<-h]
  obtain⟨t,o,m⟩:=n.get (i:=j) (v:=d.2) (by rw[nG,a];rfl);refine{d.2,zCl (by rw[e];exact uR f) b, ?_};rw[kM f g o];exact m
def LtM(P:V3)(w:V4)(A:Around)(s:V2)(u v:V0)(b:Bool):Prop:=∀(E:C9)(Q:C9),Q (.bool b) s->V8 (S5 P w) A (richCompare .Lt u v) Q E s
def EqB(P:V3)(w:V4)(A:Around)(s:V2)(u v:V0)(b:Bool):Prop:=∀(E:C9)(Q:Bool->V2->Prop),Q b s->V8 (S5 P w) A (eqBool u v) Q E s
inductive Zc (P:V3) (w:V4) (A:Around) (s:V2):List V0->List V0->Int->Prop
 |nil:Zc P w A s [] [] 0
 |less {y:V0} {ys:B7}:Zc P w A s [] (y::ys) (-1)
 |more {x:V0} {xs:B7}:Zc P w A s (x::xs) [] 1
 |eq {x y:V0} {xs ys:B7} {c:Int}:EqB P w A s x y true->Zc P w A s xs ys c->Zc P w A s (x::xs) (y::ys) c
 |ne {x y:V0} {xs ys:B7} {c:Int}:EqB P w A s x y false->LtM P w A s x y (decide (c<0))->c≠0->Zc P w A s (x::xs) (y::ys) c
section
variable{P:V3}{w:V4}{A:Around}{s:V2}{E:C9}
end
section
variable{X:Cx}{pins:C7}{σ:St}{H:Hp}{s:V2}
end
noncomputable def rawC:C->T
 |.str x=>.str x|_=>.non
mutual
noncomputable def rk:C->T
 |.non=>.tup [.int 0]|.bl b=>.tup [.int 1, .bl b]|.int i=>.tup [.int 2, .int i]|.str x=>.tup [.int 3, .str x]|.row cs=>.tup [.int 4, .tup (rks cs)]|.rcd cs=>.tup [.int 5, .tup (rkps cs)]|.odd=>.non
noncomputable def rks:List C->List T
 |[]=>[]|c::a=>rk c::rks a
noncomputable def rkps:List C->List T
 |[]=>[]|c::a=>rkq c::rkps a
noncomputable def rkq:C->T
 |.row cs=>.tup (rkl cs)|.non=>.non|.bl _=>.non|.int _=>.non|.str _=>.non|.rcd _=>.non|.odd=>.non
noncomputable def rkl:List C->List T
 |[]=>[]|c::a=>rawC c::rks a
end
mutual
def C.ok:C->Prop
 |.odd=>False|.row cs=>C.oks cs|.rcd cs=>n9 cs|.non=>True|.bl _=>True|.int _=>True|.str _=>True
def C.oks:List C->Prop
 |[]=>True|c::a=>C.ok c/\C.oks a
def n9:List C->Prop
 |[]=>True|c::a=>C.okq c/\n9 a
def C.okq:C->Prop
 |.row cs=>C.okl cs|.non=>False|.bl _=>False|.int _=>False|.str _=>False|.rcd _=>False|.odd=>False
def C.okl:List C->Prop
 |[]=>False|c::a=>(∃k,c= .str k)/\a...*=1/\C.oks a
end
theorem d9{n:Nat}{ts:B0}(h:∀t∈ts,T.dep t<=n):T.deps ts<=n:=by
 induction ts with|nil=>exact nJ _|cons t ts b=>exact Nat.max_le.mpr {h t mE,b λu a=>h u (mI _ a)}
section
variable{X:Cx}
end
theorem zIc{α:Type}:∀(l:List α),(List.range l...*).filterMap (l[·]?)=l
 |[]=>rfl|a::l=>by
  rw[mX,List.range_succ_eq_map,pW];show a::List.filterMap _ _=_;rw[List.filterMap_map]
  congr 1
  exact zIc l
theorem zTq(n:Nat):sliceRange ((n:Int)- 1) (-1) (-1)=(List.range n).reverse:=by
 unfold sliceRange;apply List.ext_getElem
 ·by_cases h:n=0
  ·simp[h]
  ·simp
   lia
 ·intro i b a
  simp at a;simp
  lia
theorem yAo{α:Type}(xs:Array α):(List.range xs.size).reverse.filterMap (xs[·]?)=xs.toList.reverse:=by
 rw[List.filterMap_reverse]
 congr 1
 let z:=zIc xs.toList;rw[tM] at z
 simpa using z
theorem zZf(items:Array V0):slicePick items none none ↥(-1)=items.toList.reverse.toArray:=by
 unfold slicePick;let a:sliceBounds none none ↥(-1) items.size=((items.size:Int)- 1,-1,-1):=by first | rfl | simp[sliceBounds]
 rw[a];show((sliceRange ((items.size:Int)- 1) (-1) (-1)).filterMap (items[·]?)).toArray=_;rw[zTq,yAo]
section
variable{X:Cx}{e k:Expr}{te:TE}{tk:TO}{pos p2:Pos}
def RvR(X:Cx)(r:V->Hp->VK->Prop):Prop:=
 ∀(a:C7)(s:V2)(σ:St)(H:Hp)(x:V)(v c:V0)(b:V1)(Q:VK),Inv X a σ H s->RelV x v->s.heap.IsSliceOf b .none .none c->IsPart c ↥(-1)->r x H Q->
  ∃T id,typeLookup (.type T) "__getitem__" =pure ↥(.builtin id)/\s.TypeIs v T/\V8 (S5 X.prog X.w) X.A (getItem v (.ref b)) (EP X a σ Q) X.xe s
def tRev(r:V->Hp->VK->Prop)(te:TE)(tk:TO):TE:=λσ H Q=>te σ H λx b=>tk σ b λst a=>st=Y (-1)/\r x a Q
theorem zYz{r:V->Hp->VK->Prop}(y:RvR X r)(B:PE X e te)(l:PO X ↥k tk):PE X (.Subscript e (.Slice none none ↥k p2) pos) (tRev r te tk):=by
 intro a s σ H Q I h;refine Subscript_ (thn (B a s σ H _ I h) λv t z_=>?_);obtain⟨x,w,m,n,z⟩:=z_;refine wpAny_Slice ?_;rw[evalPart_none];refine nB ?_;refine nB ?_;refine thn (l a t σ w _ m z) λd c z_=>?_;obtain⟨u,g,i,o,f⟩:=z_;obtain⟨rfl,f⟩:=f;let p:Inv X a σ g {c with heap:=c.heap.push {cls:=.type "slice",data:=.fields #[.none, .none,d]}}:=i.kept (t':=c.toks) λb E q=>mO _ q;refine yO (y a {c with heap:=c.heap.push {cls:=.type "slice",data:=.fields #[.none, .none,d]}} σ g x v d c⁻¹ Q p n (Heap.IsSliceOf.new ..) o f) λT id A D j=>?_;show V8 (S5 X.prog X.w) X.A (subscriptTail e (.Slice none none ↥k p2) v (.ref c⁻¹)) (EP X a σ Q) X.xe {c with heap:=c.heap.push {cls:=.type "slice",data:=.fields #[.none, .none,d]}};exact tail_any (ops:=[v, .ref c⁻¹]) D A j (by with_unfolding_all rfl)
def rRvL(K:A6):V->Hp->VK->Prop:=λx H Q=>∃a b,x= .ref a/\SqL K H a b/\∀l,H l=none->Q (.ref l) (upd H l (.lst b.reverse))
theorem zSl:RvR X (rRvL X.K):=by
 intro d s σ H x v w u Q I m l t h;ext yO h a n c p q;subst c;cases m;refine xE (I.list p) λi r g j=>?_;let f:=r...*;refine{"list",_,slot_list_getitem.lookup,g.isList.typeIs, ?_};refine wpAny_getItem_list_slice g.isList l .none .none t (by simp) ?_ (by rw[nD]<;>lia);rw[zZf];refine{.ref s⁻¹,_,I.laid (t':=s.toks) (o:=.lst n.reverse) (λb y q=>mO _ q) (mC _) ?_,O,q _ (I.hok.fresh (mC _))};exact{by rw[pJ];exact j,_,0,r.reverse,nQ _ O}
end
mutual
def T.calm:T->Prop
 |.int i=>-(10 ^ 12)<=i/\i<=10 ^ 12|.str x=>x...*<=100|.lst ts=>k6 ts|.dic _ ts=>k6 ts|.tup ts=>k6 ts|.non=>True|.bl _=>True
def k6:List T->Prop
 |[]=>True|t::ts=>T.calm t/\k6 ts
end
structure Fit(d z:Nat)(t:T):Prop where
 few:T.few t
 calm:T.calm t
 dep:T.dep t<=d
 sz:T.sz t<=z
theorem zBx{K:A6}{H:Hp}{p:V1}{xs:B3}{i:Int}{Q:VK}(h:H p=Y (.lst xs))(c:0<=i)(d:i<xs...*)(q:∀x∈xs,Q x H):yAl K (.ref p) (.int i) H Q:=by
 obtain⟨x,a,b⟩:=zAi c d;exact yH (SqL.of h) a (q x b)
theorem qF:∀(n:Nat)(t:T),T.dep t<=n->T.few t->T.pure t:=by
 intro n
 induction n with
 |zero=>
  intro t b a
  cases t with|lst ts=>exact absurd b (aU _)|dic e ts=>exact absurd b (aU _)|tup ts=>exact a.elim|_=>exact mT
 |succ n f=>
  let all:∀ts:List T,T.deps ts<=n->d8 ts->j8 ts:=by
   intro ts
   induction ts with
   |nil=>intros;exact mT|cons t ts c=>
    intro b a;let d:max (T.dep t) (T.deps ts)<=n:=b;exact{f t ∅ a.1,c ∅ a.2}
  intro t b a
  cases t with|lst ts=>exact all ts (Nat.le_of_succ_le_succ b) a.2|dic e ts=>exact{a.1,all ts (Nat.le_of_succ_le_succ b) a.2.2.2}|tup ts=>exact a.elim|_=>exact mT
section
variable{P:V3}{w:V4}
end
section
variable{X:Cx}
end
theorem zLv(xs:B3)(i:Nat):zCo xs ↥(i:Int) none=xs.drop i:=by
 unfold zCo;rw[HT.sIx_nat];show(xs.drop (min i xs...*)).take (xs...* - min i xs...*)=_
 by_cases h:i<=xs...*
 ·rw[dS h,sK (by rw[nI];lia)]
 ·rw[dL ∅,aV,rC ∅,List.take_nil]
theorem zNo(xs:B3):zCo xs none ↥(-1)=xs.take (xs...* - 1):=by
 unfold zCo;show(xs.drop 0).take ((-1+(xs...*:Int)).toNat - 0)=_;rw[aO,dM]
 congr 1
 lia
theorem Reps.take{H:Hp}:∀{xs:B3}{us:B0}(i:Nat),Reps H xs us->Reps H (xs.take i) (us.take i)
 |xs,us,0,_=>by rw[cU,cU];exact O|xs,[],i+1,h=>by cases (show xs= [] from h);exact O|xs,u::us,i+1,⟨x,r,e,b,a⟩=>by
  subst e;rw[List.take_succ_cons,List.take_succ_cons];exact{x,_,O,b,Reps.take i a}
theorem Reps.drop{H:Hp}:∀{xs:B3}{us:B0}(i:Nat),Reps H xs us->Reps H (xs.drop i) (us.drop i)
 |xs,us,0,h=>by rw[aO,aO];exact h|xs,[],i+1,h=>by cases (show xs= [] from h);exact O|xs,u::us,i+1,⟨x,r,e,b,a⟩=>by
  subst e;rw[List.drop_succ_cons,List.drop_succ_cons];exact Reps.drop i a
theorem Reps.reverse{H:Hp}:∀{xs:B3}{us:B0},Reps H xs us->Reps H xs.reverse us.reverse
 |xs,[],h=>by cases (show xs= [] from h);exact O|xs,u::us,⟨x,r,e,b,a⟩=>by
  subst e;rw[tU,tU];exact Reps.snoc b (Reps.reverse a)
theorem szs_append:∀(a b:B0),T.szs (a++b)=T.szs a+T.szs b
 |[],b=>by show T.szs b=0+T.szs b;lia|u::a,b=>by
  show T.sz u+T.szs (a++b)=T.sz u+T.szs a+T.szs b;rw[szs_append a b];lia
theorem sz_pos:∀(t:T),1<=T.sz t
 |.lst ts=>rK (nJ _)|.dic _ ts=>rK (nJ _)|.tup ts=>rK (nJ _)|.non=>mC _|.bl _=>mC _|.int _=>mC _|.str _=>mC _
theorem zRk:∀(ts:B0),ts...*<=T.szs ts
 |[]=>mC _|t::ts=>by
  let:=zRk ts;let:=sz_pos t;show ts...*+1<=T.sz t+T.szs ts
  lia
section
variable{X:Cx}{pins:C7}{σ σ':St}{H H':Hp}{s s':V2}
theorem Inv.freezeL{d:V1}{xs:B3}{o:Obj}(I:Inv X pins σ H s)(h:H d=Y (.lst xs))(i:s.heap.get? d=Y o):Inv X pins σ (upd H d (.frz o (.lst xs))) s:=by
 let c:∀b u,H b=u->u≠Y (.lst xs)->b≠d:=λb u e n z=>by subst z;exact n (e.symm.trans h)
 refine I.sim (λb e=>by rw[zM (c b _ e (by intro z;cases z))];exact e) (λb a e=>by rw[zM (c b _ e (by intro z;cases z))];exact e) (λb a e=>by rw[zM (c b _ e (by intro z;cases z))];exact e)
  (λb a e=>by rw[zM (c b _ e (by intro z;cases z))];exact e) (λb j u e=>?_) λb u e=>?_
 ·let f:=I.base.frzs b j u e
  rw[zM (c b _ f (by intro z;cases z))];exact f
 ·by_cases g:b=d
  ·subst g
   rw[zD] at e;cases e;exact .inr (.inr ⟨o,_,O,h,i⟩)
  ·rw[zM g] at e;exact .inl e
def zQk(d:V1)(t:TE):TE:=λσ H Q=>(∃a,H d=Y (.dK a)/\∀o,t σ (upd H d (.frz o (.dK a))) λv H'=>Q v (thaw H H'))\/∃b,H d=Y (.lst b)/\∀o,t σ (upd H d (.frz o (.lst b))) λv H'=>Q v (thaw H H')
def zJi(t:TE):TE:=λσ H Q=>∃d,zQk d t σ H Q
theorem zEw{e:Expr}{t:TE}(h:PE X e t):PE X e (zJi t):=by
 intro pins s σ H Q I q;obtain⟨d,⟨l,a,q⟩|⟨m,a,q⟩⟩:=q
 ·obtain⟨_,_,k,_,D⟩:=zQi I.hok a
  obtain⟨o,b,_⟩:=D.typeIs;refine thn (h pins s σ _ _ (I.freeze a b) (q o)) λu g z_=>?_;obtain⟨v,i,f,r,c⟩:=z_;exact {v,_,I.thaw f,r,c}
 ·refine xE (I.list (SqL.of a)) λk p j _=>?_
  ext wO j o n b _;refine thn (h pins s σ _ _ (I.freezeL a b) (q o)) λu g z_=>?_;obtain⟨v,i,f,r,c⟩:=z_;exact ⟨v,_,I.thaw f,r,c⟩
end
def wB(H:Hp)(d:V1):Hp:=λb=>if b=d then none else H b
theorem xZ{H:Hp}{d b:V1}(h:b≠d):wB H d b=H b:=mK h
theorem kX{H:Hp}{d:V1}:wB H d d=none:=mN O
theorem kG{H:Hp}{d:V1}{u:HO}:wB (upd H d u) d=wB H d:=by
 funext b
 by_cases h:b=d
 ·subst h;rw[kX,kX]
 ·rw[xZ h,xZ h,zM h]
theorem zBo{H:Hp}{d:V1}{u:HO}:Same (wB H d) (upd H d u):=λb v e=>by
 by_cases h:b=d
 ·subst h;rw[kX] at e;cases e
 ·rw[xZ h] at e;rw[zM h];exact e
theorem wV{H:Hp}{d:V1}:Same (wB H d) H:=λb v e=>by
 by_cases h:b=d
 ·subst h;rw[kX] at e;cases e
 ·rw[xZ h] at e;exact e
theorem xP{H a:Hp}{d:V1}(h:Same H a):Same (wB H d) (wB a d):=λb v e=>by
 by_cases c:b=d
 ·subst c;rw[kX] at e;cases e
 ·rw[xZ c] at e⊢;exact h b v e
theorem Rep.off{H a:Hp}{d:V1}{o:Obj}{u:HO}(f:a d=Y (.frz o u)){v:V}{t:T}(h:Rep a v t):Rep (wB (L2.thaw H a) d) v t:=
 Rep.plain (λb w n e=>by
  let c:b≠d:=λz=>by subst z;rw[f] at e;cases e;exact n _ _ O
  rw[xZ c];exact wP e n) v t h
theorem zSr{H a:Hp}{d:V1}{o:Obj}{u:HO}(c:H d=Y u)(b:∀o v,u≠ .frz o v)(g:Same (upd H d (.frz o u)) a):L2.thaw H a d=Y u:=
 zRp (g d _ zD) λo v z=>b o v (mQ (c.symm.trans z))
noncomputable def uL:Nat->Nat
 |0=>1|d+1=>4*uL d+1
theorem zAz:∀d,1<=uL d
 |0=>mC _|d+1=>rK (nJ _)
theorem zVv:∀d,d<=4->uL d<=341:=by
 intro d h;let:d=0\/d=1\/d=2\/d=3\/d=4:=by lia
 rcases this with rfl | rfl | rfl | rfl | rfl<;>decide
theorem zDb{n:Nat}:∀{ts:B0},(∀t∈ts,T.sz t<=n)->T.szs ts<=ts...**n
 |[],_=>nJ _|t::ts,h=>by
  let c:=h t mE;let b:=zDb (ts:=ts) λu a=>h u (mI _ a);show T.sz t+T.szs ts<=(ts...*+1)*n;rw[Nat.add_mul];lia
theorem zNh{X:Cx}{K:A6}(h:X.K=K):IxR X (yAl K):=by subst h;exact zU
end L2
namespace L2
open PySem PySem.Spec PyProof.Rows PySem.Builtin PySem.Builtin.Str
section
variable{prog:V3}{w:V4}{A:Around}{E:C9}{s:V2}{x y:Str}{t u:Tok}{Q:C9}
end
section
variable{X:Cx}
end
structure Bl3(mg:C8):Prop extends Bl2 mg where
 abs:mg "abs" =none
end L2
namespace L2
open PySem PySem.Spec PyProof.Rows
noncomputable def qC(a:List Int)(k:Int):Int:=
 let m:=if a= [] then k*7919 else(k*7919+k / a...**104729+a.getD (k % a...*).toNat 0*48271)% 1000003
 (m*m / 11+13*m)% 1000003
theorem jG(a:List Int)(k:Int):0<=qC a k:=sT _ ∎
theorem jE(a:List Int)(k:Int):qC a k<1000003:=sP _ ∎
theorem zGm{α:Type}(f:Nat->α)(i:Nat):(List.range (i+1)).map f=(List.range i).map f++ [f i]:=by rw[rG,mU];rfl
noncomputable def yQ(n:List Nat)(t:T):List (List Nat)->List T->List T
 |k::b,u::a=>(if k=n then t else u)::yQ n t b a|_,a=>a
noncomputable def yE(p:List (List Nat)×List T)(n:List Nat)(t:T):List (List Nat)×List T:=if n∈p.1 then(p.1,yQ n t p.1 p.2) else(p.1++ [n],p.2++ [t])
theorem gT(n:List Nat)(t:T):∀(ks:C6)(us:B0),(yQ n t ks us)...*=us...*
 |[],us=>by unfold yQ;rfl|_::_,[]=>rfl|k::ks,u::us=>by
  show(yQ n t ks us)...*+1=us...*+1;rw[gT n t ks us]
theorem zAr(n:List Nat)(t:T):∀(ks:C6)(us:B0)(u:T),u∈yQ n t ks us->u∈us\/u=t
 |[],us,u,h=>by unfold yQ at h;exact .inl h|_::_,[],u,h=>.inl h|k::ks,v::us,u,h=>by
  let a:u∈(if k=n then t else v)::yQ n t ks us:=h;rcases mG.mp a with z | z
  ·split at z
   ·exact .inr z
   ·exact .inl (by rw[z];exact mE)
  ·exact(zAr n t ks us u z).imp (mI _) id
theorem j9{H:Hp}{n:List Nat}{v:V}{t:T}(d:Rep H v t):∀{ps:D7}{ks:C6}{us:B0},ps.map (·.1)=ks.map nK->Reps H (ps.map (·.2)) us->Reps H ((ps.map λkv=>if kv.1=nK n then(kv.1,v) else kv).map (·.2)) (yQ n t ks us)
 |[],[],us,_,h=>by
  let e:yQ n t [] us=us:=by unfold yQ;rfl
  rw[e];exact h
 |[],_::_,_,e,_=>by simp at e|_::_,[],_,e,_=>by simp at e|p::ps,k::ks,[],_,h=>by
  let f:(p::ps).map (·.2)= []:=h;cases f
 |p::ps,k::ks,u::us,e,⟨j,r,g,s,o⟩=>by
  let w:p.2::ps.map (·.2)=j::r:=g;injection w with i l;subst i l;let q:p.1::ps.map (·.1)=nK k::ks.map nK:=e;injection q with c m;let b:=j9 (n:=n) d m o
  by_cases a:k=n
  ·refine{v,_, ?_, ?_,b}
   ·rw[nO,mN (by rw[c,a]),nO]
   ·rw[mN a];exact d
  ·refine{p.2,_, ?_, ?_,b}
   ·rw[nO,mK (by rw[c];exact λz=>a (zAe z)),nO]
   ·rw[mK a];exact s
theorem zFx{H:Hp}{ps:D7}{p:List (List Nat)×List T}{n:List Nat}{v:V}{t:T}(b:ps.map (·.1)=p.1.map nK)(g:Reps H (ps.map (·.2)) p.2)(j:Rep H v t):
  (jK ps (nK n) v).map (·.1)=(yE p n t).1.map nK/\Reps H ((jK ps (nK n) v).map (·.2)) (yE p n t).2:=by
 let i:(ps.any λa=>decide (a.1=nK n))=true↔n∈p.1:=by
  rw[dH];constructor
  ·rintro⟨a,d,e⟩
   let:nK n∈ps.map (·.1):=nS.mpr {a,d,rJ e};rw[b] at this;obtain⟨k,f,c⟩:=nS.mp this;rw[<-zAe c];exact f
  ·intro h
   let:nK n∈ps.map (·.1):=by rw[b];exact nS.mpr ⟨n,h,O⟩
   obtain⟨a,f,c⟩:=nS.mp this;exact{a,f,nF c}
 unfold jK yE
 by_cases h:n∈p.1
 ·rw[mN (i.mpr h),mN h]
  refine{?_,j9 j b g};show _=p.1.map nK;rw[<-b,sH];apply rL;intro q _;show(if q.1=nK n then(q.1,v) else q).1=q.1;split<;>rfl
 ·rw[mK (λz=>h (i.mp z)),mK h]
  exact{by rw[mU,b,mU];rfl,by rw[mU];exact Reps.snoc j g}
end L2
namespace L2
open PySem PySem.Spec PyProof.Rows PySem.Builtin PySem.Builtin.Str
theorem zPh{k:List Nat}(h:xA k=true):k...*<=12:=by
 unfold xA at h;simp only[nH,nX] at h
 lia
end L2
namespace L2
open PySem PySem.Spec PyProof.Rows
section
variable{X:Cx}
def zZo(t u:TE):TE:=λσ H Q=>t σ H Q\/u σ H Q
theorem zDe{e:Expr}{t u:TE}(c:PE X e t)(b:PE X e u):PE X e (zZo t u):=λa s σ H Q I h=>h.elim (c a s σ H Q I) (b a s σ H Q I)
end
noncomputable def yDx:T->List T
 |.lst us=>(List.range us...*).map fun(i:Nat)=>T.int (i:Int)|.dic ks _=>(xC ks).map T.str|_=>[]
noncomputable def kid:T->T->T
 |.lst a, .int i=>a.getD i.toNat .non|.dic ks a, .str k=>zH k ks a|_,_=>.non
theorem zRe{t s:T}(h:T.few t)(d:s∈yDx t):T.few (kid t s)/\T.dep (kid t s)<T.dep t/\T.sz (kid t s)<T.sz t:=by
 cases t with
 |lst a=>
  obtain⟨i,c,rfl⟩:=nS.mp d;let c:=sI.mp c;let e:kid (.lst a) (T.int (i:Int))=a[i]:=by
   show a.getD (i:Int).toNat .non=_;rw[rN,nE,mP c];rfl
  rw[e];let b:a[i]∈a:=cF c;exact{b7 h.2 b,bW (b8 b),bW (c8 b)}
 |dic j a=>
  obtain⟨k,f,rfl⟩:=nS.mp d;ext yZ h n g l m;let b:zH k j a∈a:=yC (mem_sortK.mp f) l;exact{b7 m b,bW (b8 b),bW (c8 b)}
 |_=>cases d
section
variable{X:Cx}{pins:C7}{σ:St}{H:Hp}{s:V2}{h':V5}
theorem Inv.turnedNew{fp:B9}{a:V1}{o:HO}{t':Nat}(I:Inv X pins σ H s)(l:∀b∈fp,zBz X pins H b)(k:∀b d,b∉fp->s.heap.get? b=Y d->h'.get? b=Y d)(t:s⁻¹<=a)
  (j:ObjOk X.prog X.w (upd H a o) h' a o):Inv X pins σ (upd H a o) {s with heap:=h',toks:=t'}:=by
 let h:H a=none:=I.hok.fresh t;let g:∀b u,H b=Y u->b∉fp:=λb u e z=>by rw[(l b z).1] at e;cases e
 let p:∀b d,s.heap.get? b=Y d->b≠a:=λb d e=>nV (nR (mW e) t);refine I.step (g':=s.gens) (d':=s.drawn) (ch:=fp) (λb i=>?_) (λb d _ _ f e _=>k b d f e) (λb d _ _ f e _=>{d.slots,k b d f e}) (λb d _ e n=>by rw[zM (p b d e)];exact n)
  (λb d f e=>{d,k b d f e}) (λb E e=>by rw[zM (yK e h)];exact e) (λb d u e=>by rw[zM (yK e h)];exact e) (λb M e=>{#[],by rw[zM (yK e h),e];simp}) (λm y=>?_) (λb u e=>?_) I.bare
 ·refine zS (l b i) λ_ B _ D x L=>?_
  exact⟨D,B,x,L⟩
 ·ext zBr y d J A w r
  exact{d,J,A,k _ d (λz=>(l _ z).2.1 O) w,r}
 ·by_cases i:b=a
  ·subst i;rw[zD] at e;cases e;exact j
  ·rw[zM i] at e
   refine(I.hok b u e).stay (λc v f q=>k c v ?_ q) (λc q=>by rw[zM (yK q h)];exact q) λc E q=>by rw[zM (yK q h)];exact q
   rcases f with z | z
   ·rw[z];exact g b u e
   ·exact g c _ z
end
def Iti(d:V1)(o:Obj)(kvs:D7):It:=
 ⟨λi H=>i<kvs...*/\H d=Y (.frz o (.dK kvs)),λi H y b=>∃p a,H p=none/\kvs[i]? =Y a/\y= .ref p/\b=upd H p (.tup [kV a.1,a.2]),λi H=>kvs...*<=i/\H d=Y (.frz o (.dK kvs))⟩
theorem zWu:entryFor table "dict_itemiterator.__iter__" =some Builtin.«dict_keyiterator.__iter__»:=
 entryFor_alias (by kernel_rfl) O (by decide+kernel) (by kernel_rfl) (id':="dict_keyiterator.__iter__")
theorem zOn{P:V3}{w:V4}{K:A6}{r:C5}{x1:Nat}{ab:Pos}(d it:V1)(o:Obj)(kvs:D7):
  zGb P w K (.Tuple r x1 ab) (Iti d o kvs) [it] it (λi h=>∃g ep p n,o.data= .dict g ep/\IsItemIter h it d i kvs...* ep p n) where
 mem:=by simp
 obj:=λi h st b l=>by
  ext yN st g ep p n _ e;let e':b=it:=by simpa using l
  subst e';exact{_,e,λv z=>by cases z}
 keep:=λi h h' st k=>by
  ext yN st g ep p n a st;exact{g,ep,p,n,a,k it (by simp) _ st}
 item:=by
  intro X hP hw hK hc i y s σ H E I L st j;subst hP hw hK;ext yN st g ep p n f st;obtain⟨hi,j⟩:=j;refine vN (zAo I.hok j f) λvs c hm _ _=>?_;let N:=c...*;obtain⟨x,t⟩:∃x,kvs[i]? =Y x:={kvs[i],by simp[hi]};refine xE (KV.get c t) λq hq ae aa=>?_;rw[N] at st;let J:it<s⁻¹:=mW st;refine wpAny_pyNext_items_item (k:=q.1) (v:=q.2) st hm hq λm h1 hk so ht hz u=>{_,O, ?_};refine wpAny_letOwnedTupleGo_items so λh2 ac M=>?_;let M:Heap.SameBut it h1 h2:=M;let af:h2.get? s⁻¹=some {cls:=.type "tuple",data:=.seq #[m,q.2]}:=(M.2 _ (rX J)).trans ht;let D:H s⁻¹=none:=I.hok.fresh (mC _);refine{.ref s⁻¹,upd H s⁻¹ (.tup [kV x.1,x.2]),I.turnedNew (t':=s.toks) L (λb ob l e=>?_) (mC _) ?_,O,⟨_,x,D,t,O,O⟩,{g,ep,m,q.2,f,by rw[N];exact ac},λb l=>?_}
  ·let B:b≠it:=by simpa using l
   exact(M.2 b B).trans (u b ob B e)
  ·refine{by rw[mV];simp,[m,q.2], .cons (by rw[ae];exact zJj hk) (.cons aa .nil),⟨_,af,O,_,O⟩}
  ·let e:b=it:=by simpa using l
   subst e;rw[zM (nV J)];exact(L _ (by simp)).1
 done:=by
  intro X hP hw hK hc i y s σ H E I L st j;subst hP hw hK;ext yN st g ep p n f st;obtain⟨hi,j⟩:=j;refine vN (zAo I.hok j f) λvs c hm _ _=>?_;refine zS (L it (by simp)) λf0 f1 f2 f3 f4 f5=>?_;let N:=c...*;rw[N] at st;exact wpAny_pyNext_items_end (I.ok.hd hc) st hm (by simp;lia) λh' eb=>{O,I.turned (t':=s.toks) (λb o l e=>eb b o l e) f0 f1 f3 f4 f5}
 self:=λA i s Q E st h=>by
  ext yN st g ep p n _ st;let hT:s.TypeIs (.ref it) "dict_itemiterator":=⟨_,st,O⟩;refine wpAny_pyIter_slot hT cQ (wpAny_call_entry cQ hT zWu ?_ (F.args_dict_itemiterator_iter_1 _));show V8 _ _ (ret (.ref it)) _ _ s;exact nB {_,O,"dict_itemiterator",_,hT,F.slot_dict_itemiterator_next.lookup,h}
noncomputable def zHm(p d:V1):HO:=.ext λh=>h.IsItemsView p d
def yEm:V->List V->Hp->VK->Prop:=λx b H Q=>∃d a,x= .ref d/\b= []/\Rd H d (.dK a)/\∀p,H p=none->Q (.ref p) (upd H p (zHm p d))
def yEp(c:TE):TI:=λσ H R=>c σ H λx b=>∃p d a,x= .ref p/\b p=Y (zHm p d)/\((b d=Y (.dK a)/\∀o,R (Iti d o a) (upd b d (.frz o (.dK a))))\/∃o,b d=Y (.frz o (.dK a))/\R (Iti d o a) b)
section
variable{X:Cx}
theorem zWg:MtR X "dict.items" yEm:=by
 intro f s σ H x u v w Q I m n h;ext zV h d t c a p q;subst c a;cases m;cases n;obtain⟨z,j,l,i,g⟩:=kW I.hok p;refine call_meetsIn PySem.F.slot_dict_items g.typeIs PySem.F.entry_dict_items (PySem.F.args_dict_items_1 _) (meets_dict_items (yU X.prog X.w) d j) {⟨l,g⟩, ?_};refine{.ref s⁻¹,_,I.laid (t':=s.toks) (λb o e=>mO _ e) (mC _) (o:=zHm s⁻¹ d) ?_,O,q _ (I.hok.fresh (mC _))};exact⟨{_,nQ _ O,O,O},{_,nQ _ O},λA y ⟨o,e,r⟩ k=>⟨o,k o e,r⟩⟩
theorem zWa{j:C5}{L:Nat}{t:Pos}{l:Expr}{M:TE}(hl:PE X l M):PI X (.Tuple j L t) l (yEp M):=by
 intro a s σ H R I h;refine thn (hl a s σ H _ I h) λv i z_=>?_;obtain⟨x,N,y,r1,q1⟩:=z_;ext yB q1 p d f E hp q;subst E;cases r1;obtain⟨hv,_⟩:=(show ObjOk X.prog X.w N i.heap p (zHm p d) from y.hok p _ hp);let u:∀o m,Inv X a σ m i->m d=Y (.frz o (.dK f))->R (Iti d o f) m->V8 (S5 X.prog X.w) X.A (pyIter (.ref p)) (PIE X a σ (.Tuple j L t) R) X.xe i:=λo m w e q=>by
  obtain⟨g,z,Q,J,n,o',D,B,A,c,k,r⟩:=(show ObjOk X.prog X.w m i.heap d (.frz o (.dK f)) from w.hok d _ e);rw[g] at A;cases A;let hm:i.heap.DictAt (yU X.prog X.w) d J B:=⟨o,D,g,c,k,r⟩;refine wpAny_pyIter_items hv hm ?_;refine⟨i⁻¹,[i⁻¹],_,_,m,O,w.kept (t':=i.toks) λb o e=>mO _ e,zOn d _ o f,⟨D,B, .none, .none,k, ?_⟩,λb hb=>?_,q⟩
  ·rw[n...*];exact nQ _ O
  ·let e:b=i⁻¹:=by simpa using hb
   subst e;exact w.fpOk (mC _) (w.hok.fresh (mC _))
 rcases q with⟨e,q⟩|⟨o,e,q⟩
 ·obtain⟨z,Q,J,n,o,D,B,A,_⟩:=(show ObjOk X.prog X.w N i.heap d (.dK f) from y.hok d _ e)
  exact u o _ (y.freeze e A) zD (q o)
 ·exact u o _ y e q
end
abbrev g2(K:A6):TG:=zXi K 2 (zNa (qG 0) (zNa (qG 1) yBh))
theorem zYi{F:List (Option V)}{x y:V}:yGs (Y x::Y y::F) (none::none::F):={O,λi v e=>by
 match i,e with
 |0,e=>cases e|1,e=>cases e|i+2,e=>exact e}
theorem zLw{K:A6}{x y:Str}{F:E1}{J:It}{n:Nat}{j:TE}{σ:St}{Q:VK}{H1:Hp}(Pv:Nat->List V->Hp->Prop)(B:n<=V9)(t:Pv 0 [] H1)(g:∀i b H,i<n->Pv i b H->J.go i H)
  (h:∀b H,Pv n b H->J.stop n H)
  (s:∀i b H z d,i<n->b...*<=i->Pv i b H->J.yld i H z d->∃a u v,z= .ref a/\SqT K d a [u,v]/\j (Y u::Y v::F.map (λp=>(σ[p.2]?).join)) d λr H4=>Pv (i+1) (b++ [r]) H4)
  (l:∀b H,b...*<=n->Pv n b H->∀p,H p=none->Q (.ref p) (upd H p (.lst b))):wL [x,y] F (g2 K) zBw j σ Q J H1:=by
 refine{λi m b H=>m=n - i/\i<=n/\Pv i b H,{n,by simp,nJ _,t}, ?_};rintro i m b H ⟨rfl,I,p⟩ k
 by_cases c:i<n
 ·refine .inr {g i b H c p,∅,Pv (i+1),λw A q=>{n - (i+1),∅,O,c,q},λz d o=>?_}
  refine yB (s i b H z d c k p o) λa u v f E D=>?_;subst f;refine{a,[u,v],O,E,O,u,[v],O,v,[],O,O, ?_};exact⟨zYi,D⟩
 ·let e:i=n:=by lia
  subst e;exact .inl {h b H p,B,l b H k p}
theorem zOv{K:A6}{x y:Str}{F:E1}{d:V1}{o:Obj}{kvs:D7}{g:TE}{σ:St}{Q:VK}{H1:Hp}(Pv:Nat->List V->Hp->Prop)(r:kvs...*<=V9)(s:Pv 0 [] H1)(hz:∀i a H,Pv i a H->H d=Y (.frz o (.dK kvs)))
  (k:∀i b a H p,kvs[i]? =Y b->a...*<=i->Pv i a H->H p=none->g (Y (kV b.1)::Y b.2::F.map (λp=>(σ[p.2]?).join)) (upd H p (.tup [kV b.1,b.2])) λz H4=>Pv (i+1) (a++ [z]) H4)
  (j:∀a H,a...*<=kvs...*->Pv kvs...* a H->∀p,H p=none->Q (.ref p) (upd H p (.lst a))):wL [x,y] F (g2 K) zBw g σ Q (Iti d o kvs) H1:=
 zLw Pv r s (λi a H h p=>{h,hz i a H p}) (λa H p=>{mC _,hz _ a H p}) (λi a H z t u q m n=>by
  ext zV n p b l f c e;subst c e;exact{p,_,_,O, .of zD,k i b a H p f q m l}) j
def Ite(K:A6)(l:V1):It:=
 {λi H=>∃a x,SqL K H l a/\a[i]? =Y x,λi H y b=>∃p x,H p=none/\y= .ref p/\(∀a,SqL K H l a->a[i]? =Y x)/\b=upd H p (.tup [.int i,x]),λi H=>∃a,SqL K H l a/\a...*<=i}
theorem zSw{P:V3}{w:V4}{K:A6}{g:C5}{x1:Nat}{ab:Pos}(l e it:V1)(r:e≠it):
  zGb P w K (.Tuple g x1 ab) (Ite K l) [e,it] e (λi h=>(∃old,IsEnum h e it (i:Int) old)/\h.IsListIter it l i) where
 mem:=by simp
 obj:=λi h st b a=>by
  obtain⟨⟨old,f⟩,o,e1,c,d⟩:=st;rcases mG.mp a with z | z
  ·subst z
   exact{_,f,λv z=>by cases z}
  ·let e':b=it:=by simpa using z
   subst e';exact{o,e1,λv z=>by rw[d] at z;cases z}
 keep:=λi h h' st k=>by
  obtain⟨⟨old,f⟩,st⟩:=st;exact⟨{old,k e (by simp) _ f},st.at λo q=>k it (by simp) o q⟩
 item:=by
  intro X M Q hK hc i t s σ H E I j st N;subst M Q hK;obtain⟨⟨old,f⟩,st⟩:=st;ext wO N xs x D hx;refine xE (I.list D) λaa rv p hz=>?_;obtain⟨u,hu,ru⟩:=rv.get hx;let B:e<s⁻¹:=mW f;let J:it<s⁻¹:=by obtain⟨o,q,_⟩:=id st;exact mW q
  refine wpAny_pyNext_enum_item f st p.isList (x:=u) (by simpa using hu) r λh1 so af ht ag n=>{_,O, ?_};refine wpAny_letOwnedTupleGo_enum so λh2 ac y=>?_;let y:Heap.SameBut e h1 h2:=y;let ae:h2.get? s⁻¹=some {cls:=.type "tuple",data:=.seq #[.int i s.toks,u]}:=(y.2 _ (rX B)).trans ht;let A:H s⁻¹=none:=I.hok.fresh (mC _);refine{.ref s⁻¹,upd H s⁻¹ (.tup [.int i,x]),I.turnedNew (t':=s.toks+1) j (λb ob a q=>?_) (mC _) ?_,O,{_,x,A,O,λys hy=>by rw[I.list_inj hy D];exact hx,O},{{u, ?_}, ?_},λb a=>?_}
  ·let m:b≠e:=λz=>a (by simp[z])
   let L:b≠it:=λz=>a (by simp[z]);exact(y.2 b m).trans (n b ob m L q)
  ·exact{by rw[mV];simp,[.int i s.toks,u], .cons ⟨_,O⟩ (.cons ru .nil),⟨_,ae,O,_,O⟩}
  ·let:((i+1:Nat):Int)=(i:Int)+1:=by lia
   rw[this];exact ac
  ·exact af.at λo q=>(y.2 it (Ne.symm r)).trans q
  ·rcases mG.mp a with z | z
   ·subst z
    rw[zM (nV B)];exact(j _ (by simp)).1
   ·let e':b=it:=by simpa using z
    subst e';rw[zM (nV J)];exact(j _ (by simp)).1
 done:=by
  intro X M Q hK hc i t s σ H E I j st N;subst M Q hK;obtain⟨⟨old,f⟩,st⟩:=st;obtain⟨xs,D,hx⟩:=N;refine xE (I.list D) λaa rv p hz=>?_;refine zS (j it (by simp)) λf0 f1 f2 f3 f4 f5=>?_;let hl:=rv...*;exact wpAny_pyNext_enum_end (I.ok.hd hc) f st p.isList (by simp;lia) λh' eb=>{O,I.turned (t':=s.toks) (λb o a e=>eb b o a e) f0 f1 f3 f4 f5}
 self:=λ_ _ _ _ _ st h=>wpAny_pyIter_enum st.1.choose_spec h
def zWt(K:A6)(ta:TA):TI:=λσ H R=>ta σ H λb a=>∃l c,b= [.ref l]/\SqL K a l c/\R (Ite K l) a
theorem zJt:A1 "enumerate" =Y (.type "enumerate"):=by decide+kernel
theorem zKb{X:Cx}{j:C5}{E:Nat}{m:Pos}{a:Expr}{ta:TA}{p g:Pos}(x:Gl X "enumerate")(v:X.mg "enumerate" =none)(L:PA X [a] ta)(w:A2 [a] X.env= [(false,eval a X.env)]:=by rfl):
  PI X (.Tuple j E m) (.Call (.Name "enumerate" p) [a] [] g) (zWt X.K ta):=by
 intro f s σ H R I h;refine Call_ (kI I x v zJt (pQ (thn (L g f s σ H _ I h) λus c z_=>?_) w O));obtain⟨vs,t,d,B,N⟩:=z_;ext yO N l xs e Q q;subst e
 cases B with
 |cons r y=>
  cases y;cases r;refine xE (d.list Q) λJ rv M hz=>?_;refine call_enumerate_list M.isList λh' u st A k=>?_;refine wpAny_pyIter_enum (it:=c⁻¹) (i:=0) (old:=.none) u ?_;let n:t c⁻¹=none:=d.hok.fresh (mC _);let o:t (c⁻¹+1)=none:=d.hok.fresh (pV _);refine{c⁻¹+1,[c⁻¹+1,c⁻¹],_,_,t,O,d.kept (t':=c.toks) k,zSw l _ _ (Nat.succ_ne_self _),{{.none,u},st},λb D=>?_,q};rcases mG.mp D with z | z
  ·subst z;exact d.fpOk (pV _) o
  ·let e':b=c⁻¹:=by simpa using z
   subst e';exact d.fpOk (mC _) n
theorem zIr{K:A6}{x y:Str}{F:E1}{l:V1}{xs:B3}{d:TE}{σ:St}{Q:VK}{H1:Hp}(Pv:Nat->List V->Hp->Prop)(n:xs...*<=V9)(r:Pv 0 [] H1)(hz:∀i a H,i<=xs...*->Pv i a H->SqL K H l xs)
  (g:∀i v a H p,xs[i]? =Y v->a...*<=i->Pv i a H->H p=none->d (Y (.int i)::Y v::F.map (λp=>(σ[p.2]?).join)) (upd H p (.tup [.int i,v])) λz H4=>Pv (i+1) (a++ [z]) H4)
  (f:∀a H,a...*<=xs...*->Pv xs...* a H->∀p,H p=none->Q (.ref p) (upd H p (.lst a))):wL [x,y] F (g2 K) zBw d σ Q (Ite K l) H1:=
 zLw Pv n r (λi a H h p=>{xs,xs[i],hz i a H (tY h) p,by simp[h]}) (λa H p=>{xs,hz _ a H (mC _) p,mC _}) (λi a H z s o m e k=>by
  ext zV k p v j b q c;subst b c;exact{p,_,_,O, .of zD,g i v a H p (q xs (hz i a H (tY o) e)) m e j}) f
noncomputable def tyR(H:Hp):V->Option String
 |.ref a=>match H a with
  |some (.frz _ (.dK _))=>some "dict"|_=>tyS H (.ref a)
 |v=>tyS H v
theorem yBz{H:Hp}{x:V}{t:String}(h:tyR H x=Y t):t∈tyL:=by
 cases x with
 |ref a=>
  let c:(match H a with | some (.frz _ (.dK _))=>some "dict" | _=>tyS H (.ref a))=Y t:=h
  split at c
  ·cases c;simp[tyL]
  ·exact vU c
 |non=>exact vU (H:=H) (show tyS H .non=Y t from h)|bl b=>exact vU (H:=H) (show tyS H (.bl b)=Y t from h)|int b=>exact vU (H:=H) (show tyS H (.int b)=Y t from h)|str b=>exact vU (H:=H) (show tyS H (.str b)=Y t from h)|byt b=>exact vU (H:=H) (show tyS H (.byt b)=Y t from h)|flt b=>exact vU (H:=H) (show tyS H (.flt b)=Y t from h)|ty b=>exact vU (H:=H) (show tyS H (.ty b)=Y t from h)
theorem zOa{H:Hp}{x:V}{t:String}(h:tyS H x=Y t):tyR H x=Y t:=by
 cases x with
 |ref a=>
  show(match H a with | some (.frz _ (.dK _))=>some "dict" | _=>tyS H (.ref a))=Y t
  split
  ·rename_i o kvs e
   let b:(match H a with | some (.lst _)=>some "list" | some (.tup _)=>some "tuple" | some (.dK _)=>some "dict" | _=>none)=Y t:=h
   rw[e] at b;cases b
  ·exact h
 |_=>exact h
theorem yAf{H:Hp}{a:V1}{ps:D7}(h:Rd H a (.dK ps)):tyR H (.ref a)=some "dict":=by
 rcases h with h |⟨o,h⟩
 ·exact zOa (uV h)
 ·show(match H a with | some (.frz _ (.dK _))=>some "dict" | _=>tyS H (.ref a))=some "dict"
  rw[h]
section
variable{X:Cx}
theorem jY{T:String}(g:T∈tyL):wR X (.builtin "isinstance") (λxs H Q=>∃x t,xs= [x, .ty T]/\tyR H x=Y t/\Q (.bl (zX t T)) H):=by
 intro b s σ H xs i Q I r h;ext yO h x t c j q;subst c
 cases x with
 |ref a=>
  let d:(match H a with | some (.frz _ (.dK _))=>some "dict" | _=>tyS H (.ref a))=Y t:=j
  split at d
  ·rename_i o kvs e
   cases d;refine yO (zEf r) λu v c l f=>?_;subst c;cases (show v=Value.type T from f);cases (show u=Value.ref a from l);obtain⟨_,_,w,_,p⟩:=kW I.hok (.inr ⟨o,e⟩);ext yB p m B y n k _;exact tS cV I.kIn ⟨m,n,k.1⟩ (zDi (by simp[tyL]) g) (λz=>nomatch z) λA=>{.bl _,H,I.tok _,O,q}
  ·exact zFy g b s σ H _ i Q I r ⟨_,t,O,d,q⟩
 |_=>exact zFy g b s σ H _ i Q I r ⟨_,t,O,j,q⟩
theorem zDv:wR X (.builtin "len") (λxs H Q=>∃a kvs,xs= [V.ref a]/\Rd H a (.dK kvs)/\Q (.int kvs...*) H):=by
 intro c s σ H xs g Q I r h;ext yO h a kvs b d q;subst b;obtain⟨u,rfl,f⟩:=jP r;cases f;exact yCm I d λt i e=>{.int kvs...*,H,e,⟨t,O⟩,q}
end
mutual
def Rp(H:Hp):V->T->Prop
 |v, .non=>v= .non|v, .bl b=>v= .bl b|v, .int i=>v= .int i|v, .str x=>v= .str (tx x)|v, .lst ts=>∃a c,v= .ref a/\H a=Y (.lst c)/\Rps H c ts|v, .dic e ts=>∃a d,v= .ref a/\Rd H a (.dK d)/\d.map (·.1)=e.map (λk=>(Sum.inr (tx k):Key))/\Rps H (d.map (·.2)) ts|v, .tup ts=>∃a c,v= .ref a/\H a=Y (.tup c)/\Rps H c ts
def Rps(H:Hp):List V->List T->Prop
 |vs,[]=>vs= []|vs,t::ts=>∃v r,vs=v::r/\Rp H v t/\Rps H r ts
end
mutual
theorem Rp.mono{H k:Hp}(e:∀b xs,H b=Y (.lst xs)->k b=Y (.lst xs))(i:∀b xs,H b=Y (.tup xs)->k b=Y (.tup xs))(j:∀b l,Rd H b (.dK l)->Rd k b (.dK l)):∀(v:V)(t:T),Rp H v t->Rp k v t
 |_, .non,h=>h|_, .bl _,h=>h|_, .int _,h=>h|_, .str _,h=>h|_, .lst ts,⟨a,c,f,d,g⟩=>{a,c,f,e _ _ d,Rps.mono e i j c ts g}|_, .dic n ts,⟨a,l,f,d,g,m⟩=>{a,l,f,j _ _ d,g,Rps.mono e i j _ ts m}|_, .tup ts,⟨a,c,f,d,g⟩=>{a,c,f,i _ _ d,Rps.mono e i j c ts g}
theorem Rps.mono{H a:Hp}(e:∀b xs,H b=Y (.lst xs)->a b=Y (.lst xs))(c:∀b xs,H b=Y (.tup xs)->a b=Y (.tup xs))(d:∀b ps,Rd H b (.dK ps)->Rd a b (.dK ps)):∀(vs:B3)(ts:B0),Rps H vs ts->Rps a vs ts
 |_,[],h=>h|_,t::ts,⟨v,r,g,f,i⟩=>{v,r,g,Rp.mono e c d v t f,Rps.mono e c d r ts i}
end
theorem Rd.same{H b:Hp}(g:Same H b){a:V1}{u:HO}(h:Rd H a u):Rd b a u:=h.imp (g _ _) fun⟨o,e⟩=>{o,g _ _ e}
theorem Rp.same{H a:Hp}(g:Same H a)(v:V)(t:T)(h:Rp H v t):Rp a v t:=Rp.mono (λb c=>g b _) (λb c=>g b _) (λb d h=>h.same g) v t h
theorem Rps.same{H a:Hp}(g:Same H a)(v:B3)(t:B0)(h:Rps H v t):Rps a v t:=Rps.mono (λb c=>g b _) (λb c=>g b _) (λb d h=>h.same g) v t h
theorem Rd.frz{H:Hp}{d:V1}{o:Obj}{ps:D7}(c:H d=Y (.dK ps)){b:V1}{f:D7}(h:Rd H b (.dK f)):Rd (upd H d (.frz o (.dK ps))) b (.dK f):=by
 by_cases e:b=d
 ·subst e
  rcases h with h |⟨a,h⟩
  ·rw[c] at h;cases h
   exact .inr ⟨o,zD⟩
  ·rw[c] at h;cases h
 ·exact h.imp (λh=>by rw[zM e];exact h) fun⟨a,h⟩=>{a,by rw[zM e];exact h}
theorem Rps.frz{H:Hp}{d:V1}{o:Obj}{ps:D7}(a:H d=Y (.dK ps))(v:B3)(t:B0)(h:Rps H v t):Rps (upd H d (.frz o (.dK ps))) v t:=
 Rps.mono (λb c e=>by rw[zM λz=>by rw[z,a] at e;cases e];exact e) (λb c e=>by rw[zM λz=>by rw[z,a] at e;cases e];exact e) (λb f h=>Rd.frz a h) v t h
mutual
theorem Rep.rp{H:Hp}:∀(v:V)(t:T),Rep H v t->Rp H v t
 |_, .non,h=>h|_, .bl _,h=>h|_, .int _,h=>h|_, .str _,h=>h|_, .lst ts,⟨a,b,d,c,e⟩=>{a,b,d,c,Reps.rp b ts e}|_, .dic i ts,⟨a,g,d,c,e,f⟩=>{a,g,d, .inl c,e,Reps.rp _ ts f}|_, .tup ts,⟨a,b,d,c,e⟩=>{a,b,d,c,Reps.rp b ts e}
theorem Reps.rp{H:Hp}:∀(vs:B3)(ts:B0),Reps H vs ts->Rps H vs ts
 |_,[],h=>h|_,t::ts,⟨v,r,b,a,c⟩=>{v,r,b,Rep.rp v t a,Reps.rp r ts c}
end
theorem Rps.length{H:Hp}:∀{vs:B3}{ts:B0},Rps H vs ts->vs...*=ts...*
 |_,[],e=>by
  let c:_= []:=e;subst c;rfl
 |_,g::ts,⟨d,r,a,f,b⟩=>by
  subst a;simp[Rps.length b]
theorem Rps.get{H:Hp}:∀{vs:B3}{ts:B0}{i:Nat}{v:V},Rps H vs ts->vs[i]? =Y v->∃t,ts[i]? =Y t/\Rp H v t
 |_,[],i,v,e,h=>by
  let g:_= []:=e;subst g;simp at h
 |_,c::ts,0,v,⟨f,r,a,b,d⟩,h=>by
  subst a;simp at h;subst h;exact⟨c,O,b⟩
 |_,c::ts,i+1,v,⟨f,r,a,b,d⟩,h=>by
  subst a;obtain⟨t,e,q⟩:=Rps.get (i:=i) (v:=v) d (by simpa using h);exact{t,by simpa using e,q}
theorem Rp.ty{H:Hp}{v:V}:∀{t:T},Rp H v t->tyR H v=Y (tyT t)
 |.non,h=>by cases (show v= .non from h);rfl|.bl b,h=>by cases (show v= .bl b from h);rfl|.int i,h=>by cases (show v= .int i from h);rfl|.str x,h=>by cases (show v= .str (tx x) from h);rfl|.lst ts,h=>by obtain⟨a,d,e,c,_⟩:=h;subst e;exact zOa (zAx c)
 |.dic ks ts,h=>by obtain⟨a,d,e,c,_⟩:=h;subst e;exact yAf c
 |.tup ts,h=>by obtain⟨a,d,e,c,_⟩:=h;subst e;exact zOa (yAc c)
theorem Rp.at_name{H:Hp}{ps:D7}{ks:C6}{us:B0}(f:ks.Nodup)(e:ps.map (·.1)=ks.map λk=>(Sum.inr (tx k):Key))(n:Rps H (ps.map (·.2)) us){k:List Nat}(l:k∈ks):
  ∃v,jL ps (Sum.inr (tx k))=Y v/\Rp H v (zH k ks us):=by
 obtain⟨j,g⟩:=aP.mp l;let c:(ps.map (·.1))[j]? =Y (Sum.inr (tx k):Key):=by rw[e,nG,g];rfl
 rw[nG] at c
 cases a:ps[j]? with
 |none=>rw[a] at c;cases c|some d=>
  rw[a] at c;let h:d.1=(Sum.inr (tx k):Key):=mQ c;let b:ps[j]? =Y ((Sum.inr (tx k):Key),d.2):=by rw[a,<-h]
  obtain⟨t,o,m⟩:=n.get (i:=j) (v:=d.2) (by rw[nG,a];rfl);refine{d.2,zCl (by rw[e];exact uR f) b, ?_};rw[kM f g o];exact m
theorem zAv{k:Key}:∀{ps:D7},k∉ps.map (·.1)->jL ps k=none
 |[],_=>rfl|p::ps,h=>by
  rw[uN λe=>h (by simp[e])];exact zAv λz=>h (mI _ z)
theorem zBf:∀(xs ys:List C),vM xs ys=0↔xs...*=ys...*/\∀(i:Nat) x y,xs[i]? =Y x->ys[i]? =Y y->xO x y=0
 |[],[]=>{λ_=>{O,λi x y h=>by simp at h},λ_=>by rw[vM]}|[],_::_=>{λh=>absurd h (by rw[vM];decide),λh=>absurd h.1 (by simp)}|_::_,[]=>{λh=>absurd h (by rw[vM];decide),λh=>absurd h.1 (by simp)}|x::xs,y::ys=>by
  rw[uG];let j:=zBf xs ys;constructor
  ·intro h
   by_cases c:xO x y=0
   ·rw[mN c] at h
    obtain⟨g,f⟩:=j.mp h;refine{by simp[g],λi a b d e=>?_}
    cases i with|zero=>simp at d e;rw[<-d,<-e];exact c|succ i=>exact f i a b (by simpa using d) (by simpa using e)
   ·rw[mK c] at h;exact absurd h c
  ·rintro⟨g,f⟩
   let c:=f 0 x y O O;rw[mN c];exact j.mpr {by simpa using g,λi a b d e=>f (i+1) a b (by simpa using d) (by simpa using e)}
theorem jD:∀{ks a:C6},ks.Nodup->(∀k∈ks,k∈a)->a...*=ks...*->ks.Perm a
 |[],a,_,_,h=>by cases a with | nil=>exact .nil | cons _ _=>cases h
 |k::ks,a,f,c,i=>by
  obtain⟨g,e⟩:=pC.mp f;let d:=c k mE;let p:=List.perm_cons_erase d;refine .trans (.cons k (jD e (λj b=>?_) ?_)) p.symm
  ·exact(List.mem_erase_of_ne λz=>g (by rw[<-z];exact b)).mpr (c j (mI _ b))
  ·rw[List.length_erase_of_mem d,i];rfl
theorem gJ(a b:List Nat):zUq a b=0↔a=b:=by
 unfold zUq;constructor
 ·intro h
  by_cases d:b<a
  ·by_cases c:a<b
   ·exact absurd (List.lt_trans d c) (List.lt_irrefl _)
   ·rw[mN d,mK c] at h;cases h
  ·by_cases c:a<b
   ·rw[mK d,mN c] at h;cases h
   ·exact zNc (by unfold leK;simp[d]) (by unfold leK;simp[c])
 ·intro h
  subst h;rw[mK (List.lt_irrefl _)];rfl
theorem zSb{xs ys:List C}:xO (.row xs) (.row ys)=vM xs ys:=by rw[xO]
theorem yCf{xs ys:List C}:xO (.rcd xs) (.rcd ys)=vM xs ys:=by rw[xO]
theorem zEo{x y:List Nat}:xO (.str x) (.str y)=zUq x y:=by rw[xO]
theorem zNv(k k':List Nat)(c b:C):xO (.row [.str k,c]) (.row [.str k',b])=0↔k=k'/\xO c b=0:=by
 rw[zSb,uG,zEo]
 by_cases h:zUq k k'=0
 ·rw[mN h,uG]
  by_cases a:xO c b=0
  ·rw[mN a]
   exact{λ_=>{(gJ k k').mp h,a},λ_=>by rw[vM]}
  ·rw[mK a]
   exact{λz=>absurd z a,λz=>absurd z.2 a}
 ·rw[mK h]
  exact{λz=>absurd z h,λz=>absurd ((gJ k k').mpr z.1) h}
theorem zAw(us ws:B0):xO (zN (.lst us)) (zN (.lst ws))=0↔us...*=ws...*/\∀(i:Nat) t t',us[i]? =Y t->ws[i]? =Y t'->xO (zN t) (zN t')=0:=by
 show xO (.row (xL us)) (.row (xL ws))=0↔_;rw[zSb,zBf,vH,vH];refine cO λe=>{λh i t t' a b=>h i _ _ (uJ a) (uJ b),λh i x y a b=>?_};rw[kJ,nG] at a b
 cases d:us[i]? with
 |none=>rw[d] at a;cases a|some t=>
  cases c:ws[i]? with
  |none=>rw[c] at b;cases b|some t'=>
   rw[d] at a;rw[c] at b;cases a;cases b;exact h i t t' d c
theorem wI{ks a:C6}{us b:B0}(n:ks.Nodup):xO (zN (.dic ks us)) (zN (.dic a b))=0↔ks...*=a...*/\∀k∈ks,k∈a/\xO (zN (zH k ks us)) (zN (zH k a b))=0:=by
 show xO (.rcd ((xC ks).map λk=>.row [.str k,zGk k ks (xL us)])) (.rcd ((xC a).map λk=>.row [.str k,zGk k a (xL b)]))=0↔_;let p:(xC ks)...*=ks...*:=(xF ks).length_eq;let o:(xC a)...*=a...*:=(xF a).length_eq;rw[yCf,zBf,mJ,mJ,p,o];refine cO λr=>?_;constructor
 ·intro h k f
  obtain⟨i,j⟩:=aP.mp (mem_sortK.mpr f);let d:i<(xC a)...*:=by let:=(mS.mp j).1;lia
  let c:(xC a)[i]? =some (xC a)[i]:=by simp[d]
  let z:=h i _ _ (by rw[nG,j];rfl) (by rw[nG,c];rfl);obtain⟨e,z⟩:=(zNv _ _ _ _).mp z;let l:k∈a:=by rw[e];exact mem_sortK.mp (cF d)
  refine{l, ?_};rw[qV,qV];rw[<-e] at z;exact z
 ·intro h i x y g c
  let m:ks.Perm a:=jD n (λk f=>(h k f).1) r.symm;let q:xC ks=xC a:=zBn ((xF ks).trans (m.trans (xF a).symm)) (gZ ks) (gZ a);rw[<-q] at c;rw[nG] at g c
  cases e:(xC ks)[i]? with
  |none=>rw[e] at g;cases g|some k=>
   rw[e] at g c;cases g;cases c;let f:=mem_sortK.mp (mM e);let z:=(h k f).2;rw[qV,qV] at z;exact(zNv _ _ _ _).mpr ⟨O,z⟩
theorem zJn{X:Cx}{K:A6}(e:X.K=K){a:C5}{k:Nat}{c:Pos}{t:TGs}{n:Nat}(f:X.calm=true)(h:PGs X a t)
  (d:(S6 a X.env)...*=n:=by rfl) (b:(S6 a X.env).findIdx? (·.1)=none:=by rfl):PG X (.Tuple a k c) (zXi K n t):=by subst e;exact zOi f h d b
structure Bl4(mg:C8):Prop extends Bl2 mg where
 enumerate:mg "enumerate" =none
mutual
def Sp1(H:Hp):V->T->List V1->Prop
 |v, .non,D=>D= []/\v= .non|v, .bl b,D=>D= []/\v= .bl b|v, .int i,D=>D= []/\v= .int i|v, .str x,D=>D= []/\v= .str (tx x)|v, .lst ts,D=>∃a d c,v= .ref a/\H a=Y (.lst d)/\D=a::c/\a∉c/\Sps H d ts c|v, .dic f ts,D=>∃a e c,v= .ref a/\H a=Y (.dK e)/\e.map (·.1)=f.map (λk=>(Sum.inr (tx k):Key))/\D=a::c/\a∉c/\Sps H (e.map (·.2)) ts c|v, .tup ts,D=>∃a d c,v= .ref a/\H a=Y (.tup d)/\D=a::c/\a∉c/\Sps H d ts c
def Sps(H:Hp):List V->List T->List V1->Prop
 |vs,[],D=>vs= []/\D= []|vs,t::ts,D=>∃v r c a,vs=v::r/\D=c++a/\Sp1 H v t c/\Sps H r ts a/\∀b∈c,b∉a
end
mutual
theorem Sp1.rep{H:Hp}:∀(v:V)(t:T)(D:B9),Sp1 H v t D->Rep H v t
 |_, .non,_,h=>h.2|_, .bl _,_,h=>h.2|_, .int _,_,h=>h.2|_, .str _,_,h=>h.2|_, .lst ts,_,⟨a,b,d,e,c,_,_,f⟩=>{a,b,e,c,Sps.rep b ts d f}|_, .dic j ts,_,⟨a,i,d,e,c,f,_,_,g⟩=>{a,i,e,c,f,Sps.rep _ ts d g}|_, .tup ts,_,⟨a,b,d,e,c,_,_,f⟩=>{a,b,e,c,Sps.rep b ts d f}
theorem Sps.rep{H:Hp}:∀(vs:B3)(ts:B0)(D:B9),Sps H vs ts D->Reps H vs ts
 |_,[],_,h=>h.1|_,t::ts,_,⟨v,r,b,a,d,_,c,e,_⟩=>{v,r,d,Sp1.rep v t b c,Sps.rep r ts a e}
end
mutual
theorem Sp1.keep{H m:Hp}:∀(v:V)(t:T)(D:B9),(∀b∈D,∀o,(∀l u,o≠HO.frz l u)->H b=Y o->m b=Y o)->Sp1 H v t D->Sp1 m v t D
 |_, .non,_,_,h=>h|_, .bl _,_,_,h=>h|_, .int _,_,_,h=>h|_, .str _,_,_,h=>h|_, .lst ts,_,k,⟨a,d,c,i,g,e,n,f⟩=>{a,d,c,i,k a (by rw[e];exact mE) _ (by intro l u z;cases z) g,e,n,Sps.keep d ts c (λb j=>k b (by rw[e];exact mI _ j)) f}|_, .dic r ts,_,k,⟨a,p,c,i,g,f,e,n,q⟩=>{a,p,c,i,k a (by rw[e];exact mE) _ (by intro l u z;cases z) g,f,e,n,Sps.keep _ ts c (λb j=>k b (by rw[e];exact mI _ j)) q}|_, .tup ts,_,k,⟨a,d,c,i,g,e,n,f⟩=>{a,d,c,i,k a (by rw[e];exact mE) _ (by intro l u z;cases z) g,e,n,Sps.keep d ts c (λb j=>k b (by rw[e];exact mI _ j)) f}
theorem Sps.keep{H d:Hp}:∀(vs:B3)(ts:B0)(D:B9),(∀b∈D,∀o,(∀l u,o≠HO.frz l u)->H b=Y o->d b=Y o)->Sps H vs ts D->Sps d vs ts D
 |_,[],_,_,h=>h|_,t::ts,_,k,⟨v,r,f,c,j,e,i,g,n⟩=>{v,r,f,c,j,e,Sp1.keep v t f (λb a=>k b (by rw[e];exact pG _ a)) i,Sps.keep r ts c (λb a=>k b (by rw[e];exact nN _ a)) g,n}
end
mutual
theorem Sp1.there{H:Hp}{b:V1}:∀(v:V)(t:T)(D:B9),Sp1 H v t D->b∈D->∃o,H b=Y o
 |_, .non,_,h,c=>by rw[h.1] at c;cases c|_, .bl _,_,h,c=>by rw[h.1] at c;cases c|_, .int _,_,h,c=>by rw[h.1] at c;cases c|_, .str _,_,h,c=>by rw[h.1] at c;cases c|_, .lst ts,_,⟨a,i,f,j,d,e,n,g⟩,c=>by
  rw[e] at c;rcases mG.mp c with z | z
  ·exact{_,by rw[z];exact d}
  ·exact Sps.there i ts f g z
 |_, .dic l ts,_,⟨a,m,f,j,d,g,e,n,k⟩,c=>by
  rw[e] at c;rcases mG.mp c with z | z
  ·exact{_,by rw[z];exact d}
  ·exact Sps.there _ ts f k z
 |_, .tup ts,_,⟨a,i,f,j,d,e,n,g⟩,c=>by
  rw[e] at c;rcases mG.mp c with z | z
  ·exact{_,by rw[z];exact d}
  ·exact Sps.there i ts f g z
theorem Sps.there{H:Hp}{b:V1}:∀(vs:B3)(ts:B0)(D:B9),Sps H vs ts D->b∈D->∃o,H b=Y o
 |_,[],_,h,a=>by rw[h.2] at a;cases a|_,t::ts,_,⟨v,r,f,c,i,e,g,d,n⟩,a=>by
  rw[e] at a;rcases mZ.mp a with z | z
  ·exact Sp1.there v t f g z
  ·exact Sps.there r ts c d z
end
theorem Sp1.same{H a:Hp}(g:Same H a){v:V}{t:T}{D:B9}(h:Sp1 H v t D):Sp1 a v t D:=Sp1.keep v t D (λb _ o _ e=>g b o e) h
theorem Sps.same{H a:Hp}(g:Same H a){v:B3}{t:B0}{D:B9}(h:Sps H v t D):Sps a v t D:=Sps.keep v t D (λb _ o _ e=>g b o e) h
theorem Sps.snoc{H:Hp}{v:V}{t:T}{a:B9}(h:Sp1 H v t a):∀{vs:B3}{ts:B0}{D:B9},Sps H vs ts D->(∀b∈D,b∉a)->Sps H (vs++ [v]) (ts++ [t]) (D++a)
 |_,[],D,e,_=>by
  obtain⟨j,l⟩:=e;subst j l;exact{v,[],a,[],O,by simp,h,⟨O,O⟩,λ_ _ z=>nomatch z}
 |_,q::ts,D,⟨k,r,m,g,p,e,o,i,n⟩,f=>by
  subst p e;refine{k,r++ [v],m,g++a,O,by simp,o,Sps.snoc h i λb d=>f b (nN _ d),λb d z=>?_};rcases mZ.mp z with c | c
  ·exact n b d c
  ·exact f b (pG _ d) c
theorem Sps.length{H:Hp}{vs:B3}{ts:B0}{D:B9}(h:Sps H vs ts D):vs...*=ts...*:=(Sps.rep vs ts D h)...*
def Keep(D:B9)(H a:Hp):Prop:=∀b o,b∉D->H b=Y o->a b=Y o
theorem Keep.refl{D:B9}{H:Hp}:Keep D H H:=λ_ _ _ h=>h
theorem Keep.mono{D c:B9}{H a:Hp}(h:Keep D H a)(s:∀b∈D,b∈c):Keep c H a:=λb o d e=>h b o (λz=>d (s b z)) e
theorem Keep.of{D:B9}{H a:Hp}(g:Same H a):Keep D H a:=λb o _ e=>g b o e
theorem Keep.put{D:B9}{H c:Hp}{a:V1}(o:HO)(h:Keep D H c)(f:a∈D):Keep D H (upd c a o):=λb u d e=>by
 rw[zM λz=>d (by rw[z];exact f)];exact h b u d e
theorem Keep.old{D:B9}{a H c:Hp}(h:Keep D H c)(g:Same a H)(d:∀b∈D,a b=none):Same a c:=λb o e=>h b o (λz=>by rw[d b z] at e;cases e) (g b o e)
theorem zQ{H a:Hp}(g:Same H a){p:V1}(h:a p=none):H p=none:=by
 cases e:H p with|none=>rfl|some o=>rw[g _ _ e] at h;cases h
theorem Sps.thaw{H a:Hp}{vs:B3}{ts:B0}{D:B9}(h:Sps a vs ts D):Sps (L2.thaw H a) vs ts D:=Sps.keep vs ts D (λ_ _ _ n e=>wP e n) h
section
variable{prog:V3}{w:V4}{A:Around}{E:C9}{s:V2}
end
section
variable{X:Cx}
end
section
variable{X:Cx}{a:Expr}{ta:TE}
end
inductive U where
 |leaf (v:V)| lst (us:List U)| dic (ks:B8) (us:List U)
mutual
noncomputable def U.sz:U->Nat
 |.leaf _=>1|.lst a=>U.szs a+1|.dic _ a=>U.szs a+1
noncomputable def U.szs:List U->Nat
 |[]=>0|u::a=>U.sz u+U.szs a
end
mutual
noncomputable def U.dep:U->Nat
 |.leaf _=>0|.lst a=>U.deps a+1|.dic _ a=>U.deps a+1
noncomputable def U.deps:List U->Nat
 |[]=>0|u::a=>max (U.dep u) (U.deps a)
end
mutual
def U.ok:U->Prop
 |.leaf v=>∀x,v= .str x->x...*<=1000|.lst a=>U.oks a|.dic ks a=>ks.Nodup/\ks...*=a...*/\(∀x,Sum.inr x∈ks->x...*<=1000)/\U.oks a
def U.oks:List U->Prop
 |[]=>True|u::a=>U.ok u/\U.oks a
end
section
variable{X:Cx}{pins:C7}{σ:St}{H:Hp}{s:V2}
theorem zIl:OpR X (A3 .LtE) (λx y H Q=>∃i j,x= .str i/\y= .str j/\Q (.bl (!decide (ts j<ts i))) H):=by
 intro pins s σ H x y v u Q I c d h;ext yO h i j b a q;subst b a;obtain⟨t,rfl⟩:=c;obtain⟨e,rfl⟩:=d;exact PySem.P.le_str (yS I q O)
theorem zOp{T W:String}(k:T∈tyL)(l:W∈tyL):wR X (.builtin "isinstance") (λxs H Q=>∃x t p,xs= [x, .ref p]/\H p=Y (.tup [.ty T, .ty W])/\tyR H x=Y t/\Q (.bl (zX t T || zX t W)) H):=by
 intro pins s σ H xs m Q I r h;ext yB h x t p g j z_;ext oA z_ v q;subst g
 cases x with
 |ref a=>
  let f:(match H a with | some (.frz _ (.dK _))=>some "dict" | _=>tyS H (.ref a))=Y t:=v
  split at f
  ·rename_i o kvs e
   cases f;refine yO (zEf r) λu w' c L i=>?_;subst c;cases (show w'=Value.ref p from i);cases (show u=Value.ref a from L);obtain⟨_,_,vs,_,pp⟩:=kW I.hok (.inr ⟨o,e⟩);ext yB pp N es ep h1 J _;obtain⟨_,aa,rv,pl⟩:=(show ObjOk X.prog X.w H s.heap p (.tup [.ty T, .ty W]) from I.hok p _ j);refine yO (zEf rv) λw v2 E M r2=>?_;subst E;cases (show w=Value.type T from M);cases (show v2=Value.type W from r2);obtain⟨o2,ho,hc,n,B⟩:=pl;obtain⟨oc,od,d,y⟩:=o2;cases (show oc=Value.type "tuple" from hc);cases (show d=Data.seq _ n from B);refine PySem.W.kia_tup PySem.W.kitx_dict I.kIn ⟨N,h1,J.1⟩ ho (b:=zX "dict" T || zX "dict" W) ?_ (λz=>nomatch z) λtk=>{.bl _,H,I.tok _,O,q}
   let D:=zDi (K:=X.K) (t:="dict") (by simp[tyL]) k;let A:=zDi (K:=X.K) (t:="dict") (by simp[tyL]) l;simp only[PySem.W.kitAny,D,A];cases zX "dict" T<;>cases zX "dict" W<;>rfl
  ·exact zBa k l pins s σ H _ m Q I r ⟨_,t,p,O,j,f,q⟩
 |_=>exact zBa k l pins s σ H _ m Q I r ⟨_,t,p,O,j,v,q⟩
end
section
variable{X:Cx}{o:Expr}{to:TE}{name:Str}{apos cpos:Pos}{id:String}{r:V->List V->Hp->VK->Prop}
def tBMR(r:V->List V->Hp->VK->Prop)(to:TE):TE:=λσ H Q=>to σ H λx b=>(∃p a,x= .ref p/\Rd b p (.dK a))/\r x [] b Q
theorem yGc(A:PlainAttrs "dict")(f:Slot "dict" name id)(i:typeOf (.builtin id)=pure (.type "method_descriptor"))(q:MtR X id r)(m:PE X o to)
  (d:attributeBase o name X.env (eval o X.env)=eval o X.env:=by rfl) (c:(apos.endLine==cpos.line)=true:=by rfl):PE X (.Call (.Attribute o name apos) [] [] cpos) (tBMR r to):=by
 intro b s σ H Q I h;refine wpAny_Call_method0_late d c (thn (m b s σ H _ I h) λv l {x,n,j,y,⟨p,z,g,u⟩,t}=>?_);subst g;cases y;obtain⟨_,_,_,_,k,_,_,e,g,_⟩:=kW j.hok u;refine{"dict",id,A,f,i,⟨k,e,g.1⟩,(λa w=>by cases w;exact⟨k,e,g.2.1⟩),aL O (PySem.evalArgs_none (q b l σ n (.ref p) [] (.ref p) [] Q j O .nil t))}
end
structure Bl5(mg:C8):Prop extends Bl2 mg where
 abs:mg "abs" =none
 ord:mg "ord" =none
section
variable{X:Cx}{pins:C7}{σ:St}{H:Hp}{s:V2}{h':V5}
theorem Inv.turnedFp{fp:B9}{t':Nat}(I:Inv X pins σ H s)(g:∀b∈fp,zBz X pins H b)(k:∀b a,b∉fp->s.heap.get? b=Y a->h'.get? b=Y a):Inv X pins σ H {s with heap:=h',toks:=t'}:=by
 let f:∀b u,H b=Y u->b∉fp:=λb u e z=>by rw[(g b z).1] at e;cases e
 refine I.step (g':=s.gens) (d':=s.drawn) (ch:=fp) (λb w=>?_) (λb a _ _ d e _=>k b a d e) (λb a _ _ d e _=>{a.slots,k b a d e}) (λ_ _ _ _ n=>n)
  (λb a d e=>{a,k b a d e}) (λ_ _ e=>e) (λ_ _ _ e=>e) (λb y e=>{#[],by rw[e];simp}) (λm j=>?_) (λb u e=>?_) I.bare
 ·refine zS (g b w) λ_ o _ p i x=>?_
  exact⟨p,o,i,x⟩
 ·ext zBr j a t l h r
  exact{a,t,l,k _ a (λz=>(g _ z).2.1 O) h,r}
 ·refine(I.hok b u e).stay (λc v d q=>k c v ?_ q) (λc q=>q) λc A q=>q
  rcases d with z | z
  ·rw[z];exact f b u e
  ·exact f c _ z
end
def Itz(K:A6)(l m:V1):It:=
  {λi H=>∃a b x y,SqL K H l a/\SqL K H m b/\a[i]? =Y x/\b[i]? =Y y,
   λi H v c=>∃p x y,H p=none/\v= .ref p/\(∀a,SqL K H l a->a[i]? =Y x)/\(∀b,SqL K H m b->b[i]? =Y y)/\c=upd H p (.tup [x,y]),
   λi H=>∃a b,SqL K H l a/\SqL K H m b/\(a...*<=i\/b...*<=i)}
theorem zZe{P:V3}{w:V4}{K:A6}{N:C5}{x1:Nat}{ah:Pos}(z TI TO B J l m:V1)(f:ZipApart z TI TO B J l m):
  zGb P w K (.Tuple N x1 ah) (Itz K l m) [z,TI,TO,B,J] z (λi h=>IsZip h z TI TO .none/\IsPair h TI (.ref B) (.ref J)/\(∃a b,IsPair h TO a b)/\h.IsListIter B l i/\h.IsListIter J m i) where
 mem:=by simp
 obj:=λi h st b d=>by
  obtain⟨A,j,⟨a,c,r⟩,⟨o1,e1,c1,d1⟩,o2,e2,c2,d2⟩:=st;simp only[mG,pO,tP] at d;rcases d with rfl | rfl | rfl | rfl | rfl
  ·exact{_,A,λv z=>by cases z}
  ·exact{_,j,λv z=>by cases z}
  ·exact{_,r,λv z=>by cases z}
  ·exact{o1,e1,λv z=>by rw[d1] at z;cases z}
  ·exact{o2,e2,λv z=>by rw[d2] at z;cases z}
 keep:=λi h h' st k=>by
  obtain⟨A,j,⟨a,c,r⟩,M,L⟩:=st;exact⟨k z (by simp) _ A,k TI (by simp) _ j,{a,c,k TO (by simp) _ r},M.at λo q=>k B (by simp) o q,L.at λo q=>k J (by simp) o q⟩
 item:=by
  intro X hP hw hK hc i Q s σ H E I hf st hg;subst hP hw hK;obtain⟨A,j,⟨a,c,r⟩,M,L⟩:=st;ext yN hg xs ys x y n z_;ext oAA z_ g hx hy;refine xE (I.list n) λag rv p ai=>?_;refine xE (I.list g) λaj D p' ab=>?_;obtain⟨u,hu,ru⟩:=rv.get hx;obtain⟨u',ae,ac⟩:=D.get hy;let lz:z<s⁻¹:=mW A;let lI:TI<s⁻¹:=mW j;let lO:TO<s⁻¹:=mW r;let l1:B<s⁻¹:=by obtain⟨o,q,_⟩:=id M;exact mW q
  let l2:J<s⁻¹:=by obtain⟨o,q,_⟩:=id L;exact mW q
  refine wpAny_pyNext_zip_item f A j r M L p.isList p'.isList (x:=u) (y:=u') (by simpa using hu) (by simpa using ae) λh1 z1 o1 t1 t2 pr al e=>{_,O, ?_};refine wpAny_letOwnedTupleGo_zip z1 λh2 z2 t=>?_;let t:Heap.SameBut z h1 h2:=t;let aa:H s⁻¹=none:=I.hok.fresh (mC _);let ak:h2.get? s⁻¹=some {cls:=.type "tuple",data:=.seq #[u,u']}:=(t.2 _ (rX lz)).trans pr;refine{.ref s⁻¹,upd H s⁻¹ (.tup [x,y]),I.turnedNew (t':=s.toks) hf (λb ob d q=>?_) (mC _) ?_,O,{_,x,y,aa,O,λzs h=>by rw[I.list_inj h n];exact hx,λzs h=>by rw[I.list_inj h g];exact hy,O},{z2, ?_,{u,u',(t.2 TO f.TOz).trans o1}, ?_, ?_},λb d=>?_}
  ·simp only[mG,pO,tP,not_or] at d
   exact(t.2 b d.1).trans (e b ob d.1 d.2.2.1 d.2.2.2.1 d.2.2.2.2 q)
  ·exact{by rw[mV];simp,[u,u'], .cons ru (.cons ac .nil),⟨_,ak,O,_,O⟩}
  ·exact(t.2 TI f.TIz).trans (e TI _ f.TIz f.TITO f.TIi1 f.TIi2 j)
  ·exact t1.at λo q=>(t.2 B f.i1z).trans q
  ·exact t2.at λo q=>(t.2 J f.i2z).trans q
  ·let af:=(hf b d).1
   let:b≠s⁻¹:=by
    simp only[mG,pO,tP] at d;rcases d with rfl | rfl | rfl | rfl | rfl<;>(apply nV;assumption)
   rw[zM this];exact af
 done:=by
  intro X hP hw hK hc i Q s σ H E I hf st hg;subst hP hw hK;obtain⟨A,j,⟨a,c,r⟩,M,L⟩:=st;ext yO hg xs ys n g hx;refine xE (I.list n) λag rv p ai=>?_;refine xE (I.list g) λaj D p' ab=>?_;let e1:=rv...*;let e2:=D...*;refine wpAny_pyNext_zip_end (I.ok.hd hc) f A j r M L p.isList p'.isList ?_ λh' e=>{O,I.turnedFp (t':=s.toks) hf λb ob d q=>?_}
  ·rcases hx with z | z
   ·exact .inl (by simp;lia)
   ·exact .inr (by simp;lia)
  ·simp only[mG,pO,tP,not_or] at d
   exact e b ob d.1 d.2.2.1 d.2.2.2.1 d.2.2.2.2 q
 self:=λ_ _ _ _ _ st h=>wpAny_pyIter_zip st.1 h
theorem zSt{n l m:Nat}(b:l<n)(a:m<n):ZipApart (n+4) (n+2) (n+3) n (n+1) l m:=by
 constructor<;>(show(_:Nat)≠_;lia)
def yFb(K:A6)(ta:TA):TI:=λσ H R=>ta σ H λb a=>∃l m c d,b= [.ref l, .ref m]/\SqL K a l c/\SqL K a m d/\R (Itz K l m) a
theorem yGr:A1 "zip" =Y (.type "zip"):=by decide+kernel
theorem yFj{X:Cx}{j:C5}{x1:Nat}{v:Pos}{a b:Expr}{ta:TA}{p g:Pos}(N:Gl X "zip")(L:X.mg "zip" =none)(ha:PA X [a,b] ta)(M:A2 [a,b] X.env=(false,eval a X.env)::A2 [b] X.env:=by rfl)(y:A2 [b] X.env= [(false,eval b X.env)]:=by rfl):
  PI X (.Tuple j x1 v) (.Call (.Name "zip" p) [a,b] [] g) (yFb X.K ta):=by
 intro f s σ H R I h;refine Call_ (kI I N L yGr (pQ (thn (ha g f s σ H _ I h) λus c z_=>?_) M (by rw[y];rfl)));obtain⟨vs,E,d,r1,q1⟩:=z_;ext yN q1 l m xs ys e z_;ext oAA z_ x A q;subst e
 cases r1 with
 |cons r Q=>
  cases Q with
  |cons r' B=>
   cases B;cases r;cases r';refine xE (d.list x) λae rv J hz=>?_;refine xE (d.list A) λab af n aa=>?_;let ll:l<c⁻¹:=by obtain⟨o,q,_⟩:=J.isList;exact mW q
   let lm:m<c⁻¹:=by obtain⟨o,q,_⟩:=n.isList;exact mW q
   refine call_zip_2 J.isList n.isList λh' t ht ho z w ac u=>?_;refine wpAny_pyIter_zip (f0:=.none) t ?_;let ap:ZipApart (c⁻¹+4) (c⁻¹+2) (c⁻¹+3) c⁻¹ (c⁻¹+1) l m:=zSt ll lm;let i:∀k,E (c⁻¹+k)=none:=λk=>d.hok.fresh (sW _ _);refine{c⁻¹+4,[c⁻¹+4,c⁻¹+2,c⁻¹+3,c⁻¹,c⁻¹+1],_,_,E,O,d.kept (t':=c.toks) u,zZe _ _ _ _ _ l m ap,{t,ht,⟨_,_,ho⟩,z,w},λb D=>?_,q};simp only[mG,pO,tP] at D;rcases D with rfl | rfl | rfl | rfl | rfl
   ·exact d.fpOk (sW _ _) (i 4)
   ·exact d.fpOk (sW _ _) (i 2)
   ·exact d.fpOk (sW _ _) (i 3)
   ·exact d.fpOk (mC _) (i 0)
   ·exact d.fpOk (sW _ _) (i 1)
theorem zVr{K:A6}{l m:V1}{xs ys:B3}{g:TG}{tb:TS}{D:gO}{σ:St}{H:Hp}(Pv:Nat->St->Hp->Prop)(z:Pv 0 σ H)(E:∀i σ H,Pv i σ H->SqL K H l xs/\SqL K H m ys)
  (w:∀i x y σ H p,xs[i]? =Y x->ys[i]? =Y y->Pv i σ H->H p=none->g (.ref p) σ (upd H p (.tup [x,y])) λσ2 H2=>tb {D with nx:=Pv (i+1),ct:=Pv (i+1),bk:=D.nx} σ2 H2)
  (j:∀i σ H,(i=xs...*\/i=ys...*)->i<=xs...*->i<=ys...*->Pv i σ H->D.nx σ H):zTd g tb D σ (Itz K l m) H:=by
 refine{λi k σ H=>k=xs...* - i/\i<=xs...*/\i<=ys...*/\Pv i σ H,{_,O,nJ _,nJ _,z}, ?_};intro i k σ H b;ext yZ b h s r p;subst h;obtain⟨c,d⟩:=E i σ H p
 by_cases n:i<xs...*
 ·by_cases o:i<ys...*
  ·refine .inr {{xs,ys,xs[i],ys[i],c,d,by simp[n],by simp[o]},Pv (i+1),λI t q=>{_,∅,O,n,o,q}, ?_}
   intro v t b;ext yB b a x y u f b;ext oAA b A B e;subst f e;exact w i x y σ H a (A xs c) (B ys d) p u
  ·exact .inl {{xs,ys,c,d, .inr ∅},j i σ H (.inr ∅) s r p}
 ·exact .inl {{xs,ys,c,d, .inl ∅},j i σ H (.inl ∅) s r p}
structure Bl6(mg:C8):Prop extends Bl2 mg where
 zip:mg "zip" =none
section
variable{X:Cx}{a:Expr}{ta:TE}
def tIsT(ta:TE):TE:=λσ H Q=>ta σ H λx c=>∃b,x= .bl b/\Q (.bl b) c
end
end L2
namespace HT
open PySem PyProof.Rows
open PySem.SeqAt
open PySem.AutoSeq1 (wpAny_loadPart')
open PySem.MeetsSeq PySem.MeetsSeq2 PySem.MeetsSeq3
section
variable{prog:V3}{w:V4}{A:Around}{E:C9}{s:V2}
end
end HT
namespace L2
open PySem PySem.Spec PyProof.Rows
end L2
namespace L2
open PySem PySem.Spec PyProof.Rows PySem.Builtin PySem.Builtin.Str
noncomputable def rpl(c:Nat)(z:List Nat)(d:Nat):List Nat:=if d=c then z else[d]
section
variable{X:Cx}
end
end L2
namespace L2
open PySem PySem.Spec PyProof.Rows
section
variable{X:Cx}
theorem zEc:wR X (.builtin "len") (λxs H Q=>∃(a:V1)(n:Nat),xs= [.ref a]/\((∃ys,SqL X.K H a ys/\n=ys...*)\/∃kvs,H a=Y (.dK kvs)/\n=kvs...*)/\Q (.int n) H):=by
 intro b s σ H xs d Q I r h;ext yO h a n c h q;subst c;rcases h with⟨ys,f,rfl⟩|⟨kvs,e,rfl⟩
 ·exact zZ b s σ H _ d Q I r ⟨a,O,ys,f,q⟩
 ·exact zDn b s σ H _ d Q I r ⟨a,kvs,O,e,q⟩
end
mutual
def T.fewm(m:Nat):T->Prop
 |.dic ks a=>ks.Nodup/\ks...*<=m/\ks...*=a...*/\d7 m a|.lst a=>a...*<=100000/\d7 m a|.tup _=>False|.non=>True|.bl _=>True|.int _=>True|.str _=>True
def d7(m:Nat):List T->Prop
 |[]=>True|t::a=>T.fewm m t/\d7 m a
end
theorem c6{m:Nat}{t:T}:∀{us:B0},d7 m us->t∈us->T.fewm m t
 |[],_,h=>nomatch h|u::us,h,a=>(mG.mp a).elim (λe=>e▸h.1) (c6 h.2)
theorem d5{m:Nat}{us:B0}(h:∀t∈us,T.fewm m t):d7 m us:=by
 induction us with|nil=>exact mT|cons t us b=>exact{h t mE,b λu a=>h u (mI _ a)}
mutual
theorem b9{m b:Nat}(l:m<=b):∀t:T,T.fewm m t->T.fewm b t
 |.lst a,h=>{h.1,i6 l a h.2}|.dic ks a,h=>{h.1,pB h.2.1 l,h.2.2.1,i6 l a h.2.2.2}|.tup _,h=>h.elim|.non,_=>mT|.bl _,_=>mT|.int _,_=>mT|.str _,_=>mT
theorem i6{m a:Nat}(l:m<=a):∀us:List T,d7 m us->d7 a us
 |[],_=>mT|t::us,h=>{b9 l t h.1,i6 l us h.2}
end
mutual
theorem d3{m:Nat}(l:m<=63):∀t:T,T.fewm m t->T.few t
 |.lst a,h=>{h.1,j2 l a h.2}|.dic ks a,h=>{h.1,by let:=h.2.1;lia,h.2.2.1,j2 l a h.2.2.2}|.tup _,h=>h.elim|.non,_=>mT|.bl _,_=>mT|.int _,_=>mT|.str _,_=>mT
theorem j2{m:Nat}(l:m<=63):∀us:List T,d7 m us->d8 us
 |[],_=>mT|t::us,h=>{d3 l t h.1,j2 l us h.2}
end
theorem zEp{ks:C6}{k:List Nat}(h:k∈ks):ks[ks.idxOf k]? =Y k:=by
 let a:=sU h;rw[mP a];exact congrArg some (List.getElem_idxOf a)
theorem jF{ks:C6}{us:B0}{n:List Nat}{t:T}(h:ks...*=us...*):(yE (ks,us) n t).1...*=(yE (ks,us) n t).2...*/\(yE (ks,us) n t).2...*<=us...*+1:=by
 unfold yE;split
 ·exact{by show ks...*=(yQ n t ks us)...*;rw[gT];exact h,by show(yQ n t ks us)...*<=_;rw[gT];exact pV _}
 ·exact{by show(ks++ [n])...*=(us++ [t])...*;rw[mL,mL,h];rfl,by show(us++ [t])...*<=_;rw[mL];exact mC _}
theorem vY{ks:C6}{us:B0}{n:List Nat}{t:T}(h:ks.Nodup):(yE (ks,us) n t).1.Nodup:=by
 unfold yE;split
 ·exact h
 ·rename_i hn
  show(ks++ [n]).Nodup;rw[aN];exact{h,by simp,λa c b d z=>hn (by rw[<-mH.mp d,<-z];exact c)}
theorem zCa{ks:C6}{us:B0}{n:List Nat}{t u:T}(h:u∈(yE (ks,us) n t).2):u∈us\/u=t:=by
 unfold yE at h;split at h
 ·exact zAr _ _ _ _ _ h
 ·rcases mZ.mp h with z | z
  ·exact .inl z
  ·exact .inr (mH.mp z)
theorem m5{n:Nat}{us:B0}(b:0<n)(h:∀t∈us,T.dep t<n):T.deps us<n:=by
 let:=d9 (n:=n - 1) (ts:=us) λt a=>by let:=h t a;lia
 lia
def uZ(H a:Hp):Hp:=λb=>match H b with|none=>a b|some _=>none
theorem wZ{H a:Hp}{b:V1}(h:H b=none):uZ H a b=a b:=by unfold uZ;rw[h]
theorem zMc{H a:Hp}{b:V1}{o:HO}(e:uZ H a b=Y o):H b=none:=by
 unfold uZ at e
 cases h:H b with|none=>rfl|some _=>rw[h] at e;cases e
theorem zTf{H a c:Hp}(g:Same a c):Same (uZ H a) (uZ H c):=λb o e=>by
 let h:=zMc e;rw[wZ h] at e⊢;exact g _ _ e
theorem Sp1.new{H a:Hp}{v:V}{t:T}{D:B9}(h:Sp1 a v t D)(c:∀b∈D,H b=none):Rep (uZ H a) v t:=
 Sp1.rep _ _ _ (Sp1.keep _ _ _ (λb d o _ e=>by rw[wZ (c b d)];exact e) h)
end L2
namespace L2
open PySem PySem.W PySem.Spec PyProof.Rows
structure Dd(P:V3)(w:V4)(K:PySem.W.Frag)(mg:C8)(base:V5)(k:Nat)(x:Str)(ps:C1)(dvs:B3)(sp:Sp):Prop where
 ex:∃(f:V1)(fd:V7)(ds:B7),FnOk P w K mg base CX0 k f fd ps sp/\Binds K fd ps ds/\Vals dvs ds/\PySem.W.keepIn K (.ref f)=true/\mg x=Y (.ref f)
section
variable{X:Cx}{k j:Nat}{x:Str}{ps:C1}{dvs:B3}{sp:Sp}{e:Expr}{es:C5}{t:TA}{p pos:Pos}
end
structure FunD(K:PySem.W.Frag)(x qual:Str)(st:V6)(f:V1)(fd:V7):Prop where
 ex:∃(oc:V0)(od:Option V1)(dV kV doc pm:V0)(an:Option V1)(cdv ct:V0)(osl:Array (Option V0)),
  fd=PySem.W.fnOf x qual (xR st) (xJ st) (zY st) dV kV doc pm an cdv ct/\K.lookup f=Y {oc,od, .func fd,osl}/\PySem.W.codeIn K cdv qual=true
end L2
namespace L2
open PySem PySem.Spec PyProof.Rows
section
variable{X:Cx}
end
end L2
namespace L2
open PySem PySem.Builtin PySem.Builtin.Str
abbrev Tk:=Nat×List Nat
noncomputable def dbl(x:List Nat):List Nat:=x.flatMap (rpl 39 [39,39])
noncomputable def shw(t:Tk):List Nat:=if t.1=2 then 39::(dbl t.2++ [39]) else t.2
noncomputable def stk(a b:Tk):Bool:=if b.2.take 1= [45]/\b.1=0 then false else if a.1=1 then decide (b.1=1)|| decide (b.1=0) else decide (a.1=b.1)&& !decide (a.1=3)
noncomputable def lay:List (Nat×Tk)->List Nat
 |[]=>[]|x::r=>List.replicate x.1 32++(shw x.2++lay r)
end L2
namespace L2
open PySem PySem.Spec PyProof.Rows
section
variable{P:V3}{w:V4}{A:Around}{s:V2}{E:C9}
end
section
variable{X:Cx}
end
end L2
namespace L2
open PySem PySem.Spec PyProof.Rows PySem.W
structure Kp(fs xs:B9)(h h':V5):Prop where
 keep:∀b o,h.get? b=Y o->b∉fs->b∉xs->h'.get? b=Y o
 slot:∀b o,h.get? b=Y o->b∈fs->b∉xs->∃sl,h'.get? b=some {o with slots:=sl}
theorem Kp.refl{a xs:B9}{h:V5}:Kp a xs h h:=⟨λ_ _ e _ _=>e,λ_ o e _ _=>⟨o.slots,e⟩⟩
theorem Kp.trans{d xs ys zs:B9}{h i g:V5}(a:Kp d xs h i)(b:Kp d ys i g)(hz:∀c,c∈xs\/(c∈ys/\h.get? c≠none)->c∈zs):Kp d zs h g where
 keep c o e hf hx:=b.keep c o (a.keep c o e hf λz=>hx (hz c (.inl z))) hf λz=>hx (hz c (.inr ⟨z,by rw[e];exact λz=>nomatch z⟩))
 slot c o e hf hx:=by
  obtain⟨l,k⟩:=a.slot c o e hf λz=>hx (hz c (.inl z));obtain⟨f,j⟩:=b.slot c _ k hf λz=>hx (hz c (.inr {z,by rw[e];exact λz=>nomatch z}));exact⟨f,j⟩
theorem zFz{base h h':V5}{e xs:B9}(k:Kp e xs h h'):∀{l:List S7},(∀b∈frs l,b∈e/\b∉xs)->h.FunFrames base l->h'.FunFrames base l
 |[],_,_=>by rw[Heap.FunFrames.eq_1];exact mT|env::l,c,f=>by
  rw[Heap.FunFrames.eq_2] at f⊢;obtain⟨a,⟨L,o,d,i,j,n⟩,r⟩:=f;let g:L∈frs (env::l):=by unfold frs;rw[pW,d];exact mE
  obtain⟨q,m⟩:=k.slot L o j (c L g).1 (c L g).2;exact⟨a,⟨L,_,d,i,m,n⟩,zFz k (λb p=>c b (by unfold frs;rw[pW,d];exact mI _ p)) r⟩
def Fl(φ:V0->Prop)(h:V5)(x T:V1)(C:V0)(d:Option V1)(g f:V0):Prop:=∃(b:Obj)(a:Array V0)(c:Obj)(ts:Array V0),h.get? x=Y b/\b.cls=C/\b.dict=d/\b.data= .fields a/\a[0]? =Y g/\a[1]? =Y (.ref T)/\T≠x/\h.get? T=Y c/\c.data= .fields ts/\ts[3]? =Y f/\∃e,a[2]? =Y e/\φ e
theorem yCs{o:Obj}{vs:Array V0}(h:o.data= .fields vs)(f:Array V0->Array V0):Obj.mapFields f o={o with data:=.fields (f vs)}:=by
 obtain⟨c,d,a,b⟩:=o;cases h
 rfl
section
variable{M:Model}{A:Around}{E:C9}{s:V2}{env:S7}{outer:List S7}{x T L:V1}{C a0 fl:V0}{d:Option V1}{base:V5}{Q:Unit->V2->Prop}{φ:V0->Prop}
theorem uA{h:V5}{a:V1}{o:Obj}{vs:Array V0}(e:h.get? a=Y o)(b:o.data= .fields vs)(i:Nat)(v:V0):(h.update a (Obj.mapFields λxs=>xs.setIfInBounds i v)).get? a=some {o with data:=.fields (vs.setIfInBounds i v)}:=by
 rw[<-yCs b (λxs=>xs.setIfInBounds i v)];exact cI _ e (by rw[yCs b];rfl)
theorem qB(F:Fl φ s.heap x T C d a0 fl)(q:∀h',Fl φ h' x T C d a0 .none->Kp [] [T] s.heap h'->Q () {s with heap:=h'}):V8 M A (setFlight (.ref x) none) Q E s:=by
 ext yN F r p y ts k g;ext zS g t w m v j g;ext wY g i n l c f;unfold setFlight;refine mF (rV k m j ?_);rw[mN (by rfl)];let a:3<ts.size:=by
  obtain⟨z,_⟩:=pK.mp c;exact z
 refine sZ n l a ?_;let u:=uA n l 3 .none;refine q _ {r,p,_,_,(nM _ _ i).trans k,t,w,m,v,j,i,u,O, ?_,f} ⟨λb o e _ h=>(nM _ _ λz=>h (by rw[z];exact mE)).trans e,λb o e h=>nomatch h⟩;show(ts.setIfInBounds 3 Value.none)[3]? =Y Value.none;rw[tJ a]
theorem zOt{j:Obj}{vs:Array V0}{head:V0}{b:Bool}(m:A.frames=Y (env::outer))(k:s.heap.FunFrames base (env::outer))(hL:env.frame=Y L)(I:s.heap.get? x=Y j)(hx:x∉frs (env::outer))(B:j.data= .fields vs)(N:vs[0]? =Y a0)(w:1<vs.size)(u:∃p,vs[2]? =Y p/\φ p)
  (q:∀h' T',Fl φ h' x T' j.cls j.dict a0 (rawInt L)->Kp (frs (env::outer)) [x] s.heap h'->s.heap.get? T'=none->Q () {s with heap:=h'}):
  V8 M A (do
   let a <-PySem.frameOf env;let pl <-entryPlaceOf L b;let b <-EntryCells.newEntry head a .none (rawInt L) .none pl
   setField (.ref x) 1 b) Q E s:=by
 refine mF (wpAny_frameOf_fun m k hL λi H=>?_);refine mF (wpAny_entryPlaceOf λpl l=>?_);refine mF ?_;unfold EntryCells.newEntry newFields;let n:(([head,Value.ref L,Value.none,rawInt L,Value.none]++if pl.isEmpty=true then List.replicate 6 Value.none else pl).toArray).size<=V9+2:=by
  let:(if pl.isEmpty=true then List.replicate 6 Value.none else pl)...*<=6:=by
   rcases l with rfl |⟨a,b,c,d,c9,J,_,rfl⟩<;>simp
  rw[nD,mL,mV];simp only[mX,rF]
  lia
 refine dE ?_ n;obtain⟨z1,D,z3⟩:=H;let r:i.get? x=Y j:=by rw[D x hx];exact I
 let t:x<i.objs.size:=mW r;refine sZ (mO _ r) B w ?_;let f:i.objs.size≠x:=rX t;let v:=uA (mO (o:={cls:=.type "traceback",data:=.fields ([head,Value.ref L,Value.none,rawInt L,Value.none]++if pl.isEmpty=true then List.replicate 6 Value.none else pl).toArray}) (h:=i) r) B 1 (.ref i.objs.size);refine q _ i.objs.size {_,_,_,_,v,O,O,O, ?_, ?_,f,(nM _ _ (Ne.symm f)).trans (nQ _ O),O, ?_,u.imp λp z=>{(rD ∎).trans z.1,z.2}} ⟨λb o e y g=>?_,λb o e y g=>?_⟩ ?_
 ·rw[rD ∎];exact N
 ·rw[tJ w]
 ·simp
 ·refine(nM _ _ λz=>g (by rw[z];exact mE)).trans (mO _ ?_)
  rw[D b y];exact e
 ·obtain⟨sl,e'⟩:=z3 b o e
  exact{sl,(nM _ _ λz=>g (by rw[z];exact mE)).trans (mO _ e')}
 ·rw[z1]
  exact rQ (mC _)
theorem zNz{a:Obj}{vs:Array V0}(e:A.frames=Y (env::outer))(b:s.heap.FunFrames base (env::outer))(f:env.frame=Y L)(i:s.heap.get? x=Y a)(j:x∉frs (env::outer))(g:a.data= .fields vs)(k:vs[0]? =Y a0)(h:vs[1]? =some .none)(c:∃cx,vs[2]? =Y cx/\φ cx)
  (q:∀h' T',Fl φ h' x T' a.cls a.dict a0 (rawInt L)->Kp (frs (env::outer)) [x] s.heap h'->s.heap.get? T'=none->Q () {s with heap:=h'}):V8 M A (noteFrame (.ref x) env) Q E s:=by
 let l:1<vs.size:=by
  obtain⟨z,_⟩:=pK.mp h;exact z
 unfold noteFrame;rw[f];refine mF (rV i g h ?_);exact zOt e b f i j g k l c q
theorem zKf(r:A.frames=Y (env::outer))(l:s.heap.FunFrames base (env::outer))(I:env.frame=Y L)(hx:x∉frs (env::outer))(hT:T∉frs (env::outer))(F:Fl φ s.heap x T C d a0 .none)
  (q:∀j a,Fl φ j x a C d a0 (rawInt L)->Kp (frs (env::outer)) [x,T] s.heap j->s.heap.get? a=none->Q () {s with heap:=j}):V8 M A (noteFrame (.ref x) env) Q E s:=by
 ext yN F oe N oT ts D y;ext zS y e2 e3 J e5 B y;ext wY y e7 u t g w;let hs:1<N.size:=by
  obtain⟨z,_⟩:=pK.mp B;exact z
 let v:3<ts.size:=by
  obtain⟨z,_⟩:=pK.mp g;exact z
 unfold noteFrame;rw[I];refine mF (rV D J B ?_);rw[mN (by rfl)];refine mF (rV u t g ?_);rw[mK (by intro z;cases (eq_of_beq z))];refine mF (sZ u t v ?_);let p:Kp (frs (env::outer)) [T] s.heap (s.heap.update T (Obj.mapFields λx=>x.setIfInBounds 3 Value.none)):=⟨λb o e _ h=>(nM _ _ λz=>h (by rw[z];exact mE)).trans e,λb o e h m=>⟨o.slots,(nM _ _ λz=>m (by rw[z];exact mE)).trans e⟩⟩;let i:(s.heap.update T (Obj.mapFields λx=>x.setIfInBounds 3 Value.none)).FunFrames base (env::outer):=zFz p (λb h=>{h,λz=>hT (by rw[<-mH.mp z];exact h)}) l;let x2:(s.heap.update T (Obj.mapFields λx=>x.setIfInBounds 3 Value.none)).get? x=Y oe:=(nM _ _ e7).trans D;let H:=zOt (E:=E) (M:=M) (A:=A) (head:=.ref T) (b:=true) (s:={s with heap:=s.heap.update T (Obj.mapFields λx=>x.setIfInBounds 3 Value.none)}) (Q:=Q) r i I x2 hx J e5 hs w;rw[e2,e3] at H;refine H λj a f k n=>q j a f (p.trans k λc hc=>?_) ?_
 ·rcases hc with z | z
  ·rw[mH.mp z];simp
  ·rw[mH.mp z.1];simp
 ·cases e:s.heap.get? a with
  |none=>rfl|some o=>
   by_cases z:a=T
   ·subst z
    rw[uA u t] at n;cases n
   ·let:=p.keep
    rw[(nM s.heap _ (Ne.symm z)).trans e] at n;cases n
end
section
variable{X:Cx}{pins:C7}{σ:St}{H H':Hp}{s s':V2}{φ:V0->Prop}
theorem i3{P:V3}{w:V4}{h:V5}{a:V1}{o:HO}(x:ObjOk P w H h a o):∃b,h.get? a=Y b:=by
 induction o with
 |lst j=>obtain⟨_,c,n,_,e⟩:=x;exact⟨_,e⟩
 |tup j=>obtain⟨_,c,_,b,e,_⟩:=x;exact⟨_,e⟩
 |dK i=>obtain⟨_,_,l,_,b,g,d,e,_⟩:=x;exact⟨_,e⟩
 |dT i=>obtain⟨_,_,j,_,b,g,d,e,_⟩:=x;exact⟨_,e⟩
 |set S n=>obtain⟨b,g,d,t,e,_⟩:=x;exact⟨_,e⟩
 |ins C z k=>obtain⟨_,_,_,e,_⟩:=x;exact⟨_,e⟩
 |own y=>exact x|xd k=>obtain⟨r,⟨p,g,d,e,_⟩,_⟩:=x;exact⟨_,e⟩
 |rng lo A=>obtain⟨t,u,v,e⟩:=x;exact⟨_,e⟩
 |frz b u m=>exact⟨_,x.1⟩|tbl q=>exact{_,(show h.get? a=Y _ from x)}|met f y=>exact{_,(show h.get? a=Y _ from x)}|ext φ=>exact x.2.1
theorem kP{B h:V5}:∀{l:List S7},h.FunFrames B l->∀b∈frs l,∃o,h.get? b=Y o/\∀vs:Array V0,o.data≠ .fields vs
 |[],_,b,a=>nomatch a|env::l,c,b,a=>by
  rw[Heap.FunFrames.eq_2] at c;obtain⟨_,⟨L,o,f,_,d,e⟩,r⟩:=c;unfold frs at a;rw[pW,f] at a;rcases mG.mp a with z | z
  ·rw[z];exact⟨o,d,e⟩
  ·exact kP r b z
def CXE(φ:V0->Prop)(P:V3)(w:V4):CXT:=λa H s E e s'=>∃(x T:V1)(C:V0)(d:Option V1)(b:V0)(H':Hp),e= .ref x/\s'.os=s.os/\AllBare s'.gens/\Un (frs a) [] H H' s.heap s'.heap/\HOk P w H' s'.heap/\
 s.heap.get? x=none/\s.heap.get? T=none/\H' x=none/\H' T=none/\Fl φ s'.heap x T C d b .none/\E C d H'
theorem zCi{d xs:B9}{j H':Hp}{i h h':V5}(u:Un d [] j H' i h)(k:Kp d xs h h')(g:∀b∈xs,i.get? b=none):Un d [] j H' i h' where
 keep b o e n a hx:=k.keep b o (u.keep b o e n a hx) a λz=>by rw[g b z] at e;cases e
 slot b o e n a hx:=by
  obtain⟨r,q⟩:=u.slot b o e n a hx;obtain⟨c,f⟩:=k.slot b _ q a λz=>by rw[g b z] at e;cases e
  exact⟨c,f⟩
 free b o e n hx:=u.free b o e n hx
 there b o e hx:=by
  obtain⟨m,p⟩:=u.there b o e hx;let l:b∉xs:=λz=>by rw[g b z] at e;cases e
  by_cases a:b∈d
  ·obtain⟨c,f⟩:=k.slot b _ p a l
   exact⟨_,f⟩
  ·exact{m,k.keep b m p a l}
 tups:=u.tups
 frzs:=u.frzs
 tbls:=u.tbls
theorem gC{P:V3}{w:V4}{H:Hp}{c xs:B9}{h h':V5}(x:HOk P w H h)(k:Kp c xs h h')(f:∀b∈c,H b=none)(g:∀b∈xs,H b=none):HOk P w H h':=λa o e=>
 (x a o e).stay (λb u i q=>by
  let d:H b≠none:=by
   rcases i with z | z
   ·rw[z,e];exact λz=>nomatch z
   ·rw[z];exact λz=>nomatch z
  exact k.keep b u q (λz=>d (f b z)) λz=>d (g b z)) (λ_ q=>q) λ_ _ q=>q
theorem vA{a fs' xs:B9}{h h':V5}(k:Kp a xs h h')(c:∀b,b∈a->b∈fs'\/b∈xs):Kp fs' xs h h' where
 keep b o e hf hx:=k.keep b o e (λz=>(c b z).elim hf hx) hx
 slot b o e hf hx:=by
  by_cases z:b∈a
  ·exact k.slot b o e z hx
  ·exact⟨o.slots,k.keep b o e z hx⟩
theorem yAi{E:XK}{e:V0}{EE:C9}(I:Inv X pins σ H s)(y:X.stack=X.env::X.outer)(hf:X.env.frame=Y X.env.locals)(hex:X.ex= [])(h:CXE φ X.prog X.w X.stack H s E e s'):
  V8 (S5 X.prog X.w) X.A (leaving X.env e) (λ_ s3=>CXE φ X.prog X.w X.outer X.H₀ X.s₀ E e s3) EE s':=by
 ext yA h x T C d a0 v;ext wQ v H' B os n un v;ext zS v L N hT p A v;ext oA v fl q;subst B;let k:Inv X pins σ H' s':=I.call' os un L n (λb z=>absurd z (by simp));let l:∀b,s.heap.get? b=none->X.s₀.heap.get? b=none:=λb f=>by
  cases e:X.s₀.heap.get? b with
  |none=>rfl|some o=>
   obtain⟨o',w⟩:=I.base.there b o e (by rw[hex];exact λz=>nomatch z);rw[f] at w;cases w
 let M:frs X.stack=X.env.locals::X.fs:=by
  rw[y];unfold frs;rw[pW,hf];rfl
 let t:X.s₀.heap.get? X.env.locals=none:=rQ I.ok.above;let m:=I.ok.frames;rw[y] at m;let u:∀b,s.heap.get? b=none->b∉frs X.stack:=λb f z=>by
  obtain⟨o,e,_⟩:=kP I.stack b z;rw[f] at e;cases e
 let nx:=u x N;let nT:=u T hT;let st:=k.stack;rw[y] at nx nT st;unfold leaving;refine mF (zKf m st hf nx nT fl λh1 g f1 Q n1=>?_);refine qB f1 λD f2 k2=>?_;rw[<-y] at Q;let a:=k.base;rw[hex] at a;let j:H' g=none:=by
  cases e:H' g with
  |none=>rfl|some o=>
   obtain⟨ob,r⟩:=i3 (k.hok g o e);rw[n1] at r;cases r
 let i:X.s₀.heap.get? g=none:=by
  cases e:X.s₀.heap.get? g with
  |none=>rfl|some o=>
   obtain⟨o',w⟩:=a.there g o e (λz=>nomatch z);rw[n1] at w;cases w
 let k3:Kp (frs X.stack) [x,T,g] s'.heap D:=Q.trans (vA k2 λb f=>nomatch f) λc J=>by
  rcases J with z | z
  ·rcases mG.mp z with z | z
   ·rw[z];simp
   ·rw[mH.mp z];simp
  ·rw[mH.mp z.1];simp
 let k4:Kp X.fs [x,T,g,X.env.locals] s'.heap D:=by
  let k5:Kp (frs X.stack) [x,T,g,X.env.locals] s'.heap D:=k3.trans Kp.refl (ys:=[]) λc J=>by
   rcases J with z | z
   ·rcases mG.mp z with z | z
    ·rw[z];simp
    ·rcases mG.mp z with z | z
     ·rw[z];simp
     ·rw[mH.mp z];simp
   ·exact nomatch z.1
  refine vA k5 λb f=>?_;rw[M] at f;rcases mG.mp f with z | z
  ·rw[z];exact .inr (by simp)
  ·exact .inl z
 refine{x,g,C,d,a0,H',O,k.os,k.bare,zCi a k4 λb f=>?_,gC k.hok k3 k.stkFree λb f=>?_,l x N,i,p,j,f2,q}
 ·rcases mG.mp f with z | z
  ·rw[z];exact l x N
  ·rcases mG.mp z with z | z
   ·rw[z];exact l T hT
   ·rcases mG.mp z with z | z
    ·rw[z];exact i
    ·rw[mH.mp z];exact t
 ·rcases mG.mp f with z | z
  ·rw[z];exact p
  ·rcases mG.mp z with z | z
   ·rw[z];exact A
   ·rw[mH.mp z];exact j
end
end L2
namespace L2
open PySem PySem.Spec PyProof.Rows PySem.W
def XObj(nm:Str)(C N:V1)(bm:B7)(o:Obj):Prop:=∃(q:Str)(j:B7)(a:Bool)(i:C1)(sub:B7)(h:Bool)(b:Option Bool)(k:Option V1)(d g e f c:Option V0),o=excClassObj nm q C N j bm a i sub h b k d g e f c "ValueError.__new__"
section
variable{M:Model}{A:Around}{E:C9}{s:V2}{env:S7}
theorem zFl{nm:Str}{C N:V1}{bm:B7}{x:Sem V0}{Q:Flow->V2->Prop}(w:bm.contains (.type "BaseException")=true)(p:A.handled=none)
  (h:V8 M A x (λv i=>∃(e:V1)(d k:Obj)(j:Array V0),v= .ref e/\i.heap.get? C=Y k/\XObj nm C N bm k/\i.heap.get? e=Y d/\d.cls= .ref C/\d.data= .fields j/\j[1]? =some .none/\E (.ref e) i) E s):
  V8 M A (raiseStmt env ↥x none) Q E s:=by
 unfold raiseStmt;refine mF (thn h λv i z_=>?_);obtain⟨e,d,k,j,r,o,u,f,a,n,y,q⟩:=z_;subst r;ext yA u L bs m sn sub l;ext yA l J t H k0 D l;ext zXo l B I k5 b;subst b;let g:∀c:ClassData,d.data≠ .cls c:=λc z=>by rw[n] at z;cases z
 refine mF (nB ?_);refine mF (rO ?_);unfold excFromValue isExcClass;refine mF (mF (aW f g ?_));rw[mK nL];refine nB ?_;rw[mK nL];unfold PySem.isInstance;refine mF (mF (sE f ?_));rw[a];refine cS o ?_;rw[show(Value.ref C::bm).contains (Value.type "BaseException")=true by
  rw[tD,w,aA],mN O]
 refine nB ?_;refine mF (aW f g ?_);rw[mK nL];unfold raisedInstance;refine mF (mF (sE f ?_));rw[a];refine mF (sE o ?_);rw[mN (by rfl)];refine nB ?_;refine mF ?_;unfold setFlight;refine mF (rV f n y ?_);rw[mK (by intro z;cases z)];refine nB ?_;exact wpAny_raiseNew_none p q
end
end L2
namespace L2
open PySem PySem.Spec PyProof.Rows PySem.W
abbrev veMro:List V0:=[.type "ValueError", .type "Exception", .type "BaseException", .type "object"]
abbrev kL(C t:V1):Obj:={cls:=.ref C,data:=.fields #[.ref t, .none, .none, .none, .bool false, .none]}
theorem zVi(a:Args):(Code.builtin "type.__call__" a).quiet=true:=by
 unfold Code.quiet
 first | rfl | kernel_rfl | decide+kernel
theorem zSv(a:Args):(Code.builtin "ValueError.__new__" a).quiet=true:=by
 unfold Code.quiet
 first | rfl | kernel_rfl | decide+kernel
section
variable{prog:V3}{w:V4}{A:Around}{K:Frag}{C fI N:V1}{nm:Str}{bm:B7}{o:Obj}
theorem zXv{R:Result->V2->Prop}{rest:B7}{h:V5}{g:Array GenState}{d:Drawn}{t:Nat}{os:OsState}(k:K.In h)(lk:K.lookup C=Y o)(D:XObj nm C N bm o)(y:tailIn K veMro bm=true)(H:findIn K (.ref C) "__init__" =Y ↥(.ref fI))(E:typeIn K (.ref fI)=Y (.type "function"))(hz:rest...*<=100)
  (x:codeAny (S5 prog w) (A.under (.builtin "type.__call__" {.ref C::rest,[]})) (.call (.ref fI) {.ref (h.objs.size+1)::rest,[]}) (InitBack (h.objs.size+1) R) {(h.push {cls:=.type "tuple",data:=.seq rest.toArray}).push (kL C h.objs.size),g,d,t,os}):
  codeAny (S5 prog w) A (.call (.ref C) {rest,[]}) R ⟨h,g,d,t,os⟩:=by
 let a:h.get? C=Y o:=k _ _ lk;ext yA D q' bs q sn sub p;ext yA p Q B dd k0 L p;ext zXo p J M k5 i;subst i;let s:=tail_of_in k y;refine codeAny_of_tree ?_;show V8 _ _ (callAny (.ref C) {rest,[]}) _ _ _;unfold callAny;refine mF (wpAny_load a ?_);show V8 _ _ (callAny.viaDunder (.ref C) {rest,[]}) _ _ _;unfold callAny.viaDunder specialOf;refine mF (mF (sE a ?_));rw[tc_lookup];refine nB ?_;dsimp only;rw[tc_bind];refine mF (nB ?_);dsimp only;refine mF ?_;unfold callAny.plainCallee;refine nB ?_;rw[mN (by rfl)];refine nB {O, ?_};refine codeAny_call_builtin_at (zVi _) F.entry_type_call (wpAny_check_type_call_sub a ?_);show V8 _ _ (Builtin.«type.__call__» {.ref C::rest,[]}) _ _ _;unfold Builtin.«type.__call__»;dsimp only;rw[mK (by intro z;cases (eq_of_beq z))];refine mF (wpAny_mroOf_exc a ?_);rw[mK (by intro z;cases z)];refine mF (wpAny_madeBy_exc a ?_);dsimp only;refine mF (nB ?_);refine mF (rO (bO ?_));refine codeAny_call_builtin_code (zSv _) (wpAny_check_new_subT cP s a ?_);refine codeAny_exc_new_subT cP s a ?_ (by rw[mV];lia);let f:∀b l,h.get? b=Y l->((h.push {cls:=.type "tuple",data:=.seq rest.toArray}).push (kL C h.objs.size)).get? b=Y l:=λb l e=>mO _ (mO _ e);let m:(h.push {cls:=.type "tuple",data:=.seq rest.toArray}).objs.size=h.objs.size+1:=tX ..;let u:((h.push {cls:=.type "tuple",data:=.seq rest.toArray}).push (kL C h.objs.size)).get? (h.objs.size+1)=Y (kL C h.objs.size):=by
  rw[<-m];exact nQ _ O
 let j:K.In ((h.push {cls:=.type "tuple",data:=.seq rest.toArray}).push (kL C h.objs.size)):=k.keeps f;let n:=f _ _ a;unfold PySem.isInstance;refine mF (mF (sE u ?_));refine cS n ?_;rw[show(Value.ref C::bm).contains (Value.ref C)=true by simp,mK ∎];refine mF (rO ?_);unfold callSpecial? specialOf;refine mF (mF (sE u ?_));refine Looks.here (looks_findIn j H) ?_;dsimp only;refine rO (mF (Looks.here (bind_fn j _ E) ?_));dsimp only;refine mF (bO (sG x λr s' c=>?_))
 cases r with
 |error e=>exact c|ok I=>
  cases I with
  |ret v=>
   obtain⟨rfl,c⟩:=c;refine nB ?_;dsimp only;rw[mK (by intro z;cases z)];exact nB c
  |next=>exact c.elim|brk=>exact c.elim|cont=>exact c.elim
end
end L2
namespace L2
open PySem PySem.Spec PyProof.Rows PySem.W PySem.Builtin PySem.Builtin.ObjectAttr
section
variable{prog:V3}{w:V4}{A:Around}{K:Frag}{C B x:V1}{cd:ClassData}{ox:Obj}{name:Str}{v:V0}
theorem osa_x{R:Result->V2->Prop}{s:V2}{D:Tok}(p:K.In s.heap)(hc:clsIn K C=Y cd)(N:cd.mro= .ref C:: .ref B::veMro)(hd:cd.hasDict=true)(n:s.heap.get? x=Y ox)(j:ox.cls= .ref C)(M:∀c,ox.data≠ .cls c)(J:ox.dict=none)
  (hn:findIn K (.ref C) name=Y none)
  (q:∀l t',l.get? x=some {ox with dict:=Y s⁻¹}->l.Ns1 s⁻¹ (λy=>if y=name then Y v else none)->(∀b o,b≠x->s.heap.get? b=Y o->l.get? b=Y o)->R (.ok (.ret .none)) {s with heap:=l,toks:=t'}):
  codeAny (S5 prog w) A (.call (.builtin "object.__setattr__") {[.ref x, .str name D,v],[]}) R s:=by
 let m:=PySem.F.store_ValueError;obtain⟨h,g,dr,t,os⟩:=s;dsimp only at p n q;let tp:Looks (S5 prog w) h (typeOf (.ref x)) (.ref C):=by
  intro A Q E s k q;refine sE (k _ _ n) ?_;rw[j];exact q
 let sub:Looks (S5 prog w) h (isInstance (.ref x) (.type "object")) true:=tp.andThen (looks_mroIn p (by
  unfold mroIn;rw[hc,Option.bind_some,mK (by rw[N];exact nL),N,tD,tD,show veMro.contains (.type "object")=true by decide,aA,aA]))
 refine codeAny_call_builtin m.slot.plain m.entry (@check_slot (S5 prog w) _ _ ⟨h,g,dr,t,os⟩ "object.__setattr__" "object" "__setattr__" (.ref x) [.str name D,v] [] _ m.kind m.split sub (m.args (.ref x) (.str name D) v) ?_);let ag:Looks (S5 prog w) h (mroOf (.ref C)) cd.mro:=(looks_clsIn p hc).andThen .now;rw[osa_eq,refuse_eq];refine mF (mF (Looks.here tp (mF (Looks.here ag ?_))));rw[N,refuseLoop_ref,refuseLoop_ref,m.passes];refine nB (mF (Looks.here tp (mF (Looks.here (looks_findIn p hn) (mF ?_)))));refine nB ?_;dsimp only;unfold storeInOwnDict;refine mF (nB ?_);rw[mK (by intro z;cases (eq_of_beq z))];refine mF ?_;show V8 _ _ (instanceDict x true) _ _ _;unfold instanceDict;refine mF (wpAny_loadPart n ?_);obtain⟨oc,al,H,aj⟩:=ox;dsimp only at j J M;subst j J;dsimp only;refine mF (Looks.here (looks_clsIn p hc) ?_);rw[hd];rw[mK (show¬((!true)=true) from nL),mK (by simp[typeHasDict])];let r:V8 (S5 prog w) A.in1 (do
     let d <-alloc {cls:=Value.type "dict",data:=Data.dict #[]}
     update x λo=>{cls:=o.cls,dict:=Y d,data:=o.data,slots:=o.slots}
     dictMade (Value.ref C) x d)
   (λa i=>
   V8 (S5 prog w) A.in1
    (match a with
    | some d=>storeInDict d (Value.str name D) name v|none=>noDictFor (Value.ref x) (Value.ref C) name (none:Option V0).isSome)
    (λab i=>
     match ab with
     | Fin.done f=>R (Except.ok f) i|Fin.again c'=>c'.quiet=true/\codeAny (S5 prog w) A c' R i)
    (λe i=>R (Except.error e) i) i)
  (λe i=>R (Except.error e) i) {heap:=h,gens:=g,drawn:=dr,toks:=t,os:=os}:=by
  let L:(h.push {cls:=.type "dict",data:=.dict #[]}).get? x=Y _:=mO _ n;let I:x≠h.objs.size:=nV (mW n);refine mF (wpAny_alloc' ?_);refine mF (wpAny_update' L ?_);refine nB ?_;let af:((h.push {cls:=.type "dict",data:=.dict #[]}).update x λo=>{cls:=o.cls,dict:=Y h.objs.size,data:=o.data,slots:=o.slots}).get? h.objs.size=some {cls:=.type "dict",data:=.dict #[]}:=
   (Heap.get?_update_ne _ _ _ _ I.symm).trans (Heap.get?_push_at O O)
  let ai:((h.push {cls:=.type "dict",data:=.dict #[]}).update x λo=>{cls:=o.cls,dict:=Y h.objs.size,data:=o.data,slots:=o.slots}).Ns h.objs.size (λ_=>none):=
   {_,#[],_,af,O,λe he=>absurd he (by simp),λ_=>O}
  show V8 _ _ (storeInDict h.objs.size (.str name D) name v) _ _ _;unfold storeInDict newKeyGuard;refine mF (nB (mF (wpAny_nsSet1 (Heap.Ns1.of_empty ai) λl u hs=>?_)));refine yB (u.count (Within.cons name v Within.nil)) λoD ak am ac ah ae=>?_;refine mF (wpAny_lookBehind ac (by rw[ah];exact pastItsLine_dict (pB ae (by rw[mX,rF,mV];lia))) ?_);refine nB ?_;let aa:=(Heap.get?_some_iff.mp n).2;refine q l _ ((hs.2 x I).trans (cI _ L ?_)) u λb o hb e=>?_
  ·cases H<;>first | rfl | exact aa
  ·exact(hs.2 b (nV (mW e))).trans ((Heap.get?_update_ne _ _ _ _ hb).trans (mO _ e))
 cases H with|cls c=>exact absurd O (M c)|_=>exact r
theorem yDh{E:C9}{Q:Unit->V2->Prop}{s:V2}(k:K.In s.heap)(n:clsIn K C=Y cd)(p:cd.mro= .ref C:: .ref B::veMro)(r:cd.hasDict=true)(l:s.heap.get? x=Y ox)(f:ox.cls= .ref C)(g:∀c,ox.data≠ .cls c)(e:ox.dict=none)
  (t:findIn K (.ref C) "__setattr__" =Y ↥(.builtin "object.__setattr__")) (z:findIn K (.ref C) name=Y none)
  (q:∀d j,d.get? x=some {ox with dict:=Y s⁻¹}->d.Ns1 s⁻¹ (λy=>if y=name then Y v else none)->(∀b o,b≠x->s.heap.get? b=Y o->d.get? b=Y o)->Q () {s with heap:=d,toks:=j}):
  V8 (S5 prog w) A (setAttr (.ref x) name v) Q E s:=by
 let h:notCls ox=true:=by
  unfold notCls;obtain⟨D,u,i,m⟩:=ox
  cases i with|cls c=>exact absurd O (g c)|_=>rfl
 refine set_plain (od:=none) k {l,f,h,by rw[e];trivial} t ?_;exact osa_x (s:={s with toks:=s.toks+1}) k n p r l f g e z λd j a b c=>q d j a b c
end
end L2
namespace L2
open PySem PySem.Spec PyProof.Rows PySem.W
structure zDf(K:Frag)(nm:Str)(C B fI:V1):Prop where
 obj:∃(N:V1)(o:Obj),K.lookup C=Y o/\XObj nm C N (.ref B::veMro) o
 cd:∃cd,clsIn K C=Y cd/\cd.mro= .ref C:: .ref B::veMro/\cd.hasDict=true
 tl:tailIn K veMro (.ref B::veMro)=true
 init:findIn K (.ref C) "__init__" =Y ↥(.ref fI)
 fn:typeIn K (.ref fI)=Y (.type "function")
 set:findIn K (.ref C) "__setattr__" =Y ↥(.builtin "object.__setattr__")
 at_:findIn K (.ref C) "at" =Y none
 kp:keepIn K (.ref C)=true
structure zPv(K:Frag)(B:V1):Prop where
 sp:specialIn K (.ref B) "__getattribute__" =Y ↥(.builtin "type.__getattribute__")
 rd:readsIn K B (.type "type")=true
 init:findCls K (.ref B) (.type "type") "__init__" =Y (.val (.builtin "ValueError.__init__"))
noncomputable def exO(x C:V1)(d:Option V1):HO:=.ext λh=>∃a:Array V0,h.get? x=some {cls:=.ref C,dict:=d,data:=.fields a}/\a.size=6/\a[1]? =some .none/\a[2]? =some .none
theorem zDk{P:V3}{w:V4}{H:Hp}{h:V5}{x C:V1}{d:Option V1}{vs:Array V0}(e:h.get? x=some {cls:=.ref C,dict:=d,data:=.fields vs})(g:vs.size=6)(f:vs[1]? =some .none)(c:vs[2]? =some .none):ObjOk P w H h x (exO x C d):=
 {⟨vs,e,g,f,c⟩,⟨_,e⟩,λ_ _ ⟨vs,e,a,b⟩ k=>{vs,k _ e,a,b}}
theorem yEe{H:Hp}{a:V1}{o:HO}(h:H a=Y o):upd H a o=H:=by
 funext b
 unfold upd;split
 ·rename_i e;rw[e,h]
 ·rfl
theorem Un.also{f g:B9}{H H1:Hp}{h h':V5}{a:V1}{o:HO}(u:Un f g H H1 h h')(j:h.objs.size<=a)(d:H a=none):Un f g H (upd H1 a o) h h' where
 keep:=u.keep
 slot:=u.slot
 free:=λb e q n i=>by rw[zM (nV (nR (mW q) j))];exact u.free b e q n i
 there:=u.there
 tups:=λb c q=>by rw[zM (yK q d)];exact u.tups b c q
 frzs:=λb e c q=>by rw[zM (yK q d)];exact u.frzs b e c q
 tbls:=λb k q=>by rw[zM (yK q d)];exact u.tbls b k q
theorem HOk.also{P:V3}{w:V4}{H:Hp}{h:V5}{a:V1}{o:HO}(x:HOk P w H h)(f:H a=none)(d:ObjOk P w (upd H a o) h a o):HOk P w (upd H a o) h:=λb u e=>by
 by_cases g:b=a
 ·subst g;rw[zD] at e;cases e;exact d
 ·rw[zM g] at e
  exact(x b u e).stay (λc v _ q=>q) (λc q=>by rw[zM (yK q f)];exact q) λc i q=>by rw[zM (yK q f)];exact q
section
variable{X:Cx}{pins:C7}{σ:St}{H:Hp}{s:V2}{x C B fI:V1}{nm:Str}{d:Option V1}
theorem zBl(I:Inv X pins σ H s)(h:H x=Y (exO x C d)):∃vs:Array V0,s.heap.get? x=some {cls:=.ref C,dict:=d,data:=.fields vs}/\vs.size=6/\vs[1]? =some .none/\vs[2]? =some .none:=(I.hok x _ h).1
theorem zTh{Q:C9}{E:C9}{u:V0}(c:zDf X.K nm C B fI)(I:Inv X pins σ H s)(r:H x=Y (exO x C d))(q:∀s',Inv X pins σ H s'->Q .none s'):
  V8 (S5 X.prog X.w) X.A (call (.builtin "ValueError.__init__") [.ref x,u]) Q E s:=by
 refine yEv (c.obj) λN o lk q' bs l=>?_;ext yA l w sn sub ab J l;ext yA l dd k0 k1 k2 k3 l;ext oE l k5 j;subst j;refine vN (zBl I r) λy v M h1 L=>?_;let A:=tail_of_in I.kIn c.tl;let z:=I.kIn _ _ lk;let I':=I;obtain⟨h,g,dr,t,os⟩:=s;dsimp only at v z A;let F:=cP;obtain⟨p,h0⟩:∃p,y[0]? =Y p:={_,pK.mpr {∅,O}};refine bO (codeAny_call_builtin F.init.plain F.initEntry (wpAny_check_init_subT F A z v O ?_));unfold Builtin.«BaseException.__init__»;dsimp only;rw[mK (by simp)];let n:0<y.size:=by lia
 let i:=mO (h:=h) {cls:=.type "tuple",data:=.seq [u].toArray} v;let k:=uA i O 0 (.ref h.objs.size);let m:Inv X pins σ H {(h.push {cls:=.type "tuple",data:=.seq [u].toArray}).update x (Obj.mapFields λD=>D.setIfInBounds 0 (.ref h.objs.size)),g,dr,t,os}:=by
  rw[<-yEe r];refine Inv.write (t':=t) I' (e:=x) (by rw[r];exact mT) (.inl O) (λb ob hb e=>(nM _ _ (Ne.symm hb)).trans (mO _ e)) ⟨_,k⟩ (zDk k ?_ ?_ ?_)
  ·rw[tH];exact M
  ·rw[rD ∎];exact h1
  ·rw[rD ∎];exact L
 refine mF (wpAny_newTuple ?_ (by rw[mV];simp));unfold Builtin.BaseException.bexcPut;refine mF (mF (rV i O h0 (mF (sZ i O n ?_))));let f:=q _ m
 cases p with|ref a=>exact wpAny_letGo (nB f)|_=>exact nB (nB f)
end
end L2
namespace L2
open PySem PySem.Spec PyProof.Rows PySem.W
section
variable{X:Cx}{C B fI:V1}{nm:Str}
def yGi(C:V1)(t:TA):TE:=λσ H Q=>t σ H λb a=>∃x v,b= [.ref x,v]/\a x=Y (exO x C none)/\Q .non a
theorem zNq{j:Str}{p g d:Pos}{e:Expr}{i:C5}{t:TA}{pl:Sem Bool}(c:zDf X.K nm C B fI)(b:zPv X.K B)(z:Gl X j)(y:X.mg j=Y (.ref B))(J:PA X (e::i) t)(m:(j==("__debug__" :Str))=false:=by decide)
  (he:A2 (e::i) X.env=(false,eval e X.env)::A2 i X.env:=by rfl) (n:(S2 d (A2 i X.env)).any (·.1)=false:=by rfl)
  (ht:eval (.Call (.Attribute (.Name j p) "__init__" g) (e::i) [] d) X.env=(do
   let ov <-eval (.Name j p) X.env
   S0 g.atName
   let (f,first) <-holding [ov] (getMethod ov "__init__" pl)
   callWith d f first (S2 d (A2 (e::i) X.env)) (backToKw d (keywordEach [] X.env))):=by rfl):
  PE X (.Call (.Attribute (.Name j p) "__init__" g) (e::i) [] d) (yGi C t):=by
 intro k s σ H Q I h;refine methodCall_KW (pl:=pl) (jA I z y ?_ m) ht;refine method_cls I.kIn b.sp (cls_value I.kIn b.rd b.init (by decide+kernel) ?_);let D:=I.tok (s.toks+1);refine cM (thn (J d k _ σ H _ D h) λL s2 z_=>?_) he n;obtain⟨vs,M,u,r,x,v,A,N,q⟩:=z_;subst A;obtain⟨l,o,rfl,E⟩:∃l o,L= [l,o]/\RelV (.ref x) l:=by
  cases r with
  |cons a r=>
   cases r with|cons b r=>cases r;exact⟨_,_,O,a⟩
 obtain rfl:l=Value.ref x:=E;exact zTh c u N λs' w=>{.non,M,w,O,q}
def yDd(C:V1)(f:Str)(c ta:TE):TS:=λD σ H=>c σ H λv b=>ta σ b λo a=>∃x,o= .ref x/\a x=Y (exO x C none)/\∀d,a d=none->D.nx σ (upd (upd a x (exO x C ↥d)) d (.xd [(f,v)]))
theorem yBl{o b:Expr}{i l:Pos}{A ta:TE}(c:zDf X.K nm C B fI)(hv:PE X b A)(ha:PE X o ta)(M:S1 b ↥(.Attribute o "at" i) l.line X.env=pure false:=by rfl):PS X (.Assign [.Attribute o "at" i] b l) (yDd C "at" A ta):=by
 intro g s σ H D I h;refine cK (thn (hv g s σ H _ I h) λu s1 z_=>?_) M;obtain⟨y,H1,N,ry,q⟩:=z_;refine thn (ha g s1 σ H1 _ N q) λov j z_=>?_;obtain⟨z,n,k,rx,x,ez,t,q2⟩:=z_;subst ez;obtain rfl:ov=Value.ref x:=rx;refine vN (zBl k t) λvs he h6 h1 Q=>?_;refine xE (c.cd) λcd hc E J=>?_;refine yDh k.kIn hc E J he O (λ_ z=>by cases z) O c.set c.at_ λw t' r g2 v=>?_;let d:n j⁻¹=none:=k.fresh;let p:j⁻¹≠x:=λz=>by rw[z,t] at d;cases d
 let m:Mut (n x):=by rw[t];exact mT
 let u1:Un X.fs [] n (upd n x (exO x C ↥j⁻¹)) j.heap w:=Un.write (e:=x) m (.inl O) v ⟨_,r⟩;let L:HOk X.prog X.w (upd n x (exO x C ↥j⁻¹)) w:=k.hok.write (e:=x) m (.inl O) v ⟨_,r⟩ (zDk r h6 h1 Q);refine{σ,_,k.un (t':=t') (u1.also (a:=j⁻¹) (o:=.xd [("at",y)]) (mC _) d) (L.also (by rw[zM p];exact d) ?_),q2 _ d};refine{_,g2,λf=>?_};show RelO (List.lookup f [("at",y)]) _;rw[sO,List.lookup_nil]
 by_cases z:f= "at"
 ·subst z
  rw[mN O,dJ];exact ry
 ·rw[mK z,show(f==("at" :Str))=false from sL.mpr z]
  trivial
def zEq(C:V1):Sp:=λa H Q _=>∃x b v,a= [.ref x,b,v]/\H x=Y (exO x C none)/\∀d,H d=none->Q .non (upd (upd H x (exO x C ↥d)) d (.xd [("at",v)]))
end
section
variable{X:Cx}{pins:C7}{σ:St}{H:Hp}{s:V2}{x C:V1}{d:Option V1}{φ:V0->Prop}
def drp(H:Hp)(x:V1):Hp:=λb=>if b=x then none else H b
theorem vO{b:V1}(h:b≠x):drp H x b=H b:=mK h
theorem uT:drp H x x=none:=mN O
theorem zIu{E:XK}{EE:C9}(I:Inv X pins σ H s)(w:X.stack=X.env::X.outer)(hf:X.env.frame=Y X.env.locals)(hex:X.ex= [])(Q:H x=Y (exO x C d))(k:X.s₀.heap.get? x=none)(hφ:φ .none)(q:E (.ref C) d (drp H x)):
  V8 (S5 X.prog X.w) X.A (leaving X.env (.ref x)) (λ_ s3=>CXE φ X.prog X.w X.outer X.H₀ X.s₀ E (.ref x) s3) EE s:=by
 refine vN (zBl I Q) λvs he h6 h1 j=>?_;obtain⟨L,h0⟩:∃L,vs[0]? =Y L:={_,pK.mpr {∅,O}};let M:frs X.stack=X.env.locals::X.fs:=by
  rw[w];unfold frs;rw[pW,hf];rfl
 let u:X.s₀.heap.get? X.env.locals=none:=rQ I.ok.above;let r:=I.ok.frames;rw[w] at r;let nx:x∉frs X.stack:=λz=>by
  let:=I.stkFree x z;rw[Q] at this;cases this
 let st:=I.stack;let p:=nx;rw[w] at p st;unfold leaving;refine mF (zNz (φ:=φ) r st hf he p O h0 h1 ⟨_,j,hφ⟩ λh1 f f1 k1 n1=>?_);refine qB f1 λj f2 k2=>?_;rw[<-w] at k1;let a:=I.base;rw[hex] at a;let i:H f=none:=by
  cases e:H f with
  |none=>rfl|some o=>
   obtain⟨B,t⟩:=i3 (I.hok f o e);rw[n1] at t;cases t
 let h:X.s₀.heap.get? f=none:=by
  cases e:X.s₀.heap.get? f with
  |none=>rfl|some o=>
   obtain⟨o',e'⟩:=a.there f o e (λz=>nomatch z);rw[n1] at e';cases e'
 let k3:Kp (frs X.stack) [x,f] s.heap j:=k1.trans (vA k2 λb g=>nomatch g) λc J=>by
  rcases J with z | z
  ·rw[mH.mp z];simp
  ·rw[mH.mp z.1];simp
 let k4:Kp X.fs [x,f,X.env.locals] s.heap j:=by
  let k5:Kp (frs X.stack) [x,f,X.env.locals] s.heap j:=k3.trans Kp.refl (ys:=[]) λc J=>by
   rcases J with z | z
   ·rcases mG.mp z with z | z
    ·rw[z];simp
    ·rw[mH.mp z];simp
   ·exact nomatch z.1
  refine vA k5 λb g=>?_;rw[M] at g;rcases mG.mp g with z | z
  ·rw[z];exact .inr (by simp)
  ·exact .inl z
 let l:Un X.fs [] X.H₀ H X.s₀.heap j:=zCi a k4 λb g=>by
  rcases mG.mp g with z | z
  ·rw[z];exact k
  ·rcases mG.mp z with z | z
   ·rw[z];exact h
   ·rw[mH.mp z];exact u
 let v:∀b o,H b=Y o->(∀φ,o≠ .ext φ)->b≠x:=λb o e n z=>by
  subst z;rw[Q] at e;exact n _ (mQ e).symm
 let u2:Un X.fs [] X.H₀ (drp H x) X.s₀.heap j:={l.keep,l.slot,λb B e n hx=>by
   rw[vO (λz=>by subst z;rw[k] at e;cases e)];exact l.free b B e n hx,l.there,
  λb A e=>by let z:=l.tups b A e;rw[vO (v b _ z λ_ y=>nomatch y)];exact z,
  λb B A e=>by let z:=l.frzs b B A e;rw[vO (v b _ z λ_ y=>nomatch y)];exact z,
  λb ps e=>by obtain⟨m,z⟩:=l.tbls b ps e;exact{m,by rw[vO (v b _ z λ_ y=>nomatch y)];exact z}}
 let D:HOk X.prog X.w (drp H x) s.heap:=λb o e=>by
  by_cases z:b=x
  ·subst z;rw[uT] at e;cases e
  ·rw[vO z] at e
   exact(I.hok b o e).stay (λ_ _ _ q=>q) (λc q=>by rw[vO (v c _ q λ_ y=>nomatch y)];exact q) λc A q=>by rw[vO (v c _ q λ_ y=>nomatch y)];exact q
 let N:∀b,H b=none->drp H x b=none:=λb e=>by
  unfold drp;split
  ·rfl
  ·exact e
 refine{x,f, .ref C,d,L,drp H x,O,I.os,I.bare,u2,gC D k3 (λb g=>N b (I.stkFree b g)) λb g=>?_,k,h,uT,N _ i,f2,q};rcases mG.mp g with z | z
 ·rw[z];exact uT
 ·rw[mH.mp z];exact N _ i
end
end L2
namespace L2
open PySem PySem.Spec PyProof.Rows PySem.W
theorem zWn{H:Hp}{x d:V1}{o u:HO}(a:H x=none)(c:d≠x):drp (upd (upd H x o) d u) x=upd H d u:=by
 funext b
 by_cases z:b=x
 ·subst z
  rw[uT,zM (Ne.symm c),a]
 ·rw[vO z]
  by_cases y:b=d
  ·subst y;rw[zD,zD]
  ·rw[zM y,zM z,zM y]
section
variable{X:Cx}{C B fI:V1}{nm:Str}{k:Nat}{fd:V7}{ps:C1}
theorem zSo{j:C7}{σ:St}{H:Hp}{s:V2}{L:C9}{us:B7}{p v:V}(c:zDf X.K nm C B fI)(F:FnOk X.prog X.w X.K X.mg X.base CX0 k fI fd ps (zEq C))(hr:Room (k+1) X.A)(hb:Binds X.K fd ps [])(I:Inv X j σ H s)(r:Vals [p,v] us)
  (q:∀x d w,X.s₀.heap.get? x=none->H x=none->H d=none->d≠x->Inv X j σ (upd (upd H x (exO x C ↥d)) d (.xd [("at",v)])) w->L (.ref x) w):V8 (S5 X.prog X.w) X.A (call (.ref C) us) L X.xe s:=by
 refine wO (c.obj) λN o lk hX=>?_;let D:us...*<=100:=by rw[<-r...*];show(2:Nat)<=100;decide
 let E:X.s₀.heap.get? (s⁻¹+1)=none:=rQ (pB I.sz (pV _));let A:H (s⁻¹+1)=none:=I.hok.fresh (pV _);let he:((s.heap.push {cls:=.type "tuple",data:=.seq us.toArray}).push (kL C s⁻¹)).get? (s⁻¹+1)=Y (kL C s⁻¹):=by
  rw[<-(tX .. :(s.heap.push {cls:=.type "tuple",data:=.seq us.toArray}).objs.size=s⁻¹+1)];exact nQ _ O
 let y:=I.laid (t':=s.toks) (a:=s⁻¹+1) (o:=exO (s⁻¹+1) C none) (h':=(s.heap.push {cls:=.type "tuple",data:=.seq us.toArray}).push (kL C s⁻¹)) (λb ob e=>mO _ (mO _ e)) (pV _) (zDk he O O O);let M:Vals [V.ref (s⁻¹+1),p,v] (Value.ref (s⁻¹+1)::us):=.cons O r;let m:zEq C [V.ref (s⁻¹+1),p,v] (upd H (s⁻¹+1) (exO (s⁻¹+1) C none)) (λu H2=>u= .non/\∃d,H d=none/\d≠s⁻¹+1/\H2=upd (upd H (s⁻¹+1) (exO (s⁻¹+1) C ↥d)) d (.xd [("at",v)])) E0:=by
  refine{_,p,v,O,zD,λd l=>{O,d, ?_}};let i:d≠s⁻¹+1:=λz=>by rw[z,zD] at l;cases l
  rw[zM i] at l;exact{l,i,by rw[zKe]}
 let hl:((Value.ref (s⁻¹+1)::us)++ [])...*=ps...*:=by
  rw[pH,<-M...*];exact F.len _ _ _ _ m
 let n:=hb _ (Value.ref (s⁻¹+1)::us) y.kIn hl;rw[pH] at n;let run:=F.run _ X.stack _ _ {Value.ref (s⁻¹+1)::us,[]} (Value.ref (s⁻¹+1)::us) _ _ E0 (hr.make C us []) (y.env0.make C us []) n M m;let I1:=I;obtain⟨h,g,dr,t,os⟩:=s;refine bO (zXv I1.kIn lk hX c.tl c.init c.fn D (sG run λr w f=>?_))
 cases r with
 |error e=>exact False.elim f|ok fl=>
  cases fl with
  |ret u=>
   refine zV (y.after f) λv' H' Q rv ev z_=>?_;ext xE z_ d l i J;subst J;subst ev;exact{rv,q _ d w E A l i Q}
  |next=>exact False.elim f|brk=>exact False.elim f|cont=>exact False.elim f
def zFc(C:V1)(E:XK)(t:TA):TS:=λ_ σ H=>t σ H λb a=>∃c v,b= [c,v]/\∀d,a d=none->E (.ref C) ↥d (upd a d (.xd [("at",v)]))
structure Xr(P:V3)(w:V4)(K:Frag)(mg:C8)(base:V5)(k:Nat)(cn:Str)(C:V1):Prop where
 ex:∃(nm:Str)(B fI:V1)(fd:V7)(ps:C1),zDf K nm C B fI/\FnOk P w K mg base CX0 k fI fd ps (zEq C)/\Binds K fd ps []/\mg cn=Y (.ref C)
def Lvs(φ:V0->Prop)(X:Cx)(E:XK):Prop:=X.stack=X.env::X.outer/\X.env.frame=Y X.env.locals/\X.ex= []/\φ .none/\∀e b,V8 (S5 X.prog X.w) X.A (leaving X.env e) (λ_ a=>CXE φ X.prog X.w X.outer X.H₀ X.s₀ E e a) (λc a=>CXE φ X.prog X.w X.outer X.H₀ X.s₀ E c a) b->X.xe e b
theorem passE{φ:V0->Prop}{E:XK}(l:Lvs φ X E):uD (CXE φ X.prog X.w) X E:=λ_ _ _ _ e a I h=>l.2.2.2.2 e a (yAi I l.1 l.2.1 l.2.2.1 h)
theorem zDr{φ:V0->Prop}{E:XK}{n:Str}{p a b:Pos}{e:Expr}{g:C5}{t:TA}{j:Nat}(R:Xr X.prog X.w X.K X.mg X.base k n C)(hr:Room j X.A)(hj:k+1<=j)(hg:Gl X n)(f:X.calm=true)(l:Lvs φ X E)(ha:PA X (e::g) t)(w:(n==("__debug__" :Str))=false:=by decide)
  (he:A2 (e::g) X.env=(false,eval e X.env)::A2 g X.env:=by rfl) (y:(S2 a (A2 g X.env)).any (·.1)=false:=by rfl):PS X (.Raise ↥(.Call (.Name n p) (e::g) [] a) none b) (zFc C E t):=by
 intro i s σ H D I h;refine yA (R.ex) λnm B fI fd ps z_=>?_;ext yZ z_ c F hb Q;ext wY l hs hf hex hφ z;rw[arm_exec_Raise];refine mF (sF ?_);show V8 _ _ (raiseStmt X.env ↥(do let v <-eval (.Call (.Name n p) (e::g) [] a) X.env;S0 b;pure v) none) _ _ _;refine wO (c.obj) λN o lk hX=>?_;refine zFl (nm:=nm) (C:=C) (N:=N) (bm:=.ref B::veMro) (by rw[tD,show veMro.contains (.type "BaseException")=true by decide,aA]) (I.ok.hd f) (mF ?_);refine rR (jA I hg Q ?_ w);refine callWith_K (h₀:=X.base) I.ok.mod.kin c.kp (thn (ha a i s σ H _ I h) λus s1 z_=>?_) he y;obtain⟨J,H1,L,r,v0,v,ev,q⟩:=z_;refine ⟨L.kIn, ?_⟩;subst ev;refine zSo c F (hr.mono hj) hb L r λx d s2 A hx hd m u=>?_;refine mF (sF (nB ?_));let M:upd (upd H1 x (exO x C ↥d)) d (.xd [("at",v)]) x=Y (exO x C ↥d):=by rw[zM (Ne.symm m),zD]
 refine vN (zBl u M) λJ e1 h6 h1 h2=>?_;refine{x,_,_,J,O,u.kIn _ _ lk,hX,e1,O,O,h1,z _ _ (zIu u hs hf hex M A hφ ?_)};rw[zWn hx m];exact q d hd
end
structure Dx(φ:V0->Prop)(P:V3)(w:V4)(K:PySem.W.Frag)(mg:C8)(base:V5)(k:Nat)(x:Str)(ps:C1)(sp:Sp):Prop where
 ex:∃(f:V1)(fd:V7),FnOk P w K mg base (CXE φ P w) k f fd ps sp/\Binds K fd ps []/\PySem.W.keepIn K (.ref f)=true/\mg x=Y (.ref f)
section
variable{X:Cx}{k j:Nat}{x:Str}{ps:C1}{sp:Sp}{e:Expr}{es:C5}{t:TA}{p pos:Pos}{E:XK}
theorem zGc{φ:V0->Prop}(D:Dx φ X.prog X.w X.K X.mg X.base k x ps sp)(h:Room j X.A)(g:k<=j)(o:Gl X x)(l:Lvs φ X E)(i:PA X (e::es) t)(a:(x==("__debug__" :Str))=false:=by decide)
  (m:A2 (e::es) X.env=(false,eval e X.env)::A2 es X.env:=by rfl) (b:(S2 pos (A2 es X.env)).any (·.1)=false:=by rfl):PE X (.Call (.Name x p) (e::es) [] pos) (kY sp [] E t):=by
 refine zV (D.ex) λf r n d q c=>?_;exact zJq n (h.mono g) o c q d .nil (passE l) i a m b
end
section
variable{P:V3}{w:V4}{K:PySem.W.Frag}{mg:C8}{base:V5}{k:Nat}{f:V1}{fd:V7}{ps:C1}{sp sp':Sp}{CX:CXT}
theorem Fun.okx{φ:V0->Prop}{x b:Str}{st:V6}{N:C1}(F:Fun K x b st f fd)(S:wF N ps (zY st))(len:∀d H Q E,sp d H Q E->d...*=ps...*)
  (e:∀(c:V0)(A:Around)(a:List S7)(s:V2)(H:Hp)(d:B3)(Q:VK)(E:XK),Room k (A.deeper (envOfC b (zY st) s⁻¹ f c))->sp d H Q E->
   ∃t,PSs (zCj (CXE φ P w) P w K mg base N b (zY st) f c A a s H E) (xJ st) t/\t {nx:=λ_ H'=>Q .non H',rt:=Q} (jI N d) H):FnOk P w K mg base (CXE φ P w) (k+1) f fd ps sp:=by
 refine yA (F.ex) λu r kV m p j=>?_;ext yN j o c q l h j;ext oA j lk g;subst h;exact zSe lk g S len λA a s H d Q E n i=>e c A a s H d Q E n i
theorem lvs{φ:V0->Prop}{N:C1}{c:Str}{b:Scope}{d:V0}{A:Around}{a:List S7}{s:V2}{H:Hp}{E:XK}(e:φ .none:=by first | rfl | trivial):Lvs φ (zCj (CXE φ P w) P w K mg base N c b f d A a s H E) E:={O,O,O,e,λ_ _ h=>h}
end
end L2
namespace L2
open PySem PySem.Spec PyProof.Rows PySem.W PySem.Builtin PySem.Builtin.ObjectAttr
structure XGet(K:Frag)(C:V1):Prop where
 ga:findIn K (.ref C) "__getattribute__" =Y ↥(.builtin "BaseException.__getattribute__")
 gt:findIn K (.ref C) "__getattr__" =Y none
 bx:mroIn K C (.type "BaseException")=Y true
 ob:mroIn K C (.type "object")=Y true
 hd:hasDictIn K C=true
 cl:findIn K (.ref C) "__class__" =Y ↥(.builtin "object.__class__")
 cg:specialIn K (.builtin "object.__class__") "__get__" =Y ↥(.builtin "getset_descriptor.__get__")
 ct:takesIn K (.builtin "object.__class__")=Y true
section
variable{prog:V3}{w:V4}{A:Around}{K:Frag}{C x:V1}{ox od:Obj}{name:Str}{E:C9}{s:V2}
end
end L2
namespace L2
open PySem PySem.Spec PyProof.Rows PySem.W
noncomputable def exF(x C:V1)(d:Option V1):HO:=.ext λh=>∃(a:Obj)(b:Array V0),h.get? x=Y a/\a.cls= .ref C/\a.dict=d/\a.data= .fields b
theorem yEl{P:V3}{w:V4}{H:Hp}{h:V5}{x C:V1}{d:Option V1}{b:Obj}{vs:Array V0}(e:h.get? x=Y b)(f:b.cls= .ref C)(c:b.dict=d)(g:b.data= .fields vs):ObjOk P w H h x (exF x C d):=
 {⟨b,vs,e,f,c,g⟩,⟨_,e⟩,λ_ _ ⟨b,vs,e,a⟩ k=>{b,vs,k _ e,a}}
abbrev Cx.mark(X:Cx)(v:V0):Cx:={X with A:=X.A.mark ↥v,calm:=false,xe:=λ_ _=>False}
abbrev Cx.pend(X:Cx)(pins:C7)(W:C9):Cx:={X with pn:=X.pn++pins,xe:=W}
section
variable{X:Cx}{pins pins':C7}{σ:St}{H:Hp}{s:V2}{v:V0}{W:C9}
theorem Cx.Ok.mark(a:X.Ok):(X.mark v).Ok:=
 {a.mod,a.kind,a.glob,a.blt,a.above,a.inj,a.has,a.cab,(λz=>nomatch z),a.frames,a.stk,a.exf,a.bs,a.bsz,a.noex,a.exfs,a.funs,a.frf}
theorem Inv.mark(I:Inv X pins σ H s):Inv (X.mark v) pins σ H s:=⟨I.ok.mark,I.os,I.bare,I.base,I.loc,I.cell,I.free,I.freeC,I.pin,I.hok,I.len⟩
theorem Inv.unmark(a:X.Ok)(I:Inv (X.mark v) pins σ H s):Inv X pins σ H s:=⟨a,I.os,I.bare,I.base,I.loc,I.cell,I.free,I.freeC,I.pin,I.hok,I.len⟩
theorem Cx.Ok.pend(a:X.Ok):(X.pend pins W).Ok:=
 ⟨a.mod,a.kind,a.glob,a.blt,a.above,a.inj,a.has,a.cab,a.hd,a.frames,a.stk,a.exf,a.bs,a.bsz,a.noex,a.exfs,a.funs,a.frf⟩
theorem Inv.pend(I:Inv X pins σ H s):Inv (X.pend pins W) [] σ H s:={I.ok.pend,I.os,I.bare,I.base,I.loc,I.cell,I.free,I.freeC,λp a=>I.pin p (by rw[pH] at a;exact a),I.hok,I.len}
theorem Inv.unpend(a:X.Ok)(I:Inv (X.pend pins W) pins' σ H s):Inv X pins σ H s:={a,I.os,I.bare,I.base,I.loc,I.cell,I.free,I.freeC,λp b=>I.pin p (pG _ b),I.hok,I.len}
theorem Inv.track{x:V1}{o:HO}(I:Inv X pins σ H s)(d:H x=none)(l:X.s₀.heap.get? x=none)(t:x≠X.env.locals)(j:∀y c,X.env.cells.lookup y=Y c->c≠x)(k:∀p∈X.pn++pins,p.1≠x)
  (g:ObjOk X.prog X.w (upd H x o) s.heap x o):Inv X pins σ (upd H x o) s where
 ok:=I.ok
 os:=I.os
 bare:=I.bare
 base:={I.base.keep,I.base.slot,λb i e n f=>by rw[zM (λz=>by subst z;rw[l] at e;cases e)];exact I.base.free b i e n f,I.base.there,
  λb h e=>by let z:=I.base.tups b h e;rw[zM (yK z d)];exact z,λb i h e=>by let z:=I.base.frzs b i h e;rw[zM (yK z d)];exact z,
  λb r e=>by obtain⟨m,z⟩:=I.base.tbls b r e;exact{m,by rw[zM (yK z d)];exact z}}
 loc:=I.loc
 cell:=I.cell
 free:=by rw[zM (Ne.symm t)];exact I.free
 freeC:=λy c e=>by rw[zM (j y c e)];exact I.freeC y c e
 pin:=λp q=>let ⟨a,b,c⟩:=I.pin p q;{a,by rw[zM (k p q)];exact b,c}
 hok:=I.hok.also d g
 len:=I.len
theorem Inv.wiped{h':V5}{D:C8}{t':Nat}(I:Inv X pins σ H s)(k:h'.Ns X.env.locals D)(g:Heap.SameBut X.env.locals s.heap h'):Inv X pins (List.replicate X.N...* none) H {s with heap:=h',toks:=t'}:=by
 let f:∀b o,X.s₀.heap.get? b=Y o->b≠X.env.locals:=λb o e=>nV (nR (mW e) I.ok.above);refine⟨I.ok,I.os,I.bare,⟨λb o e n l h=>?_,λb o e n l h=>?_,I.base.free,λb o e h=>?_,I.base.tups,I.base.frzs,I.base.tbls⟩,⟨_,k,λj y r i m L=>?_⟩,λy c e=>?_,I.free,I.freeC,λp A=>?_,λb u e=>?_,rY⟩
 ·exact(g.2 b (f b o e)).trans (I.base.keep b o e n l h)
 ·obtain⟨E,i⟩:=I.base.slot b o e n l h
  exact{E,(g.2 b (f b o e)).trans i}
 ·obtain⟨B,i⟩:=I.base.there b o e h
  exact{B,(g.2 b (f b o e)).trans i}
 ·rw[bS] at m
  split at m<;>cases m
 ·refine wO (I.cell y c e) λr o w t=>?_
  exact{r,o,(g.2 c (I.cne y c e)).trans w,t}
 ·refine yZ (I.pin p A) λa b c d=>?_
  exact{(g.2 _ c).trans a,b,c,d}
 ·refine(I.hok b u e).stay (λc J x q=>(g.2 c ?_).trans q) (λ_ q=>q) λ_ _ q=>q
  rintro rfl;rcases x with z | z
  ·rw[<-z,I.free] at e;cases e
  ·rw[I.free] at z;cases z
end
section
variable{X:Cx}{B:V1}{bn n:Str}{i:Nat}{body suite:List V6}{b₀:V6}{bp hp pos:Pos}{tb:XK->TS}{ts:TS}{φ:V0->Prop}
end
end L2
namespace L2
open PySem PySem.Spec PyProof.Rows PySem.W
section
variable{X:Cx}{C D:V1}{b:Bool}
end
section
variable{X:Cx}{k j:Nat}{x:Str}{ps:C1}{sp:Sp}{e:Expr}{es:C5}{t:TA}{p pos:Pos}{E:XK}
theorem zWv{φ:V0->Prop}(D:Dx φ X.prog X.w X.K X.mg X.base k x ps sp)(h:Room j X.A)(g:k<=j)(o:Gl X x)(l:uD (CXE φ X.prog X.w) X E)(i:PA X (e::es) t)(a:(x==("__debug__" :Str))=false:=by decide)
  (m:A2 (e::es) X.env=(false,eval e X.env)::A2 es X.env:=by rfl) (b:(S2 pos (A2 es X.env)).any (·.1)=false:=by rfl):PE X (.Call (.Name x p) (e::es) [] pos) (kY sp [] E t):=by
 refine zV (D.ex) λf r n d q c=>?_;exact zJq n (h.mono g) o c q d .nil l i a m b
end
end L2
namespace L2
open PySem PySem.Spec PyProof.Rows PySem.W
structure RoomH(k:Nat)(A:Around):Prop where
 dp:A.depth+3*k+5<recursionLimit
 un:A.units+16*k+200<cLine
theorem Room.h{k:Nat}{A:Around}{v:Option V0}(r:Room k A):RoomH k (A.mark v):=⟨r.dp,r.un⟩
theorem RoomH.mono{j k:Nat}{A:Around}(r:RoomH k A)(h:j<=k):RoomH j A:={by let:=r.dp;lia,by let:=r.un;lia}
theorem RoomH.deeper{k:Nat}{A:Around}(r:RoomH (k+1) A)(a:S7):RoomH k (A.deeper a):=
 {by let:=r.dp;show A.depth+1+3*k+5<_;lia,by let:=r.un;show A.units+3+16*k+200<_;lia}
theorem RoomH.depth{k:Nat}{A:Around}(r:RoomH k A):A.depth<recursionLimit:=by let:=r.dp;lia
structure zLk(P:V3)(w:V4)(K:PySem.W.Frag)(mg:C8)(base:V5)(k:Nat)(f:V1)(fd:V7)(ps:C1)(sp:Sp):Prop where
 len:∀vs H Q E,sp vs H Q E->vs...*=ps...*
 run:∀(A:Around)(outer:List S7)(s:V2)(H:Hp)(args:Args)(us:B7)(vs:B3)(Q:VK)(E:XK),RoomH k A->Env0 P w K mg base A outer s H->BindsTo s fd args (ps.zip us)->Vals vs us->sp vs H Q E->
  codeAny (S5 P w) A (.call (.ref f) args) (CR CX0 outer P w H s Q E) s
abbrev cxH(P:V3)(w:V4)(K:PySem.W.Frag)(mg:C8)(base:V5)(N:C1)(qual:Str)(scope:Scope)(f:V1)(cd:V0)(A:Around)(outer:List S7)(s:V2)(H:Hp):Cx:=
 {zCj CX0 P w K mg base N qual scope f cd A outer s H E0 with calm:=false,xe:=λ_ _=>False}
structure Dh(P:V3)(w:V4)(K:PySem.W.Frag)(mg:C8)(base:V5)(k:Nat)(x:Str)(ps:C1)(sp:Sp):Prop where
 ex:∃(f:V1)(fd:V7),zLk P w K mg base k f fd ps sp/\Binds K fd ps []/\PySem.W.keepIn K (.ref f)=true/\mg x=Y (.ref f)
section
variable{X:Cx}{k j:Nat}{x:Str}{ps:C1}{sp:Sp}{e:Expr}{es:C5}{t:TA}{p pos:Pos}
end
end L2
namespace L2
open PySem PySem.Spec PyProof.Rows PySem.W
section
variable{M:Model}{A:Around}{E:C9}{s:V2}{env:S7}{outer:List S7}{x T L:V1}{C a0 fl:V0}{d:Option V1}{base:V5}{Q:Unit->V2->Prop}{φ:V0->Prop}
theorem zIs{o:Option V1}(F:Fl φ s.heap x T C d a0 fl)(q:∀h' fl',Fl φ h' x T C d a0 fl'->Kp [] [T] s.heap h'->(o=none->fl'= .none)->Q () {s with heap:=h'}):V8 M A (setFlight (.ref x) o) Q E s:=by
 ext yN F t r B ts l h;ext zS h u y n w k h;ext wY h j p m c g;unfold setFlight;refine mF (rV l n k ?_);rw[mN (by rfl)];let a:3<ts.size:=by
  obtain⟨z,_⟩:=pK.mp c;exact z
 refine sZ p m a ?_;let v:=uA p m 3 (o.elim .none λf=>rawInt f);refine q _ (o.elim .none λf=>rawInt f) {t,r,_,_,(nM _ _ j).trans l,u,y,n,w,k,j,v,O, ?_,g} ⟨λb o e _ i=>(nM _ _ λz=>i (by rw[z];exact mE)).trans e,λb o e i=>nomatch i⟩ (λz=>by rw[z];rfl);show(ts.setIfInBounds 3 _)[3]? =Y _;rw[tJ a]
theorem zXb{e:V0}{env a:S7}(h:a.frame=env.frame):noteFrame e a=noteFrame e env:=by
 unfold noteFrame PySem.frameOf;rw[h]
theorem zYq(u:A.frames=Y (env::outer))(r:s.heap.FunFrames base (env::outer))(D:env.frame=Y L)(hx:x∉frs (env::outer))(hT:T∉frs (env::outer))(F:Fl φ s.heap x T C d a0 fl)
  (q:∀j g fl',Fl φ j x g C d a0 fl'->Kp (frs (env::outer)) [x,T] s.heap j->(g=T\/s.heap.get? g=none)->Q () {s with heap:=j}):V8 M A (noteFrame (.ref x) env) Q E s:=by
 let F0:=F;ext yN F oe vs oT ts w I;ext zS I e2 e3 H e5 v I;ext wY I e7 m l a B
 by_cases p:(fl==rawInt L)=true
 ·unfold noteFrame
  rw[D];refine mF (rV w H v ?_);rw[mN (by rfl)];refine mF (rV m l a ?_);rw[mN p];exact nB (q s.heap T fl F0 Kp.refl (.inl O))
 let hs:1<vs.size:=by
  obtain⟨z,_⟩:=pK.mp v;exact z
 let y:3<ts.size:=by
  obtain⟨z,_⟩:=pK.mp a;exact z
 unfold noteFrame;rw[D];refine mF (rV w H v ?_);rw[mN (by rfl)];refine mF (rV m l a ?_);rw[mK p];refine mF (sZ m l y ?_);let J:Kp (frs (env::outer)) [T] s.heap (s.heap.update T (Obj.mapFields λx=>x.setIfInBounds 3 Value.none)):=⟨λb o e _ h=>(nM _ _ λz=>h (by rw[z];exact mE)).trans e,λb o e h t=>⟨o.slots,(nM _ _ λz=>t (by rw[z];exact mE)).trans e⟩⟩;let i:(s.heap.update T (Obj.mapFields λx=>x.setIfInBounds 3 Value.none)).FunFrames base (env::outer):=zFz J (λb h=>{h,λz=>hT (by rw[<-mH.mp z];exact h)}) r;let x2:(s.heap.update T (Obj.mapFields λx=>x.setIfInBounds 3 Value.none)).get? x=Y oe:=(nM _ _ e7).trans w;let N:=zOt (E:=E) (M:=M) (A:=A) (head:=.ref T) (b:=true) (s:={s with heap:=s.heap.update T (Obj.mapFields λx=>x.setIfInBounds 3 Value.none)}) (Q:=Q) u i D x2 hx H e5 hs B;rw[e2,e3] at N;refine N λj g f k n=>q j g _ f (J.trans k λc p=>?_) (.inr ?_)
 ·rcases p with z | z
  ·rw[mH.mp z];simp
  ·rw[mH.mp z.1];simp
 ·cases e:s.heap.get? g with
  |none=>rfl|some o=>
   by_cases z:g=T
   ·subst z
    rw[uA m l] at n;cases n
   ·rw[(nM s.heap _ (Ne.symm z)).trans e] at n;cases n
end
def CXF(φ:V0->Prop)(X:Cx)(E:XK)(cs:B9)(e:V0)(s':V2):Prop:=∃(x T:V1)(C:V0)(d:Option V1)(g f:V0)(a:Hp),e= .ref x/\s'.os=X.s₀.os/\AllBare s'.gens/\Un X.fs [] X.H₀ a X.s₀.heap s'.heap/\HOk X.prog X.w a s'.heap/\
 X.s₀.heap.get? x=none/\X.s₀.heap.get? T=none/\a x=none/\a T=none/\Fl φ s'.heap x T C d g f/\E C d a/\s'.heap.FunFrames X.base X.stack/\(∀b∈frs X.stack,a b=none)/\x∉frs X.stack/\T∉frs X.stack/\
 ∀c∈cs,(∃m,s'.heap.Ns c m)/\X.s₀.heap.get? c=none/\a c=none/\c∉frs X.stack/\c≠x/\c≠T
section
variable{X:Cx}{E:XK}{EE:C9}{s:V2}{e:V0}{cs:B9}{φ:V0->Prop}
theorem CXF.step{x T:V1}{C:V0}{d:Option V1}{a0:V0}{f:Hp}{h':V5}{a:V1}{I:V0}(ok:X.Ok)(hs:X.stack=X.env::X.outer)(hf:X.env.frame=Y X.env.locals)(os:s.os=X.s₀.os)(l:AllBare s.gens)(Q:Un X.fs [] X.H₀ f X.s₀.heap s.heap)(v:HOk X.prog X.w f s.heap)
  (A:X.s₀.heap.get? x=none) (B:X.s₀.heap.get? T=none) (t:f x=none) (p:f T=none) (q:E C d f) (L:s.heap.FunFrames X.base X.stack) (N:∀b∈frs X.stack,f b=none) (nx:x∉frs X.stack) (J:T∉frs X.stack)
  (j:∀c∈cs,(∃m,s.heap.Ns c m)/\X.s₀.heap.get? c=none/\f c=none/\c∉frs X.stack/\c≠x/\c≠T)
  (F':Fl φ h' x a C d a0 I) (k:Kp (frs X.stack) [x,T] s.heap h') (n:a=T\/s.heap.get? a=none):CXF φ X E cs (.ref x) {s with heap:=h'}:=by
 let H:frs X.stack=X.env.locals::X.fs:=by
  rw[hs];unfold frs;rw[pW,hf];rfl
 let w:X.s₀.heap.get? X.env.locals=none:=rQ ok.above;let k4:Kp X.fs [x,T,X.env.locals] s.heap h':=by
  let k5:Kp (frs X.stack) [x,T,X.env.locals] s.heap h':=k.trans Kp.refl (ys:=[]) λc i=>by
   rcases i with z | z
   ·rcases mG.mp z with z | z
    ·rw[z];simp
    ·rw[mH.mp z];simp
   ·exact nomatch z.1
  refine vA k5 λb g=>?_;rw[H] at g;rcases mG.mp g with z | z
  ·rw[z];exact .inr (by simp)
  ·exact .inl z
 let h:X.s₀.heap.get? a=none/\f a=none/\a∉frs X.stack/\(∀c∈cs,c≠a):=by
  rcases n with z | z
  ·rw[z];exact{B,p,J,λc i=>(j c i).2.2.2.2.2}
  ·refine{?_, ?_,λy=>?_,λc i y=>?_}
   ·cases e:X.s₀.heap.get? a with
    |none=>rfl|some o=>
     obtain⟨o',e'⟩:=Q.there a o e (λz=>nomatch z);rw[z] at e';cases e'
   ·cases e:f a with
    |none=>rfl|some o=>
     obtain⟨ob,u⟩:=i3 (v a o e);rw[z] at u;cases u
   ·obtain⟨o,e,_⟩:=kP L a y
    rw[z] at e;cases e
   ·obtain⟨⟨m,o,_,_,D,_⟩,_⟩:=j c i
    rw[y,z] at D;cases D
 refine{x,a,C,d,a0,I,f,O,os,l,zCi Q k4 λb g=>?_,gC v k N λb g=>?_,A,h.1,t,h.2.1,F',q,zFz k (λb g=>{g,λz=>?_}) L,N,nx,h.2.2.1,λc i=>?_}
 ·rcases mG.mp g with z | z
  ·rw[z];exact A
  ·rcases mG.mp z with z | z
   ·rw[z];exact B
   ·rw[mH.mp z];exact w
 ·rcases mG.mp g with z | z
  ·rw[z];exact t
  ·rw[mH.mp z];exact p
 ·rcases mG.mp z with z | z
  ·exact nx (by rw[<-z];exact g)
  ·exact J (by rw[<-mH.mp z];exact g)
 ·obtain⟨⟨m,o,es,ep,D,r⟩,c0,cH,cf,M,cT⟩:=j c i
  exact{{m,o,es,ep,k.keep c o D cf (λz=>by
   rcases mG.mp z with z | z
   ·exact M z
   ·exact cT (mH.mp z)),r},c0,cH,cf,M,h.2.2.2 c i}
theorem k7{a:S7}(D:X.Ok)(o:X.stack=X.env::X.outer)(A:X.env.frame=Y X.env.locals)(h:CXF φ X E cs e s)(M:a.frame=X.env.frame):V8 (S5 X.prog X.w) X.A (noteFrame e a) (λ_ s'=>CXF φ X E cs e s') EE s:=by
 ext yA h x T C d a0 b;ext zV b f Q t os i b;ext zS b J u v w r b;ext zS b p L q y I b;ext oAA b B z m;subst t;let l:=y;let c:=B;let j:=z;let g:=D.frames;rw[o] at l c j g;rw[zXb M];refine zYq g l A c j L λh' T' N H k n=>?_;rw[<-o] at k;exact CXF.step D o A os i J u v w r p q y I B z m H k n
theorem j6{o:Option V1}(M:X.Ok)(u:X.stack=X.env::X.outer)(B:X.env.frame=Y X.env.locals)(h:CXF φ X E cs e s):V8 (S5 X.prog X.w) X.A (setFlight e o) (λ_ s'=>CXF φ X E cs e s') EE s:=by
 ext yA h x T C d a0 a;ext zV a f H' m os g a;ext zS a J n p r l a;ext zS a j N q v D a;ext oAA a A w i;subst m;refine zIs N λH Q t k _=>?_;let L:Kp (frs X.stack) [x,T] s.heap H:=(vA k λb y=>nomatch y).trans Kp.refl (ys:=[]) λc I=>by
  rcases I with z | z
  ·rw[mH.mp z];simp
  ·exact nomatch z.1
 exact CXF.step M u B os g J n p r l j q v D A w i t L (.inl O)
theorem k9(M:X.Ok)(A:X.stack=X.env::X.outer)(D:X.env.frame=Y X.env.locals)(h:CXF φ X E [] e s):V8 (S5 X.prog X.w) X.A (leaving X.env e) (λ_ s'=>CXE φ X.prog X.w X.outer X.H₀ X.s₀ E e s') EE s:=by
 unfold leaving;refine mF (thn (k7 M A D h O) λ_ s1 h1=>?_);let h2:=h1;ext yA h2 x T C d a0 a;ext zV a f H' v os n a;ext zS a I p t m j a;ext zS a i fl q fu H a;ext oAA a nx nT N;subst v;refine zIs fl λh' f' u k hn=>?_;let L:Kp (frs X.stack) [x,T] s1.heap h':=(vA k λb l=>nomatch l).trans Kp.refl (ys:=[]) λc o=>by
  rcases o with z | z
  ·rw[mH.mp z];simp
  ·exact nomatch z.1
 let r:=CXF.step (cs:=[]) M A D os n I p t m j i q fu H nx nT (λc o=>nomatch o) u L (.inl O);ext yA r x2 T2 C2 d2 a2 a;ext zV a f2 H2 e2 w g a;ext zS a ab B ac Q y a;ext yZ a J aa q2 _;cases e2;rw[hn O] at u;exact{x,T,C,d,a0,H',O,w,g,zCi I (vA (k.trans Kp.refl (ys:=[]) (zs:=[T]) λc o=>o.elim id λz=>nomatch z.1) λb l=>nomatch l) λb l=>by rw[mH.mp l];exact m,gC p L H λb l=>by
  rcases mG.mp l with z | z
  ·rw[z];exact j
  ·rw[mH.mp z];exact i,t,m,j,i,u,q}
end
end L2
namespace L2
open PySem PySem.Spec PyProof.Rows PySem.W
theorem zJo{prog:V3}{w:V4}{A:Around}{R:Result->V2->Prop}{s:V2}{i a iter:Expr}{g:C5}{d:Scope}{j:Pos}{it acc:V0}{b:S7}(I:Nat->V2->Prop)
  (l:∀n s,I n s->V8 (S5 prog w) A (pyNext it) (λr o=>match r with
   | none=>R (.ok .next) o|some v=>V8 (S5 prog w) A (letOwnedTupleGo a it v) (λ_ u=>V8 (S5 prog w) A (assign a b v) (λ_ y=>
     V8 (S5 prog w) A (forIn g true λc r=>if r=true then do let k <-isTrue c b (eval c b);pure (ForInStep.yield k) else pure (ForInStep.yield r)) (λk p=>
      if k=true then V8 (S5 prog w) A (eval i b) (λx q=>
       V8 (S5 prog w) A (call (.builtin "list.append") [acc,x]) (λ_ B=>∃m,m<n/\I m B) (λ_ _=>False) q) (notedBy (S5 prog w) A b λe s'=>R (.error e) s') p
      else∃m,m<n/\I m p) (λ_ _=>False) y) (λ_ _=>False) u) (λ_ _=>False) o) (λ_ _=>False) s)
  (n:Nat) (h:I n s):codeAny (S5 prog w) A (.compLoop (.ListComp i [{a,iter,g,0}] d j) 0 it acc b) R s:=by
 refine codeAny_loop O I (λn s E=>?_) n h;show V8 _ A ((compTurn (.ListComp i [{a,iter,g,0}] d j) 0 it acc b).onRaise (λx=>do noteFrame x b;theTreesLotGoes x)) _ _ s;refine wpAny_noted ?_;rw[compTurn_list];refine mF (sF (mF (pL (l n s E) (λr o z=>?_) λ_ _ f=>f.elim)))
 cases r with
 |none=>exact nB z|some v=>
  refine mF (pL z (λ_ u J=>mF (pL J (λ_ y H=>mF (pL H (λk p t=>?_) λ_ _ f=>f.elim)) λ_ _ f=>f.elim)) λ_ _ f=>f.elim)
  cases k with|false=>exact nB ⟨O,t⟩|true=>exact mF (mF (pL t (λx q L=>mF (pL L (λ_ B D=>nB (nB ⟨O,D⟩)) λ_ _ f=>f.elim)) λ_ _ f=>f))
def xUp(E:XK):XK:=λC d H=>∀a o,H a=none->E C d (upd H a o)
section
variable{X:Cx}{E:XK}
theorem CXF.same{e:V0}{c:V1}{s:V2}{h':V5}(h:CXF φ X E [c] e s)(m:Heap.SameBut c s.heap h'):CXF φ X E [] e {s with heap:=h'}:=by
 ext yA h x T C d a0 g;ext zV g f y r os i g;ext zS g un t u v p g;ext zS g n fl q A ff g;ext oAA g nx B j;subst r;refine zS (j c mE) λ_ H cH cf L cT=>?_;let k:Kp [] [c] s.heap h':=⟨λb o e _ a=>(m.2 b λz=>a (by rw[z];exact mE)).trans e,λb o e a=>nomatch a⟩;ext yN fl oe w oT ts I g;ext zS g e2 e3 e4 M J g;ext yZ g D Q N l;refine{x,T,C,d,a0,f,y,O,os,i,zCi un (vA k λb a=>nomatch a) (λb a=>by rw[mH.mp a];exact H),gC t k (λb a=>nomatch a) (λb a=>by rw[mH.mp a];exact cH),u,v,p,n,
  {oe,w,oT,ts,(m.2 x (Ne.symm L)).trans I,e2,e3,e4,M,J,D,(m.2 T (Ne.symm cT)).trans Q,N,l},q,zFz (vA k (fs':=frs X.stack) λb a=>nomatch a) (λb a=>{a,λz=>cf (by rw[<-mH.mp z];exact a)}) A,ff,nx,B,λ_ z=>nomatch z}
theorem zUw{Q:C9}{acc:V0}{C:V1}{e:V0}{s':V2}(s:X.Ok)(l:Lvs φ X E)(h:CXF φ X E [C] e s'):compPost (S5 X.prog X.w) X.A X.xe none Q acc C (.error e) s':=by
 let y:=h;ext yA y x T C' d a0 a;ext zV a f H' j os n a;ext zS a un aa ab ac M a;ext zS a w fl q fu ff a;ext oAA a nx nT b;subst j;obtain⟨u,_⟩:=b C mE;obtain⟨m,hn⟩:=u;refine{m,hn,λh' i t _=>?_};let o:=h.same i;let h3:=o;ext yA h3 x2 T2 C2 d2 a2 a;ext zV a f2 H2 A H c a;ext zS a B r D v k a;ext yZ a p g q2 _;cases A;ext yN g oe vs oT ts L a;ext zS a e2 e3 e4 e5 J a;ext yZ a e7 e8 e9 I;unfold PySem.passOn;refine mF (rV L e4 J ?_);rw[mK (by intro z;cases (eq_of_beq z))];refine mF (thn (j6 s l.1 l.2.1 o) λ_ s3 N=>?_);exact wpAny_throw (l.2.2.2.2 _ _ (k9 s l.1 l.2.1 N))
end
section
variable{X:Cx}{scope:Scope}{own:C1}{F:E1}{elt tg iter:Expr}{ifs:C5}{pos:Pos}{wi:TI}{g:TG}{tt:TT}{te:TE}{E:XK}
theorem zTv{j:C7}{σ:St}{H:Hp}{s:V2}{Q:VK}{RR:V1->Result->V2->Prop}{it:V1}{fp:B9}{tn:Nat->V5->Prop}{J:It}(S:CompSc X scope own F)(hc:X.calm=true)
  (hg:∀C s₃ H₃ ex,PG (yY X own F scope C s₃ H₃ ex) tg g) (ht:∀C s₃ H₃ ex,PTs (yY X own F scope C s₃ H₃ ex) ifs tt) (he:∀C s₃ H₃ ex j W,uD (CXE φ X.prog X.w) ((yY X own F scope C s₃ H₃ ex).pend j W) (xUp E)->PE ((yY X own F scope C s₃ H₃ ex).pend j W) elt te) (l:Lvs φ X E)
  (I:Inv X j σ H s) (T:zGb X.prog X.w X.K tg J fp it tn) (st:tn 0 s.heap) (hf:∀b∈fp,zBz X j H b)
  (h:wL own F g tt te σ Q J H)
  (hR:∀C s4 H4,s⁻¹<=C->C≠s⁻¹->Inv X j σ H4 s4->Q (.ref s⁻¹) H4->H4 C=none->(∃m,s4.heap.Ns C m)->RR C (.ok .next) s4) (hE:∀C e s',CXF φ X E [C] e s'->RR C (.error e) s'):
  V8 (S5 X.prog X.w) X.A (newList []) (λacc s₃=>V8 (S5 X.prog X.w) X.A (newFunctionEnv scope X.env.globals (clo X.env scope.names) [] X.env.qual none .none ↥X.env) (λah s₄=>
   codeAny (S5 X.prog X.w) X.A (.compStart (.ListComp elt [{tg,iter,ifs,0}] scope pos) 0 (.ref it) acc {ah with scope:=relabel scope X.env}) (λr s'=>acc= .ref s⁻¹/\RR ah.locals r s') s₄) X.xe s₃) X.xe s:=by
 obtain⟨W,⟨m0,w0⟩,a5⟩:=h;let ak:∀b∈fp,b<s⁻¹:=λb f=>by
  obtain⟨o,e,_⟩:=T.obj _ _ st b f;exact mW e
 refine dE (wpAny_newFunctionEnv S.nc (by intro y hy;simp at hy) (λh₁ ag ai=>?_) S.kind);dsimp only at ag ai⊢;let ae:zW s={s with heap:=s.heap.push {cls:=.type "list",data:=.seq ([]:B7).toArray}}:=rfl;let bm:(zW s)⁻¹=s⁻¹+1:=tX ..;let k3:∀b o,(zW s).heap.get? b=Y o->h₁.get? b=Y o:=λb o e=>ai.extBut b o (nV (mW e)) (mO _ e);let k2:∀b o,s.heap.get? b=Y o->(zW s).heap.get? b=Y o:=λb o e=>mO _ e;let a':h₁.Ns (zW s)⁻¹ (λ_=>none):=by simpa using ag
 let I0:Inv (yY X own F scope (zW s)⁻¹ (zW s) H (s⁻¹::fp)) [] (gS own F σ) H {zW s with heap:=h₁,toks:=(zW s).toks+([]:List (Str×V0))...*}:=zHf I S hf ak ae a' k3;let ao:h₁.get? s⁻¹=some {cls:=.type "list",data:=.seq ([]:B7).toArray 0}:=k3 _ _ (nQ _ O);let ax:tn 0 h₁:=T.keep _ _ _ st λb _ o e=>k3 b o (k2 b o e);let au:codeAny (S5 X.prog X.w) X.A (.compLoop (.ListComp elt [{tg,iter,ifs,0}] scope pos) 0 (.ref it) (.ref s⁻¹) (compEnvC scope (clo X.env scope.names) (zW s)⁻¹ X.env)) (RR (zW s)⁻¹) {zW s with heap:=h₁,toks:=(zW s).toks+([]:List (Str×V0))...*}:=by
  refine zJo (λn s'=>∃i ys A a k,Inv (yY X own F scope (zW s)⁻¹ (zW s) H (s⁻¹::fp)) [] (gS own F σ) A s'/\tn i s'.heap/\(∀b∈fp,A b=none)/\A s⁻¹=none/\
   Vals ys a/\s'.heap.get? s⁻¹=some {cls:=.type "list",data:=.seq a.toArray k}/\ys...*<=i/\W i n ys A) ?_ m0 {0,[],H,[],0,I0,ax,λb f=>(hf b f).1,I.hok.fresh (mC _), .nil,ao,mC _,w0}
  intro n s5 z_;ext yA z_ i ys H5 a k z_;ext zS z_ I5 t5 ay bg v5 z_;ext oAA z_ o5 l5 w5;let ar:Inv (yY X own F scope (zW s)⁻¹ (zW s) H (s⁻¹::fp)) [(s⁻¹,{cls:=.type "list",data:=.seq a.toArray k})] (gS own F σ) H5 s5:=I5.pins_of λp w=>by
   let z:p=(s⁻¹,{cls:=.type "list",data:=.seq a.toArray k}):=by simpa using w
   subst z;obtain⟨x1,x2⟩:=I0.ok.exf s⁻¹ mE;exact{o5,bg,x1,I0.ok.exfs _ mE,λv z=>by cases z}
  let aj:∀{A:Hp},(∀b∈fp,A b=none)->∀b∈fp,zBz (yY X own F scope (zW s)⁻¹ (zW s) H (s⁻¹::fp)) [(s⁻¹,{cls:=.type "list",data:=.seq a.toArray k})] A b:=λ{A} hn b f=>by
   obtain⟨x1,x2⟩:=I0.ok.exf b (mI _ f);refine{hn b f,x1,I0.ok.exfs b (mI _ f), .inl (mI _ f),x2,λp w=>?_};let z:p=(s⁻¹,{cls:=.type "list",data:=.seq a.toArray k}):=by
    let be:p∈([]:C7)++ [(s⁻¹,{cls:=.type "list",data:=.seq a.toArray k})]:=w
    simpa using be
   subst z;exact rX (ak b f)
  rcases a5 i n ys H5 w5 l5 with⟨stop,hz,q⟩|⟨go,hz,N,hN,step⟩
  ·refine thn (T.done (yY X own F scope (zW s)⁻¹ (zW s) H (s⁻¹::fp)) O O O hc i _ s5 _ H5 (λ_ _=>False) ar (aj ay) t5 stop) λr s6 z_=>?_;obtain⟨hr,I6⟩:=z_
   subst hr;obtain⟨a6,b6,_⟩:=I6.pin (s⁻¹,{cls:=.type "list",data:=.seq a.toArray k}) (nN _ (mH.mpr O));let J6:=I6.pins_of (pins':=[]) (λp w=>nomatch w);let I7:=zAs I hf ae J6 (pB l5 hz) v5 a6 b6;let hC:H5 (zW s)⁻¹=none:=J6.free;refine hR _ s6 _ (show s⁻¹<=(zW s)⁻¹ by lia) (λz=>by let z':(zW s)⁻¹=s⁻¹:=z;lia) I7 (q _ b6) (by rw[zM (λz=>by let z':(zW s)⁻¹=s⁻¹:=z;lia)];exact hC) ?_;obtain⟨m,hn,_⟩:=J6.loc;exact⟨m,hn⟩
  ·refine thn (T.item (yY X own F scope (zW s)⁻¹ (zW s) H (s⁻¹::fp)) O O O hc i _ s5 _ H5 (λ_ _=>False) ar (aj ay) t5 go) λr s6 z_=>?_;obtain⟨u,hr,h6⟩:=z_
   subst hr;refine thn h6 λ_ s7 z_=>?_;obtain⟨x,H7,I7,r7,y7,t7,a8⟩:=z_;let J7:=I7.pinned (aj a8) (T.obj _ _ t7);refine thn (hg _ _ _ _ _ s7 _ H7 x u _ J7 r7 (step x H7 y7)) λ_ s8 z_=>?_;obtain⟨σ8,H8,I8,wk,q8⟩:=z_;refine thn (ht _ _ _ _ _ s8 σ8 H8 _ I8 q8) λok s9 z_=>?_;obtain⟨H9,I9,q9⟩:=z_;let B:∀{σ':St}{A:Hp}{s':V2},Inv (yY X own F scope (zW s)⁻¹ (zW s) H (s⁻¹::fp)) ([(s⁻¹,{cls:=.type "list",data:=.seq a.toArray k})]++zAb fp s7.heap) σ' A s'->
     tn (i+1) s'.heap/\(∀b∈fp,A b=none)/\A s⁻¹=none/\s'.heap.get? s⁻¹=some {cls:=.type "list",data:=.seq a.toArray k}:=λ{σ' A s'} J=>by
    let pa:=J.pin (s⁻¹,{cls:=.type "list",data:=.seq a.toArray k}) (nN _ (pG _ (mH.mpr O)));refine⟨T.keep _ _ _ t7 λb f o e=>(J.pin (b,o) (nN _ (nN _ (qR f e)))).1,λb f=>?_,pa.2.1,pa.1⟩;obtain⟨o,e,d⟩:=T.obj _ _ t7 b f;exact(J.pin (b,o) (nN _ (nN _ (qR f e)))).2.1
   cases ok with
   |false=>
    rw[mK nL] at q9⊢;obtain⟨m',hm,w9⟩:=hN _ _ q9;refine yZ (B I9) λa1 a2 a3 a4=>?_;exact{m',hm,i+1,ys,H9,a,k,(I9.pins_of (pins':=[]) (λp w=>nomatch w)).weak wk.1 wk.2,a1,a2,a3,v5,a4,tV l5,w9}
   |true=>
    rw[mN O] at q9⊢;let hJ:=he _ _ _ _ ([(s⁻¹,{cls:=.type "list",data:=.seq a.toArray k})]++zAb fp s7.heap) (λe s'=>∃σ' H1 s1,Inv (yY X own F scope (zW s)⁻¹ (zW s) H (s⁻¹::fp)) ([(s⁻¹,{cls:=.type "list",data:=.seq a.toArray k})]++zAb fp s7.heap) σ' H1 s1/\CXE φ X.prog X.w X.stack H1 s1 (xUp E) e s')
     (λbl σ' H1 s1 e s' I1 hx=>{σ',H1,s1,I1.unpend I9.ok,hx}) [] s9 σ8 H9 _ I9.pend q9
    refine pL hJ (λu' M ⟨y,bb,a7,bh,bd⟩=>?_) λe M ⟨σ',H1,s1,I1,hx⟩=>?_
    rotate_left
    ·refine thn (k7 (X:=X) (E:=E) (cs:=[(zW s)⁻¹]) I.ok l.1 l.2.1 ?_ O) λ_ s' bk=>hE _ e s' bk
     ext yA hx x T C d a0 z_;ext wQ z_ A a9 os al un z_;ext zS z_ bc ab ac bi bf z_;ext oA z_ fl q;subst a9;let J1:=I1.call' os un bc al (λb z=>absurd z (by simp));refine yZ (B J1) λa1 a2 a3 a4=>?_;refine yZ (B I1) λb1 b2 b3 b4=>?_;let an:ys...*<=V9:=pB l5 (tY hz);let D:=zAs I hf ae (J1.pins_of (pins':=[]) (λp w=>nomatch w)) an v5 a4 a3;let am:=zAs I hf ae (I1.pins_of (pins':=[]) (λp w=>nomatch w)) an v5 b4 b3;let L:=D.base;rw[l.2.2.1] at L;let az:∀b,s1.heap.get? b=none->X.s₀.heap.get? b=none:=λb f=>by
      cases e:X.s₀.heap.get? b with
      |none=>rfl|some o=>
       obtain⟨o',e'⟩:=am.base.there b o e (by rw[l.2.2.1];exact λz=>nomatch z);rw[f] at e';cases e'
     let af:∀b,s1.heap.get? b=none->b≠s⁻¹:=λb f z=>by rw[<-z,f] at b4;cases b4
     let aq:∀b,s1.heap.get? b=none->b∉frs X.stack:=λb f z=>by
      obtain⟨o,e,_⟩:=kP am.stack b z;rw[f] at e;cases e
     let aw:(zW s)⁻¹≠s⁻¹:=λz=>by lia
     refine{x,T,C,d,a0,_,_,O,D.os,D.bare,L,D.hok,az x ab,az T ac,by rw[zM (af x ab)];exact bi,by rw[zM (af T ac)];exact bf,fl,q _ _ a3,D.stack,D.stkFree,aq x ab,aq T ac,λc hc=>?_};rw[mH.mp hc];obtain⟨m,hm,_⟩:=J1.loc;obtain⟨m1,⟨o1,_,_,av,_⟩,_⟩:=I1.loc;refine{⟨m,hm⟩,rQ (pB I.sz ∅),by rw[zM aw];exact J1.free,λz=>?_,λz=>?_,λz=>?_}
     ·obtain⟨o,e,_⟩:=kP I.stack _ z
      let:(zW s)⁻¹<s⁻¹:=mW e
      lia
     ·let t:s1.heap.get? (zW s)⁻¹=Y o1:=av
      rw[z,ab] at t;cases t
     ·let t:s1.heap.get? (zW s)⁻¹=Y o1:=av
      rw[z,ac] at t;cases t
    let ap:=a7.unpend I9.ok;obtain⟨m',hm,ba⟩:=hN _ _ bd;refine yZ (B ap) λa1 a2 a3 a4=>?_;let hl:=v5...*;refine aR pM ⟨_,a4,O⟩ PySem.F.entry_list_append (PySem.F.args_list_append_2 _ _) (dB s⁻¹ a.toArray k u' (by rw[nD];lia)) {a4, ?_};let q:=PySem.IsL.update a4 (λxs:Array V0=>xs.push u');let eq:a.toArray.push u'=(a++ [u']).toArray:=by simp
    rw[eq] at q;obtain⟨x1,x2⟩:=I0.ok.exf s⁻¹ mE;let bj:=(ap.pins_of (pins':=[]) (λp w=>nomatch w)).turned (it:=s⁻¹) (t':=M.toks) (h':=M.heap.update s⁻¹ (Obj.mapSeq (λxs:Array V0=>xs.push u'))) (λb o f e=>(nM M.heap _ (Ne.symm f)).trans e) a3 x1 (.inl mE) x2 (λp w=>absurd (show p∈([]:C7) from w) (by simp));refine{m',hm,i+1,ys++ [y],bb,a++ [u'],_,bj.weak wk.1 wk.2, ?_,a2,a3,v5.append (.cons bh .nil),q,by rw[mL,mY];lia,ba};exact T.keep _ _ _ a1 λb f o e=>(nM M.heap _ (rX (ak b f))).trans e
 let aa:=sG au (R':=λr s'=>Value.ref s⁻¹= .ref s⁻¹/\RR (zW s)⁻¹ r s') λr s' z=>⟨O,z⟩;exact codeAny_compStart_list aa (T.self X.A 0 _ _ _ ax aa)
end
end L2
namespace L2
open PySem PySem.Spec PyProof.Rows PySem.W PySem.Builtin PySem.Builtin.ObjectAttr
structure Xp(K:Frag)(nm:Str)(C B:V1):Prop where
 obj:∃(N:V1)(o:Obj),K.lookup C=Y o/\XObj nm C N (.ref B::veMro) o/\nsOkIn K N=true/\nsIn K N "__init__" =Y none
 tl:tailIn K veMro (.ref B::veMro)=true
 kp:keepIn K (.ref C)=true
section
variable{X:Cx}{C B:V1}{nm:Str}
theorem zSz{a:C7}{σ:St}{H:Hp}{s:V2}{A:C9}{L:C9}{us:B7}(c:Xp X.K nm C B)(hex:X.ex= [])(I:Inv X a σ H s)(hl:us...*<=100)
  (q:∀x s',X.s₀.heap.get? x=none->H x=none->Inv X a σ (upd H x (exO x C none)) s'->A (.ref x) s'):V8 (S5 X.prog X.w) X.A (call (.ref C) us) A L s:=by
 obtain⟨N,o,lk,⟨q',bs,w,sn,sub,ab,J,dd,k0,k1,k2,k3,k5,rfl⟩,k,u⟩:=c.obj;let hT:=tail_of_in I.kIn c.tl;let hC:=I.kIn _ _ lk;let hn:s.heap.Ns N (s.heap.nsMap N):=.of_isNs (isNs_of_in I.kIn k);let M:s.heap.nsMap N "__init__" =none:=nsMap_none_of_in I.kIn k u;let d:=I;obtain⟨h,g,dr,t,os⟩:=s;refine wpAny_call_exc_subT PySem.F.excBase_ValueError hT hC hn M (λh' x f=>?_) (by rw[mV];lia);obtain⟨t',E,_⟩:=f.there;let r:∀b o,h.get? b=Y o->b≠x:=λb o e z=>by rw[z,f.new] at e;cases e
 let i:H x=none:=by
  cases e:H x with
  |none=>rfl|some o=>
   obtain⟨ob,j⟩:=i3 (d.hok x o e);rw[f.new] at j;cases j
 let l:X.s₀.heap.get? x=none:=by
  cases e:X.s₀.heap.get? x with
  |none=>rfl|some o=>
   obtain⟨o',D⟩:=d.base.there x o e (by rw[hex];exact λz=>nomatch z);rw[f.new] at D;cases D
 refine q x _ l i ((d.kept (t':=t) f.keeps).track i l (λz=>?_) (λy c e z=>?_) (λp Q z=>?_) (zDk E O O O))
 ·obtain⟨m,⟨o,_,_,n,_⟩,_⟩:=d.loc
  exact r _ _ n z.symm
 ·refine wO (d.cell y c e) λv o n _=>?_
  exact r _ _ n z
 ·exact r _ _ (d.pin p Q).1 z
theorem yAn{H:Hp}{x:V1}{o:HO}(a:H x=none):drp (upd H x o) x=H:=by
 funext b
 by_cases z:b=x
 ·subst z;rw[uT,a]
 ·rw[vO z,zM z]
def zNk(C:V1)(E:XK)(t:TA):TS:=λ_ σ H=>t σ H λa b=>a...*<=100/\E (.ref C) none b
structure Xr0(K:Frag)(mg:C8)(cn:Str)(C:V1):Prop where
 ex:∃(nm:Str)(B:V1),Xp K nm C B/\mg cn=Y (.ref C)
theorem zSs{φ:V0->Prop}{E:XK}{i:Str}{p a b:Pos}{e:Expr}{f:C5}{t:TA}(R:Xr0 X.K X.mg i C)(L:Gl X i)(d:X.calm=true)(l:Lvs φ X E)(ha:PA X (e::f) t)(m:(i==("__debug__" :Str))=false:=by decide)
  (he:A2 (e::f) X.env=(false,eval e X.env)::A2 f X.env:=by rfl) (n:(S2 a (A2 f X.env)).any (·.1)=false:=by rfl):PS X (.Raise ↥(.Call (.Name i p) (e::f) [] a) none b) (zNk C E t):=by
 intro g s σ H D I h;refine wO (R.ex) λnm B c A=>?_;ext wY l J hf hex hφ u;rw[arm_exec_Raise];refine mF (sF ?_);show V8 _ _ (raiseStmt X.env ↥(do let v <-eval (.Call (.Name i p) (e::f) [] a) X.env;S0 b;pure v) none) _ _ _;refine yO (c.obj) λN o lk Q _=>?_;refine zFl (nm:=nm) (C:=C) (N:=N) (bm:=.ref B::veMro) (by rw[tD,show veMro.contains (.type "BaseException")=true by decide,aA]) (I.ok.hd d) (mF ?_);refine rR (jA I L A ?_ m);refine callWith_K (h₀:=X.base) I.ok.mod.kin c.kp (thn (ha a g s σ H _ I h) λus s1 z_=>?_) he n;obtain⟨vs,H1,y,r,hv,q⟩:=z_;refine ⟨y.kIn, ?_⟩;refine zSz c hex y (by show us...*<=100;rw[<-r...*];exact hv) λx s2 w hx j=>?_;refine mF (sF (nB ?_));let z:upd H1 x (exO x C none) x=Y (exO x C none):=zD;refine vN (zBl j z) λk M h6 h1 h2=>?_;refine{x,_,_,k,O,j.kIn _ _ lk,Q,M,O,O,h1,u _ _ (zIu j J hf hex z w hφ ?_)};rw[yAn hx];exact q
end
section
variable{prog:V3}{w:V4}{A:Around}{K:Frag}{C x:V1}{ox:Obj}{od:Option Obj}{name:Str}{E:C9}{s:V2}
end
section
variable{X:Cx}{pins:C7}{σ:St}{H:Hp}{s:V2}{x C:V1}
end
section
variable{X:Cx}
end
end L2
namespace L2
open PySem PySem.Spec PyProof.Rows
def ItD(lo:Int)(n:Nat):It:={λi _=>i<n,λi H x a=>a=H/\x= .int (lo - i),λi _=>n<=i}
theorem zHt{P:V3}{w:V4}{K:PySem.W.Frag}{M:Expr}(it:V1)(lo:Int)(n:Nat):zGb P w K M (ItD lo n) [it] it (λi h=>IsRangeIter h it (lo+(i:Nat)*(-1)) ((n:Int)- (i:Nat)) (-1)) where
 mem:=by simp
 obj:=λi h st b c=>by
  let e:b=it:=by simpa using c
  subst e;exact{_,st,λv z=>by
   let Q:Data.fields _=Data.cell v:=z;cases Q}
 keep:=λi h g st k=>k it (by simp) _ st
 item:=by
  intro X l p j x i a s σ H E I f st m;subst l p j;refine zS (f it (by simp)) λq y D A u r=>?_;let W:=Walks.range (prog:=X.prog) (w:=X.w) (I.ok.hd x) it lo (-1) n;refine W.item i s _ _ m st λv g B N d L=>?_;obtain⟨t,rfl⟩:=N;let J:Inv X a σ H {s with heap:=g,toks:=B}:=I.turned (λb o c e=>L b o (by simpa using c) e) q y A u r;refine{_,O,zMu (s:={s with heap:=g,toks:=B}) (n:="range_iterator") d O O ∎ {.int (lo - i),H,J,{t, ?_},⟨O,O⟩,d,λb c=>(f b c).1}};let e:lo+((i:Nat):Int)*(-1)=lo - i:=by lia
  rw[e]
 done:=by
  intro X l p j x i a s σ H E I f st m;subst l p j;refine zS (f it (by simp)) λq y D A u r=>?_;exact wpAny_pyNext_range_end (I.ok.hd x) st (by let:n<=i:=m;lia) λg eb=>{O,I.turned (t':=s.toks) (λb o c e=>eb b o c e) q y A u r}
 self:=λ_ _ _ _ _ st h=>wpAny_pyIter_rangeiter st h
theorem zAg(lo:Int)(h: -1<=lo):S4 lo (-1) (-1)=lo+1:=by
 unfold S4;simp
 lia
theorem zOo{lo:Int}(a: -1<=lo)(b:lo<1000):Builtin.Range.small lo (-1) (-1)=true:=by
 unfold Builtin.Range.small;rw[zAg lo a];simp[Builtin.Range.rangeFitsLong]
 lia
section
variable{X:Cx}{tg:Expr}
def yDa(ta:TA):TI:=λσ H R=>ta σ H λa b=>∃i:Int,a= [.int i, .int (-1), .int (-1)]/\-1<=i/\i<1000/\R (ItD i (i+1).toNat) b
theorem zZt{a b c:Expr}{ta:TA}{p g:Pos}(x:Gl X "range")(v:X.mg "range" =none)(E:PA X [a,b,c] ta)(w:A2 [a,b,c] X.env= [(false,eval a X.env),(false,eval b X.env),(false,eval c X.env)]:=by rfl)(k:A2 [b,c] X.env= [(false,eval b X.env),(false,eval c X.env)]:=by rfl):
  PI X tg (.Call (.Name "range" p) [a,b,c] [] g) (yDa ta):=by
 intro d s σ H R I h;refine Call_ (kI I x v boot_range (pQ (thn (E g d s σ H _ I h) λus f z_=>?_) (by rw[w,k]) (by rw[k];rfl)));obtain⟨Q,u,z,A,J⟩:=z_;ext vN J i e n N q;subst e
 cases A with
 |cons r j=>
  cases j with
  |cons D j=>
   cases j with
   |cons L j=>
    cases j;obtain⟨t,rfl⟩:=r;obtain⟨l,rfl⟩:=D;obtain⟨t2,rfl⟩:=L;refine call_range_3 ∎ ?_ (nZ (bX ∅));refine cW (IsRange.new ..) (zOo n N) ?_;let m:Inv X d σ u {f with heap:=f.heap.push {cls:=.type "range",data:=.fields #[.int i t, .int (-1) l, .int (-1) t2]},toks:=f.toks}:=z.kept λb o e=>mO _ e;refine⟨(f.heap.push {cls:=.type "range",data:=.fields #[.int i t, .int (-1) l, .int (-1) t2]}).objs.size,[(f.heap.push {cls:=.type "range",data:=.fields #[.int i t, .int (-1) l, .int (-1) t2]}).objs.size],_,_,u,rfl,
     m.kept (t':=f.toks) λb o e=>mO _ e,zHt _ i (i+1).toNat, ?_,λb B=>?_,q⟩
    ·let y:i+((0:Nat):Int)*(-1)=i:=by simp
     let M:((((i+1).toNat:Nat):Int))- ((0:Nat):Int)=S4 i (-1) (-1):=by rw[zAg i n];lia
     show IsRangeIter _ _ (i+((0:Nat):Int)*(-1)) ((((i+1).toNat:Nat):Int)- ((0:Nat):Int)) (-1);rw[y,M];exact nQ _ O
    ·let e:b=(f.heap.push {cls:=.type "range",data:=.fields #[.int i t, .int (-1) l, .int (-1) t2]}).objs.size:=by simpa using B
     subst e;exact m.fpOk (mC _) (m.hok.fresh (mC _))
theorem zHr{lo:Int}{n:Nat}{g:TG}{tb:TS}{D:gO}{σ:St}{H:Hp}(Pv:Nat->St->Hp->Prop)(h:Pv 0 σ H)
  (f:∀i σ H,i<n->Pv i σ H->g (.int (lo - i)) σ H λσ2 H2=>tb {D with nx:=Pv (i+1),ct:=Pv (i+1),bk:=D.nx} σ2 H2) (c:∀σ H,Pv n σ H->D.nx σ H):zTd g tb D σ (ItD lo n) H:=by
 refine{λi m σ H=>m=n - i/\i<=n/\Pv i σ H,{n,by simp,nJ _,h}, ?_};rintro i m σ H ⟨rfl,k,p⟩
 by_cases a:i<n
 ·refine .inr {a,Pv (i+1),λj d b=>{n - (i+1),∅,O,a,b},λx d y=>?_}
  obtain⟨e,y⟩:=y;subst e y;exact f i σ _ a p
 ·let e:i=n:=by lia
  subst e;exact .inl {mC _,c σ H p}
theorem zMi:wR X (.type "dict") (λxs H Q=>∃p kvs,xs= [.ref p]/\H p=Y (.dK kvs)/\∀l,H l=none->Q (.ref l) (upd H l (.dK kvs))):=by
 intro g s σ H xs y Q I r h;ext yO h p kvs d v q;subst d;obtain⟨u,rfl,t⟩:=jP r;cases t;obtain⟨z,j,i,a,w⟩:=I.hok p _ v;let x:=a...*;refine kt_call_dict j w ∅ λn c k=>?_;let f:(s⁻¹==A4)=false:=by
  let:=I.big;exact sL.mpr (rX this)
 refine{.ref s⁻¹,_,I.laid (t':=s.toks) (h':=n) (λb o e=>?_) (mC _) (o:=.dK kvs) ⟨z,f,i,a,c⟩,O,q _ (I.hok.fresh (mC _))};let m:b≠s⁻¹:=nV (mW e);rw[k.2 b m];exact mO _ e
end
theorem FunD.okx{P:V3}{w:V4}{K:A6}{m:C8}{base:V5}{x b:Str}{st:V6}{f:V1}{l:V7}{N ps:C1}{k:Nat}{sp:Sp}(F:FunD K x b st f l)(S:wF N ps (zY st))(len:∀d H Q E,sp d H Q E->d...*=ps...*)
  (e:∀(c:V0)(A:Around)(a:List S7)(s:V2)(H:Hp)(d:B3)(Q:VK)(E:XK),Room k (A.deeper (envOfC b (zY st) s⁻¹ f c))->sp d H Q E->
   ∃t,PSs (zCj (CXE φ P w) P w K m base N b (zY st) f c A a s H E) (xJ st) t/\t {nx:=λ_ H'=>Q .non H',rt:=Q} (jI N d) H):FnOk P w K m base (CXE φ P w) (k+1) f l ps sp:=by
 refine yA (F.ex) λz y u kV o j=>?_;ext yA j r q c v n j;ext oAA j g lk h;subst g;exact zSe lk h S len λA a s H d Q E p i=>e c A a s H d Q E p i
structure Ddx(φ:V0->Prop)(P:V3)(w:V4)(K:A6)(mg:C8)(base:V5)(k:Nat)(x:Str)(ps:C1)(dvs:B3)(sp:Sp):Prop where
 ex:∃(f:V1)(fd:V7)(ds:B7),FnOk P w K mg base (CXE φ P w) k f fd ps sp/\Binds K fd ps ds/\Vals dvs ds/\A7 K (.ref f)=true/\mg x=Y (.ref f)
section
variable{X:Cx}{k j:Nat}{x:Str}{ps:C1}{dvs:B3}{sp:Sp}{e:Expr}{es:C5}{t:TA}{p pos:Pos}{E:XK}
end
theorem Reps.set{H:Hp}{v:V}{t:T}(c:Rep H v t):∀{xs:B3}{us:B0}(i:Nat),Reps H xs us->Reps H (xs.set i v) (us.set i t)
 |_,[],i,h=>by
  let e:_= []:=h;subst e;exact O
 |_,u::us,0,⟨x,r,e,b,a⟩=>by subst e;exact⟨v,r,O,c,a⟩|_,u::us,i+1,⟨x,r,e,b,a⟩=>by subst e;exact{x,_,O,b,Reps.set c i a}
section
variable{X:Cx}
def rIns:V->List V->Hp->VK->Prop:=λx b H Q=>∃l a i y,x= .ref l/\b= [.int i,y]/\H l=Y (.lst a)/\0<=i/\i<=(a...*:Int)/\a...*<V9/\a...*<=100000/\Q .non (upd H l (.lst (a.take i.toNat++y::a.drop i.toNat)))
theorem zTj:MtM X "list.insert" rIns:=by
 intro k s σ H x D v us Q I A B h;ext yN h l L i y c j;ext zS j f m N h1 E j;ext oA j J q;subst c f;cases A;refine yO (B.two) λu w d p g=>?_;subst d;obtain⟨t,rfl⟩:=p;obtain⟨z,a,n,r,M,e⟩:=I.lstM m;let b:¬(!Builtin.List.listFitsIndex i)=true:=by
  rw[fitsIndex_both ∅ ∅];decide
 refine aR F.slot_list_insert ⟨_,e,O⟩ F.entry_list_insert (F.args_list_insert_3 _ _ _) (AutoSeq1.list_insert_list_int_val_1 l a.toArray n i t w b (by rw[nD];lia)) {e, ?_};refine{.non,_,I.lset (its':=a.take i.toNat++w::a.drop i.toNat) m e ?_ ((r.take _).append (.cons g (r.drop _))) ?_,O,q}
 ·let o:(if i<0 then(i+(a.toArray.size:Int)).toNat else min i.toNat a.toArray.size)=i.toNat:=by
   rw[mK ∅,nD]
   lia
  show(a.toArray.extract 0 (if i<0 then(i+(a.toArray.size:Int)).toNat else min i.toNat a.toArray.size)).push w++a.toArray.extract (if i<0 then(i+(a.toArray.size:Int)).toNat else min i.toNat a.toArray.size)=_;rw[o];apply Array.ext';simp;exact sK (by rw[nI];exact mC _)
 ·rw[mL,mX,nU,nI]
  lia
end
theorem zCv{lo j:Int}(h:j<=lo):S4 lo j (-1)=lo - j:=by
 unfold S4;simp
 lia
theorem zYw{lo j:Int}(a: -1<=j)(h:j<=lo)(b:lo<100000):Builtin.Range.small lo j (-1)=true:=by
 unfold Builtin.Range.small;rw[zCv h];simp[Builtin.Range.rangeFitsLong]
 lia
section
variable{X:Cx}{tg:Expr}
def iDn(ta:TA):TI:=λσ H R=>ta σ H λa b=>∃i j:Int,a= [.int i, .int j, .int (-1)]/\-1<=j/\j<=i/\i<100000/\R (ItD i (i - j).toNat) b
theorem pi_dn{a b c:Expr}{ta:TA}{p g:Pos}(y:Gl X "range")(w:X.mg "range" =none)(M:PA X [a,b,c] ta)(x:A2 [a,b,c] X.env= [(false,eval a X.env),(false,eval b X.env),(false,eval c X.env)]:=by rfl)(l:A2 [b,c] X.env= [(false,eval b X.env),(false,eval c X.env)]:=by rfl):
  PI X tg (.Call (.Name "range" p) [a,b,c] [] g) (iDn ta):=by
 intro d s σ H R I h;refine Call_ (kI I y w boot_range (pQ (thn (M g d s σ H _ I h) λus f z_=>?_) (by rw[x,l]) (by rw[l];rfl)));obtain⟨vs,u,A,D,N⟩:=z_;ext zV N i j e J v z_;ext oA z_ B q;subst e
 cases D with
 |cons r k=>
  cases k with
  |cons L k=>
   cases k with
   |cons Q k=>
    cases k;obtain⟨t,rfl⟩:=r;obtain⟨m,rfl⟩:=L;obtain⟨t2,rfl⟩:=Q;refine call_range_3 ∎ ?_ (nZ (bX ∅));refine cW (IsRange.new ..) (zYw J v B) ?_;let n:Inv X d σ u {f with heap:=f.heap.push {cls:=.type "range",data:=.fields #[.int i t, .int j m, .int (-1) t2]},toks:=f.toks}:=A.kept λb o e=>mO _ e;refine⟨(f.heap.push {cls:=.type "range",data:=.fields #[.int i t, .int j m, .int (-1) t2]}).objs.size,[(f.heap.push {cls:=.type "range",data:=.fields #[.int i t, .int j m, .int (-1) t2]}).objs.size],_,_,u,rfl,
     n.kept (t':=f.toks) λb o e=>mO _ e,zHt _ i (i - j).toNat, ?_,λb E=>?_,q⟩
    ·let z:i+((0:Nat):Int)*(-1)=i:=by simp
     let e2:((((i - j).toNat:Nat):Int))- ((0:Nat):Int)=S4 i j (-1):=by rw[zCv v];lia
     show IsRangeIter _ _ (i+((0:Nat):Int)*(-1)) ((((i - j).toNat:Nat):Int)- ((0:Nat):Int)) (-1);rw[z,e2];exact nQ _ O
    ·let e:b=(f.heap.push {cls:=.type "range",data:=.fields #[.int i t, .int j m, .int (-1) t2]}).objs.size:=by simpa using E
     subst e;exact n.fpOk (mC _) (n.hok.fresh (mC _))
end
theorem zJh{a b:TS}{D:gO}{σ:St}{H:Hp}(h:∀R:TS,R=b->vV a R D σ H):vV a b D σ H:=h b O
theorem cut3{a b c d:TS}{D:gO}{σ:St}{H:Hp}(h:∀R:TS,R=d->vV a (vV b (vV c R)) D σ H):vV a (vV b (vV c d)) D σ H:=h d O
theorem cut4{a b c d e:TS}{D:gO}{σ:St}{H:Hp}(h:∀R:TS,R=e->vV a (vV b (vV c (vV d R))) D σ H):vV a (vV b (vV c (vV d e))) D σ H:=h e O
theorem cut6{a b c d e f g:TS}{D:gO}{σ:St}{H:Hp}(h:∀R:TS,R=g->vV a (vV b (vV c (vV d (vV e (vV f R))))) D σ H):vV a (vV b (vV c (vV d (vV e (vV f g))))) D σ H:=h g O
end L2
namespace L2
open PySem PySem.Spec PyProof.Rows PySem.W
def PEat(X:Cx)(σ:St)(e:Expr)(t:TE):Prop:=
 ∀(a:C7)(s:V2)(H:Hp)(Q:VK),Inv X a σ H s->t σ H Q->V8 (S5 X.prog X.w) X.A (eval e X.env) (EP X a σ Q) X.xe s
def PSat(X:Cx)(σ:St)(st:List V6)(t:TS):Prop:=
 ∀(a:C7)(s:V2)(H:Hp)(D:gO),Inv X a σ H s->t D σ H->V8 (S5 X.prog X.w) X.A (execs st X.env) (SP X a D) X.xe s
def zGo(CX:CXT)(X:Cx)(σ:St)(E:XK):Prop:=∀(a:C7)(H:Hp)(s:V2)(e:V0)(b:V2),Inv X a σ H s->CX X.stack H s E e b->X.xe e b
section
variable{X:Cx}{CX:CXT}{k j:Nat}{f:V1}{fd:V7}{ps:C1}{sp:Sp}{dvs:B3}{ds:B7}{E:XK}{x:Str}{p pos:Pos}{e:Expr}{es:C5}{t:TA}{te:TE}{σ:St}
theorem zWy{a:C7}{H:Hp}{s:V2}{Q:VK}{us:B7}{vs:B3}(F:FnOk X.prog X.w X.K X.mg X.base CX k f fd ps sp)(m:Room k X.A)(o:Binds X.K fd ps ds)(l:Vals dvs ds)(d:zGo CX X σ E)
  (I:Inv X a σ H s) (r:Vals vs us) (h:sp (vs++dvs) H Q E):V8 (S5 X.prog X.w) X.A (call (.ref f) us) (EP X a σ Q) X.xe s:=by
 let c:Vals (vs++dvs) (us++ds):=r.append l;let n:(us++ds)...*=ps...*:=by rw[<-c...*];exact F.len _ _ _ _ h
 refine bO (sG (F.run X.A X.stack s H {us,[]} (us++ds) (vs++dvs) Q E m I.env0 (o s us I.kIn n) c h) λr g b=>?_)
 cases r with
 |error e=>exact d a H s e g I b|ok i=>
  cases i with|ret u=>exact I.after b|next=>exact False.elim b|brk=>exact False.elim b|cont=>exact False.elim b
theorem yGz{φ:V0->Prop}(D:Dx φ X.prog X.w X.K X.mg X.base k x ps sp)(i:Room j X.A)(g:k<=j)(n:Gl X x)(l:zGo (CXE φ X.prog X.w) X σ E)(m:PA X (e::es) t)(b:(x==("__debug__" :Str))=false:=by decide)
  (w:A2 (e::es) X.env=(false,eval e X.env)::A2 es X.env:=by rfl) (c:(S2 pos (A2 es X.env)).any (·.1)=false:=by rfl):PEat X σ (.Call (.Name x p) (e::es) [] pos) (kY sp [] E t):=by
 refine zV (D.ex) λf fd y v o u=>?_;intro a s H Q I h;refine rR (jA I n u ?_ b);refine PySem.W.callWith_K (h₀:=X.base) I.ok.mod.kin o (thn (m pos a s σ H _ I h) λJ z z_=>?_) w c;obtain⟨A,B,d,r,q⟩:=z_;refine {d.kIn, ?_};exact zWy y (i.mono g) v .nil l d r q
theorem zZi(d:PEat X σ e te):PSat X σ [.Return ↥e pos] (zLo te):=by
 intro a s H D I h;refine cE (wpAny_Return_some (thn (d a s H _ I h) λv l z_=>?_));obtain⟨x,c,b,g,i⟩:=z_;exact ⟨x,σ,c,b,g,i⟩
end
section
variable{X:Cx}{B:V1}{bn:Str}{body suite:List V6}{b₀:V6}{bp hp pos:Pos}{tb:XK->TS}{ts:TS}{φ:V0->Prop}
end
end L2
namespace L2
open PySem PySem.Spec PyProof.Rows PySem.W
end L2
namespace L2
open PySem PySem.Spec PyProof.Rows PySem.W
theorem zHl:entryFor table "proto.unchain" =some Builtin.«proto.unchain»:=entryFor_of_fast (by kernel_rfl)
section
variable{prog:V3}{w:V4}{A:Around}{E:C9}{s:V2}{env:S7}{e h:V1}{oh oe:Obj}{vh ve:Array V0}
theorem zOe{α:Type}{Q:α->V2->Prop}(a:A.handled=Y (.ref h))(g:h≠e)(f:s.heap.get? h=Y oh)(c:oh.data= .fields vh)(i:vh[2]? =some .none)(j:s.heap.get? e=Y oe)(b:oe.data= .fields ve)(d:2<ve.size)
  (q:E (.ref e) {s with heap:=s.heap.update e (Obj.mapFields λxs=>xs.setIfInBounds 2 (.ref h))}):V8 (S5 prog w) A (raiseNew (.ref e):Sem α) Q E s:=by
 unfold raiseNew;refine mF (wpAny_handled ?_);rw[a];dsimp only;rw[mN (by
  refine bne_iff_ne.mpr λz=>g ?_;cases z;rfl)]
 refine mF (rO (runValue_entry zHl ?_));unfold Builtin.«proto.unchain»;dsimp only;refine mF (rV f c i ?_);rw[mN (by rfl)];refine nB {_,O, ?_};refine mF (sZ j b d ?_);exact wpAny_throw q
theorem XObj.cls{nm:Str}{C N:V1}{bm:B7}{o:Obj}(h:XObj nm C N bm o):∃c,o.data= .cls c:=by
 ext yA h g k d q sub b;ext yA b p f r m j b;ext zXo b i n l a;subst a;exact⟨_,O⟩
theorem zMv{nm:Str}{C N:V1}{bm:B7}{m:String}{j:Obj}{Q:C9}(p:bm.contains (.type "BaseException")=true)(l:s.heap.get? C=Y j)(o:XObj nm C N bm j)(i:s.heap.get? e=Y oe)(b:oe.cls= .ref C)(k:oe.data= .fields ve)
  (q:Q (.ref e) s):V8 (S5 prog w) A (excFromValue (.ref e) m) Q E s:=by
 ext yA o r v g H sub f;ext yA f D n I y u f;ext zXo f t B x a;subst a;let d:∀c:ClassData,oe.data≠ .cls c:=λc z=>by rw[k] at z;cases z
 unfold excFromValue isExcClass;refine mF (mF (aW i d ?_));rw[mK nL];refine nB ?_;rw[mK nL];unfold PySem.isInstance;refine mF (mF (sE i ?_));rw[b];refine cS l ?_;rw[show(Value.ref C::bm).contains (Value.type "BaseException")=true by
  rw[tD,p,aA],mN O]
 exact nB q
theorem zOf{nm nmb:Str}{C N B Nb:V1}{bm bmb:B7}{x c:Sem V0}{Q:Flow->V2->Prop}(d:bm.contains (.type "BaseException")=true)(aa:bmb.contains (.type "BaseException")=true)(hh:A.handled=Y (.ref h))
  (H:V8 (S5 prog w) A x (λv s1=>V8 (S5 prog w) A c (λu a=>∃(e:V1)(oe L oh M:Obj)(g vh:Array V0),v= .ref e/\u= .ref h/\a.heap.get? C=Y L/\XObj nm C N bm L/\a.heap.get? B=Y M/\XObj nmb B Nb bmb M/\a.heap.get? e=Y oe/\oe.cls= .ref C/\oe.data= .fields g/\g.size=6/\g[1]? =some .none/\
   h≠e/\a.heap.get? h=Y oh/\oh.cls= .ref B/\oh.data= .fields vh/\vh[2]? =some .none/\
   ∀h' vs',h'.get? e=some {oe with data:=.fields vs'}->(∀b,b≠e->h'.get? b=a.heap.get? b)->vs'.size=6->vs'[1]? =some .none->E (.ref e) {a with heap:=h'}) E s1) E s):
  V8 (S5 prog w) A (raiseStmt env ↥x ↥c) Q E s:=by
 unfold raiseStmt;refine mF (thn H λv s1 H1=>?_);refine mF (rO (thn H1 λu a z_=>?_));obtain⟨e,oe,L,oh,M,g,vh,ev,eu,p,t,hB,hY,r,l,n,h6,h1,ne,k,y,j,ae,q⟩:=z_;subst ev eu;refine mF (nB ?_);refine mF (rO (zMv d p t r l n ?_));dsimp only;rw[mK (by intro z;cases z)];refine mF (rO (zMv aa hB hY k y j ?_));let nC:C≠e:=λz=>by
  obtain⟨c,hc⟩:=t.cls;rw[z,r] at p;cases p;rw[n] at hc;cases hc
 let J:=uA r n 3 (.ref h);let o3:∀b,b≠e->(a.heap.update e (Obj.mapFields λf=>f.setIfInBounds 3 (.ref h))).get? b=a.heap.get? b:=λb d=>nM _ _ (Ne.symm d);refine mF (sZ r n ∅ ?_);generalize a.heap.update e (Obj.mapFields λf=>f.setIfInBounds 3 (.ref h))=k3 at J o3⊢;let i:=uA J O 4 (.bool true);let o:∀b,b≠e->(k3.update e (Obj.mapFields λf=>f.setIfInBounds 4 (.bool true))).get? b=a.heap.get? b:=λb d=>(nM _ _ (Ne.symm d)).trans (o3 b d);refine mF (sZ J O (by rw[tH];lia) ?_);generalize k3.update e (Obj.mapFields λf=>f.setIfInBounds 4 (.bool true))=k4 at i o⊢;dsimp only at i⊢;let ac:∀c:ClassData,({oe with data:=.fields ((g.setIfInBounds 3 (.ref h)).setIfInBounds 4 (.bool true))}:Obj).data≠ .cls c:=λc z=>nomatch z;refine mF (aW i ac ?_);rw[mK nL];ext yA t q' bs af sn sub I;ext yA I ab ag dd k0 k1 I;ext zXo I k2 ah k5 m;subst m;let D:=(o C nC).trans p;unfold raisedInstance;refine mF (mF (sE i ?_));rw[l];refine mF (sE D ?_);rw[mN (by rfl)];refine nB ?_;let f1:((g.setIfInBounds 3 (.ref h)).setIfInBounds 4 (.bool true))[1]? =Y Value.none:=by
  rw[rD ∎,rD ∎];exact h1
 let fz:((g.setIfInBounds 3 (.ref h)).setIfInBounds 4 (.bool true)).size=6:=by
  rw[tH,tH];exact h6
 refine mF ?_;unfold setFlight;refine mF (rV i O f1 ?_);rw[mK (by intro z;cases z)];refine nB ?_;refine zOe hh ne ((o h ne).trans k) j ae i O (by rw[fz];decide) ?_;refine q _ _ (uA i O 2 (.ref h)) (λb d=>(nM _ _ (Ne.symm d)).trans (o b d)) ?_ ?_
 ·rw[tH];exact fz
 ·rw[rD ∎];exact f1
end
end L2
namespace L2
open PySem PySem.Spec PyProof.Rows PySem.W
theorem RoomH.make{k:Nat}{A:Around}(r:RoomH (k+1) A)(C:V1)(us:B7)(a:List (Str×V0)):RoomH k (A.under (.builtin "type.__call__" {.ref C::us,a})):=
 {by let:=r.dp;rw[zGf];lia,by let:=r.un;rw[zHb];lia}
section
variable{X:Cx}{C B fI:V1}{nm f:Str}{k:Nat}{fd:V7}{ps:C1}
theorem zUm{o b:Expr}{j n:Pos}{L ta:TE}(c:zDf X.K nm C B fI)(v:findIn X.K (.ref C) f=Y none)(hv:PE X b L)(ha:PE X o ta)(hs:S1 b ↥(.Attribute o f j) n.line X.env=pure false:=by rfl):PS X (.Assign [.Attribute o f j] b n) (yDd C f L ta):=by
 intro i s σ H D I h;refine cK (thn (hv i s σ H _ I h) λu s1 z_=>?_) hs;obtain⟨y,H1,I1,ry,q⟩:=z_;refine thn (ha i s1 σ H1 _ I1 q) λov l z_=>?_;obtain⟨z,r,m,rx,x,ez,A,q2⟩:=z_;subst ez;obtain rfl:ov=Value.ref x:=rx;refine vN (zBl m A) λvs he h6 h1 h2=>?_;refine xE (c.cd) λcd hc M N=>?_;refine yDh m.kIn hc M N he O (λ_ z=>by cases z) O c.set v λJ t' w g2 E=>?_;let d:r l⁻¹=none:=m.fresh;let t:l⁻¹≠x:=λz=>by rw[z,A] at d;cases d
 let p:Mut (r x):=by rw[A];exact mT
 let u1:Un X.fs [] r (upd r x (exO x C ↥l⁻¹)) l.heap J:=Un.write (e:=x) p (.inl O) E ⟨_,w⟩;let Q:HOk X.prog X.w (upd r x (exO x C ↥l⁻¹)) J:=m.hok.write (e:=x) p (.inl O) E ⟨_,w⟩ (zDk w h6 h1 h2);refine{σ,_,m.un (t':=t') (u1.also (a:=l⁻¹) (o:=.xd [(f,y)]) (mC _) d) (Q.also (by rw[zM t];exact d) ?_),q2 _ d};refine{_,g2,λg=>?_};show RelO (List.lookup g [(f,y)]) _;rw[sO,List.lookup_nil]
 by_cases z:g=f
 ·subst z
  rw[mN O,dJ];exact ry
 ·rw[mK z,show(g==f)=false from sL.mpr z]
  trivial
def zRh(C:V1)(f:Str):Sp:=λa H Q _=>∃x b v,a= [.ref x,b,v]/\H x=Y (exO x C none)/\∀d,H d=none->Q .non (upd (upd H x (exO x C ↥d)) d (.xd [(f,v)]))
theorem zUd{l:C7}{σ:St}{H:Hp}{s:V2}{Q:C9}{EE:C9}{us:B7}{w v:V}(c:zDf X.K nm C B fI)(F:zLk X.prog X.w X.K X.mg X.base k fI fd ps (zRh C f))(hr:RoomH (k+1) X.A)(hb:Binds X.K fd ps [])(I:Inv X l σ H s)(r:Vals [w,v] us)
  (q:∀x d y,X.s₀.heap.get? x=none->s.heap.get? x=none->H x=none->H d=none->d≠x->Inv X l σ (upd (upd H x (exO x C ↥d)) d (.xd [(f,v)])) y->Q (.ref x) y):V8 (S5 X.prog X.w) X.A (call (.ref C) us) Q EE s:=by
 refine wO (c.obj) λN o lk hX=>?_;let J:us...*<=100:=by rw[<-r...*];show(2:Nat)<=100;decide
 let L:X.s₀.heap.get? (s⁻¹+1)=none:=rQ (pB I.sz (pV _));let E:s.heap.get? (s⁻¹+1)=none:=rQ (pV _);let D:H (s⁻¹+1)=none:=I.hok.fresh (pV _);let he:((s.heap.push {cls:=.type "tuple",data:=.seq us.toArray}).push (kL C s⁻¹)).get? (s⁻¹+1)=Y (kL C s⁻¹):=by
  rw[<-(tX .. :(s.heap.push {cls:=.type "tuple",data:=.seq us.toArray}).objs.size=s⁻¹+1)];exact nQ _ O
 let A:=I.laid (t':=s.toks) (a:=s⁻¹+1) (o:=exO (s⁻¹+1) C none) (h':=(s.heap.push {cls:=.type "tuple",data:=.seq us.toArray}).push (kL C s⁻¹)) (λb ob e=>mO _ (mO _ e)) (pV _) (zDk he O O O);let r2:Vals [V.ref (s⁻¹+1),w,v] (Value.ref (s⁻¹+1)::us):=.cons O r;let n:zRh C f [V.ref (s⁻¹+1),w,v] (upd H (s⁻¹+1) (exO (s⁻¹+1) C none)) (λu H2=>u= .non/\∃d,H d=none/\d≠s⁻¹+1/\H2=upd (upd H (s⁻¹+1) (exO (s⁻¹+1) C ↥d)) d (.xd [(f,v)])) E0:=by
  refine{_,w,v,O,zD,λd m=>{O,d, ?_}};let j:d≠s⁻¹+1:=λz=>by rw[z,zD] at m;cases m
  rw[zM j] at m;exact{m,j,by rw[zKe]}
 let hl:((Value.ref (s⁻¹+1)::us)++ [])...*=ps...*:=by
  rw[pH,<-r2...*];exact F.len _ _ _ _ n
 let p:=hb _ (Value.ref (s⁻¹+1)::us) A.kIn hl;rw[pH] at p;let run:=F.run _ X.stack _ _ {Value.ref (s⁻¹+1)::us,[]} (Value.ref (s⁻¹+1)::us) _ _ E0 (hr.make C us []) (A.env0.make C us []) p r2 n;let I1:=I;obtain⟨h,g,dr,t,os⟩:=s;refine bO (zXv I1.kIn lk hX c.tl c.init c.fn J (sG run λr y i=>?_))
 cases r with
 |error e=>exact False.elim i|ok fl=>
  cases fl with
  |ret u=>
   refine zV (A.after i) λv' H' I3 rv ev z_=>?_;ext xE z_ d m j M;subst M;subst ev;exact{rv,q _ d y L E D m j I3}
  |next=>exact False.elim i|brk=>exact False.elim i|cont=>exact False.elim i
end
end L2
namespace L2
open PySem PySem.Spec PyProof.Rows PySem.W
def nC(v:V0):Prop:=v= .none
def aC(_:V0):Prop:=True
section
variable{X:Cx}{pins:C7}{σ:St}{H:Hp}{s:V2}{x C:V1}{d:Option V1}{φ:V0->Prop}{vs:Array V0}{a0:V0}{ψ:V5->Prop}{EE:C9}
theorem yBf{Q:Unit->V2->Prop}(I:Inv X pins σ H s)(u:X.stack=X.env::X.outer)(h:X.env.frame=Y X.env.locals)(hex:X.ex= [])(D:H x=Y (.ext ψ))(ab:X.s₀.heap.get? x=none)(he:s.heap.get? x=some {cls:=.ref C,dict:=d,data:=.fields vs})(h0:vs[0]? =Y a0)(f:vs[1]? =some .none)(v:∃cx,vs[2]? =Y cx/\φ cx)
  (q:∀T f,Inv X pins σ (drp H x) {s with heap:=f}->Fl φ f x T (.ref C) d a0 (rawInt X.env.locals)->X.s₀.heap.get? T=none->drp H x T=none->x∉frs X.stack->T∉frs X.stack->Q () {s with heap:=f}):
  V8 (S5 X.prog X.w) X.A (noteFrame (.ref x) X.env) Q EE s:=by
 let aa:frs X.stack=X.env.locals::X.fs:=by
  rw[u];unfold frs;rw[pW,h];rfl
 let l:=I.ok.frames;rw[u] at l;let L:x∉frs X.stack:=λz=>by
  let:=I.stkFree x z;rw[D] at this;cases this
 let st:=I.stack;let k:=L;rw[u] at k st;refine zNz (φ:=φ) l st h he k O h0 f v λf g M i E=>?_;rw[<-u] at i;let a:=I.base;rw[hex] at a;let r:H g=none:=by
  cases e:H g with
  |none=>rfl|some o=>
   obtain⟨ob,p⟩:=i3 (I.hok g o e);rw[E] at p;cases p
 let m:X.s₀.heap.get? g=none:=by
  cases e:X.s₀.heap.get? g with
  |none=>rfl|some o=>
   obtain⟨o',e'⟩:=a.there g o e (λz=>nomatch z);rw[E] at e';cases e'
 let nT:g∉frs X.stack:=λz=>by
  obtain⟨o,e,_⟩:=kP I.stack g z;rw[E] at e;cases e
 let t:∀b o,H b=Y o->(∀φ,o≠ .ext φ)->b≠x:=λb o e n z=>by
  subst z;rw[D] at e;exact n _ (mQ e).symm
 let B:∀b,H b=none->drp H x b=none:=λb e=>by
  unfold drp;split
  ·rfl
  ·exact e
 let j:∀b,H b=none->b∉ [x]:=λb n z=>by
  rw[mH.mp z,D] at n;cases n
 let w:HOk X.prog X.w (drp H x) s.heap:=λb o e=>by
  by_cases z:b=x
  ·subst z;rw[uT] at e;cases e
  ·rw[vO z] at e
   exact(I.hok b o e).stay (λ_ _ _ q=>q) (λc q=>by rw[vO (t c _ q λ_ y=>nomatch y)];exact q) λc J q=>by rw[vO (t c _ q λ_ y=>nomatch y)];exact q
 let un:Un (frs X.stack) [] H (drp H x) s.heap f:={λb o e n h _=>i.keep b o e h (j b n),λb o e n h _=>i.slot b o e h (j b n),λb o e n _=>B b n,λb o e _=>by
   by_cases z:b=x
   ·ext yN M oe _ _ _ e1 _
    rw[z];exact⟨oe,e1⟩
   ·let N:b∉ [x]:=λy=>z (mH.mp y)
    by_cases h:b∈frs X.stack
    ·obtain⟨sl,e2⟩:=i.slot b o e h N
     exact⟨_,e2⟩
    ·exact⟨o,i.keep b o e h N⟩,
  λb J e=>by rw[vO (t b _ e λ_ y=>nomatch y)];exact e,
  λb ob J e=>by rw[vO (t b _ e λ_ y=>nomatch y)];exact e,
  λb ps e=>{#[],by rw[Array.append_empty,vO (t b _ e λ_ y=>nomatch y)];exact e}}
 let I1:Inv X pins σ (drp H x) {s with heap:=f}:=I.call' (s':={s with heap:=f}) O un (gC w i (λb A=>B b (I.stkFree b A)) λb A=>by rw[mH.mp A];exact uT) I.bare (λb z=>nomatch z);exact q g f I1 M m (B _ r) L nT
theorem CXF.of{E:XK}{T:V1}{g f:V0}(I:Inv X pins σ H s)(hex:X.ex= [])(F:Fl φ s.heap x T g d a0 f)(b:X.s₀.heap.get? x=none)(e:X.s₀.heap.get? T=none)(a:H x=none)(h:H T=none)(nx:x∉frs X.stack)(k:T∉frs X.stack)(q:E g d H):CXF φ X E [] (.ref x) s:=by
 let i:=I.base;rw[hex] at i;exact{x,T,g,d,a0,f,H,O,I.os,I.bare,i,I.hok,b,e,a,h,F,q,I.stack,I.stkFree,nx,k,λc j=>nomatch j}
theorem Fl.same{h h':V5}{T a:V1}{c f:V0}(F:Fl φ h x T c d a0 f)(g:x≠a)(m:T≠a)(k:Heap.SameBut a h h'):Fl φ h' x T c d a0 f:=by
 ext yN F j vs e ts u b;ext zS b l n p o i b;ext oAA b t q r;exact{j,vs,e,ts,(k.2 _ g).trans u,l,n,p,o,i,t,(k.2 _ m).trans q,r}
theorem CXF.has{E:XK}{cs:B9}{e:V0}(h:CXF φ X E cs e s):∃a c vs T,e= .ref a/\s.heap.get? a=Y c/\c.data= .fields vs/\vs[1]? =Y (.ref T):=by
 ext yA h x T C d a0 b;ext zV b f v g os i b;ext zS b z n o t m b;ext yZ b j p q _;subst g;ext yN p c vs y ts l b;ext zS b A B u w k r;exact⟨x,c,vs,T,O,l,u,k⟩
theorem n8{E:XK}{e:V0}{W:C9}(l:X.Ok)(g:X.stack=X.env::X.outer)(k:X.env.frame=Y X.env.locals)(h:CXF φ X E [] e s)(q:∀b,CXF φ X E [] e b->W e b):cameBackBy (S5 X.prog X.w) X.A X.env W e s:=by
 refine yN (h.has) λa o vs T c j=>?_;ext oAA j n i m;subst c;show V8 _ _ _ _ _ _;refine mF (rV n i m ?_);rw[mK (by intro z;cases z)];exact thn (j6 l g k h) λ_ b f=>q b f
end
end L2
namespace L2
open PySem PySem.Spec PyProof.Rows PySem.W
noncomputable def exG(x C:V1)(d:Option V1):HO:=.ext λh=>∃(a:Obj)(b:Array V0),h.get? x=Y a/\a.cls= .ref C/\a.dict=d/\a.data= .fields b/\b[2]? =some .none
theorem yFc{P:V3}{w:V4}{H:Hp}{h:V5}{x C:V1}{d:Option V1}{b:Obj}{vs:Array V0}(e:h.get? x=Y b)(g:b.cls= .ref C)(f:b.dict=d)(i:b.data= .fields vs)(c:vs[2]? =some .none):ObjOk P w H h x (exG x C d):=
 {⟨b,vs,e,g,f,i,c⟩,⟨_,e⟩,λ_ _ ⟨b,vs,e,a⟩ k=>{b,vs,k _ e,a}}
noncomputable def exK(x C:V1)(d:Option V1):HO:=.ext λh=>∃a:Array V0,h.get? x=some {cls:=.ref C,dict:=d,data:=.fields a}/\a.size=6/\a[1]? =some .none
theorem yFf{P:V3}{w:V4}{H:Hp}{h:V5}{x C:V1}{d:Option V1}{vs:Array V0}(e:h.get? x=some {cls:=.ref C,dict:=d,data:=.fields vs})(b:vs.size=6)(c:vs[1]? =some .none):ObjOk P w H h x (exK x C d):=
 {⟨vs,e,b,c⟩,⟨_,e⟩,λ_ _ ⟨vs,e,a⟩ k=>{vs,k _ e,a}}
structure Xh(P:V3)(w:V4)(K:Frag)(mg:C8)(base:V5)(k:Nat)(cn:Str)(C:V1)(f:Str):Prop where
 ex:∃(nm:Str)(B fI:V1)(fd:V7)(ps:C1),zDf K nm C B fI/\zLk P w K mg base k fI fd ps (zRh C f)/\Binds K fd ps []/\mg cn=Y (.ref C)
structure Xb(K:Frag)(mg:C8)(bn:Str)(B:V1):Prop where
 ex:∃(nm:Str)(BB fB:V1),zDf K nm B BB fB/\mg bn=Y (.ref B)/\exmOne K (.ref B) (.ref B)=Y true
def zRb(B C:V1)(i:Nat)(f:Str)(ta:TA)(E:XK)(σ:St):XK:=λh d c=>h= .ref B/\∀x,c x=none->ta (σ.set i ↥(.ref x)) (upd c x (exG x B d)) λe a=>a x=Y (exG x B d)/\∃g v,e= [g,v]/\∀b,a b=none->E (.ref C) ↥b (upd a b (.xd [(f,v)]))
def zMf(B C:V1)(i:Nat)(f:Str)(ta:TA)(E:XK)(tb:XK->TS):TS:=λD σ H=>tb (zRb B C i f ta E σ) D σ H
section
variable{X:Cx}{B C:V1}{bn cn n f:Str}{i j k:Nat}{body:List V6}{bp hp pos p np cpos rpos:Pos}{e:Expr}{es:C5}{tb:XK->TS}{ta:TA}{E:XK}{φ:V0->Prop}
theorem zTt{H:Hp}{x d:V1}{o c u:HO}(a:H x=none)(g:d≠x):drp (upd (upd (upd H x o) d u) x c) x=upd H d u:=by
 funext b
 by_cases z:b=x
 ·subst z
  rw[uT,zM (Ne.symm g),a]
 ·rw[vO z,zM z]
  by_cases y:b=d
  ·subst y;rw[zD,zD]
  ·rw[zM y,zM z,zM y]
theorem zPc(R:Xh X.prog X.w X.K X.mg X.base k cn C f)(RB:Xb X.K X.mg bn B)(hr:Room j X.A)(hj:k+1<=j)(bx:Gl X cn)(bi:Gl X bn)(hN:X.N.Nodup)(hi:X.N[i]? =Y n)(hl:X.env.scope.names.lookup n=some .local)(hv:Vis X.env.scope n)(l:Lvs φ X E)(hφ:∀v,φ v)
  (t:∀a W E' σ,zGo (CXE nC X.prog X.w) (X.pend a W) σ E'->PSat (X.pend a W) σ body (tb E')) (ha:∀v,PA (X.mark v) (e::es) ta)
  (cg:(bn==("__debug__" :Str))=false:=by decide) (cq:(cn==("__debug__" :Str))=false:=by decide) (bw:(n==("__debug__" :Str))=false:=by decide) (cf:(n==("__classdict__" :Str))=false:=by decide)
  (he:A2 (e::es) X.env=(false,eval e X.env)::A2 es X.env:=by rfl) (cj:(S2 cpos (A2 es X.env)).any (·.1)=false:=by rfl):
  PS X (.Try body [.ExceptHandler ↥(.Name bn bp) ↥n [.Raise ↥(.Call (.Name cn p) (e::es) [] cpos) ↥(.Name n np) rpos] hp] [] [] pos) (zMf B C i f ta E tb):=by
 intro a s σ H D I h;ext wY l g hf hex cw cp;refine yB (RB.ex) λb' BB fB cB bo az=>?_;refine yA (R.ex) λnm BC fI fd ps L=>?_;ext yZ L cC FI ca cb;refine wpAny_Try_except ?_;let J:=t a (λe s'=>∃H1 s1,Inv X a σ H1 s1/\CXE nC X.prog X.w X.stack H1 s1 (zRb B C i f ta E σ) e s') (zRb B C i f ta E σ) σ
  (λco A s1 e s' I1 hx=>{A,s1,I1.unpend I.ok,hx}) [] s H D I.pend h
 refine pL J (λf s1 q=>?_) λe s1 ⟨H0,s0,I0,hx⟩=>?_
 ·cases f with
  |next=>obtain⟨σ',A,I',q⟩:=q;exact aH {σ',A,I'.unpend I.ok,q}
  |brk=>obtain⟨σ',A,I',q⟩:=q;exact{σ',A,I'.unpend I.ok,q}
  |cont=>obtain⟨σ',A,I',q⟩:=q;exact{σ',A,I'.unpend I.ok,q}
  |ret u=>obtain⟨v,σ',A,I',r,q⟩:=q;exact{v,σ',A,I'.unpend I.ok,r,q}
 ext yA hx x T Cv d a0 L;ext wQ L A bk os ae un L;ext zS L ak ac a7 am b6 L;ext oAA L fl a8 q;subst bk a8;let I2:Inv X a σ A s1:=I0.call' os un ak ae (λb z=>absurd z (by simp));let av:∀b,s0.heap.get? b=none->b∉frs X.stack:=λb t z=>by
  obtain⟨o,e,_⟩:=kP I0.stack b z;rw[t] at e;cases e
 let ao:=I0.ok.frames;let nx:=av x ac;let nT:=av T a7;let st:=I2.stack;rw[g] at ao;let bc:=nx;let bd:=nT;rw[g] at bc bd st;refine zKf ao st hf bc bd fl λh1 T1 f1 k1 n1=>?_;refine qB f1 λh2 f2 k2=>?_;rw[<-g] at k1;let a6:A T1=none:=by
  cases e:A T1 with
  |none=>rfl|some o=>
   obtain⟨ob,bh⟩:=i3 (I2.hok T1 o e);rw[n1] at bh;cases bh
 let bf:s0.heap.get? T1=none:=by
  cases e:s0.heap.get? T1 with
  |none=>rfl|some o=>
   obtain⟨o',e'⟩:=un.there T1 o e (λz=>nomatch z);rw[n1] at e';cases e'
 let k3:Kp (frs X.stack) [x,T,T1] s1.heap h2:=k1.trans (vA k2 λb t=>nomatch t) λc hc=>by
  rcases hc with z | z
  ·rcases mG.mp z with z | z
   ·rw[z];simp
   ·rw[mH.mp z];simp
  ·rw[mH.mp z.1];simp
 let aa:∀b∈ [x,T,T1],s0.heap.get? b=none/\A b=none:=λb t=>by
  rcases mG.mp t with z | z
  ·rw[z];exact⟨ac,am⟩
  ·rcases mG.mp z with z | z
   ·rw[z];exact⟨a7,b6⟩
   ·rw[mH.mp z];exact⟨bf,a6⟩
 let I3:Inv X a σ A {s1 with heap:=h2}:=I0.call' (s':={s1 with heap:=h2}) os (zCi un k3 λb t=>(aa b t).1) (gC ak k3 I2.stkFree λb t=>(aa b t).2) ae (λb z=>absurd z (by simp));let LT:Looks (S5 X.prog X.w) h2 (typeOf (.ref x)) (.ref B):=by
  ext yN f2 oe vs oT cl e1 L;ext oA L e2 _;exact e2▸(Looks.ld e1).andThen .now
 refine wpAny_handleBy_cons (codeAny_handlers_test ?_) (by intro z;cases z);refine jA (X:=X.mark (.ref x)) (I3.mark) bi bo ?_ cg;refine exm_one (M:=S5 X.prog X.w) I3.kIn LT az _ _ _ {s1 with heap:=h2} (λ_ _ e=>e) ?_;refine codeAny_handlers_suite_as ?_;refine qB f2 λh3 f3 k4=>?_;let k5:Kp (frs X.stack) [x,T,T1] s1.heap h3:=k3.trans (vA k4 λb t=>nomatch t) λc hc=>by
  rcases hc with z | z
  ·exact z
  ·rw[mH.mp z.1];simp
 let I4:Inv X a σ A {s1 with heap:=h3}:=I0.call' (s':={s1 with heap:=h3}) os (zCi un k5 λb t=>(aa b t).1) (gC ak k5 I2.stkFree λb t=>(aa b t).2) ae (λb z=>absurd z (by simp));let ce:X.s₀.heap.get? x=none:=by
  cases e:X.s₀.heap.get? x with
  |none=>rfl|some o=>
   obtain⟨o',e'⟩:=I0.base.there x o e (by rw[hex];exact λz=>nomatch z);rw[ac] at e';cases e'
 ext yN f3 oe vs oT cl e1 L;ext zS L e2 e3 e4 _ _ L;ext yGv L _ _ _ _ cx L;ext oA L bt cr;let I5:Inv X a σ (upd A x (exG x B d)) {s1 with heap:=h3}:=by
  refine I4.track am ce (λz=>?_) (λy c e z=>?_) (λp hp z=>?_) (yFc e1 e2 e3 e4 (bt.trans (by rw[show cx=Value.none from cr])))
  ·obtain⟨m,⟨o,_,_,ho,_⟩,_⟩:=I0.loc
   rw[<-z,ac] at ho;cases ho
  ·refine wO (I0.cell y c e) λv o ho _=>?_
   rw[z,ac] at ho;cases ho
  ·let ho:=(I0.pin p hp).1
   rw[z,ac] at ho;cases ho
 refine zCt (v:=.ref x) I5 hN hi (.inl hl) O (λs4 I7=>?_) (.inr hl);let hq:=q x am;refine cE ?_;rw[arm_exec_Raise];refine mF (sF ?_);show V8 _ _ (raiseStmt X.env ↥(do let v <-eval (.Call (.Name cn p) (e::es) [] cpos) X.env;S0 rpos;pure v) ↥(do let v <-eval (.Name n np) X.env;S0 rpos;pure v)) _ _ _;refine wO (cC.obj) λN o lk hX=>?_;refine wO (cB.obj) λNB oB bs cc=>?_;let a4:∀b:V0,(b::veMro).contains (Value.type "BaseException")=true:=λb=>by rw[tD,show veMro.contains (.type "BaseException")=true by decide,aA]
 refine zOf (h:=x) (nm:=nm) (C:=C) (N:=N) (bm:=.ref BC::veMro) (B:=B) (nmb:=b') (Nb:=NB) (bmb:=.ref BB::veMro) (a4 _) (a4 _) O (mF ?_);refine rR (jA (X:=X.mark (.ref x)) I7.mark bx cb ?_ cq);refine callWith_K (h₀:=X.base) I7.ok.mod.kin cC.kp (pL (ha (.ref x) cpos a s4 _ _ _ I7.mark hq) (λus s5 z_=>?_) λ_ _ z=>False.elim z) he cj;obtain⟨cu,H5,I9,r5,al,v0,v,ev,q5⟩:=z_;refine {I9.kIn, ?_};subst ev;refine zUd (X:=X.mark (.ref x)) cC FI ((hr.h (v:=Y (.ref x))).mono hj) ca I9 r5 λw Q s6 ag cs ab ai an br=>?_;refine mF (sF (nB ?_));let aw:x≠w:=λz=>by rw[<-z,al] at ab;cases ab
 let ck:x≠Q:=λz=>by rw[<-z,al] at ai;cases ai
 let ci:i<σ...*:=by rw[I.len];exact(mS.mp hi).1
 let ax:qH i (σ.set i ↥(V.ref x)) (upd (upd H5 w (exO w C ↥Q)) Q (.xd [(f,v)])) λy au=>y= .ref x/\au=upd (upd H5 w (exO w C ↥Q)) Q (.xd [(f,v)]):=
  by unfold qH;rw[sJ ci];exact⟨O,O⟩
 refine mF (pL (zWw (X:=X.mark (.ref x)) hi hv bw cf a s6 _ _ _ br ax) (λu s7 z_=>?_) λ_ _ z=>False.elim z);obtain⟨y,au,af,ry,ey,eH⟩:=z_;subst ey eH;obtain rfl:u=Value.ref x:=ry;refine mF (sF (nB ?_));let aq:upd (upd H5 w (exO w C ↥Q)) Q (.xd [(f,v)]) w=Y (exO w C ↥Q):=by rw[zM (Ne.symm an),zD]
 let ay:upd (upd H5 w (exO w C ↥Q)) Q (.xd [(f,v)]) x=Y (exG x B d):=by rw[zM ck,zM aw];exact al
 refine vN (zBl af aq) λve g0 h6 g1 g2=>?_;obtain⟨⟨ob,vh,b1,b2,b3,b4,b5⟩,_⟩:=af.hok x _ ay;refine{w,_,o,ob,oB,ve,vh,O,O,af.kIn _ _ lk,hX,af.kIn _ _ bs,cc,g0,O,O,h6,g1,aw,b1,b2,b4,b5,λh' a9 c1 c2 c3 c4=>?_};let bu:Inv (X.mark (.ref x)) a (σ.set i ↥(V.ref x)) (upd (upd (upd H5 w (exO w C ↥Q)) Q (.xd [(f,v)])) w (exK w C ↥Q)) {s7 with heap:=h'}:=
  Inv.write (t':=s7.toks) af (e:=w) (by rw[aq];exact mT) (.inl O) (λb ob t e=>(c2 b t).trans e) ⟨_,c1⟩ (yFf c1 c3 c4)
 obtain⟨a1,h0⟩:∃a1,a9[0]? =Y a1:={_,pK.mpr {∅,O}};obtain⟨ch,ar⟩:∃a1,a9[2]? =Y a1:={_,pK.mpr {∅,O}};refine yBf (X:=X.mark (.ref x)) (φ:=φ) bu g hf hex (show _=Y (HO.ext _) from zD) ag c1 h0 c4 {ch,ar,hφ _} λT2 h4 aj b0 a5 ah bb a3=>?_;rw[zTt ab an] at aj ah;let bz:frs X.stack=X.env.locals::X.fs:=by
  rw[g];unfold frs;rw[pW,hf];rfl
 let nl:∀b,b∉frs X.stack->b≠X.env.locals:=λb t z=>t (by rw[bz,z];exact mE);let ap:(X.env.scope.kind== .class ||(X.env.scope.kind== .module && X.env.locals !=X.env.globals))=false:=by rw[I.ok.kind];rfl
 obtain⟨m,hn,_⟩:=aj.loc;refine wpAny_nameGoes hl hn ap λh5 m' bj bg=>?_;let bq:=(aj.unmark I.ok).wiped (t':=s7.toks+1) bj bg;let be:upd H5 Q (.xd [(f,v)]) w=none:=by rw[zM (Ne.symm an)];exact ab
 let bv:=b0.same (nl _ bb) (nl _ a3) bg;let a':CXF φ X E [] (.ref w) {s7 with heap:=h5,toks:=s7.toks+1}:=CXF.of bq hex bv ag a5 be ah bb a3 (q5 Q ai);unfold PySem.passOn;refine yN (a'.has) λa2 cy ct T3 ea L=>?_;ext oAA L y1 y2 y3;cases ea;refine mF (rV y1 y2 y3 ?_);rw[mK (by intro z;cases z)];let ba:(X.mark (.ref x)).Ok:=I.ok.mark;refine mF (thn (j6 (X:=X.mark (.ref x)) ba g hf a') λ_ s8 bl=>?_);refine wpAny_throw ?_;refine thn (k7 (X:=X.mark (.ref x)) ba g hf bl O) λ_ s9 cd=>?_;exact n8 (X:=X) I.ok g hf cd λcv cm=>cp _ _ (k9 I.ok g hf cm)
end
end L2
namespace L2
open PySem PySem.Spec PyProof.Rows PySem.W
theorem yEu{P:V3}{w:V4}{K:PySem.W.Frag}{mg:C8}{base:V5}{k:Nat}{f:V1}{D d:Str}{i:Arguments}{l:List V6}{a:Scope}{dV kV ac pm g ct oc:V0}{an od:Option V1}
  {ae:Array (Option V0)} {N ps:C1} {sp:Sp} (lk:K.lookup f=Y {oc,od, .func (PySem.W.fnOf D d i l a dV kV ac pm an g ct),ae}) (af:PySem.W.codeIn K g d=true) (S:wF N ps a)
  (len:∀p H Q E,sp p H Q E->p...*=ps...*)
  (L:∀(A:Around)(c:List S7)(s:V2)(H:Hp)(p:B3)(Q:VK)(E:XK),RoomH k (A.deeper (envOfC d a s⁻¹ f g))->sp p H Q E->
   ∃t,PSs (cxH P w K mg base N d a f g A c s H) l t/\t {nx:=λ_ B=>Q .non B,rt:=Q} (jI N p) H):
  zLk P w K mg base (k+1) f (PySem.W.fnOf D d i l a dV kV ac pm an g ct) ps sp:=by
 refine{len,λA c s H ai us p Q E hr j hb r ab=>?_};let hl:=len _ _ _ _ ab;let KX:K.In s.heap:=j.mod.kin.keeps λb o e=>(j.bs b o e).1;let ag:s.heap.NoLimit:=j.mod.nolimit.keeps λb o e=>(j.bs b o e).1;let M:∀y∈ps.zip us,a.names.lookup y.1=some .local\/(a.names.lookup y.1=some .cell/\((cellsFrom (s⁻¹+1) a.names []).lookup y.1).isSome=true):=fun⟨n,v⟩ hy=>by
  rcases S.par n (cL hy).1 with q | q
  ·exact .inl q
  ·exact .inr {q,PySem.W.cellsFrom_some _ _ _ (.inl q)}
 refine codeAny_call_function hr.depth (KX _ _ lk) O S.co S.gen O (PySem.W.codeRec_of KX af) (hb _ _ _ _ ?_);refine wpAny_newFunctionEnv_cells S.kind M λaj he s1 x=>?_;subst he;refine{ag.keeps x.toInCall.keep,codeAny_func ?_};obtain⟨t,ht,hq⟩:=L A c s H p Q E (hr.deeper _) ab;let ah:Env0 P w K mg base {A with handled:=none} c s H:=⟨j.frames,j.mod,j.bs,j.bsz,j.funs,j.frf,j.hok,j.bare⟩;let m:Inv (zCj CX0 P w K mg base N d a f g {A with handled:=none} c s H E0) [] (jI N p) H s1:=zHq S O ah hl r x;let h:=m.ok;let I:Inv (cxH P w K mg base N d a f g A c s H) [] (jI N p) H s1:=
  {{h.mod,h.kind,h.glob,h.blt,h.above,h.inj,h.has,h.cab,(λz=>nomatch z),h.frames,h.stk,h.exf,h.bs,h.bsz,h.noex,h.exfs,h.funs,h.frf},m.os,m.bare,m.base,m.loc,m.cell,m.free,m.freeC,m.pin,m.hok,m.len}
 refine pL (ht [] s1 (jI N p) H _ I hq) (λfl s' hs=>?_) λe s' hs=>False.elim hs;let aa:∀{σ':St}{B:Hp}{v:V}{u:V0},Inv (cxH P w K mg base N d a f g A c s H) [] σ' B s'->RelV v u->Q v B->CE c P w H s Q u s':=
  λ{σ' B v u} J rv q=>⟨v,B,J.os,J.bare,J.base,J.hok,rv,q⟩
 cases fl with
 |ret u=>
  ext yB hs v σ' B J rv q;exact aa J rv q
 |next=>
  ext wO hs σ' B J q;exact aa (v:=V.non) (u:=Value.none) J O q
 |brk=>
  ext wO hs _ _ _ q;exact False.elim q
 |cont=>
  ext wO hs _ _ _ q;exact False.elim q
end L2
namespace L2
open PySem PySem.Spec PyProof.Rows PySem.W
section
variable{X:Cx}{B1 B2:V1}{bn1 bn2 n1 n2:Str}{i1 i2:Nat}{body su1 su2:List V6}{b1 b2:V6}{bp1 bp2 hp1 hp2 pos:Pos}{tb:XK->TS}{ts1 ts2:TS}{φ:V0->Prop}
end
end L2
namespace L2
open PySem PySem.Spec PyProof.Rows PySem.W
section
variable{X:Cx}{B1 B2:V1}{bn1 bn2 n1:Str}{i1:Nat}{body su1 su2:List V6}{b1 b2:V6}{bp1 bp2 hp1 hp2 pos:Pos}{tb:XK->TS}{ts1 ts2:TS}{φ:V0->Prop}
end
end L2
namespace L2
open PySem PySem.Spec PyProof.Rows PySem.W
section
variable{X:Cx}{B2:V1}{bn2:Str}{body su2:List V6}{b2:V6}{bp2 hp2 pos:Pos}{tb:XK->TS}{ts2:TS}{φ:V0->Prop}
def zSg(K:Frag)(B2:V1)(len:Nat)(ts2:TS)(D:gO):XK:=λC d b=>∃a,C= .ref a/\exmOne K (.ref a) (.ref B2)=Y true/\∀x,b x=none->ts2 D (List.replicate len none) (upd b x (exF x a d))
def yCl(K:Frag)(B2:V1)(len:Nat)(tb:XK->TS)(ts2:TS):TS:=λD σ H=>tb (zSg K B2 len ts2 D) D σ H
theorem yBo(al:X.calm=true)(aw:Gl X bn2)(ap:X.mg bn2=Y (.ref B2))(A:X.stack=X.env::X.outer)(hf:X.env.frame=Y X.env.locals)(hex:X.ex= [])
  (i:∀a W E,uD (CXE φ X.prog X.w) (X.pend a W) E->PSs (X.pend a W) body (tb E)) (an:∀v,PSs (X.mark v) (b2::su2) ts2) (au:(bn2==("__debug__" :Str))=false:=by decide):
  PS X (.Try body [.ExceptHandler ↥(.Name bn2 bp2) none (b2::su2) hp2] [] [] pos) (yCl X.K B2 X.N...* tb ts2):=by
 intro a s σ H D I h;refine wpAny_Try_except ?_;let J:=i a (λe s'=>∃k H1 l,Inv X a k H1 l/\CXE φ X.prog X.w X.stack H1 l (zSg X.K B2 X.N...* ts2 D) e s') (zSg X.K B2 X.N...* ts2 D)
  (λav k g l e s' I1 hx=>{k,g,l,I1.unpend I.ok,hx}) [] s σ H D I.pend h
 refine pL J (λf l q=>?_) λe l ⟨k,H0,s0,L,hx⟩=>?_
 ·cases f with
  |next=>obtain⟨k,g,I',q⟩:=q;exact aH {k,g,I'.unpend I.ok,q}
  |brk=>obtain⟨k,g,I',q⟩:=q;exact{k,g,I'.unpend I.ok,q}
  |cont=>obtain⟨k,g,I',q⟩:=q;exact{k,g,I'.unpend I.ok,q}
  |ret u=>obtain⟨v,k,g,I',r,q⟩:=q;exact{v,k,g,I'.unpend I.ok,r,q}
 obtain⟨x,T,C,d,a0,g,rfl,os,w,un,ab,t,ak,aa,am,fl,Ca,rfl,aq,q⟩:=hx;let I2:Inv X a k g l:=L.call' os un ab w (λb z=>absurd z (by simp));let ae:∀b,s0.heap.get? b=none->b∉frs X.stack:=λb i z=>by
  obtain⟨o,e,_⟩:=kP L.stack b z;rw[i] at e;cases e
 let ac:=L.ok.frames;let nx:=ae x t;let nT:=ae T ak;let st:=I2.stack;rw[A] at ac;let af:=nx;let ag:=nT;rw[A] at af ag st;refine zKf ac st hf af ag fl λh1 B f1 k1 n1=>?_;refine qB f1 λh2 f2 k2=>?_;rw[<-A] at k1;let aj:g B=none:=by
  cases e:g B with
  |none=>rfl|some o=>
   obtain⟨ob,ai⟩:=i3 (I2.hok B o e);rw[n1] at ai;cases ai
 let ah:s0.heap.get? B=none:=by
  cases e:s0.heap.get? B with
  |none=>rfl|some o=>
   obtain⟨o',e'⟩:=un.there B o e (λz=>nomatch z);rw[n1] at e';cases e'
 let k3:Kp (frs X.stack) [x,T,B] l.heap h2:=k1.trans (vA k2 λb i=>nomatch i) λc hc=>by
  rcases hc with z | z
  ·rcases mG.mp z with z | z
   ·rw[z];simp
   ·rw[mH.mp z];simp
  ·rw[mH.mp z.1];simp
 let n:∀b∈ [x,T,B],s0.heap.get? b=none/\g b=none:=λb i=>by
  rcases mG.mp i with z | z
  ·rw[z];exact⟨t,aa⟩
  ·rcases mG.mp z with z | z
   ·rw[z];exact⟨ak,am⟩
   ·rw[mH.mp z];exact⟨ah,aj⟩
 let I3:Inv X a k g {l with heap:=h2}:=L.call' (s':={l with heap:=h2}) os (zCi un k3 λb i=>(n b i).1) (gC ab k3 I2.stkFree λb i=>(n b i).2) w (λb z=>absurd z (by simp));let LT:Looks (S5 X.prog X.w) h2 (typeOf (.ref x)) (.ref Ca):=by
  obtain⟨oe,vs,oT,ar,e1,e2,_⟩:=f2;exact e2▸(Looks.ld e1).andThen .now
 refine wpAny_handleBy_cons (codeAny_handlers_test ?_) (by intro z;cases z);refine jA (X:=X.mark (.ref x)) (I3.mark) aw ap ?_ au;refine exm_one (M:=S5 X.prog X.w) I3.kIn LT aq _ _ _ {l with heap:=h2} (λ_ _ e=>e) ?_;refine codeAny_handlers_suite ?_;refine qB f2 λh3 f3 k4=>?_;let k5:Kp (frs X.stack) [x,T,B] l.heap h3:=k3.trans (vA k4 λb i=>nomatch i) λc hc=>by
  rcases hc with z | z
  ·exact z
  ·rw[mH.mp z.1];simp
 let I4:Inv X a k g {l with heap:=h3}:=L.call' (s':={l with heap:=h3}) os (zCi un k5 λb i=>(n b i).1) (gC ab k5 I2.stkFree λb i=>(n b i).2) w (λb z=>absurd z (by simp));let ao:X.s₀.heap.get? x=none:=by
  cases e:X.s₀.heap.get? x with
  |none=>rfl|some o=>
   obtain⟨o',e'⟩:=L.base.there x o e (by rw[hex];exact λz=>nomatch z);rw[t] at e';cases e'
 obtain⟨oe,vs,oT,ar,e1,e2,e3,e4,_⟩:=f3;let I5:Inv X a k (upd g x (exF x Ca d)) {l with heap:=h3}:=by
  refine I4.track aa ao (λz=>?_) (λy c e z=>?_) (λp hp z=>?_) (yEl e1 e2 e3 e4)
  ·obtain⟨m,⟨o,_,_,N,_⟩,_⟩:=L.loc
   rw[<-z,t] at N;cases N
  ·obtain⟨v,o,N,_⟩:=L.cell y c e
   rw[z,t] at N;cases N
  ·let N:=(L.pin p hp).1
   rw[z,t] at N;cases N
 let I6:Inv X a (List.replicate X.N...* none) (upd g x (exF x Ca d)) {l with heap:=h3}:=I5.weak (by rw[rY,I5.len]) λj v' e=>by
  rw[bS] at e;split at e<;>cases e
 refine pL (an (.ref x) a _ _ _ D I6.mark (q x aa)) (λf s5 z=>?_) λ_ _ z=>False.elim z
 cases f with
 |next=>obtain⟨σ5,H5,I8,Q⟩:=z;exact{_,H5,I8.unmark I.ok,Q}
 |brk=>obtain⟨σ5,H5,I8,Q⟩:=z;exact{_,H5,I8.unmark I.ok,Q}
 |cont=>obtain⟨σ5,H5,I8,Q⟩:=z;exact{_,H5,I8.unmark I.ok,Q}
 |ret u=>obtain⟨v,σ5,H5,I8,r5,Q⟩:=z;exact{v,_,H5,I8.unmark I.ok,r5,Q}
end
end L2
namespace PySem.W
open PySem PySem.Calls PyProof.Rows PyProof.V PySem.Spec
theorem zPb:typeLookup (.type "list_reverseiterator") "__len__" =pure none:=by rw[typeLookup_type,builtinLookup_eq_fast];kernel_rfl
theorem zNn:typeLookup (.type "list_reverseiterator") "__length_hint__" =pure ↥(.builtin "list_reverseiterator.__length_hint__"):=by rw[typeLookup_type,builtinLookup_eq_fast];kernel_rfl
section
variable{prog:V3}{w:V4}{A:Around}{E:C9}{s:V2}{r l:V1}{items:Array V0}
theorem zWh{Q:Bool->V2->Prop}(c:s.TypeIs (.ref r) "list_reverseiterator")(h:Q false s):V8 (S5 prog w) A (Builtin.List.listLengthHint (.ref r)) Q E s:=by
 unfold Builtin.List.listLengthHint;refine wpAny_bind (wpAny_specialOf c zPb ?_);refine wpAny_ite_split (λa=>absurd a ∎) (λ_=>?_);refine wpAny_ite_split (λa=>absurd a ∎) (λ_=>?_);refine wpAny_bind (wpAny_specialOf c zNn ?_);generalize hid:("list_reverseiterator.__length_hint__" :String)=d
 wp_delta
 rw[show splitId d=Y ("list_reverseiterator","__length_hint__") from by subst hid;decide+kernel];subst hid;refine wpAny_bind (wpAny_isInstance (T:="list_reverseiterator") (b:=true) c (by rw[isSubtype_type];kernel_rfl) ?_);refine wpAny_ite_split (λa=>absurd a ∎) (λ_=>?_);refine wpAny_ite_split (λ_=>?_) (λa=>absurd (by decide+kernel) a);refine wpAny_ite_split (λa=>absurd a (by decide+kernel)) (λ_=>?_);exact wpAny_pure h
abbrev yBi(items:Array V0):Nat->V0->Prop:=λi v=>items[items.size - 1 - i]? =Y v
theorem zPe{R:Result->V2->Prop}(hh:A.handled=none)(p:s.heap.IsRevIter r l ((items.size:Int)- 1))(hl:s.heap.IsList l items)(D:l≠r)(S:V1)(d:S≠r)(k:S≠l)(c:V0)(c₀:Nat)(B:s.heap.get? S=some {cls:=.type "list",data:=.seq #[] c₀})
  (hR:∀h' t a i,(∀b o,b≠S->b≠r->s.heap.get? b=Y o->h'.get? b=Y o)->h'.get? S=some {cls:=.type "list",dict:=none,data:=.seq a i,slots:=#[]}->ItemsOf (yBi items) a items.size->R (.ok (.ret c)) {s with heap:=h',toks:=t}) (hn:items.size<=V9):
  V8 (S5 prog w) A.in1 (Builtin.List.listExtendWith (.ref S) (.ref r) c)
   (λy s'=>match y with | .done f=>R (.ok f) s' | .again i=>i.quiet=true/\codeAny (S5 prog w) A i R s') (λe s'=>R (.error e) s') s:=by
 let N:S∉ [r,l]:=by simp only[List.mem_cons,List.not_mem_nil,or_false,not_or];exact⟨d,k⟩
 let W:=Walks.listRev (prog:=prog) (w:=w) (A:=A.in1) hh r l D items;let M:∀h:V5,h.IsRevIter r l ((items.size:Int)- 1)->h.IsRevIter r l ((items.size:Int)- 1 - ((0:Nat):Int)):=λh z=>by
  let e:(items.size:Int)- 1 - ((0:Nat):Int)=(items.size:Int)- 1:=by lia
  rw[e];exact z
 let n:∀(h:V5)(I t:Nat),h.IsRevIter r l ((items.size:Int)- 1)->h.IsList l items->(∀b o,b≠S->s.heap.get? b=Y o->h.get? b=Y o)->
   h.get? S=some {cls:=.type "list",data:=.seq #[] I}->codeAny (S5 prog w) A (.builtin "list.extend.loop" {[.ref S, .ref r,c],[]}) R {s with heap:=h,toks:=t}:=by
  intro h I t J u hk L;refine codeAny_extend_loopS W.toS hn S N c items.size 0 _ #[] I O (Nat.zero_le _) {Nat.zero_le _,M _ J,u} L (ItemsOf.nil _) λs' a i Q H j=>?_;rw[Moved.eq_with Q];refine hR s'.heap s'.toks a i (λb o m v e=>Q.heap b o (λhmem=>?_) (hk b o m e)) H j;rcases List.mem_cons.mp hmem with e' | hmem
  ·exact m e'
  ·exact v (List.mem_singleton.mp hmem)
 unfold Builtin.List.listExtendWith;refine wpAny_bind (wpAny_typeOf (T:="list_reverseiterator") p.typeIs ?_);let h1:Builtin.List.listSameRef (.ref S) (.ref r)=false:=by simp[Builtin.List.listSameRef,d]
 let h2:(Value.type "list_reverseiterator" ==Value.type "list")=false:=by decide
 let h3:(Value.type "list_reverseiterator" ==Value.type "tuple")=false:=by decide
 simp only[h1,h2,h3,Bool.or_false,Bool.false_eq_true,if_false];refine wpAny_bind (wpAny_pyIter_revIter p ?_);refine wpAny_bind (wpAny_holding (zWh p.typeIs ?_));refine wpAny_ite_split (λ_=>?_) (λ_=>wpAny_pure {plainId_quiet PySem.F.plain_extend_loop _,n _ c₀ _ p hl (λb o _ e=>e) B});refine wpAny_bind (wpAny_rule ?_);refine wpAny_bind ?_;show V8 _ _ (updateSeq S (·.push .none)>>=λ_=>updateSeq S (·.pop)) _ _ _;refine wpAny_bind (wpAny_updateSeq B O ?_);let q:=Heap.get?_update_self (Obj.mapSeq (·.push Value.none)) B O;refine wpAny_updateSeq (hz:=by seq_fits) q O ?_;let x:=Heap.get?_update_self (Obj.mapSeq (·.pop)) q O;let g:∀b o,b≠S->s.heap.get? b=Y o->_:=λb o m e=>(Heap.get?_update_other _ (Obj.mapSeq (·.pop)) (Ne.symm m)).trans ((Heap.get?_update_other _ (Obj.mapSeq (·.push Value.none)) (Ne.symm m)).trans e);exact wpAny_pure ⟨plainId_quiet PySem.F.plain_extend_loop _,n _ _ _ (p.at λo e=>g r o (Ne.symm d) e) (hl.at λo e=>g l o (Ne.symm k) e) g x⟩
theorem zXy{R:Result->V2->Prop}(x:A.handled=none)(B:s.heap.IsRevIter r l ((items.size:Int)- 1))(z:s.heap.IsList l items)(u:l≠r)(S:V1)(i:S≠r)(j:S≠l)(t:s.heap.get? S=some {cls:=.type "list",data:=.seq #[]})
  (y:∀g p a d,(∀b o,b≠S->b≠r->s.heap.get? b=Y o->g.get? b=Y o)->g.get? S=some {cls:=.type "list",dict:=none,data:=.seq a d,slots:=#[]}->ItemsOf (yBi items) a items.size->R (.ok (.ret .none)) {s with heap:=g,toks:=p}) (H:items.size<=V9):
  V8 (S5 prog w) A.in1 (Builtin.«list.__init__» {[.ref S, .ref r],[]})
   (λn s'=>match n with | .done f=>R (.ok f) s' | .again d=>d.quiet=true/\codeAny (S5 prog w) A d R s') (λe s'=>R (.error e) s') s:=by
 show V8 _ _ (do let old <-Builtin.List.listItems (.ref S);Builtin.List.listUpdate (.ref S) (λ_=>#[]);letGo old.toList.reverse;Builtin.List.listExtendWith (.ref S) (.ref r) .none) _ _ s;refine wpAny_bind ?_;unfold Builtin.List.listItems;refine wpAny_bind (wpAny_seqItems t O (wpAny_pure ?_));show V8 _ _ (updateSeq S (λ_=>#[])>>=λ_=>letGo (#[]:Array V0).toList.reverse>>=λ_=>Builtin.List.listExtendWith (.ref S) (.ref r) .none) _ _ s;refine wpAny_bind (wpAny_updateSeq t O ?_);let q:=Heap.get?_update_self (Obj.mapSeq (λ_=>(#[]:Array V0))) t O;let c:∀b o,b≠S->s.heap.get? b=Y o->(s.heap.update S (Obj.mapSeq (λ_=>(#[]:Array V0)))).get? b=Y o:=
  λb o k e=>(Heap.get?_update_other _ _ (Ne.symm k)).trans e
 refine wpAny_bind (wpAny_letGo ?_);refine zPe x (B.at λo e=>c r o (Ne.symm i) e) (z.at λo e=>c l o (Ne.symm j) e) u S i j .none _ q (λg p a d D v h=>?_) H;exact y g p a d (λb o k m e=>D b o k m (c b o k e)) v h
theorem zVy{Q:C9}(u:A.handled=none)(m:s.heap.IsRevIter r l ((items.size:Int)- 1))(q:s.heap.IsList l items)(j:l≠r)(B:items.size<=V9)
  (v:∀d h a i,(∀b o,b≠r->s.heap.get? b=Y o->d.get? b=Y o)->d.get? s⁻¹=some {cls:=.type "list",dict:=none,data:=.seq a i,slots:=#[]}->ItemsOf (yBi items) a items.size->Q (.ref s⁻¹) {s with heap:=d,toks:=h}):
  V8 (S5 prog w) A (call (.type "list") [.ref r]) Q E s:=by
 refine callType_codes (Q₁:=λf p=>f= .ref s⁻¹/\p={s with heap:=s.heap.push {cls:=.type "list",data:=.seq #[]}}) PySem.F.called_list (PySem.F.typeCall_list_1 _) PySem.F.entry_list_init
  (code_list_new _ ⟨O,O⟩) λf p z=>?_
 obtain⟨rfl,rfl⟩:=z;let n:(s.heap.push {cls:=.type "list",data:=.seq #[]}).get? s⁻¹=some {cls:=.type "list",data:=.seq #[]}:=Heap.get?_push_size _ O;let y:r<s⁻¹:=by obtain⟨o,g,_⟩:=m;exact Heap.lt_size g
 let t:l<s⁻¹:=by obtain⟨o,g,_⟩:=q;exact Heap.lt_size g
 refine{⟨_,n,O⟩,PySem.F.args_list_init_2 _ _,zXy (A:=A.in1) u (m.at λo e=>Heap.get?_push_of_some _ e) (q.at λo e=>Heap.get?_push_of_some _ e) j _ (Nat.ne_of_gt y) (Nat.ne_of_gt t) n (λd h a i x k c=>?_) B};exact{O,v d h a i (λb o D e=>x b o (Nat.ne_of_lt (Heap.lt_size e)) D (Heap.get?_push_of_some _ e)) k c}
end
end PySem.W
namespace L2
open PySem PySem.Spec PyProof.Rows PySem.W
theorem zLx:A1 "reversed" =Y (.type "reversed"):=by decide+kernel
theorem zUg{us:B7}{acc:Array V0}(h:ItemsOf (yBi us.toArray) acc us.toArray.size):acc.toList=us.reverse:=by
 let c:acc.toList...*=us...*:=by rw[tM,h.1];simp
 refine List.ext_getElem? λi=>?_
 by_cases b:i<us...*
 ·let e:acc.toList[i]? =Y (acc.toList[i]'∅):=mP ∅
  let z:=h.2 i _ (by rw[<-sX];exact e);rw[e,cJ b];let a:us.toArray[us.toArray.size - 1 - i]? =Y _:=z
  simpa using a.symm
 ·rw[sY ∅,sY (by rw[pJ];lia)]
def tLrev(K:PySem.W.Frag)(ta:TE):TE:=λσ H Q=>ta σ H λx a=>∃l b,x= .ref l/\SqL K a l b/\∀p,a p=none->Q (.ref p) (upd a p (.lst b.reverse))
theorem zOl{X:Cx}{a:Expr}{ta:TE}{p y k c:Pos}(hc:X.calm=true)(N:Gl X "list")(L:X.mg "list" =none)(t:Gl X "reversed")(w:X.mg "reversed" =none)(ha:PE X a ta)
  (E:A2 [a] X.env= [(false,eval a X.env)]:=by rfl) (g:A2 [.Call (.Name "reversed" y) [a] [] c] X.env= [(false,eval (.Call (.Name "reversed" y) [a] [] c) X.env)]:=by rfl):
  PE X (.Call (.Name "list" p) [.Call (.Name "reversed" y) [a] [] c] [] k) (tLrev X.K ta):=by
 intro d s σ H Q I h;refine rR (kI I N L wA ?_);refine pQ ?_ g O;rw[g];refine bC (Q:=?_) ?_;refine rR (kI I t w zLx ?_);refine pQ ?_ E O;rw[E];refine bC (thn (ha d s σ H _ I h) λv f z_=>?_);obtain⟨x,u,j,r1,l,ys,e,hq,q⟩:=z_;refine bU ?_;subst e;cases r1;refine xE (j.list hq) λi J pl M=>?_;let n:=pl.isList;refine call_reversed_list n (bU ?_);let aa:=J...*;let m:u f⁻¹=none:=j.hok.fresh (mC _);let ll:l<f⁻¹:=by obtain⟨o,ho,_⟩:=n;exact mW ho
 let D:Inv X d σ u {f with heap:=f.heap.push (revObj l ((i.toArray.size:Int)- 1))}:=j.kept (t':=f.toks) λb o e=>mO _ e;let fp:=j.fpOk (mC _) m;refine zVy (items:=i.toArray) (l:=l) (I.ok.hd hc) {_,nQ _ O,O,O} (n.at λo e=>mO _ e) (nV ll) (by rw[nD];lia) λh' tk A c' hk B hi=>?_;refine{.ref _,upd u _ (.lst ys.reverse),D.turnedNew (t':=tk) (fp:=[f⁻¹]) (λb r=>?_) (λb o r e=>hk b o (λz=>r (by rw[z];exact mH.mpr rfl)) e) (mC _) {by rw[pJ];exact M,A.toList,c', ?_,by simpa using B},O,q _ (D.hok.fresh (mC _))}
 ·rw[mH.mp r];exact fp
 ·rw[zUg hi];exact J.reverse
end L2
namespace L2
open PySem PySem.Spec PyProof.Rows PySem.W
section
variable{X:Cx}{scope:Scope}{own:C1}{F:E1}{elt tg iter:Expr}{ifs:C5}{pos:Pos}{wi:TI}{g:TG}{tt:TT}{te:TE}{E:XK}{φ:V0->Prop}
theorem zXq{i:Nat}{x:Str}{c f:Pos}(hN:X.N.Nodup)(y:X.N[i]? =Y x)(w:Loc X.env.scope x)(S:CompSc X scope own F)(hc:X.calm=true)(hi:PI X tg iter wi)
  (hg:∀C s₃ H₃ ex,PG (yY X own F scope C s₃ H₃ ex) tg g) (ht:∀C s₃ H₃ ex,PTs (yY X own F scope C s₃ H₃ ex) ifs tt) (he:∀C s₃ H₃ ex b W,uD (CXE φ X.prog X.w) ((yY X own F scope C s₃ H₃ ex).pend b W) (xUp E)->PE ((yY X own F scope C s₃ H₃ ex).pend b W) elt te) (l:Lvs φ X E)
  (k:S1 (.ListComp elt [{tg,iter,ifs,0}] scope pos) ↥(.Name x c) f.line X.env=pure true:=by rfl)
  (N:∀x,foldedSetIterable iter X.env x=pure x:=by intro _;rfl) (hf:X.fn x=true\/X.env.scope.names.lookup x=some .local:=by first | exact .inl O | exact .inr O | assumption):
  PS X (.Assign [.Name x c] (.ListComp elt [{tg,iter,ifs,0}] scope pos) f) (zOq (zFp own F wi g tt te) (qG i)):=by
 intro b s σ H D I h;rw[exec_Assign_Name_used x c _ _ k];refine mF (sF (mF ?_));refine mF ?_;refine pL (Q:=λ_ d=>SP X b D .next d) ?_ (λ_ d q=>nB (nB q)) λ_ _ z=>z;refine bG (use:=Y (assign (.Name x c) X.env)) O N (kA (I.freeCells S)) S.kind S.lc ?_;refine thn (hi b s σ H _ I h) λv s1 h1=>thn h1 λaa p z_=>?_;obtain⟨it,fp,tn,J,H2,e,j,T,n,f2,q2⟩:=z_;subst e;refine thn (zTv (Q:=λx H1=>qG i x σ H1 D.nx) (RR:=λC r d=>compPost (S5 X.prog X.w) X.A X.xe ↥(assign (.Name x c) X.env) (λ_ d=>SP X b D .next d) (.ref p⁻¹) C r d) S hc hg ht he l j T n f2 q2 (λC s4 H4 t c2 I4 q4 n4 L=>?_) (λC e d w=>zUw (Q:=λ_ d=>SP X b D .next d) (acc:=.ref p⁻¹) I.ok l w)) λab s3 h3=>thn h3 λA s4 h4=>sG h4 λr d ⟨ea,hr⟩=>?_
 ·obtain⟨m,hn⟩:=L
  refine cZ (zDg I4 hN y w (v:=.ref p⁻¹) O (λs5 B z_=>?_) hf);obtain⟨a,M,ha⟩:=z_;let aC:a≠C:=by
   rcases ha with z | z
   ·rw[z];exact nV (nR j.lt t)
   ·obtain⟨v,u⟩:=j.cell _ _ z
    exact nV (nR u.lt t)
  exact{m,hn.sameBut M (Ne.symm aC),λh' o=>{_,H4,zBk j t B n4 o,q4}}
 ·rw[ea];exact hr
end
end L2
namespace L2
open PySem PySem.Spec PyProof.Rows
theorem pX{X:Cx}{a b:Expr}{ta tb:TE}{c:Pos}{r:R2}(d:IxR X r)(e:PE X a ta)(g:PE X b tb)(f:zRd b:=by intro _ _;rfl):PE X (.Subscript a b c) (tOp r ta tb):=pe_ix d e g f
theorem pE{X:Cx}{a b:Expr}{ta tb:TE}{d:Pos}{c:CmpOp}{r:R2}(f:OpR X (A3 c) r)(g:PE X a ta)(i:PE X b tb)(h:c≠ .In:=by decide)(e:c≠ .NotIn:=by decide):PE X (.Compare a [c] [b] d) (tOp r ta tb):=zJl f g i (zVh _ h e)
theorem pT{X:Cx}{a b:Expr}{ta tb:TE}{d:Pos}{c:CmpOp}{r:R2}(f:OpR X (A3 c) r)(g:PE X a ta)(i:PE X b tb)(h:c≠ .In:=by decide)(e:c≠ .NotIn:=by decide):PT X (.Compare a [c] [b] d) (zLr (tOp r ta tb)):=yAz f g i (zVh _ h e)
end L2
namespace L2
open PySem PySem.Spec PyProof.Rows
theorem pS{X:Cx}{b a:Pos}{x:Str}{e:Expr}{c:TE}(i:Nat)(k:X.N.Nodup)(f:PE X e c)(j:X.N[i]? =Y x:=by rfl)(d:Loc X.env.scope x:=by exact nZ O)(g:S1 e ↥(.Name x a) b.line X.env=pure false:=by rfl)(h:X.fn x=true\/X.env.scope.names.lookup x=some .local:=by first | exact .inl O | exact .inr O | assumption):PS X (.Assign [.Name x a] e b) (zOq c (qG i)):=zDy k j d f g h
theorem pD{X:Cx}{k j:Nat}{x:Str}{ps:C1}{sp:Sp}{e:Expr}{a:C5}{t:TA}{p b:Pos}(D:Dn X.prog X.w X.K X.mg X.base k x ps sp)(g:Room j X.A)(h:PA X (e::a) t)(f:k<=j:=by first | decide | lia)(l:Gl X x:=by rfl)(c:(x==("__debug__" :Str))=false:=by decide)
  (i:A2 (e::a) X.env=(false,eval e X.env)::A2 a X.env:=by rfl) (d:(S2 b (A2 a X.env)).any (·.1)=false:=by rfl):PE X (.Call (.Name x p) (e::a) [] b) (kY sp [] E0 t):=pe_cd D g f l h c i d
theorem pI{X:Cx}{a x:Str}{T:String}{e:Expr}{g:TE}{p c b:Pos}(r:X.mg a=none)(s:A1 a=Y (.builtin "isinstance"))(i:X.mg x=none)(q:A1 x=Y (.type T))(m:PE X e g)(l:T∈tyL:=by decide)(k:Gl X a:=by rfl)(g2:Gl X x:=by rfl)(d:a≠ "__name__":=by decide)(f:(a==("__debug__" :Str))=false:=by decide)(o:x≠ "__name__":=by decide)(j:(x==("__debug__" :Str))=false:=by decide)
  (h:A2 [e, .Name x c] X.env=(false,eval e X.env)::A2 [.Name x c] X.env:=by rfl) (n:(S2 b (A2 [.Name x c] X.env)).any (·.1)=false:=by rfl):PE X (.Call (.Name a p) [e, .Name x c] [] b) (tCB (λxs H Q=>∃x t,xs= [x, .ty T]/\tyS H x=Y t/\Q (.bl (zX t T)) H) (vG g (vG (tC (.ty T)) zBu))):=
 zO (zFy l) k r s (zA m (zA (vL (v:=.ty T) g2 i q O o j) zB) h) d f h n
theorem len1{α:Type}{us:List α}(h:us...*=1):∃a,us= [a]:=
 match us,h with|[a],_=>⟨a,O⟩
theorem len2{α:Type}{us:List α}(h:us...*=2):∃a b,us= [a,b]:=
 match us,h with|[a,b],_=>⟨a,b,O⟩
theorem len3{α:Type}{us:List α}(h:us...*=3):∃a b c,us= [a,b,c]:=
 match us,h with|[a,b,c],_=>⟨a,b,c,O⟩
theorem len4{α:Type}{us:List α}(h:us...*=4):∃a b c d,us= [a,b,c,d]:=
 match us,h with|[a,b,c,d],_=>⟨a,b,c,d,O⟩
end L2
section
open PySem L2
local macro_rules | `(tactic| walk_at "b") => `(tactic| (intro _ F; refine F.binds ?_; intro _ _ _ _ _ _ us hl; first | (obtain ⟨_,e⟩ := len1 hl; subst e; rfl) | (obtain ⟨_,_,e⟩ := len2 hl; subst e; rfl) | (obtain ⟨_,_,_,e⟩ := len3 hl; subst e; rfl) | (obtain ⟨_,_,_,_,e⟩ := len4 hl; subst e; rfl) | (cases List.eq_nil_of_length_eq_zero hl; rfl)))
local macro_rules | `(tactic| walk_at "ln") => `(tactic| (intro vs H Q E h; repeat (first | (obtain ⟨e,_⟩ := h; subst e; rfl) | (obtain ⟨_,h⟩ := h))))
local macro_rules|`(tactic|walk_at "rd3")=>let a:Array Lean.Term:=(("zXi zNa yBh yFb tIsT zUl zGt yGk zWe zWc zVm yCv zZg zCs zXu zFp vV zWq zOq qG zLo yDn yEn zWj tOp tUn qH tC kY vG zBu zLr tB yFk tOr yFg zRv yFw yDc tIf tCB tBM zFp zBw zYx zJc tSl zKl yDv zWi zWl yFh zRz zPd zOy rI0 rI rU rEq rNe zWb yFv zYs yFo yEo CMul yGo yAq List.getElem?_cons_zero List.getElem?_cons_succ List.set_cons_zero List.set_cons_succ List.map_cons List.map_nil List.length_cons List.length_nil Nat.reduceAdd Option.join_some Option.join_none".splitOn " ").map fun n=>⟨Lean.mkIdent n.toName⟩).toArray;`(tactic|first|(dsimp only [$[$a:term],*];try walk_at "rd3s")|walk_at "rd3s")
local macro_rules|`(tactic|walk_at "rd3s")=>let a:Array Lean.Term:=(("zXi zNa yBh yFb tIsT zUl zGt yGk zWe zWc zVm yCv zZg zCs zXu zFp yEi nox_K zYd vV zWq zOq qG zLo yDn yEn zWj tOp tUn qH tC kY vG zBu zLr tB yFk tOr yFg zRv yFw yDc tIf tCB tBM zFp zBw zYx zJc tSl zKl yDv zWi zWl yFh zZs zRz zPd zOy rI0 rI rU rEq rNe zWb yFv zYs yFo yEo CMul yGo yAq List.append_nil List.getElem?_cons_zero List.getElem?_cons_succ List.set_cons_zero List.set_cons_succ List.map_cons List.map_nil List.length_cons List.length_nil sizeLine_eq Nat.reduceAdd Nat.reduceLeDiff Option.join_some Option.join_none Option.some.injEq V.int.injEq V.str.injEq V.bl.injEq V.ref.injEq V.ty.injEq List.cons.injEq and_true true_and and_self exists_eq_left' exists_eq_left exists_and_left exists_and_right decide_eq_true_eq Bool.not_eq_eq_eq_not Bool.not_true Bool.not_false decide_eq_false_iff_not Int.reduceLT Int.reduceLE Int.reduceNeg Int.reducePow Int.reduceAdd Int.reduceSub Int.reduceMul Int.reduceToNat zUz Nat.reduceLT Nat.reducePow or_true true_or if_true if_false Bool.false_eq_true ite_true ite_false reduceCtorEq".splitOn " ").map fun n=>⟨Lean.mkIdent n.toName⟩).toArray;`(tactic|simp only [$[$a:term],*])
local macro_rules | `(tactic| walk_at "sc") => `(tactic| exact ⟨rfl,rfl,rfl,by decide +kernel,rfl,by decide +kernel,by decide +kernel⟩)
local macro_rules | `(tactic| walk_at "st") => `(tactic| simp only [jI,List.map_cons,List.map_nil,List.length_cons,List.length_nil,Nat.reduceAdd,Nat.reduceSub,List.replicate_succ,List.replicate_zero,List.cons_append,List.nil_append])
local macro_rules | `(tactic| walk_at "wu") => `(tactic| with_unfolding_all rfl)
namespace K48
open PySem L2
section
variable{P:V3}{w:V4}{K:A6}{mg:C8}{base:V5}{x qual:Str}{st:V6}{f:V1}{fd:V7}{N ps:C1}{k:Nat}{sp:Sp}
theorem _root_.L2.Fun.okn(F:Fun K x qual st f fd)
  (j:∀(cdv:V0)(A:Around)(outer:List S7)(s:V2)(H:Hp)(vs:B3)(Q:VK)(E:XK),N.Nodup->Room k (A.deeper (PyProof.Rows.envOfC qual (zY st) s⁻¹ f cdv))->sp vs H Q E->
   ∃t,PSs (zCj CX0 P w K mg base N qual (zY st) f cdv A outer s H E).nox (xJ st) t/\t {nx:=λ_ H'=>Q .non H',rt:=Q} (jI N vs) H) (S:wF N ps (zY st):=by walk_at "sc") (len:∀vs H Q E,sp vs H Q E->vs...*=ps...*:=by walk_at "ln"):FnOk P w K mg base CX0 (k+1) f fd ps sp:=F.ok S len λa b c d e g h i=>j a b c d e g h i S.nd
theorem _root_.L2.Fun.okxn{φ:V0->Prop}(F:Fun K x qual st f fd)
  (j:∀(cdv:V0)(A:Around)(outer:List S7)(s:V2)(H:Hp)(vs:B3)(Q:VK)(E:XK),N.Nodup->Room k (A.deeper (PyProof.Rows.envOfC qual (zY st) s⁻¹ f cdv))->sp vs H Q E->
   ∃t,PSs (zCj (CXE φ P w) P w K mg base N qual (zY st) f cdv A outer s H E) (xJ st) t/\t {nx:=λ_ H'=>Q .non H',rt:=Q} (jI N vs) H) (S:wF N ps (zY st):=by walk_at "sc") (len:∀vs H Q E,sp vs H Q E->vs...*=ps...*:=by walk_at "ln"):FnOk P w K mg base (CXE φ P w) (k+1) f fd ps sp:=F.okx S len λa b c d e g h i=>j a b c d e g h i S.nd
end
seal L2.PSs L2.PS L2.PE L2.PT L2.PW L2.PA L2.PI L2.PG L2.PGs L2.PPs L2.PTs
def top(i:Nat):V6:=PySem.Challenge.pw_cabinet_k48_whole_there_and_back.main.body.getD i (.Pass {0,0,0,0})
abbrev yCn:V6:=top 57
abbrev sNum:V6:=top 61
noncomputable def qC(a:List Int)(k:Int):Int:=
 let m:=if a= [] then k*7919 else(k*7919+k / a...**104729+a.getD (k % a...*).toNat 0*48271)% 1000003
 (m*m / 11+13*m)% 1000003
theorem jG(a:List Int)(k:Int):0<=qC a k:=sT _ ∎
theorem jE(a:List Int)(k:Int):qC a k<1000003:=sP _ ∎
def gB(K:A6):Sp:=λd H Q _=>∃(a:V1)(b:List Int)(k:Int),d= [.ref a, .int k]/\SqL K H a (b.map V.int)/\b...*<=63/\0<=k/\k<1000000/\∀c,Same H c->Q (.int (qC b k)) c
theorem uM{K:A6}{H:Hp}{Q:VK}{E:XK}{a:V1}{b:List Int}{k:Int}(f:SqL K H a (b.map V.int))(c:b...*<=63)(e:0<=k)(d:k<1000000)(q:∀H',Same H H'->Q (.int (qC b k)) H'):
  gB K [.ref a, .int k] H Q E:=⟨a,b,k,O,f,c,e,d,q⟩
section
variable{P:V3}{w:V4}{K:A6}{mg:C8}{base:V5}{f:V1}{fd:V7}
theorem yBt(F:Fun K "_law_cell" "_law_cell" yCn f fd)(B:Bl mg):FnOk P w K mg base CX0 1 f fd ["_law_script","_law_k"] (gB K):=by
 refine F.okn (N:=["_law_script","_law_k","_law_more"]) λx A t s H M Q E l D h=>?_;ext yB h a b k n y L;ext yZ L I h0 h1 q;subst n;let o:=D.units0;refine{_,(zC (pS 2 l (zI jM (pv 1) zE))
  (zC (zT (pT (yBw o) (pv 0) (yM zB)) (zC (pS 2 l (zI xK (pv 2) (zI jM (zI yJ (pv 1) (zO zZ O B.len yR (zA (pv 0) zB))) zE)))
  (zG (pS 2 l (zI yL (zI xK (pv 2) (zI jM (pX zU (pv 0) (zI yL (pv 1) (zO zZ O B.len yR (zA (pv 0) zB)))) zE)) zE)))) zL)
  (zG (zJ (zI yL (zI xK (zI yJ (zI jM (pv 2) (pv 2)) zE) (zI jM zE (pv 2))) zE))))), ?_}
 walk_at "st";lk;intro p r;let c:=(zF r (.lst [])).seq y;refine yDq c (SqL.of zD) (zTl b) O {_,O, ?_};rw[zVz]
 by_cases i:b= []
 ·subst i
  refine zHh {.inl ∅, ?_};exact q _ (zF r _)
 ·let u:0<b...*:=List.length_pos_iff.mpr i
  let v:(b.map V.int).isEmpty=false:=by cases b with | nil=>exact absurd O i | cons _ _=>rfl
  rw[mN O,v];let g:(b.map V.int)...*=b...*:=mJ _;let j:0<=k % (b...*:Int):=sT _ ∅;let m:k % (b...*:Int)<b...*:=sP _ ∅;refine zHo {b.map V.int,c,by rw[g];lia,b.map V.int,c,by rw[g];lia, ?_};rw[g];refine yH c (zXx (d:=.int 0) j (by rw[g];exact m)) {b.getD (k % b...*).toNat 0, ?_, .inl ?_, ?_}
  ·simp[List.getD,nG]
  ·generalize (k*7919+k / b...**104729+b.getD (k % b...*).toNat 0*48271)=z
   lia
  ·let e:qC b k=_:=rfl
   let J:qC b k=(((k*7919+k / b...**104729+b.getD (k % b...*).toNat 0*48271)% 1000003*((k*7919+k / b...**104729+b.getD (k % b...*).toNat 0*48271)% 1000003)/ 11+13*((k*7919+k / b...**104729+b.getD (k % b...*).toNat 0*48271)% 1000003))% 1000003):=by
    unfold qC;rw[mK i]
   rw[<-J];exact q _ (zF r _)
def zPq:Sp:=λb H Q _=>∃(m:Int),b= [.int m]/\0<=m/\m<2000000/\∀(i:Int),-(10 ^ 12)<=i->i<=10 ^ 12->∀a,Same H a->Q (.int i) a
theorem yFq(F:Fun K "_law_number_by" "_law_number_by" sNum f fd):FnOk P w K mg base CX0 1 f fd ["_law_more"] zPq:=by
 refine F.okn (N:=["_law_more"]) λe A a s H j Q E n k h=>?_;ext vN h m b l o q;subst b;refine{_,(zC (zT (pT xD (zI yL (pv 0) zE) zE) (zG (zJ (zI xY (zI yL (zI yJ (pv 0) zE) zE) zE))) zL)
  (zC (zT (pT xD (zI yL (pv 0) zE) zE) (zG (zJ (zI xY (zI yL (zI zAj (pv 0) zE) (zI xK (zI jM zE (zI zAj zE zE)) zE)) (zI zAj zE zE)))) zL)
  (zG (zJ (pX zU (yM (zA (zI zAj zE zE) (zA (xW xH (zI zAj zE zE)) (zA (zI xY (zI zAj zE zE) zE) (zA zE (zA zE (zA (xW xH zE) (zA (zI zAj zE zE) (zA zE zB))))))))) (zI yL (zI yJ (pv 0) zE) zE)))))), ?_}
 walk_at "st";lk;split
 ·exact q _ ∅ ∅ _ (Same.refl H)
 ·split
  ·refine{∅,q _ ?_ ?_ _ (Same.refl H)}
   ·let:=sT (m ^ 4) (show(2000000000001:Int)≠0 by decide)
    lia
   ·let:=sP (m ^ 4) (show(0:Int)<2000000000001 by decide)
    lia
  ·intro p d
   obtain⟨v,g,c⟩:=zAi (xs:=[V.int 1000000000000,V.int (-1000000000000),V.int 999999999999,V.int 0,V.int 1,V.int (-1),V.int 100000000000,V.int 999]) (i:=m / 3 % 8) ∅ (by simp only[mX,rF];lia);refine yH (SqL.of zD) g ?_;simp only[mG,pO,tP] at c;rcases c with rfl | rfl | rfl | rfl | rfl | rfl | rfl | rfl<;>exact q _ ∎ ∎ _ (zF d _)
abbrev yCo:V6:=top 58
def zGw:Sp:=λb H Q _=>∃(m:Int),b= [.int m]/\0<=m/\m<2000000/\∀(x:List Nat),xA x=true->∀a,Same H a->Q (.str (tx x)) a
theorem yAb(F:Fun K "_law_name_by" "_law_name_by" yCo f fd)(B:Bl mg):FnOk P w K mg base CX0 1 f fd ["_law_more"] zGw:=by
 refine F.okn (N:=["_law_more","_law_letters","_law_size","_law_at","_law_word","_law_by","_law_signs_here"]) λaa A L s H vs Q E o hr h=>?_;ext vN h m M h0 h1 q;subst M;refine{_,(zC (zDy (i:=1) o O (bY O) zP)
  (zC (pS 2 o (pX zU (yM (zA zE (zA (zI xK zE (zI yL (zI yJ (pv 0) zE) zE)) (zA (zI xK zE (zI yL (zI yJ (pv 0) zE) zE)) zB)))) (zI yL (pv 0) zE)))
  (zC (zT (pT xD (zI yL (zI yJ (pv 0) zE) zE) zE) (zC (pS 3 o (zI yL (zI yJ (pv 0) zE) (pv 2)))
  (zC (pS 4 o (zI qQ (zI qQ (zI uH zP (pv 3)) (pX zDs (pv 1) (zI yL (zI yJ (pv 0) zE) zE))) (zI uH zP (zI xY (zI xY (pv 2) (pv 3)) zE))))
  (zG (zJ (pv 4))))) zL)
  (zC (zDy (i:=5) o O (bY O) (zI xK zE (zI yL (zI yJ (pv 0) zE) zE)))
  (zC (uE (i:=6) o O (nZ O) (own:=["_law_j"]) (F:=[("_law_letters",1),("_law_more",0),("_law_by",5)]) {O,tb_g%,tb_g%,tb_g%,(.cons O O O (.cons O O O (.cons O O O .nil)))} O (wE O B.range (zA (zI xY (pv 2) zE) zB)) (λ_ _ _ _=>yF (i:=0) (by show(wM ["_law_j"] [("_law_letters",1),("_law_more",0),("_law_by",5)]).Nodup;decide+kernel) O (nZ O)) (λ_ _ _ _=>xT) (λ_ _ _ _=>(pX zDs (pv 1) (zI yL (zI xK (zI yJ (pv 2) zE) (zI jM (pv 0) (pv 3))) zE))))
  (zG (zJ (zI qQ (pX zDs (pv 1) (zI yL (zI yJ (pv 0) zE) zE)) (qA PySem.F.plainAttrs_str PySem.F.slot_str_join PySem.F.type_str_join zQa zP (zA (pv 6) zB)))))))))), ?_}
 walk_at "st";lk;intro p hp;obtain⟨v,hv,hm⟩:=zAi (xs:=[V.int 1,V.int (1+m / 3 % 4),V.int (1+m / 3 % 12)]) (i:=m % 3) ∅ (by simp only[mX,rF];lia);obtain⟨n,rfl,n1,ab⟩:∃n:Int,v= .int n/\1<=n/\n<=12:=by
  simp only[mG,pO,tP] at hm;rcases hm with rfl | rfl | rfl<;>exact{_,O,∅,∅}
 refine yH (SqL.of zD) hv ?_;simp only[ts_a,zFa,zZl];split
 ·let a0:=sT (m / 72) (show n≠0 by lia)
  let a1:=sP (m / 72) (show 0<n by lia);refine oEA (zWf (i:=m / 864 % 26) ∅ ∅) λc u a=>?_;refine yGw n O ∅ ∎ ∅ (nA ∅ (zEa ∎ (by rw[zJd];exact u) {_,O, ?_,n,O,by decide,∅,∅, ?_, ?_}))
  ·rw[gE,gE];simp only[rY,mY];lia
  ·rw[zGu,gE,gE];simp only[mL,rY,mY];lia
  ·let e:tx (List.replicate (m / 72 % n).toNat 97)++tx [c]++tx (List.replicate (n - m / 72 % n - 1).toNat 97)=tx (List.replicate (m / 72 % n).toNat 97++ [c]++List.replicate (n - m / 72 % n - 1).toNat 97):=by rw[zGu,zGu]
   rw[e];refine q _ (zIw ?_ ?_ ?_) _ (zF hp _)
   ·simp only[mL,rY,mY];lia
   ·cases e:(m / 72 % n).toNat with|zero=>exact⟨c,_,O,a⟩|succ k=>exact{97,_,O,zPl}
   ·intro d l
    simp only[mZ,List.mem_replicate,mH] at l;rcases l with(⟨_,rfl⟩| rfl)|⟨_,rfl⟩
    ·exact zCp zPl
    ·exact zCp a
    ·exact zCp zPl
 ·refine zGn n O ∅ ∅ (uX (λi J x=>Same (upd H p (.lst [V.int 1,V.int (1+m / 3 % 4),V.int (1+m / 3 % 12)])) x/\∃b:List Nat,J=(b.map λc=>tx [c]).map V.str/\b...*=i/\∀c∈b,c∈letL++zGi) (by rw[mV];lia) {Same.refl _,[],O,O,λ_ h=>nomatch h} ?_ ?_)
  ·rintro i J x hi _ ⟨y,b,rfl,D,g⟩
   lk;refine oEA (yDu (i:=(m / 7+(0+(i:Int))*(1+m / 11 % 35))% 36) ∅ ∅) λc u a=>?_;refine{.inl ∅,zEa ∎ (by rw[zJd];exact u) {y,b++ [c],by simp,by simp[D], ?_}};intro d l;rcases mZ.mp l with z | z
   ·exact g d z
   ·rw[mH.mp z];exact a
  ·rintro J x D ⟨y,b,rfl,t,g⟩ p' I
   refine oEA (zWf (i:=m / 72 % 26) ∅ ∅) λc u a=>?_;let j:((b.map λc=>tx [c]).map ts).flatten=b:=by
    clear t D g
    induction b with|nil=>rfl|cons d r ih=>simp only[nO,bV,ih,wG];rfl
   refine zEa ∎ (by rw[zJd];exact u) {O,p',b.map λc=>tx [c],O,O,SqL.of zD,by rw[j];lia,_,O,_,O, ?_, ?_}
   ·rw[j,gE,gE,mY];lia
   ·rw[j,zGu]
    refine q _ (zIw ?_ ⟨c,b,O,a⟩ ?_) _ ((zF hp _).trans (y.trans (zF I _)))
    ·show(c::b)...*<=12
     rw[mX];lia
    ·intro d l
     rcases mG.mp l with z | z
     ·rw[z];exact zCp a
     ·exact g d z
abbrev zXa:V6:=top 59
abbrev yCi:V6:=top 60
def zQb:Sp:=λa H Q _=>a= []/\Q (.str (tx zCx)) H
theorem zVu(F:Fun K "_law_signs" "_law_signs" zXa f fd):FnOk P w K mg base CX0 1 f fd [] zQb:=by
 refine F.okn (N:=["_law_some"]) λb A a s H d Q E c e h=>?_;obtain⟨rfl,q⟩:=h;refine{_,(zC (pS 0 c zP)
  (zG (zJ (zI qQ (pv 0) zP)))), ?_}
 walk_at "st";lk;refine{by decide, ?_};rw[yEc];exact q
def zKo:Sp:=λb H Q _=>∃(m:Int),b= [.int m]/\0<=m/\m<2000000/\∀(x:List Nat),zDq x=true->∀a,Same H a->Q (.str (tx x)) a
theorem yCb(F:Fun K "_law_text_by" "_law_text_by" yCi f fd)(B:Bl mg)(a:Dn P w K mg base 1 "_law_signs" [] zQb):FnOk P w K mg base CX0 2 f fd ["_law_more"] zKo:=by
 refine F.okn (N:=["_law_more","_law_signs_here","_law_size","_law_half","_law_sign","_law_by"]) λab A x s H vs Q E j hr h=>?_;ext vN h m y h0 h1 q;subst y;refine{_,(zC (zDy (i:=1) j O (bY O) (yFy a hr ∅ O))
  (zC (pS 2 j (pX zU (yM (zA (zI yL (zI yJ (pv 0) zE) zE) (zA (zI yL (zI yJ (pv 0) zE) zE) (zA (zI yL (zI yJ (pv 0) zE) zE) zB)))) (zI yL (pv 0) zE)))
  (zC (zT (pT xD (zI yL (zI yJ (pv 0) zE) zE) zE) (zC (pS 3 j (zI yJ (pv 2) zE))
  (zC (pS 4 j (pX zDs (pv 1) (zI yL (zI yJ (pv 0) zE) zE)))
  (zG (zJ (zI qQ (zI uH zP (pv 3)) (zI uH (pv 4) (zI xY (pv 2) (pv 3)))))))) zL)
  (zC (zDy (i:=5) j O (bY O) (zI xK zE (zI yL (zI yJ (pv 0) zE) zE)))
  (zG (zJ (qA PySem.F.plainAttrs_str PySem.F.slot_str_join PySem.F.type_str_join zQa zP (zA (vI (own:=["_law_j"]) (F:=[("_law_signs_here",1),("_law_more",0),("_law_by",5)]) {O,tb_g%,tb_g%,tb_g%,(.cons O O O (.cons O O O (.cons O O O .nil)))} O (wE O B.range (zA (pv 2) zB)) (λ_ _ _ _=>yF (i:=0) (by show(wM ["_law_j"] [("_law_signs_here",1),("_law_more",0),("_law_by",5)]).Nodup;decide+kernel) O (nZ O)) (λ_ _ _ _=>xT) (λ_ _ _ _=>(pX zDs (pv 1) (zI yL (zI xK (zI yJ (pv 2) zE) (zI jM (pv 0) (pv 3))) zE)))) zB)))))))), ?_}
 walk_at "st";lk;refine{O,λp L=>?_};obtain⟨v,hv,D⟩:=zAi (xs:=[V.int (m / 5 % 4),V.int (m / 5 % 9),V.int (m / 5 % 31)]) (i:=m % 3) ∅ (by simp only[mX,rF];lia);obtain⟨n,rfl,n0,aa⟩:∃n:Int,v= .int n/\0<=n/\n<=30:=by
  simp only[mG,pO,tP] at D;rcases D with rfl | rfl | rfl<;>exact{_,O,∅,∅}
 refine yH (SqL.of zD) hv ?_;simp only[ts_q,zFa,zZl];split
 ·refine oEA (zWz (i:=m / 465 % 94) ∅ ∅) λc r g=>?_
  refine nEA n O (zEa ∎ r {by decide,∅,∅,n,O,_,O,(show(1:Nat)<=1000 by decide),∅,∅, ?_, ?_})
  ·rw[wG,zFa,gE,gE];simp only[rY];lia
  ·rw[wG,zFa,zGu]
   refine q _ (zIm ?_ ?_) _ (zF L _)
   ·simp only[mL,rY];lia
   ·intro d k
    simp only[mZ,List.mem_replicate] at k;rcases k with⟨_,rfl⟩|⟨_,rfl⟩
    ·exact yGy
    ·exact g
 ·refine zKp O n O ∅ ∅ (uX (λi u l=>Same (upd H p (.lst [V.int (m / 5 % 4),V.int (m / 5 % 9),V.int (m / 5 % 31)])) l/\∃e:List Nat,u=(e.map λc=>tx [c]).map V.str/\e...*=i/\∀c∈e,c∈zCx) (by rw[mV];lia) {Same.refl _,[],O,O,λ_ h=>nomatch h} ?_ ?_)
  ·rintro i u l hi _ ⟨o,e,rfl,J,b⟩
   lk;refine oEA (zWz (i:=(m / 7+(0+(i:Int))*(1+m / 13 % 93))% 94) ∅ ∅) λc r g=>?_;refine{.inl ∅,zEa ∎ r {o,e++ [c],by simp,by simp[J], ?_}};intro d k;rcases mZ.mp k with z | z
   ·exact b d z
   ·rw[mH.mp z];exact g
  ·rintro u l J ⟨o,e,rfl,I,b⟩ M t
   refine{M,e.map λc=>tx [c],O,O,SqL.of zD,by rw[zMl];lia, ?_};rw[zMl];exact q _ (zIm ∅ b) _ ((zF L _).trans (o.trans (zF t _)))
abbrev zHe:V6:=top 62
def zAy(K:A6)(d:Nat):Sp:=λe H Q _=>∃(a:V1)(c:List Int)(k:Int),e= [.ref a, .int k, .int d]/\SqL K H a (c.map V.int)/\c...*<=63/\0<=k/\(k+2)*5 ^ d<=1000000/\
 ∀v b t,Same H b->Rep b v t->Nice d t->Q v b
theorem scThing:wF ["_law_script","_law_k","_law_deep","_law_more","_law_kind_here","_law_some","_law_result","_law_j"] ["_law_script","_law_k","_law_deep"] (zY zHe):=by walk_at "sc"
def DInv(g:Hp)(d:V1)(ts:B0)(i:Nat)(e:Hp):Prop:=∃(b:D7)(a:C6)(c:B0),e d=Y (.dK b)/\b.map (·.1)=a.map nK/\Reps g (b.map (·.2)) c/\a.Nodup/\(∀n∈a,xA n=true)/\(∀u∈c,u∈ts)/\a...*<=i
theorem yFi(e:Nat):(1:Int)<=5 ^ e:=by
 induction e with|zero=>decide|succ n a=>rw[Int.pow_succ];lia
theorem zTs(F:Fun K "_law_thing_by" "_law_thing_by" zHe f fd)(B:Bl mg)(e:Dn P w K mg base 1 "_law_cell" ["_law_script","_law_k"] (gB K))(b:Dn P w K mg base 1 "_law_number_by" ["_law_more"] zPq)
  (d:Dn P w K mg base 2 "_law_text_by" ["_law_more"] zKo):FnOk P w K mg base CX0 3 f fd ["_law_script","_law_k","_law_deep"] (zAy K 0):=by
 refine F.ok scThing (by walk_at "ln") λc A o s H vs Q E n h=>?_;ext yB h a l k m z z_;ext yZ z_ r I h1 q;subst m;let u:=scThing.nd;refine{_,(zC (pS 3 u (pD e n (zA (pv 0) (zA (pv 1) zB))))
  (zC (pS 4 u (zI yL (pv 3) (pX zU (yM (zA zE (zA zE zB))) (yW wD O B.int qI (zA (pE uP (pv 2) zE) zB)))))
  (zC (zT (pT xD (pv 4) zE) (zG (zJ (pX zU (yM (zA zAc (zA vQ (zA vQ zB)))) (zI yL (zI yJ (pv 3) zE) zE)))) zL)
  (zC (zT (pT kS (pv 4) zE) (zG (zJ (pD b n (zA (zI yJ (pv 3) zE) zB)))) zL)
  (zC (zT (pT kS (pv 4) zE) (zG (zJ (pD d n (zA (zI yJ (pv 3) zE) zB)))) zL)
  zEb))))), ?_}
 walk_at "st";lk;refine uM z r I ∅ λH1 L p J=>yH (SqL.of zD) (v:=.int 5) O {_,O,5,O,by decide, ?_};let c0:=jG l k;let c1:=jE l k;let j:=L.trans (zF J (.lst [V.int 5,V.int 9]));split
 ·intro p2 g
  refine nEA _ O ?_;obtain⟨v,D,t⟩:=zAi (xs:=[V.non,V.bl true,V.bl false]) (i:=qC l k / 9 % 3) ∅ (by simp only[mX,rF];lia);refine yH (SqL.of zD) D ?_;simp only[mG,pO,tP] at t;rcases t with rfl | rfl | rfl
  ·exact q _ _ .non (j.trans (zF g _)) O trivial
  ·exact q _ _ (.bl true) (j.trans (zF g _)) O trivial
  ·exact q _ _ (.bl false) (j.trans (zF g _)) O trivial
 ·split
  ·exact{_,O,_,O,∅,∅,λi i0 y M g2=>q _ _ (.int i) (j.trans g2) O ⟨i0,y⟩}
  ·rw[mN ∅]
   exact{_,O,_,O,∅,∅,λx N M g2=>q _ _ (.str x) (j.trans g2) O N}
theorem zSp{e:Nat}(F:Fun K "_law_thing_by" "_law_thing_by" zHe f fd)(B:Bl mg)(g:Dn P w K mg base 1 "_law_cell" ["_law_script","_law_k"] (gB K))(d:Dn P w K mg base 1 "_law_number_by" ["_law_more"] zPq)
  (l:Dn P w K mg base 2 "_law_text_by" ["_law_more"] zKo) (m:Dn P w K mg base 1 "_law_name_by" ["_law_more"] zGw)
  (j:Dn P w K mg base (3+e) "_law_thing_by" ["_law_script","_law_k","_law_deep"] (zAy K e)):FnOk P w K mg base CX0 (3+e+1) f fd ["_law_script","_law_k","_law_deep"] (zAy K (e+1)):=by
 refine F.ok scThing (by walk_at "ln") λc A o s H vs Q E hr h=>?_;ext yB h a I k am hS z_;ext yZ z_ aa h0 h1 q;subst am;let nd:=scThing.nd;let hu:=vE hr;refine{_,(zC (pS 3 nd (pD g hr (zA (pv 0) (zA (pv 1) zB))))
  (zC (pS 4 nd (zI yL (pv 3) (pX zU (yM (zA zE (zA zE zB))) (yW wD O B.int qI (zA (pE uP (pv 2) zE) zB)))))
  (zC (zT (pT xD (pv 4) zE) (zG (zJ (pX zU (yM (zA zAc (zA vQ (zA vQ zB)))) (zI yL (zI yJ (pv 3) zE) zE)))) zL)
  (zC (zT (pT kS (pv 4) zE) (zG (zJ (pD d hr (zA (zI yJ (pv 3) zE) zB)))) zL)
  (zC (zT (pT kS (pv 4) zE) (zG (zJ (pD l hr (zA (zI yJ (pv 3) zE) zB)))) zL)
  (zC (uE (i:=5) nd O (nZ O) (own:=["_law_j"]) (F:=[("_law_script",0),("_law_k",1),("_law_deep",2)]) {O,tb_g%,tb_g%,tb_g%,(.cons O O O (.cons O O O (.cons O O O .nil)))} O (wE O B.range (zA (zI yL (zI yJ (pv 3) zE) zE) zB)) (λ_ _ _ _=>yF (i:=0) (by show(wM ["_law_j"] [("_law_script",0),("_law_k",1),("_law_deep",2)]).Nodup;decide+kernel) O (nZ O)) (λ_ _ _ _=>xT) (λ_ _ _ _=>(pD j hr (zA (pv 1) (zA (zI xK (zI xK (zI jM (pv 2) zE) zE) (pv 0)) (zA (zI xY (pv 3) zE) zB))))))
  (zC (zT (pT kS (pv 4) zE) (zG (zJ (pv 5))) zL)
  (zC (pS 6 nd zMr)
  (zC (wW PassesOwn.never O (wE O B.range (zA (zO zZ O B.len yR (zA (pv 5) zB)) zB)) (yF (i:=7) nd O (nZ O)) (zG (zEu hu (pv 6) (pD m hr (zA (zI xK (zI yJ (pD g hr (zA (pv 0) (zA (zI xK (zI xK (zI jM (pv 1) zE) zE) (pv 7)) zB))) zE) (pv 7)) zB)) (pX zU (pv 5) (pv 7)) O)))
  (zG (zJ (pv 6)))))))))))), ?_}
 walk_at "st";lk;let af:(1:Int)<=5 ^ e:=yFi e;let ac:(5:Int)^ (e+1)=5 ^ e*5:=Int.pow_succ ..;let h2:(k+2)*5*5 ^ e<=1000000:=by rw[Int.mul_assoc,Int.mul_comm 5 (5 ^ e),<-ac];exact h1
 let h3:(k+2)*5<=1000000:=by
  let:(k+2)*5*1<=(k+2)*5*5 ^ e:=Int.mul_le_mul_of_nonneg_left af ∅
  lia
 refine uM hS aa h0 ∅ λH1 g1 p hp=>yH (SqL.of zD) (v:=.int 9) ?_ {_,O,9,O,by decide, ?_}
 ·rw[mN ∅];rfl
 let c0:=jG I k;let c1:=jE I k;let M:=g1.trans (zF hp (.lst [V.int 5,V.int 9]));split
 ·intro p2 y
  refine nEA _ O ?_;obtain⟨v,hv,hm⟩:=zAi (xs:=[V.non,V.bl true,V.bl false]) (i:=qC I k / 9 % 3) ∅ (by simp only[mX,rF];lia);refine yH (SqL.of zD) hv ?_;simp only[mG,pO,tP] at hm;rcases hm with rfl | rfl | rfl
  ·exact q _ _ .non (M.trans (zF y _)) O trivial
  ·exact q _ _ (.bl true) (M.trans (zF y _)) O trivial
  ·exact q _ _ (.bl false) (M.trans (zF y _)) O trivial
 ·split
  ·exact{_,O,_,O,∅,∅,λi i0 i1 H2 g2=>q _ _ (.int i) (M.trans g2) O ⟨i0,i1⟩}
  ·split
   ·exact{_,O,_,O,∅,∅,λx hx H2 g2=>q _ _ (.str x) (M.trans g2) O hx}
   ·refine zGn _ O ∅ ∅ (uX (λi r J=>Same (upd H1 p (.lst [V.int 5,V.int 9])) J/\∃ts,Reps J r ts/\ts...*=i/\NiceL e ts) (by rw[mV];lia) {Same.refl _,[],O,O,trivial} ?_ ?_)
    ·rintro i r J hi _ ⟨hs,ts,hR,hl,hN⟩
     lk;refine{a,I,k*5+1+(0+(i:Int)), ?_,hs.seq (M.seq hS),aa,∅, ?_,λv H2 t g2 hv hn=>{hs.trans g2,ts++ [t],Reps.snoc hv (Reps.same g2 _ _ hR),by simp[hl],NiceL.snoc hn hN}}
     ·rw[show((e+1:Nat):Int)- 1=(e:Int) by lia]
     ·let:(k*5+1+(0+(i:Int))+2)*5 ^ e<=(k+2)*5*5 ^ e:=Int.mul_le_mul_of_nonneg_right ∅ ∅
      lia
    ·rintro r J hl ⟨hs,ts,hR,ao,hN⟩ L ag
     let gl:=M.trans (hs.trans (zF ag (.lst r)));let ae:Reps (upd J L (.lst r)) r ts:=Reps.same (zF ag _) _ _ hR
     by_cases h7:qC I k % 9<7
     ·rw[mN h7]
      exact q _ _ (.lst ts) gl ⟨L,r,O,zD,ae⟩ {∅,∅,hN}
     rw[mK h7];intro p2 y;let gd:=zF y (.dK []);let ar:=hR...*;let ak:SqL K (upd (upd J L (.lst r)) p2 (.dK [])) L r:=SqL.of (gd _ _ zD);refine zAk L O r ak ∅ (nA ∅ ?_);rw[rN];refine qL (λi σ H2=>(∃o,σ= [Y (V.ref a),Y (V.int k),Y (V.int ((e+1:Nat):Int)),Y (V.int (qC I k)),Y (V.int (qC I k % 9)),Y (V.ref L),Y (V.ref p2),o])/\Same (upd J L (.lst r)) H2/\DInv (upd J L (.lst r)) p2 ts i H2) {⟨_,O⟩,gd,[],[],[],zD,O,O,bQ,λ_ h=>(nomatch h),λ_ h=>(nomatch h),mC _} ?_ ?_
     ·rintro i σ H2 hi ⟨⟨o,rfl⟩,g2,ps,ks,us,hd,hk,hU,N,ab,D,ah⟩
      lk;obtain⟨v,hv⟩:∃v,r[i]? =Y v:={r[i],by simp[hi]};refine oEA (ae.get hv) λt ht al=>?_;refine yH (SqL.of (g2 _ _ zD)) (by rw[Int.zero_add];exact yI hv) (uM (g2.seq (gl.seq hS)) aa ∅ ∅ λH3 g3=>?_);let ap:=jG I (k*5+1+(0+(i:Int)));let aq:=jE I (k*5+1+(0+(i:Int)));refine{_,O,_,O,∅,∅,λx hx H4 g4=>{_,DPut.k (k:=nK x) (g4 _ _ (g3 _ _ hd)) ?_,⟨_,O⟩, ?_, ?_}}
      ·let:=congrArg List.length hk
       simp only[mJ] at this;rw[mV];lia
      ·intro b o' hb
       let an:b≠p2:=λz=>by rw[z,y] at hb;cases hb
       rw[zM an];exact g4 _ _ (g3 _ _ (g2 _ _ hb))
      ·refine zV (yBy (n:=x) hk hU N al) λai aj e1 e2 e3 z_=>?_
       ext oAA z_ e4 e5 e6;refine{_,ai,aj,zD,e1,e2,e3,λn hn=>?_,λu hu=>?_,∅}
       ·rcases e4 n hn with z | z
        ·exact ab n z
        ·rw[z];exact hx
       ·rcases e5 u hu with z | z
        ·exact D u z
        ·rw[z];exact mM ht
     ·rintro σ H2 ⟨⟨o,rfl⟩,g2,ps,ks,us,hd,hk,hU,N,ab,D,ah⟩
      lk;let l1:=congrArg List.length hk;simp only[mJ] at l1;let l2:=hU...*;simp only[mJ] at l2;refine q _ _ (.dic ks us) (gl.trans g2) {p2,ps,O,hd,hk,Reps.same g2 _ _ hU} {∅,∅,∅,N,ab,NiceL_iff.mpr λu hu=>NiceL_iff.mp hN u (D u hu)}
abbrev yCw:V6:=top 63
abbrev zRa:V6:=top 9
noncomputable def xX(t:String):V:=if t= "NoneType" then .str "nothing" else if t= "bool" then .str "truth" else if t= "int" then .str "number" else if t= "str" then .str "text" else if t= "list" then .str "row" else if t= "dict" then .str "record" else .non
def zGp:Sp:=λb H Q _=>∃(v:V)(t:String),b= [v]/\tyS H v=Y t/\∀a,Same H a->Q (xX t) a
theorem kU{H:Hp}{v:V}(h:tyS H v=some "NoneType"):v= .non:=by
 cases v with
 |non=>rfl|ref a=>
  let c:(match H a with | some (.lst _)=>some "list" | some (.tup _)=>some "tuple" | some (.dK _)=>some "dict" | _=>none)=some "NoneType":=h
  split at c<;>first | exact absurd (mQ c) ∎| cases c
 |bl b=>exact absurd (mQ h) ∎|int b=>exact absurd (mQ h) ∎|str b=>exact absurd (mQ h) ∎|byt b=>cases h|flt b=>cases h|ty b=>cases h
theorem zXd{H:Hp}{v:V}{t:String}{Q:VK}(a:tyS H v=Y t)(q:Q (xX t) H):
  if v=V.non then Q (V.str (A5 "nothing")) H else∃x,tyS H v=Y x/\if zX x "bool" =true then Q (V.str (A5 "truth")) H else
   ∃x,tyS H v=Y x/\if zX x "int" =true then Q (V.str (A5 "number")) H else∃x,tyS H v=Y x/\if zX x "str" =true then Q (V.str (A5 "text")) H else
   ∃x,tyS H v=Y x/\if zX x "list" =true then Q (V.str (A5 "row")) H else∃x,tyS H v=Y x/\if zX x "dict" =true then Q (V.str (A5 "record")) H else Q V.non H:=by
 let c:=vU a;simp only[a,Option.some.injEq,dU]
 by_cases b:v= .non
 ·subst b;cases a;rw[mN O];exact q
 ·rw[mK b]
  simp only[tyL,mG,pO,tP] at c;rcases c with rfl | rfl | rfl | rfl | rfl | rfl | rfl
  ·exact absurd (kU a) b
  all_goals (simpa [zX,xX] using q)
theorem yBr(F:Fun K "_law_kind" "_law_kind" yCw f fd)(B:Bl mg):FnOk P w K mg base CX0 1 f fd ["_law_thing"] zGp:=by
 refine F.okn (N:=["_law_thing"]) λc A b s H e Q E i g h=>?_;ext yO h v t a d q;subst a;refine{_,(zC (zT (zAm (zKh (pv 0))) (zG (zJ zP)) zL)
  (zC (zT (yG (pI B.isinstance zK B.bool zSf (pv 0))) (zG (zJ zP)) zL)
  (zC (zT (yG (pI B.isinstance zK B.int qI (pv 0))) (zG (zJ zP)) zL)
  (zC (zT (yG (pI B.isinstance zK B.str qP (pv 0))) (zG (zJ zP)) zL)
  (zC (zT (yG (pI B.isinstance zK B.list wA (pv 0))) (zG (zJ zP)) zL)
  (zC (zT (yG (pI B.isinstance zK B.dict xQ (pv 0))) (zG (zJ zP)) zL)
  (zG (zJ zAc)))))))), ?_}
 walk_at "st";lk;exact zXd d (q H (Same.refl H))
abbrev zRm:V6:=top 64
abbrev zVj:V6:=top 65
def zNx(n:Nat):Sp:=λc H Q _=>∃(v u:V)(t a:T),c= [v,u]/\Rep H v t/\Rep H u a/\T.few t/\T.few a/\l7 t<=n/\l7 a<=n/\∀b,Same H b->Q (.int (xO (zN t) (zN a))) b
def zYt(n:Nat):Sp:=λi H Q _=>∃(a b:V1)(e h:B3)(d c:B0),i= [.ref a, .ref b]/\H a=Y (.lst e)/\H b=Y (.lst h)/\Reps H e d/\Reps H h c/\d8 d/\d8 c/\d...*<=100000/\c...*<=100000/\i7 d<=n/\i7 c<=n/\∀g,Same H g->Q (.int (vM (xL d) (xL c))) g
theorem yAy{n:Nat}(F:Fun K "_law_rows_compare" "_law_rows_compare" zRm f fd)(B:Bl2 mg)(c:Dn P w K mg base (2+2*n) "_law_compare" ["_law_one","_law_other"] (zNx n)):
  FnOk P w K mg base CX0 (2+2*n+1) f fd ["_law_one","_law_other"] (zYt n):=by
 refine F.okn (N:=["_law_one","_law_other","_law_k","_law_result"]) λaf A ac s H vs Q E nd hr h=>?_;ext yA h a b d j l u;ext wQ u k L D y hx u;ext zS u hy fx fy lx ly u;ext oAA u wx wy q;subst L;refine{_,(zC (wW PassesOwn.never O (wE O B.range (zA (zO (zAp O) O B.min zJs (zA (zO zZ O B.len yR (zA (pv 0) zB)) (zA (zO zZ O B.len yR (zA (pv 1) zB)) zB))) zB)) (yF (i:=2) nd O (nZ O)) (zC (pS 3 nd (pD c hr (zA (pX zU (pv 0) (pv 2)) (zA (pX zU (pv 1) (pv 2)) zB))))
  (zG (zT (pT zEj (pv 3) zE) (zG (zJ (pv 3))) zL))))
  (zG (zJ (zI xY (yW wD O B.int qI (zA (pE uP (zO zZ O B.len yR (zA (pv 0) zB)) (zO zZ O B.len yR (zA (pv 1) zB))) zB)) (yW wD O B.int qI (zA (pE kS (zO zZ O B.len yR (zA (pv 0) zB)) (zO zZ O B.len yR (zA (pv 1) zB))) zB)))))), ?_}
 walk_at "st";lk;let ae:=hx...*;let M:=hy...*;refine vB d (SqL.of D) j (SqL.of y) d...* (zGn j...* ⟨O,O⟩ (by split<;>lia) (by split<;>lia) ?_);let em:(if(j...*:Int)<d...* then(j...*:Int) else d...*).toNat=min (xL l)...* (xL k)...*:=by
  rw[vH,vH];split<;>lia
 rw[em];let J:min (xL l)...* (xL k)...*<=l...*/\min (xL l)...* (xL k)...*<=k...*:=by
  rw[vH,vH];exact{Nat.min_le_left _ _,Nat.min_le_right _ _}
 generalize hm:min (xL l)...* (xL k)...*=m at J⊢;refine qL (λi σ I=>(∃o2 o3,σ= [Y (V.ref a),Y (V.ref b),o2,o3])/\Same H I/\vM (xL l) (xL k)=vM ((xL l).drop i) ((xL k).drop i)) {⟨_,_,O⟩,Same.refl _,O} ?_ ?_
 ·rintro i σ I hi ⟨⟨o2,o3,rfl⟩,g,e⟩
  lk;let h1:i<d...*:=by lia
  let h2:i<j...*:=by lia
  refine oEA (hx.get (i:=i) (v:=d[i]) (by simp[h1])) λt1 r ab=>?_;refine oEA (hy.get (i:=i) (v:=j[i]) (by simp[h2])) λt2 p aa=>?_;let o:=mM r;let t:=mM p;let w1:=j7 o;let w2:=j7 t;let hd:=zOc (uJ r) (uJ p);refine{a,d,i,d[i],O,by simp,SqL.of (g _ _ D), ?_,b,j,i,j[i],O,by simp,SqL.of (g _ _ y), ?_,d[i],j[i],t1,t2,O,Rep.same g _ _ ab,Rep.same g _ _ aa,b7 fx o,b7 fy t,∅,∅,λH3 g3=>?_}
  ·exact yI (by simp[h1])
  ·exact yI (by simp[h2])
  ·rw[e,hd] at q
   by_cases x:xO (zN t1) (zN t2)=0
   ·exact zOb O false (by rw[x];rfl) (zHh {⟨_,O⟩,g.trans g3,by rw[e,hd,mN x]})
   ·rw[mK x] at q
    refine zOb O true ?_ (zHo (q _ (g.trans g3)));simp[x]
 ·rintro σ I ⟨⟨o2,o3,rfl⟩,g,e⟩
  lk;let he:=zSm (xs:=xL l) (ys:=xL k) hm.symm;rw[vH,vH] at he;let z:=q I g;rw[e,he,sgI,<-ae,<-M] at z;exact vB d (SqL.of (g _ _ D)) j (SqL.of (g _ _ y)) d (zOb (SqL.of (g _ _ D)) j (SqL.of (g _ _ y)) z)
theorem iP{c A B:Prop} [Decidable c] (h:c) (a:A):if c then A else B:=by rw[mN h];exact a
theorem iN{c A B:Prop} [Decidable c] (h:¬c) (b:B):if c then A else B:=by rw[mK h];exact b
noncomputable def wordsS:List Str:=["nothing","truth","number","text","row","record"]
theorem kN(t:T)(h:T.few t):∃k,xX (tyT t)= .str k/\wordsS[(zN t).ord]? =Y k/\∀i,i<(zN t).ord->wordsS[i]?≠Y k:=by
 cases t with|non=>exact{"nothing",by decide+kernel,O,λi h=>absurd h (rA i)}|bl b=>exact{"truth",by show xX "bool" =_;decide+kernel,O,by show∀i,i<1->_;decide+kernel}|int b=>exact{"number",by show xX "int" =_;decide+kernel,O,by show∀i,i<2->_;decide+kernel}|str b=>exact{"text",by show xX "str" =_;decide+kernel,O,by show∀i,i<3->_;decide+kernel}|lst b=>exact{"row",by show xX "list" =_;decide+kernel,O,by show∀i,i<4->_;decide+kernel}|dic a b=>exact{"record",by show xX "dict" =_;decide+kernel,O,by show∀i,i<5->_;decide+kernel}|tup b=>exact h.elim
theorem zGa{x n:Str}{j:Nat}{d l:V1}{ps:D7}{ks:C6}{us:B0}{c:C1}{σ:St}{Q:VK}{H1:Hp}(J:H1 d=Y (.dK ps))(hl:H1 l=none)(aa:ks...*<64)(M:ks.Nodup)
  (hk:ps.map (·.1)=ks.map λk=>(Sum.inr (tx k):Key)) (L:Reps H1 (ps.map (·.2)) us) (o:c.Perm (ks.map tx)) (E:PyProof.Rows.sortedS c=true) (hj:(σ[j]?).join=Y (.ref d))
  (q:∀p e a,Same H1 a->a p=Y (.lst e)->Reps a e (uK ks us)->Q (.ref p) a):
  wL [x] [(n,j)] (qG 0) zBw (zWl (vG (qH 0) (vG (zCs (qH 1) (qH 0)) zBu))) σ Q (Itl K l) (upd H1 l (.lst (c.map V.str))):=by
 let N:=uF o E;let B:Same H1 (upd H1 l (.lst (c.map V.str))):=zF hl _;let s:upd H1 l (.lst (c.map V.str)) l=Y (.lst (c.map V.str)):=zD;let m:(c.map V.str)...*=ks...*:=by rw[mJ,o.length_eq,mJ]
 generalize upd H1 l (.lst (c.map V.str))=H2 at B s⊢;refine jX (K:=K) (xs:=c.map V.str) (λi e a=>Same H2 a/\Reps a e ((uK ks us).take i)) ?_ {Same.refl _,O} (λi e a _ h=>SqL.of (h.1 _ _ s)) ?_ ?_
 ·rw[mV,m];lia
 ·rintro i y e a r _ ⟨g,A⟩
  rw[N,sH,nG] at r
  cases b:(xC ks)[i]? with
  |none=>rw[b] at r;cases r|some k=>
   rw[b] at r;let ey:V.str (tx k)=y:=mQ r;subst ey;let u:(uK ks us)[i]? =Y (.lst [.str k,zH k ks us]):=by rw[uK,nG,b];rfl
   let I:=B.trans g;obtain⟨v,D,H⟩:=Rep.at_name M hk (Reps.same I _ _ L) (mem_sortK.mp (mM b));lk;rw[hj];refine qM d O v (.inl {ps,Sum.inr (tx k), .inl (I _ _ J),O,D.symm}) (λp o=>{g.trans (zF o _), ?_});rw[yP u];let t:Rep (upd a p (.lst [V.str (tx k),v])) (.ref p) (.lst [.str k,zH k ks us]):={p,_,O,zD,_,_,O,O,_,_,O,Rep.same (zF o _) _ _ H,O};exact Reps.snoc t (Reps.same (zF o _) _ _ A)
 ·rintro e a _ ⟨g,A⟩ p z
  rw[m,<-zFu ks us,rB] at A;exact q p e _ (B.trans (g.trans (zF z _))) zD (Reps.same (zF z _) _ _ A)
theorem scCmp:wF ["_law_one","_law_other","_law_words","_law_first","_law_second","_law_left","_law_right"] ["_law_one","_law_other"] (zY zVj):=by walk_at "sc"
theorem yBx{n:Nat}(F:Fun K "_law_compare" "_law_compare" zVj f fd)(B:Bl2 mg)(e:Dn P w K mg base 1 "_law_kind" ["_law_thing"] zGp)(d:Dn P w K mg base (2+2*n+1) "_law_rows_compare" ["_law_one","_law_other"] (zYt n)):
  FnOk P w K mg base CX0 (2+2*n+1+1) f fd ["_law_one","_law_other"] (zNx (n+1)):=by
 refine F.ok scCmp (by walk_at "ln") λc A o s H vs Q E hr h=>?_;ext yN h v u t x an z_;ext zS z_ hv k f1 f2 w1 z_;ext oA z_ w2 q;subst an;let nd:=scCmp.nd;let hu:=vE hr;refine{_,(zC (pS 2 nd (yM (zA zP (zA zP (zA zP (zA zP (zA zP (zA zP zB))))))))
  (zC (pS 3 nd (qA pA tL aF zCe (pv 2) (zA (pD e hr (zA (pv 0) zB)) zB)))
  (zC (pS 4 nd (qA pA tL aF zCe (pv 2) (zA (pD e hr (zA (pv 1) zB)) zB)))
  (zC (zT (pT zEj (pv 3) (pv 4)) (zG (zJ (zI xY (yW wD O B.int qI (zA (pE uP (pv 3) (pv 4)) zB)) (yW wD O B.int qI (zA (pE kS (pv 3) (pv 4)) zB))))) zL)
  (zC (zT (pT xD (pv 3) zE) (zG (zJ zE)) zL)
  (zC (zT (pT kS (pv 3) zE) (zG (zJ (zI xY (yW wD O B.int qI (zA (pE zRo (pv 0) (pv 1)) zB)) (yW wD O B.int qI (zA (pE zQe (pv 0) (pv 1)) zB))))) zL)
  (zC (zT (pT xD (pv 3) zE) (zG (zJ (pD d hr (zA (pv 0) (zA (pv 1) zB))))) zL)
  (zC (uE (i:=5) nd O (nZ O) (own:=["_law_name"]) (F:=[("_law_one",0)]) {O,tb_g%,tb_g%,tb_g%,(.cons O O O .nil)} O (vJ (zO (wU O) O B.sorted jW (zA (pv 0) zB))) (λ_ _ _ _=>yF (i:=0) (by show(wM ["_law_name"] [("_law_one",0)]).Nodup;decide+kernel) O (nZ O)) (λ_ _ _ _=>xT) (λ_ _ _ _=>(yM (zA (pv 0) (zA (vT hu (pv 1) (pv 0) (λ_ _=>O)) zB)))))
  (zC (uE (i:=6) nd O (nZ O) (own:=["_law_name"]) (F:=[("_law_other",1)]) {O,tb_g%,tb_g%,tb_g%,(.cons O O O .nil)} O (vJ (zO (wU O) O B.sorted jW (zA (pv 1) zB))) (λ_ _ _ _=>yF (i:=0) (by show(wM ["_law_name"] [("_law_other",1)]).Nodup;decide+kernel) O (nZ O)) (λ_ _ _ _=>xT) (λ_ _ _ _=>(yM (zA (pv 0) (zA (vT hu (pv 1) (pv 0) (λ_ _=>O)) zB)))))
  (zG (zJ (pD d hr (zA (pv 5) (zA (pv 6) zB)))))))))))))), ?_}
 walk_at "st";lk;intro p hp;refine xE (kN t f1) λk1 e1 i1 n1=>?_;refine xE (kN x f2) λk2 e2 i2 n2=>?_;let o1:(zN t).ord<1000000:=by cases (zN t)<;>simp[C.ord]
 let o2:(zN x).ord<1000000:=by cases (zN x)<;>simp[C.ord]
 let g0:Same H (upd H p (.lst (wordsS.map V.str))):=zF hp _;let r:upd H p (.lst (wordsS.map V.str)) p=Y (.lst (wordsS.map V.str)):=zD;rw[show[V.str (A5 "nothing"),V.str (A5 "truth"),V.str (A5 "number"),V.str (A5 "text"),V.str (A5 "row"),V.str (A5 "record")]=wordsS.map V.str from O];generalize upd H p (.lst (wordsS.map V.str))=H1 at g0 r⊢;refine{nZ {O,_,SqL.of r},v,_,O,(Rep.same g0 _ _ hv).ty,λH2 g2=>?_};refine{p,wordsS,k1,_,O,by rw[e1],SqL.of (g2 _ _ r),i1,n1,o1,nZ {O,_,SqL.of (g2 _ _ r)},u,_,O,(Rep.same (g0.trans g2) _ _ k).ty,λH3 g3=>?_};let j:=g0.trans (g2.trans g3);refine{p,wordsS,k2,_,O,by rw[e2],SqL.of (g3 _ _ (g2 _ _ r)),i2,n2,o2,O, ?_}
 by_cases y:(zN t).ord=(zN x).ord
 ·refine nEA false (by simp[y]) (zHh {O, ?_})
  let zq:=q
  cases t with
  |non=>
   cases x with|non=>exact iP (by simp[zN,C.ord]) (q _ j)|_=>exact absurd y (by simp[zN,C.ord])
  |bl b=>
   cases x with
   |bl m=>
    cases (show v=_ from hv);cases (show u=_ from k);refine iN (by simp[zN,C.ord]) {_,O,iP (by simp[zN,C.ord]) {_,O,_,O,_,O,_,O, ?_}};let z:=q _ j;rw[show xO (zN (.bl b)) (zN (.bl m))=(if(b && !m)=true then 1 else 0)- (if(m && !b)=true then 1 else 0) by cases b<;>cases m<;>rfl] at z;exact z
   |_=>exact absurd y (by simp[zN,C.ord])
  |int b=>
   cases x with
   |int m=>
    cases (show v=_ from hv);cases (show u=_ from k);refine iN (by simp[zN,C.ord]) {_,O,iP (by simp[zN,C.ord]) {_,O,_,O,_,O,_,O, ?_}};let z:=q _ j;rw[show xO (zN (.int b)) (zN (.int m))=(if m<b then 1 else 0)- (if b<m then 1 else 0) by rw[zN,zN,xO];rfl] at z
    simpa using z
   |_=>exact absurd y (by simp[zN,C.ord])
  |str b=>
   cases x with
   |str m=>
    cases (show v=_ from hv);cases (show u=_ from k);refine iN (by simp[zN,C.ord]) {_,O,iP (by simp[zN,C.ord]) {_,O,_,O,_,O,_,O, ?_}};let z:=q _ j;rw[show xO (zN (.str b)) (zN (.str m))=(if m<b then 1 else 0)- (if b<m then 1 else 0) by rw[zN,zN,xO];rfl] at z;simp only[wG,nX];exact z
   |_=>exact absurd y (by simp[zN,C.ord])
  |lst us=>
   cases x with
   |lst ws=>
    ext yO hv a xs g ha hx;subst g;ext yO k b ys g hb hy;subst g;refine iN (by simp[zN,C.ord]) {_,O,iN (by simp[zN,C.ord]) {O,iP (by simp[zN,C.ord]) ?_}};let ae:i7 us+1<=n+1:=w1;let ag:i7 ws+1<=n+1:=w2;refine{a,b,xs,ys,us,ws,O,j _ _ ha,j _ _ hb,Reps.same j _ _ hx,Reps.same j _ _ hy,f1.2,f2.2,f1.1,f2.1,∅,∅,λH4 g4=>?_};let z:=q _ (j.trans g4);rw[zN,zN,xO] at z;exact z
   |_=>exact absurd y (by simp[zN,C.ord])
  |dic ks us=>
   cases x with
   |dic L ws=>
    ext zV hv a ps g ha hk hx;subst g;ext zV k b af g hb ab hy;subst g;ext yZ f1 nk aa ac fx;ext yZ f2 ak J I fy;let ae:i7 us+2<=n+1:=w1;let ag:i7 ws+2<=n+1:=w2;let r1:=zPt ac;let r2:=zPt I;let l1:=zFu ks us;let l2:=zFu L ws;refine iN (by simp[zN,C.ord]) {_,O,iN (by simp[zN,C.ord]) {O,iN (by simp[zN,C.ord]) ?_}};refine vB a O ps (.inl (j _ _ ha)) (ks.map tx) (nAA (by rw[hk,sH];rfl) (by rw[mJ];exact aa) (λl ss hl M N=>{{_,SqL.of zD},zGa (j _ _ ha) hl aa nk hk (Reps.same j _ _ hx) M N O λp1 ah H4 g4 am aj=>?_}));let D:=j.trans g4;refine vB b O af (.inl (D _ _ hb)) (L.map tx) (nAA (by rw[ab,sH];rfl) (by rw[mJ];exact J) (λl ss hl M N=>{{_,SqL.of zD},zGa (D _ _ hb) hl J ak ab (Reps.same D _ _ hy) M N O λp2 ao H5 g5 al ai=>?_}));refine{p1,p2,ah,ao,uK ks us,uK L ws,O,g5 _ _ am,al,Reps.same g5 _ _ aj,ai,zLz ac fx,zLz I fy,∅,∅,∅,∅,λH6 g6=>?_};let z:=q _ (D.trans (g5.trans g6));rw[zN,zN,xO,<-zFh,<-zFh] at z;exact z
   |_=>exact absurd y (by simp[zN,C.ord])
  |tup us=>exact f1.elim
 ·refine nEA true ?_ (zHo {_,O,_,O,_,O,_,O, ?_})
  ·simpa [Int.ofNat_inj] using y
  ·let z:=q H3 j
   rw[uY _ _ y,sgI] at z;exact z
theorem yBg(F:Fun K "_law_compare" "_law_compare" zVj f fd)(B:Bl2 mg)(a:Dn P w K mg base 1 "_law_kind" ["_law_thing"] zGp):
  FnOk P w K mg base CX0 2 f fd ["_law_one","_law_other"] (zNx 0):=by
 refine F.ok scCmp (by walk_at "ln") λc A o s H vs Q E x h=>?_;ext yN h v u t i n y;ext zS y m g J f2 I y;ext oA y w2 q;subst n;let r:=scCmp.nd;let hu:=vE x;refine{_,(zC (pS 2 r (yM (zA zP (zA zP (zA zP (zA zP (zA zP (zA zP zB))))))))
  (zC (pS 3 r (qA pA tL aF zCe (pv 2) (zA (pD a x (zA (pv 0) zB)) zB)))
  (zC (pS 4 r (qA pA tL aF zCe (pv 2) (zA (pD a x (zA (pv 1) zB)) zB)))
  (zC (zT (pT zEj (pv 3) (pv 4)) (zG (zJ (zI xY (yW wD O B.int qI (zA (pE uP (pv 3) (pv 4)) zB)) (yW wD O B.int qI (zA (pE kS (pv 3) (pv 4)) zB))))) zL)
  (zC (zT (pT xD (pv 3) zE) (zG (zJ zE)) zL)
  (zC (zT (pT kS (pv 3) zE) (zG (zJ (zI xY (yW wD O B.int qI (zA (pE zRo (pv 0) (pv 1)) zB)) (yW wD O B.int qI (zA (pE zQe (pv 0) (pv 1)) zB))))) zL)
  zEb)))))), ?_}
 walk_at "st";lk;intro p hp;refine xE (kN t J) λk1 e1 M n1=>?_;refine xE (kN i f2) λN e2 i2 n2=>?_;let o1:(zN t).ord<1000000:=by cases (zN t)<;>simp[C.ord]
 let o2:(zN i).ord<1000000:=by cases (zN i)<;>simp[C.ord]
 let l:Same H (upd H p (.lst (wordsS.map V.str))):=zF hp _;let e:upd H p (.lst (wordsS.map V.str)) p=Y (.lst (wordsS.map V.str)):=zD;rw[show[V.str (A5 "nothing"),V.str (A5 "truth"),V.str (A5 "number"),V.str (A5 "text"),V.str (A5 "row"),V.str (A5 "record")]=wordsS.map V.str from O];generalize upd H p (.lst (wordsS.map V.str))=H1 at l e⊢;refine{nZ {O,_,SqL.of e},v,_,O,(Rep.same l _ _ m).ty,λH2 g2=>?_};refine{p,wordsS,k1,_,O,by rw[e1],SqL.of (g2 _ _ e),M,n1,o1,nZ {O,_,SqL.of (g2 _ _ e)},u,_,O,(Rep.same (l.trans g2) _ _ g).ty,λH3 D=>?_};let k:=l.trans (g2.trans D);refine{p,wordsS,N,_,O,by rw[e2],SqL.of (D _ _ (g2 _ _ e)),i2,n2,o2,O, ?_}
 by_cases j:(zN t).ord=(zN i).ord
 ·refine nEA false (by simp[j]) (zHh {O, ?_})
  let zq:=q
  cases t with
  |non=>
   cases i with|non=>exact iP (by simp[zN,C.ord]) (q _ k)|_=>exact absurd j (by simp[zN,C.ord])
  |bl b=>
   cases i with
   |bl d=>
    cases (show v=_ from m);cases (show u=_ from g);refine iN (by simp[zN,C.ord]) {_,O,iP (by simp[zN,C.ord]) {_,O,_,O,_,O,_,O, ?_}};let z:=q _ k;rw[show xO (zN (.bl b)) (zN (.bl d))=(if(b && !d)=true then 1 else 0)- (if(d && !b)=true then 1 else 0) by cases b<;>cases d<;>rfl] at z;exact z
   |_=>exact absurd j (by simp[zN,C.ord])
  |int b=>
   cases i with
   |int d=>
    cases (show v=_ from m);cases (show u=_ from g);refine iN (by simp[zN,C.ord]) {_,O,iP (by simp[zN,C.ord]) {_,O,_,O,_,O,_,O, ?_}};let z:=q _ k;rw[show xO (zN (.int b)) (zN (.int d))=(if d<b then 1 else 0)- (if b<d then 1 else 0) by rw[zN,zN,xO];rfl] at z
    simpa using z
   |_=>exact absurd j (by simp[zN,C.ord])
  |str b=>
   cases i with
   |str d=>
    cases (show v=_ from m);cases (show u=_ from g);refine iN (by simp[zN,C.ord]) {_,O,iP (by simp[zN,C.ord]) {_,O,_,O,_,O,_,O, ?_}};let z:=q _ k;rw[show xO (zN (.str b)) (zN (.str d))=(if d<b then 1 else 0)- (if b<d then 1 else 0) by rw[zN,zN,xO];rfl] at z;simp only[wG,nX];exact z
   |_=>exact absurd j (by simp[zN,C.ord])
  |lst L=>exact absurd I (aU _)|dic ks L=>exact absurd I (aU _)|tup L=>exact J.elim
 ·refine nEA true ?_ (zHo {_,O,_,O,_,O,_,O, ?_})
  ·simpa [Int.ofNat_inj] using j
  ·let z:=q H3 k
   rw[uY _ _ j,sgI] at z;exact z
theorem zSd{e:V1}{a:V7}(F:Fun K "_law_compare" "_law_compare" zVj f fd)(g:Fun K "_law_rows_compare" "_law_rows_compare" zRm e a)(B:Bl2 mg)(d:Dn P w K mg base 1 "_law_kind" ["_law_thing"] zGp)
  (b:Binds K fd ["_law_one","_law_other"] []) (h:A7 K (.ref f)=true) (m:mg "_law_compare" =Y (.ref f)) (i:Binds K a ["_law_one","_law_other"] []) (c:A7 K (.ref e)=true) (j:mg "_law_rows_compare" =Y (.ref e)):
  ∀n:Nat,FnOk P w K mg base CX0 (2+2*n) f fd ["_law_one","_law_other"] (zNx n)
 |0=>yBg F B d|n+1=>yBx F B d {_,_,yAy g B {_,_,zSd F g B d b h m i c j n,b,h,m},i,c,j}
abbrev yCk:V6:=top 66
def zPm(n:Nat):Sp:=λc H Q _=>∃(v u:V)(t a:T),c= [v,u]/\Rep H v t/\Rep H u a/\T.few t/\T.few a/\l7 t<=n/\l7 a<=n/\∀b,Same H b->Q (.bl (decide (xO (zN t) (zN a)=0))) b
theorem zTw:∀{t t':T},T.few t->T.few t'->xX (tyT t)≠xX (tyT t')->xO (zN t) (zN t')≠0:=by
 intro t t' h c a;let b:(zN t).ord≠(zN t').ord:=by
  intro e;apply a;cases t<;>cases t'<;>first | rfl | exact h.elim | exact c.elim | exact absurd e (by simp[zN,C.ord])
 rw[uY _ _ b,sgI];split<;>split<;>lia
theorem yBj{n:Nat}(F:Fun K "_law_same" "_law_same" yCk f fd)(B:Bl2 mg)(a:Dn P w K mg base 1 "_law_kind" ["_law_thing"] zGp)(b:Dn P w K mg base (2+2*n) "_law_compare" ["_law_one","_law_other"] (zNx n)):
  FnOk P w K mg base CX0 (2+2*n+1) f fd ["_law_one","_law_other"] (zPm n):=by
 refine F.okn (N:=["_law_one","_law_other"]) λL A o s H vs Q E nd d h=>?_;ext yN h v u t x g r;ext zS r k c l j M r;ext oA r w2 q;subst g;refine nEA _ (zG (zJ (qJ (zJx (zQr (pD a d (zA (pv 0) zB)))) (qJ (pE xD (pD a d (zA (pv 0) zB)) (pD a d (zA (pv 1) zB))) (qT (pE xD (pD b d (zA (pv 0) (zA (pv 1) zB))) zE)))))) ?_;walk_at "st";lk;obtain⟨I,i,-,-⟩:=kN t l;obtain⟨D,y,-,-⟩:=kN x j;refine{v,_,O,k.ty,λH1 m=>{true,by rw[i];rfl,zHo {v,_,O,(Rep.same m _ _ k).ty,λH2 g2=>{u,_,O,(Rep.same (m.trans g2) _ _ c).ty,λH3 J=>?_}}}};let e:=m.trans (g2.trans J);rw[i,y];refine{O, ?_}
 by_cases p:V.str I=V.str D
 ·refine iP p {v,u,t,x,O,Rep.same e _ _ k,Rep.same e _ _ c,l,j,M,w2,λH4 g4=>{O, ?_}}
  let z:=q _ (e.trans g4)
  simpa using z
 ·let z:=q _ e
  rw[nP (zTw l j (by rw[i,y];exact p))] at z;exact iN p z
abbrev zUr:V6:=top 17
abbrev zQn:V6:=top 18
abbrev zPu:V6:=top 19
def zCy:Sp:=λb H Q _=>∃(v:V)(t:String),b= [v]/\tyR H v=Y t/\∀a,Same H a->Q (xX t) a
theorem yCh{H:Hp}{v:V}(h:tyR H v=some "NoneType"):v= .non:=by
 cases v with
 |ref a=>
  let c:(match H a with | some (.frz _ (.dK _))=>some "dict" | _=>tyS H (.ref a))=some "NoneType":=h
  split at c
  ·exact absurd (mQ c) ∎
  ·exact kU c
 |non=>rfl|bl b=>exact kU (H:=H) (show tyS H (.bl b)=_ from h)|int b=>exact kU (H:=H) (show tyS H (.int b)=_ from h)|str b=>exact kU (H:=H) (show tyS H (.str b)=_ from h)|byt b=>exact kU (H:=H) (show tyS H (.byt b)=_ from h)|flt b=>exact kU (H:=H) (show tyS H (.flt b)=_ from h)|ty b=>exact kU (H:=H) (show tyS H (.ty b)=_ from h)
theorem zGs(F:Fun K "kind_of" "kind_of" zRa f fd)(B:Bl mg):FnOk P w K mg base CX0 1 f fd ["thing"] zCy:=by
 refine F.okn (N:=["thing"]) λg A c s H i Q E k j h=>?_;ext yO h v t b a q;subst b;refine{_,(zC (zT (zAm (zKh (pv 0))) (zG (zJ zP)) zL)
  (zC (zT (yG (zO (jY (T:="bool") ∎) O B.isinstance zK (zA (pv 0) (zA (vL (v:=.ty "bool") O B.bool zSf O) zB)))) (zG (zJ zP)) zL)
  (zC (zT (yG (zO (jY (T:="int") ∎) O B.isinstance zK (zA (pv 0) (zA (vL (v:=.ty "int") O B.int qI O) zB)))) (zG (zJ zP)) zL)
  (zC (zT (yG (zO (jY (T:="str") ∎) O B.isinstance zK (zA (pv 0) (zA (vL (v:=.ty "str") O B.str qP O) zB)))) (zG (zJ zP)) zL)
  (zC (zT (yG (zO (jY (T:="list") ∎) O B.isinstance zK (zA (pv 0) (zA (vL (v:=.ty "list") O B.list wA O) zB)))) (zG (zJ zP)) zL)
  (zC (zT (yG (zO (jY (T:="dict") ∎) O B.isinstance zK (zA (pv 0) (zA (vL (v:=.ty "dict") O B.dict xQ O) zB)))) (zG (zJ zP)) zL)
  (zG (zJ zAc)))))))), ?_}
 walk_at "st";lk;let q:=q H (Same.refl H);let e:=yBz a;simp only[a,Option.some.injEq,dU]
 by_cases d:v= .non
 ·subst d;cases a;rw[mN O];exact q
 ·rw[mK d]
  simp only[tyL,mG,pO,tP] at e;rcases e with rfl | rfl | rfl | rfl | rfl | rfl | rfl
  ·exact absurd (yCh a) d
  all_goals (simpa [zX,xX] using q)
noncomputable def alk(t t':T):Bool:=decide (xO (zN t) (zN t')=0)
def zBd(n:Nat):Sp:=λc H Q _=>∃(v u:V)(t a:T),c= [v,u]/\Rp H v t/\Rp H u a/\T.few t/\T.few a/\T.dep t<n/\∀b,Same H b->Q (.bl (alk t a)) b
def zYb(n:Nat):Sp:=λd H Q _=>∃(v u:V)(a b:B0),d= [v,u]/\Rp H v (.lst a)/\Rp H u (.lst b)/\T.few (.lst a)/\T.few (.lst b)/\T.deps a<n/\∀c,Same H c->Q (.bl (alk (.lst a) (.lst b))) c
def zXn(n:Nat):Sp:=λg H Q _=>∃(v u:V)(c a:C6)(b d:B0),g= [v,u]/\Rp H v (.dic c b)/\Rp H u (.dic a d)/\T.few (.dic c b)/\T.few (.dic a d)/\T.deps b<n/\∀e,Same H e->Q (.bl (alk (.dic c b) (.dic a d))) e
theorem zVe{us ws:B0}(d:us...*=ws...*):((List.range us...*).map λj=>alk (us.getD j .non) (ws.getD j .non)).all id=alk (.lst us) (.lst ws):=by
 let e:(((List.range us...*).map λj=>alk (us.getD j .non) (ws.getD j .non)).all id=true)↔(alk (.lst us) (.lst ws)=true):=by
  unfold alk;rw[bJ,zAw,rH];constructor
  ·intro h
   refine{d,λi t k a c=>?_};let b:i<us...*:=(mS.mp a).1;let z:=h _ (nS.mpr {i,sI.mpr b,O});rw[nE,nE,a,c] at z;exact rJ z
  ·rintro⟨_,h⟩ x g
   obtain⟨i,b,rfl⟩:=nS.mp g;let b:=sI.mp b;let a:us[i]? =some us[i]:=by simp[b]
   let c:ws[i]? =Y (ws[i]'∅):=by simp[show i<ws...* by lia]
   rw[nE,nE,a,c];exact nF (h i _ _ a c)
 exact tF.mpr e
theorem zVq{ks a:C6}{us ws:B0}(c:ks.Nodup)(j:ks...*=a...*):(ks.map λk=>decide (k∈a)&& alk (zH k ks us) (zH k a ws)).all id=alk (.dic ks us) (.dic a ws):=by
 let e:((ks.map λk=>decide (k∈a)&& alk (zH k ks us) (zH k a ws)).all id=true)↔(alk (.dic ks us) (.dic a ws)=true):=by
  rw[show(alk (.dic ks us) (.dic a ws)=true)↔_ from bJ,wI c,rH];constructor
  ·intro h
   refine{j,λk b=>?_};let z:=h _ (nS.mpr ⟨k,b,O⟩);let z:(decide (k∈a)&& alk (zH k ks us) (zH k a ws))=true:=z;rw[nH] at z;exact{rJ z.1,rJ z.2}
  ·rintro⟨_,h⟩ x d
   obtain⟨k,b,rfl⟩:=nS.mp d;obtain⟨i,g⟩:=h k b;show(decide (k∈a)&& alk (zH k ks us) (zH k a ws))=true;rw[nH];exact{nF i,nF g}
 exact tF.mpr e
theorem zGm{α:Type}(f:Nat->α)(i:Nat):(List.range (i+1)).map f=(List.range i).map f++ [f i]:=by rw[rG,mU];rfl
theorem zZz{n:Nat}(F:Fun K "alike_rows" "alike_rows" zQn f fd)(B:Bl4 mg)(d:Dn P w K mg base (2+2*n) "alike" ["one","other"] (zBd n)):FnOk P w K mg base CX0 (2+2*n+1) f fd ["one","other"] (zYb n):=by
 refine F.okn (N:=["one","other"]) λag A ac s H vs Q E nd hr h=>?_;ext yN h v u D o af z_;ext zS z_ hv hw f1 f2 hd q;subst af;refine{_,(zC (zT (pT zEj (zO zZ O B.len yR (zA (pv 0) zB)) (zO zZ O B.len yR (zA (pv 1) zB))) (zG (zJ vQ)) zL)
  (zG (zJ (zO (gQ O) O B.all zDp (zA (vI (own:=["place","part"]) (F:=[("other",1)]) {O,tb_g%,tb_g%,tb_g%,(.cons O O O .nil)} O (zKb O B.enumerate (zA (pv 0) zB)) (λ_ _ _ _=>zJn (K:=K) (n:=2) O O (vP (yF (i:=0) (by show(wM ["place","part"] [("other",1)]).Nodup;decide+kernel) O (nZ O)) (vP (yF (i:=1) (by show(wM ["place","part"] [("other",1)]).Nodup;decide+kernel) O (nZ O)) zCh))) (λ_ _ _ _=>xT) (λ_ _ _ _=>(pD d hr (zA (pv 1) (zA (pX (zNh (K:=K) O) (pv 2) (pv 0)) zB))))) zB))))), ?_}
 walk_at "st";lk;ext yO hv a L k M hx;subst k;ext yO hw b y k hb hy;subst k;let m:=hx...*;let t:=hy...*;let l1:=f1.1
 by_cases hl:D...*=o...*
 ·refine vB a O L (SqL.of M) b (zKr O y (SqL.of hb) false (by rw[m,t,hl];simp) (zHh {a,L,O,SqL.of M, ?_}))
  refine zIr (K:=K) (xs:=L) (λi I J=>Same H J/\I=((List.range i).map λj=>alk (D.getD j .non) (o.getD j .non)).map V.bl) (by rw[mV];lia) {Same.refl _,O} (λi I J _ h=>SqL.of (h.1 _ _ M)) ?_ ?_
  ·rintro i x I J p ae _ ⟨g,rfl⟩ hp
   refine oEA (hx.get ae) λt1 l ab=>?_;let hi:i<y...*:=by let:=(mS.mp l).1;lia
   refine oEA (hy.get (i:=i) (v:=y[i]) (by simp[hi])) λt2 r aa=>?_;let G:=g.trans (zF hp (.tup [V.int i,x]));let hm:=mM l;let d1:=b8 hm;lk;refine yH (SqL.of (G _ _ hb)) (v:=y[i]) (yI (by simp[hi])) {_,_,t1,t2,O,Rp.same G _ _ ab,Rp.same G _ _ aa,b7 f1.2 hm,b7 f2.2 (mM r),∅,λH4 g4=>{G.trans g4, ?_}};rw[zGm,mU];let e1:D.getD i .non=t1:=by rw[nE,l];rfl
   let e2:o.getD i .non=t2:=by rw[nE,r];rfl
   rw[e1,e2]
   rfl
  ·rintro I J _ ⟨g,rfl⟩ p hp
   refine qM p O _ (SqL.of zD) ?_;rw[m,zVe hl];exact q _ (g.trans (zF hp _))
 ·refine vB a O L (SqL.of M) b (zKr O y (SqL.of hb) true ?_ (zHo ?_))
  ·rw[m,t];simp;lia
  ·let z:=q H (Same.refl H)
   let e:alk (.lst D) (.lst o)=false:=by
    unfold alk;exact nP λc=>hl ((zAw D o).mp c).1
   rw[e] at z;exact z
theorem zZx{n:Nat}(F:Fun K "alike_records" "alike_records" zPu f fd)(B:Bl2 mg)(t:Dn P w K mg base (2+2*n) "alike" ["one","other"] (zBd n)):FnOk P w K mg base CX0 (2+2*n+1) f fd ["one","other"] (zXn n):=by
 refine F.okn (N:=["one","other"]) λa8 A a0 s H vs Q E nd hr h=>?_;ext yA h v u y d us z_;ext wQ z_ ws ap hv hw f1 z_;ext oAA z_ f2 hd q;subst ap;let hu:=vE hr;refine{_,(zC (zT (pT zEj (zO zDv O B.len yR (zA (pv 0) zB)) (zO zDv O B.len yR (zA (pv 1) zB))) (zG (zJ vQ)) zL)
  (zG (zJ (zO (gQ O) O B.all zDp (zA (zEy (vI (own:=["name"]) (F:=[("other",1),("one",0)]) {O,tb_g%,tb_g%,tb_g%,(.cons O O O (.cons O O O .nil))} O (zJa (pv 0)) (λ_ _ _ _=>yF (i:=0) (by show(wM ["name"] [("other",1),("one",0)]).Nodup;decide+kernel) O (nZ O)) (λ_ _ _ _=>xT) (λ_ _ _ _=>(qJ (zJx (zHa hu (pv 0) (pv 1))) (qT (pD t hr (zA (vT hu (pv 2) (pv 0) (λ_ _=>O)) (zA (vT hu (pv 1) (pv 0) (λ_ _=>O)) zB)))))))) zB))))), ?_}
 walk_at "st";lk;ext zV hv a m aa l hk hx;subst aa;ext zV hw b D aa hb M hy;subst aa;ext yZ f1 nk a7 a5 aq;ext yZ f2 av a6 aj a1;let ac:m...*=y...*:=by let:=congrArg List.length hk;simpa using this
 let ag:D...*=d...*:=by let:=congrArg List.length M;simpa using this
 by_cases hl:y...*=d...*
 ·refine vB a O m l b (zKr O D hb false (by rw[ac,ag,hl];simp) (zHh {a,O,m, ?_}))
  let L:∀(o:Obj)(r:Hp)(th:Hp->Hp),r a=Y (.frz o (.dK m))->Rps r (m.map (·.2)) us->Rps r (D.map (·.2)) ws->Rd r b (.dK D)->(∀j,Same r j->∀p xs,j p=Y (.lst xs)->th j p=Y (.lst xs))->(∀j,Same r j->Same H (th j))->
    wL [A5 "name"] [(A5 "other",1),(A5 "one",0)] (qG 0) zBw (zRv (zTr (qH 0) (qH 1)) (kY (zBd n) [] E0 (vG (zCs (qH 2) (qH 0)) (vG (zCs (qH 1) (qH 0)) zBu)))) [Y (V.ref a),Y (V.ref b)]
     (λv I=>∃p,v=V.ref p/\∃x,SqL K (th I) p (List.map V.bl x)/\Q (V.bl (x.all id)) (th I)) (Itd a o m) r:=by
   intro o r th ak a2 ao ai ay an;refine zDh (λi zs j=>Same r j/\zs=((y.take i).map λk=>decide (k∈d)&& alk (zH k y us) (zH k d ws)).map V.bl) (by rw[mV];lia) ⟨Same.refl _,rfl⟩ (λi zs j h=>h.1 _ _ ak) ?_ ?_
   ·rintro i J zs j ar _ ⟨g,rfl⟩
    obtain⟨k,ae,ab⟩:∃k,y[i]? =Y k/\J.1=Sum.inr (tx k):=by
     let h1:(m.map (·.1))[i]? =Y J.1:=by rw[nG,ar];rfl
     rw[hk,nG] at h1
     cases hc:y[i]? with|none=>rw[hc] at h1;cases h1|some k=>rw[hc] at h1;exact{k,O,(mQ h1).symm}
    let ah:=mM ae;refine oEA (Rp.at_name nk hk (Rps.same g _ _ a2) ah) λc1 a4 az=>?_;let al:=yC ah a5;let d1:=b8 al;let au:zGz j a (kV J.1) ↥c1:=.inl {m,J.1, .inr {o,g _ _ ak},O,by rw[ab];exact a4.symm};lk
    by_cases hm:k∈d
    ·refine oEA (Rp.at_name av M (Rps.same g _ _ ao) hm) λc2 a3 ax=>?_
     let aw:=yC hm aj;let am:zGz j b (kV J.1) ↥c2:=.inl {D,J.1,ai.same g,O,by rw[ab];exact a3.symm};refine{b,Y c2,O,am,true,O,iP O {c1,au,c2,am,c1,c2,_,_,O,az,ax,b7 aq al,b7 a1 aw,∅,λH4 g4=>{g.trans g4, ?_}}};rw[yP ae,mU,mU];simp[hm]
    ·let af:jL D J.1=none:=zAv (by
      rw[M,ab];intro z;refine oEA (nS.mp z) λk2 h2 e2=>?_;exact hm (by rw[<-zAe (show nK k2=nK k from e2)];exact h2))
     refine{b,none,O, .inl {D,J.1,ai.same g,O,af.symm},false,O,zHh {g, ?_}};rw[yP ae,mU,mU];simp[hm]
   ·rintro zs j _ ⟨g,rfl⟩ p hp
    let g2:=g.trans (zF hp (.lst (List.map V.bl ((y.take m...*).map λk=>decide (k∈d)&& alk (zH k y us) (zH k d ws)))));refine qM p O _ (SqL.of (ay _ g2 p _ zD)) ?_;let z:=q _ (an _ g2);rw[ac,rB] at z⊢;rw[zVq nk hl];exact z
  rcases l with l |⟨o,l⟩
  ·refine .inl ⟨l,λo=>L o _ (thaw H) zD (Rps.frz l _ _ hx) (Rps.frz l _ _ hy) (Rd.frz l hb) (λj g p xs e=>wP e (by intro o v z;cases z)) λj g=>gU (o:=o) l g⟩
  ·refine .inr ⟨o,l,L o H (thaw H) l hx hy hb (λj g p xs e=>wP e (by intro o v z;cases z)) λj g=>zDu λb u e=>.inl (g b u e)⟩
 ·refine vB a O m l b (zKr O D hb true ?_ (zHo ?_))
  ·rw[ac,ag];simp;lia
  ·let z:=q H (Same.refl H)
   let e:alk (.dic y us) (.dic d ws)=false:=by
    unfold alk;exact nP λc=>hl ((wI nk).mp c).1
   rw[e] at z;exact z
theorem scAlk:wF ["one","other","kind"] ["one","other"] (zY zUr):=by walk_at "sc"
theorem yAk{n:Nat}(F:Fun K "alike" "alike" zUr f fd)(B:Bl2 mg)(d:Dn P w K mg base 1 "kind_of" ["thing"] zCy)(i:Dn P w K mg base (2+2*n+1) "alike_rows" ["one","other"] (zYb n))(a:Dn P w K mg base (2+2*n+1) "alike_records" ["one","other"] (zXn n)):
  FnOk P w K mg base CX0 (2+2*n+1+1) f fd ["one","other"] (zBd (n+1)):=by
 refine F.ok scAlk (by walk_at "ln") λc A o s H vs Q E D h=>?_;ext yN h v u t m J z_;ext zS z_ p l I f2 hd q;subst J;let nd:=scAlk.nd;refine{_,(zC (pS 2 nd (pD d D (zA (pv 0) zB)))
  (zC (zT (pT zEj (pv 2) (pD d D (zA (pv 1) zB))) (zG (zJ vQ)) zL)
  (zC (zT (pT xD (pv 2) zP) (zG (zJ (pD i D (zA (pv 0) (zA (pv 1) zB))))) zL)
  (zC (zT (pT xD (pv 2) zP) (zG (zJ (pD a D (zA (pv 0) (zA (pv 1) zB))))) zL)
  (zG (zJ (pE xD (pv 0) (pv 1)))))))), ?_}
 walk_at "st";lk;refine xE (kN t I) λx e1 k n1=>?_;refine xE (kN m f2) λk2 e2 i2 n2=>?_;refine{v,_,O,p.ty,λH1 g1=>?_};rw[e1];refine{u,_,O,(Rp.same g1 _ _ l).ty,λH2 g2=>?_};rw[e2];let g:=g1.trans g2;let p:=Rp.same g _ _ p;let l:=Rp.same g _ _ l
 by_cases r:(zN t).ord=(zN m).ord
 ·let ek:x=k2:=by
   rw[r,i2] at k;exact(mQ k).symm
  subst ek;refine zOb O false (by simp) (zHh ?_)
  cases t with
  |tup y=>exact I.elim|non=>
   obtain rfl:x= "nothing":=(mQ k).symm
   cases m with
   |non=>
    cases (show v=_ from p);cases (show u=_ from l);exact{O,iN (by decide+kernel) {O,iN (by decide+kernel) {O,q _ g}}}
   |_=>exact absurd r (by simp[zN,C.ord])
  |bl b=>
   obtain rfl:x= "truth":=(mQ k).symm
   cases m with
   |bl j=>
    cases (show v=_ from p);cases (show u=_ from l);refine{O,iN (by decide+kernel) {O,iN (by decide+kernel) {O, ?_}}};let z:=q _ g;rw[show alk (.bl b) (.bl j)=decide (V.bl b=V.bl j) from by cases b<;>cases j<;>decide+kernel] at z;exact z
   |_=>exact absurd r (by simp[zN,C.ord])
  |int b=>
   obtain rfl:x= "number":=(mQ k).symm
   cases m with
   |int j=>
    cases (show v=_ from p);cases (show u=_ from l);refine{O,iN (by decide+kernel) {O,iN (by decide+kernel) {O, ?_}}};let z:=q _ g;let e:alk (.int b) (.int j)=decide (V.int b=V.int j):=by
     unfold alk;rw[aB];show xO (.int b) (.int j)=0↔_;rw[xO];unfold sgI;constructor
     ·intro h
      let:b=j:=by split at h<;>split at h<;>lia
      rw[this]
     ·intro h
      cases h;rw[mK ∅];rfl
    rw[e] at z;exact z
   |_=>exact absurd r (by simp[zN,C.ord])
  |str b=>
   obtain rfl:x= "text":=(mQ k).symm
   cases m with
   |str j=>
    cases (show v=_ from p);cases (show u=_ from l);refine{O,iN (by decide+kernel) {O,iN (by decide+kernel) {O, ?_}}};let z:=q _ g;let e:alk (.str b) (.str j)=decide (V.str (tx b)=V.str (tx j)):=by
     unfold alk;rw[aB];show xO (.str b) (.str j)=0↔_;rw[zEo,gJ];constructor
     ·intro h;rw[h]
     ·intro h
      exact zAe (congrArg Sum.inr (V.str.inj h))
    rw[e] at z;exact z
   |_=>exact absurd r (by simp[zN,C.ord])
  |lst y=>
   obtain rfl:x= "row":=(mQ k).symm
   cases m with
   |lst L=>
    let aa:T.deps y+1<n+1:=hd;exact{O,iP O {v,u,y,L,O,p,l,I,f2,∅,λH3 M=>q _ (g.trans M)}}
   |_=>exact absurd r (by simp[zN,C.ord])
  |dic ks y=>
   obtain rfl:x= "record":=(mQ k).symm
   cases m with
   |dic N L=>
    let aa:T.deps y+1<n+1:=hd;exact{O,iN (by decide+kernel) {O,iP O {v,u,ks,N,y,L,O,p,l,I,f2,∅,λH3 M=>q _ (g.trans M)}}}
   |_=>exact absurd r (by simp[zN,C.ord])
 ·let ek:x≠k2:=λz=>by
   subst z;rcases Nat.lt_or_gt_of_ne r with c | c
   ·exact n2 _ c k
   ·exact n1 _ c i2
  refine zOb O true (by simp[ek]) (zHo ?_);let z:=q _ g;let e:alk t m=false:=by
   unfold alk;refine nP ?_;rw[uY _ _ r];unfold sgI;split<;>split<;>lia
  rw[e] at z;exact z
theorem yAp(F:Fun K "alike" "alike" zUr f fd):FnOk P w K mg base CX0 2 f fd ["one","other"] (zBd 0):=by
 refine F.ok scAlk (by walk_at "ln") λc A o s H e Q E g h=>?_;ext yN h v u t l a d;ext zS d m k i j b _;subst a;exact absurd b (rA _)
theorem zRx{e c:_}{a d:_}(F:Fun K "alike" "alike" zUr f fd)(q:Fun K "alike_rows" "alike_rows" zQn e c)(h:Fun K "alike_records" "alike_records" zPu a d)(B:Bl4 mg)(g:Dn P w K mg base 1 "kind_of" ["thing"] zCy)
  (b:Binds K fd ["one","other"] []) (k:A7 K (.ref f)=true) (m:mg "alike" =Y (.ref f)) (j:Binds K c ["one","other"] []) (o:A7 K (.ref e)=true) (p:mg "alike_rows" =Y (.ref e))
  (i:Binds K d ["one","other"] []) (l:A7 K (.ref a)=true) (r:mg "alike_records" =Y (.ref a)):
  ∀n:Nat,FnOk P w K mg base CX0 (2+2*n) f fd ["one","other"] (zBd n)
 |0=>yAp F|n+1=>
  have D:Dn P w K mg base (2+2*n) "alike" ["one","other"] (zBd n):={_,_,zRx F q h B g b k m j o p i l r n,b,k,m}
  yAk F B.toBl2 g {_,_,zZz q B D,j,o,p} {_,_,zZx h B.toBl2 D,i,l,r}
abbrev sAh:V6:=top 55
noncomputable def ahead:List T->List T->Nat
 |t::ts,u::a=>if alk t u=true then ahead ts a+1 else 0|_,_=>0
theorem wT:∀(ts us:B0),ahead ts us<=ts...*/\ahead ts us<=us...*
 |[],_=>{nJ _,nJ _}|_::_,[]=>{nJ _,nJ _}|t::ts,u::us=>by
  let:=wT ts us;show(if alk t u=true then ahead ts us+1 else 0)<=ts...*+1/\(if alk t u=true then ahead ts us+1 else 0)<=us...*+1;split<;>lia
theorem zOd{t u:T}:∀(ts us:B0)(i:Nat),ts[i]? =Y t->us[i]? =Y u->ahead (ts.drop i) (us.drop i)=if alk t u=true then ahead (ts.drop (i+1)) (us.drop (i+1))+1 else 0:=by
 intro ts
 induction ts with
 |nil=>intro us i h _;simp at h|cons a ts e=>
  intro us i d c
  cases us with
  |nil=>simp at c|cons b us=>
   cases i with
   |zero=>
    simp only[pP,Option.some.injEq] at d c;subst d c
    rfl
   |succ i=>
    simp only[aE] at d c;exact e us i d c
def yEw(n:Nat):Sp:=λi H Q _=>∃(a b:V1)(e h:B3)(c d:B0),i= [.ref a, .ref b]/\H a=Y (.lst e)/\H b=Y (.lst h)/\Reps H e c/\Reps H h d/\T.few (.lst c)/\T.few (.lst d)/\T.deps c<n/\∀g,Same H g->Q (.int (ahead c d:Nat)) g
theorem ok_ah{n:Nat}(F:Fun K "alike_ahead" "alike_ahead" sAh f fd)(B:Bl6 mg)(c:Dn P w K mg base (2+2*n) "alike" ["one","other"] (zBd n)):FnOk P w K mg base CX0 (2+2*n+1) f fd ["one","other"] (yEw n):=by
 refine F.okn (N:=["one","other","count","part","against"]) λac A aa s H vs Q E l hr h=>?_;ext yA h a b xs ys m z_;ext wQ z_ k J ha hb hx z_;ext wY z_ hy hf r hd q;subst J;refine{_,(zC (pS 2 l zE)
  (zC (wW PassesOwn.never O (yFj O B.zip (zA (pv 0) (zA (pv 1) zB))) (zOi (n:=2) O (vP (yF (i:=3) l O (nZ O)) (vP (yF (i:=4) l O (nZ O)) zCh))) (zC (zT (wJ (yG (pD c hr (zA (pv 3) (zA (pv 4) zB))))) (zG (zJ (pv 2))) zL)
  (zG (zOh (i:=2) l O (nZ O) zE zOr))))
  (zG (zJ (pv 2))))), ?_}
 walk_at "st";lk;refine uI a b ⟨O,O⟩ {xs,SqL.of ha} {ys,SqL.of hb} ?_;let ag:=hx...*;let ae:=hy...*;let ab:=hf.1;refine zVr (xs:=xs) (ys:=ys) (λi σ o=>(∃I M,σ= [Y (V.ref a),Y (V.ref b),Y (V.int (i:Nat)),I,M])/\Same H o/\ahead m k=i+ahead (m.drop i) (k.drop i)) {⟨_,_,O⟩,Same.refl _,by simp} (λi σ o h=>{SqL.of (h.2.1 _ _ ha),SqL.of (h.2.1 _ _ hb)}) ?_ ?_
 ·rintro i x y σ o p v z ⟨⟨I,M,rfl⟩,g,d⟩ hp
  let g2:=g.trans (zF hp (.tup [x,y]));refine oEA (hx.get v) λt ht L=>?_;refine oEA (hy.get z) λu e D=>?_;let d1:=b8 (mM ht);rw[zOd _ _ _ ht e] at d;lk;refine zYn ([x,y]) (SqT.of zD) O x ([y]) (zXf O y ([]) O O ?_);refine{x,y,t,u,O,Rep.rp _ _ (Rep.same g2 _ _ L),Rep.rp _ _ (Rep.same g2 _ _ D),b7 hf.2 (mM ht),b7 r.2 (mM e),∅,λH3 g3=>{alk t u,O, ?_}}
  cases j:alk t u with
  |false=>
   rw[j,mK ∎,Nat.add_zero] at d;rw[mN O];rw[d] at q;exact q _ (g2.trans g3)
  |true=>
   rw[j,mN O] at d;rw[mK ∎];unfold yFt ipI;lk;exact nAA {∅,_,O} (g2.trans g3) ∅
 ·rintro i σ o af h1 h2 ⟨⟨I,M,rfl⟩,g,d⟩
  lk;let:ahead (m.drop i) (k.drop i)=0:=by
   let:=wT (m.drop i) (k.drop i);rw[nI,nI] at this
   lia
  rw[this,Nat.add_zero] at d;rw[d] at q;exact q _ g
end
mutual
def T.gd:T->Prop
 |.str _=>True|.lst a=>m7 a|.tup a=>m7 a|.dic ks a=>ks.Nodup/\ks...*=a...*/\True/\m7 a|.non=>True|.bl _=>True|.int _=>True
def m7:List T->Prop
 |[]=>True|u::a=>T.gd u/\m7 a
end
mutual
noncomputable def jN:T->Nat
 |.lst a=>wC a+1|.dic _ a=>wC a+1|.tup _=>0|.non=>0|.bl _=>0|.int _=>0|.str _=>0
noncomputable def wC:List T->Nat
 |[]=>0|u::a=>max (jN u) (wC a)
end
mutual
noncomputable def lsz:T->Nat
 |.lst a=>qD a+1|.dic _ a=>qD a+1|.tup _=>1|.non=>1|.bl _=>1|.int _=>1|.str _=>1
noncomputable def qD:List T->Nat
 |[]=>0|u::a=>lsz u+qD a
end
mutual
noncomputable def lnar:T->Bool
 |.lst a=>decide (a...*<=60)&& yX a|.dic ks a=>decide (ks...*<=30)&& yX a|.tup _=>true|.non=>true|.bl _=>true|.int _=>true|.str _=>true
noncomputable def yX:List T->Bool
 |[]=>true|u::a=>lnar u && yX a
end
noncomputable def kF:T->List T
 |.lst a=>a|.dic _ a=>a|_=>[]
noncomputable def wX:T->Bool
 |.lst _=>true|.dic _ _=>true|_=>false
theorem ty_hT(t:T):(zX (tyT t) "list" || zX (tyT t) "dict")=wX t:=by
 cases t<;>(simp only[tyT,wX];decide+kernel)
theorem zEm{t:T}(h:wX t=true):T.dep t=T.deps (kF t)+1/\T.sz t=T.szs (kF t)+1/\jN t=wC (kF t)+1/\lsz t=qD (kF t)+1:=by
 cases t<;>first | exact⟨O,O,O,O⟩| cases h
noncomputable def xM(t:T):Bool:=lnar t && decide (jN t<9)&& decide (lsz t<201)
abbrev sCp:V6:=top 20
section
variable{P:V3}{w:V4}{K:A6}{mg:C8}{base:V5}{f:V1}{fd:V7}
def zFr(n:Nat):Sp:=λd H Q _=>∃(v:V)(t:T),d= [v]/\Rep H v t/\T.pure t/\T.dep t<n/\T.sz t<=100000/\∀c a D,Same H a->Sp1 a c t D->(∀b∈D,H b=none)->Q c a
theorem scCp:wF ["thing"] ["thing"] (zY sCp):=by walk_at "sc"
theorem yFp{n:Nat}(F:Fun K "copied" "copied" sCp f fd)(B:Bl mg)(m:Dn P w K mg base (1+n) "copied" ["thing"] (zFr n)):FnOk P w K mg base CX0 (1+n+1) f fd ["thing"] (zFr (n+1)):=by
 refine F.ok scCp (by walk_at "ln") λc A o s H vs Q E hr h=>?_;ext zV h v t aa r hp z_;ext oAA z_ hd hz q;subst aa;let nd:=scCp.nd;let hu:=vE hr;refine{_,(zC (zT (yG (pI B.isinstance zK B.list wA (pv 0))) (zG (zJ (vI (own:=["part"]) (F:=[]) {O,tb_g%,tb_g%,tb_g%, .nil} O (vJ (pv 0)) (λ_ _ _ _=>yF (i:=0) (by show(wM ["part"] []).Nodup;decide+kernel) O (nZ O)) (λ_ _ _ _=>xT) (λ_ _ _ _=>(pD m hr (zA (pv 0) zB)))))) zL)
  (zC (zT (yG (pI B.isinstance zK B.dict xQ (pv 0))) (zG (zJ (yW (zEi O) O B.dict xQ (zA (zEy (vI (own:=["name","part"]) (F:=[]) {O,tb_g%,tb_g%,tb_g%, .nil} O (zWa (yEa bT PySem.F.slot_dict_items PySem.F.type_dict_items zWg (pv 0))) (λ_ _ _ _=>zJn (K:=K) (n:=2) O O (vP (yF (i:=0) (by show(wM ["name","part"] []).Nodup;decide+kernel) O (nZ O)) (vP (yF (i:=1) (by show(wM ["name","part"] []).Nodup;decide+kernel) O (nZ O)) zCh))) (λ_ _ _ _=>xT) (λ_ _ _ _=>(vX (zA (pv 0) (zA (pD m hr (zA (pv 1) zB)) zB)))))) zB)))) zL)
  (zC (zT (yG (pI B.isinstance zK B.tuple zLy (pv 0))) (zG (zJ (yW zHi O B.tuple zLy (zA (vI (own:=["part"]) (F:=[]) {O,tb_g%,tb_g%,tb_g%, .nil} O (vJ (pv 0)) (λ_ _ _ _=>yF (i:=0) (by show(wM ["part"] []).Nodup;decide+kernel) O (nZ O)) (λ_ _ _ _=>xT) (λ_ _ _ _=>(pD m hr (zA (pv 0) zB)))) zB)))) zL)
  (zG (zJ (pv 0)))))), ?_}
 walk_at "st";lk
 cases t with
 |lst N=>
  ext yO r a xs aa ha hs;subst aa;let av:=d6 N;let ap:T.szs N+1<=100000:=hz;let a0:T.deps N+1<n+1:=hd;refine nEA ("list") (zAx ha) ?_;rw[mN ∎];refine zTb a O {xs,SqL.of ha} (jX (K:=K) (xs:=xs) (λi J I=>Same H I/\∃D,Sps I J (N.take i) D/\∀b∈D,H b=none) ?_ {Same.refl _,[],⟨O,O⟩,λ_ h=>(nomatch h)} (λi J I _ h=>SqL.of (h.1 _ _ ha)) ?_ ?_)
  ·let:=hs...*
   rw[mV];lia
  ·rintro i u J I aq _ ⟨g,D,hR,hD⟩
   refine oEA (hs.get aq) λt' ac af=>?_;let hm:=mM ac;let d1:=b8 hm;let d2:=c8 hm;lk;refine{u,t',O,Rep.same g u t' af,i4 hp hm,∅,∅,λv' H4 D1 g4 ag ab=>{g.trans g4,D++D1, ?_,λb x=>?_}}
   ·rw[yP ac]
    refine Sps.snoc ag (hR.same g4) λb x z=>?_;obtain⟨o,ho⟩:=Sps.there _ _ _ hR x;rw[ab b z] at ho;cases ho
   ·rcases mZ.mp x with z | z
    ·exact hD b z
    ·exact zQ g (ab b z)
  ·rintro J I _ ⟨g,D,hR,hD⟩ p y
   rw[hs...*,rB] at hR;let aw:p∉D:=λz=>by
    obtain⟨o,ho⟩:=Sps.there _ _ _ hR z;rw[y] at ho;cases ho
   refine q (.ref p) _ (p::D) (g.trans (zF y _)) {p,J,D,O,zD,O,aw,hR.same (zF y _)} λb x=>?_;rcases mG.mp x with z | z
   ·rw[z];exact zQ g y
   ·exact hD b z
 |dic ks N=>
  ext zV r d L aa M hk hs;subst aa;obtain⟨nk,hp⟩:=hp;let av:=d6 N;let ap:T.szs N+1<=100000:=hz;let a0:T.deps N+1<n+1:=hd;let ax:L...*=N...*:=by let:=hs...*;rwa [mJ] at this
  let ao:(L.map (·.1)).Nodup:=by rw[hk];exact uR nk
  refine nEA ("dict") (uV M) ?_;rw[mK ∎];refine nEA ("dict") (uV M) ?_;rw[mN ∎];refine{.inr (.inr (.inl {O, .inl ⟨L,M⟩})),d,L,O,O, .inl M,λpv ay=>?_};let s1:=zF ay (zHm pv d);let aj:=s1 _ _ M;refine gD pv d L O zD (.inl {aj,λo=>?_});let gf:Same (upd H d (.frz o (.dK L))) (upd (upd H pv (zHm pv d)) d (.frz o (.dK L))):=λb u e=>by
   by_cases x:b=d
   ·subst x;rw[zD] at e⊢;exact e
   ·rw[zM x] at e⊢
    exact s1 _ _ e
  let gH:∀b,upd (upd H pv (zHm pv d)) d (.frz o (.dK L)) b=none->H b=none:=λb e=>by
   by_cases x:b=d
   ·subst x;rw[zD] at e;cases e
   ·rw[zM x] at e
    exact zQ s1 e
  let am:Reps (upd (upd H pv (zHm pv d)) d (.frz o (.dK L))) (L.map (·.2)) N:=j4 aj hk (Reps.same s1 _ _ hs);let ak:upd (upd H pv (zHm pv d)) d (.frz o (.dK L)) d=Y (.frz o (.dK L)):=zD;generalize upd (upd H pv (zHm pv d)) d (.frz o (.dK L))=Hf at gf gH am ak⊢;refine zOv (K:=K) (λi J I=>Same Hf I/\∃(k:D7)(D:B9),k...*=J...*/\k.map (·.1)=(L.take i).map (·.1)/\Sps I (k.map (·.2)) (N.take i) D/\(∀b∈D,H b=none)/\∀(j:Nat) kv,k[j]? =Y kv->∃a,J[j]? =Y (.ref a)/\I a=Y (.tup [kV kv.1,kv.2])) ?_ {Same.refl _,[],[],O,O,⟨O,O⟩,λ_ h=>(nomatch h),by intro j kv h;simp at h} (λi J I h=>h.1 _ _ ak) ?_ ?_
  ·rw[mV];lia
  ·rintro i kv J I pt ah _ ⟨g,k,D,l1,l2,hR,hD,ht⟩ ar
   let s2:=zF ar (.tup [kV kv.1,kv.2]);let g2:=g.trans s2;lk;obtain⟨t',ac,af⟩:=am.get (i:=i) (v:=kv.2) (by rw[nG,ah];rfl);let hm:=mM ac;let d1:=b8 hm;let d2:=c8 hm;refine{kv.2,t',O,Rep.same g2 _ t' af,i4 hp hm,∅,∅,λv' H1 D1 g1 ag ab p ae=>{(g2.trans g1).trans (zF ae _),k++ [(kv.1,v')],by simp[l1], ?_,D++D1, ?_,λb x=>?_, ?_}}
   ·rw[yP ah,mU,mU,l2];rfl
   ·rw[yP ac,mU]
    refine Sps.snoc (ag.same (zF ae _)) (hR.same (s2.trans (g1.trans (zF ae _)))) λb x z=>?_;obtain⟨ob,ho⟩:=Sps.there _ _ _ (hR.same s2) x;rw[ab b z] at ho;cases ho
   ·rcases mZ.mp x with z | z
    ·exact hD b z
    ·exact gH b (zQ g2 (ab b z))
   ·intro j au hj
    by_cases az:j<k...*
    ·rw[nY az] at hj
     refine oEA (ht j au hj) λa e1 e2=>?_;exact nEA a (by rw[nY ∅];exact e1) (zF ae _ _ _ (g1 _ _ (s2 _ _ e2)))
    ·rw[nW ∅] at hj
     let ai:j - k...*=0:=by
      let:=(mS.mp hj).1
      simpa using this
     rw[ai] at hj;simp only[pP,Option.some.injEq] at hj;subst hj;exact nEA p (by rw[nW ∅,<-l1,ai];rfl) zD
  ·rintro J I _ ⟨g,k,D,l1,l2,hR,hD,ht⟩ p y
   rw[ax,rB] at hR;rw[rB] at l2;let gs:Same H (thaw H (upd I p (.lst J))):=gU (o:=o) M (gf.trans (g.trans (zF y _)));let al:Sps (thaw H (upd I p (.lst J))) (k.map (·.2)) N D:=(hR.same (zF y _)).thaw;refine vB p O J (wP zD (by intro o v z;cases z)) k (nAA l1 (λj kv hj=>?_) (λl hl=>?_))
   ·refine oEA (ht j kv hj) λa e1 e2=>?_
    exact nEA a e1 (wP (zF y _ _ _ e2) (by intro o v z;cases z))
   ·let em:jO [] k=k:=jT k [] (by rw[aJ,l2];exact ao)
    rw[em];let an:l∉D:=λz=>by
     obtain⟨ob,ho⟩:=Sps.there _ _ _ al z;rw[hl] at ho;cases ho
    refine q (.ref l) _ (l::D) (gs.trans (zF hl _)) {l,k,D,O,zD,l2.trans hk,O,an,al.same (zF hl _)} λb x=>?_;rcases mG.mp x with z | z
    ·rw[z];exact zQ gs hl
    ·exact hD b z
 |tup N=>exact hp.elim|non=>exact{_,r.ty,by rw[mK (by simp[tyT,zX])];exact{_,r.ty,by rw[mK (by simp[tyT,zX])];exact{_,r.ty,by rw[mK (by simp[tyT,zX])];exact q _ _ [] (Same.refl _) ⟨O,r⟩ (λ_ h=>nomatch h)}}}|bl b=>exact{_,r.ty,by rw[mK (by simp[tyT,zX])];exact{_,r.ty,by rw[mK (by simp[tyT,zX])];exact{_,r.ty,by rw[mK (by simp[tyT,zX])];exact q _ _ [] (Same.refl _) ⟨O,r⟩ (λ_ h=>nomatch h)}}}|int b=>exact{_,r.ty,by rw[mK (by simp[tyT,zX])];exact{_,r.ty,by rw[mK (by simp[tyT,zX])];exact{_,r.ty,by rw[mK (by simp[tyT,zX])];exact q _ _ [] (Same.refl _) ⟨O,r⟩ (λ_ h=>nomatch h)}}}|str b=>exact{_,r.ty,by rw[mK (by simp[tyT,zX])];exact{_,r.ty,by rw[mK (by simp[tyT,zX])];exact{_,r.ty,by rw[mK (by simp[tyT,zX])];exact q _ _ [] (Same.refl _) ⟨O,r⟩ (λ_ h=>nomatch h)}}}
abbrev sCo:V6:=top 67
theorem scCo:wF ["_law_thing"] ["_law_thing"] (zY sCo):=by walk_at "sc"
def zMq(n:Nat):Sp:=λd H Q _=>∃(v:V)(t:T),d= [v]/\Rep H v t/\T.few t/\T.dep t<n/\∀c a D,Same H a->Sp1 a c t D->(∀b∈D,H b=none)->Q c a
theorem yGj{n:Nat}(F:Fun K "_law_held" "_law_held" sCo f fd)(B:Bl mg)(m:Dn P w K mg base (1+n) "_law_held" ["_law_thing"] (zMq n)):FnOk P w K mg base CX0 (1+n+1) f fd ["_law_thing"] (zMq (n+1)):=by
 refine F.ok scCo (by walk_at "ln") λc A o s H vs Q E hr h=>?_;ext zV h v t aa I hp z_;ext oA z_ hd q;subst aa;let nd:=scCo.nd;let hu:=vE hr;refine{_,(zC (zT (yG (pI B.isinstance zK B.list wA (pv 0))) (zG (zJ (vI (own:=["_law_one"]) (F:=[]) {O,tb_g%,tb_g%,tb_g%, .nil} O (vJ (pv 0)) (λ_ _ _ _=>yF (i:=0) (by show(wM ["_law_one"] []).Nodup;decide+kernel) O (nZ O)) (λ_ _ _ _=>xT) (λ_ _ _ _=>(pD m hr (zA (pv 0) zB)))))) zL)
  (zC (zT (yG (pI B.isinstance zK B.dict xQ (pv 0))) (zG (zJ (yW (zEi O) O B.dict xQ (zA (zEy (vI (own:=["_law_name"]) (F:=[("_law_thing",0)]) {O,tb_g%,tb_g%,tb_g%,(.cons O O O .nil)} O (zJa (pv 0)) (λ_ _ _ _=>yF (i:=0) (by show(wM ["_law_name"] [("_law_thing",0)]).Nodup;decide+kernel) O (nZ O)) (λ_ _ _ _=>xT) (λ_ _ _ _=>(vX (zA (pv 0) (zA (pD m hr (zA (vT hu (pv 1) (pv 0) (λ_ _=>O)) zB)) zB)))))) zB)))) zL)
  (zG (zJ (pv 0))))), ?_}
 walk_at "st";lk
 cases t with
 |lst us=>
  ext yO I a xs aa ha hs;subst aa;obtain⟨ar,hp⟩:=hp;let ax:T.deps us+1<n+1:=hd;refine nEA ("list") (zAx ha) ?_;rw[mN ∎];refine zTb a O {xs,SqL.of ha} (jX (K:=K) (xs:=xs) (λi J x=>Same H x/\∃D,Sps x J (us.take i) D/\∀b∈D,H b=none) ?_ {Same.refl _,[],⟨O,O⟩,λ_ h=>(nomatch h)} (λi J x _ h=>SqL.of (h.1 _ _ ha)) ?_ ?_)
  ·let:=hs...*
   rw[mV];lia
  ·rintro i u J x ap _ ⟨g,D,N,hD⟩
   refine oEA (hs.get ap) λt' ae ag=>?_;let hm:=mM ae;let d1:=b8 hm;lk;refine{u,t',O,Rep.same g u t' ag,b7 hp hm,∅,λv' H4 D1 g4 ah ac=>{g.trans g4,D++D1, ?_,λb y=>?_}}
   ·rw[yP ae]
    refine Sps.snoc ah (N.same g4) λb y z=>?_;obtain⟨o,ho⟩:=Sps.there _ _ _ N y;rw[ac b z] at ho;cases ho
   ·rcases mZ.mp y with z | z
    ·exact hD b z
    ·exact zQ g (ac b z)
  ·rintro J x _ ⟨g,D,N,hD⟩ p r
   rw[hs...*,rB] at N;let au:p∉D:=λz=>by
    obtain⟨o,ho⟩:=Sps.there _ _ _ N z;rw[r] at ho;cases ho
   refine q (.ref p) _ (p::D) (g.trans (zF r _)) {p,J,D,O,zD,O,au,N.same (zF r _)} λb y=>?_;rcases mG.mp y with z | z
   ·rw[z];exact zQ g r
   ·exact hD b z
 |dic ks us=>
  ext zV I d L aa ab hk hs;subst aa;ext yZ hp nk ay ar hp;let ax:T.deps us+1<n+1:=hd;let av:L...*=us...*:=by let:=hs...*;rwa [mJ] at this
  let ak:(L.map (·.1)).Nodup:=by rw[hk];exact uR nk
  refine nEA ("dict") (uV ab) ?_;rw[mK ∎];refine nEA ("dict") (uV ab) ?_;rw[mN ∎];refine nEAE d O L (.inl {ab,λo=>?_});let gf:Same (upd H d (.frz o (.dK L))) (upd H d (.frz o (.dK L))):=Same.refl _;let gH:∀b,upd H d (.frz o (.dK L)) b=none->H b=none:=λb e=>by
   by_cases y:b=d
   ·subst y;rw[zD] at e;cases e
   ·rw[zM y] at e
    exact e
  let an:Reps (upd H d (.frz o (.dK L))) (L.map (·.2)) us:=j4 ab hk hs;let aj:upd H d (.frz o (.dK L)) d=Y (.frz o (.dK L)):=zD;generalize hHf:upd H d (.frz o (.dK L))=Hf at gf gH an aj⊢;refine zDh (λi J x=>Same Hf x/\∃(k:D7)(D:B9),k...*=J...*/\k.map (·.1)=(L.take i).map (·.1)/\Sps x (k.map (·.2)) (us.take i) D/\(∀b∈D,H b=none)/\∀(j:Nat) M,k[j]? =Y M->∃a,J[j]? =Y (.ref a)/\x a=Y (.tup [kV M.1,M.2])) ?_ {Same.refl _,[],[],O,O,⟨O,O⟩,λ_ h=>(nomatch h),by intro j M h;simp at h} (λi J x h=>h.1 _ _ aj) ?_ ?_
  ·rw[mV];lia
  ·rintro i M J x ai _ ⟨g,k,D,l1,l2,N,hD,ht⟩
   let s2:=Same.refl x;let g2:=g.trans s2;lk;obtain⟨t',ae,ag⟩:=an.get (i:=i) (v:=M.2) (by rw[nG,ai];rfl);let hm:=mM ae;let d1:=b8 hm;refine{M.2, .inl {L,M.1, .inr {o,g _ _ aj},O,(zCl ak ai).symm},M.2,t',O,Rep.same g2 _ t' ag,b7 hp hm,∅,λv' H1 D1 g1 ah ac p af=>{(g2.trans g1).trans (zF af _),k++ [(M.1,v')],by simp[l1], ?_,D++D1, ?_,λb y=>?_, ?_}}
   ·rw[yP ai,mU,mU,l2];rfl
   ·rw[yP ae,mU]
    refine Sps.snoc (ah.same (zF af _)) (N.same (s2.trans (g1.trans (zF af _)))) λb y z=>?_;obtain⟨ob,ho⟩:=Sps.there _ _ _ (N.same s2) y;rw[ac b z] at ho;cases ho
   ·rcases mZ.mp y with z | z
    ·exact hD b z
    ·exact gH b (zQ g2 (ac b z))
   ·intro j aq hj
    by_cases aw:j<k...*
    ·rw[nY aw] at hj
     refine oEA (ht j aq hj) λa e1 e2=>?_;exact nEA a (by rw[nY ∅];exact e1) (zF af _ _ _ (g1 _ _ (s2 _ _ e2)))
    ·rw[nW ∅] at hj
     let al:j - k...*=0:=by
      let:=(mS.mp hj).1
      simpa using this
     rw[al] at hj;simp only[pP,Option.some.injEq] at hj;subst hj;exact nEA p (by rw[nW ∅,<-l1,al];rfl) zD
  ·rintro J x _ ⟨g,k,D,l1,l2,N,hD,ht⟩ p r
   rw[av,rB] at N;rw[rB] at l2;let gs:Same H (thaw H (upd x p (.lst J))):=gU (o:=o) ab (by rw[hHf];exact g.trans (zF r _));let am:Sps (thaw H (upd x p (.lst J))) (k.map (·.2)) us D:=(N.same (zF r _)).thaw;refine vB p O J (wP zD (by intro o v z;cases z)) k (nAA l1 (λj M hj=>?_) (λl hl=>?_))
   ·refine oEA (ht j M hj) λa e1 e2=>?_
    exact nEA a e1 (wP (zF r _ _ _ e2) (by intro o v z;cases z))
   ·let em:jO [] k=k:=jT k [] (by rw[aJ,l2];exact ak)
    rw[em];let ao:l∉D:=λz=>by
     obtain⟨ob,ho⟩:=Sps.there _ _ _ am z;rw[hl] at ho;cases ho
    refine q (.ref l) _ (l::D) (gs.trans (zF hl _)) {l,k,D,O,zD,l2.trans hk,O,ao,am.same (zF hl _)} λb y=>?_;rcases mG.mp y with z | z
    ·rw[z];exact zQ gs hl
    ·exact hD b z
 |tup us=>exact hp.elim|non=>exact{_,I.ty,by rw[mK (by simp[tyT,zX])];exact{_,I.ty,by rw[mK (by simp[tyT,zX])];exact q _ _ [] (Same.refl _) ⟨O,I⟩ (λ_ h=>nomatch h)}}|bl b=>exact{_,I.ty,by rw[mK (by simp[tyT,zX])];exact{_,I.ty,by rw[mK (by simp[tyT,zX])];exact q _ _ [] (Same.refl _) ⟨O,I⟩ (λ_ h=>nomatch h)}}|int b=>exact{_,I.ty,by rw[mK (by simp[tyT,zX])];exact{_,I.ty,by rw[mK (by simp[tyT,zX])];exact q _ _ [] (Same.refl _) ⟨O,I⟩ (λ_ h=>nomatch h)}}|str b=>exact{_,I.ty,by rw[mK (by simp[tyT,zX])];exact{_,I.ty,by rw[mK (by simp[tyT,zX])];exact q _ _ [] (Same.refl _) ⟨O,I⟩ (λ_ h=>nomatch h)}}
theorem yGu(F:Fun K "copied" "copied" sCp f fd):FnOk P w K mg base CX0 1 f fd ["thing"] (zFr 0):=by
 refine F.ok scCp (by walk_at "ln") λc A o s H e Q E g h=>?_;ext zV h v t a j i d;ext oA d b _;subst a;exact absurd b (rA _)
theorem yGd(F:Fun K "_law_held" "_law_held" sCo f fd):FnOk P w K mg base CX0 1 f fd ["_law_thing"] (zMq 0):=by
 refine F.ok scCo (by walk_at "ln") λc A o s H e Q E g h=>?_;ext zV h v t a j i d;ext oA d b _;subst a;exact absurd b (rA _)
theorem zZj(F:Fun K "copied" "copied" sCp f fd)(B:Bl mg)(b:Binds K fd ["thing"] [])(a:A7 K (.ref f)=true)(m:mg "copied" =Y (.ref f)):∀n:Nat,FnOk P w K mg base CX0 (1+n) f fd ["thing"] (zFr n)
 |0=>yGu F|n+1=>yFp F B {_,_,zZj F B b a m n,b,a,m}
theorem zYa(F:Fun K "_law_held" "_law_held" sCo f fd)(B:Bl mg)(b:Binds K fd ["_law_thing"] [])(a:A7 K (.ref f)=true)(m:mg "_law_held" =Y (.ref f)):∀n:Nat,FnOk P w K mg base CX0 (1+n) f fd ["_law_thing"] (zMq n)
 |0=>yGd F|n+1=>yGj F B {_,_,zYa F B b a m n,b,a,m}
end
mutual
def T.gk:T->Prop
 |.int i=>-(10 ^ 12)<=i/\i<=10 ^ 12|.str x=>x...*<=30/\∀c∈x,c∈zCx|.lst ts=>j5 ts|.dic ks ts=>(∀k∈ks,xA k=true)/\j5 ts|.tup _=>False|.non=>True|.bl _=>True
def j5:List T->Prop
 |[]=>True|t::ts=>T.gk t/\j5 ts
end
theorem d4{t:T}:∀{ts:B0},j5 ts->t∈ts->T.gk t
 |[],_,h=>nomatch h|u::ts,h,a=>(mG.mp a).elim (λe=>e▸h.1) (d4 h.2)
theorem i5{ts:B0}(h:∀t∈ts,T.gk t):j5 ts:=by
 induction ts with|nil=>exact mT|cons t ts b=>exact{h t mE,b λu a=>h u (mI _ a)}
structure Fig(d z:Nat)(t:T):Prop where
 few:T.few t
 gk:T.gk t
 dep:T.dep t<=d
 sz:T.sz t<=z
theorem Fig.row{d z:Nat}{us:B0}(h:∀u∈us,T.few u/\T.gk u/\T.dep u+1<=d)(c:1<=d)(hz:T.szs us+1<=z)(b:T.szs us<=100000):Fig d z (.lst us):=by
 refine{{pB (zRk us) b,zCd λu a=>(h u a).1},i5 λu a=>(h u a).2.1, ?_,hz};let:T.deps us<=d - 1:=d9 λu a=>by let:=(h u a).2.2;lia
 show T.deps us+1<=d
 lia
theorem m9{d z:Nat}{ks:C6}{us:B0}(b:∀k∈ks,xA k=true)(e:ks.Nodup)(c:ks...*<64)(f:ks...*=us...*)(h:∀u∈us,T.few u/\T.gk u/\T.dep u+1<=d)(g:1<=d)(hz:T.szs us+1<=z):Fig d z (.dic ks us):=by
 refine{{e,c,f,zCd λu a=>(h u a).1},{b,i5 λu a=>(h u a).2.1}, ?_,hz};let:T.deps us<=d - 1:=d9 λu a=>by let:=(h u a).2.2;lia
 show T.deps us+1<=d
 lia
theorem gR:∀(d:Nat)(t:T),d<=4->Nice d t->Fig d (uL d) t
 |d, .non,_,_=>{mT,mT,nJ _,zAz d}|d, .bl _,_,_=>{mT,mT,nJ _,zAz d}|d, .int _,_,h=>{mT,h,nJ _,zAz d}|d, .str x,_,h=>by
  let c:zDq x=true:=h;unfold zDq at c;simp only[nH,nX,rH] at c;exact{mT,c,nJ _,zAz d}
 |0, .lst ts,_,h=>absurd h.1 ∎|d+1, .lst ts,l,h=>by
  obtain⟨_,f,g⟩:=h;let k:∀t∈ts,Fig d (uL d) t:=λt b=>gR d t ∅ (NiceL_iff.mp g t b);let z:=zDb λt b=>(k t b).sz;let n:ts...**uL d<=4*uL d:=aT _ f;let o:=zVv d ∅;refine Fig.row (λu a=>{(k u a).few,(k u a).gk,rK (k u a).dep}) (rK (nJ _)) ?_ ∅;show _<=4*uL d+1
  lia
 |0, .dic j ts,_,h=>absurd h.1 ∎|d+1, .dic j ts,l,h=>by
  ext zS h _ f e m i g;let k:∀t∈ts,Fig d (uL d) t:=λt b=>gR d t ∅ (NiceL_iff.mp g t b);let z:=zDb λt b=>(k t b).sz;let n:ts...**uL d<=4*uL d:=aT _ f;refine m9 i m ∅ e (λu a=>{(k u a).few,(k u a).gk,rK (k u a).dep}) (rK (nJ _)) ?_;show _<=4*uL d+1
  lia
 |d, .tup ts,_,h=>by cases d<;>exact h.elim
theorem zUv:∀k∈([]:C6),xA k=true:=λ_ h=>nomatch h
abbrev sLo:V6:=top 32
noncomputable def zR:T->Key->Option T
 |.lst a, .inl i=>a[i.toNat]?|.dic ks a, .inr s=>if ts s∈ks then Y (zH (ts s) ks a) else none|_,_=>none
def okK:Key->Prop
 |.inl i=>0<=i/\i<=59|.inr _=>True
theorem zVb{H:Hp}{ps:D7}{ks:C6}{us:B0}(d:ks.Nodup)(c:ps.map (·.1)=ks.map nK)(g:Reps H (ps.map (·.2)) us)(s:Str):(jL ps (Sum.inr s)).isSome=decide (ts s∈ks):=by
 by_cases a:ts s∈ks
 ·obtain⟨v,b,_⟩:=Rep.at_name d c g a
  rw[jH] at b;rw[b,nF a]
  rfl
 ·rw[nP a,zAv (by
   rw[c];intro z;obtain⟨k,b,f⟩:=nS.mp z;let e:tx k=s:=Sum.inr.inj f;rw[<-e,wG] at a;exact a b)]
  rfl
theorem zZn{K:A6}{H:Hp}{v:V}{t:T}{k:Key}{Q:VK}(h:Rep H v t)(l:T.pure t)(u:okK k)(q:Q (.bl (zR t k).isSome) H):∃x,tyS H (kV k)=Y x/\if zX x "str" =true then∃x,tyS H v=Y x/\if zX x "dict" =true then zTr (qH 1) (qH 0) [Y v,Y (kV k)] H Q else Q (V.bl false) H
  else∃x,tyS H v=Y x/\if zX x "list" =true then∃p,v=V.ref p/\∃ys,SqL K H p ys/\∃i,kV k=V.int i/\Q (V.bl (decide (i<(ys...*:Int)))) H else Q (V.bl false) H:=by
 cases k with
 |inl i=>
  let y:0<=i:=u.1;refine nEA ("int") O (iN ∎ {_,h.ty, ?_})
  cases t with
  |lst d=>
   ext yO h a o f j m;subst f;refine iP O {a,O,o,SqL.of j,i,O, ?_};let w:=m...*;let e:(zR (.lst d) (.inl i)).isSome=decide (i<(o...*:Int)):=by
    show(d[i.toNat]?).isSome=_
    by_cases c:i.toNat<d...*
    ·rw[mP c,nF ∅]
     rfl
    ·rw[sY ∅,nP ∅]
     rfl
   rw[<-e];exact q
  |non=>exact iN (by simp[tyT,zX]) q|bl b=>exact iN (by simp[tyT,zX]) q|int b=>exact iN (by simp[tyT,zX]) q|str b=>exact iN (by simp[tyT,zX]) q|dic g d=>exact iN (by simp[tyT,zX]) q|tup d=>exact l.elim
 |inr s=>
  refine nEA ("str") O (iP ∎ {_,h.ty, ?_})
  cases t with
  |dic g d=>
   ext zV h a r f j n m;subst f;refine iP O {a,_,O, .inl {r, .inr s, .inl j,O,O}, ?_};rw[zVb l.1 n m];let e:(zR (.dic g d) (.inr s)).isSome=decide (ts s∈g):=by
    show(if ts s∈g then Y (zH (ts s) g d) else none).isSome=_
    by_cases c:ts s∈g
    ·rw[mN c,nF c];rfl
    ·rw[mK c,nP c];rfl
   rw[<-e];exact q
  |non=>exact iN (by simp[tyT,zX]) q|bl b=>exact iN (by simp[tyT,zX]) q|int b=>exact iN (by simp[tyT,zX]) q|str b=>exact iN (by simp[tyT,zX]) q|lst d=>exact iN (by simp[tyT,zX]) q|tup d=>exact l.elim
section
variable{P:V3}{w:V4}{K:A6}{mg:C8}{base:V5}{f:V1}{fd:V7}
def zUi:Sp:=λb H Q _=>∃(v:V)(t:T)(k:Key),b= [v,kV k]/\Rep H v t/\T.pure t/\T.sz t<=100000/\okK k/\∀a,Same H a->Q (.bl (zR t k).isSome) a
theorem ok_lo(F:Fun K "leads_on" "leads_on" sLo f fd)(B:Bl mg):FnOk P w K mg base CX0 1 f fd ["thing","step"] zUi:=by
 refine F.okn (N:=["thing","step"]) λe A b s H m Q E o c h=>?_;ext yB h v t k a l j;ext yZ j d n g q;subst a;let i:=vE c;refine{_,(zC (zT (yG (pI B.isinstance zK B.str qP (pv 1))) (zG (zJ (qJ (pI B.isinstance zK B.dict xQ (pv 0)) (qT (zJx (zHa i (pv 1) (pv 0))))))) zL)
  (zG (zJ (qJ (pI B.isinstance zK B.list wA (pv 0)) (qT (pE kS (pv 1) (zO zZ O B.len yR (zA (pv 0) zB)))))))), ?_}
 walk_at "st";lk;exact zZn l d g (q _ (Same.refl _))
noncomputable def goT:T->List Key->List T
 |t,[]=>[t]|t,k::a=>match zR t k with
  |none=>[t]|some u=>t::goT u a
theorem zRw{H:Hp}{c:V}{u n:T}{k:Key}(J:Rep H c u)(l:T.pure u)(t:T.sz u<=100000)(N:okK k)(d:zR u k=Y n):
  ∃q,Rep H q n/\T.pure n/\T.sz n<=100000/\((∃b zs j,c= .ref b/\H b=Y (.lst zs)/\kV k= .int j/\atI zs j=Y q)\/(∃b y,c= .ref b/\H b=Y (.dK y)/\jL y k=Y q)):=by
 cases k with
 |inl j=>
  let hj:0<=j:=N.1
  cases u with
  |lst m=>
   let a:m[j.toNat]? =Y n:=d;ext yO J b zs i D r;subst i;let g:=mM a;let aa:=r...*;let ab:=(mS.mp a).1;let s:j.toNat<zs...*:=by lia
   obtain⟨t',p,A⟩:=r.get (mP s);rw[a] at p;cases p;let d2:=c8 g;let I:T.szs m+1<=100000:=t;let B:atI zs j=some zs[j.toNat]:=by
    let z:=yI (j:=j.toNat) (mP s)
    rwa [show((j.toNat:Nat):Int)=j by lia] at z
   exact zGn _ A (i4 l g) ∅ (.inl ⟨b,zs,j,O,D,O,B⟩)
  |non=>cases d|bl b=>cases d|int b=>cases d|str b=>cases d|dic e h=>cases d|tup h=>cases d
 |inr z=>
  cases u with
  |dic e m=>
   let a:(if ts z∈e then Y (zH (ts z) e m) else none)=Y n:=d
   by_cases g:ts z∈e
   ·rw[mN g] at a
    cases a;ext zV J b y i D x o;subst i;obtain⟨q,L,Q⟩:=Rep.at_name l.1 x o g;rw[jH] at L;let I:T.szs m+1<=100000:=t;let E:e...*=m...*:=by
     let M:=congrArg List.length x;let e2:=o...*;rw[mJ,mJ] at M;rw[mJ] at e2
     lia
    let v:=yC g E;let d2:=c8 v;exact zGn q Q (i4 l.2 v) ∅ (.inr ⟨b,y,O,D,L⟩)
   ·rw[mK g] at a
    cases a
  |non=>cases d|bl b=>cases d|int b=>cases d|str b=>cases d|lst h=>cases d|tup h=>cases d
inductive Wd where
 |put | ins | tak
noncomputable def Wd.s:Wd->Str
 |.put=>A5 "put"|.ins=>A5 "insert"|.tak=>A5 "take"
noncomputable def xN:Wd->T->Key->Bool
 |.tak,t,k=>(zR t k).isSome|.put, .dic _ _, .inr _=>true|.put, .lst us, .inl i=>decide (i<=(us...*:Int))|.ins, .lst us, .inl i=>decide (i<=(us...*:Int))|_,_,_=>false
noncomputable def yV(n:List Nat):List (List Nat)->List T->List T
 |k::b,u::a=>if k=n then yV n b a else u::yV n b a|_,_=>[]
noncomputable def xI(n:List Nat):List (List Nat)->List (List Nat)
 |k::a=>if k=n then xI n a else k::xI n a|[]=>[]
noncomputable def yD:Wd->T->Key->T->T
 |.put, .dic ks a, .inr s,n=>.dic (yE (ks,a) (ts s) n).1 (yE (ks,a) (ts s) n).2|.tak, .dic ks a, .inr s,_=>.dic (xI (ts s) ks) (yV (ts s) ks a)|.put, .lst a, .inl i,n=>.lst (a.take i.toNat++n::a.drop (i.toNat+1))|.ins, .lst a, .inl i,n=>.lst (a.take i.toNat++n::a.drop i.toNat)|.tak, .lst a, .inl i,_=>.lst (a.take i.toNat++a.drop (i.toNat+1))|_,t,_,_=>t
noncomputable def bld(st:B0)(ks:B8):Nat->T->T
 |0,r=>r|m+1,r=>bld st ks m (yD .put (st.getD m .non) (ks.getD m (.inl 0)) r)
noncomputable def chG(w:Wd)(a:T->Key->T)(t:T)(ks:B8)(n:T):Sum Nat T:=
 match ks.getLast? with
 |none=>match w with
  |.put=>.inr n|_=>.inl 0
 |some k=>if(goT t ks.dropLast)...*<ks...* then .inl ((goT t ks.dropLast)...* - 1) else
  match (goT t ks.dropLast).getLast? with|none=>.inl 0|some s=>if xN w s k=true then .inr (bld (goT t ks.dropLast) ks (ks...* - 1) (a s k)) else .inl (ks...* - 1)
theorem dropN_mem{n k:List Nat}:∀{ks:C6},k∈xI n ks↔k∈ks/\k≠n
 |[]=>by simp[xI]|k'::ks=>by
  unfold xI;split
  ·rename_i e
   rw[dropN_mem (ks:=ks),e];constructor
   ·exact λh=>{mI _ h.1,h.2}
   ·rintro⟨h1,a⟩
    rcases mG.mp h1 with z | z
    ·exact absurd z a
    ·exact⟨z,a⟩
  ·rename_i e
   rw[mG,dropN_mem (ks:=ks),mG];constructor
   ·rintro(h | h)
    ·exact{.inl h,by rw[h];exact e}
    ·exact{.inr h.1,h.2}
   ·rintro⟨h1 | h1,a⟩
    ·exact .inl h1
    ·exact .inr ⟨h1,a⟩
theorem vC{n:List Nat}:∀{ks:C6},ks.Nodup->(xI n ks).Nodup
 |[],_=>by simp[xI]|k::ks,h=>by
  rw[pC] at h;unfold xI;split
  ·exact vC h.2
  ·rw[pC]
   exact{λz=>h.1 (dropN_mem.mp z).1,vC h.2}
theorem uQ{n:List Nat}:∀{ks:C6}{us:B0},ks...*=us...*->(xI n ks)...*=(yV n ks us)...*/\(yV n ks us)...*<=us...*
 |[],[],_=>{O,mC _}|[],_::_,h=>by simp at h|_::_,[],h=>by simp at h|k::ks,u::us,h=>by
  obtain⟨b,a⟩:=uQ (n:=n) (ks:=ks) (us:=us) (by simpa using h);unfold xI yV;split
  ·exact{b,tV a}
  ·exact{by rw[mX,mX,b],rK a}
theorem gM{n:List Nat}{u:T}:∀{ks:C6}{us:B0},u∈yV n ks us->u∈us
 |[],us,h=>by cases us<;>simp[yV] at h|_::_,[],h=>by simp[yV] at h|k::ks,v::us,h=>by
  unfold yV at h;split at h
  ·exact mI _ (gM h)
  ·rcases mG.mp h with z | z
   ·rw[z];exact mE
   ·exact mI _ (gM z)
theorem gK{n k:List Nat}(a:k≠n):∀{ks:C6}{us:B0},ks...*=us...*->zH k (xI n ks) (yV n ks us)=zH k ks us
 |[],[],_=>rfl|[],_::_,h=>by simp at h|_::_,[],h=>by simp at h|k'::ks,u::us,h=>by
  let b:=gK a (ks:=ks) (us:=us) (by simpa using h);unfold xI yV;split
  ·rename_i e
   rw[b];show _=if k'=k then u else zH k ks us;rw[mK (by rw[e];exact Ne.symm a)]
  ·show(if k'=k then u else zH k (xI n ks) (yV n ks us))=if k'=k then u else zH k ks us
   rw[b]
theorem zAf{k n:List Nat}{t:T}:∀{ks:C6}{us:B0},ks...*=us...*->k∈ks->zH k (ks++ [n]) (us++ [t])=zH k ks us
 |[],_,_,h=>nomatch h|_::_,[],h,_=>by simp at h|k'::ks,u::us,a,h=>by
  show(if k'=k then u else zH k (ks++ [n]) (us++ [t]))=if k'=k then u else zH k ks us
  by_cases e:k'=k
  ·rw[mN e,mN e]
  ·rw[mK e,mK e]
   rcases mG.mp h with z | z
   ·exact absurd z.symm e
   ·exact zAf (by simpa using a) z
theorem uC{n:List Nat}{t:T}:∀{ks:C6}{us:B0},ks...*=us...*->n∉ks->zH n (ks++ [n]) (us++ [t])=t
 |[],[],_,_=>mN O|[],_::_,h,_=>by simp at h|_::_,[],h,_=>by simp at h|k'::ks,u::us,a,h=>by
  show(if k'=n then u else zH n (ks++ [n]) (us++ [t]))=t;rw[mK (λe=>h (by rw[e];exact mE))];exact uC (by simpa using a) λz=>h (mI _ z)
theorem kB{n k:List Nat}{t:T}:∀{ks:C6}{us:B0},ks...*=us...*->n∈ks->zH k ks (yQ n t ks us)=if k=n then t else zH k ks us
 |[],_,_,h=>nomatch h|_::_,[],h,_=>by simp at h|k'::ks,u::us,j,h=>by
  show(if k'=k then(if k'=n then t else u) else zH k ks (yQ n t ks us))=if k=n then t else if k'=k then u else zH k ks us
  by_cases e:k'=k
  ·rw[mN e,mN e,e]
  ·rw[mK e,mK e]
   by_cases c:n∈ks
   ·exact kB (by simpa using j) c
   ·let g:k'=n:=by
     rcases mG.mp h with z | z
     ·exact z.symm
     ·exact absurd z c
    rw[mK (by rw[<-g];exact Ne.symm e)];let:∀(ks:C6)(us:B0),n∉ks->yQ n t ks us=us:=by
     intro ks
     induction ks with
     |nil=>intro us _;unfold yQ;rfl|cons a ks i=>
      intro us d
      cases us with
      |nil=>rfl|cons b us=>
       show(if a=n then t else b)::yQ n t ks us=b::us;rw[mK (λz=>d (by rw[z];exact mE)),i us λz=>d (mI _ z)]
    rw[this ks us c]
theorem zAn{n k:List Nat}{t:T}{ks:C6}{us:B0}(d:ks...*=us...*)(g:k∈ks\/k=n):k∈(yE (ks,us) n t).1/\zH k (yE (ks,us) n t).1 (yE (ks,us) n t).2=if k=n then t else zH k ks us:=by
 by_cases c:n∈ks
 ·let e:yE (ks,us) n t=(ks,yQ n t ks us):=mN c
  rw[e];refine{?_,kB d c};rcases g with z | z
  ·exact z
  ·rw[z];exact c
 ·let e:yE (ks,us) n t=(ks++ [n],us++ [t]):=mK c
  rw[e]
  by_cases a:k=n
  ·rw[mN a,a]
   exact{by simp,uC d c}
  ·rw[mK a]
   let b:k∈ks:=g.resolve_right a;exact{pG _ b,zAf d b}
theorem zIk{n:List Nat}{t:T}:∀{ks:C6}{us:B0},ks.Nodup->ks...*=us...*->n∈ks->T.szs (yQ n t ks us)=T.szs (yV n ks us)+T.sz t
 |[],_,_,_,h=>nomatch h|_::_,[],_,h,_=>by simp at h|k::ks,u::us,g,c,h=>by
  rw[pC] at g
  by_cases e:k=n
  ·let p:∀(ks:C6)(us:B0),ks...*=us...*->n∉ks->yQ n t ks us=us/\yV n ks us=us:=by
    intro ks
    induction ks with
    |nil=>intro us c _;cases us with
     |nil=>exact⟨O,O⟩|cons _ _=>simp at c
    |cons a ks j=>
     intro us c l
     cases us with
     |nil=>simp at c|cons b us=>
      obtain⟨d,i⟩:=j us (by simpa using c) λz=>l (mI _ z);let m:¬a=n:=λz=>l (by rw[z];exact mE);refine{?_, ?_}
      ·show(if a=n then t else b)::yQ n t ks us=b::us
       rw[mK m,d]
      ·show(if a=n then yV n ks us else b::yV n ks us)=b::us
       rw[mK m,i]
   obtain⟨d,i⟩:=p ks us (by simpa using c) (by rw[<-e];exact g.1);show T.szs ((if k=n then t else u)::yQ n t ks us)=T.szs (if k=n then yV n ks us else u::yV n ks us)+T.sz t;rw[mN e,mN e,d,i];show T.sz t+T.szs us=_
   lia
  ·let o:n∈ks:=by
    rcases mG.mp h with z | z
    ·exact absurd z.symm e
    ·exact z
   let j:=zIk (t:=t) g.2 (by simpa using c) o (us:=us);show T.szs ((if k=n then t else u)::yQ n t ks us)=T.szs (if k=n then yV n ks us else u::yV n ks us)+T.sz t;rw[mK e,mK e];show T.sz u+T.szs (yQ n t ks us)=T.sz u+T.szs (yV n ks us)+T.sz t
   lia
theorem zDo{n:List Nat}:∀{ks:C6}{us:B0},T.szs (yV n ks us)<=T.szs us
 |[],us=>by
  let e:yV n [] us= []:=by cases us<;>rfl
  rw[e];exact nJ _
 |_::_,[]=>mC _|k::ks,u::us=>by
  let a:=zDo (n:=n) (ks:=ks) (us:=us);show T.szs (if k=n then yV n ks us else u::yV n ks us)<=T.sz u+T.szs us;split
  ·lia
  ·show T.sz u+_<=_;lia
theorem zIj{n:List Nat}:∀{ks:C6}{us:B0},ks...*=us...*->n∉ks->yV n ks us=us/\xI n ks=ks
 |[],[],_,_=>⟨O,O⟩|[],_::_,h,_=>by simp at h|_::_,[],h,_=>by simp at h|k::ks,u::us,e,a=>by
  obtain⟨c,d⟩:=zIj (n:=n) (ks:=ks) (us:=us) (by simpa using e) λz=>a (mI _ z);let b:¬k=n:=λz=>a (by rw[z];exact mE);refine{?_, ?_}
  ·show(if k=n then yV n ks us else u::yV n ks us)=_
   rw[mK b,c]
  ·show(if k=n then xI n ks else k::xI n ks)=_
   rw[mK b,d]
theorem zNt{n:List Nat}{t:T}{ks:C6}{us:B0}(c:ks.Nodup)(b:ks...*=us...*):T.szs (yE (ks,us) n t).2=T.szs (yV n ks us)+T.sz t:=by
 by_cases a:n∈ks
 ·let e:yE (ks,us) n t=(ks,yQ n t ks us):=mN a
  rw[e];exact zIk c b a
 ·let e:yE (ks,us) n t=(ks++ [n],us++ [t]):=mK a
  rw[e,(zIj b a).1];show T.szs (us++ [t])=_;rw[c7];rfl
theorem l4{H:Hp}:∀{us:B0}{vs:B3}{D:B9}{i:Nat}{t:T},Sps H vs us D->us[i]? =Y t->∃v d,vs[i]? =Y v/\Sp1 H v t d/\(∀b∈d,b∈D)/\
  ∀g c t',(∀b∈D,g b=none)->Rep (uZ g c) v t'->Keep d H c->Reps (uZ g c) vs (us.set i t')
 |[],_,_,i,t,_,h=>by simp at h|u::us,_,_,0,t,⟨v,r,d,y,rfl,rfl,p,n,l⟩,h=>by
  let e:u=t:=by simpa using h
  subst e;refine uI v d O p (λb a=>pG _ a) (λg c t' k m j=>{v,r,O,m, ?_});exact Sps.rep _ _ _ (Sps.keep _ _ _ (λb a o _ e=>by
   rw[wZ (k b (nN _ a))];exact j b o (λz=>l b z a) e) n)
 |u::us,_,_,i+1,t,⟨v,r,d,y,rfl,rfl,p,n,l⟩,h=>by
  refine zV (l4 (i:=i) n (by simpa using h)) λw s A g2 q x=>?_;refine uI w s (by simpa using A) g2 (λb a=>nN _ (q b a)) (λg c t' k m j=>{v,r,O, ?_,x g c t' (λb a=>k b (nN _ a)) m j});exact Sp1.rep _ _ _ (Sp1.keep _ _ _ (λb a o _ e=>by
   rw[wZ (k b (pG _ a))];exact j b o (λz=>l b a (q b z)) e) p)
theorem jV{n:List Nat}{t:T}:∀(ks:C6)(us:B0),ks.Nodup->ks...*=us...*->n∈ks->yQ n t ks us=us.set (ks.idxOf n) t
 |[],_,_,_,h=>nomatch h|_::_,[],_,h,_=>by simp at h|k::ks,u::us,d,j,m=>by
  rw[pC] at d;let e:yQ n t (k::ks) (u::us)=(if k=n then t else u)::yQ n t ks us:=rfl;rw[e]
  by_cases h:k=n
  ·subst h
   let g:∀(b:C6)(a:B0),k∉b->yQ k t b a=a:=by
    intro b
    induction b with
    |nil=>intro a _;unfold yQ;rfl|cons l b o=>
     intro a i
     cases a with
     |nil=>unfold yQ;rfl|cons w a=>
      let p:yQ k t (l::b) (w::a)=(if l=k then t else w)::yQ k t b a:=rfl;rw[p,mK (λz=>i (by rw[z];exact mE)),o a λz=>i (mI _ z)]
   rw[mN O,g ks us d.1,List.idxOf_cons_self]
   rfl
  ·let c:(k::ks).idxOf n=ks.idxOf n+1:=by rw[List.idxOf_cons,show(k==n)=false from sL.mpr h];rfl
   rw[mK h,c,jV ks us d.2 (by simpa using j) ((mG.mp m).resolve_left (Ne.symm h))]
   rfl
theorem zCz{α:Type}{us:List α}{i:Nat}{r:α}(h:i<us...*):us.set i r=us.take i++r::us.drop (i+1):=cA.trans (mN h)
theorem wS{H a:Hp}{d:V1}{o:HO}(g:Same H a)(h:H d=none):Same H (upd a d o):=λb u e=>by
 let c:b≠d:=λz=>by subst z;rw[h] at e;cases e
 rw[zM c];exact g _ _ e
theorem zHk(ks:B8)(k:Key):ks.map kV++ [kV k]=(ks++ [k]).map kV:=by rw[mU];rfl
theorem zEz{H:Hp}{a:V1}{ps:D7}{ks:C6}{us:B0}(d:ks.Nodup)(c:ps.map (·.1)=ks.map λk=>(Sum.inr (tx k):Key))(j:Reps H (ps.map (·.2)) us)(i:H a=Y (.dK ps)){k:List Nat}(e:k∈ks):∃v,(∀b,Same H b->zGz b a (.str (tx k)) ↥v)/\Rep H v (zH k ks us):=by
 obtain⟨v,l,h⟩:=Rep.at_name d c j e;exact nEA v (λb g=>.inl {ps,Sum.inr (tx k), .inl (g _ _ i),O,l.symm}) h
theorem zCk{H:Hp}{a:V1}{ps:D7}{ks:C6}(d:ps.map (·.1)=ks.map λk=>(Sum.inr (tx k):Key))(c:H a=Y (.dK ps)){k:List Nat}(g:k∉ks):zGz H a (.str (tx k)) none:=by
 refine .inl {ps,Sum.inr (tx k), .inl c,O,(zAv λz=>g ?_).symm};rw[d] at z;obtain⟨h,e,b⟩:=nS.mp z;rw[<-zAe b];exact e
noncomputable def doT(w:Wd)(n:T):List Key->T->Option T
 |[],_=>match w with
  |.put=>Y n|_=>none
 |[k],t=>if xN w t k=true then Y (yD w t k n) else none|k::a::b,t=>match zR t k with
  |some s=>(doT w n (a::b) s).map λr=>yD .put t k r|none=>none
structure Cx2(H0 H:Hp)(v:V)(up:T->T)(x:V)(s:T)(D:B9):Prop where
 sp:Sp1 H x s D
 new:∀b∈D,H0 b=none
 few:T.few s
 cls:∀H' s',Rep (uZ H0 H') x s'->Keep D H H'->Rep (uZ H0 H') v (up s')
theorem Cx2.refl{a H:Hp}{v:V}{t:T}{D:B9}(h:Sp1 H v t D)(c:∀b∈D,a b=none)(d:T.few t):Cx2 a H v (λr=>r) v t D:={h,c,d,λ_ _ r _=>r}
theorem Cx2.row{g H:Hp}{v:V}{s:T->T}{a:V1}{us:B0}{D:B9}(C:Cx2 g H v s (.ref a) (.lst us) D){i:Int}(h0:0<=i){u:T}(m:us[i.toNat]? =Y u):∃xs y L,H a=Y (.lst xs)/\xs...*=us...*/\xs[i.toNat]? =Y y/\Cx2 g H v (λr=>s (yD .put (.lst us) (.inl i) r)) y u L:=by
 refine yB (C.sp) λQ xs N e p B=>?_;ext oAA B l A q;subst l;cases e;refine zV (l4 q m) λy n J I j E=>?_;let x:=mM m;let M:=C.few;refine{xs,y,n,p,q...*,J,I,λb c=>C.new b (mI _ (j b c)),b7 M.2 x,λo t r k=>?_};let h:a∉n:=λz=>A (j a z);let d:=(mS.mp m).1;refine C.cls o (.lst (us.take i.toNat++t::us.drop (i.toNat+1))) {a,xs,O, ?_, ?_} (k.mono λb c=>mI _ (j b c))
 ·rw[wZ (C.new a mE)];exact k a _ h p
 ·rw[<-zCz d]
  exact E g o t (λb c=>C.new b (mI _ c)) r k
theorem Cx2.rcd{m H:Hp}{v:V}{s:T->T}{a:V1}{ks:C6}{us:B0}{D:B9}(C:Cx2 m H v s (.ref a) (.dic ks us) D){z:Str}(k:ts z∈ks):∃ps y Q,H a=Y (.dK ps)/\ps.map (·.1)=ks.map nK/\jL ps (nK (ts z))=Y y/\Cx2 m H v (λr=>s (yD .put (.dic ks us) (.inr z) r)) y (zH (ts z) ks us) Q:=by
 refine yB (C.sp) λa' ps D1 e x z_=>?_;ext yZ z_ c l na J;subst l;cases e;let g:=C.few;let t:=zEp k;let A:ks.idxOf (ts z)<us...*:=by rw[<-g.2.2.1];exact sU k
 let B:us[ks.idxOf (ts z)]? =Y (zH (ts z) ks us):=by
  rw[mP A];exact congrArg some (kM g.1 t (mP A)).symm
 refine zV (l4 J B) λy u E N p M=>?_;let I:=mM B;let hv:jL ps (nK (ts z))=Y y:=by
  rw[nG] at E;obtain⟨kv,h,rfl⟩:=pU.mp E;refine zCl (i:=ks.idxOf (ts z)) (by rw[c];exact uR g.1) ?_;let:(ps.map (·.1))[ks.idxOf (ts z)]? =Y (nK (ts z)):=by rw[c,nG,t];rfl
  rw[nG,h] at this;rw[h,<-mQ this]
 refine{ps,y,u,x,c,hv,N,λb j=>C.new b (mI _ (p b j)),b7 g.2.2.2 I,λq d r o=>?_};let n:a∉u:=λz=>na (p a z);let L:yE (ks,us) (ts z) d=(ks,us.set (ks.idxOf (ts z)) d):=by
  let:yE (ks,us) (ts z) d=(ks,yQ (ts z) d ks us):=mN k;rw[this,jV ks us g.1 g.2.2.1 k]
 refine C.cls q (.dic (yE (ks,us) (ts z) d).1 (yE (ks,us) (ts z) d).2) ?_ (o.mono λb j=>mI _ (p b j));rw[L];refine{a,ps,O, ?_,c,M m q d (λb j=>C.new b (mI _ j)) r o};rw[wZ (C.new a mE)];exact o a _ n x
theorem Reps.dropK{H:Hp}{n:List Nat}:∀{ps:D7}{ks:C6}{us:B0},ps.map (·.1)=ks.map nK->Reps H (ps.map (·.2)) us->(L2.dropK ps (nK n)).map (·.1)=(xI n ks).map nK/\Reps H ((L2.dropK ps (nK n)).map (·.2)) (yV n ks us)
 |[],[],us,_,h=>by
  let e:us= []:=by
   cases us with
   |nil=>rfl|cons _ _=>obtain⟨v,r,e,_⟩:=h;cases e
  subst e;exact⟨O,O⟩
 |[],_::_,_,e,_=>by simp at e|_::_,[],_,e,_=>by simp at e|p::ps,k::ks,[],_,h=>by
  let g:(p::ps).map (·.2)= []:=h;cases g
 |p::ps,k::ks,u::us,e,⟨l,r,i,t,q⟩=>by
  let x:p.2::ps.map (·.2)=l::r:=i;injection x with j m;subst j m;let s:p.1::ps.map (·.1)=nK k::ks.map nK:=e;injection s with d o;obtain⟨b,c⟩:=Reps.dropK (n:=n) o q;unfold L2.dropK at b c⊢;rw[aS];unfold xI yV
  by_cases a:k=n
  ·rw[mK (by simp[d,a]),mN a,mN a]
   exact⟨b,c⟩
  ·rw[mN (by rw[d];exact nF λz=>a (zAe z)),mK a,mK a]
   exact{by rw[nO,nO,d,b],_,_,O,t,c}
abbrev sPi:V6:=top 68
theorem uW{c H H1:Hp}{a:V1}{o:HO}{xs:B3}{us:B0}{D:B9}(j:Sps H xs us D)(h:a∉D)(i:∀b∈D,c b=none)(g:Same H H1):Reps (uZ c (upd H1 a o)) xs us:=
 Sps.rep _ _ _ (Sps.keep _ _ _ (λb d u _ e=>by
  rw[wZ (i b d),zM λz=>h (by rw[<-z];exact d)];exact g _ _ e) j)
theorem zJz{d H H1:Hp}{a:V1}{o k:HO}{v:V}{u:T}{D:B9}(j:Sp1 H1 v u D)(h:∀b∈D,H b=none)(i:Same d H)(g:H a=Y k):Rep (uZ d (upd H1 a o)) v u:=
 Sp1.rep _ _ _ (Sp1.keep _ _ _ (λb c u _ e=>by
  rw[wZ (zQ i (h b c)),zM λz=>by rw[z] at c;rw[h a c] at g;cases g];exact e) j)
def spPi:Sp:=λg H Q _=>∃(c:Hp)(x e:V)(a:Wd)(k:Key)(s u:T)(D:B9),g= [x, .str a.s,kV k,e]/\Same c H/\Sp1 H x s D/\(∀b∈D,c b=none)/\T.few s/\okK k/\Rep H e u/\T.few u/\T.dep u<20/\T.sz s<=100000/\(xN a s k=true->∀d,Keep D H d->Rep (uZ c d) x (yD a s k u)->Q (.bl true) d)/\(xN a s k=false->Q (.bl false) H)
theorem ok_pi{k:Nat}(F:Fun K "_law_put_in" "_law_put_in" sPi f fd)(B:Bl mg)(c:Dn P w K mg base k "_law_held" ["_law_thing"] (zMq 20)):FnOk P w K mg base CX0 (k+1) f fd ["_law_thing","_law_word","_law_step","_law_new"] spPi:=by
 refine F.okn (N:=["_law_thing","_law_word","_law_step","_law_new"]) λaw A au s H vs Q E nd hr h=>?_;ext yA h H0 x vn J ky z_;ext yB z_ t u D av g0 z_;ext zS z_ ae e hf hk aj z_;ext wY z_ ah ai al q qn;subst av;let hu:=vE hr;refine{_,(zC (zT (i8 (vZ (yG (pI B.isinstance zK B.dict xQ (pv 0))) (qE (yG (pI B.isinstance zK B.str qP (pv 2)))))) (zC (zT (pT xD (pv 1) zP) (zG (zEu hu (pv 0) (pv 2) (pD c hr (zA (pv 3) zB)) O)) zL)
  (zC (zT (i8 (vZ (pT xD (pv 1) zP) (qE (zAm (zHa hu (pv 2) (pv 0)))))) (zC (xS (zMe (pv 0) (pv 2) ⟨O,O,O,O⟩))
  (zG (zJ vQ))) zL)
  (zG (zJ (pE xD (pv 1) zP))))) zL)
  (zC (zT (i8 (zBb (wJ (yG (pI B.isinstance zK B.list wA (pv 0)))) (zAl (yG (pI B.isinstance zK B.str qP (pv 2)))))) (zG (zJ vQ)) zL)
  (zC (zT (i8 (zBb (i8 (vZ (pT xD (pv 1) zP) (qE (pT zAh (pv 2) (zO zZ O B.len yR (zA (pv 0) zB)))))) (zAl (i8 (vZ (pT xD (pv 1) zP) (qE (pT xD (pv 2) (zO zZ O B.len yR (zA (pv 0) zB))))))))) (zC (xS (qA pA PySem.F.slot_list_insert PySem.F.type_list_insert zTj (pv 0) (zA (pv 2) (zA (pD c hr (zA (pv 3) zB)) zB))))
  (zG (zJ vQ))) zL)
  (zC (zT (pT op_ge (pv 2) (zO zZ O B.len yR (zA (pv 0) zB))) (zG (zJ vQ)) zL)
  (zC (zT (pT xD (pv 1) zP) (zG (xS (qA pA PySem.F.slot_list_pop PySem.F.type_list_pop zYm (pv 0) (zA (pv 2) zB)))) zL)
  (zC (zT (pT xD (pv 1) zP) (zG (yHb (pD c hr (zA (pv 3) zB)) (yFm (pv 0) (pv 2) zUo))) zL)
  (zG (zJ vQ)))))))), ?_}
 walk_at "st";unfold zTr zWx gSub;lk;let n1:(A5 "put" =A5 "take")=False:=dO (by decide+kernel);let n2:(A5 "put" =A5 "insert")=False:=dO (by decide+kernel);let n3:(A5 "insert" =A5 "take")=False:=dO (by decide+kernel);let n4:(A5 "insert" =A5 "put")=False:=dO (by decide+kernel);let n5:(A5 "take" =A5 "put")=False:=dO (by decide+kernel);let n6:(A5 "take" =A5 "insert")=False:=dO (by decide+kernel);let aa:=(Sp1.rep _ _ _ ae).ty;refine nEA _ aa ?_;let l:xN J t ky=false->zX (tyT t) "dict" =false->zX (tyT t) "list" =false->∀{R1 R2:Prop},(if zX (tyT t) "dict" =true then R1 else∃ak,tyS H x=Y ak/\if zX ak "list" =false then Q (V.bl false) H else R2):=λar h1 h2=>iN (by rw[h1];decide) {_,aa,iP h2 (qn ar)}
 cases t with
 |dic ks d=>
  refine iP (by simp only[tyT];decide+kernel) ?_;ext yB ae a ps D1 af j z_;ext yZ z_ M an na hs;subst af an;let m:∀b∈D1,H0 b=none:=λb hb=>e b (mI _ hb);let ab:=hs...*;let aq:=d6 d;let ap:T.szs d+1<=100000:=al;rw[mJ] at ab
  cases ky with
  |inl i=>exact{"int",O,iN ∎ {_,aa,iP (by simp only[tyT];decide+kernel) (qn (by cases J<;>rfl))}}|inr z=>
   refine nEA ("str") O (iP ∎ ?_);let ex:(Sum.inr z:Key)=nK (ts z):=by show(Sum.inr z:Key)=Sum.inr (tx (ts z));rw[jH]
   cases J with
   |put=>
    refine iP O {vn,u,O,aj,ah,ai,λv' L D2 r I y=>?_};refine qM a O _ (DPut.k (k:=Sum.inr z) (r _ _ j) (by rw[mV];lia)) (iN (by show¬(A5 "put" =_);rw[n1];exact id) ?_);rw[ex];obtain⟨p1,p2⟩:=zFx (H:=uZ H0 (upd L a (.dK (jK ps (nK (ts z)) v')))) (p:=(ks,d)) (n:=ts z) (v:=v') (t:=u) M (uW hs na m r) (zJz I y g0 j);exact q O _ ((Keep.of r).put _ mE) {a,_,O,by rw[wZ (e a mE)];exact zD,p1,p2}
   |ins=>
    exact iN (by show¬(A5 "insert" =_);rw[n4];exact id) (iN (by show¬(A5 "insert" =_);rw[n3];exact id) (qn O))
   |tak=>
    refine iN (by show¬(A5 "take" =_);rw[n5];exact id) (iP O ?_)
    by_cases hz:ts z∈ks
    ·refine oEA (Rep.at_name hf.1 M (Sps.rep _ _ _ hs) hz) λxv am _=>?_
     refine qM a O ↥xv (.inl {ps,Sum.inr z, .inl j,O,by rw[ex];exact am.symm}) (iP O {a,O, .inl {ps, .inl j},ps,j,Sum.inr z,O,{xv,by rw[ex];exact am}, ?_});rw[ex];obtain⟨p1,p2⟩:=Reps.dropK (n:=ts z) M (uW (H1:=H) (a:=a) (o:=.dK (dropK ps (nK (ts z)))) hs na m (Same.refl _));refine q ?_ _ (Keep.refl.put _ mE) {a,_,O,by rw[wZ (e a mE)];exact zD,p1,p2};show(if ts z∈ks then Y (zH (ts z) ks d) else none).isSome=true;rw[mN hz];rfl
    ·refine qM a O _ (by let:=zCk M j hz;rw[jH] at this;exact this) (iN ∎ (qn ?_))
     show(if ts z∈ks then Y (zH (ts z) ks d) else none).isSome=false;rw[mK hz];rfl
 |lst d=>
  refine iN (by simp only[tyT];decide+kernel) {_,aa,iN (by simp only[tyT];decide+kernel) ?_};ext yB ae a g D1 af j z_;ext oAA z_ ao na hs;subst af ao
  cases ky with
  |inr z=>exact{"str",O,iP ∎ (qn (by cases J<;>rfl))}|inl i=>
   refine nEA ("int") O (iN ∎ ?_);let ag:0<=i:=hk.1;let m:∀b∈D1,H0 b=none:=λb hb=>e b (mI _ hb);let ab:=hs...*;let aq:=d6 d;let ap:T.szs d+1<=100000:=al;let tv:tyV K "list" (V.ref a) H:=.inl {O,g,SqL.of j};let ac:(∀H',Keep (a::D1) H H'->Rep (uZ H0 H') (.ref a) (.lst (d.take i.toNat++u::d.drop i.toNat))->Q (.bl true) H')->i<=(g...*:Int)->zMq 20 [vn] H (λx L=>rIns (V.ref a) [kV (Sum.inl i),x] L λx L=>Q (V.bl true) L) E0:=λqq hi=>by
    refine{vn,u,O,aj,ah,ai,λv' L D2 r I y=>?_};refine{a,g,i,v',O,O,r _ _ j,ag,hi,by rw[mV];lia,∅, ?_};let r1:=uW (H1:=L) (a:=a) (o:=.lst (g.take i.toNat++v'::g.drop i.toNat)) hs na m r;exact qq _ ((Keep.of r).put _ mE) {a,_,O,by rw[wZ (e a mE)];exact zD,Reps.append (vs:=u::d.drop i.toNat) (show Reps _ (v'::g.drop i.toNat) (u::d.drop i.toNat) from{v',_,O,zJz I y g0 j,Reps.drop _ r1}) (Reps.take _ r1)}
   cases J with
   |put=>
    refine iN (by show¬(A5 "put" =_);rw[n2];exact id) (iP O {a,O,g,SqL.of j,O, ?_});let hc:xN .put (.lst d) (.inl i)=decide (i<=(d...*:Int)):=rfl
    by_cases hi:i=(g...*:Int)
    ·refine iP (by rw[hi];rfl) {tv,ac (λH' k' r'=>q (by rw[hc];exact nF ∅) H' k' ?_) ∅}
     show Rep _ _ (.lst (d.take i.toNat++u::d.drop (i.toNat+1)));rw[rC (show d...*<=i.toNat by lia)] at r';rw[rC ∅];exact r'
    ·refine iN (λz=>hi (V.int.inj z)) {a,O,g,SqL.of j,i,O, ?_}
     by_cases hj:(g...*:Int)<=i
     ·exact iP hj (qn (by rw[hc];exact nP ∅))
     ·refine iN hj (iN (by show¬(A5 "put" =_);rw[n1];exact id) (iP O ?_))
      refine{vn,u,O,aj,ah,ai,λv' L D2 r I y=>?_};refine{a,g,i,i.toNat,O,O,r _ _ j,by unfold ixN;rw[mN ag,mN ∅], ?_};let r1:=uW (H1:=L) (a:=a) (o:=.lst (g.set i.toNat v')) hs na m r;refine q (by rw[hc];exact nF ∅) _ ((Keep.of r).put _ mE) ?_;show Rep _ _ (.lst (d.take i.toNat++u::d.drop (i.toNat+1)));rw[<-zCz ∅];exact{a,_,O,by rw[wZ (e a mE)];exact zD,Reps.set (zJz I y g0 j) _ r1}
   |ins=>
    let hc:xN .ins (.lst d) (.inl i)=decide (i<=(d...*:Int)):=rfl;refine iP O {a,O,g,SqL.of j,i,O, ?_}
    by_cases hi:i<=(g...*:Int)
    ·exact iP hi {tv,ac (q (by rw[hc];exact nF ∅)) hi}
    ·exact iN hi (iN (by show¬(A5 "insert" =_);rw[n4];exact id) {a,O,g,SqL.of j,i,O,iP ∅ (qn (by rw[hc];exact nP ∅))})
   |tak=>
    let hc:xN .tak (.lst d) (.inl i)=(d[i.toNat]?).isSome:=rfl;refine iN (by show¬(A5 "take" =_);rw[n6];exact id) (iN (by show¬(A5 "take" =_);rw[n5];exact id) {a,O,g,SqL.of j,i,O, ?_})
    by_cases hj:(g...*:Int)<=i
    ·exact iP hj (qn (by rw[hc,sY ∅];rfl))
    ·refine iN hj (iP O ?_)
     refine{tv,a,g,i,i.toNat,_,O,O,j,∅,∅,(zKw (by unfold ixN;rw[mN ag,mN ∅])).1,mP ∅, ?_};refine iN (by show¬(A5 "take" =_);rw[n5];exact id) ?_;let r1:=uW (H1:=H) (a:=a) (o:=.lst (g.eraseIdx i.toNat)) hs na m (Same.refl _);refine q (by rw[hc,mP ∅];rfl) _ (Keep.refl.put _ mE) {a,_,O,by rw[wZ (e a mE)];exact zD, ?_};rw[List.eraseIdx_eq_take_drop_succ] at r1⊢;exact Reps.append (Reps.drop _ r1) (Reps.take _ r1)
 |tup d=>exact hf.elim|non=>exact l (by cases J<;>rfl) (by simp only[tyT];decide+kernel) (by simp only[tyT];decide+kernel)|bl _=>exact l (by cases J<;>rfl) (by simp only[tyT];decide+kernel) (by simp only[tyT];decide+kernel)|int _=>exact l (by cases J<;>rfl) (by simp only[tyT];decide+kernel) (by simp only[tyT];decide+kernel)|str _=>exact l (by cases J<;>rfl) (by simp only[tyT];decide+kernel) (by simp only[tyT];decide+kernel)
abbrev sDo:V6:=top 69
def yCr(H:Hp)(d:V1)(c:Wd)(ks:B8)(u:T):Prop:=∃a r b,H d=Y (.tup (.str c.s:: .ref a::r))/\H a=Y (.lst (ks.map kV))/\(.str c.s:: .ref a::r:B3).getLast? =Y b/\r...*<=1/\Rep H b u
structure yCj(ks:B8)(u:T):Prop where
 l:ks...*<=100
 s:∀k∈ks,okK k
 f:T.few u
 d:T.dep u<20
theorem kH{w:Wd}{n:T}{k:Key}{ks:B8}{t:T}(h:ks≠ []):doT w n (k::ks) t=match zR t k with
  |some s=>(doT w n ks s).map λr=>yD .put t k r|none=>none:=by
 cases ks with|nil=>exact absurd O h|cons a ks=>rfl
def spDo:Sp:=λe H Q _=>∃(v:V)(d:V1)(c:Wd)(b:B8)(t u:T),e= [v, .ref d]/\Rep H v t/\T.few t/\T.dep t<20/\T.sz t<=100000/\yCr H d c b u/\yCj b u/\(∀r,doT c u b t=Y r->∀l x a,Same H a->a l=Y (.lst [.bl true,x])->Rep (uZ H a) x r->Q (.ref l) a)/\(doT c u b t=none->∀l x a,Same H a->a l=Y (.lst [.bl false,x])->Q (.ref l) a)
theorem ok_do{k:Nat}(F:Fun K "_law_deed_on" "_law_deed_on" sDo f fd)(B:Bl mg)(n:Dn P w K mg base k "_law_held" ["_law_thing"] (zMq 20))(I:Dn P w K mg base k "_law_put_in" ["_law_thing","_law_word","_law_step","_law_new"] spPi):FnOk P w K mg base CX0 (k+1) f fd ["_law_thing","_law_deed_here"] spDo:=by
 refine F.okn (N:=["_law_thing","_law_deed_here","_law_new","_law_whole","_law_there","_law_step"]) λbf A a4 s H vs Q E nd hr h=>?_;obtain⟨v,d,wd,ks,t,u,rfl,hv,hf,hd,hz,⟨pd,r,vn,a0,an,aa,a1,av⟩,hI,q,qn⟩:=h;let hu:=vE hr;let ba:=hr.units0;refine{_,(zC (pS 2 nd (pX kC (pv 1) (xW xH zE)))
  (zC (zT (pT (zRr ba) (pX kC (pv 1) zE) (yM zB)) (zG (zJ (yM (zA (pE xD (pX kC (pv 1) zE) zP) (zA (pD n hr (zA (pv 2) zB)) zB))))) zL)
  (zC (pS 3 nd (pD n hr (zA (pv 0) zB)))
  (zC (pS 4 nd (pv 3))
  (zC (wW PassesOwn.never O (vJ (jC kZ (pX kC (pv 1) zE) kQ (qY (xW xH zE)))) (yF (i:=5) nd O (nZ O)) (zG (zT (i8 (vZ (yG (pI B.isinstance zK B.dict xQ (pv 4))) (vZ (yG (pI B.isinstance zK B.str qP (pv 5))) (qE (zAm (zHa hu (pv 5) (pv 4))))))) (zG (pS 4 nd (vT hu (pv 4) (pv 5) (λ_ _=>O)))) (zG (zT (i8 (vZ (yG (pI B.isinstance zK B.list wA (pv 4))) (vZ (wJ (yG (pI B.isinstance zK B.str qP (pv 5)))) (qE (pT kS (pv 5) (zO zZ O B.len yR (zA (pv 4) zB))))))) (zG (pS 4 nd (pX zU (pv 4) (pv 5)))) (zG (zJ (yM (zA vQ (zA zAc zB))))))))))
  (zG (zJ (yM (zA (pD I hr (zA (pv 4) (zA (pX kC (pv 1) zE) (zA (pX zU (pX kC (pv 1) zE) (xW xH zE)) (zA (pv 2) zB))))) (zA (pv 3) zB)))))))))), ?_}
 walk_at "st";lk;let M:∀{H':Hp},Same H H'->SqT K H' d (.str wd.s:: .ref pd::r):=λg=>SqT.of (g _ _ a0);let ay:atI (.str wd.s:: .ref pd::r:B3) (-1)=Y vn:=by
  rcases r with _ |⟨y,_ |⟨z,r⟩⟩
  ·simpa [atI,ixN] using aa
  ·simpa [atI,ixN] using aa
  ·exact absurd a1 (by simp)
 let ar:=Same.refl H;refine qO (M ar) ay (qO (M ar) (yI (j:=1) O) λp hp=>?_);let s1:=zF hp (.lst []);refine{pd,p,ks.map kV,O,O,SqL.of (s1 _ _ an),SqL.of zD,_,O, ?_};generalize upd H p (.lst [])=H1 at s1⊢
 by_cases ak:ks= []
 ·subst ak
  refine iP O (qO (M s1) (yI (j:=0) O) {O,vn,u,O,Rep.same s1 _ _ av,hI.f,hI.d,λx H2 D2 g2 ao al l hl=>?_});let s3:=zF hl (.lst [V.bl (decide (V.str wd.s=V.str (A5 "put"))),x]);let bc:=Sp1.new (ao.same s3) λb hb=>zQ s1 (al b hb)
  cases wd with|put=>exact q u O l x _ (s1.trans (g2.trans s3)) (by rw[zD,nF (show V.str (Wd.put).s=V.str (A5 "put") from O)]) bc|ins=>exact qn O l x _ (s1.trans (g2.trans s3)) (by rw[zD,nP (show¬V.str (Wd.ins).s=V.str (A5 "put") from λz=>absurd (V.str.inj z) (by decide+kernel))])|tak=>exact qn O l x _ (s1.trans (g2.trans s3)) (by rw[zD,nP (show¬V.str (Wd.tak).s=V.str (A5 "put") from λz=>absurd (V.str.inj z) (by decide+kernel))])
 ·refine iN (by cases ks<;>simp_all) {v,t,O,Rep.same s1 _ _ hv,hf,hd,λx H2 D2 g2 ao al=>?_}
  let am:=s1.trans g2;refine qO (M am) (yI (j:=1) O) {pd,_,O,SqL.of (am _ _ an),λpc ax=>{pc,O,{_,SqL.of zD}, ?_}};rw[zNo];obtain⟨m,L,rfl⟩:∃m L,ks=m++ [L]:={ks.dropLast,ks.getLast ak,(aQ ak).symm};let ek:List.take (((m++ [L]).map kV)...* - 1) ((m++ [L]).map kV)=m.map kV:=by
   rw[mU,mL,mJ];exact aK (by simp)
  rw[ek] at*;let s3:=zF ax (.lst (m.map kV));let e3:=zD (H:=H2) (a:=pc) (o:=.lst (m.map kV));generalize upd H2 pc (.lst (m.map kV))=H3 at s3 e3⊢;let J:=am.trans s3;let C0:Cx2 H H3 x (λr=>r) x t D2:=Cx2.refl (ao.same s3) (λb hb=>zQ s1 (al b hb)) hf;let af:doT wd u (m++ [L]) t=none->∀(l:V1),H3 l=none->Q (V.ref l) (upd H3 l (.lst [V.bl false,V.non])):=λhn l hl=>qn hn l .non _ (J.trans (zF hl _)) zD;refine gP (K:=K) (a:=pc) (xs:=m.map kV) (λi σ H'=>H'=H3/\∃(y:V)(s:T)(D:B9)(up:T->T)(o:Option V),σ= [Y v,Y (V.ref d),Y vn,Y x,Y y,o]/\Cx2 H H3 x up y s D/\T.sz s<=100000/\doT wd u (m++ [L]) t=(doT wd u (m.drop i++ [L]) s).map up) {O,_,_,_,_,_,O,C0,hz,by simp} (λi σ H' _ h=>by rw[h.1];exact SqL.of e3) ?_ ?_
  ·rintro i kv σ H' aq ⟨rfl,y,s,D,up,o,rfl,C,ag,c⟩
   rw[nG] at aq;refine oEA (pU.mp aq) λk hk az=>?_;subst az;let a':=hI.s k (pG _ (mM hk));let a8:m.drop i++ [L]=k::(m.drop (i+1)++ [L]):=by
    obtain⟨a9,e⟩:=mS.mp hk;rw[pZ a9,e];rfl
   rw[a8,kH (by simp)] at c;let ae:=(Sp1.rep _ _ _ C.sp).ty;unfold zTr zCs;lk;refine nEA _ ae ?_
   cases s with
   |dic hs us=>
    refine iP (by simp only[tyT];decide+kernel) ?_
    cases k with
    |inl i=>exact{"int",O,iN ∎ {_,ae,iN (by simp only[tyT];decide+kernel) (af c)}}|inr z=>
     refine nEA ("str") O (iP ∎ ?_);let ex:(Sum.inr z:Key)=nK (ts z):=by show(Sum.inr z:Key)=Sum.inr (tx (ts z));rw[jH]
     refine yB (C.sp) λa ps D1 aj ha z_=>?_;ext yZ z_ a5 _ _ _;subst aj;let ac:zR (.dic hs us) (.inr z)=if ts z∈hs then Y (zH (ts z) hs us) else none:=rfl;rw[ac] at c
     by_cases hz:ts z∈hs
     ·refine yB (C.rcd hz) λap y' D' ab be z_=>?_
      ext oA z_ ai C';rw[<-ex] at ai;rw[mN hz] at c;let bb:=C.few;let bd:=c8 (yC hz bb.2.2.1);let a2:T.szs us+1<=100000:=ag;exact qM a O _ (.inl {ap,Sum.inr z, .inl ab,O,ai.symm}) (iP O {a,O,_, .inl {ap,Sum.inr z, .inl ab,O,ai.symm},y',⟨O,_,O⟩,_,_,_,C',∅,by rw[c,Option.map_map];rfl})
     ·rw[mK hz] at c
      exact qM a O none (by let:=zCk a5 ha hz;rw[jH] at this;exact this) (iN ∎ {_,ae,iN (by simp only[tyT];decide+kernel) (af c)})
   |lst us=>
    refine iN (by simp only[tyT];decide+kernel) {_,ae,iP (by simp only[tyT];decide+kernel) ?_}
    cases k with
    |inr z=>exact{"str",O,iN ∎ (af c)}|inl i=>
     let a3:0<=i:=a'.1;refine nEA ("int") O (iP ∎ ?_);refine yB (C.sp) λa xs D1 aj ha z_=>?_;ext oAA z_ _ _ hs;subst aj;let hl:=hs...*;refine vB a O xs (SqL.of ha) i (nA O ?_)
     by_cases hi:i<(xs...*:Int)
     ·obtain⟨w0,ah⟩:∃w0,us[i.toNat]? =Y w0:={us[i.toNat]'∅,mP _}
      refine yB (C.row a3 ah) λbh y' D' ab bg z_=>?_;ext oA z_ a6 C';let ac:zR (.lst us) (.inl i)=us[i.toNat]?:=rfl;rw[ac,ah] at c;let bd:=c8 (mM ah);let a2:T.szs us+1<=100000:=ag;rw[ha] at ab;cases ab;let ey:atI xs i=Y y':=by rw[show i=((i.toNat:Nat):Int) by lia];exact yI a6
      exact iP hi (yH (SqL.of ha) ey {O,y',⟨O,_,O⟩,_,_,_,C',∅,by rw[c,Option.map_map];rfl})
     ·let ac:zR (.lst us) (.inl i)=us[i.toNat]?:=rfl
      rw[ac,sY ∅] at c;exact iN hi (af c)
   |tup _=>exact C.few.elim|_=>exact iN (by simp only[tyT];decide+kernel) {_,ae,iN (by simp only[tyT];decide+kernel) (af c)}
  ·rintro σ H' ⟨rfl,y,s,D,up,o,rfl,C,ag,c⟩
   let au:=hI.s L (nN _ mE);rw[mJ,aV] at c;let a7:doT wd u ([]++ [L]) s=if xN wd s L=true then Y (yD wd s L u) else none:=rfl;rw[a7] at c;lk;let el:atI ((m++ [L]).map kV) (-1)=Y (kV L):=by
    rw[mU];exact xV _ _
   refine qO (M J) (yI (j:=0) O) (qO (M J) (yI (j:=1) O) (yH (SqL.of (J _ _ an)) el ?_));refine{H,y,vn,wd,L,s,u,D,O,J,C.sp,C.new,C.few,au,Rep.same J _ _ av,hI.f,hI.d,ag,λhc H4 hk aw l hl=>?_,λhc l hl=>?_}
   ·rw[mN hc] at c
    let s5:=zF hl (.lst [V.bl true,x]);exact q _ c l x _ ((hk.old J C.new).trans s5) zD (Rep.same (zTf s5) _ _ (C.cls H4 _ aw hk))
   ·rw[mK (by rw[hc];decide)] at c
    exact qn c l x _ (J.trans (zF hl _)) zD
theorem zBv:∀(n:Nat)(t:T),T.few t->T.dep t<n->xO (zN t) (zN t)=0
 |0,_,_,h=>absurd h (rA _)|n+1,t,d,j=>by
  cases t with
  |non=>decide+kernel|bl b=>cases b<;>decide+kernel|int i=>show xO (.int i) (.int i)=0;rw[xO];unfold sgI;rw[mK ∅];rfl|str x=>show xO (.str x) (.str x)=0;rw[zEo,gJ]|lst a=>
   let e:T.deps a+1<n+1:=j;refine(zAw a a).mpr {O,λi t r o m=>?_};rw[o] at m;cases m;let c:=mM o;let:=b8 c;exact zBv n t (b7 d.2 c) ∅
  |dic q a=>
   let e:T.deps a+1<n+1:=j;ext yZ d p _ g d;refine(wI p).mpr {O,λk l=>{l, ?_}};let c:=yC l g;let:=b8 c;exact zBv n _ (b7 d c) ∅
  |tup a=>exact d.elim
theorem zBq{t:T}(h:T.few t):alk t t=true:=nF (zBv (T.dep t+1) t h (tZ _))
theorem alk_lst{us ws:B0}:alk (.lst us) (.lst ws)=true↔us...*=ws...*/\∀(i:Nat) t u,us[i]? =Y t->ws[i]? =Y u->alk t u=true:=by
 unfold alk;rw[nX,zAw];exact cO λ_=>{λh i t u b a=>nF (h i t u b a),λh i t u b a=>rJ (h i t u b a)}
theorem yAr{ks ls:C6}{us ws:B0}(b:ks.Nodup):alk (.dic ks us) (.dic ls ws)=true↔ks...*=ls...*/\∀k∈ks,k∈ls/\alk (zH k ks us) (zH k ls ws)=true:=by
 unfold alk;rw[nX,wI b];exact cO λ_=>{λh k a=>{(h k a).1,nF (h k a).2},λh k a=>{(h k a).1,rJ (h k a).2}}
theorem zDc:∀{us ws:B0}{i:Nat}{t u:T},i<ahead us ws->us[i]? =Y t->ws[i]? =Y u->alk t u=true
 |[],_,_,_,_,h,_,_=>absurd h (rA _)|_::_,[],_,_,_,h,_,_=>absurd h (rA _)|a::us,b::ws,i,t,u,h,g,d=>by
  let e:ahead (a::us) (b::ws)=if alk a b=true then ahead us ws+1 else 0:=rfl;rw[e] at h
  by_cases c:alk a b=true
  ·rw[mN c] at h
   cases i with
   |zero=>
    simp only[pP,Option.some.injEq] at g d;subst g d;exact c
   |succ i=>
    simp only[aE] at g d;exact zDc ∅ g d
  ·rw[mK c] at h
   exact absurd h (rA _)
abbrev Dd:=Wd×List Key×T
noncomputable def xG:List Dd->T->Option T
 |[],t=>Y t|d::a,t=>(doT d.1 d.2.2 d.2.1 t).bind (xG a)
abbrev _root_.C4:=List Dd
theorem jU:∀(a b:C4)(t:T),xG (a++b) t=(xG a t).bind (xG b)
 |[],b,t=>rfl|d::a,b,t=>by
  show(doT d.1 d.2.2 d.2.1 t).bind (xG (a++b))=((doT d.1 d.2.2 d.2.1 t).bind (xG a)).bind (xG b)
  cases doT d.1 d.2.2 d.2.1 t with|none=>rfl|some r=>exact jU a b r
noncomputable def qN(k:Key)(ds:C4):List Dd:=ds.map λd=>(d.1,k::d.2.1,d.2.2)
def zEk(d:Dd):Prop:=d.1= .put\/d.2.1≠ []
def o0:T->Prop
 |.dic ks a=>ks.Nodup/\ks...*=a...*|_=>True
theorem zFv{t s r:T}{k:Key}(j:o0 t)(m:okK k)(h:zR t k=Y s):xN .put t k=true/\zR (yD .put t k r) k=Y r/\∀q,yD .put (yD .put t k r) k q=yD .put t k q:=by
 cases t with
 |lst b=>
  cases k with
  |inl i=>
   let l:b[i.toNat]? =Y s:=h;let u:=(mS.mp l).1;let p:0<=i:=m.1;let d:(b.take i.toNat)...*=i.toNat:=by rw[nU];lia
   refine nAA (nF ∅) ?_ (λq=>?_)
   ·show(b.take i.toNat++r::b.drop (i.toNat+1))[i.toNat]? =Y r
    rw[nW ∅,d,Nat.sub_self]
    rfl
   ·show T.lst ((b.take i.toNat++r::b.drop (i.toNat+1)).take i.toNat++q::(b.take i.toNat++r::b.drop (i.toNat+1)).drop (i.toNat+1))=T.lst (b.take i.toNat++q::b.drop (i.toNat+1))
    rw[aK d,List.drop_append,d,rC ∅,show i.toNat+1 - i.toNat=1 by lia]
    rfl
  |inr z=>exact absurd h (by intro z;cases z)
 |dic a b=>
  cases k with
  |inl i=>exact absurd h (by intro z;cases z)|inr z=>
   let l:(if ts z∈a then Y (zH (ts z) a b) else none)=Y s:=h;let g:ts z∈a:=by
    by_cases c:ts z∈a
    ·exact c
    ·rw[mK c] at l;cases l
   let e:∀q,yE (a,b) (ts z) q=(a,b.set (a.idxOf (ts z)) q):=λq=>by
    let:yE (a,b) (ts z) q=(a,yQ (ts z) q a b):=mN g;rw[this,jV a b j.1 j.2 g]
   let n:a.idxOf (ts z)<b...*:=by rw[<-j.2];exact sU g
   refine nAA O ?_ (λq=>?_)
   ·show(if ts z∈(yE (a,b) (ts z) r).1 then Y (zH (ts z) (yE (a,b) (ts z) r).1 (yE (a,b) (ts z) r).2) else none)=Y r
    rw[e];show(if ts z∈a then Y (zH (ts z) a (b.set (a.idxOf (ts z)) r)) else none)=Y r;rw[mN g];exact congrArg some (kM j.1 (zEp g) (sJ n))
   ·show T.dic (yE ((yE (a,b) (ts z) r).1,(yE (a,b) (ts z) r).2) (ts z) q).1 (yE ((yE (a,b) (ts z) r).1,(yE (a,b) (ts z) r).2) (ts z) q).2=T.dic (yE (a,b) (ts z) q).1 (yE (a,b) (ts z) q).2
    let o:yE (a,b.set (a.idxOf (ts z)) r) (ts z) q=(a,b.set (a.idxOf (ts z)) q):=by
     let:yE (a,b.set (a.idxOf (ts z)) r) (ts z) q=(a,yQ (ts z) q a (b.set (a.idxOf (ts z)) r)):=mN g;rw[this,jV a _ j.1 (by rw[aY];exact j.2) g,List.set_set]
    rw[e,o,e]
 |_=>exact absurd h (by intro z;cases k<;>cases z)
theorem zVk{t s r:T}{k:Key}(c:o0 t)(h:zR t k=Y s):o0 (yD .put t k r):=by
 cases t with
 |lst a=>
  cases k with|inl i=>exact mT|inr z=>exact absurd h (by intro z;cases z)
 |dic b a=>
  cases k with
  |inl i=>exact absurd h (by intro z;cases z)|inr z=>
   show(yE (b,a) (ts z) r).1.Nodup/\(yE (b,a) (ts z) r).1...*=(yE (b,a) (ts z) r).2...*;exact{vY c.1,(jF c.2).1}
 |_=>exact absurd h (by intro z;cases k<;>cases z)
theorem zQx{w:Wd}{n t s:T}{k:Key}{p:B8}(c:o0 t)(a:okK k)(h:zR t k=Y s)(hd:w= .put\/p≠ []):doT w n (k::p) t=(doT w n p s).map λr=>yD .put t k r:=by
 cases p with
 |nil=>
  rcases hd with rfl | hd
  ·let b:=(zFv (r:=n) c a h).1
   show(if xN .put t k=true then Y (yD .put t k n) else none)=_;rw[mN b]
   rfl
  ·exact absurd O hd
 |cons d p=>
  rw[kH (by simp),h]
theorem zEr{k:Key}(c:okK k):∀(ds:C4){t s:T},o0 t->zR t k=Y s->(∀d∈ds,zEk d)->xG (qN k ds) t=(xG ds s).map λr=>if ds= [] then t else yD .put t k r
 |[],t,s,_,_,_=>rfl|d::ds,t,s,e,h,g=>by
  show(doT d.1 d.2.2 (k::d.2.1) t).bind (xG (qN k ds))=_;rw[zQx e c h (g d mE)];show _=((doT d.1 d.2.2 d.2.1 s).bind (xG ds)).map _
  cases j:doT d.1 d.2.2 d.2.1 s with
  |none=>rfl|some a=>
   show xG (qN k ds) (yD .put t k a)=(xG ds a).map _;obtain⟨_,n,m⟩:=zFv (r:=a) e c h;rw[zEr c ds (zVk e h) n λo b=>g o (mI _ b)]
   cases l:xG ds a with
   |none=>rfl|some r=>
    show Y _=Y _
    congr 1
    dsimp only;rw[mK (sQ _ _)]
    by_cases i:ds= []
    ·subst i
     let:a=r:=mQ l;rw[mN O,this]
    ·rw[mK i,m]
noncomputable def dfR(D:T->T->List Dd)(us ws:B0):List Dd:=
 let h:=ahead us ws;let e:=ahead (us.drop h).reverse (ws.drop h).reverse;let m:=min us...* ws...* - e
 ((List.range (m - h)).flatMap λi=>qN (.inl ((h+i:Nat):Int)) (D (us.getD (h+i) .non) (ws.getD (h+i) .non)))
  ++((List.range (us...* - e - m)).map λi=>((.tak,[.inl ((us...* - e - 1 - i:Nat):Int)], .non):Dd))
  ++((List.range (ws...* - e - m)).map λi=>((.ins,[.inl ((m+i:Nat):Int)],ws.getD (m+i) .non):Dd))
noncomputable def dfC(D:T->T->List Dd)(ks:C6)(us:B0)(ls:C6)(ws:B0):List Dd:=
 (((xC ks).filter λk=>!decide (k∈ls)).map λk=>((.tak,[nK k], .non):Dd))
  ++(xC ls).flatMap λk=>if k∈ks then qN (nK k) (D (zH k ks us) (zH k ls ws)) else[(.put,[nK k],zH k ls ws)]
noncomputable def dfT:Nat->T->T->List Dd
 |0,_,_=>[]|n+1,t,u=>if alk t u=true then[] else match t,u with
  |.lst b, .lst a=>dfR (dfT n) b a|.dic ks b, .dic c a=>dfC (dfT n) ks b c a|_,_=>[(.put,[],u)]
theorem zVl{k:Key}{ds:C4}:∀d∈qN k ds,zEk d:=λd a=>by
 obtain⟨b,_,rfl⟩:=nS.mp a;exact .inr (sQ _ _)
theorem zKs:∀(n:Nat)(t u:T),∀d∈dfT n t u,zEk d
 |0,_,_,_,h=>nomatch h|n+1,t,u,d,h=>by
  unfold dfT at h;split at h
  ·exact nomatch h
  ·split at h
   ·unfold dfR at h
    rcases mZ.mp h with h | h
    ·rcases mZ.mp h with h | h
     ·obtain⟨i,_,h⟩:=cG.mp h
      exact zVl d h
     ·obtain⟨i,_,rfl⟩:=nS.mp h
      exact .inr (sQ _ _)
    ·obtain⟨i,_,rfl⟩:=nS.mp h
     exact .inr (sQ _ _)
   ·unfold dfC at h
    rcases mZ.mp h with h | h
    ·obtain⟨i,_,rfl⟩:=nS.mp h
     exact .inr (sQ _ _)
    ·obtain⟨i,_,h⟩:=cG.mp h
     split at h
     ·exact zVl d h
     ·rw[mH.mp h]
      exact .inr (sQ _ _)
   ·rw[mH.mp h]
    exact .inl O
theorem zBt{w:Wd}{n t:T}{k:Key}(h:xN w t k=true):doT w n [k] t=Y (yD w t k n):=by
 show(if xN w t k=true then Y (yD w t k n) else none)=_;rw[mN h]
theorem jR{d:Dd}{ds:C4}{t r:T}(h:doT d.1 d.2.2 d.2.1 t=Y r):xG (d::ds) t=xG ds r:=by
 show(doT d.1 d.2.2 d.2.1 t).bind (xG ds)=_;rw[h];rfl
theorem zFn{ds:C4}{d:Dd}{t r:T}(h:xG ds t=Y r):xG (ds++ [d]) t=doT d.1 d.2.2 d.2.1 r:=by
 rw[jU,h];show(doT d.1 d.2.2 d.2.1 r).bind (xG [])=_;cases doT d.1 d.2.2 d.2.1 r<;>rfl
theorem zBs{D:T->T->List Dd}{us ws:B0}{h:Nat}(e:us...*<=60)(v:∀(i:Nat) (t u:T),us[i]? =Y t->ws[i]? =Y u->(∀d∈D t u,zEk d)/\∃r,xG (D t u) t=Y r/\alk r u=true):∀j:Nat,h+j<=us...*->h+j<=ws...*->
  ∃L,xG ((List.range j).flatMap λi=>qN (.inl ((h+i:Nat):Int)) (D (us.getD (h+i) .non) (ws.getD (h+i) .non))) (.lst us)=Y (.lst L)/\L...*=us...*/\(∀i:Nat,i<h\/h+j<=i->L[i]? =us[i]?)/\∀i:Nat,h<=i->i<h+j->∃r u,L[i]? =Y r/\ws[i]? =Y u/\alk r u=true
 |0,_,_=>{us,O,O,λ_ _=>O,λi N y=>absurd y ∅}|j+1,N,y=>by
  refine vN (zBs (h:=h) e v j ∅ ∅) λL J x o A=>?_;let p:us[h+j]? =some us[h+j]:=mP ∅;let g:ws[h+j]? =some ws[h+j]:=mP ∅;let B:us.getD (h+j) .non=us[h+j]:=by rw[nE,p];rfl
  let M:ws.getD (h+j) .non=ws[h+j]:=by rw[nE,g];rfl
  obtain⟨I,r,l,s⟩:=v _ _ _ p g;let z:L[h+j]? =some us[h+j]:=(o (h+j) (.inr (mC _))).trans p;let n:zR (.lst L) (.inl ((h+j:Nat):Int))=some us[h+j]:=by
   show L[((h+j:Nat):Int).toNat]? =_;rw[rN];exact z
  let b:=zEr (k:=.inl ((h+j:Nat):Int)) {∅,∅} (D us[h+j] ws[h+j]) (t:=.lst L) mT n I;rw[l] at b;let a:xG ((List.range (j+1)).flatMap λi=>qN (.inl ((h+i:Nat):Int)) (D (us.getD (h+i) .non) (ws.getD (h+i) .non))) (.lst us)=Y (if D us[h+j] ws[h+j]= [] then .lst L else yD .put (.lst L) (.inl ((h+j:Nat):Int)) r):=by
   rw[rG,sV,jU,J];show xG (List.flatMap _ [j]) (.lst L)=_;rw[tR,B,M,b]
   rfl
  by_cases q:D us[h+j] ws[h+j]= []
  ·rw[mN q] at a
   rw[q] at l;let H:us[h+j]=r:=mQ l;refine zGn L a x (λi Q=>o i ∅) (λi m g2=>?_)
   by_cases c:i=h+j
   ·subst c
    exact zVg _ _ z g (by rw[H];exact s)
   ·exact A i m ∅
  ·rw[mK q] at a
   let E:yD .put (.lst L) (.inl ((h+j:Nat):Int)) r= .lst (L.set (h+j) r):=by
    show T.lst (L.take ((h+j:Nat):Int).toNat++r::L.drop (((h+j:Nat):Int).toNat+1))=_;rw[rN,<-zCz ∅]
   rw[E] at a;refine zGn (L.set (h+j) r) a (by rw[aY];exact x) (λi Q=>?_) (λi m g2=>?_)
   ·rw[sR ∅]
    exact o i ∅
   ·by_cases c:i=h+j
    ·subst c
     exact zVg r _ (sJ ∅) g s
    ·rw[sR ∅]
     exact A i m ∅
theorem zGy{L:B0}{e m:Nat}:∀j:Nat,j+m+e<=L...*->xG ((List.range j).map λi=>((.tak,[.inl ((L...* - e - 1 - i:Nat):Int)], .non):Dd)) (.lst L)=Y (.lst (L.take (L...* - e - j)++L.drop (L...* - e)))
 |0,_=>by
  show Y (T.lst L)=_;rw[dM,sN]
 |j+1,h=>by
  rw[rG,mU,bK];rw[zFn (zGy (m:=m) j ∅)];let b:(L.take (L...* - e - j))...*=L...* - e - j:=by rw[nU];lia
  let a:xN .tak (.lst (L.take (L...* - e - j)++L.drop (L...* - e))) (.inl ((L...* - e - 1 - j:Nat):Int))=true:=by
   show((L.take (L...* - e - j)++L.drop (L...* - e))[((L...* - e - 1 - j:Nat):Int).toNat]?).isSome=true;rw[rN,nY ∅,mP ∅]
   rfl
  rw[zBt a];show Y (T.lst ((L.take (L...* - e - j)++L.drop (L...* - e)).take ((L...* - e - 1 - j:Nat):Int).toNat++(L.take (L...* - e - j)++L.drop (L...* - e)).drop (((L...* - e - 1 - j:Nat):Int).toNat+1)))=_;rw[rN,List.take_append_of_le_length ∅,List.take_take,show min (L...* - e - 1 - j) (L...* - e - j)=L...* - e - (j+1) by lia,show L...* - e - 1 - j+1=(L.take (L...* - e - j))...* by lia,List.drop_left]
theorem zRl{A B ws:B0}{m:Nat}(c:A...*=m):∀j:Nat,m+j<=ws...*->xG ((List.range j).map λi=>((.ins,[.inl ((m+i:Nat):Int)],ws.getD (m+i) .non):Dd)) (.lst (A++B))=Y (.lst (A++(ws.drop m).take j++B))
 |0,_=>by
  show Y (T.lst (A++B))=_;rw[cU,pH]
 |j+1,h=>by
  rw[rG,mU,bK];rw[zFn (zRl c j ∅)];let a:(A++(ws.drop m).take j)...*=m+j:=by rw[mL,nU,nI];lia
  let d:xN .ins (.lst (A++(ws.drop m).take j++B)) (.inl ((m+j:Nat):Int))=true:=nF (by rw[mL,a];lia);rw[zBt d];show Y (T.lst ((A++(ws.drop m).take j++B).take ((m+j:Nat):Int).toNat++ws.getD (m+j) .non::(A++(ws.drop m).take j++B).drop ((m+j:Nat):Int).toNat))=_;let b:ws[m+j]? =some ws[m+j]:=mP ∅;let e:ws.getD (m+j) .non=ws[m+j]:=by rw[nE,b];rfl
  let g:(ws.drop m).take (j+1)=(ws.drop m).take j++ [ws[m+j]]:=yP (by rw[tE];exact b);rw[rN,aK a,List.drop_left' a,e,g];simp
theorem zJg{a b h e m:Nat}(c:h<=a/\h<=b)(d:e<=a - h/\e<=b - h)(g:min a b - e=m):h<=m/\m+e<=a/\m+e<=b/\(m+e=a\/m+e=b):=by lia
theorem yBu{D:T->T->List Dd}{us ws:B0}(E:us...*<=60)(H:d8 ws)(M:∀(i:Nat) (t u:T),us[i]? =Y t->ws[i]? =Y u->(∀d∈D t u,zEk d)/\∃r,xG (D t u) t=Y r/\alk r u=true):∃L,xG (dfR D us ws) (.lst us)=Y (.lst L)/\alk (.lst L) (.lst ws)=true:=by
 obtain⟨h,o⟩:∃h,ahead us ws=h:=⟨_,O⟩;obtain⟨e,v⟩:∃e,ahead (us.drop h).reverse (ws.drop h).reverse=e:=⟨_,O⟩;let c:=wT us ws;let b:=wT (us.drop h).reverse (ws.drop h).reverse;rw[o] at c;rw[v,pJ,pJ,nI,nI] at b;obtain⟨m,l⟩:∃m,min us...* ws...* - e=m:=⟨_,O⟩;unfold dfR;dsimp only;rw[o,v,l];refine yZ (zJg c b l) λf1 f2 f3 f4=>?_;clear c b l;refine vN (zBs (h:=h) E M (m - h) ∅ ∅) λL A N s Q=>?_;let p:=zGy (L:=L) (e:=e) (m:=m) (us...* - e - m) ∅;rw[N,show us...* - e - (us...* - e - m)=m by lia] at p;let k:(L.take m)...*=m:=by rw[nU];lia
 let z:=zRl (B:=L.drop (us...* - e)) (ws:=ws) k (ws...* - e - m) ∅;refine nEA (L.take m++(ws.drop m).take (ws...* - e - m)++L.drop (us...* - e)) ?_ ?_
 ·rw[jU,jU,A]
  show(xG _ (.lst L)).bind _=_;rw[p];exact z
 let x:((ws.drop m).take (ws...* - e - m))...*=ws...* - e - m:=by rw[nU,nI];lia
 let j:(L.take m++(ws.drop m).take (ws...* - e - m))...*=ws...* - e:=by rw[mL,k,x];lia
 refine alk_lst.mpr {by rw[mL,j,nI];lia,λi t u a g=>?_};let I:=(mS.mp g).1
 by_cases J:i<m
 ·rw[nY ∅,nY ∅,bE J] at a
  by_cases n:i<h
  ·rw[s i (.inl n)] at a
   exact zDc (us:=us) (ws:=ws) ∅ a g
  ·refine yO (Q i ∅ ∅) λr w q g2 y=>?_
   rw[a] at q;rw[g] at g2;cases q;cases g2;exact y
 ·by_cases n:i<ws...* - e
  ·rw[nY ∅,nW ∅,k,bE ∅,tE,show m+(i - m)=i by lia,g] at a
   cases a;exact zBq (b7 H (mM g))
  ·rw[nW ∅,j,tE,s _ (.inr ∅)] at a
   let hq:ws...* - 1 - i<e:=by lia
   refine zDc (us:=(us.drop h).reverse) (ws:=(ws.drop h).reverse) (i:=ws...* - 1 - i) ∅ ?_ ?_
   ·rw[cJ (by rw[nI];lia),nI,tE]
    rw[<-a]
    congr 1
    lia
   ·rw[cJ (by rw[nI];lia),nI,tE]
    rw[<-g]
    congr 1
    lia
theorem putT_in{ks:C6}{us:B0}{n k:List Nat}{t:T}:k∈(yE (ks,us) n t).1↔k∈ks\/k=n:=by
 unfold yE;split
 ·rename_i h
  exact{.inl,λz=>z.elim id λe=>by rw[e];exact h}
 ·show k∈ks++ [n]↔_
  rw[mZ,mH]
theorem zFs{ls:C6}:∀(S ks:C6)(us:B0),ks.Nodup->ks...*=us...*->S.Nodup->(∀k∈S,k∈ks)->∃a b,xG (S.map λk=>((.tak,[nK k], .non):Dd)) (.dic ks us)=Y (.dic a b)/\a.Nodup/\a...*=b...*/\(∀k,k∈a↔k∈ks/\k∉S)/\∀k∈a,zH k a b=zH k ks us
 |[],ks,us,j,g,_,_=>{ks,us,O,j,g,λk=>{λh=>{h,λz=>nomatch z},λh=>h.1},λ_ _=>O}|k::S,ks,us,j,g,i,m=>by
  rw[pC] at i;let t:=m k mE;let o:xN .tak (.dic ks us) (nK k)=true:=by
   show(if ts (tx k)∈ks then Y (zH (ts (tx k)) ks us) else none).isSome=true;rw[wG,mN t];rfl
  refine zV (zFs (ls:=ls) S (xI k ks) (yV k ks us) (vC j) (uQ g).1 i.2 λd c=>dropN_mem.mpr {m d (mI _ c),λz=>i.1 (z▸c)}) λa b s u x y=>?_;ext oA y n v;refine uI a b ?_ u x (nA (λd=>?_) (λd c=>?_))
  ·rw[nO,jR (r:=.dic (xI k ks) (yV k ks us))]
   ·exact s
   ·rw[zBt o]
    show Y (T.dic (xI (ts (tx k)) ks) (yV (ts (tx k)) ks us))=_;rw[wG]
  ·rw[n d,dropN_mem,mG]
   constructor
   ·rintro⟨⟨l,e⟩,q⟩
    exact{l,λz=>z.elim e q}
   ·rintro⟨l,e⟩
    exact{{l,λz=>e (.inl z)},λz=>e (.inr z)}
  ·let p:=(n d).mp c
   rw[v d c,gK (dropN_mem.mp p.1).2 g]
theorem zSc{D:T->T->List Dd}{ks ls:C6}{us ws:B0}(N:d8 ws)(M:ls...*=ws...*)(Q:∀k∈ks,k∈ls->(∀d∈D (zH k ks us) (zH k ls ws),zEk d)/\∃r,xG (D (zH k ks us) (zH k ls ws)) (zH k ks us)=Y r/\alk r (zH k ls ws)=true):
  ∀(S a:C6)(b:B0),a.Nodup->a...*=b...*->S.Nodup->(∀k∈S,k∈ls)->(∀k∈S,k∈a↔k∈ks)->(∀k∈S,k∈a->zH k a b=zH k ks us)->
  ∃j m,xG (S.flatMap λk=>if k∈ks then qN (nK k) (D (zH k ks us) (zH k ls ws)) else[(.put,[nK k],zH k ls ws)]) (.dic a b)=Y (.dic j m)/\j.Nodup/\j...*=m...*/\(∀k,k∈j↔k∈a\/k∈S)/\(∀k∈S,alk (zH k j m) (zH k ls ws)=true)/\∀k∈a,k∉S->zH k j m=zH k a b
 |[],a,b,p,o,_,_,_,_=>{a,b,O,p,o,λk=>{.inl,λh=>h.elim id λz=>(nomatch z)},λ_ h=>(nomatch h),λ_ _ _=>O}|k::S,a,b,p,o,s,h1,L,I=>by
  rw[pC] at s;let u:=h1 k mE;let v:∀(r:T),alk r (zH k ls ws)=true->∀E,xG E (.dic a b)=Y (.dic (yE (a,b) k r).1 (yE (a,b) k r).2)->∃j m,xG (E++S.flatMap λk=>if k∈ks then qN (nK k) (D (zH k ks us) (zH k ls ws)) else[(.put,[nK k],zH k ls ws)]) (.dic a b)=Y (.dic j m)/\j.Nodup/\j...*=m...*/\(∀c,c∈j↔c∈a\/c∈k::S)/\(∀c∈k::S,alk (zH c j m) (zH c ls ws)=true)/\∀c∈a,c∉k::S->zH c j m=zH c a b:=λr y E B=>by
   let g:∀c,c∈a\/c=k->zH c (yE (a,b) k r).1 (yE (a,b) k r).2=if c=k then r else zH c a b:=λc e=>(zAn o e).2;obtain⟨j,m,e1,e2,e3,e4,e5,J⟩:=zSc N M Q S (yE (a,b) k r).1 (yE (a,b) k r).2 (vY p) (jF o).1 s.2 (λc e=>h1 c (mI _ e)) (λc e=>by
    let l:c≠k:=λz=>s.1 (z▸e);rw[putT_in,<-L c (mI _ e)];exact{λz=>z.resolve_right l, .inl}) (λc e hm=>by
    let l:c≠k:=λz=>s.1 (z▸e);let x:=(putT_in.mp hm).resolve_right l;rw[g c (.inl x),mK l];exact I c (mI _ e) x)
   refine uI j m ?_ e2 e3 (nAA (λc=>?_) (λc e=>?_) (λc e q=>?_))
   ·rw[jU,B];exact e1
   ·rw[e4 c,putT_in,mG,or_assoc]
   ·rcases mG.mp e with z | z
    ·subst z
     rw[J c (putT_in.mpr (.inr O)) s.1,g c (.inr O),mN O];exact y
    ·exact e5 c z
   ·let l:c≠k:=λz=>q (by rw[z];exact mE)
    rw[J c (putT_in.mpr (.inl e)) λz=>q (mI _ z),g c (.inl e),mK l]
  rw[dG]
  by_cases A:k∈ks
  ·rw[mN A]
   let i:=(L k mE).mpr A;obtain⟨ok,r,y,ha⟩:=Q k A u;let H:zR (.dic a b) (nK k)=Y (zH k ks us):=by
    show(if ts (tx k)∈a then Y (zH (ts (tx k)) a b) else none)=_;rw[wG,mN i,I k mE i]
   let n:=zEr (k:=nK k) mT (D (zH k ks us) (zH k ls ws)) (t:=.dic a b) ⟨p,o⟩ H ok;rw[y] at n;refine v r ha _ (n.trans ?_);show Y _=Y _
   congr 1
   dsimp only;let ep:yD .put (.dic a b) (nK k) r= .dic (yE (a,b) k r).1 (yE (a,b) k r).2:=by
    show T.dic (yE (a,b) (ts (tx k)) r).1 (yE (a,b) (ts (tx k)) r).2=_;rw[wG]
   by_cases q:D (zH k ks us) (zH k ls ws)= []
   ·rw[mN q]
    rw[q] at y;let er:zH k ks us=r:=mQ y;let:yE (a,b) k r=(a,yQ k r a b):=mN i;rw[this,jV a b p o i];show T.dic a b=T.dic a (b.set (a.idxOf k) r);let il:a.idxOf k<b...*:=by rw[<-o];exact sU i
    let hb:b[a.idxOf k]=r:=by
     rw[<-er,<-I k mE i];exact(kM p (zEp i) (mP il)).symm
    rw[<-hb,List.set_getElem_self]
   ·rw[mK q,ep]
  ·rw[mK A]
   refine v _ (zBq (b7 N (yC u M))) _ ?_;rw[jR (r:=.dic (yE (a,b) k (zH k ls ws)).1 (yE (a,b) k (zH k ls ws)).2)]
   ·rfl
   ·rw[zBt O]
    show Y (T.dic (yE (a,b) (ts (tx k)) (zH k ls ws)).1 (yE (a,b) (ts (tx k)) (zH k ls ws)).2)=_;rw[wG]
theorem yBc{D:T->T->List Dd}{ks ls:C6}{us ws:B0}(m:ks.Nodup)(L:ks...*=us...*)(n:ls.Nodup)(q:ls...*=ws...*)(v:d8 ws)(x:∀k∈ks,k∈ls->(∀d∈D (zH k ks us) (zH k ls ws),zEk d)/\∃r,xG (D (zH k ks us) (zH k ls ws)) (zH k ks us)=Y r/\alk r (zH k ls ws)=true):
  ∃a b,xG (dfC D ks us ls ws) (.dic ks us)=Y (.dic a b)/\a.Nodup/\a...*=b...*/\alk (.dic a b) (.dic ls ws)=true:=by
 let e:∀k,k∈(xC ks).filter (λk=>!decide (k∈ls))↔k∈ks/\k∉ls:=λk=>by
  rw[rP,mem_sortK];simp
 refine zV (zFs (ls:=ls) ((xC ks).filter λk=>!decide (k∈ls)) ks us m L ((tO (xF ks)).mpr m |>.filter _) λk c=>((e k).mp c).1) λa b A B H J=>?_
 ext oA J I E;let h:∀k,k∈a↔k∈ks/\k∈ls:=λk=>by
  rw[I k,e k];constructor
  ·rintro⟨i,l⟩
   exact{i,Classical.byContradiction λz=>l ⟨i,z⟩}
  ·rintro⟨i,l⟩
   exact{i,λz=>z.2 l}
 obtain⟨o,s,t,j,u,p,M,_⟩:=zSc v q x (xC ls) a b B H ((tO (xF ls)).mpr n) (λk c=>mem_sortK.mp c) (λk c=>by
  rw[h k];exact{λz=>z.1,λz=>{z,mem_sortK.mp c}}) λk c g=>E k g
 refine uI o s ?_ j u ?_
 ·unfold dfC
  rw[jU,A];exact t
 ·let g:∀k,k∈o↔k∈ls:=λk=>by
   rw[p k,h k,mem_sortK];exact{λz=>z.elim (λy=>y.2) id, .inr}
  refine(yAr j).mpr {?_,λk c=>{(g k).mp c,M k (mem_sortK.mpr ((g k).mp c))}};exact((List.perm_ext_iff_of_nodup j n).mpr g).length_eq
theorem wN{t:T}:∀{us:B0},yX us=true->t∈us->lnar t=true
 |[],_,h=>nomatch h|u::us,h,b=>by
  let a:(lnar u && yX us)=true:=h;rw[nH] at a;rcases mG.mp b with e | e
  ·rw[e];exact a.1
  ·exact wN a.2 e
theorem zGr:∀(n:Nat)(t u:T),T.few t->T.few u->lnar t=true->T.dep t<n->∃r,xG (dfT n t u) t=Y r/\alk r u=true
 |0,_,_,_,_,_,h=>absurd h (rA _)|n+1,t,u,j,d,x,s=>by
  unfold dfT
  by_cases l:alk t u=true
  ·rw[mN l]
   exact nEA t O l
  rw[mK l];let g:∃r,xG [((.put,[],u):Dd)] t=Y r/\alk r u=true:={u,O,zBq d}
  cases t with
  |lst e=>
   cases u with
   |lst v=>
    let c:(decide (e...*<=60)&& yX e)=true:=x;rw[nH,nX] at c;let o:T.deps e+1<n+1:=s;obtain⟨L,p,q⟩:=yBu (D:=dfT n) (us:=e) (ws:=v) c.1 d.2 λi t u B A=>{zKs n t u,by
     let mt:=mM B;let:=b8 mt;exact zGr n t u (b7 j.2 mt) (b7 d.2 (mM A)) (wN c.2 mt) ∅}
    exact nEA _ p q
   |_=>exact g
  |dic y e=>
   cases u with
   |dic E v=>
    let c:(decide (y...*<=30)&& yX e)=true:=x;rw[nH,nX] at c;let o:T.deps e+1<n+1:=s;obtain⟨a,b,p,_,_,q⟩:=yBc (D:=dfT n) j.1 j.2.2.1 d.1 d.2.2.1 d.2.2.2 λk z m=>{zKs n _ _,by
     let mt:=yC z j.2.2.1;let:=b8 mt;exact zGr n _ _ (b7 j.2.2.2 mt) (b7 d.2.2.2 (yC m d.2.2.1)) (wN c.2 mt) ∅}
    exact nEA _ p q
   |_=>exact g
  |_=>exact g
abbrev sDb:V6:=top 52
abbrev sDr:V6:=top 54
noncomputable def kT:Key->T
 |.inl i=>.int i|.inr s=>.str (ts s)
theorem zYk{H:Hp}:∀ks:List Key,Sps H (ks.map kV) (ks.map kT) []
 |[]=>⟨O,O⟩|k::ks=>{kV k,ks.map kV,[],[],O,O,by
   cases k with
   |inl i=>exact⟨O,O⟩|inr s=>exact{O,by show V.str s=V.str (tx (ts s));rw[jH]},zYk ks,λ_ h=>nomatch h}
theorem zRc{H:Hp}{a:V1}{ks:B8}(h:H a=Y (.lst (ks.map kV))):Sp1 H (.ref a) (.lst (ks.map kT)) [a]:={a,ks.map kV,[],O,h,O,by simp,zYk ks}
noncomputable def ddT:Dd->T
 |(.tak,a,_)=>.tup [.str (ts Wd.tak.s), .lst (a.map kT)]|(w,a,n)=>.tup [.str (ts w.s), .lst (a.map kT),n]
noncomputable def pfx(ks:B8)(d:Dd):Dd:=(d.1,ks++d.2.1,d.2.2)
theorem zQy(ks:B8)(k:Key)(ds:C4):(qN k ds).map (pfx ks)=ds.map (pfx (ks++ [k])):=by
 unfold qN;rw[sH];refine rL λd _=>?_;show(d.1,ks++k::d.2.1,d.2.2)=(d.1,ks++ [k]++d.2.1,d.2.2);rw[rM];rfl
theorem zWm{H:Hp}(z:Str):Sp1 H (.str z) (.str (ts z)) []:={O,by rw[jH]}
theorem zPk{H:Hp}{b a:V1}{ks:B8}{n:T}(h:H b=Y (.tup [.str Wd.tak.s, .ref a]))(d:H a=Y (.lst (ks.map kV))):Sp1 H (.ref b) (ddT (.tak,ks,n)) [b,a]:=by
 let c:b≠a:=λz=>by subst z;rw[h] at d;cases d
 refine{b,_,[a],O,h,O,λz=>c (mH.mp z),{_,_,[],[a],O,O,zWm _,{_,_,[a],[],O,O,zRc d,⟨O,O⟩,λ_ _ z=>nomatch z},λ_ z=>nomatch z}}
theorem zKj{H:Hp}{c a:V1}{ks:B8}{w:Wd}{n:T}{x:V}{D:B9}(j:w≠ .tak)(h:H c=Y (.tup [.str w.s, .ref a,x]))(g:H a=Y (.lst (ks.map kV)))(i:Sp1 H x n D)(l:c∉D)(k:a∉D):Sp1 H (.ref c) (ddT (w,ks,n)) (c::a::D):=by
 let d:c≠a:=λz=>by subst z;rw[h] at g;cases g
 let e:ddT (w,ks,n)= .tup [.str (ts w.s), .lst (ks.map kT),n]:=by
  cases w with|tak=>exact absurd O j|_=>rfl
 rw[e];refine{c,_,a::D,O,h,O,λz=>(mG.mp z).elim d l,{_,_,[],a::D,O,O,zWm _,{_,_,[a],D,O,O,zRc g,{_,_,D,[],O,by simp,i,⟨O,O⟩,λ_ _ z=>nomatch z},λb m=>by rw[mH.mp m];exact k},λ_ z=>nomatch z}}
theorem Sps.app{H:Hp}{ys:B3}{us:B0}{a:B9}(h':Sps H ys us a):∀{xs:B3}{ts:B0}{D:B9},Sps H xs ts D->(∀b∈D,b∉a)->Sps H (xs++ys) (ts++us) (D++a)
 |_,[],D,e,_=>by
  obtain⟨j,k⟩:=e;subst j k;exact h'
 |_,t::ts,D,⟨v,r,l,h,o,e,m,i,n⟩,g=>by
  subst o e;refine{v,r++ys,l,h++a,O,by simp,m,Sps.app h' i λb d=>g b (nN _ d),λb d z=>?_};rcases mZ.mp z with c | c
  ·exact n b d c
  ·exact g b (pG _ d) c
theorem Sps.one{H:Hp}{v:V}{t:T}{D:B9}(h:Sp1 H v t D):Sps H [v] [t] D:={v,[],D,[],O,by simp,h,⟨O,O⟩,λ_ _ z=>nomatch z}
structure DbI(t u:T)(ks:B8):Prop where
 f1:T.few t
 f2:T.few u
 d1:T.dep t<20
 d2:T.dep u<20
 z1:T.sz t<=300
 z2:T.sz u<=300
 l:ks...*+T.dep t<=100
def DbQ(H:Hp)(d:V1)(ks:B8)(ds:C4)(Q:VK):Prop:=∀(l:V1)(c:B3)(D:B9)(a:Hp),Same H a->H l=none->a l=Y (.lst c)->Sps a c ((ds.map (pfx ks)).map ddT) D->(∀b∈D,(H b=none\/b=d)/\b≠l)->Q (.ref l) a
theorem DbQ.go{H H1:Hp}{c:V1}{ks:B8}{ds:C4}{Q:VK}(q:DbQ H c ks ds Q)(g:Same H H1):DbQ H1 c ks ds Q:=λl j D i h m a k e=>q l j D i (g.trans h) (zQ g m) a k λb d=>{(e b d).1.imp (zQ g) id,(e b d).2}
def zUf(n:Nat):Sp:=λe H Q _=>∃(d c:V)(b:V1)(t u:T)(a:B8),e= [d,c, .ref b]/\Rep H d t/\Rep H c u/\H b=Y (.lst (a.map kV))/\DbI t u a/\T.dep t<n/\(dfT n t u)...*<=100000/\DbQ H b a (dfT n t u) Q
def yFr(n:Nat):Sp:=λh H Q _=>∃(g e:V)(d:V1)(a b:B0)(c:B8),h= [g,e, .ref d]/\Rep H g (.lst a)/\Rep H e (.lst b)/\H d=Y (.lst (c.map kV))/\DbI (.lst a) (.lst b) c/\T.deps a<n/\(dfR (dfT n) a b)...*<=100000/\DbQ H d c (dfR (dfT n) a b) Q
def yFn(n:Nat):Sp:=λj H Q _=>∃(i h:V)(g:V1)(c d:C6)(a b:B0)(e:B8),j= [i,h, .ref g]/\Rep H i (.dic c a)/\Rep H h (.dic d b)/\H g=Y (.lst (e.map kV))/\DbI (.dic c a) (.dic d b) e/\T.deps a<n/\(dfC (dfT n) c a d b)...*<=100000/\DbQ H g e (dfC (dfT n) c a d b) Q
theorem scDb:wF ["old","new","path"] ["old","new","path"] (zY sDb):=by walk_at "sc"
theorem ok_db{n k:Nat}(F:Fun K "deeds_between" "deeds_between" sDb f fd)(B:Bl6 mg)(y:Dn P w K mg base k "alike" ["one","other"] (zBd 20))(m:Dn P w K mg base k "copied" ["thing"] (zFr 20))(d:Dn P w K mg base k "deeds_between_rows" ["old","new","path"] (yFr n))(a:Dn P w K mg base k "deeds_between_records" ["old","new","path"] (yFn n)):FnOk P w K mg base CX0 (k+1) f fd ["old","new","path"] (zUf (n+1)):=by
 refine F.ok scDb (by walk_at "ln") λc A o s H vs Q E hr h=>?_;ext yA h vo vn r t u z_;ext wQ z_ ks ah ho hn hp z_;ext yZ z_ J hd g q;subst ah;let nd:=scDb.nd;let hu:=vE hr;refine{_,(zC (zT (yG (pD y hr (zA (pv 0) (zA (pv 1) zB)))) (zG (zJ (yM zB))) zL)
  (zC (zT (i8 (vZ (yG (pI B.isinstance zK B.list wA (pv 0))) (qE (yG (pI B.isinstance zK B.list wA (pv 1)))))) (zG (zJ (pD d hr (zA (pv 0) (zA (pv 1) (zA (pv 2) zB)))))) zL)
  (zC (zT (i8 (vZ (yG (pI B.isinstance zK B.dict xQ (pv 0))) (qE (yG (pI B.isinstance zK B.dict xQ (pv 1)))))) (zG (zJ (pD a hr (zA (pv 0) (zA (pv 1) (zA (pv 2) zB)))))) zL)
  (zG (zJ (yM (zA (vX (zA zP (zA (pv 2) (zA (pD m hr (zA (pv 1) zB)) zB)))) zB))))))), ?_}
 walk_at "st";lk;refine{vo,vn,t,u,O,Rep.rp _ _ ho,Rep.rp _ _ hn,J.f1,J.f2,J.d1,λH1 g1=>{alk t u,O, ?_}};let I:=q.go g1;clear q;unfold dfT at I g;let ac:=Rep.same g1 _ _ ho;let v:=Rep.same g1 _ _ hn;let i:=g1 _ _ hp
 cases ae:alk t u with
 |true=>
  rw[mN ae] at I;exact λl hl=>I l [] [] _ (zF hl _) hl zD ⟨O,O⟩ (λ_ h=>nomatch h)
 |false=>
  rw[mK ∎];rw[mK (by rw[ae];decide)] at I g;let j:=ac.ty;let ag:=v.ty;let M:DbQ H1 r ks [(.put,[],u)] Q->zFr 20 [vn] H1 (λx H1=>∀(p:V1),H1 p=none->∀(aa:V1),upd H1 p (HO.tup [V.str (A5 "put"),V.ref r,x]) aa=none->Q (V.ref aa) (upd (upd H1 p (HO.tup [V.str (A5 "put"),V.ref r,x])) aa (HO.lst [V.ref p]))) E0:=λq2=>
   {vn,u,O,v,qF _ u (mC _) J.f2,J.d2,by let:=J.z2;lia,λx H2 D g2 ab af p L l hl=>by
    let s3:=zF L (.tup [V.str (A5 "put"),V.ref r,x]);let s4:=zF hl (.lst [V.ref p]);let aj:p∉D:=λz=>by
     obtain⟨o,e⟩:=Sp1.there _ _ _ ab z;rw[L] at e;cases e
    let ak:r∉D:=λz=>by rw[af r z] at i;cases i
    let ai:Sp1 (upd (upd H2 p (.tup [V.str (A5 "put"),V.ref r,x])) l (.lst [V.ref p])) (.ref p) (ddT (.put,ks++ [],u)) (p::r::D):=by
     rw[pH];exact zKj (by intro z;cases z) (s4 _ _ zD) (s4 _ _ (s3 _ _ (g2 _ _ i))) ((ab.same s3).same s4) aj ak
    refine q2 l [.ref p] _ _ (g2.trans (s3.trans s4)) (zQ (g2.trans s3) hl) zD (Sps.one ai) λb hb=>?_;let N:∀o,upd H2 p (.tup [V.str (A5 "put"),V.ref r,x]) b=Y o->b≠l:=λo e z=>by rw[z,hl] at e;cases e
    rcases mG.mp hb with z | z
    ·exact{.inl (by rw[z];exact zQ g2 L),N _ (by rw[z];exact zD)}
    ·rcases mG.mp z with z | z
     ·exact{.inr z,N _ (by rw[z];exact s3 _ _ (g2 _ _ i))}
     ·obtain⟨o,e⟩:=Sp1.there _ _ _ ab z
      exact{.inl (af b z),N _ (s3 _ _ e)}}
  cases t with
  |lst us=>
   refine nEA _ j (iP (by simp only[tyT];decide+kernel) {_,ag, ?_})
   cases u with
   |lst ws=>
    let al:T.deps us+1<n+1:=hd;exact iP (by simp only[tyT];decide+kernel) {vo,vn,r,us,ws,ks,O,ac,v,i,J,∅,g,I}
   |_=>exact iN (by simp only[tyT];decide+kernel) {_,j,iN (by simp only[tyT];decide+kernel) (M I)}
  |dic hs us=>
   refine nEA _ j (iN (by simp only[tyT];decide+kernel) {_,j,iP (by simp only[tyT];decide+kernel) {_,ag, ?_}})
   cases u with
   |dic ls ws=>
    let al:T.deps us+1<n+1:=hd;exact iP (by simp only[tyT];decide+kernel) {vo,vn,r,hs,ls,us,ws,ks,O,ac,v,i,J,∅,g,I}
   |_=>exact iN (by simp only[tyT];decide+kernel) (M I)
  |_=>exact{_,j,iN (by simp only[tyT];decide+kernel) {_,j,iN (by simp only[tyT];decide+kernel) (M I)}}
def DI(d:V1)(H:Hp)(c:B0)(a:Hp):Prop:=Same H a/\∃(e:B3)(D:B9),a d=Y (.lst e)/\Sps a e c D/\∀b∈D,H b=none/\b≠d
theorem l6{d:V1}{H i k:Hp}{zs ys:B3}{c r:B0}{D j:B9}(t:H d=none)(g:Same H i)(s:i d=Y (.lst zs))(n:Sps i zs c D)(q:∀b∈D,H b=none/\b≠d)(m:Same i k)(l:Sps k ys r j)(h:∀b∈j,i b=none):DI d H (c++r) (upd k d (.lst (zs++ys))):=by
 let p:∀b∈j,b≠d:=λb a z=>by rw[z] at a;rw[h d a] at s;cases s
 refine{wS (g.trans m) t,zs++ys,D++j,zD,Sps.app (Sps.keep _ _ _ (λb a o _ e=>by rw[zM (p b a)];exact e) l) (Sps.keep _ _ _ (λb a o _ e=>by rw[zM (q b a).2];exact m _ _ e) n) λb a z=>?_,λb a=>?_}
 ·obtain⟨o,e⟩:=Sps.there _ _ _ n a
  rw[h b z] at e;cases e
 ·rcases mZ.mp a with z | z
  ·exact q b z
  ·exact{zQ g (h b z),p b z}
theorem DI.one{d:V1}{H a h:Hp}{zs:B3}{c:B0}{D j:B9}{v:V}{t:T}(l:H d=none)(g:Same H a)(m:a d=Y (.lst zs))(n:Sps a zs c D)(k:∀b∈D,H b=none/\b≠d)(o:Same a h)(i:Sp1 h v t j)(e:∀b∈j,a b=none):DI d H (c++ [t]) (upd h d (.lst (zs++ [v]))):=l6 l g m n k o (Sps.one i) e
theorem zPr{α:Type}{F:Nat->List α}{i:Nat}:∀{j:Nat},i<=j->((List.range i).flatMap F)...*<=((List.range j).flatMap F)...*
 |0,h=>by rw[Nat.le_zero.mp h];exact mC _|j+1,h=>by
  rcases Nat.lt_or_ge i (j+1) with z | z
  ·let:=zPr (F:=F) (i:=i) (j:=j) ∅
   rw[rG,sV,mL]
   lia
  ·rw[show i=j+1 by lia];exact mC _
theorem ok_dr{n k:Nat}(F:Fun K "deeds_between_rows" "deeds_between_rows" sDr f fd)(B:Bl6 mg)(c:Dn P w K mg base k "alike_ahead" ["one","other"] (yEw 20))(ag:Dn P w K mg base k "copied" ["thing"] (zFr 20))(r:Dn P w K mg base k "deeds_between" ["old","new","path"] (zUf n)):FnOk P w K mg base CX0 (k+1) f fd ["old","new","path"] (yFr n):=by
 refine F.okn (N:=["old","new","path","ahead","behind","both","deeds","place"]) λbo A be s H vs Q E nd hr h=>?_;ext yA h vo vn pa L ws z_;ext wQ z_ p ba ho hn hp z_;ext yZ z_ hi hd ab q;subst ba;let hu:=vE hr;refine{_,(zC (pS 3 nd (pD c hr (zA (pv 0) (zA (pv 1) zB))))
  (zC (pS 4 nd (pD c hr (zA (zYz zSl (jC kZ (pv 0) (qY (pv 3)) kQ) (qY (xW xH zE))) (zA (zYz zSl (jC kZ (pv 1) (qY (pv 3)) kQ) (qY (xW xH zE))) zB))))
  (zC (pS 5 nd (zI xY (zO (zAp O) O B.min zJs (zA (zO zZ O B.len yR (zA (pv 0) zB)) (zA (zO zZ O B.len yR (zA (pv 1) zB)) zB))) (pv 4)))
  (zC (pS 6 nd (yM zB))
  (zC (wW PassesOwn.never O (zIo O B.range (zA (pv 3) (zA (pv 5) zB))) (yF (i:=7) nd O (nZ O)) (zG (xS (qA pA bL bM zDw (pv 6) (zA (pD r hr (zA (pX zU (pv 0) (pv 7)) (zA (pX zU (pv 1) (pv 7)) (zA (zI qU (pv 2) (yM (zA (pv 7) zB))) zB)))) zB)))))
  (zC (wW PassesOwn.never O (pi_dn O B.range (zA (zI xY (zI xY (zO zZ O B.len yR (zA (pv 0) zB)) (pv 4)) zE) (zA (zI xY (pv 5) zE) (zA (xW xH zE) zB)))) (yF (i:=7) nd O (nZ O)) (zG (xS (qA pA pM rE vK (pv 6) (zA (vX (zA zP (zA (zI qU (pv 2) (yM (zA (pv 7) zB))) zB))) zB)))))
  (zC (wW PassesOwn.never O (zIo O B.range (zA (pv 5) (zA (zI xY (zO zZ O B.len yR (zA (pv 1) zB)) (pv 4)) zB))) (yF (i:=7) nd O (nZ O)) (zG (xS (qA pA pM rE vK (pv 6) (zA (vX (zA zP (zA (zI qU (pv 2) (yM (zA (pv 7) zB))) (zA (pD ag hr (zA (pX zU (pv 1) (pv 7)) zB)) zB)))) zB)))))
  (zG (zJ (pv 6)))))))))), ?_}
 ext yO ho a M ar ha hx;subst ar;ext yO hn b I ar hb hy;subst ar;walk_at "st";refine cut4 λR hR=>?_;lk;let bf:=hx...*;let a6:=hy...*;let bn:=d6 L;let bq:=d6 ws;let z1:T.szs L+1<=300:=hi.z1;let z2:T.szs ws+1<=300:=hi.z2;let d1:T.deps L+1<20:=hi.d1;let l1:p...*+(T.deps L+1)<=100:=hi.l;let a9:=wT L ws;let gG:=Same.refl H;refine{a,b,M,I,L,ws,O,ha,hb,hx,hy,hi.f1,hi.f2,∅,λH1 g1=>?_};obtain⟨h,hh⟩:∃h:Nat,ahead L ws=h:=⟨_,O⟩;rw[hh] at a9⊢;let a4:=gG.trans g1;unfold tRev;lk;refine{a,M,O,SqL.of (a4 _ _ ha),λp1 bb=>?_};rw[zLv];refine{p1,_,O,SqL.of zD,λp2 a'=>?_};let g2:=(zF bb (.lst (M.drop h))).trans (zF a' (.lst (M.drop h).reverse));let e2:=zD (H:=upd H1 p1 (.lst (M.drop h))) (a:=p2) (o:=.lst (M.drop h).reverse);generalize upd (upd H1 p1 (.lst (M.drop h))) p2 (.lst (M.drop h).reverse)=H2 at g2 e2⊢;let a0:=a4.trans g2;refine{b,I,O,SqL.of (a0 _ _ hb),λp3 bi=>?_};rw[zLv];refine{p3,_,O,SqL.of zD,λp4 bl=>?_};let g3:=(zF bi (.lst (I.drop h))).trans (zF bl (.lst (I.drop h).reverse));let e3:=zD (H:=upd H2 p3 (.lst (I.drop h))) (a:=p4) (o:=.lst (I.drop h).reverse);generalize upd (upd H2 p3 (.lst (I.drop h))) p4 (.lst (I.drop h).reverse)=H3 at g3 e3⊢;let am:=a0.trans g3;let av:=hi.f1;let au:=hi.f2;refine{p2,p4,_,_,(L.drop h).reverse,(ws.drop h).reverse,O,g3 _ _ e2,e3,Reps.reverse (Reps.drop h (Reps.same am _ _ hx)),Reps.reverse (Reps.drop h (Reps.same am _ _ hy)),{by rw[pJ,nI];lia,zCd λt ht=>b7 av.2 (rT (dP.mp ht))},{by rw[pJ,nI];lia,zCd λt ht=>b7 au.2 (rT (dP.mp ht))}, ?_,λH4 g4=>?_}
 ·exact m5 ∅ λt ht=>by
   let:=b8 (rT (dP.mp ht))
   lia
 let ao:=wT (L.drop h).reverse (ws.drop h).reverse;rw[pJ,nI,pJ,nI] at ao;obtain⟨e,he⟩:∃e:Nat,ahead (L.drop h).reverse (ws.drop h).reverse=e:=⟨_,O⟩;rw[he] at ao⊢;let a2:=am.trans g4;refine vB M (SqL.of (a2 _ _ ha)) I (SqL.of (a2 _ _ hb)) _ (qM _ ⟨O,O⟩ _ O (λd ay=>?_));let az:=g1.trans (g2.trans (g3.trans g4));let aj:=zQ az ay;obtain⟨m,hm,bp,bm,br⟩:∃m:Nat,(if(I...*:Int)<M...* then(I...*:Int) else M...*)- (e:Int)=(m:Int)/\h<=m/\m+e<=M...*/\m+e<=I...*:={min M...* I...* - e,by split<;>lia,∅,∅,∅};rw[hm];subst hR
 try dsimp only
 refine zJh λR hR=>?_;unfold zZc;lk;refine zVg _ _ ⟨O,O⟩ {∅,∅,∅,∅} ?_;rw[show((m:Int)- (h:Int)).toNat=m - h by lia];let s0:=zF ay (.lst []);let a8:min L...* ws...* - e=m:=by lia
 unfold dfR at q ab;dsimp only at q ab;rw[hh,he,a8] at q ab;clear hm a8 a9 ao hh he;obtain⟨A,hA⟩:∃A:Nat->List Dd,(λj=>(List.range j).flatMap λi=>qN (.inl ((h+i:Nat):Int)) (dfT n (L.getD (h+i) .non) (ws.getD (h+i) .non)))=A:=⟨_,O⟩;obtain⟨Bt,hB⟩:∃Bt:Nat->List Dd,(λj=>(List.range j).map λi=>((.tak,[.inl ((L...* - e - 1 - i:Nat):Int)], .non):Dd))=Bt:=⟨_,O⟩;obtain⟨Ct,hC⟩:∃Ct:Nat->List Dd,(λj=>(List.range j).map λi=>((.ins,[.inl ((m+i:Nat):Int)],ws.getD (m+i) .non):Dd))=Ct:=⟨_,O⟩;let q:DbQ H pa p (A (m - h)++Bt (L...* - e - m)++Ct (ws...* - e - m)) Q:=by rw[<-hA,<-hB,<-hC];exact q
 let lB:∀j,(Bt j)...*=j:=λj=>by rw[<-hB];show(List.map _ (List.range j))...*=j;rw[mJ,tW]
 let lC:∀j,(Ct j)...*=j:=λj=>by rw[<-hC];show(List.map _ (List.range j))...*=j;rw[mJ,tW]
 let lA:∀j,j<=m - h->(A j)...*<=(A (m - h))...*:=λj hj=>by rw[<-hA];exact zPr hj
 let ab:(A (m - h))...*+(L...* - e - m)+(ws...* - e - m)<=100000:=by
  let aw:(A (m - h)++Bt (L...* - e - m)++Ct (ws...* - e - m))...*<=100000:=by rw[<-hA,<-hB,<-hC];exact ab
  rw[mL,mL,lB,lC] at aw;exact aw
 let sA:∀j,A (j+1)=A j++qN (.inl ((h+j:Nat):Int)) (dfT n (L.getD (h+j) .non) (ws.getD (h+j) .non)):=λj=>by rw[<-hA];show List.flatMap _ (List.range (j+1))=_;rw[rG,sV,tR]
 let sB:∀j,Bt (j+1)=Bt j++ [(.tak,[.inl ((L...* - e - 1 - j:Nat):Int)], .non)]:=λj=>by rw[<-hB];show List.map _ (List.range (j+1))=_;rw[rG,mU,bK]
 let sC:∀j,Ct (j+1)=Ct j++ [(.ins,[.inl ((m+j:Nat):Int)],ws.getD (m+j) .non)]:=λj=>by rw[<-hC];show List.map _ (List.range (j+1))=_;rw[rG,mU,bK]
 let z0:A 0= []/\Bt 0= []/\Ct 0= []:={by rw[<-hA];rfl,by rw[<-hB];rfl,by rw[<-hC];rfl};clear hA hB hC;let D0:DI d H (((A 0).map (pfx p)).map ddT) (upd H4 d (.lst [])):=by
  rw[z0.1];exact{az.trans s0,[],[],zD,⟨O,O⟩,λ_ h=>nomatch h}
 refine qL (λi σ H'=>(∃o,σ= [Y (V.ref a),Y (V.ref b),Y (V.ref pa),Y (V.int (h:Nat)),Y (V.int (e:Nat)),Y (V.int (m:Nat)),Y (V.ref d),o])/\DI d H (((A i).map (pfx p)).map ddT) H') {⟨_,O⟩,D0} ?_ ?_
 ·rintro i σ H5 ax ⟨⟨o,rfl⟩,g5,zs,D,g,J,ac⟩
  obtain⟨x,a1⟩:∃x,M[h+i]? =Y x:={M[h+i]'∅,mP _};obtain⟨y,ah⟩:∃y,I[h+i]? =Y y:={I[h+i]'∅,mP _};refine oEA (hx.get a1) λt ht bk=>?_;refine oEA (hy.get ah) λu af ap=>?_;let mt:=mM ht;let mu:=mM af;let v:=gG.trans g5;lk;let ex:atI M ((h:Int)+(i:Int))=Y x:=by rw[show(h:Int)+(i:Int)=((h+i:Nat):Int) by lia];exact yI a1
  let ey:atI I ((h:Int)+(i:Int))=Y y:=by rw[show(h:Int)+(i:Int)=((h+i:Nat):Int) by lia];exact yI ah
  refine{.inl {O,zs,SqL.of g},yH (SqL.of (v _ _ ha)) ex (yH (SqL.of (v _ _ hb)) ey λpl ai=>?_)};obtain⟨j,hj⟩:∃j:Int,(h:Int)+(i:Int)=j:=⟨_,O⟩;rw[hj];let s6:=zF ai (.lst [V.int j]);refine{pa,pl,_,_,O,O,s6 _ _ (v _ _ hp),zD,by rw[mJ,mY,mV];lia,λpc aa=>?_};let s7:=s6.trans (zF aa (.lst (p.map kV++ [V.int j])));let e7:_=Y (HO.lst ((p++ [(Sum.inl j:Key)]).map kV)):=(zD (H:=upd H5 pl (.lst [V.int j])) (a:=pc) (o:=.lst (p.map kV++ [V.int j]))).trans (congrArg (λz=>Y (HO.lst z)) (zHk p (.inl j)));generalize upd (upd H5 pl (.lst [V.int j])) pc (.lst (p.map kV++ [V.int j]))=H7 at s7 e7⊢;let g7:=g5.trans s7;let al:=zQ s6 aa;let nc:pc≠d:=λz=>by subst z;rw[al] at g;cases g
  let dt:=b8 mt;let st:=c8 mt;let su:=c8 mu;let du:=b8 mu;let d2:T.deps ws+1<20:=hi.d2;let gt:L.getD (h+i) .non=t:=by rw[nE,ht];rfl
  let gu:ws.getD (h+i) .non=u:=by rw[nE,af];rfl
  let aq:=sA i;rw[gt,gu] at aq;let bj:=lA (i+1) ∅;rw[aq,mL] at bj;let lp:(qN (.inl ((h+i:Nat):Int)) (dfT n t u))...*=(dfT n t u)...*:=mJ _;let zl:=J...*;rw[mJ,mJ] at zl;refine{x,y,pc,t,u,p++ [.inl j],O,Rep.same g7 _ _ bk,Rep.same g7 _ _ ap,e7,{b7 av.2 mt,b7 au.2 mu,∅,∅,∅,∅,by rw[mL,mY];lia},∅,∅,λl bd D' H8 g8 hl bg a3 ak=>?_};let l8:=a3...*;rw[mJ,mJ] at l8;refine{d,l,zs,bd,O,O,g8 _ _ (s7 _ _ g),bg,by rw[mV];lia,⟨_,O⟩, ?_};rw[aq,mU,mU,show((h+i:Nat):Int)=j by lia,zQy];exact l6 aj g5 g J ac (s7.trans g8) a3 λb hb=>(ak b hb).1.elim (zQ s7) λe=>by rw[e];exact al
 ·rintro σ H5 ⟨⟨o,rfl⟩,D5⟩
  subst hR
  try dsimp only
  refine zJh λR hR=>?_;unfold iDn;lk;let v:=gG.trans D5.1;refine zZk M (SqL.of (v _ _ ha)) _ _ ⟨O,O⟩ (zTz ∅ ∅ ∅ ?_);rw[show((M...*:Int)- (e:Int)- 1 - ((m:Int)- 1)).toNat=M...* - e - m by lia];refine zHr (λi σ H'=>(∃o,σ= [Y (V.ref a),Y (V.ref b),Y (V.ref pa),Y (V.int (h:Nat)),Y (V.int (e:Nat)),Y (V.int (m:Nat)),Y (V.ref d),o])/\DI d H (((A (m - h)++Bt i).map (pfx p)).map ddT) H') {⟨_,O⟩,by rw[z0.2.1,pH];exact D5} ?_ ?_
  ·skip
   rintro i σ H5 ax ⟨⟨o,rfl⟩,g5,zs,D,g,J,ac⟩;let v:=gG.trans g5;lk;refine{.inl {O,zs,SqL.of g},λpl ai=>?_};obtain⟨j,hj⟩:∃j:Int,(M...*:Int)- (e:Int)- 1 - (i:Int)=j:=⟨_,O⟩;rw[hj];let s6:=zF ai (.lst [V.int j]);refine{pa,pl,_,_,O,O,s6 _ _ (v _ _ hp),zD,by rw[mJ,mY,mV];lia,λpc aa tp ae=>?_};let s7:=s6.trans (zF aa (.lst (p.map kV++ [V.int j])));let e7:_=Y (HO.lst ((p++ [(Sum.inl j:Key)]).map kV)):=(zD (H:=upd H5 pl (.lst [V.int j])) (a:=pc) (o:=.lst (p.map kV++ [V.int j]))).trans (congrArg (λz=>Y (HO.lst z)) (zHk p (.inl j)));generalize upd (upd H5 pl (.lst [V.int j])) pc (.lst (p.map kV++ [V.int j]))=H7 at s7 e7 ae⊢;let s8:=zF ae (.tup [V.str (A5 "take"),V.ref pc]);let zl:=J...*;rw[mJ,mJ] at zl;refine{d,zs,_,O,O,s8 _ _ (s7 _ _ g),by rw[mV];simp only[mL,lB,lC] at zl;lia,⟨_,O⟩, ?_};rw[sB i,<-rM,mU,mU];let ej:((L...* - e - 1 - i:Nat):Int)=j:=by lia
   rw[ej];let an:Sp1 (upd H7 tp (.tup [V.str (A5 "take"),V.ref pc])) (.ref tp) (ddT (pfx p (.tak,[.inl j], .non))) [tp,pc]:=zPk (ks:=p++ [(Sum.inl j:Key)]) (n:=.non) (H:=upd H7 tp (.tup [V.str (A5 "take"),V.ref pc])) zD (s8 _ _ e7);refine DI.one aj g5 g J ac (s7.trans s8) an λb hb=>?_;rcases mG.mp hb with z | z
   ·rw[z];exact zQ s7 ae
   ·rw[mH.mp z];exact zQ s6 aa
  ·skip
   rintro σ H5 ⟨⟨o,rfl⟩,D5⟩;subst hR
   try dsimp only
   refine zJh λR hR=>?_;unfold zZc;lk;let v:=gG.trans D5.1;refine zZk I (SqL.of (v _ _ hb)) _ _ ⟨O,O⟩ (nA {∅,∅,∅,∅} ?_);rw[show((I...*:Int)- (e:Int)- (m:Int)).toNat=I...* - e - m by lia];refine qL (λi σ H'=>(∃o,σ= [Y (V.ref a),Y (V.ref b),Y (V.ref pa),Y (V.int (h:Nat)),Y (V.int (e:Nat)),Y (V.int (m:Nat)),Y (V.ref d),o])/\DI d H (((A (m - h)++Bt (L...* - e - m)++Ct i).map (pfx p)).map ddT) H') {⟨_,O⟩,by rw[z0.2.2,pH,<-bf];exact D5} ?_ ?_
   ·skip
    rintro i σ H5 ax ⟨⟨o,rfl⟩,g5,zs,D,g,J,ac⟩;let v:=gG.trans g5;obtain⟨y,ah⟩:∃y,I[m+i]? =Y y:={I[m+i]'∅,mP _};refine oEA (hy.get ah) λu af ap=>?_;let mu:=mM af;let ey:atI I ((m:Int)+(i:Int))=Y y:=by rw[show(m:Int)+(i:Int)=((m+i:Nat):Int) by lia];exact yI ah
    lk;obtain⟨j,hj⟩:∃j:Int,(m:Int)+(i:Int)=j:=⟨_,O⟩;rw[hj] at ey⊢;refine{.inl {O,zs,SqL.of g},λpl ai=>?_};let s6:=zF ai (.lst [V.int j]);refine{pa,pl,_,_,O,O,s6 _ _ (v _ _ hp),zD,by rw[mJ,mY,mV];lia,λpc aa=>?_};let s7:=s6.trans (zF aa (.lst (p.map kV++ [V.int j])));let e7:_=Y (HO.lst ((p++ [(Sum.inl j:Key)]).map kV)):=(zD (H:=upd H5 pl (.lst [V.int j])) (a:=pc) (o:=.lst (p.map kV++ [V.int j]))).trans (congrArg (λz=>Y (HO.lst z)) (zHk p (.inl j)));generalize upd (upd H5 pl (.lst [V.int j])) pc (.lst (p.map kV++ [V.int j]))=H7 at s7 e7⊢;let a7:=v.trans s7;let su:=c8 mu;let du:=b8 mu;let d2:T.deps ws+1<20:=hi.d2;refine yH (SqL.of (a7 _ _ hb)) ey {y,u,O,Rep.same a7 _ _ ap,qF _ u (mC _) (b7 au.2 mu),∅,∅,λx' H8 D8 g8 a5 ak tp ae=>?_};let s9:=zF ae (.tup [V.str (A5 "insert"),V.ref pc,x']);let s8:=g8.trans s9;let zl:=J...*;rw[mJ,mJ] at zl;refine{d,zs,_,O,O,s8 _ _ (s7 _ _ g),by rw[mV];simp only[mL,lB,lC] at zl;lia,⟨_,O⟩, ?_};let gu:ws.getD (m+i) .non=u:=by rw[nE,af];rfl
    rw[sC i,gu,<-rM,mU,mU];let ej:((m+i:Nat):Int)=j:=by lia
    rw[ej];let bh:pc∉D8:=λz=>by rw[ak pc z] at e7;cases e7
    let bc:tp∉D8:=λz=>by
     obtain⟨o',e'⟩:=Sp1.there _ _ _ a5 z;rw[ae] at e';cases e'
    let an:Sp1 (upd H8 tp (.tup [V.str (A5 "insert"),V.ref pc,x'])) (.ref tp) (ddT (pfx p (.ins,[.inl j],u))) (tp::pc::D8):=zKj (w:=.ins) (ks:=p++ [(Sum.inl j:Key)]) (H:=upd H8 tp (.tup [V.str (A5 "insert"),V.ref pc,x'])) (by intro z;cases z) zD (s8 _ _ e7) (a5.same s9) bc bh;refine DI.one aj g5 g J ac (s7.trans s8) an λb hb=>?_;rcases mG.mp hb with z | z
    ·rw[z];exact zQ (s7.trans g8) ae
    ·rcases mG.mp z with z | z
     ·rw[z];exact zQ s6 aa
     ·exact zQ s7 (ak b z)
   ·skip
    rintro σ H5 ⟨⟨o,rfl⟩,g5,zs,D,g,J,ac⟩;subst hR
    try dsimp only
    lk;rw[<-a6] at q;exact q d zs D _ g5 aj g (by rw[a6] at*;exact J) λb hb=>{.inl (ac b hb).1,(ac b hb).2}
abbrev sDc:V6:=top 53
theorem fl_le{α β:Type}{F:α->List β}{L:List α}{i:Nat}:((L.take i).flatMap F)...*<=(L.flatMap F)...*:=by
 let e:L.flatMap F=(L.take i).flatMap F++(L.drop i).flatMap F:=by rw[<-sV,sN]
 rw[e,mL]
 lia
theorem yAs{α β:Type}{F:α->List β}{L:List α}{i:Nat}{x:α}(h:L[i]? =Y x):(L.take (i+1)).flatMap F=(L.take i).flatMap F++F x:=by
 rw[yP h,sV,tR]
theorem ok_dc{n k:Nat}(F:Fun K "deeds_between_records" "deeds_between_records" sDc f fd)(B:Bl6 mg)(ai:Dn P w K mg base k "copied" ["thing"] (zFr 20))(j:Dn P w K mg base k "deeds_between" ["old","new","path"] (zUf n)):FnOk P w K mg base CX0 (k+1) f fd ["old","new","path"] (yFn n):=by
 refine F.okn (N:=["old","new","path","deeds","name"]) λbu A bj s H vs Q E nd hr h=>?_;ext yA h vo vn pa hs J z_;ext yB z_ us ws c bo ho z_;ext zS z_ hn hp hi hd ah q;subst bo;let gG:=Same.refl H;let hu:=vE hr;refine{_,(zC (uE (i:=3) nd O (nZ O) (own:=["name"]) (F:=[("path",2),("new",1)]) {O,tb_g%,tb_g%,tb_g%,(.cons O O O (.cons O O O .nil))} O (vJ (zO (wU O) O B.sorted jW (zA (pv 0) zB))) (λ_ _ _ _=>yF (i:=0) (by show(wM ["name"] [("path",2),("new",1)]).Nodup;decide+kernel) O (nZ O)) (λ_ _ _ _=>(zRs (zAm (zSy hu (pv 0) (pv 2))))) (λ_ _ _ _=>(vX (zA zP (zA (zI qU (pv 1) (yM (zA (pv 0) zB))) zB)))))
  (zC (wW PassesOwn.never O (vJ (zO (wU O) O B.sorted jW (zA (pv 1) zB))) (yF (i:=4) nd O (nZ O)) (zG (zT (zAm (zHa hu (pv 4) (pv 0))) (zG (xS (qA pA bL bM zDw (pv 3) (zA (pD j hr (zA (vT hu (pv 0) (pv 4) (λ_ _=>O)) (zA (vT hu (pv 1) (pv 4) (λ_ _=>O)) (zA (zI qU (pv 2) (yM (zA (pv 4) zB))) zB)))) zB)))) (zG (xS (qA pA pM rE vK (pv 3) (zA (vX (zA zP (zA (zI qU (pv 2) (yM (zA (pv 4) zB))) (zA (pD ai hr (zA (vT hu (pv 1) (pv 4) (λ_ _=>O)) zB)) zB)))) zB)))))))
  (zG (zJ (pv 3))))), ?_}
 ext zV ho a ps m ha a0 hx;subst m;ext zV hn b qs m I ap hy;subst m;walk_at "st";lk;let bt:=d6 us;let bv:=d6 ws;let z1:T.szs us+1<=300:=hi.z1;let z2:T.szs ws+1<=300:=hi.z2;let d1:T.deps us+1<20:=hi.d1;let l1:c...*+(T.deps us+1)<=100:=hi.l;refine yZ (hi.f1) λnh fh eh fu=>?_;refine yZ (hi.f2) λnl fl el fw=>?_;unfold dfC at q ah;obtain⟨tk,am⟩:∃tk:List Nat->Dd,(λk=>((.tak,[nK k], .non):Dd))=tk:=⟨_,O⟩;obtain⟨pt,af⟩:∃pt:List Nat->List Dd,(λk=>if k∈hs then qN (nK k) (dfT n (zH k hs us) (zH k J ws)) else[((.put,[nK k],zH k J ws):Dd)])=pt:=⟨_,O⟩;obtain⟨Fl,ay⟩:∃Fl:List (List Nat),(xC hs).filter (λk=>!decide (k∈J))=Fl:=⟨_,O⟩;let q:DbQ H pa c (Fl.map tk++(xC J).flatMap pt) Q:=by rw[<-ay,<-am,<-af];exact q
 let ah:Fl...*+((xC J).flatMap pt)...*<=100000:=by
  let:(Fl.map tk++(xC J).flatMap pt)...*<=100000:=by rw[<-ay,<-am,<-af];exact ah
  rwa [mL,mJ] at this
 let bs:∀k,k∈hs->pt k=qN (nK k) (dfT n (zH k hs us) (zH k J ws)):=λk hk=>by rw[<-af];exact mN hk
 let bf:∀k,k∉hs->pt k= [(.put,[nK k],zH k J ws)]:=λk hk=>by rw[<-af];exact mK hk
 let bp:∀k,tk k=(.tak,[nK k], .non):=λk=>by rw[<-am]
 clear af am;refine zAk ps (.inl (gG _ _ ha)) (hs.map tx) (by rw[a0,sH];rfl) (by rw[mJ];exact fh) (λa4 ss bm a3 be=>{{_,SqL.of zD}, ?_});let g1:=zF bm (.lst (ss.map V.str));let e1:=zD (H:=H) (a:=a4) (o:=.lst (ss.map V.str));generalize upd H a4 (.lst (ss.map V.str))=H1 at g1 e1⊢;let bn:=a3.length_eq;rw[mJ] at bn;let a':=uF a3 be;let bw:(xC hs)...*=hs...*:=(xF hs).length_eq;refine jX (K:=K) (xs:=ss.map V.str) (λi zs H'=>Same H1 H'/\∃D,Sps H' zs (((((xC hs).take i).filter λk=>!decide (k∈J)).map tk).map (pfx c)|>.map ddT) D/\∀b∈D,H b=none) (by rw[mJ,mV];lia) {Same.refl _,[],⟨O,O⟩,λ_ h=>nomatch h} (λi zs H' _ h=>SqL.of (h.1 _ _ e1)) ?_ ?_
 ·rintro i v zs H2 hv _ ⟨g2,D,hz,hD⟩
  rw[a',nG,nG] at hv;refine oEA (pU.mp hv) λst az m=>?_;subst m;refine oEA (pU.mp az) λk ag m=>?_;subst m;let au:=mem_sortK.mp (mM ag);let ae:=g1.trans g2;let ax:=ae;lk;unfold zQl;lk;rw[yP ag,List.filter_append]
  by_cases an:k∈J
  ·refine oEA (zEz nl ap hy I an) λv br _=>?_
   refine qM _ (br _ ax) false O (iN ∎ {g2,D, ?_,hD});rw[aS,dW,nF an]
   simpa using hz
  refine qM _ (zCk ap (ax _ _ I) an) true O (iP O λpl ak=>?_);let s6:=zF ak (.lst [V.str (tx k)]);refine{pa,pl,_,_,O,O,s6 _ _ (ax _ _ hp),zD,by rw[mJ,mY,mV];lia,λp t tp aa=>?_};let r:=s6.trans (zF t (.lst (c.map kV++ [V.str (tx k)])));let e7:_=Y (HO.lst ((c++ [nK k]).map kV)):=(zD (H:=upd H2 pl (.lst [V.str (tx k)])) (a:=p) (o:=.lst (c.map kV++ [V.str (tx k)]))).trans (congrArg (λz=>Y (HO.lst z)) (zHk c (nK k)));generalize upd (upd H2 pl (.lst [V.str (tx k)])) p (.lst (c.map kV++ [V.str (tx k)]))=H7 at r e7 aa⊢;let s8:=zF aa (.tup [V.str (A5 "take"),V.ref p]);let ar:Sp1 (upd H7 tp (.tup [V.str (A5 "take"),V.ref p])) (.ref tp) (ddT (pfx c (.tak,[nK k], .non))) [tp,p]:=zPk (ks:=c++ [nK k]) (n:=.non) (H:=upd H7 tp (.tup [V.str (A5 "take"),V.ref p])) zD (s8 _ _ e7);refine zOb (g2.trans (r.trans s8)) (D++ [tp,p]) ?_ (λb I=>?_)
  ·rw[aS,dW,nP an]
   simp only[Bool.not_false,dY,mU,nO,tG,bp];refine Sps.snoc ar (hz.same (r.trans s8)) λb I z=>?_;obtain⟨o,ho⟩:=Sps.there _ _ _ hz I;rcases mG.mp z with z | z
   ·rw[z,zQ r aa] at ho;cases ho
   ·rw[mH.mp z,zQ s6 t] at ho;cases ho
  ·rcases mZ.mp I with z | z
   ·exact hD b z
   ·rcases mG.mp z with z | z
    ·rw[z];exact zQ (ae.trans r) aa
    ·rw[mH.mp z];exact zQ (ae.trans s6) t
 ·rintro zs H2 _ ⟨g2,D,hz,hD⟩ d aw
  rw[a',mJ,mJ,rB,ay] at hz;let ae:=g1.trans g2;let av:=zQ ae aw;let s3:=zF aw (.lst zs);let e3:=zD (H:=H2) (a:=d) (o:=.lst zs);let D3:DI d H (((Fl.map tk).map (pfx c)).map ddT) (upd H2 d (.lst zs)):={ae.trans s3,zs,D,zD,hz.same s3,λb I=>{hD b I,λz=>by
   obtain⟨o,ho⟩:=Sps.there _ _ _ hz I;rw[z,aw] at ho;cases ho}}
  generalize upd H2 d (.lst zs)=H3 at D3⊢;let bc:=D3.1;refine zAk qs (.inl (bc _ _ I)) (J.map tx) (by rw[ap,sH];rfl) (by rw[mJ];exact fl) (λl2 rs a1 bd bh=>{{_,SqL.of zD}, ?_});let g4:=zF a1 (.lst (rs.map V.str));let e4:=zD (H:=H3) (a:=l2) (o:=.lst (rs.map V.str));let bb:=uF bd bh;let D4:DI d H (((Fl.map tk++((xC J).take 0).flatMap pt).map (pfx c)).map ddT) (upd H3 l2 (.lst (rs.map V.str))):=by
   rw[cU,List.flatMap_nil,pH];obtain⟨g,u,D',h1,h2,h3⟩:=D3;exact{g.trans g4,u,D',g4 _ _ h1,h2.same g4,h3}
  let n2:l2≠d:=λz=>by
   obtain⟨g,u,D',h1,h2,h3⟩:=D3;subst z;rw[a1] at h1;cases h1
  generalize upd H3 l2 (.lst (rs.map V.str))=H4 at D4 e4⊢;refine gP (K:=K) (a:=l2) (xs:=rs.map V.str) (λi σ H'=>(∃o,σ= [Y (V.ref a),Y (V.ref b),Y (V.ref pa),Y (V.ref d),o])/\H' l2=Y (.lst (rs.map V.str))/\DI d H (((Fl.map tk++((xC J).take i).flatMap pt).map (pfx c)).map ddT) H') {⟨_,O⟩,e4,D4} (λi σ H' _ h=>SqL.of h.2.1) ?_ ?_
  ·rintro i v σ H5 hv ⟨⟨o,rfl⟩,e5,g5,u,D',M,ac,al⟩
   rw[bb,nG,nG] at hv;refine oEA (pU.mp hv) λst az m=>?_;subst m;refine oEA (pU.mp az) λk ag m=>?_;subst m;let au:=mem_sortK.mp (mM ag);let ab:=g5;refine oEA (zEz nl ap hy I au) λy a2 a9=>?_;let mu:=yC au el;let su:=c8 mu;let du:=b8 mu;let d2:T.deps ws+1<20:=hi.d2;let zl:=ac...*;rw[mJ,mJ,mL,mJ] at zl;let ao:=fl_le (F:=pt) (L:=xC J) (i:=i+1);let fs:=yAs (F:=pt) ag;rw[fs,mL] at ao;rw[fs,<-rM];unfold zTr zCs;lk
   by_cases aj:k∈hs
   ·refine oEA (zEz nh a0 hx ha aj) λx a6 bq=>?_
    let mt:=yC aj eh;let dt:=b8 mt;let sz:=c8 mt;rw[bs k aj] at ao⊢;let lp:(qN (nK k) (dfT n (zH k hs us) (zH k J ws)))...*=(dfT n (zH k hs us) (zH k J ws))...*:=mJ _;refine nEA _ (a6 _ ab) (iP O {.inl {O,u,SqL.of M}, ?_});refine qM x (a6 _ ab) y (a2 _ ab) (λpl ak=>?_);let s6:=zF ak (.lst [V.str (tx k)]);refine{pa,pl,_,_,O,O,s6 _ _ (ab _ _ hp),zD,by rw[mJ,mY,mV];lia,λp t=>?_};let r:=s6.trans (zF t (.lst (c.map kV++ [V.str (tx k)])));let e7:_=Y (HO.lst ((c++ [nK k]).map kV)):=(zD (H:=upd H5 pl (.lst [V.str (tx k)])) (a:=p) (o:=.lst (c.map kV++ [V.str (tx k)]))).trans (congrArg (λz=>Y (HO.lst z)) (zHk c (nK k)));generalize upd (upd H5 pl (.lst [V.str (tx k)])) p (.lst (c.map kV++ [V.str (tx k)]))=H7 at r e7⊢;let g7:=g5.trans r;let a5:=zQ s6 t;refine{x,y,p,_,_,c++ [nK k],O,Rep.same g7 _ _ bq,Rep.same g7 _ _ a9,e7,{b7 fu mt,b7 fw mu,∅,∅,∅,∅,by rw[mL,mY];lia},∅,∅,λl bi D8 H8 g8 hl bk a7 aq=>?_};let l8:=a7...*;rw[mJ,mJ] at l8;refine{d,l,u,bi,O,O,g8 _ _ (r _ _ M),bk,by rw[mV];lia,⟨_,O⟩,by rw[zM n2];exact g8 _ _ (r _ _ e5), ?_};rw[mU,mU,zQy];exact l6 av g5 M ac al (r.trans g8) a7 λb I=>(aq b I).1.elim (zQ r) λe=>by rw[e];exact a5
   ·rw[bf k aj] at ao⊢
    refine nEA _ (zCk a0 (ab _ _ ha) aj) (iN ∎ {.inl {O,u,SqL.of M}, ?_});refine λpl ak=>?_;let s6:=zF ak (.lst [V.str (tx k)]);refine{pa,pl,_,_,O,O,s6 _ _ (ab _ _ hp),zD,by rw[mJ,mY,mV];lia,λp t=>?_};let r:=s6.trans (zF t (.lst (c.map kV++ [V.str (tx k)])));let e7:_=Y (HO.lst ((c++ [nK k]).map kV)):=(zD (H:=upd H5 pl (.lst [V.str (tx k)])) (a:=p) (o:=.lst (c.map kV++ [V.str (tx k)]))).trans (congrArg (λz=>Y (HO.lst z)) (zHk c (nK k)));generalize upd (upd H5 pl (.lst [V.str (tx k)])) p (.lst (c.map kV++ [V.str (tx k)]))=H7 at r e7⊢;let ba:=ab.trans r;refine{y,a2 _ ba,y,_,O,Rep.same ba _ _ a9,qF _ _ (mC _) (b7 fw mu),∅,∅,λx' H8 D8 g8 a8 aq tp aa=>?_};let s9:=zF aa (.tup [V.str (A5 "put"),V.ref p,x']);let s8:=g8.trans s9;simp only[mY] at ao;refine{d,u,_,O,O,s8 _ _ (r _ _ M),by rw[mV];lia,⟨_,O⟩,by rw[zM n2];exact s8 _ _ (r _ _ e5), ?_};let bl:p∉D8:=λz=>by rw[aq p z] at e7;cases e7
    let bg:tp∉D8:=λz=>by
     obtain⟨o',e'⟩:=Sp1.there _ _ _ a8 z;rw[aa] at e';cases e'
    let ar:Sp1 (upd H8 tp (.tup [V.str (A5 "put"),V.ref p,x'])) (.ref tp) (ddT (pfx c (.put,[nK k],zH k J ws))) (tp::p::D8):=zKj (w:=.put) (ks:=c++ [nK k]) (H:=upd H8 tp (.tup [V.str (A5 "put"),V.ref p,x'])) (by intro z;cases z) zD (s8 _ _ e7) (a8.same s9) bg bl;rw[mU,mU];refine DI.one av g5 M ac al (r.trans s8) ar λb I=>?_;rcases mG.mp I with z | z
    ·rw[z];exact zQ (r.trans g8) aa
    ·rcases mG.mp z with z | z
     ·rw[z];exact zQ s6 t
     ·exact zQ r (aq b z)
  ·rintro σ H5 ⟨⟨o,rfl⟩,e5,g5,u,D',M,ac,al⟩
   rw[show(rs.map V.str)...*=(xC J)...* by rw[bb,mJ,mJ],rB] at ac;lk;exact q d u D' _ g5 av M ac λb I=>{.inl (al b I).1,(al b I).2}
theorem zXs{i m p:V1}{b d e:V7}{j:Nat}(r:Fun K "deeds_between" "deeds_between" sDb i b)(F2:Fun K "deeds_between_rows" "deeds_between_rows" sDr m d)(J:Fun K "deeds_between_records" "deeds_between_records" sDc p e)(B:Bl6 mg)
  (v:∀k,j<=k->Dn P w K mg base k "alike" ["one","other"] (zBd 20)) (z:∀k,j<=k->Dn P w K mg base k "alike_ahead" ["one","other"] (yEw 20)) (l:∀k,j<=k->Dn P w K mg base k "copied" ["thing"] (zFr 20))
  (b1:Binds K b ["old","new","path"] []) (D:A7 K (.ref i)=true) (M:mg "deeds_between" =Y (.ref i))
  (b2:Binds K d ["old","new","path"] []) (x:A7 K (.ref m)=true) (y:mg "deeds_between_rows" =Y (.ref m))
  (b3:Binds K e ["old","new","path"] []) (N:A7 K (.ref p)=true) (I:mg "deeds_between_records" =Y (.ref p)):∀n:Nat,FnOk P w K mg base CX0 (j+2+2*n) i b ["old","new","path"] (zUf n)
 |0=>by
  refine r.ok scDb (λvs H Q E h=>?_) (λc A o s H vs Q E hr h=>?_)
  ·ext yA h vo vn pa t u g
   ext oEA g ks a _;subst a
   rfl
  ·ext yA h vo vn pa t u g
   ext wQ g ks a ho hn hp g;ext yZ g hi hd L q;subst a;exact absurd hd (rA _)
 |n+1=>by
  let D1:Dn P w K mg base (j+2+2*n) "deeds_between" ["old","new","path"] (zUf n):={_,_,zXs r F2 J B v z l b1 D M b2 x y b3 N I n,b1,D,M};let D2:Dn P w K mg base (j+2+2*n+1) "deeds_between_rows" ["old","new","path"] (yFr n):={_,_,ok_dr F2 B (z _ ∅) (l _ ∅) D1,b2,x,y};let D3:Dn P w K mg base (j+2+2*n+1) "deeds_between_records" ["old","new","path"] (yFn n):={_,_,ok_dc J B (l _ ∅) D1,b3,N,I};exact ok_db (k:=j+2+2*n+1) r B (v _ ∅) (l _ ∅) D2 D3
end
theorem yEr{us:B0}:us...*<=T.szs us:=d6 us
theorem zTn{m:Nat}{a b:B0}(h:d7 m b)(s:∀t∈a,t∈b):d7 m a:=d5 λt c=>c6 h (s t c)
theorem zQt{us:B0}{i j:Nat}(h:i<=j):T.szs (us.take i)+T.szs (us.drop j)<=T.szs us:=by
 let e:us=us.take i++us.drop i:=(sN i us).symm;let b:T.szs us=T.szs (us.take i)+T.szs (us.drop i):=by conv=>lhs;rw[e,c7]
 let a:us.drop i=(us.drop i).take (j - i)++us.drop j:=by
  let:=(sN (j - i) (us.drop i)).symm;rw[List.drop_drop,show i+(j - i)=j by lia] at this;exact this
 let c:T.szs (us.drop i)=T.szs ((us.drop i).take (j - i))+T.szs (us.drop j):=by conv=>lhs;rw[a,c7]
 lia
theorem zUp{a b:B0}{d:Nat}(h:T.deps b<=d)(s:∀t∈a,t∈b):T.deps a<=d:=d9 λt c=>pB (b8 (s t c)) h
theorem yDp{m:Nat}{us:B0}{n:T}{i j:Nat}(b:i<=j)(f:T.fewm m (.lst us))(e:T.fewm m n)(hz:T.sz (.lst us)<=50000):
  T.fewm m (.lst (us.take i++n::us.drop j))/\T.dep (.lst (us.take i++n::us.drop j))<=max (T.dep (.lst us)) (T.dep n+1)/\T.sz (.lst (us.take i++n::us.drop j))<=T.sz (.lst us)+T.sz n:=by
 let d:T.szs us+1<=50000:=hz;let h:=yEr (us:=us);let g:=zQt (us:=us) b;let c:∀t∈us.take i++n::us.drop j,t∈us\/t=n:=λt a=>by
  rcases mZ.mp a with z | z
  ·exact .inl (sS z)
  ·rcases mG.mp z with z | z
   ·exact .inr z
   ·exact .inl (rT z)
 refine nAA {?_,d5 λt a=>?_} ?_ ?_
 ·rw[mL,mX,nU,nI];lia
 ·rcases c t a with z | z
  ·exact c6 f.2 z
  ·rw[z];exact e
 ·show T.deps (us.take i++n::us.drop j)+1<=max (T.deps us+1) (T.dep n+1)
  let:T.deps (us.take i++n::us.drop j)<=max (T.deps us) (T.dep n):=d9 λt a=>by
   rcases c t a with z | z
   ·let:=b8 z;lia
   ·rw[z];lia
  lia
 ·show T.szs (us.take i++n::us.drop j)+1<=T.szs us+1+T.sz n
  rw[c7];show T.szs (us.take i)+(T.sz n+T.szs (us.drop j))+1<=_
  lia
theorem zZm{m:Nat}{ks ls:C6}{us vs:B0}{n:T}(h:T.fewm m (.dic ks us))(f:T.fewm m n)(i:ls.Nodup)(g:ls...*=vs...*)(b:vs...*<=us...*+1)(c:∀t∈vs,t∈us\/t=n)(hz:T.szs vs<=T.szs us+T.sz n):
  T.fewm (m+1) (.dic ls vs)/\T.dep (.dic ls vs)<=max (T.dep (.dic ks us)) (T.dep n+1)/\T.sz (.dic ls vs)<=T.sz (.dic ks us)+T.sz n:=by
 ext yZ h k j d e;refine nAA {i,∅,g,d5 λt a=>?_} ?_ ?_
 ·rcases c t a with z | z
  ·exact b9 (pV m) _ (c6 e z)
  ·rw[z];exact b9 (pV m) _ f
 ·show T.deps vs+1<=max (T.deps us+1) (T.dep n+1)
  let:T.deps vs<=max (T.deps us) (T.dep n):=d9 λt a=>by
   rcases c t a with z | z
   ·let:=b8 z;lia
   ·rw[z];lia
  lia
 ·show T.szs vs+1<=T.szs us+1+T.sz n
  lia
theorem uB{m:Nat}{t n:T}(a:T.fewm m t):T.fewm (m+1) t/\T.dep t<=max (T.dep t) (T.dep n+1)/\T.sz t<=T.sz t+T.sz n:={b9 (pV m) _ a,dR _ _,sW _ _}
theorem zQv{m:Nat}{us:B0}{n:T}{i j:Nat}(a:i<=j)(f:T.fewm m (.lst us))(c:T.fewm m n)(hz:T.sz (.lst us)<=50000):
  T.fewm (m+1) (.lst (us.take i++n::us.drop j))/\T.dep (.lst (us.take i++n::us.drop j))<=max (T.dep (.lst us)) (T.dep n+1)/\T.sz (.lst (us.take i++n::us.drop j))<=T.sz (.lst us)+T.sz n:=by
 obtain⟨d,b,e⟩:=yDp a f c hz;exact nAA (b9 (pV m) _ d) b e
theorem zZu{m:Nat}{us:B0}{n:T}{i:Nat}(b:T.fewm m (.lst us)):
  T.fewm (m+1) (.lst (us.take i++us.drop (i+1)))/\T.dep (.lst (us.take i++us.drop (i+1)))<=max (T.dep (.lst us)) (T.dep n+1)/\T.sz (.lst (us.take i++us.drop (i+1)))<=T.sz (.lst us)+T.sz n:=by
 let d:=zQt (us:=us) (i:=i) (j:=i+1) ∅;let a:∀t∈us.take i++us.drop (i+1),t∈us:=λt c=>(mZ.mp c).elim sS rT;refine nAA {?_,i6 (pV m) _ (zTn b.2 a)} ?_ ?_
 ·let:=b.1
  rw[mL,nU,nI];lia
 ·show T.deps (us.take i++us.drop (i+1))+1<=max (T.deps us+1) (T.dep n+1)
  let:=zUp (mC (T.deps us)) a
  lia
 ·show T.szs (us.take i++us.drop (i+1))+1<=T.szs us+1+T.sz n
  rw[c7];lia
theorem zZh{m:Nat}{ks:C6}{us:B0}{n:T}{x:List Nat}(a:T.fewm m (.dic ks us))(b:T.fewm m n):
  T.fewm (m+1) (.dic (xI x ks) (yV x ks us))/\T.dep (.dic (xI x ks) (yV x ks us))<=max (T.dep (.dic ks us)) (T.dep n+1)/\T.sz (.dic (xI x ks) (yV x ks us))<=T.sz (.dic ks us)+T.sz n:=by
 obtain⟨d,e⟩:=uQ (n:=x) a.2.2.1;let:=zDo (n:=x) (ks:=ks) (us:=us);exact zZm a b (vC a.1) d ∅ (λt c=>.inl (gM c)) ∅
theorem zZb{m:Nat}{w:Wd}{t n:T}{k:Key}(a:T.fewm m t)(c:T.fewm m n)(hz:T.sz t<=50000):T.fewm (m+1) (yD w t k n)/\T.dep (yD w t k n)<=max (T.dep t) (T.dep n+1)/\T.sz (yD w t k n)<=T.sz t+T.sz n:=by
 cases t with
 |dic e d=>
  cases k with
  |inr x=>
   cases w with
   |put=>
    obtain⟨j,h⟩:=jF (ks:=e) (us:=d) (n:=ts x) (t:=n) a.2.2.1;let:=zDo (n:=ts x) (ks:=e) (us:=d);let f:=zNt (n:=ts x) (t:=n) a.1 a.2.2.1;exact zZm a c (vY a.1) j h (λt g=>zCa g) ∅
   |ins=>exact uB a|tak=>exact zZh a c
  |inl i=>cases w<;>exact uB a
 |lst d=>
  cases k with
  |inl i=>
   cases w with|put=>exact zQv (pV _) a c hz|ins=>exact zQv (mC _) a c hz|tak=>exact zZu a
  |inr x=>cases w<;>exact uB a
 |tup d=>exact a.elim|non=>cases w<;>exact uB a|bl b=>cases w<;>exact uB a|int b=>cases w<;>exact uB a|str b=>cases w<;>exact uB a
theorem zCc:∀(t:T)(ks:B8),1<=(goT t ks)...*/\(goT t ks)...*<=ks...*+1
 |t,[]=>{mC _,mC _}|t,k::ks=>by
  show 1<=(match zR t k with | none=>[t] | some u=>t::goT u ks)...*/\(match zR t k with | none=>[t] | some u=>t::goT u ks)...*<=ks...*+1+1
  cases zR t k with
  |none=>exact{mC _,by show 1<=_;lia}|some u=>
   let:=zCc u ks;exact{by show 1<=(goT u ks)...*+1;lia,by show(goT u ks)...*+1<=_;lia}
theorem zSh{r:T}:∀{us:B0}{i:Nat}{u:T},us[i]? =Y u->T.szs (us.set i r)+T.sz u=T.szs us+T.sz r
 |[],_,_,h=>by simp at h|v::us,0,u,h=>by
  let e:v=u:=by simpa using h
  subst e;show T.sz r+T.szs us+T.sz v=T.sz v+T.szs us+T.sz r
  lia
 |v::us,i+1,u,h=>by
  let a:=zSh (r:=r) (us:=us) (i:=i) (u:=u) (by simpa using h);show T.sz v+T.szs (us.set i r)+T.sz u=T.sz v+T.szs us+T.sz r
  lia
theorem zLe{n:List Nat}{r:T}:∀{ks:C6}{us:B0},ks.Nodup->ks...*=us...*->n∈ks->T.szs (yQ n r ks us)+T.sz (zH n ks us)=T.szs us+T.sz r
 |[],_,_,_,h=>nomatch h|_::_,[],_,h,_=>by simp at h|k::ks,u::us,d,g,h=>by
  rw[pC] at d;show T.szs ((if k=n then r else u)::yQ n r ks us)+T.sz (if k=n then u else zH n ks us)=T.sz u+T.szs us+T.sz r
  by_cases e:k=n
  ·rw[mN e,mN e]
   let j:yQ n r ks us=us:=by
    let z:=zNt (n:=n) (t:=r) d.2 (by simpa using g) (us:=us);let c:n∉ks:=by rw[<-e];exact d.1
    let:∀(ks:C6)(us:B0),n∉ks->yQ n r ks us=us:=by
     intro ks
     induction ks with
     |nil=>intro us _;unfold yQ;rfl|cons a ks f=>
      intro us c
      cases us with
      |nil=>rfl|cons b us=>
       show(if a=n then r else b)::yQ n r ks us=b::us;rw[mK (λz=>c (by rw[z];exact mE)),f us λz=>c (mI _ z)]
    exact this ks us c
   rw[j];show T.sz r+T.szs us+T.sz u=_
   lia
  ·rw[mK e,mK e]
   let i:n∈ks:=by
    rcases mG.mp h with z | z
    ·exact absurd z.symm e
    ·exact z
   let f:=zLe (r:=r) d.2 (by simpa using g) i (us:=us);show T.sz u+T.szs (yQ n r ks us)+T.sz (zH n ks us)=_
   lia
theorem gW{t u:T}{k:Key}(a:zR t k=Y u):(∃us i,t= .lst us/\k= .inl i/\us[i.toNat]? =Y u/\∀r,yD .put t k r= .lst (us.set i.toNat r))\/(∃ks us x,t= .dic ks us/\k= .inr x/\ts x∈ks/\u=zH (ts x) ks us/\∀r,yD .put t k r= .dic ks (yQ (ts x) r ks us)):=by
 cases t with
 |lst us=>
  cases k with
  |inl i=>
   let h:us[i.toNat]? =Y u:=a;refine .inl {us,i,O,O,h,λr=>?_};show T.lst (us.take i.toNat++r::us.drop (i.toNat+1))=_;let f:=(mS.mp h).1;rw[cA,mN f]
  |inr x=>cases a
 |dic ks us=>
  cases k with
  |inl i=>cases a|inr x=>
   let c:(if ts x∈ks then Y (zH (ts x) ks us) else none)=Y u:=a
   by_cases d:ts x∈ks
   ·rw[mN d] at c
    refine .inr {ks,us,x,O,O,d,(mQ c).symm,λr=>?_};let e:yE (ks,us) (ts x) r=(ks,yQ (ts x) r ks us):=mN d;show T.dic (yE (ks,us) (ts x) r).1 (yE (ks,us) (ts x) r).2=_;rw[e]
   ·rw[mK d] at c;cases c
 |non=>cases a|bl b=>cases a|int b=>cases a|str b=>cases a|tup us=>cases a
theorem yGt{m:Nat}{t u r:T}{k:Key}(b:T.fewm m t)(d:zR t k=Y u):T.sz (yD .put t k r)+T.sz u=T.sz t+T.sz r:=by
 rcases gW d with⟨a,i,rfl,rfl,h,e⟩|⟨f,a,x,rfl,rfl,c,rfl,e⟩
 ·rw[e]
  let:=zSh (r:=r) h;show T.szs _+1+_=T.szs a+1+_
  lia
 ·rw[e]
  let:=zLe (r:=r) b.1 b.2.2.1 c;show T.szs _+1+_=T.szs a+1+_
  lia
theorem zPf{m:Nat}{t u r:T}{k:Key}(d:T.fewm m t)(j:zR t k=Y u)(f:T.fewm m r):T.fewm m (yD .put t k r)/\T.dep (yD .put t k r)<=max (T.dep t) (T.dep r+1):=by
 rcases gW j with⟨b,i,rfl,rfl,h,e⟩|⟨g,b,x,rfl,rfl,l,rfl,e⟩
 ·rw[e]
  let c:∀t∈b.set i.toNat r,t∈b\/t=r:=λt a=>List.mem_or_eq_of_mem_set a;refine{{by rw[aY];exact d.1,d5 λt a=>?_}, ?_}
  ·rcases c t a with z | z
   ·exact c6 d.2 z
   ·rw[z];exact f
  ·show T.deps _+1<=max (T.deps b+1) (T.dep r+1)
   let:T.deps (b.set i.toNat r)<=max (T.deps b) (T.dep r):=d9 λt a=>by
    rcases c t a with z | z
    ·let:=b8 z;lia
    ·rw[z];lia
   lia
 ·rw[e]
  refine{{d.1,d.2.1,by rw[gT];exact d.2.2.1,d5 λt a=>?_}, ?_}
  ·rcases zAr _ _ _ _ _ a with z | z
   ·exact c6 d.2.2.2 z
   ·rw[z];exact f
  ·show T.deps _+1<=max (T.deps b+1) (T.dep r+1)
   let:T.deps (yQ (ts x) r g b)<=max (T.deps b) (T.dep r):=d9 λt a=>by
    rcases zAr _ _ _ _ _ a with z | z
    ·let:=b8 z;lia
    ·rw[z];lia
   lia
theorem zIv{m:Nat}{t u:T}{k:Key}(c:T.fewm m t)(f:zR t k=Y u):T.fewm m u/\T.dep u+1<=T.dep t/\T.sz u<=T.sz t:=by
 rcases gW f with⟨b,i,rfl,rfl,h,e⟩|⟨g,b,x,rfl,rfl,d,rfl,e⟩
 ·let a:=mM h
  let:=b8 a;let:=c8 a;exact nAA (c6 c.2 a) (show _<=T.deps b+1 by lia) (show _<=T.szs b+1 by lia)
 ·let a:=yC d c.2.2.1
  let:=b8 a;let:=c8 a;exact nAA (c6 c.2.2.2 a) (show _<=T.deps b+1 by lia) (show _<=T.szs b+1 by lia)
theorem zNu:∀(ks:B8)(t:T)(i:Nat),i+1<(goT t ks)...*->∃k u v,ks[i]? =Y k/\(goT t ks)[i]? =Y u/\(goT t ks)[i+1]? =Y v/\zR u k=Y v
 |[],t,i,h=>by
  let j:i+1<1:=h
  lia
 |k::ks,t,i,h=>by
  let e:goT t (k::ks)=(match zR t k with | none=>[t] | some u=>t::goT u ks):=rfl
  cases d:zR t k with
  |none=>
   rw[d] at e;rw[e] at h;let j:i+1<1:=h
   lia
  |some u=>
   rw[d] at e;let s:goT t (k::ks)=t::goT u ks:=e;rw[s] at h⊢
   cases i with
   |zero=>
    let w:=(zCc u ks).1;obtain⟨v,a⟩:∃v,(goT u ks)[0]? =Y v:={(goT u ks)[0],by simp};let f:v=u:=by
     cases ks with
     |nil=>let:(goT u [])[0]? =Y u:=rfl;rw[this] at a;exact(mQ a).symm|cons c ks=>
      let:goT u (c::ks)=(match zR u c with | none=>[u] | some g=>u::goT g ks):=rfl
      rw[this] at a
      cases b:zR u c with|none=>rw[b] at a;exact(mQ a).symm|some _=>rw[b] at a;exact(mQ a).symm
    refine gD k t u O O (nA ?_ d);show(goT u ks)[0]? =Y u;rw[a,f]
   |succ i=>
    refine yB (zNu ks u i (by simpa using h)) λl g o q p r=>?_;ext oA r m n;exact gD l g o (by simpa using q) (by simpa using p) (nA (by simpa using m) n)
theorem zHg{m:Nat}:∀(ks:B8)(t:T)(i:Nat)(u:T),T.fewm m t->(goT t ks)[i]? =Y u->T.fewm m u/\T.dep u+i<=T.dep t/\T.sz u<=T.sz t
 |[],t,i,u,a,h=>by
  let d: [t][i]? =Y u:=h
  cases i with|zero=>rw[<-mQ d];exact{a,mC _,mC _}|succ i=>cases d
 |k::ks,t,i,u,a,h=>by
  let e:goT t (k::ks)=(match zR t k with | none=>[t] | some u=>t::goT u ks):=rfl
  cases b:zR t k with
  |none=>
   rw[b] at e;let c:goT t (k::ks)= [t]:=e;rw[c] at h
   cases i with|zero=>rw[<-mQ h];exact{a,mC _,mC _}|succ i=>cases h
  |some v=>
   rw[b] at e;let c:goT t (k::ks)=t::goT v ks:=e;rw[c] at h
   cases i with
   |zero=>rw[<-mQ h];exact{a,mC _,mC _}|succ i=>
    obtain⟨f,j,l⟩:=zIv a b;obtain⟨g,o,n⟩:=zHg ks v i u f (by simpa using h);exact nAA g ∅ ∅
def okS:Key->Prop
 |.inl i=>0<=i/\i<=59|.inr s=>xA (ts s)=true
theorem okS.k{k:Key}(h:okS k):okK k:=by
 cases k with|inl i=>exact h|inr s=>exact mT
theorem zXm{us:B0}{n:T}{i j:Nat}(a:j5 us)(c:T.gk n):j5 (us.take i++n::us.drop j):=i5 λu b=>by
 rcases mZ.mp b with z | z
 ·exact d4 a (sS z)
 ·rcases mG.mp z with z | z
  ·rw[z];exact c
  ·exact d4 a (rT z)
theorem zPp{w:Wd}{t n:T}{k:Key}(d:T.gk t)(g:T.gk n)(h:okS k):T.gk (yD w t k n):=by
 cases t with
 |lst f=>
  let a:j5 f:=d
  cases k with
  |inr s=>cases w<;>exact a|inl i=>
   cases w with|put=>exact zXm a g|ins=>exact zXm a g|tak=>exact i5 λu c=>(mZ.mp c).elim (λz=>d4 a (sS z)) λz=>d4 a (rT z)
 |dic j f=>
  let a:(∀k∈j,xA k=true)/\j5 f:=d
  cases k with
  |inl i=>cases w<;>exact a|inr s=>
   cases w with|put=>exact{λk b=>(putT_in.mp b).elim (a.1 k) λe=>by rw[e];exact h,i5 λu c=>(zCa c).elim (d4 a.2) λe=>by rw[e];exact g}|ins=>exact a|tak=>exact{λk b=>a.1 k (dropN_mem.mp b).1,i5 λu c=>d4 a.2 (gM c)}
 |tup f=>exact d.elim|_=>cases k<;>cases w<;>exact d
theorem zQu{t u:T}{k:Key}(d:T.few t)(a:T.gk t)(c:zR t k=Y u):T.gk u:=by
 rcases gW c with⟨e,i,rfl,_,h,_⟩|⟨f,e,x,rfl,_,b,rfl,_⟩
 ·exact d4 a (mM h)
 ·exact d4 a.2 (yC b d.2.2.1)
theorem zCb{m:Nat}{w:Wd}{n:T}(u:m<63)(j:T.fewm m n)(i:T.gk n):∀(ks:B8)(t r:T),doT w n ks t=Y r->T.fewm m t->T.gk t->(∀k∈ks,okS k)->T.sz t<=50000->T.fewm (m+1) r/\T.gk r/\T.dep r<=max (T.dep t) (ks...*+T.dep n)/\T.sz r<=T.sz t+T.sz n
 |[],t,r,h,a,c,_,_=>by
  cases w with
  |put=>
   let e:n=r:=mQ h;subst e;exact zTz (b9 (pV m) _ j) i (by show T.dep n<=max (T.dep t) (0+T.dep n);lia) ∅
  |ins=>cases h|tak=>cases h
 |[k],t,r,h,a,c,d,l=>by
  let f:(if xN w t k=true then Y (yD w t k n) else none)=Y r:=h
  by_cases p:xN w t k=true
  ·rw[mN p] at f
   let e:=mQ f;subst e;obtain⟨B,L,v⟩:=zZb (w:=w) (k:=k) a j l;exact zTz B (zPp c i (d k mE)) (by show _<=max (T.dep t) (1+T.dep n);lia) v
  ·rw[mK p] at f;cases f
 |k::y::ks,t,r,h,a,c,d,l=>by
  rw[kH (by simp)] at h
  cases b:zR t k with
  |none=>rw[b] at h;cases h|some s=>
   rw[b] at h;obtain⟨o,g,e⟩:=pU.mp h;subst e;obtain⟨x,Q,M⟩:=zIv a b;refine yZ (zCb u j i (y::ks) s o g x (zQu (d3 ∅ _ a) c b) (λq E=>d q (mI _ E)) ∅) λD H A N=>?_;obtain⟨z,I⟩:=zPf (b9 (pV m) _ a) b D;let J:=yGt (r:=o) a b;refine zTz z (zPp c H (d k mE)) ?_ ∅;rw[mX] at A⊢;rw[mX];let:1<=T.dep t:=by lia
   lia
theorem zEt{n n':T}:∀(ks:B8)(t:T),doT .tak n ks t=doT .tak n' ks t
 |[],_=>rfl|[k],t=>by
  show(if xN .tak t k=true then Y (yD .tak t k n) else none)=if xN .tak t k=true then Y (yD .tak t k n') else none;let e:yD .tak t k n=yD .tak t k n':=by cases t<;>cases k<;>rfl
  rw[e]
 |k::a::ks,t=>by
  rw[kH (by simp),kH (by simp)]
  cases zR t k with|none=>rfl|some s=>dsimp only;rw[zEt (a::ks) s]
def allR(P:T->Prop):List Dd->T->Prop
 |[],t=>P t|d::a,t=>P t/\∀r,doT d.1 d.2.2 d.2.1 t=Y r->allR P a r
theorem allR.head{P:T->Prop}{ds:C4}{t:T}(h:allR P ds t):P t:=by
 cases ds with|nil=>exact h|cons d ds=>exact h.1
theorem allR.last{P:T->Prop}:∀{ds:C4}{t r:T},allR P ds t->xG ds t=Y r->P r
 |[],t,r,h,e=>by
  let:t=r:=mQ e;rw[<-this];exact h
 |d::ds,t,r,h,e=>by
  let a:(doT d.1 d.2.2 d.2.1 t).bind (xG ds)=Y r:=e;obtain⟨s,c,b⟩:=Option.bind_eq_some_iff.mp a;exact(h.2 s c).last b
theorem allR.app{P:T->Prop}{b:C4}:∀{a:C4}{t:T},allR P a t->(∀r,xG a t=Y r->allR P b r)->allR P (a++b) t
 |[],t,_,c=>c t O|d::a,t,h,c=>{h.1,λr e=>(h.2 r e).app λs f=>c s (by rw[jR e];exact f)}
theorem allR.pre{P n:T->Prop}{k:Key}(i:okK k):∀{ds:C4}{t s:T},o0 t->zR t k=Y s->(∀d∈ds,zEk d)->allR n ds s->P t->(∀s',n s'->P (yD .put t k s'))->allR P (qN k ds) t
 |[],_,_,_,_,_,_,f,_=>f|d::ds,t,s,j,c,m,h,f,p=>by
  refine{f,λr q=>?_};let a:doT d.1 d.2.2 (k::d.2.1) t=Y r:=q;rw[zQx j i c (m d mE)] at a;obtain⟨b,o,e⟩:=pU.mp a;subst e;obtain⟨_,v,u⟩:=zFv (r:=b) j i c;exact allR.pre i (zVk j c) v (λw g=>m w (mI _ g)) (h.2 b o) (p b (h.2 b o).head) λs' l=>by rw[u];exact p s' l
theorem zXj{m:Nat}{t:T}{k:Key}(h:T.fewm m t):T.fewm m (yD .tak t k .non):=by
 cases t with
 |lst c=>
  cases k with
  |inr s=>exact h|inl i=>
   refine{?_,d5 λu a=>(mZ.mp a).elim (λz=>c6 h.2 (sS z)) λz=>c6 h.2 (rT z)};let:=h.1;rw[mL,nU,nI]
   lia
 |dic d c=>
  cases k with
  |inl i=>exact h|inr s=>
   obtain⟨b,e⟩:=uQ (n:=ts s) h.2.2.1;refine{vC h.1, ?_,b,d5 λu a=>c6 h.2.2.2 (gM a)};let:=h.2.1;let:=h.2.2.1
   lia
 |_=>cases k<;>exact h
theorem zFt{m:Nat}:∀(ds:C4)(t:T),(∀d∈ds,∃k,d=(.tak,[k], .non))->T.fewm m t->allR (T.fewm m) ds t
 |[],_,_,h=>h|d::ds,t,e,h=>{h,λr f=>by
  obtain⟨k,rfl⟩:=e d mE;let a:(if xN .tak t k=true then Y (yD .tak t k .non) else none)=Y r:=f
  by_cases c:xN .tak t k=true
  ·rw[mN c] at a
   rw[<-mQ a];exact zFt ds _ (λg b=>e g (mI _ b)) (zXj h)
  ·rw[mK c] at a;cases a}
theorem zKy{m:Nat}:∀(ds:C4)(us:B0),(∀d∈ds,∃i n,d=(.ins,[.inl i],n)/\T.fewm m n)->T.fewm m (.lst us)->us...*+ds...*<=100000->allR (T.fewm m) ds (.lst us)
 |[],_,_,h,_=>h|d::ds,us,f,h,o=>{h,λr g=>by
  refine wO (f d mE) λi n c l=>?_;subst c;rw[mX] at o;let a:(if xN .ins (.lst us) (.inl i)=true then Y (T.lst (us.take i.toNat++n::us.drop i.toNat)) else none)=Y r:=g
  by_cases e:xN .ins (.lst us) (.inl i)=true
  ·rw[mN e] at a
   rw[<-mQ a];let p:(us.take i.toNat++n::us.drop i.toNat)...*=us...*+1:=by
    rw[mL,mX,nU,nI];lia
   refine zKy ds _ (λk b=>f k (mI _ b)) {∅,d5 λu j=>?_} ∅;rcases mZ.mp j with z | z
   ·exact c6 h.2 (sS z)
   ·rcases mG.mp z with z | z
    ·rw[z];exact l
    ·exact c6 h.2 (rT z)
  ·rw[mK e] at a;cases a}
theorem zHw{D:T->T->List Dd}{us ws:B0}{h m:Nat}(a:us...*<=60)(f:∀(i:Nat) (t u:T),us[i]? =Y t->ws[i]? =Y u->(∀d∈D t u,zEk d)/\∃r,xG (D t u) t=Y r/\alk r u=true)(n:∀(i:Nat) (t u:T),us[i]? =Y t->ws[i]? =Y u->allR (T.fewm m) (D t u) t)(s:T.fewm m (.lst us)):∀j:Nat,h+j<=us...*->h+j<=ws...*->
  allR (T.fewm m) ((List.range j).flatMap λi=>qN (.inl ((h+i:Nat):Int)) (D (us.getD (h+i) .non) (ws.getD (h+i) .non))) (.lst us)
 |0,_,_=>s|j+1,H,B=>by
  let o:=zHw (h:=h) a f n s j ∅ ∅;refine vN (zBs (h:=h) a f j ∅ ∅) λL q A y _=>?_;let e:us[h+j]? =some us[h+j]:=mP ∅;let g:ws[h+j]? =some ws[h+j]:=mP ∅;let v:us.getD (h+j) .non=us[h+j]:=by rw[nE,e];rfl
  let x:ws.getD (h+j) .non=ws[h+j]:=by rw[nE,g];rfl
  let z:L[h+j]? =some us[h+j]:=(y (h+j) (.inr (mC _))).trans e;let c:zR (.lst L) (.inl ((h+j:Nat):Int))=some us[h+j]:=by
   show L[((h+j:Nat):Int).toNat]? =_;rw[rN];exact z
  rw[rG,sV];refine o.app λr p=>?_;rw[q] at p;let w:=mQ p;subst w;let b:=o.last q;rw[tR,v,x];exact allR.pre (k:=.inl ((h+j:Nat):Int)) {∅,∅} mT c (f _ _ _ e g).1 (n _ _ _ e g) b λE l=>(zPf b c l).1
theorem zVd{D:T->T->List Dd}{us ws:B0}{m:Nat}(y:us...*<=60)(Q:ws...*<=60)(s:∀(i:Nat) (t u:T),us[i]? =Y t->ws[i]? =Y u->(∀d∈D t u,zEk d)/\∃r,xG (D t u) t=Y r/\alk r u=true)(z:∀(i:Nat) (t u:T),us[i]? =Y t->ws[i]? =Y u->allR (T.fewm m) (D t u) t)(E:T.fewm m (.lst us))(l:d7 m ws):allR (T.fewm m) (dfR D us ws) (.lst us):=by
 obtain⟨h,o⟩:∃h,ahead us ws=h:=⟨_,O⟩;obtain⟨e,x⟩:∃e,ahead (us.drop h).reverse (ws.drop h).reverse=e:=⟨_,O⟩;let c:=wT us ws;let b:=wT (us.drop h).reverse (ws.drop h).reverse;rw[o] at c;rw[x,pJ,pJ,nI,nI] at b;obtain⟨a,j⟩:∃m,min us...* ws...* - e=m:=⟨_,O⟩;unfold dfR;dsimp only;rw[o,x,j];refine yZ (zJg c b j) λf1 N f3 f4=>?_;clear c b j;refine vN (zBs (h:=h) y s (a - h) ∅ ∅) λL B M _ _=>?_;let v:=zHw (h:=h) y s z E (a - h) ∅ ∅;let q:=zGy (L:=L) (e:=e) (m:=a) (us...* - e - a) ∅;rw[M,show us...* - e - (us...* - e - a)=a by lia] at q;let I:∀r,xG ((List.range (a - h)).flatMap λi=>qN (.inl ((h+i:Nat):Int)) (D (us.getD (h+i) .non) (ws.getD (h+i) .non))) (.lst us)=Y r->allR (T.fewm m) ((List.range (us...* - e - a)).map λi=>((.tak,[.inl ((us...* - e - 1 - i:Nat):Int)], .non):Dd)) r:=λr g=>zFt _ _ (λd k=>by
   obtain⟨i,_,rfl⟩:=nS.mp k;exact⟨_,O⟩) (v.last g)
 let p:=v.app I;refine p.app λr g=>?_;let n:=p.last g;rw[jU,B] at g;let f:xG _ (.lst L)=Y r:=g;rw[q] at f;let A:=mQ f;subst A;refine zKy _ _ (λd k=>?_) n ?_
 ·obtain⟨i,H,rfl⟩:=nS.mp k
  let J:=sI.mp H;refine nEEA _ _ O ?_;let w:ws[a+i]? =some ws[a+i]:=mP ∅;rw[nE,w];exact c6 l (mM w)
 ·rw[mL,nU,nI,mJ,tW]
  lia
theorem zNe{D:T->T->List Dd}{ks ls:C6}{us ws:B0}{m:Nat}(nl:ls.Nodup)(lm:ls...*<=m)(fw:d7 m ws)(ll:ls...*=ws...*)(hD:∀k∈ks,k∈ls->(∀d∈D (zH k ks us) (zH k ls ws),zEk d)/\∃r,xG (D (zH k ks us) (zH k ls ws)) (zH k ks us)=Y r/\alk r (zH k ls ws)=true)(hR:∀k∈ks,k∈ls->allR (T.fewm m) (D (zH k ks us) (zH k ls ws)) (zH k ks us)):
  ∀(S a:C6)(b:B0),T.fewm m (.dic a b)->(∀k∈a,k∈ls)->S.Nodup->(∀k∈S,k∈ls)->(∀k∈S,k∈a↔k∈ks)->(∀k∈S,k∈a->zH k a b=zH k ks us)->
  allR (T.fewm m) (S.flatMap λk=>if k∈ks then qN (nK k) (D (zH k ks us) (zH k ls ws)) else[(.put,[nK k],zH k ls ws)]) (.dic a b)
 |[],a,b,o,_,_,_,_,_=>o|k::S,a,b,o,ha,N,h1,h2,h3=>by
  rw[pC] at N;let i:=h1 k mE;let L:=o.1;let y:=o.2.2.1;let l:∀r,T.fewm m r->T.fewm m (.dic (yE (a,b) k r).1 (yE (a,b) k r).2)/\∀f∈(yE (a,b) k r).1,f∈ls:=λr p=>by
   let v:∀f∈(yE (a,b) k r).1,f∈ls:=λf c=>(putT_in.mp c).elim (ha f) λe=>by rw[e];exact i
   let M:=vY (us:=b) (n:=k) (t:=r) L;refine{{M, ?_,(jF y).1,d5 λu hu=>(zCa hu).elim (c6 o.2.2.2) λe=>by rw[e];exact p},v};exact pB (M.length_le_of_subset v) lm
  let A:∀(r:T),T.fewm m r->∀Q,allR (T.fewm m) Q (.dic a b)->(∀q,xG Q (.dic a b)=Y q->q= .dic (yE (a,b) k r).1 (yE (a,b) k r).2)->allR (T.fewm m) (Q++S.flatMap λk=>if k∈ks then qN (nK k) (D (zH k ks us) (zH k ls ws)) else[(.put,[nK k],zH k ls ws)]) (.dic a b):=λr p Q aa h=>by
   let x:∀f,f∈a\/f=k->zH f (yE (a,b) k r).1 (yE (a,b) k r).2=if f=k then r else zH f a b:=λf c=>(zAn y c).2;refine aa.app λq ac=>?_;rw[h q ac];obtain⟨p1,p2⟩:=l r p;exact zNe nl lm fw ll hD hR S _ _ p1 p2 N.2 (λf c=>h1 f (mI _ c)) (λf c=>by
    let j:f≠k:=λz=>N.1 (z▸c);rw[putT_in,<-h2 f (mI _ c)];exact{λz=>z.resolve_right j, .inl}) (λf c hm=>by
    let j:f≠k:=λz=>N.1 (z▸c);let H:=(putT_in.mp hm).resolve_right j;rw[x f (.inl H),mK j];exact h3 f (mI _ c) H)
  rw[dG]
  by_cases B:k∈ks
  ·rw[mN B]
   let g:=(h2 k mE).mpr B;obtain⟨ok,r,p,_⟩:=hD k B i;let I:=hR k B i;let w:zR (.dic a b) (nK k)=Y (zH k ks us):=by
    show(if ts (tx k)∈a then Y (zH (ts (tx k)) a b) else none)=_;rw[wG,mN g,h3 k mE g]
   let s:=zEr (k:=nK k) mT (D (zH k ks us) (zH k ls ws)) (t:=.dic a b) ⟨L,y⟩ w ok;rw[p] at s;refine A r (I.last p) _ (allR.pre (k:=nK k) mT ⟨L,y⟩ w ok I o λs' ab=>(zPf o w ab).1) λq h=>?_;rw[s] at h;rw[<-mQ h];dsimp only;let ep:yD .put (.dic a b) (nK k) r= .dic (yE (a,b) k r).1 (yE (a,b) k r).2:=by
    show T.dic (yE (a,b) (ts (tx k)) r).1 (yE (a,b) (ts (tx k)) r).2=_;rw[wG]
   by_cases hn:D (zH k ks us) (zH k ls ws)= []
   ·rw[mN hn]
    rw[hn] at p;let er:zH k ks us=r:=mQ p;let:yE (a,b) k r=(a,yQ k r a b):=mN g;rw[this,jV a b L y g];show T.dic a b=T.dic a (b.set (a.idxOf k) r);let il:a.idxOf k<b...*:=by rw[<-y];exact sU g
    let hb:b[a.idxOf k]=r:=by
     rw[<-er,<-h3 k mE g];exact(kM L (zEp g) (mP il)).symm
    rw[<-hb,List.set_getElem_self]
   ·rw[mK hn,ep]
  ·rw[mK B]
   let E:=c6 fw (yC i ll);let J:doT .put (zH k ls ws) [nK k] (.dic a b)=Y (.dic (yE (a,b) k (zH k ls ws)).1 (yE (a,b) k (zH k ls ws)).2):=by
    rw[zBt O];show Y (T.dic (yE (a,b) (ts (tx k)) (zH k ls ws)).1 (yE (a,b) (ts (tx k)) (zH k ls ws)).2)=_;rw[wG]
   refine A _ E _ {o,λq h=>?_} λq h=>?_
   ·rw[J] at h
    rw[<-mQ h];exact(l _ E).1
   ·rw[jR J] at h
    exact(mQ h).symm
theorem zYg{D:T->T->List Dd}{ks ls:C6}{us ws:B0}{m:Nat}(n:T.fewm m (.dic ks us))(c:T.fewm m (.dic ls ws))(w:∀k∈ks,k∈ls->(∀d∈D (zH k ks us) (zH k ls ws),zEk d)/\∃r,xG (D (zH k ks us) (zH k ls ws)) (zH k ks us)=Y r/\alk r (zH k ls ws)=true)(s:∀k∈ks,k∈ls->allR (T.fewm m) (D (zH k ks us) (zH k ls ws)) (zH k ks us)):allR (T.fewm m) (dfC D ks us ls ws) (.dic ks us):=by
 let o:=n.1;let E:=n.2.2.1;let q:=c.1;let f:∀k,k∈(xC ks).filter (λk=>!decide (k∈ls))↔k∈ks/\k∉ls:=λk=>by
  rw[rP,mem_sortK];simp
 refine zV (zFs (ls:=ls) ((xC ks).filter λk=>!decide (k∈ls)) ks us o E ((tO (xF ks)).mpr o |>.filter _) λk e=>((f k).mp e).1) λa b x H I B=>?_
 ext oA B A y;let g:∀k,k∈a↔k∈ks/\k∈ls:=λk=>by
  rw[A k,f k];constructor
  ·rintro⟨h,l⟩
   exact{h,Classical.byContradiction λz=>l ⟨h,z⟩}
  ·rintro⟨h,l⟩
   exact{h,λz=>z.2 l}
 let p:allR (T.fewm m) (((xC ks).filter λk=>!decide (k∈ls)).map λk=>((.tak,[nK k], .non):Dd)) (.dic ks us):=zFt _ _ (λd u=>by
  obtain⟨k,_,rfl⟩:=nS.mp u;exact⟨_,O⟩) n
 unfold dfC;refine p.app λr i=>?_;let j:=p.last i;rw[x] at i;let v:=mQ i;subst v;exact zNe q c.2.1 c.2.2.2 c.2.2.1 w s (xC ls) a b j (λk e=>((g k).mp e).2) ((tO (xF ls)).mpr q) (λk e=>mem_sortK.mp e) (λk e=>by
  rw[g k];exact{λz=>z.1,λz=>{z,mem_sortK.mp e}}) λk e t=>y k t
mutual
theorem gN:∀t:T,T.few t->lnar t=true->T.fewm 30 t
 |.lst b,h,n=>by
  let a:(decide (b...*<=60)&& yX b)=true:=n;rw[nH] at a;exact{h.1,uU b h.2 a.2}
 |.dic ks b,h,n=>by
  let a:(decide (ks...*<=30)&& yX b)=true:=n;rw[nH,nX] at a;exact{h.1,a.1,h.2.2.1,uU b h.2.2.2 a.2}
 |.tup _,h,_=>h.elim|.non,_,_=>mT|.bl _,_,_=>mT|.int _,_,_=>mT|.str _,_,_=>mT
theorem uU:∀us:List T,d8 us->yX us=true->d7 30 us
 |[],_,_=>mT|t::us,h,n=>by
  let a:(lnar t && yX us)=true:=n;rw[nH] at a;exact{gN t h.1 a.1,uU us h.2 a.2}
end
theorem zKc:∀(n:Nat)(t u:T),T.few t->T.few u->lnar t=true->lnar u=true->T.dep t<n->allR (T.fewm 30) (dfT n t u) t
 |0,_,_,_,_,_,_,h=>absurd h (rA _)|n+1,t,u,d,g,x,f,z=>by
  let p:=gN t d x;let q:=gN u g f;unfold dfT
  by_cases A:alk t u=true
  ·rw[mN A]
   exact p
  rw[mK A];let j:allR (T.fewm 30) [((.put,[],u):Dd)] t:={p,λr H=>by
   let e:u=r:=mQ H;rw[<-e];exact q}
  cases t with
  |lst l=>
   cases u with
   |lst o=>
    let b:(decide (l...*<=60)&& yX l)=true:=x;rw[nH,nX] at b;let a:(decide (o...*<=60)&& yX o)=true:=f;rw[nH,nX] at a;let w:T.deps l+1<n+1:=z;refine zVd (D:=dfT n) b.1 a.1 (λi t u y v=>{zKs n t u, ?_}) (λi t u y v=>?_) p q.2
    ·let mt:=mM y
     let:=b8 mt;exact zGr n t u (b7 d.2 mt) (b7 g.2 (mM v)) (wN b.2 mt) ∅
    ·let mt:=mM y
     let m:=mM v;let:=b8 mt;exact zKc n t u (b7 d.2 mt) (b7 g.2 m) (wN b.2 mt) (wN a.2 m) ∅
   |_=>exact j
  |dic B l=>
   cases u with
   |dic E o=>
    let b:(decide (B...*<=30)&& yX l)=true:=x;rw[nH,nX] at b;let a:(decide (E...*<=30)&& yX o)=true:=f;rw[nH,nX] at a;let w:T.deps l+1<n+1:=z;refine zYg (D:=dfT n) p q (λk s c=>{zKs n _ _, ?_}) (λk s c=>?_)
    ·let mt:=yC s d.2.2.1
     let:=b8 mt;exact zGr n _ _ (b7 d.2.2.2 mt) (b7 g.2.2.2 (yC c g.2.2.1)) (wN b.2 mt) ∅
    ·let mt:=yC s d.2.2.1
     let m:=yC c g.2.2.1;let:=b8 mt;exact zKc n _ _ (b7 d.2.2.2 mt) (b7 g.2.2.2 m) (wN b.2 mt) (wN a.2 m) ∅
   |_=>exact j
  |_=>exact j
theorem zLf{a b:B0}(h:a.Perm b):T.szs a=T.szs b:=by
 induction h with|nil=>rfl|cons x _ e=>show T.sz x+_=T.sz x+_;rw[e]|swap x y l=>show T.sz y+(T.sz x+_)=T.sz x+(T.sz y+_);lia|trans _ _ d c=>exact d.trans c
theorem zFm:∀{ks:C6}{us:B0},ks.Nodup->ks...*=us...*->T.szs (ks.map λk=>zH k ks us)=T.szs us
 |[],[],_,_=>rfl|[],_::_,_,h=>by simp at h|_::_,[],_,h=>by simp at h|k::ks,u::us,c,d=>by
  rw[pC] at c;rw[nO];show T.sz (if k=k then u else _)+T.szs _=T.sz u+T.szs us;let e:(ks.map λa=>zH a (k::ks) (u::us))=ks.map λa=>zH a ks us:=rL λa b=>by
   show(if k=a then u else zH a ks us)=_;rw[mK fun(e:k=a)=>c.1 (e▸b)]
  rw[mN O,e,zFm c.2 (by simpa using d)]
noncomputable def cst(d:Dd):Nat:=match d.1 with|.tak=>1|_=>T.sz d.2.2
noncomputable def vW:List Dd->Nat
 |[]=>0|d::a=>cst d+vW a
theorem jJ:∀a b:List Dd,vW (a++b)=vW a+vW b
 |[],b=>by show vW b=0+vW b;lia|d::a,b=>by show cst d+vW (a++b)=cst d+vW a+vW b;rw[jJ a b];lia
theorem zHc(k:Key):∀ds:List Dd,vW (qN k ds)=vW ds
 |[]=>rfl|d::ds=>by show cst d+vW (qN k ds)=cst d+vW ds;rw[zHc k ds]
theorem zKa:∀t:T,1<=T.sz t
 |.lst a=>by show 1<=T.szs a+1;lia|.dic _ a=>by show 1<=T.szs a+1;lia|.tup a=>by show 1<=T.szs a+1;lia|.non=>mC _|.bl _=>mC _|.int _=>mC _|.str _=>mC _
theorem zRt(d:Dd):1<=cst d:=by
 unfold cst;split
 ·exact mC _
 ·exact zKa _
theorem zFw:∀ds:List Dd,ds...*<=vW ds
 |[]=>mC _|d::ds=>by
  let:=zFw ds;let:=zRt d;show ds...*+1<=cst d+vW ds
  lia
theorem jB{us:B0}{h j:Nat}(a:h+j<us...*):T.szs ((us.drop h).take (j+1))=T.szs ((us.drop h).take j)+T.sz us[h+j]:=by
 let e:(us.drop h).take (j+1)=(us.drop h).take j++ [us[h+j]]:=yP (by rw[tE];exact mP a);rw[e,c7]
 rfl
theorem zNf{D:T->T->List Dd}{us ws:B0}{h:Nat}(c:∀(i:Nat) (t u:T),us[i]? =Y t->ws[i]? =Y u->vW (D t u)<=T.sz t+T.sz u):∀j:Nat,h+j<=us...*->h+j<=ws...*->vW ((List.range j).flatMap λi=>qN (.inl ((h+i:Nat):Int)) (D (us.getD (h+i) .non) (ws.getD (h+i) .non)))<=T.szs ((us.drop h).take j)+T.szs ((ws.drop h).take j)
 |0,_,_=>nJ _|j+1,k,g=>by
  let f:=zNf (h:=h) c j ∅ ∅;let b:us[h+j]? =some us[h+j]:=mP ∅;let a:ws[h+j]? =some ws[h+j]:=mP ∅;let d:us.getD (h+j) .non=us[h+j]:=by rw[nE,b];rfl
  let e:ws.getD (h+j) .non=ws[h+j]:=by rw[nE,a];rfl
  rw[rG,sV,jJ,tR,zHc,d,e,jB ∅,jB ∅];let:=c _ _ _ b a
  lia
theorem zMo{us:B0}{f:Nat->Key}{m:Nat}:∀j:Nat,m+j<=us...*->vW ((List.range j).map λi=>((.tak,[f i], .non):Dd))<=T.szs ((us.drop m).take j)
 |0,_=>nJ _|j+1,h=>by
  let a:=zMo (f:=f) (us:=us) (m:=m) j ∅;rw[rG,mU,jJ,jB ∅];let:=zKa us[m+j];show _+(1+0)<=_
  lia
theorem zRg{ws:B0}{m:Nat}:∀j:Nat,m+j<=ws...*->vW ((List.range j).map λi=>((.ins,[.inl ((m+i:Nat):Int)],ws.getD (m+i) .non):Dd))<=T.szs ((ws.drop m).take j)
 |0,_=>nJ _|j+1,h=>by
  let c:=zRg (ws:=ws) (m:=m) j ∅;let a:ws[m+j]? =some ws[m+j]:=mP ∅;let b:ws.getD (m+j) .non=ws[m+j]:=by rw[nE,a];rfl
  rw[rG,mU,jJ,jB ∅];show _+(T.sz (ws.getD (m+j) .non)+0)<=_;rw[b]
  lia
theorem zHy{us:B0}{h m j:Nat}(d:h<=m):T.szs ((us.drop h).take (m - h))+T.szs ((us.drop m).take j)<=T.szs us:=by
 let c:=c7 (us.take h) (us.drop h);let a:=c7 ((us.drop h).take (m - h)) ((us.drop h).drop (m - h));let b:=c7 ((us.drop m).take j) ((us.drop m).drop j);rw[sN] at c a b;rw[List.drop_drop,show h+(m - h)=m by lia] at a
 lia
theorem zZp{D:T->T->List Dd}{us ws:B0}(k:∀(i:Nat) (t u:T),us[i]? =Y t->ws[i]? =Y u->vW (D t u)<=T.sz t+T.sz u):vW (dfR D us ws)<=T.szs us+T.szs ws:=by
 obtain⟨h,d⟩:∃h,ahead us ws=h:=⟨_,O⟩;obtain⟨e,g⟩:∃e,ahead (us.drop h).reverse (ws.drop h).reverse=e:=⟨_,O⟩;let b:=wT us ws;let a:=wT (us.drop h).reverse (ws.drop h).reverse;rw[d] at b;rw[g,pJ,pJ,nI,nI] at a;obtain⟨m,c⟩:∃m,min us...* ws...* - e=m:=⟨_,O⟩;unfold dfR;dsimp only;rw[d,g,c,jJ,jJ];refine yZ (zJg b a c) λr w s o=>?_;clear b a c;let v:=zNf (h:=h) k (m - h) ∅ ∅;let n:=zMo (f:=λi=>.inl ((us...* - e - 1 - i:Nat):Int)) (us:=us) (m:=m) (us...* - e - m) ∅;let p:=zRg (ws:=ws) (m:=m) (ws...* - e - m) ∅;let l:=zHy (us:=us) (h:=h) (m:=m) (j:=us...* - e - m) ∅;let q:=zHy (us:=ws) (h:=h) (m:=m) (j:=ws...* - e - m) ∅
 lia
theorem zBp{ks:C6}{us:B0}:∀S:List (List Nat),vW (S.map λk=>((.tak,[nK k], .non):Dd))<=T.szs (S.map λk=>zH k ks us)
 |[]=>nJ _|k::S=>by
  let:=zBp (ks:=ks) (us:=us) S;let:=zKa (zH k ks us);show 1+vW _<=T.sz (zH k ks us)+T.szs _
  lia
theorem zEd{D:T->T->List Dd}{ks ls:C6}{us ws:B0}(d:∀k∈ks,k∈ls->vW (D (zH k ks us) (zH k ls ws))<=T.sz (zH k ks us)+T.sz (zH k ls ws)):∀S:List (List Nat),(∀k∈S,k∈ls)->vW (S.flatMap λk=>if k∈ks then qN (nK k) (D (zH k ks us) (zH k ls ws)) else[(.put,[nK k],zH k ls ws)])<=T.szs ((S.filter λk=>decide (k∈ks)).map λk=>zH k ks us)+T.szs (S.map λk=>zH k ls ws)
 |[],_=>nJ _|k::S,c=>by
  let h:=zEd d S λg b=>c g (mI _ b);rw[dG,jJ];let e:T.szs ((k::S).map λk=>zH k ls ws)=T.sz (zH k ls ws)+T.szs (S.map λk=>zH k ls ws):=rfl;rw[e]
  by_cases a:k∈ks
  ·rw[mN a,zHc,rZ (p:=λk=>decide (k∈ks)) (nF a)]
   let:=d k a (c k mE);let f:T.szs ((k::S.filter λk=>decide (k∈ks)).map λk=>zH k ks us)=T.sz (zH k ks us)+T.szs ((S.filter λk=>decide (k∈ks)).map λk=>zH k ks us):=rfl;rw[f]
   lia
  ·rw[mK a,sD (p:=λk=>decide (k∈ks)) (by rw[nP a];decide)]
   show T.sz (zH k ls ws)+0+_<=_
   lia
theorem yBn{D:T->T->List Dd}{ks ls:C6}{us ws:B0}(e:ks.Nodup)(r:ks...*=us...*)(g:ls.Nodup)(h:ls...*=ws...*)(l:∀k∈ks,k∈ls->vW (D (zH k ks us) (zH k ls ws))<=T.sz (zH k ks us)+T.sz (zH k ls ws)):vW (dfC D ks us ls ws)<=T.szs us+T.szs ws:=by
 unfold dfC;rw[jJ];let u:=zBp (ks:=ks) (us:=us) ((xC ks).filter λk=>!decide (k∈ls));let t:=zEd l (xC ls) λk n=>mem_sortK.mp n;let p:=zLf ((xF ls).map λk=>zH k ls ws);rw[zFm g h] at p;let f:=(tO (xF ks)).mpr e;let d:=(tO (xF ls)).mpr g;let i:(((xC ks).filter λk=>!decide (k∈ls))++(xC ls).filter λk=>decide (k∈ks)).Perm ks:=by
  refine(List.perm_ext_iff_of_nodup ?_ e).mpr λk=>?_
  ·refine aN.mpr {f.filter _,d.filter _,λa j b s z=>?_}
   subst z;let q:=(rP.mp j).2;let o:=mem_sortK.mp (rP.mp s).1;simp[o] at q
  ·rw[mZ,rP,rP,mem_sortK,mem_sortK]
   by_cases c:k∈ls<;>simp[c]
 let m:=zLf (i.map λk=>zH k ks us);rw[mU,c7,zFm e r] at m
 lia
theorem zKq:∀(n:Nat)(t u:T),T.few t->T.few u->vW (dfT n t u)<=T.sz t+T.sz u
 |0,_,_,_,_=>nJ _|n+1,t,u,c,b=>by
  unfold dfT
  by_cases g:alk t u=true
  ·rw[mN g];exact nJ _
  rw[mK g];let a:vW [((.put,[],u):Dd)]<=T.sz t+T.sz u:=by
   show T.sz u+0<=_
   lia
  cases t with
  |lst e=>
   cases u with
   |lst d=>
    let:=zZp (D:=dfT n) (us:=e) (ws:=d) λi t u l j=>zKq n t u (b7 c.2 (mM l)) (b7 b.2 (mM j));show _<=T.szs e+1+(T.szs d+1);dsimp only
    lia
   |_=>exact a
  |dic m e=>
   cases u with
   |dic o d=>
    let:=yBn (D:=dfT n) c.1 c.2.2.1 b.1 b.2.2.1 λk h f=>zKq n _ _ (b7 c.2.2.2 (yC h c.2.2.1)) (b7 b.2.2.2 (yC f b.2.2.1));show _<=T.szs e+1+(T.szs d+1);dsimp only
    lia
   |_=>exact a
  |_=>exact a
structure Gd(t:T):Prop where
 f:T.few t
 g:T.gk t
 n:lnar t=true
theorem Gd.row{us:B0}(h:Gd (.lst us)):us...*<=60/\∀t∈us,Gd t:=by
 let a:(decide (us...*<=60)&& yX us)=true:=h.n;rw[nH,nX] at a;exact{a.1,λt b=>{b7 h.f.2 b,d4 h.g b,wN a.2 b}}
theorem Gd.rcd{ks:C6}{us:B0}(h:Gd (.dic ks us)):ks...*<=30/\(∀k∈ks,xA k=true)/\∀t∈us,Gd t:=by
 let a:(decide (ks...*<=30)&& yX us)=true:=h.n;rw[nH,nX] at a;exact nAA a.1 h.g.1 (λt b=>{b7 h.f.2.2.2 b,d4 h.g.2 b,wN a.2 b})
theorem Gd.non:Gd .non:=⟨mT,mT,O⟩
structure Dok(N Zy:Nat)(d:Dd):Prop where
 s:∀k∈d.2.1,okS k
 l:d.2.1...*+T.dep d.2.2<=N
 g:Gd d.2.2
 z:T.sz d.2.2<=Zy
theorem Dok.pre{N M c W:Nat}{k:Key}{ds:C4}(f:okS k)(l:N+1<=M)(i:c<=W)(h:∀d∈ds,Dok N c d):∀d∈qN k ds,Dok M W d:=λd g=>by
 obtain⟨a,b,rfl⟩:=nS.mp g;let:=h a b;refine{λq j=>(mG.mp j).elim (λe=>by rw[e];exact f) (this.s q), ?_,this.g,pB this.z i};let:=this.l;show a.2.1...*+1+T.dep a.2.2<=M
 lia
theorem zPi:∀(n:Nat)(t u:T),Gd t->Gd u->∀d∈dfT n t u,Dok (max (T.dep t) (T.dep u)) (T.sz u) d
 |0,_,_,_,_,_,h=>nomatch h|n+1,t,u,N,B,d,h=>by
  unfold dfT at h
  by_cases ha:alk t u=true
  ·rw[mN ha] at h;exact nomatch h
  rw[mK ha] at h;let s:d∈ [((.put,[],u):Dd)]->Dok (max (T.dep t) (T.dep u)) (T.sz u) d:=λh=>by
   rw[mH.mp h];exact{λ_ z=>(nomatch z),by show 0+T.dep u<=_;lia,B,mC _}
  cases t with
  |lst b=>
   cases u with
   |lst a=>
    obtain⟨l1,L⟩:=N.row;obtain⟨l2,g2⟩:=B.row;let et:T.dep (.lst b)=T.deps b+1:=rfl;let eu:T.dep (.lst a)=T.deps a+1:=rfl;let ez:T.sz (.lst a)=T.szs a+1:=rfl;let r:d∈dfR (dfT n) b a:=h;obtain⟨k,D⟩:∃k,ahead b a=k:=⟨_,O⟩;obtain⟨e,M⟩:∃e,ahead (b.drop k).reverse (a.drop k).reverse=e:=⟨_,O⟩;let v:=wT b a;let l:=wT (b.drop k).reverse (a.drop k).reverse;rw[D] at v;rw[M,pJ,pJ,nI,nI] at l;obtain⟨m,E⟩:∃m,min b...* a...* - e=m:=⟨_,O⟩;unfold dfR at r;dsimp only at r;rw[D,M,E] at r;refine yZ (zJg v l E) λf1 f2 f3 f4=>?_;clear v l E D M h;rcases mZ.mp r with h | h
    ·rcases mZ.mp h with h | h
     ·obtain⟨i,y,h⟩:=cG.mp h
      let A:=sI.mp y;let w:b[k+i]? =some b[k+i]:=mP ∅;let g:a[k+i]? =some a[k+i]:=mP ∅;let gt:b.getD (k+i) .non=b[k+i]:=by rw[nE,w];rfl
      let I:a.getD (k+i) .non=a[k+i]:=by rw[nE,g];rfl
      rw[gt,I] at h;let mt:=mM w;let f:=mM g;let d1:=b8 mt;let d2:=b8 f;let z2:=c8 f;exact Dok.pre (k:=.inl ((k+i:Nat):Int)) {∅,∅} ∅ ∅ (zPi n _ _ (L _ mt) (g2 _ f)) d h
     ·obtain⟨i,y,rfl⟩:=nS.mp h
      let A:=sI.mp y;refine{λk o=>?_,by show 1+0<=_;lia,Gd.non,by show 1<=_;lia};rw[mH.mp o];exact{∅,∅}
    ·obtain⟨i,y,rfl⟩:=nS.mp h
     let A:=sI.mp y;let g:a[m+i]? =some a[m+i]:=mP ∅;let I:a.getD (m+i) .non=a[m+i]:=by rw[nE,g];rfl
     let f:=mM g;let d2:=b8 f;let z2:=c8 f;rw[I];refine{λk o=>?_,by show 1+T.dep a[m+i]<=_;lia,g2 _ f,by show T.sz a[m+i]<=_;lia};rw[mH.mp o];exact{∅,∅}
   |_=>exact s h
  |dic H b=>
   cases u with
   |dic x a=>
    obtain⟨l1,o1,L⟩:=N.rcd;obtain⟨l2,o2,g2⟩:=B.rcd;let et:T.dep (.dic H b)=T.deps b+1:=rfl;let eu:T.dep (.dic x a)=T.deps a+1:=rfl;let ez:T.sz (.dic x a)=T.szs a+1:=rfl;let p:∀k,xA k=true->okS (nK k):=λk h=>by
     show xA (ts (tx k))=true;rw[wG];exact h
    let r:d∈dfC (dfT n) H b x a:=h;unfold dfC at r;rcases mZ.mp r with h | h
    ·obtain⟨k,o,rfl⟩:=nS.mp h
     let J:=mem_sortK.mp (rP.mp o).1;refine{λq Q=>?_,by show 1+0<=_;lia,Gd.non,by show 1<=_;lia};rw[mH.mp Q];exact p k (o1 k J)
    ·obtain⟨k,o,h⟩:=cG.mp h
     let j:=mem_sortK.mp o;let f:=yC j B.f.2.2.1;let d2:=b8 f;let z2:=c8 f
     by_cases c:k∈H
     ·rw[mN c] at h
      let mt:=yC c N.f.2.2.1;let d1:=b8 mt;exact Dok.pre (p k (o2 k j)) ∅ ∅ (zPi n _ _ (L _ mt) (g2 _ f)) d h
     ·rw[mK c] at h
      rw[mH.mp h];refine{λq Q=>?_,by show 1+T.dep (zH k x a)<=_;lia,g2 _ f,by show T.sz (zH k x a)<=_;lia};rw[mH.mp Q];exact p k (o2 k j)
   |_=>exact s h
  |_=>exact s h
section
variable{P:V3}{w:V4}{K:A6}{mg:C8}{base:V5}{f:V1}{fd:V7}
noncomputable def zEh:V->Bool
 |.str x=>xA (ts x)|_=>false
def zVa:Sp:=λb H Q _=>∃(v:V)(t:String),b= [v]/\tyS H v=Y t/\(∀x,v= .str x->x...*<=1000)/\∀a,Same H a->Q (.bl (zEh v)) a
theorem yCc{H:Hp}{v:V}{t:String}(a:tyS H v=Y t)(h:zX t "str" =false):zEh v=false:=by
 cases v with|str x=>cases a;exact absurd h ∎|_=>rfl
theorem yGa{H:Hp}{v:V}{t:String}(c:tyS H v=Y t)(h:¬zX t "str" =false):∃x,v= .str x:=by
 cases v with
 |str x=>exact⟨x,O⟩|ref a=>
  let d:(match H a with | some (.lst _)=>some "list" | some (.tup _)=>some "tuple" | some (.dK _)=>some "dict" | _=>none)=Y t:=c
  split at d<;>first |(cases d;exact absurd ∎ h)| cases d
 |non=>cases c;exact absurd ∎ h|bl b=>cases c;exact absurd ∎ h|int b=>cases c;exact absurd ∎ h|byt b=>cases c|flt b=>cases c|ty b=>cases c
structure Ms(mg:C8):Prop where
 LETTERS:∃t,mg "LETTERS" =Y (.str (A5 "abcdefghijklmnopqrstuvwxyz") t)
 NAME_SIGNS:∃t,mg "NAME_SIGNS" =Y (.str (A5 "abcdefghijklmnopqrstuvwxyz0123456789") t)
 MOST_IN_NAME:∃t,mg "MOST_IN_NAME" =Y (.int 12 t)
 MOST_IN_TEXT:∃t,mg "MOST_IN_TEXT" =Y (.int 30 t)
 MOST_IN_ROW:∃t,mg "MOST_IN_ROW" =Y (.int 60 t)
 MOST_IN_RECORD:∃t,mg "MOST_IN_RECORD" =Y (.int 30 t)
 MOST_DEPTH:∃t,mg "MOST_DEPTH" =Y (.int 8 t)
 MOST_SIZE:∃t,mg "MOST_SIZE" =Y (.int 200 t)
abbrev zQm:V6:=top 10
theorem zOw(F:Fun K "is_name" "is_name" zQm f fd)(B:Bl mg)(M:Ms mg):FnOk P w K mg base CX0 1 f fd ["thing"] zVa:=by
 refine F.okn (N:=["thing"]) λL A u s H vs Q E nd hr h=>?_;ext zV h v t m y hl q;subst m;refine{_,(zC (zT (i8 (zBb (wJ (yG (pI B.isinstance zK B.str qP (pv 0)))) (zAl (wJ (zVs zAh zAh zE (zO zCf O B.len yR (zA (pv 0) zB)) (zGv O M.MOST_IN_NAME)))))) (zG (zJ vQ)) zL)
  (zG (zJ (qJ (zJl zQf (pX zDs (pv 0) zE) (yCx O M.LETTERS) (by with_unfolding_all rfl)) (qT (zO (gQ O) O B.all zDp (zA (vI (own:=["sign"]) (F:=[]) {O,tb_g%,tb_g%,tb_g%, .nil} O (zWs (pv 0)) (λ_ _ _ _=>yF (i:=0) (by show(wM ["sign"] []).Nodup;decide+kernel) O (nZ O)) (λ_ _ _ _=>xT) (λ_ _ _ _=>(zJl zQf (pv 0) (yCx O M.NAME_SIGNS) (by with_unfolding_all rfl)))) zB))))))), ?_}
 walk_at "st";lk;refine nEA t y ?_
 by_cases k:zX t "str" =false
 ·rw[mN k]
  let e:zEh v=false:=yCc y k;rw[<-e];exact q H (Same.refl H)
 ·rw[mK k]
  obtain⟨x,rfl⟩:=yGa y k;let hx:=hl x O;let b:=zOs x;refine zTb x O ∅ ?_
  by_cases D:(1:Int)<=(x...*:Int)
  ·rw[mN D]
   by_cases g:¬(x...*:Int)<=12
   ·rw[mN g]
    let e:zEh (.str x)=false:=by
     show xA (ts x)=false;unfold xA;rw[show decide ((ts x)...*<=12)=false from nP ∅];simp
    rw[<-e];exact q H (Same.refl H)
   rw[mK g];obtain⟨c,r,I⟩:∃c r,ts x=c::r:=by
    cases e:ts x with|nil=>rw[e] at b;simp at b;lia|cons c r=>exact⟨c,r,O⟩
   refine zEa (by rw[mV];lia) (c:=c) (by rw[I];exact yI (j:=0) O) {c,O, ?_};let z:zEh (.str x)=(decide (c∈letL)&& (ts x).all λc=>decide (c∈letL++zGi)):=by
    show xA (ts x)=_;unfold xA;rw[show decide ((ts x)...*<=12)=true from nF ∅,show decide (1<=(ts x)...*)=true from nF ∅,I];simp
   simp only[yHa]
   by_cases a:c∈letL
   ·rw[mN a]
    refine nEA x O (zLl (λi o l=>Same H l/\o=(((ts x).take i).map λc=>decide (c∈letL++zGi)).map V.bl) (by rw[mV];lia) {Same.refl _,O} ?_ ?_)
    ·rintro i d o l J _ ⟨n,rfl⟩
     lk;refine zTb d O n ?_;let e:(ts x).take (i+1)=(ts x).take i++ [d]:=by rw[List.take_add_one,J];rfl
     rw[e,zJd];simp only[mU,nO,tG]
    ·rintro o l aa ⟨n,rfl⟩ p hp
     refine qM p O _ (SqL.of zD) ?_;let e:zEh (.str x)=((((ts x).take (ts x)...*).map λc=>decide (c∈letL++zGi)).all id):=by
      rw[z,nF a,cD,rB,dI];rfl
     rw[<-e];exact q _ (n.trans (zF hp _))
   ·rw[mK a]
    let e:zEh (.str x)=false:=by rw[z,nP a];rfl
    rw[<-e];exact q H (Same.refl H)
  ·rw[mK D]
   let e:zEh (.str x)=false:=by
    let:ts x= []:=aM ∅;show xA (ts x)=false;rw[this];rfl
   rw[<-e];exact q H (Same.refl H)
abbrev zZd:V6:=top 27
def zSk:Sp:=λb H Q _=>∃(v:V)(t:T),b= [v]/\Rep H v t/\∀a,Same H a->Q (xX (tyT t)) a
theorem yEs{k:Nat}{ps:C1}(h:FnOk P w K mg base CX0 k f fd ps zCy):FnOk P w K mg base CX0 k f fd ps zSk:=
 h.imp λb H Q E ⟨v,t,e,a,q⟩=>{v,tyT t,e,(Rep.rp _ _ a).ty,q}
noncomputable def zBg:T->Bool
 |.int i=>decide (0<=i/\i<60)|_=>false
def zEx:Sp:=λb H Q _=>∃(v:V)(t:T),b= [v]/\Rep H v t/\∀a,Same H a->Q (.bl (zBg t)) a
theorem zYr(F:Fun K "is_place" "is_place" zZd f fd)(B:Bl mg)(M:Ms mg)(a:Dn P w K mg base 1 "kind_of" ["thing"] zSk):FnOk P w K mg base CX0 2 f fd ["thing"] zEx:=by
 refine F.okn (N:=["thing"]) λn A j s H p Q E r m h=>?_;ext yO h v t g k q;subst g;refine nEA _ (zG (zJ (qJ (pE xD (pD a m (zA (pv 0) zB)) zP) (qT (zLc zAh kS zE (pv 0) (zGv O M.MOST_IN_ROW)))))) ?_;walk_at "st";lk;refine{v,t,O,k,λl o=>?_};let q:=q l o
 cases t with
 |int i=>
  cases (show v=_ from k);refine{O,iP (show xX "int" =V.str (A5 "number") by decide+kernel) {i,O, ?_}}
  by_cases d:0<=i
  ·refine iP d {i,O, ?_}
   let e:zBg (.int i)=decide (i<60):=by simp[zBg,d]
   rw[<-e];exact q
  ·refine iN d ?_
   let e:zBg (.int i)=false:=by simp[zBg,d]
   rw[<-e];exact q
 |non=>exact{O,iN (show¬xX "NoneType" =V.str (A5 "number") by decide+kernel) q}|bl b=>exact{O,iN (show¬xX "bool" =V.str (A5 "number") by decide+kernel) q}|str b=>exact{O,iN (show¬xX "str" =V.str (A5 "number") by decide+kernel) q}|lst b=>exact{O,iN (show¬xX "list" =V.str (A5 "number") by decide+kernel) q}|dic b c=>exact{O,iN (show¬xX "dict" =V.str (A5 "number") by decide+kernel) q}|tup b=>exact{O,iN (show¬xX "tuple" =V.str (A5 "number") by decide+kernel) q}
abbrev sLw:V6:=top 38
abbrev sCc:V6:=top 39
abbrev sRec:V6:=top 41
abbrev sRow:V6:=top 42
abbrev yDg:V6:=top 40
theorem zNj{k:Key}(h:okK k)(i:Int)(e:k= .inl i):zBg (.int i)=true:=by
 subst e;let a:0<=i/\i<=59:=h;simp only[zBg,nX]
 lia
theorem cutTo(xs:B3){i:Int}(h:0<=i):zCo xs none ↥i=xs.take i.toNat:=by
 obtain⟨n,rfl⟩:=tK h;unfold zCo;rw[HT.sIx_nat,HT.sIx_none,aO,dM,rN]
 by_cases c:n<=xs...*
 ·rw[dS c]
 ·rw[dL ∅,sK (mC _),sK ∅]
theorem zKm(xs:B3){i:Int}(h:0<=i):zCo xs ↥i none=xs.drop i.toNat:=by
 obtain⟨n,rfl⟩:=tK h;unfold zCo;rw[HT.sIx_nat,HT.sIx_none,rN]
 by_cases c:n<=xs...*
 ·rw[dS c,sK (by rw[nI];exact mC _)]
 ·rw[dL ∅,rC (mC _),rC ∅,List.take_nil]
theorem ok_lw(F:Fun K "leads_within" "leads_within" sLw f fd)(B:Bl mg)(a:Dn P w K mg base 1 "leads_on" ["thing","step"] zUi)(b:Dn P w K mg base 2 "is_place" ["thing"] zEx):FnOk P w K mg base CX0 3 f fd ["thing","step"] zUi:=by
 refine F.okn (N:=["thing","step"]) λu A e s H I Q E J j h=>?_;ext yB h v t k d D z;ext yZ z r p m q;subst d;refine nEA _ (zG (zJ (qJ (pD a j (zA (pv 0) (zA (pv 1) zB))) (qT (pe_or (pI B.isinstance zK B.str qP (pv 1)) (qT (pD b j (zA (pv 1) zB)))))))) ?_;walk_at "st";lk;refine{v,t,k,O,D,r,p,m,λo l=>{_,O, ?_}};let c:=q o l
 cases g:(zR t k).isSome with
 |false=>rw[g] at c;exact iN ∎ c|true=>
  refine iP O ?_
  cases k with
  |inr x=>rw[g] at c;exact{"str",O,iP ∎ c}|inl i=>
   refine nEA ("int") O (iN ∎ {_, .int i,O,O,λy g2=>?_});rw[zNj m i O];let n:=q y (l.trans g2);rw[g] at n;exact n
def spCc:Sp:=λb H Q _=>∃(v:V)(t:T)(w:Wd)(k:Key),b= [v, .str w.s,kV k]/\Rep H v t/\T.pure t/\T.sz t<=100000/\okK k/\∀a,Same H a->Q (.bl (xN w t k)) a
theorem ok_cc(F:Fun K "can_change" "can_change" sCc f fd)(B:Bl mg)(a:Dn P w K mg base 3 "leads_within" ["thing","step"] zUi)(g:Dn P w K mg base 2 "is_place" ["thing"] zEx):FnOk P w K mg base CX0 4 f fd ["holder","word","step"] spCc:=by
 refine F.okn (N:=["holder","word","step"]) λaa A M s H vs Q E nd hr h=>?_;ext yN h v t l k y z_;ext wY z_ j hp hz hk q;subst y;refine{_,(zC (zT (pT xD (pv 1) zP) (zG (zJ (pD a hr (zA (pv 0) (zA (pv 2) zB))))) zL)
  (zC (zT (yG (pI B.isinstance zK B.str qP (pv 2))) (zG (zJ (qJ (pE xD (pv 1) zP) (qT (pI B.isinstance zK B.dict xQ (pv 0)))))) zL)
  (zG (zJ (qJ (pI B.isinstance zK B.list wA (pv 0)) (qJ (pD g hr (zA (pv 2) zB)) (qT (pE zAh (pv 2) (zO zZ O B.len yR (zA (pv 0) zB)))))))))), ?_}
 walk_at "st";lk;let L:=q H (Same.refl H);let u:¬Wd.put.s=A5 "take":=by decide+kernel
 let r:¬Wd.ins.s=A5 "take":=by decide+kernel
 let m:¬Wd.ins.s=A5 "put":=by decide+kernel
 let o:∀(l:Wd)(i:Int),k= .inl i->(∀d,t= .lst d->xN l t k=decide (i<=(d...*:Int)))->((∀d,t≠ .lst d)->xN l t k=false)->(∀H',Same H H'->Q (.bl (xN l t k)) H')->∃x,tyS H v=Y x/\if zX x "list" =true then zEx [kV k] H (λx J=>∃c,x=V.bl c/\if c=true then∃p,v=V.ref p/\∃ys,SqL K J p ys/\∃i,kV k=V.int i/\Q (V.bl (decide (i<=(ys...*:Int)))) J else Q (V.bl false) J) E0 else Q (V.bl false) H:=by
  intro l i ek h1 h2 q;subst ek;let n:(∀d,t≠ .lst d)->Q (.bl false) H:=λI=>by let:=q H (Same.refl H);rw[h2 I] at this;exact this
  cases t with
  |lst d=>
   ext yO j b xs D hb hx;subst D;refine nEA ("list") (zAx hb) (iP ∎ {_, .int i,O,O,λH2 g2=>{_,O, ?_}});rw[zNj hk i O];refine iP O {b,O,xs,SqL.of (g2 _ _ hb),i,O, ?_};let q2:=q H2 g2;rw[h1 d O] at q2;rw[hx...*];exact q2
  |dic ks d=>exact{_,j.ty,iN (by simp[tyT,zX]) (n (by intro d z;cases z))}|tup d=>exact hp.elim|non=>exact{_,j.ty,iN (by simp[tyT,zX]) (n (by intro d z;cases z))}|bl b=>exact{_,j.ty,iN (by simp[tyT,zX]) (n (by intro d z;cases z))}|int b=>exact{_,j.ty,iN (by simp[tyT,zX]) (n (by intro d z;cases z))}|str b=>exact{_,j.ty,iN (by simp[tyT,zX]) (n (by intro d z;cases z))}
 cases l with
 |tak=>exact iP O ⟨v,t,k,O,j,hp,hz,hk,q⟩|put=>
  refine iN u ?_
  cases k with
  |inr x=>
   refine nEA ("str") O (iP ∎ (iP O {_,j.ty, ?_}));let e:zX (tyT t) "dict" =xN .put t (.inr x):=by cases t<;>first | rfl |(simp[tyT,zX,xN])
   rw[e];exact L
  |inl i=>exact{"int",O,iN ∎ (o .put i O (λd e=>by subst e;rfl) (λh=>by cases t<;>first | rfl | exact absurd O (h _)) q)}
 |ins=>
  refine iN r ?_
  cases k with
  |inr x=>
   refine nEA ("str") O (iP ∎ (iN m ?_));let e:xN .ins t (.inr x)=false:=by cases t<;>rfl
   rw[e] at L;exact L
  |inl i=>exact{"int",O,iN ∎ (o .ins i O (λd e=>by subst e;rfl) (λh=>by cases t<;>first | rfl | exact absurd O (h _)) q)}
def yDf:Sp:=λh H Q _=>∃(a:V1)(e:D7)(b:C6)(c:B0)(w:Wd)(x:Str)(g:V)(n:T),h= [.ref a, .str w.s, .str x,g]/\H a=Y (.dK e)/\e.map (·.1)=b.map nK/\Reps H (e.map (·.2)) c/\b.Nodup/\b...*=c...*/\c...*<=1000/\(w= .put\/w= .tak/\ts x∈b)/\Rep H g n/\∀p d,Same H d->Rep d (.ref p) (yD w (.dic b c) (.inr x) n)->Q (.ref p) d
theorem yGg(F:Fun K "record_changed" "record_changed" sRec f fd)(B:Bl mg):FnOk P w K mg base CX0 1 f fd ["record","word","name","new"] yDf:=by
 refine F.okn (N:=["record","word","name","new","changed"]) λaa A r s H vs Q E nd hr h=>?_;ext yA h a d J D wd g;ext yB g x vn n u ha g;ext zS g e i M I ab g;ext oAA g hw hn q;subst u;let hu:=vE hr;refine{_,(zC (pS 4 nd (yW zMi O B.dict xQ (zA (pv 0) zB)))
  (zC (zT (pT xD (pv 1) zP) (zG (xS (zMe (pv 4) (pv 2) ⟨O,O,O,O⟩))) (zG (zEu hu (pv 4) (pv 2) (pv 3) O)))
  (zG (zJ (pv 4))))), ?_}
 walk_at "st";lk;refine nEA d ha (λl y=>?_);let s1:=zF y (.dK d);let c:=zD (H:=H) (a:=l) (o:=.dK d);let b:∀o,Same H (upd (upd H l (.dK d)) l o):=λo=>by rw[zKe];exact zF y o
 let L:d...*=D...*:=by let:=i...*;rwa [mJ] at this
 let z:(Sum.inr x:Key)=nK (ts x):=by show(Sum.inr x:Key)=Sum.inr (tx (ts x));rw[jH]
 rcases hw with rfl |⟨rfl,hx⟩
 ·refine iN (by decide+kernel) {_,DPut.k (k:=Sum.inr x) c (by rw[mV];lia), ?_}
  refine q l _ (b _) ?_;rw[z];obtain⟨v,m⟩:=zFx (p:=(J,D)) (n:=ts x) (t:=n) e i hn;exact{l,_,O,zD,v,Reps.same (b _) _ _ m}
 ·refine iP O ?_
  refine oEA (Rep.at_name M e i hx) λxv j _=>?_;refine{l,O, .inl {d, .inl c},d,nK (ts x),xv,c,by rw[<-z];rfl,j, ?_};obtain⟨v,m⟩:=Reps.dropK (n:=ts x) e i;refine q l _ (b _) {l,_,O,zD,v,Reps.same (b _) _ _ m}
def yCz:Sp:=λg H Q _=>∃(a:V1)(d:B3)(c:B0)(w:Wd)(i:Int)(e:V)(n:T),g= [.ref a, .str w.s, .int i,e]/\H a=Y (.lst d)/\Reps H d c/\c...*<=100000/\0<=i/\Rep H e n/\∀p b,Same H b->Rep b (.ref p) (yD w (.lst c) (.inl i) n)->Q (.ref p) b
theorem yGb(F:Fun K "row_changed" "row_changed" sRow f fd)(B:Bl mg):FnOk P w K mg base CX0 1 f fd ["row","word","place","new"] yCz:=by
 refine F.okn (N:=["row","word","place","new","ahead","behind"]) λae A ac s H vs Q E nd hr h=>?_;ext yA h a b I wd i z_;ext zV z_ e n ab D y z_;ext yZ z_ af hi hn q;subst ab;refine{_,(zC (pS 4 nd (jC kZ (pv 0) kQ (qY (pv 2))))
  (zC (pS 5 nd (zMy (pT xD (pv 1) zP) (jC kZ (pv 0) (qY (pv 2)) kQ) (jC kZ (pv 0) (qY (zI xK (pv 2) zE)) kQ)))
  (zC (zT (pT xD (pv 1) zP) (zG (zJ (zI qU (pv 4) (pv 5)))) zL)
  (zG (zJ (zI qU (zI qU (pv 4) (yM (zA (pv 3) zB))) (pv 5))))))), ?_}
 walk_at "st";lk;let ag:=y...*;refine{a,b,O,SqL.of D,λv aa=>?_};rw[cutTo b hi];let m:=zF aa (.lst (b.take i.toNat));let e1:=zD (H:=H) (a:=v) (o:=.lst (b.take i.toNat));generalize upd H v (.lst (b.take i.toNat))=g at m e1⊢;let hT:Reps H (b.take i.toNat) (I.take i.toNat):=Reps.take _ y;let t:∀(j:Nat)(c:V1),g c=none->(∀p H',Same H H'->Rep H' (.ref p) (.lst (I.take i.toNat++n::I.drop j))->Q (.ref p) H')->∀(p:V1),upd g c (.lst (b.drop j)) p=none->yCd (V.ref v) (V.ref p) (upd (upd g c (.lst (b.drop j))) p (HO.lst [e])) λx g=>yCd x (V.ref c) g Q:=λj c d q r k=>by
  let l:=zF d (.lst (b.drop j));let u:=zD (H:=g) (a:=c) (o:=.lst (b.drop j));generalize upd g c (.lst (b.drop j))=H2 at l u k⊢;let z:=zF k (.lst [e]);let e3:=zD (H:=H2) (a:=r) (o:=.lst [e]);generalize upd H2 r (.lst [e])=H3 at z e3⊢;refine{v,r,_,_,O,O,z _ _ (l _ _ e1),e3,by rw[mV,nU,mY];lia,λJ M=>?_};let s4:=zF M (.lst (b.take i.toNat++ [e]));let e4:=zD (H:=H3) (a:=J) (o:=.lst (b.take i.toNat++ [e]));generalize upd H3 J (.lst (b.take i.toNat++ [e]))=H4 at s4 e4⊢;refine{J,c,_,_,O,O,e4,s4 _ _ (z _ _ u),by rw[mV,mL,nU,nI,mY];lia,λp5 L=>?_};let G:=m.trans (l.trans (z.trans (s4.trans (zF L (.lst (b.take i.toNat++ [e]++b.drop j))))));refine q p5 _ G {p5,_,O,zD,Reps.same G _ _ ?_};rw[rM];exact Reps.append (show Reps H ([e]++b.drop j) (n::I.drop j) from{e,_,O,hn,Reps.drop _ y}) hT
 let i1:(i+1).toNat=i.toNat+1:=by lia
 cases wd with
 |put=>
  refine iN (by decide+kernel) {a,b,O,SqL.of (m _ _ D),λc d=>iN (by decide+kernel) ?_};rw[zKm b ∅,i1] at*;exact t _ c d q
 |ins=>
  refine iP O {a,b,O,SqL.of (m _ _ D),λc d=>iN (by decide+kernel) ?_};rw[zKm b hi] at*;exact t _ c d q
 |tak=>
  refine iN (by decide+kernel) {a,b,O,SqL.of (m _ _ D),λc d=>iP O ?_};rw[zKm b ∅,i1] at*;let l:=zF d (.lst (b.drop (i.toNat+1)));let u:=zD (H:=g) (a:=c) (o:=.lst (b.drop (i.toNat+1)));generalize upd g c (.lst (b.drop (i.toNat+1)))=H2 at l u⊢;refine{v,c,_,_,O,O,l _ _ e1,u,by rw[mV,nU,nI];lia,λr k=>?_};let G:=m.trans (l.trans (zF k (.lst (b.take i.toNat++b.drop (i.toNat+1)))));exact q r _ G {r,_,O,zD,Reps.same G _ _ (Reps.append (Reps.drop _ y) hT)}
def zXw:Sp:=λd H Q _=>∃(v:V)(t:T)(w:Wd)(k:Key)(c:V)(n:T)(m:Nat),d= [v, .str w.s,kV k,c]/\Rep H v t/\T.fewm m t/\m<=63/\T.sz t<=50000/\okK k/\xN w t k=true/\Rep H c n/\∀b a,Same H a->Rep a b (yD w t k n)->Q b a
theorem yBk(F:Fun K "part_changed" "part_changed" yDg f fd)(B:Bl mg)(c:Dn P w K mg base 1 "record_changed" ["record","word","name","new"] yDf)(d:Dn P w K mg base 1 "row_changed" ["row","word","place","new"] yCz):FnOk P w K mg base CX0 2 f fd ["holder","word","step","new"] zXw:=by
 refine F.okn (N:=["holder","word","step","new"]) λab A M s H vs Q E nd hr h=>?_;ext yA h v t e k vn z_;ext zV z_ n m L hv r z_;ext zS z_ hm hz hk j hn q;subst L;refine{_,(zC (zT (yG (pI B.isinstance zK B.dict xQ (pv 0))) (zG (zJ (pD c hr (zA (pv 0) (zA (pv 1) (zA (pv 2) (zA (pv 3) zB))))))) zL)
  (zG (zJ (pD d hr (zA (pv 0) (zA (pv 1) (zA (pv 2) (zA (pv 3) zB)))))))), ?_}
 walk_at "st";lk
 cases t with
 |dic z y=>
  ext zV hv a ps l u aa I;subst l;let D:=r.2.2.1;let ac:=r.2.1;refine nEA ("dict") (uV u) (iP ∎ ?_)
  cases k with
  |inl i=>cases e<;>cases j|inr x=>
   refine{a,ps,z,y,e,x,vn,n,O,u,aa,I,r.1,D,∅, ?_,hn,λp J g h=>q _ J g h}
   cases e with
   |put=>exact .inl O|ins=>cases j|tak=>
    refine .inr {O, ?_};let o:(if ts x∈z then Y (zH (ts x) z y) else none).isSome=true:=j
    by_cases h:ts x∈z
    ·exact h
    ·rw[mK h] at o;cases o
 |lst y=>
  ext yO hv a xs l u I;subst l;refine nEA ("list") (zAx u) (iN ∎ ?_)
  cases k with|inl i=>exact{a,xs,y,e,i,vn,n,O,u,I,r.1,hk.1,hn,λp J g h=>q _ J g h}|inr x=>cases e<;>cases j
 |tup y=>exact r.elim|non=>cases e<;>cases k<;>cases j|bl b=>cases e<;>cases k<;>cases j|int b=>cases e<;>cases k<;>cases j|str b=>cases e<;>cases k<;>cases j
end
end K48
namespace K48
open PySem L2 PySem.W
seal L2.PSs L2.PS L2.PE L2.PT L2.PW L2.PA L2.PI L2.PG L2.PGs L2.PPs L2.PTs
def yDk(s:V6):V6:=match s with|.ClassDef _ _ _ (f::_) _ _ _ _ _ _ _=>f|_=>s
abbrev qS:V6:=yDk (top 24)
theorem yAm:wF ["self","text","at"] ["self","text","at"] (zY qS):=by walk_at "sc"
section
variable{P:V3}{w:V4}{K:PySem.W.Frag}{mg:C8}{base:V5}{C B fI dT:V1}{nm:Str}{oc kV doc pm cdv ct:V0}{od an:Option V1}{osl:Array (Option V0)}
theorem zXh(lk:K.lookup fI=Y {oc,od, .func (fnOf "__init__" "NoPlace.__init__" (xR qS) (xJ qS) (zY qS) (.ref dT) kV doc pm an cdv ct),osl})(f:codeIn K cdv "NoPlace.__init__" =true)(c:zDf K nm C B fI)(b:zPv K B)(e:mg "CabinetError" =Y (.ref B)):
  FnOk P w K mg base CX0 1 fI (fnOf "__init__" "NoPlace.__init__" (xR qS) (xJ qS) (zY qS) (.ref dT) kV doc pm an cdv ct) ["self","text","at"] (zEq C):=by
 refine zSe (k:=0) lk f yAm (λl H Q E h=>?_) λA g s H l Q E n h=>?_
 ·ext zBr h x i v a _
  subst a
  rfl
 ext yB h x i v a j q;subst a;refine nEA _ (zC (xS (zNq c b O e (zA (pv 0) (zA (pv 1) zB)))) (zG (yBl c (pv 2) (pv 0)))) ?_;refine{x,i,O,j,x,O,j,λd m=>q d m}
theorem zMs{o:Obj}{items:Array V0}{n:Nat}(f:K.lookup dT=Y o)(g:o.data= .seq items n)(h:items.size=1):Binds K (fnOf "__init__" "NoPlace.__init__" (xR qS) (xJ qS) (zY qS) (.ref dT) kV doc pm an cdv ct) ["self","text","at"] []:=λs i e d=>by
 rw[pH] at d⊢;obtain⟨l⟩:=items
 obtain⟨_,z⟩:=len1 (us:=l) h;obtain⟨_,_,_,y⟩:=len3 d;subst z y;exact binds_K e O f g O O
end
def XAt(C:V1)(n:Int)(H:Hp)(E:XK):Prop:=∀d a,Same H a->a d=Y (.xd [("at", .int n)])->E (.ref C) ↥d a
theorem XAt.of{C:V1}{n:Int}{H H1:Hp}{E:XK}{d:V1}(h:XAt C n H E)(g:Same H H1)(a:H1 d=none):E (.ref C) ↥d (upd H1 d (.xd [("at", .int n)])):=h d _ (g.trans (zF a _)) zD
theorem jZ(t:T)(ks:B8):∃u,(goT t ks).getLast? =Y u/\u∈goT t ks:=by
 let h:=(zCc t ks).1
 cases e:(goT t ks).getLast? with|none=>rw[bA.mp e] at h;exact absurd h ∎|some u=>exact{u,O,List.mem_of_getLast? e}
theorem zCn{α:Type}{xs:List α}{v:α}(h:xs.getLast? =Y v):atI xs (-1)=Y v:=by
 rcases List.eq_nil_or_concat xs with e |⟨a,y,e⟩
 ·rw[e] at h;cases h
 ·rw[List.concat_eq_append] at e
  subst e;rw[List.getLast?_concat] at h;cases h;exact xV _ _
theorem Reps.last{H:Hp}{vs:B3}{us:B0}{u:T}(h:Reps H vs us)(b:us.getLast? =Y u):∃v,vs.getLast? =Y v/\Rep H v u:=by
 let e:=h...*;rw[bB] at b;let f:=(mS.mp b).1;let a:us...* - 1<vs...*:=by lia
 obtain⟨t,c,d⟩:=h.get (mP a);rw[b] at c;cases c;refine nEA _ ?_ d;rw[bB,e];exact mP a
abbrev sWc:V6:=top 36
abbrev sSl:V6:=top 37
abbrev sCs:V6:=top 35
theorem yBm(ks:B8):zCo (ks.map kV) none ↥(-1)=ks.dropLast.map kV:=by
 let e:HT.sIx (ks.map kV)...* (ks.map kV)...* ↥(-1)=ks...* - 1:=by
  show(if(-1:Int)<0 then((-1:Int)+((ks.map kV)...*:Int)).toNat else min (-1:Int).toNat (ks.map kV)...*)=_;rw[mN ∎,mJ]
  lia
 unfold zCo;rw[e,HT.sIx_none,aO,dM,List.dropLast_eq_take,List.map_take]
structure Tq(m:Nat)(H:Hp)(v:V)(t:T)(pa:V1)(ks:B8):Prop where
 v:Rep H v t
 few:T.fewm m t
 m:m<62
 sz:T.sz t<=50000
 pa:H pa=Y (.lst (ks.map kV))
 ok:∀k∈ks,okK k
 l8:ks...*<=8
theorem Tq.pure{m:Nat}{H:Hp}{v:V}{t:T}{a:V1}{ks:B8}(h:Tq m H v t a ks):T.pure t:=qF _ t (mC _) (d3 (by let:=h.m;lia) _ h.few)
theorem yBb{t u:T}{k:Key}(a:okK k)(b:zR t k=Y u):xN .put t k=true:=by
 rcases gW b with⟨c,i,rfl,rfl,h,_⟩|⟨e,c,x,rfl,rfl,d,rfl,_⟩
 ·let g:=(mS.mp h).1
  let f:0<=i/\i<=59:=a;exact nF ∅
 ·rfl
section
variable{P:V3}{w:V4}{K:PySem.W.Frag}{mg:C8}{base:V5}{f:V1}{fd:V7}{C:V1}
def spWc(C:V1):Sp:=λd H Q E=>∃(a:Wd)(b:V),d= [.str a.s,b]/\(a= .put->∀c,Same H c->Q b c)/\(a≠ .put->XAt C 0 H E)
theorem ok_wc(F:Fun K "whole_changed" "whole_changed" sWc f fd)(B:Bl mg)(a:Xr P w K mg base 1 "NoPlace" C):FnOk P w K mg base (CXE nC P w) 3 f fd ["word","new"] (spWc C):=by
 refine F.okxn (N:=["word","new"]) λk A e s H m Q E n j h=>?_;ext yO h g o c q l;subst c;refine{_,(zC (zT (pT zEj (pv 0) zP) (zG (zDr a j ∅ O O lvs (zA zP (zA zE zB)))) zL)
  (zG (zJ (pv 1)))), ?_}
 walk_at "st";unfold zFc;lk;let b:g≠ .put->∀d,H d=none->E (Value.ref C) ↥d (upd H d (HO.xd [(A5 "at",V.int 0)])):=λh d i=>(l h).of (Same.refl _) i
 cases g with|put=>exact{false,by decide+kernel,iN ∎ (q O H (Same.refl _))}|ins=>exact{true,by decide+kernel,iP O {_,_,⟨O,O⟩,b (by intro z;cases z)}}|tak=>exact{true,by decide+kernel,iP O {_,_,⟨O,O⟩,b (by intro z;cases z)}}
def spSl(C:V1):Sp:=λe H Q E=>∃(v:V)(t:T)(d:V1)(a:B8)(m:Nat),e= [v, .ref d]/\Tq m H v t d a/\(a...*<=(goT t a.dropLast)...*->∀p c b,Same H b->b p=Y (.lst c)->Reps b c (goT t a.dropLast)->Q (.ref p) b)/\((goT t a.dropLast)...*<a...*->XAt C (((goT t a.dropLast)...*:Int)- 1) H E)
theorem ok_sl(F:Fun K "stops_to_last" "stops_to_last" sSl f fd)(B:Bl mg)(l:Dn P w K mg base 3 "leads_within" ["thing","step"] zUi)(r:Xr P w K mg base 1 "NoPlace" C):FnOk P w K mg base (CXE nC P w) 4 f fd ["thing","path"] (spSl C):=by
 refine F.okxn (N:=["thing","path","stops","step"]) λaw A ap s H vs Q E nd hr h=>?_;ext yA h v t pa ks m p;ext yZ p D hT q qx;subst D;let hu:=vE hr;refine{_,(zC (pS 2 nd (yM (zA (pv 0) zB)))
  (zC (wW PassesOwn.leaving O (vJ (jC kZ (pv 1) kQ (qY (xW xH zE)))) (yF (i:=3) nd O (nZ O)) (zC (zT (wJ (yG (pD l hr (zA (pX zU (pv 2) (xW xH zE)) (zA (pv 3) zB))))) (zG (zDr r hr ∅ O O lvs (zA zP (zA (zI xY (zO zZ O B.len yR (zA (pv 2) zB)) zE) zB)))) zL)
  (zG (xS (qA pA pM rE vK (pv 2) (zA (zDe (pX zU (pX zU (pv 2) (xW xH zE)) (pv 3)) (vT hu (pX zU (pv 2) (xW xH zE)) (pv 3) (λ_ _=>O))) zB))))))
  (zG (zJ (pv 2))))), ?_}
 walk_at "st";unfold zFc;lk;intro M al;let s1:=zF al (.lst [v]);let e1:=zD (H:=H) (a:=M) (o:=.lst [v]);let hz:=hT.sz;let h8:=hT.l8;generalize hH1:upd H M (.lst [v])=H1 at s1 e1⊢;refine{pa,_,O,SqL.of (s1 _ _ hT.pa),λpl aj=>{pl,O,{_,SqL.of zD}, ?_}};rw[yBm];let s2:=zF aj (.lst (ks.dropLast.map kV));let e2:=zD (H:=H1) (a:=pl) (o:=.lst (ks.dropLast.map kV));generalize upd H1 pl (.lst (ks.dropLast.map kV))=H2 at s2 e2⊢;let am:ks.dropLast...*=ks...* - 1:=List.length_dropLast;let ah:∀k∈ks.dropLast,okK k:=λk hk=>hT.ok k (List.dropLast_subset ks hk);let ae:pl≠M:=λz=>by rw[z,e1] at aj;cases aj
 generalize ks.dropLast=n at am ah e2 q qx⊢;let av:=zCc t n;refine gP (K:=K) (a:=pl) (xs:=n.map kV) (λi σ' H'=>∃o us u ys c,σ'= [Y v,Y (.ref pa),Y (.ref M),o]/\Same H H'/\H' pl=Y (.lst (n.map kV))/\H' M=Y (.lst (ys++ [c]))/\Reps H ys us/\Rep H c u/\us...*=i/\goT t n=us++goT u (n.drop i)/\T.pure u/\T.sz u<=100000)
  {none,[],t,[],v,O,s1.trans s2,e2,s2 _ _ e1,O,hT.v,O,O,hT.pure,∅} (λi σ' H' _ h=>by
   ext yA h o us u ys c p;ext yZ p _ g h _;exact SqL.of h) ?_ ?_
 ·intro i x σ' H' hx p
  ext yA p o us u ys c p;ext zS p D g ab hS hR p;ext wY p hc hl J ag ai;subst D;lk;let au:=hR...*;rw[nG] at hx
  cases y:n[i]? with
  |none=>rw[y] at hx;cases hx|some k=>
   rw[y] at hx;let ex:kV k=x:=mQ hx;subst ex;let ao:=(mS.mp y).1;let ar:n.drop i=k::n.drop (i+1):=by
    rw[pZ ao,(mS.mp y).2]
   rw[ar] at J;refine yH (SqL.of hS) (xV _ _) {c,u,k,O,Rep.same g _ _ hc,ag,ai,ah _ (mM y),λH2 g2=>{_,O, ?_}};let I:=g2 _ _ hS;let gg:=g.trans g2
   cases hs:zR u k with
   |none=>
    let e:goT u (k::n.drop (i+1))= [u]:=by show(match zR u k with | none=>[u] | some L=>u::goT L (n.drop (i+1)))=_;rw[hs]
    rw[e] at J;let aa:(goT t n)...*=i+1:=by rw[J,mL,hl];rfl
    refine iP O {_,SqL.of I,_,_,⟨O,O⟩,λd hd=>?_};let qq:=(qx ∅).of gg hd;rw[aa] at qq;rw[mL,au,hl,mY];exact qq
   |some L=>
    let e:goT u (k::n.drop (i+1))=u::goT L (n.drop (i+1)):=by show(match zR u k with | none=>[u] | some L=>u::goT L (n.drop (i+1)))=_;rw[hs]
    rw[e] at J;refine iN (by simp) {nZ {O,_,SqL.of I}, ?_};let ac:∀c',Rep H c' L->T.pure L->T.sz L<=100000->zKt (V.ref M) [c'] H2 (λ_ H1=>Same H H1/\H1 pl=Y (.lst (n.map kV))/\∃af u1 ak c1,H1 M=Y (.lst (ak++ [c1]))/\Reps H ak af/\Rep H c1 u1/\af...*=i+1/\goT t n=af++goT u1 (n.drop (i+1))/\T.pure u1/\T.sz u1<=100000):=λc' h1 h2 h3=>
     {M,ys++ [c],c',O,O,I,by rw[mV,mL];show ys...*+1<_;lia,gg.put al _,by rw[zM ae];exact g2 _ _ ab,us++ [u],L,ys++ [c],c',zD,Reps.snoc hc hR,h1,by rw[mL,hl];rfl,by rw[J,rM];rfl,h2,h3}
    obtain⟨c',h1,h2,h3,⟨b,zs,j,rfl,hb,ej,aq⟩|⟨b,qs,rfl,hb,an⟩⟩:=zRw hc ag ai (ah _ (mM y)) hs
    ·refine .inl ?_
     lk;refine yH (SqL.of I) (xV _ _) ?_;rw[ej];exact yH (SqL.of (gg _ _ hb)) aq (ac _ h1 h2 h3)
    ·refine .inr ?_
     lk;exact yH (SqL.of I) (xV _ _) {b,O,c', .inl {qs,k, .inl (gg _ _ hb),O,an.symm},ac _ h1 h2 h3}
 ·intro σ' H' p
  ext yA p o us u ys c p;ext zS p D g ab hS hR p;ext wY p hc hl J ag ai;subst D;lk;rw[mJ,aV] at J;rw[mJ] at hl;let aa:(goT t n)...*=n...*+1:=by rw[J,mL,hl];rfl
  refine q ∅ M _ _ g hS ?_;rw[J];exact Reps.snoc (Rep.same g _ _ hc) (Reps.same g _ _ hR)
def yAu(C:V1):Sp:=λh H Q E=>∃(v:V)(t:T)(a:Wd)(g:V1)(b:B8)(e:V)(n:T)(m:Nat),h= [v, .str a.s, .ref g,e]/\Tq m H v t g b/\Rep H e n/\(∀r,chG a (λs k=>yD a s k n) t b n= .inr r->∀d c,Same H c->Rep c d r->Q d c)/\(∀j:Nat,chG a (λs k=>yD a s k n) t b n= .inl j->XAt C (j:Int) H E)
theorem scCs:wF ["thing","word","path","new","stops","changed","place"] ["thing","word","path","new"] (zY sCs):=by walk_at "sc"
theorem ok_cs(F:FunD K "change_shared" "change_shared" sCs f fd)(B:Bl mg)(l:Dx nC P w K mg base 3 "whole_changed" ["word","new"] (spWc C))(u:Dx nC P w K mg base 4 "stops_to_last" ["thing","path"] (spSl C))(x:Dn P w K mg base 4 "can_change" ["holder","word","step"] spCc)(b:Dn P w K mg base 2 "part_changed" ["holder","word","step","new"] zXw)(I:Xr P w K mg base 1 "NoPlace" C):FnOk P w K mg base (CXE nC P w) 5 f fd ["thing","word","path","new"] (yAu C):=by
 refine F.okx scCs (by walk_at "ln") λc A o s H vs Q E hr h=>?_;ext yA h v t J pa a D;ext yB D vn n m a9 y D;ext oAA D hn q L;subst a9;let nd:=scCs.nd;refine{_,(zC (zT (wJ (zMj (pv 2) (λ_=>O))) (zG (zJ (zGc l hr ∅ O lvs (zA (pv 1) (zA (pv 3) zB))))) zL)
  (zC (pS 4 nd (zGc u hr ∅ O lvs (zA (pv 0) (zA (pv 2) zB))))
  (zC (zT (wJ (yG (pD x hr (zA (pX zU (pv 4) (xW xH zE)) (zA (pv 1) (zA (pX zU (pv 2) (xW xH zE)) zB)))))) (zG (zDr I hr ∅ O O lvs (zA zP (zA (zI xY (zO zZ O B.len yR (zA (pv 2) zB)) zE) zB)))) zL)
  (zC (pS 5 nd (pD b hr (zA (pX zU (pv 4) (xW xH zE)) (zA (pv 1) (zA (pX zU (pv 2) (xW xH zE)) (zA (pv 3) zB))))))
  (zC (wW PassesOwn.leaving O (zZt O B.range (zA (zI xY (zO zZ O B.len yR (zA (pv 2) zB)) zE) (zA (xW xH zE) (zA (xW xH zE) zB)))) (yF (i:=6) nd O (nZ O)) (zG (pS 5 nd (pD b hr (zA (pX zU (pv 4) (pv 6)) (zA zP (zA (pX zU (pv 2) (pv 6)) (zA (pv 5) zB))))))))
  (zG (zJ (pv 5)))))))), ?_}
 walk_at "st";unfold zFc yDa;lk;refine nEA _ (.inl {_,SqL.of y.pa,O}) ?_;let hz:=y.sz;let h8:=y.l8;let hm:=y.m
 cases hk:a.getLast? with
 |none=>
  let e0:a= []:=bA.mp hk;subst e0;refine iP O {J,vn,O,λe H' g=>?_,λe=>?_}
  ·subst e
   exact q n O vn H' g (Rep.same g _ _ hn)
  ·refine L 0 ?_
   cases J with|put=>exact absurd O e|ins=>rfl|tak=>rfl
 |some k=>
  let an:a≠ []:=λz=>by rw[z] at hk;cases hk
  let a':0<a...*:=List.length_pos_iff.mpr an;let a5:(a.map kV).isEmpty=false:=by cases a with | nil=>exact absurd O an | cons _ _=>rfl
  let a4:∀pt:T->Key->T,chG J pt t a n=if(goT t a.dropLast)...*<a...* then .inl ((goT t a.dropLast)...* - 1) else
    match (goT t a.dropLast).getLast? with|none=>.inl 0|some s=>if xN J s k=true then .inr (bld (goT t a.dropLast) a (a...* - 1) (pt s k)) else .inl (a...* - 1):=λpt=>by unfold chG;rw[hk]<;>rfl
  rw[a4] at q L;let bb:=zCc t a.dropLast;let ba:a.dropLast...*=a...* - 1:=List.length_dropLast;refine iN (by rw[a5];decide) {v,t,pa,a,m,O,y,λbc p xs H1 g1 ae hR=>?_,λa6=>?_}
  ·let am:¬(goT t a.dropLast)...*<a...*:=by lia
   rw[mK am] at q L;let aj:(goT t a.dropLast)...*=a...*:=by lia
   refine oEA (jZ t a.dropLast) λs hs be=>?_;rw[hs] at q L;refine oEA (Reps.last hR hs) λxv ar ao=>?_;let au:(goT t a.dropLast)[a...* - 1]? =Y s:=by rw[bB,aj] at hs;exact hs
   refine oAA (zHg a.dropLast t _ s y.few au) λs1 s2 s3=>?_;let ak:k∈a:=List.mem_of_getLast? hk;let ai:atI (a.map kV) (-1)=Y (kV k):=zCn (by rw[List.getLast?_map,hk];rfl);let sp:T.pure s:=qF _ s (mC _) (d3 ∅ _ s1);refine yH (SqL.of ae) (zCn ar) (yH (SqL.of (g1 _ _ y.pa)) ai {xv,s,J,k,O,ao,sp,∅,y.ok k ak,λH2 g2=>{_,O, ?_}});let N:=g1.trans g2
   by_cases hc:xN J s k=true
   ·let q:=q _ (mN hc)
    refine iN (by rw[hc];decide) (yH (SqL.of (g2 _ _ ae)) (zCn ar) (yH (SqL.of (N _ _ y.pa)) ai {xv,s,J,k,vn,n,m,O,Rep.same g2 _ _ ao,s1,∅,∅,y.ok k ak,hc,Rep.same N _ _ hn,λv' H3 g3 a8=>?_}));let aq:=N.trans g3;let a7:=g3 _ _ (g2 _ _ ae);let ac:=aq _ _ y.pa;let ax:=Reps.same (g2.trans g3) _ _ hR;let bd:=hR...*;refine nEA _ (SqL.of ac) ?_;rw[mJ];refine nAA ∅ ∅ ?_;rw[show((a...*:Int)- 2+1).toNat=a...* - 1 by lia];refine zHr (λi σ' H'=>∃o c r,σ'= [Y v,Y (.str J.s),Y (.ref pa),Y vn,Y (.ref p),Y c,o]/\Same H3 H'/\Rep H' c r/\i<=a...* - 1/\bld (goT t a.dropLast) a (a...* - 1 - i) r=bld (goT t a.dropLast) a (a...* - 1) (yD J s k n)) {_,v',_,O,Same.refl _,a8,nJ _,O} ?_ ?_
    ·intro i σ' H' hi D
     ext yB D o c r af g D;ext oAA D ab ay hb;subst af;lk;obtain⟨M,hM⟩:∃M,a...* - 1 - i=M+1:={a...* - 2 - i,∅};let a0:(a...*:Int)- 2 - (i:Int)=(M:Int):=by lia
     rw[a0];refine yB (zNu a.dropLast t M ∅) λk' u' u2 h1 h2 D=>?_;ext oA D h3 h4;let ag:a[M]? =Y k':=by
      rw[List.getElem?_dropLast,mN ∅] at h1;exact h1
     refine oAA (zHg a.dropLast t M u' y.few h2) λa1 a2 a3=>?_;let al:M<xs...*:=by lia
     refine oEA (ax.get (i:=M) (v:=xs[M]) (mP al)) λu1 ah av=>?_;rw[h2] at ah;cases ah;let ap:=y.ok k' (mM ag);refine yH (SqL.of (g _ _ a7)) (yI (mP al)) (yH (SqL.of (g _ _ ac)) (yI (j:=M) (by rw[nG,ag];rfl)) {_,u', .put,k',c,r,m,O,Rep.same g _ _ av,a1,∅,∅,ap,yBb ap h4,ab,λv4 H4 g4 az=>{_,v4,⟨O,O⟩,g.trans g4,_,az,∅, ?_}});let e1:(goT t a.dropLast).getD M .non=u':=by rw[nE,h2];rfl
     let e2:a.getD M (.inl 0)=k':=by rw[nE,ag];rfl
     rw[hM] at hb;let aa:bld (goT t a.dropLast) a M (yD .put ((goT t a.dropLast).getD M .non) (a.getD M (.inl 0)) r)=_:=hb;rw[e1,e2] at aa;rw[show a...* - 1 - (i+1)=M by lia];exact aa
    ·intro σ' H' D
     ext yB D o c r af g D;ext oAA D ab ay hb;subst af;lk;rw[show a...* - 1 - (a...* - 1)=0 by lia] at hb;let aa:r=_:=hb;rw[aa] at ab;exact q c H' (aq.trans g) ab
   ·let aw:xN J s k=false:=by cases hq:xN J s k with | true=>exact absurd hq hc | false=>rfl
    let L:=L _ (mK hc);refine iP aw {_,SqL.of (N _ _ y.pa),_,_,⟨O,O⟩,λd hd=>?_};let qq:=L.of N hd;rw[show(((a...* - 1:Nat)):Int)=((a.map kV)...*:Int)- 1 by rw[mJ];lia] at qq;exact qq
  ·let L:=L _ (mN a6)
   rw[show((((goT t a.dropLast)...* - 1:Nat)):Int)=((goT t a.dropLast)...*:Int)- 1 by lia] at L;exact L
end
theorem zNg{t:T}{k:Key}{st:B0}{ks:B8}:∀(m:Nat)(r:T),bld (t::st) (k::ks) (m+1) r=yD .put t k (bld st ks m r)
 |0,r=>rfl|m+1,r=>by
  show bld (t::st) (k::ks) (m+1) (yD .put (st.getD m .non) (ks.getD m (.inl 0)) r)=_;rw[zNg m]
  rfl
theorem zPg{w:Wd}{n:T}:∀(ks:B8)(t r:T),doT w n ks t=Y r->chG w (λs k=>yD w s k n) t ks n= .inr r
 |[],t,r,h=>by
  cases w with|put=>exact congrArg Sum.inr (mQ h)|ins=>cases h|tak=>cases h
 |[k],t,r,h=>by
  let o:(if xN w t k=true then Y (yD w t k n) else none)=Y r:=h
  by_cases i:xN w t k=true
  ·rw[mN i] at o
   let e:=mQ o;subst e;show(if 1<1 then Sum.inl 0 else(if xN w t k=true then Sum.inr (yD w t k n) else Sum.inl 0:Sum Nat T))=_;rw[mK ∎,mN i]
  ·rw[mK i] at o;cases o
 |k::d::ks,t,r,h=>by
  rw[kH (by simp)] at h
  cases y:zR t k with
  |none=>rw[y] at h;cases h|some s=>
   rw[y] at h;obtain⟨B,q,e⟩:=pU.mp h;subst e;let f:=zPg (d::ks) s B q;let x:goT t (k::(d::ks).dropLast)=t::goT s (d::ks).dropLast:=by
    show(match zR t k with | none=>[t] | some u=>t::goT u (d::ks).dropLast)=_
    rw[y]
   unfold chG at f⊢;obtain⟨p,j⟩:∃p,(d::ks).getLast? =Y p:={_,cR (sQ _ _)};let m:(k::d::ks).getLast? =Y p:=by rw[aG];exact j
   rw[j] at f;rw[m];let v:(k::d::ks).dropLast=k::(d::ks).dropLast:=rfl;dsimp only at f⊢;rw[v,x]
   by_cases c:(goT s (d::ks).dropLast)...*<(d::ks)...*
   ·rw[mN c] at f;cases f
   rw[mK c] at f;rw[mX,mX (as:=d::ks),mK ∅];obtain⟨A,g,_⟩:=jZ s (d::ks).dropLast;let l:(t::goT s (d::ks).dropLast).getLast? =Y A:=by
    cases z:goT s (d::ks).dropLast with|nil=>rw[z] at g;cases g|cons a b=>rw[aG,<-z];exact g
   rw[g] at f;rw[l];dsimp only at f⊢
   by_cases i:xN w A p=true
   ·rw[mN i] at f⊢
    let e:=Sum.inr.inj f;rw[show(d::ks)...*+1 - 1=((d::ks)...* - 1)+1 by rw[mX];lia,zNg,e]
   ·rw[mK i] at f;cases f
end K48
namespace K48
open PySem L2 PySem.W
seal L2.PSs L2.PS L2.PE L2.PT L2.PW L2.PA L2.PI L2.PG L2.PGs L2.PPs L2.PTs
theorem zUx{w:Wd}{n:T}:∀(ks:B8)(t:T),doT w n ks t=none->∃j:Nat,chG w (λs k=>yD w s k n) t ks n= .inl j
 |[],t,h=>by
  cases w with|put=>cases h|ins=>exact{0,O}|tak=>exact{0,O}
 |[k],t,h=>by
  let v:(if xN w t k=true then Y (yD w t k n) else none)=none:=h
  by_cases m:xN w t k=true
  ·rw[mN m] at v;cases v
  ·refine{0, ?_}
   show(if 1<1 then Sum.inl 0 else(if xN w t k=true then Sum.inr (yD w t k n) else Sum.inl 0:Sum Nat T))=_;rw[mK ∎,mK m]
 |k::d::ks,t,h=>by
  rw[kH (by simp)] at h;obtain⟨x,p⟩:∃x,(d::ks).getLast? =Y x:={_,cR (sQ _ _)};let i:(k::d::ks).getLast? =Y x:=by rw[aG];exact p
  let o:(k::d::ks).dropLast=k::(d::ks).dropLast:=rfl
  cases y:zR t k with
  |none=>
   let l:goT t (k::(d::ks).dropLast)= [t]:=by
    show(match zR t k with | none=>[t] | some u=>t::goT u (d::ks).dropLast)=_
    rw[y]
   refine{0, ?_};unfold chG;rw[i];dsimp only;rw[o,l,mN (by simp only[mX,rF];lia)]
   rfl
  |some s=>
   rw[y] at h;let v:doT w n (d::ks) s=none:=by
    cases e:doT w n (d::ks) s with
    |none=>rfl|some r=>
     let B:(doT w n (d::ks) s).map (λr=>yD .put t k r)=none:=h;rw[e] at B;cases B
   obtain⟨j,g⟩:=zUx (d::ks) s v;let l:goT t (k::(d::ks).dropLast)=t::goT s (d::ks).dropLast:=by
    show(match zR t k with | none=>[t] | some u=>t::goT u (d::ks).dropLast)=_
    rw[y]
   unfold chG at g⊢;rw[p] at g;rw[i];dsimp only at g⊢;rw[o,l]
   by_cases c:(goT s (d::ks).dropLast)...*<(d::ks)...*
   ·rw[mN (by rw[mX,mX (as:=d::ks)];lia)]
    exact⟨_,O⟩
   rw[mK c] at g;rw[mX,mX (as:=d::ks),mK ∅];obtain⟨A,f,_⟩:=jZ s (d::ks).dropLast;let q:(t::goT s (d::ks).dropLast).getLast? =Y A:=by
    cases z:goT s (d::ks).dropLast with|nil=>rw[z] at f;cases f|cons a b=>rw[aG,<-z];exact f
   rw[f] at g;rw[q];dsimp only at g⊢
   by_cases m:xN w A x=true
   ·rw[mN m] at g;cases g
   ·rw[mK m]
    exact⟨_,O⟩
abbrev sAd:V6:=top 46
abbrev qW:V6:=yDk (top 25)
theorem yAx:wF ["self","text","number"] ["self","text","number"] (zY qW):=by walk_at "sc"
section
variable{P:V3}{w:V4}{K:PySem.W.Frag}{mg:C8}{base:V5}{C B fI dT:V1}{nm:Str}{oc kV doc pm cdv ct:V0}{od an:Option V1}{osl:Array (Option V0)}
theorem zVc(lk:K.lookup fI=Y {oc,od, .func (fnOf "__init__" "NoDeed.__init__" (xR qW) (xJ qW) (zY qW) (.ref dT) kV doc pm an cdv ct),osl})(f:codeIn K cdv "NoDeed.__init__" =true)(c:zDf K nm C B fI)(i:findIn K (.ref C) "number" =Y none)(b:zPv K B)(e:mg "CabinetError" =Y (.ref B)):
  zLk P w K mg base 1 fI (fnOf "__init__" "NoDeed.__init__" (xR qW) (xJ qW) (zY qW) (.ref dT) kV doc pm an cdv ct) ["self","text","number"] (zRh C "number"):=by
 refine yEu (k:=0) lk f yAx (λm H Q E h=>?_) λA g s H m Q E o h=>?_
 ·ext zBr h x j v a _
  subst a
  rfl
 ext yB h x j v a l q;subst a;refine nEA _ (zC (xS (zNq c b O e (zA (pv 0) (zA (pv 1) zB)))) (zG (zUm c i (pv 2) (pv 0)))) ?_;refine{x,j,O,l,x,O,l,λd n=>q d n}
theorem zLa{o:Obj}{items:Array V0}{n:Nat}(f:K.lookup dT=Y o)(g:o.data= .seq items n)(h:items.size=1):Binds K (fnOf "__init__" "NoDeed.__init__" (xR qW) (xJ qW) (zY qW) (.ref dT) kV doc pm an cdv ct) ["self","text","number"] []:=λs i e d=>by
 rw[pH] at d⊢;obtain⟨l⟩:=items
 obtain⟨_,z⟩:=len1 (us:=l) h;obtain⟨_,_,_,y⟩:=len3 d;subst z y;exact binds_K e O f g O O
end
def XNo(C:V1)(j:Int)(H:Hp)(E:XK):Prop:=∀d a,Same H a->a d=Y (.xd [("number", .int j)])->E (.ref C) ↥d a
theorem XNo.of{C:V1}{n:Int}{H H1:Hp}{E:XK}{d:V1}(h:XNo C n H E)(g:Same H H1)(a:H1 d=none):E (.ref C) ↥d (upd H1 d (.xd [("number", .int n)])):=h d _ (g.trans (zF a _)) zD
def Dlay(H:Hp)(v:V)(d:Dd):Prop:=∃b a r,v= .ref b/\H b=Y (.tup (.str d.1.s:: .ref a::r))/\H a=Y (.lst (d.2.1.map kV))/\((d.1= .tak/\r= [])\/(d.1≠ .tak/\∃x,r= [x]/\Rep H x d.2.2))
theorem Dlay.same{H e:Hp}{v:V}{d:Dd}(g:Same H e)(h:Dlay H v d):Dlay e v d:=by
 ext yB h j l r k i m;ext oA m n f;exact{j,l,r,k,g _ _ i,g _ _ n,f.imp id fun⟨a,x,b,c⟩=>{a,x,b,Rep.same g _ _ c}}
section
variable{P:V3}{w:V4}{K:PySem.W.Frag}{mg:C8}{base:V5}{f:V1}{fd:V7}{C C2:V1}
def spAd(C2:V1):Sp:=λc H Q E=>∃(v x:V)(j:Int)(s:T)(d:Dd)(m:Nat),c= [v,x, .int j]/\Rep H v s/\T.fewm m s/\m<62/\T.sz s<=50000/\Dlay H x d/\(∀k∈d.2.1,okS k)/\d.2.1...*<=8/\(∀r,doT d.1 d.2.2 d.2.1 s=Y r->∀b a,Same H a->Rep a b r->Q b a)/\(doT d.1 d.2.2 d.2.1 s=none->XNo C2 j H E)
theorem ok_ad(F:Fun K "after_deed" "after_deed" sAd f fd)(B:Bl mg)(Gx:Dx nC P w K mg base 5 "change_shared" ["thing","word","path","new"] (yAu C))(a:Xh P w K mg base 1 "NoDeed" C2 "number")(RB:Xb K mg "NoPlace" C):FnOk P w K mg base (CXE aC P w) 6 f fd ["thing","deed","number"] (spAd C2):=by
 refine F.okxn (N:=["thing","deed","number","new","refusal"]) λac A aa s H vs Q E nd hr h=>?_;obtain⟨v,x,j,s,d,m,rfl,hv,hf,hm,hz,⟨tp,I,rr,rfl,c,J,L⟩,D,t,q,qx⟩:=h;refine{_,(zC (pS 3 nd (zMy (pT uP (zO zCm O B.len yR (zA (pv 1) zB)) zE) (pX kC (pv 1) zE) zAc))
  (zG (zPc (tb:=λE'=>zLo (kY (yAu C) [] E' (vG (qH 0) (vG (tOp (yAh K) (qH 1) (tC (.int 0))) (vG (tOp (yAh K) (qH 1) (tC (.int 1))) (vG (qH 3) zBu)))))) (ta:=vG (tC (.str "a deed whose path doesn't lead as it wants it")) (vG (qH 2) zBu)) (φ:=aC) (E:=E) (i:=4) (f:="number") a RB hr ∅ O O nd O O (nZ O) lvs (λ_=>mT) (λab W E' σ l=>zZi (yGz Gx hr ∅ O l (zA (pv 0) (zA (pX kC (pv 1) zE) (zA (pX kC (pv 1) zE) (zA (pv 3) zB)))))) (λ_=>zA zP (zA (pv 2) zB))))), ?_}
 walk_at "st";unfold zMf;lk;let hT:Tq m H v s I d.2.1:={hv,hf,hm,hz,J,λk hk=>(D k hk).k,t};let fx:∀(y:V)(n:T),doT d.1 n d.2.1 s=doT d.1 d.2.2 d.2.1 s->∀i:Nat,chG d.1 (λs k=>yD d.1 s k n) s d.2.1 n= .inl i->XAt C (i:Int) H (zRb C C2 4 (A5 "number") (vG (tC (V.str (A5 "a deed whose path doesn't lead as it wants it"))) (vG (qH 2) zBu)) E [Y v,Y (V.ref tp),Y (V.int j),Y y,none]):=λy n o i b=>by
  let u:doT d.1 d.2.2 d.2.1 s=none:=by
   cases e:doT d.1 n d.2.1 s with|none=>rw[<-o];exact e|some r=>rw[zPg _ _ _ e] at b;cases b
  exact λdx p g _=>{O,λx hx=>{zD,_,_,O,λd2 z=>(qx u).of (g.trans (zF hx _)) z}}
 let fr:∀(n r:T),doT d.1 n d.2.1 s=doT d.1 d.2.2 d.2.1 s->chG d.1 (λs k=>yD d.1 s k n) s d.2.1 n= .inr r->∀v' p,Same H p->Rep p v' r->Q v' p:=λn r o b=>by
  cases e:doT d.1 n d.2.1 s with
  |none=>obtain⟨i,M⟩:=zUx _ _ e;rw[M] at b;cases b
  |some r'=>
   rw[zPg _ _ _ e] at b;let e2:=Sum.inr.inj b;rw[e2] at e;exact q r (by rw[<-o];exact e)
 rcases L with⟨hw,rfl⟩|⟨hw,y,rfl,hy⟩
 ·let o:doT d.1 .non d.2.1 s=doT d.1 d.2.2 d.2.1 s:=by rw[hw];exact zEt _ _
  exact nEA _ (.inr (SqT.of c)) (iN (by show¬(2:Int)<((2:Nat):Int);decide) (qO (SqT.of c) (yI (j:=0) O) (qO (SqT.of c) (yI (j:=1) O) {v,s,d.1,I,d.2.1, .non, .non,m,O,hT,O,λr h=>fr _ r o h,fx _ _ o})))
 ·exact nEA _ (.inr (SqT.of c)) (iP (by show(2:Int)<((3:Nat):Int);decide) (qO (SqT.of c) (yI (j:=2) O) (qO (SqT.of c) (yI (j:=0) O) (qO (SqT.of c) (yI (j:=1) O) {v,s,d.1,I,d.2.1,y,d.2.2,m,O,hT,hy,λr h=>fr _ r O h,fx _ _ O}))))
end
end K48
namespace K48
open PySem L2
seal L2.PSs L2.PS L2.PE L2.PT L2.PW L2.PA L2.PI L2.PG L2.PGs L2.PPs L2.PTs
abbrev sSgn:V6:=top 11
abbrev sSnd:V6:=top 13
abbrev sHp:V6:=top 14
abbrev sPo:V6:=top 15
abbrev sPz:V6:=top 16
abbrev sTh:V6:=top 12
noncomputable def vD(us:B0):List T:=(us.map kF).flatten
theorem zOz(us:B0)(u:T):vD (us++ [u])=vD us++kF u:=by simp[vD]
theorem zMk:∀us:List T,T.szs (us.filter wX)<=T.szs us
 |[]=>mC _|u::us=>by
  let b:=zMk us;show _<=T.sz u+T.szs us
  cases a:wX u with
  |true=>
   rw[rZ a];show T.sz u+_<=_
   lia
  |false=>
   rw[sD (by rw[a];decide)]
   lia
theorem zPo:∀us:List T,T.szs (vD (us.filter wX))+us...*<=T.szs us
 |[]=>mC _|u::us=>by
  let b:=zPo us;show _<=T.sz u+T.szs us;rw[mX]
  cases a:wX u with
  |true=>
   rw[rZ a];let e:vD (u::us.filter wX)=kF u++vD (us.filter wX):=rfl;rw[e,c7];let:=(zEm a).2.1
   lia
  |false=>
   rw[sD (by rw[a];decide)];let:=zKa u
   lia
theorem zMm(a:B0)(i:Nat):T.szs (a.take i)<=T.szs a:=by
 let:=szs_append (a.take i) (a.drop i);rw[sN] at this
 lia
noncomputable def zBi:T->Bool
 |.lst us=>decide (us...*<=60)|.dic ks _=>decide (ks...*<=30)|_=>true
noncomputable def thL:Nat->Nat->List T->Bool
 |0,_,_=>false|n+1,z,a=>decide (z+a...*<=200)&& (a.all zBi && ((a.filter wX).isEmpty || thL n (z+a...*) (vD (a.filter wX))))
theorem zIz:∀us ws:List T,yX (us++ws)=(yX us && yX ws)
 |[],_=>rfl|u::us,ws=>by
  show(lnar u && yX (us++ws))=((lnar u && yX us)&& yX ws);rw[zIz us ws,Bool.and_assoc]
theorem zNm:∀us ws:List T,qD (us++ws)=qD us+qD ws
 |[],ws=>by show qD ws=0+qD ws;lia|u::us,ws=>by
  show lsz u+qD (us++ws)=(lsz u+qD us)+qD ws;rw[zNm us ws];lia
theorem zIa:∀us ws:List T,wC (us++ws)=max (wC us) (wC ws)
 |[],ws=>by show wC ws=max 0 (wC ws);lia|u::us,ws=>by
  show max (jN u) (wC (us++ws))=max (max (jN u) (wC us)) (wC ws);rw[zIa us ws];lia
theorem zFb{u:T}(h:wX u=false):jN u=0/\lsz u=1/\lnar u=true/\zBi u=true:=by
 cases u with|lst a=>cases h|dic b a=>cases h|_=>exact⟨O,O,O,O⟩
theorem zWo{u:T}(h:wX u=true):lnar u=(zBi u && yX (kF u)):=by
 cases u with|lst a=>rfl|dic b a=>rfl|_=>cases h
theorem zDd(u:T)(us:B0):vD (u::us)=kF u++vD us:=rfl
theorem zLi:∀us:List T,yX us=(us.all zBi && yX (vD (us.filter wX)))
 |[]=>rfl|u::us=>by
  let b:=zLi us;show(lnar u && yX us)=_;rw[List.all_cons,b]
  cases a:wX u with
  |true=>
   rw[rZ a,zDd,zIz,zWo a];cases zBi u<;>cases us.all zBi<;>cases yX (kF u)<;>rfl
  |false=>
   rw[sD (by rw[a];decide),(zFb a).2.2.1,(zFb a).2.2.2,cD,cD]
theorem zPn:∀us:List T,qD us=us...*+qD (vD (us.filter wX))
 |[]=>rfl|u::us=>by
  let b:=zPn us;show lsz u+qD us=_;rw[mX]
  cases a:wX u with
  |true=>
   rw[rZ a,zDd,zNm,(zEm a).2.2.2]
   lia
  |false=>
   rw[sD (by rw[a];decide),(zFb a).2.1]
   lia
theorem zRf(n:Nat):∀us:List T,wC us<n+1↔((us.filter wX)= []\/wC (vD (us.filter wX))<n)
 |[]=>{λ_=>.inl O,λ_=>Nat.succ_pos n}|u::us=>by
  let b:=zRf n us;let e:wC (u::us)=max (jN u) (wC us):=rfl;rw[e]
  cases a:wX u with
  |true=>
   let k:=(zEm a).2.2.1;rw[rZ a,zDd,zIa];constructor
   ·intro h
    let c:=b.mp ∅;refine .inr ?_;rcases c with z | z
    ·rw[z]
     let d:wC (vD [])=0:=rfl;rw[d];lia
    ·lia
   ·intro h
    rcases h with z | z
    ·cases z
    ·let:=b.mpr (.inr ∅)
     lia
  |false=>
   let k:=(zFb a).1;rw[sD (by rw[a];decide)];constructor
   ·exact λh=>b.mp ∅
   ·intro h
    let:=b.mpr h
    lia
theorem zNw:∀(n z:Nat)(us:B0),thL n z us=(yX us && (decide (wC us<n)&& decide (z+qD us<=200)))
 |0,z,us=>by
  rw[show decide (wC us<0)=false from nP ∅,bN,bP]
  rfl
 |n+1,z,us=>by
  let e:thL (n+1) z us=(decide (z+us...*<=200)&& (us.all zBi && ((us.filter wX).isEmpty || thL n (z+us...*) (vD (us.filter wX))))):=rfl
  rw[e,zNw n,zLi us,zPn us,tF];let b:=zRf n us;simp only[nH,Bool.or_eq_true,bJ,List.isEmpty_iff];constructor
  ·rintro⟨f,a,c⟩
   rcases c with z' |⟨d,g,i⟩
   ·rw[z']
    let h:qD (vD [])=0:=rfl;exact nAA ⟨a,O⟩ (b.mpr (.inl z')) (by rw[h];lia)
   ·exact nAA ⟨a,d⟩ (b.mpr (.inr g)) ∅
  ·rintro⟨⟨f,a⟩,c,d⟩
   refine nAA ∅ f ?_;rcases b.mp c with z' | z'
   ·exact .inl z'
   ·exact .inr {a,z',∅}
theorem yAa(t:T):thL 9 0 [t]=xM t:=by
 rw[zNw];let c:yX [t]=(lnar t && true):=rfl;let b:wC [t]=max (jN t) 0:=rfl;let a:qD [t]=lsz t+0:=rfl;rw[c,b,a,Bool.and_true];unfold xM;rw[Bool.and_assoc]
 congr 1
 congr 1
 ·exact aB.mpr ∅
 ·exact aB.mpr ∅
theorem yEt{t u:T}(h:T.gk t)(a:u∈kF t):T.gk u:=by
 cases t with|lst b=>exact d4 (show j5 b from h) a|dic c b=>exact d4 (show(∀k∈c,xA k=true)/\j5 b from h).2 a|_=>cases a
theorem zRe{t u:T}(h:T.few t)(a:u∈kF t):T.few u:=by
 cases t with|lst b=>exact b7 h.2 a|dic c b=>exact b7 h.2.2.2 a|_=>cases a
section
variable{P:V3}{w:V4}{K:A6}{mg:C8}{base:V5}{f:V1}{fd:V7}
def yDm:Sp:=λb H Q _=>∃c:Nat,b= [.str (tx [c])]/\∀a,Same H a->Q (.bl (decide (c∈zCx))) a
theorem zJb(c:Nat):c∈zCx↔32<=c/\c<=126/\c≠37:=by
 unfold zCx;rw[rP,nS];constructor
 ·rintro⟨⟨i,b,rfl⟩,h⟩
  let:=sI.mp b;simp at h
  lia
 ·rintro⟨e,d,a⟩
  exact{{c - 32,sI.mpr ∅,∅},by simp[a]}
theorem yFz(F:Fun K "is_text_sign" "is_text_sign" sSgn f fd)(B:Bl5 mg):FnOk P w K mg base CX0 1 f fd ["sign"] yDm:=by
 refine F.okn (N:=["sign"]) λm A g s H r Q E u t h=>?_;ext oEA h c i q;subst i;refine nEA _ (zG (zJ (qJ (zLc zIl zIl zP (pv 0) zP) (qT (pE zEj (zO zXe O B.ord yDz (zA (pv 0) zB)) zE))))) ?_;walk_at "st";lk;let l:ts (A5 " ")= [32]:=by decide+kernel
 let n:ts (A5 "~")= [126]:=by decide+kernel
 let o:ts (tx [c])= [c]:=rfl;let p:(↑((#[c]:Array Nat).getD 0 0):Int)=(c:Int):=rfl;let d:∀a b:Nat,([a]:List Nat)< [b]↔a<b:=λa b=>by
  constructor
  ·intro h
   cases h with|rel h=>exact h|cons h=>cases h
  ·exact λh=>.rel h
 let z:=q H (Same.refl H);rw[l,n,o,p]
 by_cases k:c<32
 ·refine nEA false (by rw[nF ((d _ _).mpr k)];rfl) (zHh ?_)
  rw[nP (λh=>by let:=(zJb c).mp h;lia)] at z;exact z
 ·refine nEA true (by rw[nP (λh=>k ((d _ _).mp h))];rfl) (zHo ?_)
  by_cases j:126<c
  ·refine nEA false (by rw[nF ((d _ _).mpr j)];rfl) (zHh ?_)
   rw[nP (λh=>by let:=(zJb c).mp h;lia)] at z;exact z
  ·refine nEA true (by rw[nP (λh=>j ((d _ _).mp h))];rfl) (zHo {O, ?_})
   let e:decide (c∈zCx)= !decide ((c:Int)=37):=by
    rw[tF,bJ,zJb];simp
    lia
   rw[e] at z;exact z
theorem zLd(n:Nat):(List.replicate n true).all id=true:=by simp
theorem zNp(i:Nat):(List.replicate i true).map V.bl++ [V.bl true]=(List.replicate (i+1) true).map V.bl:=by rw[List.replicate_succ',mU];rfl
def yDi:Sp:=λb H Q _=>∃(v:V)(t:T),b= [v]/\Rep H v t/\T.gk t/\T.few t/\T.sz t<=5000/\∀a,Same H a->Q (.bl (zBi t)) a
theorem yFu(F:Fun K "is_sound_outside" "is_sound_outside" sSnd f fd)(B:Bl5 mg)(M:Ms mg)(l:Dn P w K mg base 1 "kind_of" ["thing"] zCy)(j:Dn P w K mg base 1 "is_text_sign" ["sign"] yDm)(m:Dn P w K mg base 1 "is_name" ["thing"] zVa):FnOk P w K mg base CX0 2 f fd ["thing"] yDi:=by
 refine F.okn (N:=["thing","kind"]) λak A ag s H vs Q E nd hr h=>?_;ext zV h v u n y D z_;ext oAA z_ aj ai q;subst n;refine{_,(zC (pS 1 nd (pD l hr (zA (pv 0) zB)))
  (zC (zT (pT xD (pv 1) zP) (zG (zJ (pE zAh (zO zXr O B.abs yEq (zA (pv 0) zB)) (zI zAj zE zE)))) zL)
  (zC (zT (pT xD (pv 1) zP) (zG (zJ (qJ (pE zAh (zO zCf O B.len yR (zA (pv 0) zB)) (zGv O M.MOST_IN_TEXT)) (qT (zO (gQ O) O B.all zDp (zA (vI (own:=["sign"]) (F:=[]) {O,tb_g%,tb_g%,tb_g%, .nil} O (zWs (pv 0)) (λ_ _ _ _=>yF (i:=0) (by show(wM ["sign"] []).Nodup;decide+kernel) O (nZ O)) (λ_ _ _ _=>xT) (λ_ _ _ _=>(pD j hr (zA (pv 0) zB)))) zB)))))) zL)
  (zC (zT (pT xD (pv 1) zP) (zG (zJ (pE zAh (zO zZ O B.len yR (zA (pv 0) zB)) (zGv O M.MOST_IN_ROW)))) zL)
  (zC (zT (pT xD (pv 1) zP) (zG (zJ (qJ (pE zAh (zO zDv O B.len yR (zA (pv 0) zB)) (zGv O M.MOST_IN_RECORD)) (qT (zO (gQ O) O B.all zDp (zA (zEy (vI (own:=["name"]) (F:=[]) {O,tb_g%,tb_g%,tb_g%, .nil} O (zJa (pv 0)) (λ_ _ _ _=>yF (i:=0) (by show(wM ["name"] []).Nodup;decide+kernel) O (nZ O)) (λ_ _ _ _=>xT) (λ_ _ _ _=>(pD m hr (zA (pv 0) zB))))) zB)))))) zL)
  (zG (zJ (zJx (zQr (pv 1)))))))))), ?_}
 walk_at "st";lk;refine{v,_,O,(Rep.rp _ _ y).ty,λH1 g1=>?_};let y:=Rep.same g1 _ _ y;let z:=q _ g1
 cases u with
 |lst J=>
  rw[show xX (tyT (T.lst J))= .str "row" from by show xX "list" =_;decide+kernel];ext yO y a vs n ha hs;subst n;let hl:=hs...*;refine{O,iN (by decide+kernel) {O,iN (by decide+kernel) {O,iP O {a,O,vs,SqL.of ha, ?_}}}};rw[show decide ((vs...*:Int)<=60)=decide (J...*<=60) from aB.mpr ∅];exact z
 |dic r J=>
  rw[show xX (tyT (T.dic r J))= .str "record" from by show xX "dict" =_;decide+kernel];ext zV y a ps n ha hk hs;subst n;let af:∀k∈r,xA k=true:=(show(∀k∈r,xA k=true)/\j5 J from D).1;let ac:ps...*=r...*:=by let:=congrArg List.length hk;simpa using this
  refine{O,iN (by decide+kernel) {O,iN (by decide+kernel) {O,iN (by decide+kernel) {O,iP O {a,O,ps, .inl ha, ?_}}}}};let z0:Q (.bl (decide (r...*<=30))) H1:=z
  by_cases am:30<r...*
  ·rw[mK (by rw[ac];lia)]
   rw[nP ∅] at z0;exact z0
  let ab:r...*<=30:=by lia
  rw[mN (by rw[ac];lia)];refine nEAE a O ps (.inl {ha,λo=>?_});refine zDh (λi zs I=>Same (upd H1 a (.frz o (.dK ps))) I/\zs=(List.replicate i true).map V.bl) (by rw[mV];lia) {Same.refl _,O} (λi zs I h=>h.1 _ _ zD) ?_ ?_
  ·rintro i kv zs I ae _ ⟨g,rfl⟩
   let t:(r.map nK)[i]? =Y kv.1:=by rw[<-hk,nG,ae];rfl
   rw[nG] at t;refine oEA (pU.mp t) λk t e=>?_;let aa:=af k (mM t);let L:=zPh aa;rw[<-e];lk;refine{_,"str",O,O,λx e=>?_,λH3 g3=>{g.trans g3, ?_}}
   ·let e':tx k=x:=V.str.inj e
    rw[<-e',gE];lia
   ·show _++ [V.bl (xA (ts (tx k)))]=_
    rw[wG,aa];exact zNp i
  ·rintro zs I _ ⟨g,rfl⟩ p hp
   let g2:=g.trans (zF hp (.lst ((List.replicate ps...* true).map V.bl)));refine qM p O _ (SqL.of (wP zD (by intro o v z;cases z))) ?_;rw[zLd];let q2:Q (.bl (decide (r...*<=30))) _:=q _ (g1.trans (gU (o:=o) ha g2));rw[nF ab] at q2;exact q2
 |non=>
  cases (show v=_ from y);exact{by decide+kernel,iN (by decide+kernel) {by decide+kernel,iN (by decide+kernel) {by decide+kernel,iN (by decide+kernel) {by decide+kernel,iN (by decide+kernel) z}}}}
 |bl b=>
  cases (show v=_ from y);rw[show xX (tyT (T.bl b))= .str "truth" from by show xX "bool" =_;decide+kernel];exact{O,iN (by decide+kernel) {O,iN (by decide+kernel) {O,iN (by decide+kernel) {O,iN (by decide+kernel) z}}}}
 |int i=>
  cases (show v=_ from y);obtain⟨c1,c2⟩:=(show -(10 ^ 12)<=i/\i<=10 ^ 12 from D);rw[show xX (tyT (T.int i))= .str "number" from by show xX "int" =_;decide+kernel];refine{O,iP O {i,O, ?_}};rw[show decide ((if i<0 then -i else i)<=1000000000000)=true from nF (by split<;>lia)];exact z
 |str b=>
  cases (show v=_ from y);obtain⟨ab,ah⟩:=(show b...*<=30/\∀c∈b,c∈zCx from D);rw[show xX (tyT (T.str b))= .str "text" from by show xX "str" =_;decide+kernel];let L:=gE b;refine{O,iN (by decide+kernel) {O,iP O {tx b,O,∅, ?_}}};rw[mN ∅];refine nEA (tx b) O (zLl (λi ys I=>Same H1 I/\ys=(List.replicate i true).map V.bl) (by rw[mV,wG];lia) {Same.refl _,O} ?_ ?_)
  ·rintro i d ys I hd _ ⟨hS,rfl⟩
   lk;refine{d,O,λH3 g3=>{hS.trans g3, ?_}};rw[wG] at hd;rw[nF (ah d (mM hd))];exact zNp i
  ·rintro ys I al ⟨hS,rfl⟩ p hp
   refine qM p O _ (SqL.of zD) ?_;rw[zLd];exact q _ (g1.trans (hS.trans (zF hp _)))
 |tup J=>exact(show False from D).elim
def spHp:Sp:=λb H Q _=>∃(v:V)(t:T),b= [v]/\Rep H v t/\∀a,Same H a->Q (.bl (wX t)) a
theorem ok_hp(F:Fun K "holds_parts" "holds_parts" sHp f fd)(B:Bl mg):FnOk P w K mg base CX0 1 f fd ["thing"] spHp:=by
 refine F.okn (N:=["thing"]) λd A b s H i Q E k j h=>?_;ext yO h v u a e q;subst a;refine nEA _ (zG (zJ (zO (zOp (T:="list") (W:="dict") ∎ ∎) O B.isinstance zK (zA (pv 0) (zA (vX (zA (vL (v:=.ty "list") O B.list wA O) (zA (vL (v:=.ty "dict") O B.dict xQ O) zB))) zB))))) ?_;walk_at "st";lk;intro p c;let g:=zF c (.tup [V.ty "list",V.ty "dict"]);refine gD v (tyT u) p ⟨O,O⟩ zD (nA ((Rep.rp _ _ (Rep.same g _ _ e)).ty) ?_);let z:=q _ g;rw[<-ty_hT] at z;exact z
def spPo:Sp:=λd H Q _=>∃(a:Hp)(v:V)(t:T),d= [v]/\Same a H/\Rep a v t/\wX t=true/\∀l c b,Same H b->b l=Y (.lst c)->Reps a c (kF t)->Q (.ref l) b
theorem ok_po(F:Fun K "parts_of" "parts_of" sPo f fd)(B:Bl mg):FnOk P w K mg base CX0 1 f fd ["thing"] spPo:=by
 refine F.okn (N:=["thing"]) λx A o s H I Q E L hr h=>?_;ext yB h H0 v u m i D;ext oAA D j t q;subst m;refine{_,(zC (zT (yG (zO (jY (T:="dict") ∎) O B.isinstance zK (zA (pv 0) (zA (vL (v:=.ty "dict") O B.dict xQ O) zB)))) (zG (zJ (yW (zLb O) O B.list wA (zA (yGc bT PySem.F.slot_dict_values PySem.F.type_dict_values zTp (pv 0)) zB)))) zL)
  (zG (zJ (yW zDa O B.list wA (zA (pv 0) zB))))), ?_}
 walk_at "st";lk;let d:=(Rep.rp _ _ (Rep.same i _ _ j)).ty
 cases u with
 |lst z=>
  ext yO j a r b c e;subst b;exact nEA ("list") d (iN (by decide+kernel) {a,O,r, .inl (SqL.of (i _ _ c)),λl k=>q l r _ (zF k _) zD e})
 |dic J z=>
  ext zV j a n b c M e;subst b;refine nEA ("dict") d (iP (by decide+kernel) ?_);let c:=i _ _ c;refine{{a,n,O, .inl c},a,n,O,O, .inl c,λp y=>?_};let g:=zF y (zMd p a);exact vB p O a zD n (nA (.inl (g _ _ c)) (λl k=>q l _ _ (g.trans (zF k _)) zD e))
 |_=>cases t
def spPz:Sp:=λg H Q _=>∃(a:V1)(d:B3)(c:B0),g= [.ref a]/\H a=Y (.lst d)/\Reps H d c/\(∀u∈c,wX u=true)/\T.szs c<=10000/\∀l e b,Same H b->b l=Y (.lst e)->Reps b e (vD c)->Q (.ref l) b
theorem zMw:∀us:List T,(∀u∈us,wX u=true)->(vD us)...*<=T.szs us
 |[],_=>mC _|u::us,h=>by
  let:=zMw us λx a=>h x (mI _ a);let e:vD (u::us)=kF u++vD us:=rfl;rw[e,mL];show _<=T.sz u+T.szs us;let c:=d6 (kF u);let b:=(zEm (h u mE)).2.1
  lia
theorem yGx(F:Fun K "parts_of_all" "parts_of_all" sPz f fd)(B:Bl mg)(b:Dn P w K mg base 1 "parts_of" ["thing"] spPo):FnOk P w K mg base CX0 2 f fd ["holders"] spPz:=by
 refine F.okn (N:=["holders","parts","holder"]) λaa A y s H vs Q E L hr h=>?_;ext yB h a xs m t ha z_;ext yZ z_ I D hz q;subst t;refine{_,(zC (pS 1 L (yM zB))
  (zC (wW PassesOwn.never O (vJ (pv 0)) (yF (i:=2) L O (nZ O)) (zG (xS (qA pA bL bM zDw (pv 1) (zA (pD b hr (zA (pv 2) zB)) zB)))))
  (zG (zJ (pv 1))))), ?_}
 walk_at "st";lk;intro p hp;let M:=zF hp (.lst []);refine{{_,SqL.of (M _ _ ha)}, ?_};refine gP (K:=K) (a:=a) (xs:=xs) (λi σ j=>(∃o,σ= [Y (V.ref a),Y (V.ref p),o])/\Same H j/\∃d,j p=Y (.lst d)/\Reps H d (vD (m.take i))) {⟨_,O⟩,M,[],zD,O} (λi σ j _ h=>SqL.of (h.2.1 _ _ ha)) ?_ ?_
 ·rintro i x σ j v ⟨⟨o,rfl⟩,g,d,c,k⟩
  refine oEA (I.get v) λu hu n=>?_;let hm:=mM hu;lk;refine{nZ {O,_,SqL.of c},H,x,u,O,g,n,D u hm,λl z H3 J r hZ=>?_};let h1:=k...*;let h2:=hZ...*;let h3:=zMw (m.take (i+1)) λx v=>D x (sS v);let h4:=zMm m (i+1);let e:=zOz (m.take i) u;rw[<-yP hu] at e;let h5:=congrArg List.length e;rw[mL] at h5;refine{p,l,d,z,O,O,J _ _ c,r,by rw[mV];lia,⟨_,O⟩,(g.trans J).put hp _,d++z,zD, ?_};rw[e];exact Reps.append hZ k
 ·rintro σ j ⟨⟨o,rfl⟩,g,d,c,k⟩
  lk;let r:=I...*;rw[r,rB] at k;exact q p d j g c (Reps.same g _ _ k)
def yCu:Sp:=λb H Q _=>∃(v:V)(t:T),b= [v]/\Rep H v t/\T.gk t/\T.few t/\T.sz t<=5000/\∀a,Same H a->Q (.bl (xM t)) a
theorem ok_th(F:Fun K "is_thing" "is_thing" sTh f fd)(B:Bl mg)(M:Ms mg)(c:Dn P w K mg base 2 "is_sound_outside" ["thing"] yDi)(r:Dn P w K mg base 1 "holds_parts" ["thing"] spHp)(d:Dn P w K mg base 2 "parts_of_all" ["holders"] spPz):FnOk P w K mg base CX0 3 f fd ["thing"] yCu:=by
 refine F.okn (N:=["thing","level","size","depth","holders"]) λba A aw s H vs Q E nd hr h=>?_;ext zV h v u ai hv ax J;ext oAA J ay a8 q;subst ai;refine{_,(zC (pS 1 nd (yM (zA (pv 0) zB)))
  (zC (pS 2 nd zE)
  (zC (pS 3 nd zE)
  (zC (zWk PassesOwn.never (pT zAh (pv 3) (zGv O M.MOST_DEPTH)) (zC (zOh (i:=2) nd O (nZ O) (zO zZ O B.len yR (zA (pv 1) zB)) zOr)
  (zC (zT (i8 (zBb (pT uP (pv 2) (zGv O M.MOST_SIZE)) (zAl (wJ (yG (zO (gQ O) O B.all zDp (zA (vI (own:=["part"]) (F:=[]) {O,tb_g%,tb_g%,tb_g%, .nil} O (vJ (pv 1)) (λ_ _ _ _=>yF (i:=0) (by show(wM ["part"] []).Nodup;decide+kernel) O (nZ O)) (λ_ _ _ _=>xT) (λ_ _ _ _=>(pD c hr (zA (pv 0) zB)))) zB))))))) (zG (zJ vQ)) zL)
  (zC (uE (i:=4) nd O (nZ O) (own:=["part"]) (F:=[]) {O,tb_g%,tb_g%,tb_g%, .nil} O (vJ (pv 1)) (λ_ _ _ _=>yF (i:=0) (by show(wM ["part"] []).Nodup;decide+kernel) O (nZ O)) (λ_ _ _ _=>(zRs (yG (pD r hr (zA (pv 0) zB))))) (λ_ _ _ _=>(pv 0)))
  (zC (zT (wJ (zMj (pv 4) (λ_=>O))) (zG (zJ vQ)) zL)
  (zC (pS 1 nd (pD d hr (zA (pv 4) zB)))
  (zG (zOh (i:=3) nd O (nZ O) zE zOr))))))))
  (zG (zJ vQ)))))), ?_}
 walk_at "st";lk;intro p hp;let g0:=zF hp (.lst [v]);rw[<-yAa] at q;refine{λm σ H2=>∃(i z:Nat)(a:V1)(xs:B3)(b:B0)(o:Option V),m=9 - i/\i<=9/\σ= [Y v,Y (V.ref a),Y (V.int z),Y (V.int i),o]/\Same H H2/\H2 a=Y (.lst xs)/\Reps H2 xs b/\(∀t∈b,T.gk t/\T.few t)/\T.szs b<=5000/\z<=200/\thL (9 - i) z b=thL 9 0 [u], ?_};refine{{9,0,0,p,[v],[u],none,O,by decide,O,g0,zD,{v,[],O,Rep.same g0 _ _ hv,O},λt ht=>by rw[mH.mp ht];exact⟨ax,ay⟩, ?_,by decide,O}, ?_}
 ·show T.sz u+0<=5000
  lia
 intro m σ H2 J;ext yA J i z a xs b J;ext wQ J o ao hi a4 g J;ext zS J ha hs ac a7 bc hb;subst ao a4;let aa:=hs...*;let bb:=d6 b;lk
 by_cases h9:i=9
 ·subst h9
  rw[mK ∅];let e:thL (9 - 9) z b=false:=rfl;rw[e] at hb;rw[<-hb] at q;exact q _ g
 obtain⟨n,hn⟩:∃n,9 - i=n+1:={8 - i,∅};let k:(decide (z+b...*<=200)&& (b.all zBi && ((b.filter wX).isEmpty || thL n (z+b...*) (vD (b.filter wX)))))=thL 9 0 [u]:=by rw[hn] at hb;exact hb
 rw[mN ∅];refine{λσ' D=>∃(a':V1)(ae:B3)(I:B0)(o':Option V),σ'= [Y v,Y (V.ref a'),Y (V.int ((z+b...*:Nat):Int)),Y (V.int ((i+1:Nat):Int)),o']/\Same H D/\D a'=Y (.lst ae)/\Reps D ae I/\(∀t∈I,T.gk t/\T.few t)/\T.szs I<=5000/\z+b...*<=200/\thL n (z+b...*) I=thL 9 0 [u], ?_, ?_}
 ·intro σ' D J
  ext yN J a' ae I o' az J;ext zS J g' av a2 h1 h2 J;ext oA J h3 h4;subst az;exact zAk (9 - (i+1)) ∅ (i+1) O ∅ (yFl (z+b...*) a' ⟨o',O⟩ g' ae (zKp av I a2 h1 h2 (nA h3 (by rw[show 9 - (i+1)=n by lia];exact h4))))
 ·lk
  simp only[yFt,ipI];lk;refine nEA xs (SqL.of ha) ?_
  by_cases a5:200<z+b...*
  ·rw[mN (by rw[aa];lia)]
   rw[nP ∅,bN] at k;rw[<-k] at q;exact q _ g
  let ag:z+b...*<=200:=by lia
  rw[nF ag,cD] at k;rw[mK (by rw[aa];lia)];refine{{xs,SqL.of ha},jX (K:=K) (xs:=xs) (λj y D=>Same H2 D/\y=((b.take j).map zBi).map V.bl) (by rw[mV];lia) {Same.refl _,O} (λj y D _ h=>SqL.of (h.1 _ _ ha)) ?_ ?_}
  ·rintro j x y D hx _ ⟨g3,rfl⟩
   refine oEA (hs.get hx) λu' hu ab=>?_;let hm:=mM hu;lk;refine{x,u',O,Rep.same g3 _ _ ab,(ac _ hm).1,(ac _ hm).2,by let:=c8 hm;lia,λH4 g4=>{g3.trans g4, ?_}};rw[yP hu,mU,mU]
   rfl
  ·rintro y D _ ⟨g3,rfl⟩ p1 aq
   rw[show b.take xs...*=b by rw[aa,rB]];let g4:=g3.trans (zF aq (.lst ((b.map zBi).map V.bl)));refine qM p1 O _ (SqL.of zD) ?_;generalize upd D p1 (.lst ((b.map zBi).map V.bl))=H3 at g4⊢;let ak:(b.map zBi).all id=b.all zBi:=by rw[dI];rfl
   rw[ak]
   cases ah:b.all zBi with
   |false=>
    rw[ah,bN] at k;rw[<-k] at q;rw[mN O];exact q _ (g.trans g4)
   |true=>
   rw[ah,cD] at k;rw[mK ∎];let al:=g4 _ _ ha;let a0:=Reps.same g4 _ _ hs;refine{{xs,SqL.of al},jX (K:=K) (xs:=xs) (λj y D=>Same H3 D/\Reps H3 y ((b.take j).filter wX)) (by rw[mV];lia) {Same.refl _,O} (λj y D _ h=>SqL.of (h.1 _ _ al)) ?_ ?_}
   ·rintro j x y D hx _ ⟨g5,L⟩
    refine oEA (a0.get hx) λu' hu ab=>?_;lk;refine{x,u',O,Rep.same g5 _ _ ab,λH4 g6=>{wX u',O, ?_}};rw[yP hu,List.filter_append]
    cases hh:wX u' with
    |true=>
     rw[mN O,rZ hh];exact{g5.trans g6,Reps.snoc ab L}
    |false=>
     rw[mK ∎,sD (by rw[hh];decide),dW,pH];exact{g5.trans g6,L}
   ·rintro y D _ ⟨g5,L⟩ p2 an
    rw[aa,rB] at L;let g6:=g5.trans (zF an (.lst y));let aj:=L...*;refine nEA (!y.isEmpty) (.inl {y,SqL.of zD,O}) ?_;let af:upd D p2 (.lst y) p2=Y (.lst y):=zD;generalize upd D p2 (.lst y)=H4 at g6 af⊢
    cases y with
    |nil=>
     let e0:b.filter wX= []:=List.length_eq_zero_iff.mp aj.symm;rw[e0] at k;let ap:true=thL 9 0 [u]:=k;rw[<-ap] at q;exact iP O (q _ (g.trans (g4.trans g6)))
    |cons y0 y=>
     refine iN (by simp) ?_;let a1:(b.filter wX).isEmpty=false:=by
      cases hf:b.filter wX with|nil=>rw[hf] at aj;cases aj|cons h0 _=>rfl
     rw[a1,Bool.false_or] at k;let a9:=zPo b;let a6:=zMk b;refine{p2,y0::y,b.filter wX,O,af,Reps.same g6 _ _ L,λu' au=>(rP.mp au).2,∅,λl zs H5 g7 hl ar=>?_};let hk:∀t∈vD (b.filter wX),T.gk t/\T.few t:=λt ht=>by
      refine oEA (List.mem_flatten.mp ht) λl' a3 hm=>?_;refine oEA (nS.mp a3) λx hx ai=>?_;subst ai;let am:=(rP.mp hx).1;exact{yEt (ac x am).1 hm,zRe (ac x am).2 hm}
     refine{_,O,_,_,O,O,l,{Y (V.ref p2), ?_},g.trans (g4.trans (g6.trans g7)),zs,hl,vD (b.filter wX),ar,hk,∅,ag,k};simp only[bH,bI,aa,Int.natCast_add,Int.cast_ofNat_Int]
theorem zHs(F:Fun K "_law_thing_by" "_law_thing_by" zHe f fd)(B:Bl mg)(c:Dn P w K mg base 1 "_law_cell" ["_law_script","_law_k"] (gB K))(e:Dn P w K mg base 1 "_law_number_by" ["_law_more"] zPq)
  (a:Dn P w K mg base 2 "_law_text_by" ["_law_more"] zKo) (h:Dn P w K mg base 1 "_law_name_by" ["_law_more"] zGw) (b:Binds K fd ["_law_script","_law_k","_law_deep"] []) (g:A7 K (.ref f)=true) (m:mg "_law_thing_by" =Y (.ref f)):
  ∀d:Nat,FnOk P w K mg base CX0 (3+d) f fd ["_law_script","_law_k","_law_deep"] (zAy K d)
 |0=>zTs F B c e a|d+1=>zSp F B c e a h {_,_,zHs F B c e a h b g m d,b,g,m}
def zBm(K:A6)(n:Nat):Sp:=λa H Q E=>∃d,d<=n/\zAy K d a H Q E
theorem zTx{n:Nat}(h:∀d:Nat,FnOk P w K mg base CX0 (3+d) f fd ["_law_script","_law_k","_law_deep"] (zAy K d)):FnOk P w K mg base CX0 (3+n) f fd ["_law_script","_law_k","_law_deep"] (zBm K n):=
 {λc H Q E ⟨d,_,q⟩=>(h d).len c H Q E q,λA a s H b i c Q E e j l k ⟨d,m,g⟩=>(h d).run A a s H b i c Q E (e.mono ∅) j l k g}
end
end K48
namespace K48
open PySem L2 PySem.W
seal L2.PSs L2.PS L2.PE L2.PT L2.PW L2.PA L2.PI L2.PG L2.PGs L2.PPs L2.PTs
abbrev sSou:V6:=top 34
abbrev sSo:V6:=top 45
abbrev yCt:V6:=top 44
theorem zTm{K:PySem.W.Frag}{l:V1}{xs:B3}{g:TG}{tb:TS}{D:gO}{σ:St}{H:Hp}(Pv:Nat->St->Hp->Prop)(o:Pv 0 σ H)(t:∀i σ H,Pv i σ H->SqL K H l xs)
  (n:∀i x σ H p,xs[i]? =Y x->Pv i σ H->H p=none->g (.ref p) σ (upd H p (.tup [.int i,x])) λσ2 H2=>tb {D with nx:=Pv (i+1),ct:=Pv (i+1),bk:=D.nx} σ2 H2)
  (h:∀σ H,Pv xs...* σ H->D.nx σ H):zTd g tb D σ (Ite K l) H:=by
 refine{λi k σ H=>k=xs...* - i/\i<=xs...*/\Pv i σ H,{_,O,nJ _,o}, ?_};rintro i k σ H ⟨rfl,u,p⟩;let c:=t i σ H p
 by_cases f:i<xs...*
 ·refine .inr {{xs,xs[i],c,by simp[f]},Pv (i+1),λw j q=>{_,∅,O,f,q}, ?_}
  intro v j s;ext zV s a x m b r d;subst b d;exact n i x σ H a (r xs c) p m
 ·let e:i=xs...*:=by lia
  subst e;exact .inl {{xs,c,mC _},h σ H p}
noncomputable def wH:Nat->List Dd->T->Sum Nat T
 |_,[],t=>.inr t|i,d::a,t=>match doT d.1 d.2.2 d.2.1 t with
  |none=>.inl i|some r=>wH (i+1) a r
noncomputable def stands:List Dd->T->List T
 | [],t=>[t]|d::a,t=>t::(match doT d.1 d.2.2 d.2.1 t with
  | some r=>stands a r|none=>[])
theorem zAt{d:Dd}{ds:C4}{t r:T}(h:doT d.1 d.2.2 d.2.1 t=Y r):stands (d::ds) t=t::stands ds r:=by
 show t::(match doT d.1 d.2.2 d.2.1 t with
  | some r=>stands ds r|none=>[])=_
 rw[h]
theorem qZ{i:Nat}{d:Dd}{ds:C4}{t:T}(h:doT d.1 d.2.2 d.2.1 t=none):wH i (d::ds) t= .inl i:=by
 show(match doT d.1 d.2.2 d.2.1 t with | none=>Sum.inl i | some r=>wH (i+1) ds r)=_
 rw[h]
theorem qK{i:Nat}{d:Dd}{ds:C4}{t r:T}(h:doT d.1 d.2.2 d.2.1 t=Y r):wH i (d::ds) t=wH (i+1) ds r:=by
 show(match doT d.1 d.2.2 d.2.1 t with | none=>Sum.inl i | some r=>wH (i+1) ds r)=_
 rw[h]
structure Od(d:Dd):Prop where
 s:∀k∈d.2.1,okS k
 l:d.2.1...*<=8
 f:T.fewm 31 d.2.2
 g:T.gk d.2.2
 dd:d.2.1...*+T.dep d.2.2<=15
 z:T.sz d.2.2<=200
structure RJ(m:Nat)(ds:C4)(s:T):Prop where
 f:T.fewm m s
 m0:31<=m
 m1:m+ds...*<61
 g:T.gk s
 d:T.dep s<=15
 z:T.sz s+200*ds...*<=5000
 o:∀d∈ds,Od d
theorem RJ.few{m:Nat}{ds:C4}{s:T}(h:RJ m ds s):T.few s:=d3 (by let:=h.m1;lia) _ h.f
theorem RJ.step{m:Nat}{d:Dd}{ds:C4}{s r:T}(h:RJ m (d::ds) s)(i:doT d.1 d.2.2 d.2.1 s=Y r):RJ (m+1) ds r:=by
 let o:=h.o d mE;let q:=h.m0;let l:=h.m1;let j:=h.z;let g:=h.d;let n:=o.z;let p:=o.dd;rw[mX] at l j;refine yZ (zCb ∅ (b9 h.m0 _ o.f) o.g _ _ _ i h.f h.g o.s ∅) λa b c e=>?_;exact{a,∅,∅,b,∅,∅,λk f=>h.o k (mI _ f)}
structure ThI(t:T):Prop where
 g:Gd t
 d:T.dep t<=8
 z:T.sz t<=200
structure RI(ds:C4)(s:T):Prop where
 a:allR (T.fewm 30) ds s
 g:T.gk s
 d:T.dep s<=8
 z:T.sz s+vW ds<=1000
 o:∀d∈ds,Dok 8 200 d
 r:∃r,xG ds s=Y r
theorem RI.few{ds:C4}{s:T}(h:RI ds s):T.few s:=d3 ∎ _ h.a.head
theorem RI.step{d:Dd}{ds:C4}{s:T}(h:RI (d::ds) s):∃r,doT d.1 d.2.2 d.2.1 s=Y r/\RI ds r:=by
 obtain⟨r,p⟩:=h.r;let g:(doT d.1 d.2.2 d.2.1 s).bind (xG ds)=Y r:=p;obtain⟨e,c,t⟩:=Option.bind_eq_some_iff.mp g;let a:=h.o d mE;let o:=h.z;let u:T.sz s+(cst d+vW ds)<=1000:=o;let b:∀n,doT d.1 n d.2.1 s=Y e->T.fewm 30 n->T.gk n->d.2.1...*+T.dep n<=8->T.sz n<=cst d->RI ds e:=λn i q l k y=>by
  refine yZ (zCb (m:=30) ∎ q l d.2.1 s e i h.a.head h.g a.s ∅) λ_ w z x=>?_;let:=h.d;exact{h.a.2 e c,w,∅,∅,λv j=>h.o v (mI _ j),⟨r,t⟩}
 refine nEA e c ?_;let k:=a.l
 cases f:d.1 with
 |tak=>
  refine b .non (by rw[f];rw[f,zEt (n':=.non)] at c;exact c) mT mT (by show d.2.1...*+0<=8;lia) (zRt d)
 |put=>exact b d.2.2 c (gN _ a.g.f a.g.n) a.g.g k (by unfold cst;rw[f];exact mC _)|ins=>exact b d.2.2 c (gN _ a.g.f a.g.n) a.g.g k (by unfold cst;rw[f];exact mC _)
theorem ThI.ri{t u:T}(h:ThI t)(h':ThI u):RI (dfT 20 t u) t/\∃r,xG (dfT 20 t u) t=Y r/\alk r u=true:=by
 let c:=h.d;let g:=h'.d;let j:=h.z;let f:=h'.z;obtain⟨r,b,e⟩:=zGr 20 t u h.g.f h'.g.f h.g.n ∅;let i:=zKq 20 t u h.g.f h'.g.f;refine zOb {zKc 20 t u h.g.f h'.g.f h.g.n h'.g.n ∅,h.g.g,c,∅,λd a=>?_,⟨r,b⟩} r b e;let:=zPi 20 t u h.g h'.g d a;exact{this.s,by let:=this.l;lia,this.g,by let:=this.z;lia}
def RK(ds:C4)(s:T):Prop:=(∃m,RJ m ds s)\/RI ds s
theorem RK.all{ds:C4}{s:T}(h:RK ds s):∃m,T.fewm m s/\m<61/\T.gk s/\T.dep s<=15/\T.sz s<=5000/\ds...*<=1000/\(∀d∈ds,(∀k∈d.2.1,okS k)/\d.2.1...*<=8)/\T.few s:=by
 rcases h with⟨m,h⟩| h
 ·let c:=h.m1
  let b:=h.z;exact{m,h.f,∅,h.g,h.d,∅,∅,λd a=>{(h.o d a).s,(h.o d a).l},h.few}
 ·let c:=h.z
  let b:=h.d;let e:=zFw ds;refine{30,h.a.head,by decide,h.g,∅,∅,∅,λd a=>{(h.o d a).s, ?_},h.few};let:=(h.o d a).l
  lia
theorem RK.step{d:Dd}{ds:C4}{s r:T}(h:RK (d::ds) s)(b:doT d.1 d.2.2 d.2.1 s=Y r):RK ds r:=by
 rcases h with⟨m,h⟩| h
 ·exact .inl {_,h.step b}
 ·obtain⟨e,a,c⟩:=h.step
  rw[b] at a;cases a;exact .inr c
def Dlays(H:Hp)(xs:B3)(ds:C4):Prop:=xs...*=ds...*/\∀(i:Nat) v d,xs[i]? =Y v->ds[i]? =Y d->Dlay H v d
theorem Dlays.same{H a:Hp}{xs:B3}{ds:C4}(g:Same H a)(h:Dlays H xs ds):Dlays a xs ds:={h.1,λi v d b c=>(h.2 i v d b c).same g}
theorem zBj{H a:Hp}{d:V1}{o:Obj}{xs:B3}(f:H d=Y (.lst xs))(g:Same (upd H d (.frz o (.lst xs))) a):Same H (L2.thaw H a):=zDu λb u e=>by
 by_cases c:b=d
 ·subst c
  rw[f] at e;cases e;exact .inr {{o,g _ _ zD},λ_ _ z=>by cases z}
 ·exact .inl (g _ _ (by rw[zM c];exact e))
section
variable{P:V3}{w:V4}{K:PySem.W.Frag}{mg:C8}{base:V5}{f:V1}{fd:V7}{C2 C3:V1}
def zYy(C3:V1):Sp:=λb H Q E=>∃(v:V)(t:T),b= [v]/\Rep H v t/\T.gk t/\T.few t/\T.sz t<=5000/\(xM t=true->∀a,Same H a->Q v a)/\(xM t=false->∀a,Same H a->E (.ref C3) none a)
theorem zUn(F:Fun K "sound" "sound" sSou f fd)(a:Dn P w K mg base 3 "is_thing" ["thing"] yCu)(b:Xr0 K mg "TooGreat" C3):FnOk P w K mg base (CXE aC P w) 4 f fd ["thing"] (zYy C3):=by
 refine F.okxn (N:=["thing"]) λl A d s H r Q E x j h=>?_;ext zV h v t c o k n;ext yZ n p i q m;subst c;refine{_,(zC (zT (wJ (yG (pD a j (zA (pv 0) zB)))) (zG (zSs b O O lvs (zA zP zB))) zL)
  (zG (zJ (pv 0)))), ?_}
 walk_at "st";unfold zNk;lk;refine{v,t,O,o,k,p,i,λu e=>?_}
 cases g:xM t with|false=>exact{false,O,iP O (m g _ e)}|true=>exact{true,O,iN ∎ (q g _ e)}
def yGp(C2 C3:V1):Sp:=λg H Q E=>∃(v:V)(e:V1)(c:B3)(t:T)(b:C4),g= [v, .ref e]/\Rep H v t/\H e=Y (.lst c)/\Dlays H c b/\RK b t/\
 (∀r,wH 0 b t= .inr r->xM r=true->∀l d y a,Same H a->a l=Y (.lst (d++ [y]))->Rep a y r->T.few r->T.dep r<=15->T.sz r<=5000->Reps a (d++ [y]) (stands b t)->Q (.ref l) a)/\
 (∀r,wH 0 b t= .inr r->xM r=false->∀a,Same H a->E (.ref C3) none a)/\(∀i:Nat,wH 0 b t= .inl i->XNo C2 (i:Int) H E)
theorem ok_so(F:Fun K "stands_of" "stands_of" sSo f fd)(B:Bl4 mg)(c:Dx aC P w K mg base 6 "after_deed" ["thing","deed","number"] (spAd C2))(L:Dx aC P w K mg base 6 "sound" ["thing"] (zYy C3)):FnOk P w K mg base (CXE aC P w) 7 f fd ["thing","paper"] (yGp C2 C3):=by
 refine F.okxn (N:=["thing","paper","stands","number","deed"]) λa0 A aq s H vs Q E nd hr h=>?_;obtain⟨v,pa,xs,t,J,rfl,hv,al,hD,hI,q,qx,qn⟩:=h;let hu:=vE hr;refine{_,(zC (pS 2 nd (yM (zA (pv 0) zB)))
  (zC (wW PassesOwn.leaving O (zKb O B.enumerate (zA (pv 1) zB)) (zOi (n:=2) O (vP (yF (i:=3) nd O (nZ O)) (vP (yF (i:=4) nd O (nZ O)) zCh))) (zG (xS (qA pA pM rE vK (pv 2) (zA (zEw (zGc c hr ∅ O lvs (zA (pX zU (pv 2) (xW xH zE)) (zA (pv 4) (zA (pv 3) zB))))) zB)))))
  (zC (xS (zGc L hr ∅ O lvs (zA (pX zU (pv 2) (xW xH zE)) zB)))
  (zG (zJ (pv 2)))))), ?_}
 walk_at "st";unfold zWt;lk;intro k aa;let s1:=zF aa (.lst [v]);let e1:=zD (H:=H) (a:=k) (o:=.lst [v]);let ak:Rep (wB (upd H k (.lst [v])) k) v t:=Rep.same (λb o e=>by
  let hb:b≠k:=λz=>by subst z;rw[aa] at e;cases e
  rw[xZ hb,zM hb];exact e) _ _ hv
 generalize upd H k (.lst [v])=H1 at s1 e1 ak⊢;let ar:=hD.1;obtain⟨_,_,_,_,_,_,ay,_⟩:=hI.all;refine{{_,SqL.of (s1 _ _ al)}, ?_};refine zTm (K:=K) (l:=pa) (xs:=xs) (λi σ H'=>∃(o1 o2:Option V)(M:B3)(y:V)(s:T),σ= [Y v,Y (.ref pa),Y (.ref k),o1,o2]/\Same H H'/\H' k=Y (.lst (M++ [y]))/\M...*=i/\Rep (wB H' k) y s/\RK (J.drop i) s/\wH i (J.drop i) s=wH 0 J t/\∃us,Reps (wB H' k) M us/\us++stands (J.drop i) s=stands J t) {_,_,[],v,t,O,s1,e1,O,ak,hI,O,[],O,O} (λi σ H' h=>?_) ?_ ?_
 ·ext yA h o1 o2 M y s z_
  ext oAA z_ an g _;subst an;exact SqL.of (g _ _ al)
 ·rintro i x σ H2 p hx ⟨o1,o2,M,y,s,rfl,g2,r,ax,hy,u,j,us,ah,D⟩ hp
  lk;let s3:=zF hp (.tup [V.int (i:Int),x]);let e3:=zD (H:=H2) (a:=p) (o:=.tup [V.int (i:Int),x]);let I:=g2.trans s3;let m:=s3 _ _ r;let ae:=Rep.same (xP (d:=k) s3) _ _ hy;let ab:=Reps.same (xP (d:=k) s3) _ _ ah;generalize upd H2 p (.tup [V.int (i:Int),x])=H3 at s3 e3 I m ae ab⊢;let az:=(mS.mp hx).1;let ap:J[i]? =some J[i]:=mP ∅;let av:J.drop i=J[i]::J.drop (i+1):=pZ ∅;rw[av] at u j D;obtain⟨m',rf,rm,rg,rd,rz,_,ro,_⟩:=u.all;let od:=ro _ mE;refine zYn _ (SqT.of e3) O _ _ (zXf O _ _ O O (nA (nZ {O,_,SqL.of m}) ?_));unfold zJi zQk;refine{k, .inr {_,m,λo=>?_}};let gf:Same H (upd H3 k (.frz o (.lst (M++ [y])))):=wS I aa;lk;refine yH (.inl (.inr ⟨o,zD⟩)) (xV _ _) {y,x,_,s,J[i],m',O,Rep.same zBo _ _ ae,rf,∅,∅,(hD.2 i x _ hx ap).same gf,od.1,od.2,λr' ag v' Hc gc ao=>?_,λau=>?_}
  ·let gt:=zBj m gc
   let am:Rep (wB (L2.thaw H3 Hc) k) v' r':=Rep.off (gc _ _ zD) ao;rw[qK ag] at j;rw[zAt ag] at D;let ai:=Rep.same (xP (d:=k) gt) _ _ ae;let ac:=Reps.same (xP (d:=k) gt) _ _ ab;dsimp only;generalize L2.thaw H3 Hc=H6 at gt am ai ac⊢;refine{k,M++ [y],v',O,O,gt _ _ m,by rw[mV,mL,mY];lia, ?_};exact{⟨_,O⟩,wS (I.trans gt) aa,M++ [y],v',zD,by rw[mL,mY];lia,r',by rw[kG];exact am,u.step ag,j,us++ [s],by rw[kG];exact Reps.snoc ai ac,by rw[rM];exact D}
  ·rw[qZ au] at j
   exact λd H' g hd=>qn i j.symm d H' (gf.trans g) hd
 ·rintro σ H2 ⟨o1,o2,M,y,s,rfl,g2,r,ax,hy,u,j,us,ah,D⟩
  lk;rw[ar,aV] at j u D;obtain⟨_,_,_,rg,aw,hz,_,_,aj⟩:=u.all;refine yH (SqL.of r) (xV _ _) {y,s,O,Rep.same wV _ _ hy,rg,aj,hz,λaf H3 I=>?_,λaf H3 I=>qx s j.symm af H3 (g2.trans I)};exact q s j.symm af k M y H3 (g2.trans I) (I _ _ r) (Rep.same I _ _ (Rep.same wV _ _ hy)) aj aw hz (by rw[<-D];exact Reps.snoc (Rep.same I _ _ (Rep.same wV _ _ hy)) (Reps.same I _ _ (Reps.same wV _ _ ah)))
def zFg(C2 C3:V1):Sp:=λg H Q E=>∃(v:V)(e:V1)(d:B3)(t:T)(c:C4),g= [v, .ref e]/\Rep H v t/\H e=Y (.lst d)/\Dlays H d c/\RK c t/\
 (∀r,wH 0 c t= .inr r->xM r=true->∀y a D,Same H a->Sp1 a y r D->(∀b∈D,H b=none)->Q y a)/\
 (∀r,wH 0 c t= .inr r->xM r=false->∀a,Same H a->E (.ref C3) none a)/\(∀i:Nat,wH 0 c t= .inl i->XNo C2 (i:Int) H E)
theorem zRy(F:Fun K "done" "done" yCt f fd)(a:Dx aC P w K mg base 25 "stands_of" ["thing","paper"] (yGp C2 C3))(c:Dn P w K mg base 25 "copied" ["thing"] (zFr 20)):FnOk P w K mg base (CXE aC P w) 26 f fd ["thing","paper"] (zFg C2 C3):=by
 refine F.okxn (N:=["thing","paper"]) λx A j s H vs Q E nd k h=>?_;obtain⟨v,L,z,t,u,rfl,J,i,hD,p,q,qx,n⟩:=h;refine nEA _ (zG (zJ (pD c k (zA (pX zU (zGc a k ∅ O lvs (zA (pv 0) (zA (pv 1) zB))) (xW xH zE)) zB)))) ?_;walk_at "st";lk;refine{v,L,z,t,u,O,J,i,hD,p,λr d o l ys y H1 m M I e hd hz _=>yH (SqL.of M) (xV _ _) {y,r,O,I,qF _ r (mC _) e,∅,∅,λB H2 D g2 sp g=>q r d o B H2 D (m.trans g2) sp λb hb=>zQ m (g b hb)},qx,n}
end
end K48
namespace K48
open PySem L2
theorem zRq{H:Hp}:∀{ks:B8}{xs:B3},Reps H xs (ks.map kT)->xs=ks.map kV
 |[],xs,h=>h|k::ks,xs,h=>by
  ext yO h v r a b c;subst a;rw[zRq c]
  cases k with
  |inl i=>exact congrArg (· ::ks.map kV) (show v=V.int i from b)|inr s=>
   let e:v=V.str (tx (ts s)):=b;rw[jH] at e;exact congrArg (· ::ks.map kV) e
theorem zVp{H:Hp}{v:V}{d:Dd}(h:Rep H v (ddT d)):Dlay H v d:=by
 obtain⟨w,s,n⟩:=d;let f:∀r,Rep H v (.tup (.str (ts w.s):: .lst (s.map kT)::r))->∃b a c,v= .ref b/\H b=Y (.tup (.str w.s:: .ref a::c))/\H a=Y (.lst (s.map kV))/\Reps H c r:=λr h=>by
  obtain⟨b,c,rfl,y,t,I,rfl,m,D,A,rfl,⟨a,E,rfl,i,p⟩,u⟩:=h;let m:t=V.str (tx (ts w.s)):=m;rw[jH] at m;rw[zRq p] at i;subst m;exact gD b a A O y (nA i u)
 cases w with
 |tak=>
  refine yB (f [] h) λb a c l k B=>?_;ext oA B g j;let e:c= []:=j;subst e;exact{b,a,[],l,k,g, .inl ⟨O,O⟩}
 |put=>
  obtain⟨b,a,c,l,k,g,x,r,e,j,o⟩:=f [n] h;let q:r= []:=o;subst e q;exact{b,a,[x],l,k,g,bY {(by intro z;cases z),x,O,j}}
 |ins=>
  obtain⟨b,a,c,l,k,g,x,r,e,j,o⟩:=f [n] h;let q:r= []:=o;subst e q;exact{b,a,[x],l,k,g,bY {(by intro z;cases z),x,O,j}}
theorem Dlays.of{H:Hp}{xs:B3}{ds:C4}(h:Reps H xs (ds.map ddT)):Dlays H xs ds:=by
 let a:=h...*;rw[mJ] at a;refine{a,λi v d f e=>?_};obtain⟨t,c,b⟩:=h.get f;rw[nG,e] at c;rw[<-mQ c] at b;exact zVp b
seal L2.PSs L2.PS L2.PE L2.PT L2.PW L2.PA L2.PI L2.PG L2.PGs L2.PPs L2.PTs
abbrev sSa:V6:=top 72
section
variable{P:V3}{w:V4}{K:A6}{mg:C8}{base:V5}{f:V1}{fd:V7}
def yDw:Sp:=λb H Q _=>∃(v:V)(t:T)(m:Int),b= [v, .int m]/\Rep H v t/\T.few t/\T.gk t/\0<=m/\m<2000000/\∀k a,Same H a->okS k->Q (kV k) a
theorem ok_sa(F:Fun K "_law_step_at" "_law_step_at" sSa f fd)(B:Bl2 mg)(c:Dn P w K mg base 1 "_law_name_by" ["_law_more"] zGw):FnOk P w K mg base CX0 2 f fd ["_law_there","_law_more"] yDw:=by
 refine F.okn (N:=["_law_there","_law_more"]) λaa A L s H vs Q E nd hr h=>?_;ext yB h v t m y e z_;ext wY z_ hf M h0 h1 q;subst y;let hu:=vE hr;refine{_,(zC (zT (yG (pI B.isinstance zK B.list wA (pv 0))) (zG (zJ (zO (zAp O) O B.min zJs (zA zE (zA (zI yL (pv 1) (zI xK (zO zZ O B.len yR (zA (pv 0) zB)) zE)) zB))))) zL)
  (zC (zT (i8 (vZ (yG (pI B.isinstance zK B.dict xQ (pv 0))) (vZ (pT uP (zO zDn O B.len yR (zA (pv 0) zB)) zE) (qE (pT uP (zI yL (pv 1) zE) zE))))) (zG (zJ (pX zU (zO (wU O) O B.sorted jW (zA (pv 0) zB)) (zI yL (zI yJ (pv 1) zE) (zO zDn O B.len yR (zA (pv 0) zB)))))) zL)
  (zG (zJ (pD c hr (zA (zI yJ (pv 1) zE) zB)))))), ?_}
 walk_at "st";lk;let j:zGw [V.int (m / 3)] H Q E0:={_,O,∅,∅,λx J H' g=>q (.inr (tx x)) H' g (by show xA (ts (tx x))=true;rw[wG];exact J)}
 cases t with
 |lst us=>
  ext yO e a xs d i J;subst d;refine nEA ("list") (zAx i) ?_;rw[mN ∎];refine zAk a O xs (SqL.of i) ∅ (nEEA _ _ ⟨O,O⟩ (q (.inl _) H (Same.refl _) ?_));let e1:=sT m (show(xs...*:Int)+1≠0 by lia);show 0<=_/\_<=(59:Int);split<;>lia
 |dic ks us=>
  ext zV e a I d i hk J;subst d;refine nEA ("dict") (uV i) ?_;rw[mK ∎];refine nEA ("dict") (uV i) ?_;rw[mN ∎];refine qM a O I i ?_;split
  ·rename_i hp
   split
   ·refine vB a O I (.inl i) (ks.map tx) (nAA (by rw[hk,sH];rfl) (by rw[mJ];exact hf.2.1) (λl ss hl p ab=>?_))
    let n:=congrArg List.length hk;rw[mJ,mJ] at n;let o:=p.length_eq;rw[mJ] at o;refine zAk a O I (zF hl _ _ _ i) hp (zBx zD (sT _ ∅) (by rw[mJ,o,<-n];exact sP _ hp) λx r=>?_);refine oEA (nS.mp r) λz hz d=>?_;subst d;let u:=p.mem_iff.mp hz;refine oEA (nS.mp u) λk D d=>?_;subst d;exact q (.inr (tx k)) _ (zF hl _) (by show xA (ts (tx k))=true;rw[wG];exact M.1 k D)
   ·exact j
  ·exact j
 |non=>exact{_,e.ty,by rw[mK (by simp[tyT,zX])];exact{_,e.ty,by rw[mK (by simp[tyT,zX])];exact j}}|bl b=>exact{_,e.ty,by rw[mK (by simp[tyT,zX])];exact{_,e.ty,by rw[mK (by simp[tyT,zX])];exact j}}|int b=>exact{_,e.ty,by rw[mK (by simp[tyT,zX])];exact{_,e.ty,by rw[mK (by simp[tyT,zX])];exact j}}|str b=>exact{_,e.ty,by rw[mK (by simp[tyT,zX])];exact{_,e.ty,by rw[mK (by simp[tyT,zX])];exact j}}|tup us=>exact hf.elim
abbrev sWk:V6:=top 71
def spWk(K:A6):Sp:=λe H Q _=>∃(a:V1)(d:List Int)(k:Int)(v:V)(t:T),e= [.ref a, .int k,v]/\SqL K H a (d.map V.int)/\d...*<=63/\0<=k/\k<100000/\Rep H v t/\T.few t/\T.gk t/\∀(l p:V1)(c:B8)(x:V)(s:T)(b:Hp),Same H b->b l=Y (.lst [.ref p,x])->b p=Y (.lst (c.map kV))->c...*<=7->(∀k∈c,okS k)->Rep H x s->T.few s->T.gk s->Q (.ref l) b
theorem ok_wk(F:Fun K "_law_walk" "_law_walk" sWk f fd)(B:Bl2 mg)(e:Dn P w K mg base 1 "_law_cell" ["_law_script","_law_k"] (gB K)):FnOk P w K mg base CX0 2 f fd ["_law_script","_law_k","_law_thing"] (spWk K):=by
 refine F.okn (N:=["_law_script","_law_k","_law_thing","_law_path","_law_j","_law_more","_law_step"]) λa5 A av s H vs Q E nd hr h=>?_;ext yA h a ns k v t n;ext zS n aq ha ar a2 a0 n;ext yZ n hv hf au q;subst aq;let hu:=vE hr;refine{_,(zC (pS 3 nd (yM zB))
  (zC (wW PassesOwn.never O (wE O B.range (zA zE zB)) (yF (i:=4) nd O (nZ O)) (zC (pS 5 nd (pD e hr (zA (pv 0) (zA (zI xK (pv 1) (pv 4)) zB))))
  (zC (zT (i8 (zBb (pT xD (zI yL (pv 5) zE) zE) (zBb (wJ (yG (zO (zBa (T:="list") (U:="dict") ∎ ∎) O B.isinstance zK (zA (pv 2) (zA (vX (zA (vL (v:=.ty "list") O B.list wA O) (zA (vL (v:=.ty "dict") O B.dict xQ O) zB))) zB))))) (zAl (pT xD (zO zEc O B.len yR (zA (pv 2) zB)) zE))))) (zG (zJ (yM (zA (pv 3) (zA (pv 2) zB))))) zL)
  (zC (pS 6 nd (zO (zAp O) O B.min zJs (zA zE (zA (zI yL (zI yJ (pv 5) zE) (zO zEc O B.len yR (zA (pv 2) zB))) zB))))
  (zC (zT (yG (pI B.isinstance zK B.dict xQ (pv 2))) (zG (pS 6 nd (pX zU (zO (wU O) O B.sorted jW (zA (pv 2) zB)) (pv 6)))) zL)
  (zC (xS (qA pA pM rE vK (pv 3) (zA (pv 6) zB)))
  (zG (pS 2 nd (zDe (pX zU (pv 2) (pv 6)) (vT hu (pv 2) (pv 6) (λ_ _=>O)))))))))))
  (zG (zJ (yM (zA (pv 3) (zA (pv 2) zB))))))), ?_}
 walk_at "st";lk;intro p hp;let s1:=zF hp (.lst []);refine qL (λi σ H'=>∃(y:V)(s:T)(u:B8)(o1 o2 o3:Option V),σ= [Y (V.ref a),Y (V.int k),Y y,Y (V.ref p),o1,o2,o3]/\Same H H'/\Rep H y s/\T.few s/\T.gk s/\H' p=Y (.lst (u.map kV))/\u...*=i/\(∀k∈u,okS k)) {_,t,[],_,_,_,O,s1,hv,hf,au,zD,O,λ_ h=>nomatch h} ?_ ?_
 ·intro i σ H2 hi n
  ext yA n y s u o1 o2 n;ext wQ n o3 ag g2 hy d n;ext yZ n D M hl I;subst ag;lk;obtain⟨c,hc,a1,a6⟩:∃c:Int,qC ns (k+(0+(i:Int)))=c/\0<=c/\c<1000003:={_,O,jG _ _,jE _ _};refine{a,ns,_,O,g2.seq ha,ar,∅,∅,λH3 g3=>{c,by rw[hc], ?_}};rw[hc];let g4:=g2.trans g3;let ret:∀{H':Hp},Same H3 H'->∀l,H' l=none->Q (V.ref l) (upd H' l (.lst [V.ref p,y])):=λ{H'} g l af=>by
   let s3:=zF af (.lst [V.ref p,y]);exact q l p u y s _ (g4.trans (g.trans s3)) zD (s3 _ _ (g _ _ (g3 _ _ M))) ∅ I hy d D
  by_cases h5:c % 5=0
  ·exact iP h5 (ret (Same.refl _))
  refine iN h5 λp1 aa=>?_;let s5:=zF aa (.tup [V.ty "list",V.ty "dict"]);refine gD y _ p1 ⟨O,O⟩ zD (nA ((Rep.same (g4.trans s5) _ _ hy).ty) ?_);let ac:=s5 _ _ (g3 _ _ M);let r:=ret s5;let L:=g4.trans s5;generalize upd H3 p1 (.tup [V.ty "list",V.ty "dict"])=H5 at s5 r ac L⊢;let al:H p=none:=hp
  cases s with
  |lst us=>
   refine iN (by simp only[tyT];decide+kernel) ?_;let ak:=hy;ext yO hy b o m hb hx;subst m;let a3:=hx...*;refine qM b O o...* (.inl {o,SqL.of (L _ _ hb),O}) ?_
   by_cases h0:(o...*:Int)=0
   ·exact iP h0 r
   refine iN h0 {c,O,b,O,o...*, .inl {o,SqL.of (L _ _ hb),O},∅,_,_,⟨O,O⟩,_,(Rep.same L _ _ ak).ty,iN (by simp only[tyT];decide+kernel) ?_};let e1:=sT (c / 5) h0;let e2:=sP (c / 5) (show(0:Int)<o...* by lia);obtain⟨j,hj,ae,a7⟩:∃j:Nat,(if c / 5 % (o...*:Int)<59 then c / 5 % (o...*:Int) else 59)=(j:Int)/\j<o...*/\j<=59:={(if c / 5 % (o...*:Int)<59 then c / 5 % (o...*:Int) else 59).toNat,by split<;>lia,by split<;>lia,by split<;>lia};rw[hj];refine oEA (hx.get (i:=j) (v:=o[j]) (by simp[ae])) λt' am ao=>?_;refine{.inl {O,_,SqL.of ac},p,_,_,O,O,ac,by rw[mJ,mV];lia, .inl ?_};let g6:Same H (upd H5 p (.lst (u.map kV++ [V.int (j:Int)]))):=wS L al;lk;refine yH (SqL.of (g6 _ _ hb)) (yI (j:=j) (v:=o[j]) (by simp[ae])) {o[j],⟨O,_,O⟩,g6,t',ao,b7 d.2 (mM am),d4 D (mM am),u++ [.inl (j:Int)], ?_,by rw[mL,mY,hl], ?_}
   ·rw[zD];exact congrArg (λz=>Y (HO.lst z)) (zHk u (.inl (j:Int)))
   ·intro k' ah
    rcases mZ.mp ah with z | z
    ·exact I _ z
    ·rw[mH.mp z];exact{∅,∅}
  |dic hs us=>
   refine iN (by simp only[tyT];decide+kernel) ?_;let ak:=hy;ext zV hy b J m hb aj hx;subst m;let a4:J...*=hs...*:=by let:=congrArg List.length aj;simpa using this
   refine qM b O J...* (.inr {J,L _ _ hb,O}) ?_
   by_cases h0:(J...*:Int)=0
   ·exact iP h0 r
   refine iN h0 {c,O,b,O,J...*, .inr {J,L _ _ hb,O},∅,_,_,⟨O,O⟩,_,(Rep.same L _ _ ak).ty,iP (by simp only[tyT];decide+kernel) ?_};let e1:=sT (c / 5) h0;let e2:=sP (c / 5) (show(0:Int)<J...* by lia);obtain⟨j,hj,ae⟩:∃j:Int,(if c / 5 % (J...*:Int)<59 then c / 5 % (J...*:Int) else 59)=j/\0<=j/\j<J...*:={_,O,by split<;>lia,by split<;>lia};rw[hj];refine vB b O J (.inl (L _ _ hb)) (hs.map tx) (nAA (by rw[aj,sH];rfl) (by rw[mJ];exact d.2.1) (λl ss ax aa az=>?_));let s6:=zF ax (.lst (ss.map V.str));let an:=aa.length_eq;rw[mJ] at an;refine zBx zD ae.1 (by rw[mJ,an];lia) λx aw=>?_;refine oEA (nS.mp aw) λz hz m=>?_;subst m;refine oEA (nS.mp (aa.mem_iff.mp hz)) λkk ab m=>?_;subst m;let ai:=s6 _ _ ac;let g6:=L.trans s6;generalize upd H5 l (.lst (ss.map V.str))=H6 at ai g6⊢;refine{.inl {O,_,SqL.of ai},p,_,_,O,O,ai,by rw[mJ,mV];lia, .inr ?_};let g7:Same H (upd H6 p (.lst (u.map kV++ [V.str (tx kk)]))):=wS g6 al;refine oEA (zEz d.1 aj hx hb ab) λy' ap ay=>?_;unfold zCs;lk;refine zAk y' (ap _ g7) y' ⟨O,_,O⟩ g7 (yGe _ ay (b7 d.2.2.2 (yC ab d.2.2.1)) (d4 D.2 (yC ab d.2.2.1)) (u++ [nK kk]) (nAA ?_ (by rw[mL,mY,hl]) ?_))
   ·rw[zD];exact congrArg (λz=>Y (HO.lst z)) (zHk u (nK kk))
   ·intro k' ah
    rcases mZ.mp ah with z | z
    ·exact I _ z
    ·rw[mH.mp z];show xA (ts (tx kk))=true;rw[wG];exact D.1 kk ab
  |tup us=>exact d.elim|_=>exact iP (by simp only[tyT];decide+kernel) r
 ·intro σ H2 n
  ext yA n y s u o1 o2 n;ext wQ n o3 ag g2 hy d n;ext yZ n D M hl I;subst ag;lk;intro l af;let s3:=zF af (.lst [V.ref p,y]);exact q l p u y s _ (g2.trans s3) zD (s3 _ _ M) ∅ I hy d D
end
abbrev sDe:V6:=top 73
mutual
theorem Nice.fewm{d:Nat}:∀(t:T),Nice d t->T.fewm 30 t
 |.lst a,h=>{by let:=h.2.1;lia,NiceL.fewm a h.2.2}|.dic ks a,h=>{h.2.2.2.1,by let:=h.2.1;let:=h.2.2.1;lia,h.2.2.1,NiceL.fewm a h.2.2.2.2.2}|.tup _,h=>h.elim|.non,_=>mT|.bl _,_=>mT|.int _,_=>mT|.str _,_=>mT
theorem NiceL.fewm{d:Nat}:∀(us:B0),NiceL d us->d7 30 us
 |[],_=>mT|t::us,h=>{Nice.fewm t h.1,NiceL.fewm us h.2}
end
theorem yGl{H:Hp}(k:Key):Rep H (kV k) (kT k):=by
 cases k with|inl i=>exact O|inr s=>show V.str s=V.str (tx (ts s));rw[jH]
theorem zSa{H:Hp}:∀ks:List Key,Reps H (ks.map kV) (ks.map kT)
 |[]=>rfl|k::ks=>{kV k,_,O,yGl k,zSa ks}
theorem zQw:∀ks:List Key,d7 30 (ks.map kT)/\T.deps (ks.map kT)=0/\T.szs (ks.map kT)=ks...*
 |[]=>⟨mT,O,O⟩|k::ks=>by
  obtain⟨b,a,c⟩:=zQw ks;let e:T.fewm 30 (kT k)/\T.dep (kT k)=0/\T.sz (kT k)=1:=by cases k<;>exact⟨mT,O,O⟩
  refine nAA ⟨e.1,b⟩ ?_ ?_
  ·show max (T.dep (kT k)) (T.deps (ks.map kT))=0
   rw[e.2.1,a];rfl
  ·show T.sz (kT k)+T.szs (ks.map kT)=ks...*+1
   rw[e.2.2,c];lia
structure DrI(ks:B8)(u:T):Prop where
 l:ks...*<=8
 s:∀k∈ks,okS k
 f:T.fewm 30 u
 g:T.gk u
 d:T.dep u<=2
 z:T.sz u<=30
theorem DrI.od{w:Wd}{ks:B8}{u:T}(h:DrI ks u):Od (w,ks,u):=
 {h.s,h.l,b9 ∎ _ h.f,h.g,by let:=h.l;let:=h.d;show ks...*+T.dep u<=15;lia,by let:=h.z;show T.sz u<=200;lia}
theorem Dlay.dr{H:Hp}{v:V}{d:Dd}(h:Dlay H v d)(o:Od d):∃p u,v= .ref p/\yCr H p d.1 d.2.1 u/\yCj d.2.1 u/\∀t,doT d.1 u d.2.1 t=doT d.1 d.2.2 d.2.1 t:=by
 ext yB h g a r c i s;ext oA s e l;subst c;let z:=o.l;let j:=o.dd;let b:∀k∈d.2.1,okK k:=λk b=>(o.s k b).k;rcases l with⟨f,rfl⟩|⟨f,x,rfl,q⟩
 ·obtain⟨n,w,y⟩:=zQw d.2.1
  refine uI g (.lst (d.2.1.map kT)) O {a,[],V.ref a,i,e,O,by decide,{a,_,O,e,zSa _}} {∅,b,d3 (m:=30) ∎ _ {by rw[mJ];lia,n}, ?_} (λt=>?_)
  ·show T.deps (d.2.1.map kT)+1<20
   lia
  ·rw[f];exact zEt _ _
 ·exact uI g d.2.2 O {a,[x],x,i,e,O,mC _,q} {∅,b,d3 ∎ _ o.f,∅} (λ_=>O)
section
variable{P:V3}{w:V4}{K:A6}{mg:C8}{base:V5}{f:V1}{fd:V7}
def spDe(K:A6):Sp:=λg H Q _=>∃(a:V1)(c:List Int)(k:Int)(v:V)(t:T),g= [.ref a, .int k,v]/\SqL K H a (c.map V.int)/\c...*<=63/\0<=k/\k<10000/\Rep H v t/\T.few t/\T.gk t/\∀(d:V1)(h:Wd)(e:B8)(u:T)(b:Hp),Same H b->Dlay b (.ref d) (h,e,u)->DrI e u->Q (.ref d) b
theorem ok_de{kk:Nat}(F:Fun K "_law_deed" "_law_deed" sDe f fd)(B:Bl2 mg)(y:Dn P w K mg base kk "_law_cell" ["_law_script","_law_k"] (gB K))(aa:Dn P w K mg base kk "_law_walk" ["_law_script","_law_k","_law_thing"] (spWk K))(L:Dn P w K mg base kk "_law_step_at" ["_law_there","_law_more"] yDw)(I:Dn P w K mg base kk "_law_thing_by" ["_law_script","_law_k","_law_deep"] (zBm K 3)):FnOk P w K mg base CX0 (kk+1) f fd ["_law_script","_law_k","_law_thing"] (spDe K):=by
 refine F.okn (N:=["_law_script","_law_k","_law_thing","_law_pair","_law_path","_law_there","_law_more","_law_word"]) λbd A a3 s H vs Q E nd hr h=>?_;ext yA h a ns k v t z_;ext zS z_ a2 ha af a8 be z_;ext yZ z_ hv hf a' q;subst a2;let hu:=vE hr;let bb:=hr.units0;refine{_,(zC (pS 3 nd (pD aa hr (zA (pv 0) (zA (pv 1) (zA (pv 2) zB)))))
  (zC (pS 4 nd (pX zU (pv 3) zE))
  (zC (pS 5 nd (pX zU (pv 3) zE))
  (zC (pS 6 nd (pD y hr (zA (pv 0) (zA (zI xK (pv 1) zE) zB))))
  (zC (pS 7 nd (pX zU (yM (zA zP (zA zP (zA zP (zA zP zB))))) (zI yL (pv 6) zE)))
  (zC (zJv (zT (i8 (zBb (yG (zO (zBa (T:="list") (U:="dict") ∎ ∎) O B.isinstance zK (zA (pv 5) (zA (vX (zA (vL (v:=.ty "list") O B.list wA O) (zA (vL (v:=.ty "dict") O B.dict xQ O) zB))) zB)))) (zBb (pT (zRr bb) (pv 4) (yM zB)) (zAl (pT xD (zI yL (zI yJ (pv 6) zE) zE) zE))))) (zG (pS 4 nd (zI qU (pv 4) (yM (zA (pD L hr (zA (pv 5) (zA (pD y hr (zA (pv 0) (zA (zI xK (pv 1) zE) zB))) zB))) zB))))) zL))
  (zC (zJv (zT (i8 (vZ (pT xD (pv 7) zP) (vZ (yG (pI B.isinstance zK B.str qP (pX zU (pv 4) (xW xH zE)))) (qE (pT uP (zI yL (zI yJ (pv 6) zE) zE) zE))))) (zG (pS 7 nd zP)) zL))
  (zC (zJv (zT (pT xD (zI yL (zI yJ (pv 6) zE) zE) zE) (zG (pS 4 nd (zI qU (jC kZ (pv 4) kQ (qY (xW xH zE))) (yM (zA (pX zU (yM (zA zP (zA zE (zA zP (zA zE zB))))) (zI yL (zI yJ (pv 6) zE) zE)) zB))))) zL))
  (zC (zJv (zT (pT xD (zI yL (zI yJ (pv 6) zE) zE) zE) (zG (pS 4 nd (yM zB))) zL))
  (zC (zT (pT xD (pv 7) zP) (zG (zJ (vX (zA (pv 7) (zA (pv 4) zB))))) zL)
  (zG (zJ (vX (zA (pv 7) (zA (pv 4) (zA (pD I hr (zA (pv 0) (zA (zI xK (pv 1) zE) (zA (zI yL (zI yJ (pv 6) zE) zE) zB)))) zB)))))))))))))))), ?_}
 walk_at "st";refine cut6 λR hR=>?_;lk;unfold zYu;lk;refine{a,ns,k,v,t,O,ha,af,a8,∅,hv,hf,a',λl p0 e x s H1 g1 au ai g ah hx a5 a6=>?_};refine yH (SqL.of au) (yI (j:=0) O) (yH (SqL.of au) (yI (j:=1) O) ?_);obtain⟨c,hc,bc,bg⟩:∃c:Int,qC ns (k+8)=c/\0<=c/\c<1000003:={_,O,jG _ _,jE _ _};refine{a,ns,_,O,g1.seq ha,af,∅,∅,λH2 g2 pw ay=>{c,by rw[hc], ?_}};rw[hc];refine zBx zD ∅ (by show _<((4:Nat):Int);lia) λwv ac=>?_;obtain⟨D,rfl⟩:∃D:Wd,wv=V.str D.s:=by
  simp only[mG,pO,tP] at ac;rcases ac with rfl | rfl | rfl | rfl
  ·exact{.put,O}
  ·exact{.put,O}
  ·exact{.ins,O}
  ·exact{.tak,O}
 let g3:=g2.trans (zF ay (.lst [V.str (A5 "put"),V.str (A5 "put"),V.str (A5 "insert"),V.str (A5 "take")]));generalize upd H2 pw (.lst [V.str (A5 "put"),V.str (A5 "put"),V.str (A5 "insert"),V.str (A5 "take")])=H3 at g3⊢;let ax:=g1.trans g3;refine{λσ' H'=>∃(m:V1)(b:B8)(D:Wd),σ'= [Y (V.ref a),Y (V.int k),Y v,Y (V.ref l),Y (V.ref m),Y x,Y (V.int c),Y (V.str D.s)]/\Same H H'/\H' m=Y (.lst (b.map kV))/\b...*<=8/\(∀k∈b,okS k)/\b≠ [], ?_, ?_}
 ·intro p hp
  let s4:=zF hp (.tup [V.ty "list",V.ty "dict"]);refine gD x _ p ⟨O,O⟩ zD (nA ((Rep.same (ax.trans s4) _ _ hx).ty) ?_);generalize upd H3 p (.tup [V.ty "list",V.ty "dict"])=H4 at s4⊢;let ag:=ax.trans s4;let ext:∀H5,Same H4 H5->gB K [V.ref a,V.int (k+9)] H5 (λa4 H1=>yDw [x,a4] H1 (λaz H1=>∀(p:V1),H1 p=none->yCd (V.ref p0) (V.ref p) (upd H1 p (HO.lst [az])) λa9 H1=>∃(m:V1)(b:B8)(ae:Wd),[Y (V.ref a),Y (V.int k),Y v,Y (V.ref l),Y a9,Y x,Y (V.int c),Y (V.str D.s)]= [Y (V.ref a),Y (V.int k),Y v,Y (V.ref l),Y (V.ref m),Y x,Y (V.int c),Y (V.str ae.s)]/\Same H H1/\H1 m=Y (.lst (b.map kV))/\b...*<=8/\(∀k∈b,okS k)/\b≠ []) E0) E0:=λH5 g5=>by
   let n:=ag.trans g5;let c0:=jG ns (k+9);let c1:=jE ns (k+9);refine{a,ns,_,O,n.seq ha,af,∅,∅,λH6 g6=>{x,s,_,O,Rep.same (n.trans g6) _ _ hx,a5,a6,c0,∅,λkk H7 g7 aj p7 ak=>?_}};let aw:=(g3.trans (s4.trans (g5.trans (g6.trans g7))));let s8:=zF ak (.lst [kV kk]);refine{p0,p7,_,_,O,O,s8 _ _ (aw _ _ ai),zD,by rw[mJ,mY,mV];lia,λm r=>?_};let s9:=zF r (.lst (e.map kV++ [kV kk]));refine gD m (e++ [kk]) D O (g1.trans (aw.trans (s8.trans s9))) (zTz ?_ (by rw[mL,mY];lia) (λk' an=>?_) (by simp))
   ·rw[zD];exact congrArg (λz=>Y (HO.lst z)) (zHk e kk)
   ·rcases mZ.mp an with z | z
    ·exact ah _ z
    ·rw[mH.mp z];exact aj
  by_cases hh:(zX (tyT s) "list" || zX (tyT s) "dict")=true
  ·exact iP hh (ext _ (Same.refl _))
  refine iN hh λp2 a1=>?_;let s5:=zF a1 (.lst []);refine{p0,p2,_,O,O,SqL.of ((g3.trans (s4.trans s5)) _ _ ai),SqL.of zD,_,O, ?_}
  by_cases h0:e= []
  ·exact iP (by rw[h0];rfl) (ext _ s5)
  refine iN (by cases e with | nil=>exact absurd O h0 | cons _ _=>simp) {c,O, ?_}
  by_cases h9:c / 4 % 9=1
  ·exact iP h9 (ext _ s5)
  ·exact iN h9 {p0,e,D,O,ag.trans s5,(g3.trans (s4.trans s5)) _ _ ai,∅,ah,h0}
 ·intro σ4 H4 z_
  ext yB z_ m b D am ag z_;ext yZ z_ r g J ab;subst am;subst hR;refine zJh λR hR=>?_;lk;unfold zYu;lk;refine{λσ' H'=>∃(m:V1)(b:B8)(D:Wd),σ'= [Y (V.ref a),Y (V.int k),Y v,Y (V.ref l),Y (V.ref m),Y x,Y (V.int c),Y (V.str D.s)]/\Same H H'/\H' m=Y (.lst (b.map kV))/\b...*<=8/\(∀k∈b,okS k)/\b≠ [], ?_, ?_}
  ·let M:∀(ae:Wd),∃(ao:V1)(b:B8)(ap:Wd),[Y (V.ref a),Y (V.int k),Y v,Y (V.ref l),Y (V.ref m),Y x,Y (V.int c),Y (V.str ae.s)]= [Y (V.ref a),Y (V.int k),Y v,Y (V.ref l),Y (V.ref ao),Y x,Y (V.int c),Y (V.str ap.s)]/\Same H H4/\H4 ao=Y (.lst (b.map kV))/\b...*<=8/\(∀k∈b,okS k)/\b≠ []:=λae=>⟨m,b,ae,O,ag,r,g,J,ab⟩
   by_cases hi:D.s=A5 "insert"
   ·refine iP hi ?_
    obtain⟨e,kl,rfl⟩:∃e kl,b=e++ [kl]:={b.dropLast,b.getLast ab,(aQ ab).symm};refine yH (SqL.of r) (v:=kV kl) (by rw[mU];exact xV _ _) ?_
    cases kl with
    |inl i=>exact{"int",O,iN ∎ (M D)}|inr z=>
     refine nEA ("str") O (iP ∎ ?_)
     by_cases h5:0<c / 36 % 5
     ·exact iP h5 (M .put)
     ·exact iN h5 (M D)
   ·exact iN hi (M D)
  ·intro σ5 H5 z_
   ext yB z_ m b D am n z_;ext yZ z_ r g J ab;subst am;subst hR;refine zJh λR hR=>?_;lk;unfold zYu;lk;refine{λσ' H'=>∃(m:V1)(b:B8),σ'= [Y (V.ref a),Y (V.int k),Y v,Y (V.ref l),Y (V.ref m),Y x,Y (V.int c),Y (V.str D.s)]/\Same H H'/\H' m=Y (.lst (b.map kV))/\b...*<=8/\(∀k∈b,okS k), ?_, ?_}
   ·by_cases aq:c / 180 % 17=1
    ·refine iP aq {m,_,O,SqL.of r,λpc a0=>?_}
     obtain⟨e,kl,rfl⟩:∃e kl,b=e++ [kl]:={b.dropLast,b.getLast ab,(aQ ab).symm};let ek:List.take (((e++ [kl]).map kV)...* - 1) ((e++ [kl]).map kV)=e.map kV:=by
      rw[mU,mL,mJ];exact aK (by simp)
     rw[zNo,ek];let s6:=zF a0 (.lst (e.map kV));let e6:=zD (H:=H5) (a:=pc) (o:=.lst (e.map kV));generalize upd H5 pc (.lst (e.map kV))=H6 at s6 e6⊢;intro p7 ak;let s7:=zF ak (.lst [V.str (A5 "a"),V.int 59,V.str (A5 "zz9"),V.int 0]);refine zBx zD ∅ (by show _<((4:Nat):Int);lia) λwv ac p8 ar=>?_;obtain⟨kk,rfl,aj⟩:∃kk,wv=kV kk/\okS kk:=by
      simp only[mG,pO,tP] at ac;rcases ac with rfl | rfl | rfl | rfl
      ·exact nEA (.inr _) O (by show xA (ts (A5 "a"))=true;decide+kernel)
      ·exact nEA (.inl 59) O (by show(0:Int)<=59/\(59:Int)<=59;decide)
      ·exact nEA (.inr _) O (by show xA (ts (A5 "zz9"))=true;decide+kernel)
      ·exact nEA (.inl 0) O (by show(0:Int)<=0/\(0:Int)<=59;decide)
     generalize upd H6 p7 (.lst [V.str (A5 "a"),V.int 59,V.str (A5 "zz9"),V.int 0])=H7 at s7 ar⊢;let s8:=zF ar (.lst [kV kk]);rw[mL,mY] at g;refine{pc,p8,_,_,O,O,s8 _ _ (s7 _ _ e6),zD,by rw[mJ,mY,mV];lia,λpe ba=>?_};let s9:=zF ba (.lst (e.map kV++ [kV kk]));refine uI pe (e++ [kk]) O (n.trans (s6.trans (s7.trans (s8.trans s9)))) ?_ (nA (by rw[mL,mY];lia) (λk' an=>?_))
     ·rw[zD];exact congrArg (λz=>Y (HO.lst z)) (zHk e kk)
     ·rcases mZ.mp an with z | z
      ·exact J _ (pG _ z)
      ·rw[mH.mp z];exact aj
    ·exact iN aq ⟨m,b,O,n,r,g,J⟩
   ·clear r g J ab n H5 b m
    intro σ5 H5 z_;ext zV z_ m b al n r z_;ext oA z_ g J;subst al;subst hR;refine zJh λR hR=>?_;lk;unfold zYu;lk;refine{λσ' H'=>∃(m:V1)(b:B8),σ'= [Y (V.ref a),Y (V.int k),Y v,Y (V.ref l),Y (V.ref m),Y x,Y (V.int c),Y (V.str D.s)]/\Same H H'/\H' m=Y (.lst (b.map kV))/\b...*<=8/\(∀k∈b,okS k), ?_, ?_}
    ·by_cases av:c / 180 % 29=2
     ·exact iP av λp hp=>{p,[],O,n.trans (zF hp _),zD,by decide,λ_ h=>nomatch h}
     ·exact iN av ⟨m,b,O,n,r,g,J⟩
    ·clear r g J n H5 b m
     intro σ5 H5 z_;ext zV z_ m b al n r z_;ext oA z_ g J;subst al;subst hR;lk
     by_cases ht:D.s=A5 "take"
     ·refine iP ht λd hd=>?_
      let s6:=zF hd (.tup [V.str D.s,V.ref m]);let hw:D= .tak:=by
       cases D with|tak=>rfl|put=>exact absurd ht ∎|ins=>exact absurd ht ∎
      exact q d D b .non _ (n.trans s6) {d,m,[],O,zD,s6 _ _ r, .inl ⟨hw,O⟩} {∅,J,mT,mT,nJ _,by decide}
     ·obtain⟨dd,a7,bf⟩:∃dd:Nat,c / 7 % 3=(dd:Int)/\dd<=2:={(c / 7 % 3).toNat,∅,∅}
      rw[a7];let p5:(5:Int)^ dd<=25:=by
       rcases(show dd=0\/dd=1\/dd=2 by lia) with z | z | z<;>subst z<;>decide
      let p0:=yFi dd;refine iN ht {dd,∅,a,ns,_,O,n.seq ha,af,∅, ?_,λx H6 u g6 hx hn d hd=>?_}
      ·let:=Int.mul_le_mul (show k+10+2<=10020 by lia) p5 ∅ ∎
       lia
      ·let s6:=g6.trans (zF hd (.tup [V.str D.s,V.ref m,x]))
       let z1:=Nice.sz u hn;let z2:=Nice.dep u hn;let p25:5 ^ dd<=25:=by
        rcases(show dd=0\/dd=1\/dd=2 by lia) with z | z | z<;>subst z<;>decide
       exact q d D b u _ (n.trans s6) {d,m,[x],O,zD,s6 _ _ r, .inr {λz=>ht (by let z':D= .tak:=z;rw[z'];rfl),x,O,Rep.same (zF hd _) _ _ hx}} {∅,J,Nice.fewm u hn,(gR dd u ∅ hn).gk,∅,∅}
end
abbrev sBa:V6:=top 70
theorem yAt{b:Int}(c: -(10 ^ 12)<=b)(a:b<=10 ^ 12):b.natAbs.log2<1920:=by
 by_cases h:b.natAbs=0
 ·rw[h];decide
 ·refine(Nat.log2_lt h).mpr (cX (show b.natAbs<=10 ^ 12 by lia) (nR (show 10 ^ 12<2 ^ 40 by decide) (Nat.pow_le_pow_right ∎ ∎)))
structure BaseI(t:T):Prop where
 f:T.fewm 30 t
 c:T.gk t
 d:T.dep t<=8
 z:T.sz t<=200
 n:lnar t=true
mutual
theorem Nice.lnar{d:Nat}:∀(t:T),Nice d t->lnar t=true
 |.lst a,h=>by
  show(decide (a...*<=60)&& yX a)=true;rw[nF (by let:=h.2.1;lia),NiceL.lnar a h.2.2];rfl
 |.dic ks a,h=>by
  show(decide (ks...*<=30)&& yX a)=true;rw[nF (by let:=h.2.1;let:=h.2.2.1;lia),NiceL.lnar a h.2.2.2.2.2];rfl
 |.tup _,h=>h.elim|.non,_=>rfl|.bl _,_=>rfl|.int _,_=>rfl|.str _,_=>rfl
theorem NiceL.lnar{d:Nat}:∀(us:B0),NiceL d us->yX us=true
 |[],_=>rfl|t::us,h=>by
  show(K48.lnar t && yX us)=true;rw[Nice.lnar t h.1,NiceL.lnar us h.2];rfl
end
theorem zTe{d:Nat}{t:T}(a:d<=3)(h:Nice d t):BaseI t:=by
 let f:=gR d t ∅ h;let z:=Nice.sz t h;let e:=Nice.dep t h;let p:5 ^ d<=125:=by
  rcases(show d=0\/d=1\/d=2\/d=3 by lia) with z | z | z | z<;>subst z<;>decide
 exact{Nice.fewm t h,f.gk,∅,∅,Nice.lnar t h}
theorem nam61:∀m:Fin 61,xA (ts (A5 "n" ++A5 (toString ((m.val:Nat):Int))))=true:=by decide+kernel
theorem nam60{j:Int}(a:0<=j)(b:j<=60):xA (ts (A5 "n" ++A5 (toString j)))=true:=by
 let:=nam61 {j.toNat,∅}
 rwa [show((j.toNat:Nat):Int)=j by lia] at this
theorem len61:∀m:Fin 61,(A5 (toString ((m.val:Nat):Int)))...*<=10:=by decide+kernel
theorem len60{j:Int}(a:0<=j)(b:j<=60):(A5 (toString j))...*<=10:=by
 let:=len61 {j.toNat,∅}
 rwa [show((j.toNat:Nat):Int)=j by lia] at this
theorem k8{α:Type}{H:Hp}{f:α->V}{g:α->T}(h:∀x,Rep H (f x) (g x)):∀l:List α,Reps H (l.map f) (l.map g)
 |[]=>rfl|x::l=>{_,_,O,h x,k8 h l}
theorem zLh{us:B0}(h:∀u∈us,∃j:Int,u= .int j/\0<=j/\j<=60):d7 30 us/\j5 us/\T.deps us<=0/\T.szs us<=us...*/\yX us=true:=by
 refine yDe (d5 λt a=>?_) (i5 λt a=>?_) (d9 λt a=>?_) ?_ ?_
 ·obtain⟨j,rfl,_⟩:=h t a
  exact mT
 ·refine xE (h t a) λj d f e=>?_
  subst d;show _/\_
  lia
 ·obtain⟨j,rfl,_⟩:=h t a
  exact mC _
 ·skip
  induction us with
  |nil=>exact mC _|cons u us c=>
   obtain⟨j,rfl,_⟩:=h u mE;let:=c λv b=>h v (mI _ b);show 1+T.szs us<=us...*+1
   lia
 ·skip
  induction us with
  |nil=>rfl|cons u us c=>
   obtain⟨j,rfl,_⟩:=h u mE;exact c λv b=>h v (mI _ b)
section
variable{P:V3}{w:V4}{K:A6}{mg:C8}{base:V5}{f:V1}{fd:V7}
def spBa(K:A6):Sp:=λd H Q _=>∃(a:V1)(c:List Int)(k:Int),d= [.ref a, .int k]/\SqL K H a (c.map V.int)/\c...*<=63/\0<=k/\k<7000/\∀(v:V)(t:T)(b:Hp),Same H b->Rep b v t->BaseI t->Q v b
theorem ok_ba{kk:Nat}(F:Fun K "_law_base" "_law_base" sBa f fd)(B:Bl2 mg)(r:Dn P w K mg base kk "_law_cell" ["_law_script","_law_k"] (gB K))(d:Dn P w K mg base kk "_law_thing_by" ["_law_script","_law_k","_law_deep"] (zBm K 3)):FnOk P w K mg base CX0 (kk+1) f fd ["_law_script","_law_k"] (spBa K):=by
 refine F.okn (N:=["_law_script","_law_k","_law_more","_law_deep","_law_j","_law_names","_law_row"]) λa' A a1 s H vs Q E nd hr h=>?_;ext yB h a ns k M ha m;ext yZ m aa be bb q;subst M;let hu:=vE hr;let bj:=hr.units0;refine{_,(zC (pS 2 nd (pD r hr (zA (pv 0) (zA (pv 1) zB))))
  (zC (zT (pT kS (zI yL (pv 2) zE) zE) (zG (zJ (pD d hr (zA (pv 0) (zA (zI xK (pv 1) zE) (zA zE zB)))))) zL)
  (zC (zT (pT xD (zI yL (pv 2) zE) zE) (zG (zJ (vI (own:=["_law_j"]) (F:=[("_law_script",0),("_law_k",1)]) {O,tb_g%,tb_g%,tb_g%,(.cons O O O (.cons O O O .nil))} O (wE O B.range (zA (zI yL (zI yJ (pv 2) zE) zE) zB)) (λ_ _ _ _=>yF (i:=0) (by show(wM ["_law_j"] [("_law_script",0),("_law_k",1)]).Nodup;decide+kernel) O (nZ O)) (λ_ _ _ _=>xT) (λ_ _ _ _=>(pD d hr (zA (pv 1) (zA (zI xK (zI xK (pv 2) zE) (pv 0)) (zA (zI yL (pv 0) zE) zB)))))))) zL)
  (zC (pS 3 nd (zI yL (zI yJ (pv 2) zE) zE))
  (zC (wW PassesOwn.never O (wE O B.range (zA zE zB)) (yF (i:=4) nd O (nZ O)) (zG (pS 3 nd (yM (zA (pv 3) zB)))))
  (zC (pS 5 nd zMr)
  (zC (wW PassesOwn.never O (wE O B.range (zA (zI xY zE (zI yL (zI yJ (pv 2) zE) zE)) zB)) (yF (i:=4) nd O (nZ O)) (zG (zEu hu (pv 5) (zI qQ zP (yW zJr O B.str qP (zA (pv 4) zB))) (pv 4) O)))
  (zC (uE (i:=6) nd O (nZ O) (own:=["_law_j"]) (F:=[]) {O,tb_g%,tb_g%,tb_g%, .nil} O (wE O B.range (zA (zI xY zE (zI yL (zI yJ (pv 2) zE) zE)) zB)) (λ_ _ _ _=>yF (i:=0) (by show(wM ["_law_j"] []).Nodup;decide+kernel) O (nZ O)) (λ_ _ _ _=>xT) (λ_ _ _ _=>(pv 0)))
  (zG (zJ (yBe (zCg zP (pv 6) (zCg zP (pv 3) (zCg zP (pv 5) (zCg zP (zEw (pD d hr (zA (pv 0) (zA (zI xK (pv 1) zE) (zA zE zB))))) zZq)))) (by rfl) (by rfl) (sQ _ _) ∎))))))))))), ?_}
 walk_at "st";lk;obtain⟨c,hc,a9,bi⟩:∃c:Int,qC ns k=c/\0<=c/\c<1000003:={_,O,jG _ _,jE _ _};refine{a,ns,_,O,ha,aa,∅,∅,λH1 g1=>?_};rw[hc];refine nEA c O ?_;let p3:(k+1+2)*5 ^ 3<=1000000:=by
  rw[show(5:Int)^ 3=125 from O];lia
 by_cases h2:c % 5<2
 ·exact iP h2 {3,mC _,a,ns,_,O,g1.seq ha,aa,∅,p3,λv H2 t g2 hv J=>q v t _ (g1.trans g2) hv (zTe (mC _) J)}
 refine iN h2 {c,O, ?_}
 by_cases h3:c % 5=2
 ·refine iP h3 {c,O,∅,∅, ?_}
  let a8:(c / 5 % 31).toNat<=30:=by lia
  refine uX (λi I L=>Same H L/\∃l,Reps L I l/\l...*=i/\∀t∈l,Nice 1 t) (by rw[mV];lia) {g1,[],O,O,λ_ h=>nomatch h} ?_ ?_
  ·rintro i I H2 hi _ ⟨g2,l,hR,hl,hN⟩
   lk;obtain⟨dd,a6,bg⟩:∃dd:Nat,(0+(i:Int))% 2=(dd:Int)/\dd<=1:={((0+(i:Int))% 2).toNat,∅,∅};rw[a6];refine{dd,∅,a,ns,_,O,g2.seq ha,aa,∅, ?_,λv H3 t g3 hv J=>{g2.trans g3,l++ [t],Reps.snoc hv (Reps.same g3 _ _ hR),by rw[mL,mY,hl],λu hu=>?_}}
   ·let p5:(5:Int)^ dd<=5:=by
     rcases(show dd=0\/dd=1 by lia) with z | z<;>subst z<;>decide
    let:=Int.mul_le_mul (show k+1+(0+(i:Int))+2<=8000 by lia) p5 (by let:=yFi dd;lia) ∎
    lia
   ·rcases mZ.mp hu with z | z
    ·exact hN u z
    ·rw[mH.mp z]
     rcases(show dd=0\/dd=1 by lia) with z | z
     ·subst z
      cases t with|lst _=>exact absurd J.1 ∎|dic _ _=>exact absurd J.1 ∎|tup _=>exact J.elim|_=>exact J
     ·subst z;exact J
  ·rintro I H2 _ ⟨g2,l,hR,hl,hN⟩ p hp
   let s3:=zF hp (.lst I);let ba:T.deps l<=1:=d9 λt ht=>Nice.dep t (hN t ht);let bd:=NiceL.sz l (NiceL_iff.mpr hN);refine q _ (.lst l) _ (g2.trans s3) {p,I,O,zD,Reps.same s3 _ _ hR} {{∅,d5 λt ht=>Nice.fewm t (hN t ht)},i5 λt ht=>(gR 1 t ∎ (hN t ht)).gk, ?_, ?_, ?_}
   ·show T.deps l+1<=8
    lia
   ·show T.szs l+1<=200
    let:l...**5 ^ 1<=30*5:=Nat.mul_le_mul ∅ ∎
    lia
   ·show(decide (l...*<=60)&& yX l)=true
    rw[nF ∅,NiceL.lnar l (NiceL_iff.mpr hN)];rfl
 refine iN h3 {c,O, ?_};refine qL (λi σ L=>∃(y:V)(t:T)(o:Option V),σ= [Y (V.ref a),Y (V.int k),Y (V.int c),Y y,o,none,none]/\Same H L/\Rep L y t/\T.fewm 30 t/\T.gk t/\T.dep t<=i/\T.sz t<=i+1/\lnar t=true) {_, .int _,_,O,g1,O,mT,by show _/\_;lia,nJ _,mC _,O} ?_ ?_
 ·intro i σ H2 hi m
  ext yB m y t o M g2 m;ext zS m hy hf ag hd hz aj;subst M;lk;intro p hp;let s3:=zF hp (.lst [y]);refine yEh _ ⟨O,_,O⟩ (g2.trans s3) (.lst [t]) {p,_,O,zD,{y,[],O,Rep.same s3 _ _ hy,O}} (yDe {by simp,hf,mT} ⟨ag,mT⟩ ?_ ?_ ?_)
  ·show max (T.dep t) 0+1<=i+1
   lia
  ·show T.sz t+0+1<=i+1+1
   lia
  ·show(decide (1<=60)&& (lnar t && true))=true
   rw[aj];rfl
 ·intro σ H2 m
  ext yB m yd td o M g2 m;ext zS m hy hf ag hd hz aj;subst M;lk;intro D ao;let s3:=zF ao (.dK []);let e3:=zD (H:=H2) (a:=D) (o:=.dK []);let a5:=Rep.same s3 _ _ hy;let g3:=g2.trans s3;let ay:Rep (wB (upd H2 D (.dK [])) D) yd td:=by
   rw[kG];exact Rep.same (λb o e=>by rw[xZ λz=>by subst z;rw[ao] at e;cases e];exact e) _ _ hy
  generalize upd H2 D (.dK [])=H3 at s3 e3 a5 g3 ay⊢;let a3:H D=none:=zQ g2 ao;refine nAA ∅ ∅ ?_;let a8:(30 - c / 36 % 3).toNat<=30:=by lia
  refine qL (λi σ L=>∃(o:Option V)(ps:D7)(ks:C6)(l:B0),σ= [Y (V.ref a),Y (V.int k),Y (V.int c),Y yd,o,Y (V.ref D),none]/\Same H L/\Rep (wB L D) yd td/\L D=Y (.dK ps)/\ps.map (·.1)=ks.map nK/\Reps H (ps.map (·.2)) l/\ks.Nodup/\ks...*=l...*/\(∀k∈ks,xA k=true)/\l...*<=i/\∀u∈l,∃j:Int,u= .int j/\0<=j/\j<=60) {_,[],[],[],O,g3,ay,e3,O,O,bQ,O,zUv,mC _,λ_ h=>nomatch h} ?_ ?_
  ·intro i σ H5 hi m
   ext yN m o5 ps ks l an m;ext zS m g5 ac am ae hs m;ext wY m ak af ab a2 ai;subst an;unfold zRz;lk;let bf:ps...*=l...*:=by let:=hs...*;rwa [mJ] at this
   obtain⟨j,hj,al,ah⟩:∃j:Int,0+(i:Int)=j/\0<=j/\j<=60:={_,O,∅,∅};rw[hj];refine{yAt ∅ ∅, ?_};let l1:=len60 al ah;let l0:(A5 "n")...*=1:=by decide+kernel
   let ax:=nam60 al ah;generalize A5 "n" ++A5 (toString j)=z at ax⊢;let ex:(Sum.inr z:Key)=nK (ts z):=by show(Sum.inr z:Key)=Sum.inr (tx (ts z));rw[jH]
   refine zKp ∅ _ (DPut.k (k:=Sum.inr z) am (by rw[mV];lia)) (wS g5 a3) (by rw[kG];exact ac) (nEA _ zD ?_);rw[ex];obtain⟨p1,p2⟩:=zFx (H:=H) (p:=(ks,l)) (n:=ts z) (v:=.int j) (t:=.int j) ae hs O;obtain⟨q1,q2⟩:=jF (ks:=ks) (us:=l) (n:=ts z) (t:=.int j) af;exact zAk _ p1 _ p2 (vY ak) (zTz q1 (λk hk=>(putT_in.mp hk).elim (ab k) λe=>by rw[e];exact ax) ∅ (λu hu=>(zCa hu).elim (ai u) λe=>⟨j,e,al,ah⟩))
  ·intro σ H5 m
   ext yN m o5 ps ks l an m;ext zS m g5 ac am ae hs m;ext wY m ak af ab a2 ai;subst an;lk;refine nAA ∅ ∅ ?_;let ar:(60 - c / 108 % 3).toNat<=60:=by lia
   refine uX (λi I L=>L=H5/\I=(List.range i).map λj=>V.int (j:Nat)) (by rw[mV];lia) ⟨O,O⟩ ?_ ?_
   ·rintro i I H6 hi _ ⟨rfl,rfl⟩
    lk;rw[rG,mU];simp
   ·rintro I H6 _ ⟨rfl,az⟩ pw a0
    generalize (60 - c / 108 % 3).toNat=n6 at ar az;let s7:=zF a0 (.lst I);let e7:=zD (H:=H6) (a:=pw) (o:=.lst I);let g7:=g5.trans s7;let av:=s7 _ _ am;let ap:Rep (upd H6 pw (.lst I)) yd td:=Rep.same (λb o e=>s7 _ _ (wV _ _ e)) _ _ ac;generalize upd H6 pw (.lst I)=H7 at s7 e7 g7 av ap⊢;intro p hp;let s8:=zF hp (.dK []);let e8:=zD (H:=H7) (a:=p) (o:=.dK []);unfold zJi zQk;refine{p, .inl {[],e8,λo=>?_}};let gf:Same H7 (upd (upd H7 p (.dK [])) p (.frz o (.dK []))):=wS s8 hp;lk;refine{2,by decide,a,ns,_,O,(g7.trans gf).seq ha,aa,∅,by rw[show(5:Int)^ 2=25 from O];lia,λv Hc t gc hv J=>?_};let gt:=gU e8 gc;let e9:=zSr e8 (by intro o v z;cases z) gc;let aq:Rep (wB (L2.thaw (upd H7 p (.dK [])) Hc) p) v t:=Rep.off (gc _ _ zD) hv;dsimp only;generalize L2.thaw (upd H7 p (.dK [])) Hc=H9 at gt e9 aq⊢;refine nAEAA e9 ([(Sum.inr (A5 "r"),V.ref pw),(Sum.inr (A5 "d"),yd),(Sum.inr (A5 "n"),V.ref D),(Sum.inr (A5 "z"),v)]) O (by simp) ?_;rw[jT _ [] (by show([Sum.inr (A5 "r"),Sum.inr (A5 "d"),Sum.inr (A5 "n"),Sum.inr (A5 "z")]:B8).Nodup;decide+kernel),aJ];let gF:Same H7 (upd H9 p (.dK [(Sum.inr (A5 "r"),V.ref pw),(Sum.inr (A5 "d"),yd),(Sum.inr (A5 "n"),V.ref D),(Sum.inr (A5 "z"),v)])):=wS (s8.trans gt) hp;let aw:Rep (upd H9 p (.dK [(Sum.inr (A5 "r"),V.ref pw),(Sum.inr (A5 "d"),yd),(Sum.inr (A5 "n"),V.ref D),(Sum.inr (A5 "z"),v)])) v t:=Rep.same zBo _ _ aq;let au:=zD (H:=H9) (a:=p) (o:=.dK [(Sum.inr (A5 "r"),V.ref pw),(Sum.inr (A5 "d"),yd),(Sum.inr (A5 "n"),V.ref D),(Sum.inr (A5 "z"),v)]);generalize upd H9 p (.dK [(Sum.inr (A5 "r"),V.ref pw),(Sum.inr (A5 "d"),yd),(Sum.inr (A5 "n"),V.ref D),(Sum.inr (A5 "z"),v)])=HF at gF aw au⊢;let a7:∀u∈(List.range n6).map (λj=>T.int ((j:Nat):Int)),∃j:Int,u= .int j/\0<=j/\j<=60:=λu hu=>by
     refine oEA (nS.mp hu) λj hj a4=>?_;subst a4;let:=sI.mp hj;exact zTb _ O ∅ ∅
    refine wY (zLh a7) λr1 r2 r3 r4 r5=>?_;refine wY (zLh ai) λn1 n2 n3 n4 n5=>?_;rw[mJ,tW] at r4;let tz:=Nice.sz t J;let bc:=Nice.dep t J;let bh:T.sz t<=25:=tz;refine q _ (.dic [ts (A5 "r"),ts (A5 "d"),ts (A5 "n"),ts (A5 "z")] [.lst ((List.range n6).map λj=>T.int ((j:Nat):Int)),td, .dic ks l,t]) HF (g7.trans gF) {p,_,O,au, ?_, ?_} ?_
    ·simp only[nO,tG,jH]
    ·refine{_,_,O,{pw,I,O,gF _ _ e7, ?_},_,_,O,Rep.same gF _ _ ap,_,_,O,{D,ps,O,gF _ _ av,ae,Reps.same (g7.trans gF) _ _ hs},_,_,O,aw,O}
     rw[az];exact k8 (f:=λj:Nat=>V.int (j:Int)) (g:=λj:Nat=>T.int (j:Int)) (λx=>show V.int _=V.int _ from O) _
    ·refine{{by decide+kernel,by decide,O,{by rw[mJ,tW];lia,r1},hf,{ak,∅,af,n1},Nice.fewm t J,mT},{by decide+kernel,r2,ag,⟨ab,n2⟩,(gR 2 t ∎ J).gk,mT}, ?_, ?_, ?_}
     ·show max (T.deps _+1) (max (T.dep td) (max (T.deps l+1) (max (T.dep t) 0)))+1<=8
      lia
     ·show(T.szs _+1)+(T.sz td+((T.szs l+1)+(T.sz t+0)))+1<=200
      lia
     ·show(decide (4<=30)&& ((decide (((List.range n6).map λj=>T.int ((j:Nat):Int))...*<=60)&& yX ((List.range n6).map λj=>T.int ((j:Nat):Int)))&& (lnar td && ((decide (ks...*<=30)&& yX l)&& (lnar t && true)))))=true
      rw[r5,n5,aj,Nice.lnar t J,nF (show ks...*<=30 by lia),mJ,tW,nF ar];rfl
abbrev sDs:V6:=top 74
theorem Dlay.off{H i:Hp}{p:V1}{o:Obj}{w:HO}{v:V}{d:Dd}(j:i p=Y (.frz o w))(h:Dlay i v d):Dlay (wB (L2.thaw H i) p) v d:=by
 ext yB h l m r e k n;ext oA n g q;subst e;refine{l,m,r,O, ?_, ?_,q.imp id fun⟨a,x,b,c⟩=>{a,x,b,Rep.off j c}}
 ·rw[xZ λz=>by rw[z,j] at k;cases k]
  exact wP k λ_ _ z=>by cases z
 ·rw[xZ λz=>by rw[z,j] at g;cases g]
  exact wP g λ_ _ z=>by cases z
theorem zTu{H a:Hp}{q:V1}:L2.thaw H (wB a q)=wB (L2.thaw H a) q:=by
 funext b
 by_cases z:b=q
 ·subst z;rw[kX,zIx kX]
 ·rw[xZ z]
  unfold L2.thaw;rw[xZ z]
theorem zDx{H:Hp}{p q:V1}:wB (wB H p) q=wB (wB H q) p:=by
 funext b
 unfold wB
 by_cases z:b=q<;>by_cases y:b=p<;>simp[z,y]
theorem m6{H a:Hp}{p q:V1}{o:Obj}{w:HO}{v:V}{d:Dd}(b:a p=Y (.frz o w))(c:p≠q)(h:Dlay (wB a q) v d):Dlay (wB (wB (L2.thaw H a) p) q) v d:=by
 let z:=Dlay.off (H:=H) (show wB a q p=Y (.frz o w) by rw[xZ c];exact b) h;rw[zTu,zDx] at z;exact z
theorem Dlays.snoc{H:Hp}{xs:B3}{ds:C4}{v:V}{d:Dd}(h:Dlays H xs ds)(l:Dlay H v d):Dlays H (xs++ [v]) (ds++ [d]):=by
 obtain⟨j,h⟩:=h;refine{by rw[mL,mL,j];rfl,λi k m b a=>?_}
 by_cases c:i<xs...*
 ·rw[nY c] at b
  rw[nY ∅] at a;exact h i k m b a
 ·rw[nW ∅] at b
  rw[nW ∅,<-j] at a;let g:=(mS.mp b).1;rw[mY] at g;let e:i - xs...*=0:=by lia
  rw[e] at b a;cases b;cases a;exact l
theorem zDm{d:Dd}:∀(ds:C4)(i:Nat)(t u:T),wH i ds t= .inr u->wH i (ds++ [d]) t=match doT d.1 d.2.2 d.2.1 u with
  |none=>.inl (i+ds...*)|some r=>.inr r
 |[],i,t,u,h=>by
  let e:t=u:=Sum.inr.inj h;subst e;show(match doT d.1 d.2.2 d.2.1 t with | none=>Sum.inl i | some r=>wH (i+1) [] r)=_
  cases doT d.1 d.2.2 d.2.1 t<;>rfl
 |d0::ds,i,t,u,h=>by
  rw[aX]
  cases e:doT d0.1 d0.2.2 d0.2.1 t with
  |none=>rw[qZ e] at h;cases h|some r=>
   rw[qK e] at h⊢;rw[zDm ds (i+1) r u h,mX,show i+1+ds...*=i+(ds...*+1) by lia]
theorem zIh{d:Dd}{j:Nat}:∀(ds:C4)(i:Nat)(t:T),wH i ds t= .inl j->wH i (ds++ [d]) t= .inl j
 |[],i,t,h=>by cases h|d0::ds,i,t,h=>by
  rw[aX]
  cases e:doT d0.1 d0.2.2 d0.2.1 t with
  |none=>rw[qZ e] at h⊢;exact h|some r=>
   rw[qK e] at h⊢;exact zIh ds (i+1) r h
def TrR(ds:C4)(t:T)(o:V)(u:T):Prop:=(o= .non/\wH 0 ds t= .inr u)\/∃j:Nat,o= .int j/\wH 0 ds t= .inl j
theorem o7{ds:C4}{t u r:T}{d:Dd}(h:wH 0 ds t= .inr u)(a:doT d.1 d.2.2 d.2.1 u=Y r):TrR (ds++ [d]) t .non r:=.inl {O,by rw[zDm ds 0 t u h,a]}
theorem o8{ds:C4}{t u a:T}{d:Dd}(h:wH 0 ds t= .inr u)(b:doT d.1 d.2.2 d.2.1 u=none):TrR (ds++ [d]) t (.int (ds...*:Nat)) a:=.inr {ds...*,O,by rw[zDm ds 0 t u h,b,Nat.zero_add]}
theorem o6{ds:C4}{t a:T}{d:Dd}{j:Nat}(h:wH 0 ds t= .inl j):TrR (ds++ [d]) t (.int j) a:=.inr {j,O,zIh ds 0 t h}
def spDs(K:A6):Sp:=λm H Q _=>∃(a:V1)(g:List Int)(k:Int)(v:V)(n:Int)(t:T),m= [.ref a, .int k,v, .int n]/\SqL K H a (g.map V.int)/\g...*<=63/\0<=k/\k<9000/\0<=n/\n<=12/\Rep H v t/\T.fewm 30 t/\T.gk t/\T.dep t<=9/\T.sz t<=300/\∀(l i j:V1)(o:V)(h p:B3)(x:V)(e:C4)(c:T)(b:Hp),Same H b->b l=Y (.lst [.ref i, .ref j,o])->b i=Y (.lst h)->Dlays b h e->(∀d∈e,Od d/\T.dep d.2.2<=2)->(e...*:Int)<=n->b j=Y (.lst (p++ [x]))->Rep b x c->TrR e t o c->T.fewm 42 c->T.gk c->T.dep c<=10->T.sz c<=700->Q (.ref l) b
theorem ok_ds{kk:Nat}(F:Fun K "_law_deeds" "_law_deeds" sDs f fd)(B:Bl2 mg)(M:Dn P w K mg base kk "_law_held" ["_law_thing"] (zMq 20))(J:Dn P w K mg base kk "_law_deed" ["_law_script","_law_k","_law_thing"] (spDe K))(I:Dn P w K mg base kk "_law_deed_on" ["_law_thing","_law_deed_here"] spDo):FnOk P w K mg base CX0 (kk+1) f fd ["_law_script","_law_k","_law_thing","_law_many"] (spDs K):=by
 refine F.okn (N:=["_law_script","_law_k","_law_thing","_law_many","_law_paper","_law_rows","_law_stopped","_law_j","_law_pair"]) λbo A be s H vs Q E nd hr h=>?_;ext yA h a ns k v n z_;ext wQ z_ t bb ha bc bt z_;ext zS z_ bs bq bu hv hf z_;ext yZ z_ bi hd hz q;subst bb;let hu:=vE hr;let bv:=hr.units0;refine{_,(zC (pS 4 nd (yM zB))
  (zC (pS 5 nd (yM (zA (pD M hr (zA (pv 2) zB)) zB)))
  (zC (pS 6 nd zAc)
  (zC (wW PassesOwn.never O (wE O B.range (zA (pv 3) zB)) (yF (i:=7) nd O (nZ O)) (zC (xS (qA pA pM rE vK (pv 4) (zA (zEw (zEw (pD J hr (zA (pv 0) (zA (zI xK (pv 1) (zI jM zE (pv 7))) (zA (pX zU (pv 5) (xW xH zE)) zB)))))) zB)))
  (zG (zT (zAm (zKh (pv 6))) (zC (pS 8 nd (pD I hr (zA (pX zU (pv 5) (xW xH zE)) (zA (pX zU (pv 4) (xW xH zE)) zB))))
  (zG (zT (yG (pX zU (pv 8) zE)) (zG (xS (qA pA pM rE vK (pv 5) (zA (pX zU (pv 8) zE) zB)))) (zG (pS 6 nd (pv 7)))))) zL))))
  (zG (zJ (yM (zA (pv 4) (zA (pv 5) (zA (pv 6) zB)))))))))), ?_}
 walk_at "st";lk;intro c aw;let s1:=zF aw (.lst []);let e1:=zD (H:=H) (a:=c) (o:=.lst []);generalize upd H c (.lst [])=H1 at s1 e1⊢;refine{v,t,O,Rep.same s1 _ _ hv,d3 ∎ _ hf,∅,λx H2 D g2 sp hD g ai=>?_};let s3:=zF ai (.lst [x]);let e3:=zD (H:=H2) (a:=g) (o:=.lst [x]);let a4:Rep (wB (wB (upd H2 g (.lst [x])) c) g) x t:=by
  refine Sp1.rep _ _ _ (Sp1.keep _ _ _ (λb hb o _ e=>?_) (sp.same s3));rw[xZ,xZ]
  ·exact e
  ·intro z;subst z;rw[hD b hb] at e1;cases e1
  ·intro z;subst z
   obtain⟨o',a1⟩:=Sp1.there _ _ _ sp hb;rw[ai] at a1;cases a1
 let aq:g≠c:=λz=>by subst z;rw[g2 _ _ e1] at ai;cases ai
 let a8:=s1.trans (g2.trans s3);let ar:=s3 _ _ (g2 _ _ e1);let au:=zQ (s1.trans g2) ai;generalize upd H2 g (.lst [x])=H3 at s3 e3 a4 a8 ar⊢;refine nAA ∅ ∅ ?_;let bl:n.toNat<=12:=by lia
 refine qL (λi σ H'=>∃(p rs:B3)(x:V)(t':T)(st:V)(o1 o2:Option V)(ds:C4),σ= [Y (V.ref a),Y (V.int k),Y v,Y (V.int n),Y (V.ref c),Y (V.ref g),Y st,o1,o2]/\TrR ds t st t'/\Same H H'/\H' c=Y (.lst p)/\H' g=Y (.lst (rs++ [x]))/\Rep (wB (wB H' c) g) x t'/\Dlays (wB (wB H' c) g) p ds/\(∀d∈ds,Od d/\T.dep d.2.2<=2)/\ds...*=i/\T.fewm (30+i) t'/\T.gk t'/\T.dep t'<=10/\T.sz t'<=300+30*i/\rs...*<=i) {[],[],x,t, .non,_,_,[],O, .inl ⟨O,O⟩,a8,ar,e3,a4,{O,λi v d h=>by cases h},(λd h=>nomatch h),O,hf,bi,∅,∅,mC _} ?_ ?_
 ·rintro i σ H5 hi ⟨p,rs,y,u,st,o1,o2,ds,rfl,az,g5,ah,ap,hy,ao,ay,ax,aa,af,bk,bh,ba⟩
  let bn:p...*<=i:=by rw[ao.1];lia
  lk;refine{.inl {O,_,SqL.of ah}, ?_};unfold zJi zQk;refine{c, .inr {p,ah,λo=>?_}};let a9:upd H5 c (.frz o (.lst p)) g=Y (.lst (rs++ [y])):=by rw[zM aq];exact ap
  refine{g, .inr {_,a9,λo'=>?_}};let a6:∀{w w':HO},Same (wB (wB H5 c) g) (upd (upd H5 c w) g w'):=λb u e=>by
   let n2:b≠g:=λz=>by subst z;rw[kX] at e;cases e
   rw[xZ n2] at e;rw[zM n2];exact zBo _ _ e
  let gf:Same H (upd (upd H5 c (.frz o (.lst p))) g (.frz o' (.lst (rs++ [y])))):=wS (wS g5 aw) au;lk;refine yH (.inl (.inr ⟨o',zD⟩)) (xV _ _) {a,ns,_,y,u,O,gf.seq ha,bc,∅,∅,Rep.same a6 _ _ hy,d3 ∅ _ aa,af,λd wd ks z Hc gc bg hI=>?_};let gi:Same (upd H5 c (.frz o (.lst p))) (L2.thaw (upd H5 c (.frz o (.lst p))) Hc):=zBj a9 gc;let a5:Dlay (wB (L2.thaw (upd H5 c (.frz o (.lst p))) Hc) g) (.ref d) (wd,ks,z):=Dlay.off (gc _ _ zD) bg;let a7:=gi _ _ (zD (H:=H5) (a:=c) (o:=.frz o (.lst p)));dsimp only;generalize L2.thaw (upd H5 c (.frz o (.lst p))) Hc=Hi at gi a5 a7⊢;let gt:=zBj ah gi;let al:Dlay (wB (wB (L2.thaw H5 Hi) c) g) (.ref d) (wd,ks,z):=m6 a7 aq.symm a5;let a2:Dlay (wB (L2.thaw H5 Hi) c) (.ref d) (wd,ks,z):=al.same wV;generalize L2.thaw H5 Hi=H6 at gt a2 al⊢;refine{c,p,_,O,O,gt _ _ ah,by rw[mV];lia, ?_};let am:Rep (wB (wB (upd H6 c (.lst (p++ [V.ref d]))) c) g) y u:=by
   rw[kG];exact Rep.same (xP (xP gt)) _ _ hy
  let a3:Od (wd,ks,z):=hI.od;let a':Dlay (upd H6 c (.lst (p++ [V.ref d]))) (.ref d) (wd,ks,z):=a2.same zBo;let ac:Dlays (wB (wB (upd H6 c (.lst (p++ [V.ref d]))) c) g) (p++ [V.ref d]) (ds++ [(wd,ks,z)]):=by
   rw[kG];exact(ao.same (xP (xP gt))).snoc al
  let g7:Same H (upd H6 c (.lst (p++ [V.ref d]))):=wS (g5.trans gt) aw;let ab:upd H6 c (.lst (p++ [V.ref d])) c=_:=zD;let L:upd H6 c (.lst (p++ [V.ref d])) g=Y (.lst (rs++ [y])):=by rw[zM aq];exact gt _ _ ap
  generalize upd H6 c (.lst (p++ [V.ref d]))=H7 at am a' ac g7 ab L⊢;let aj:∀d'∈ds++ [(wd,ks,z)],Od d'/\T.dep d'.2.2<=2:=λd' h=>(mZ.mp h).elim (ay d') λy=>by rw[mH.mp y];exact⟨a3,hI.d⟩
  let ak:(ds++ [((wd,ks,z):Dd)])...*=i+1:=by rw[mL,ax];rfl
  refine zV (a'.dr a3) λp' u' ep bj bd av=>?_;cases ep;dsimp only;let br:=hI.l;let bm:=hI.d;let bp:=hI.z;rcases az with⟨rfl,ae⟩|⟨j,rfl,ae⟩
  ·refine iP O (yH (SqL.of L) (xV _ _) (yH (SqL.of ab) (xV _ _) ?_))
   refine{y,d,wd,ks,u,u',O,Rep.same (λb o e=>wV _ _ (wV _ _ e)) _ _ am,d3 ∅ _ aa,∅,∅,bj,bd,λr ag l x2 H8 g8 an bf=>?_,λag l x2 H8 g8 an=>?_}
   ·let a0:=g7.trans g8
    rw[av u] at ag;refine yZ (zCb (m:=30+i) ∅ (b9 ∅ _ hI.f) hI.g ks u r ag aa af hI.s ∅) λb1 b2 b3 b4=>?_;refine yH (SqL.of an) (yI (j:=0) O) {true,O, ?_};refine iP O {.inl {O,_,SqL.of (g8 _ _ L)},yH (SqL.of an) (yI (j:=1) O) {g,_,_,O,O,g8 _ _ L,by rw[mV,mL,mY];lia, ?_}};refine{p++ [V.ref d],rs++ [y],x2,r, .non,⟨O,_,O⟩,ds++ [(wd,ks,z)],o7 ae ag,wS a0 au,by rw[zM aq.symm];exact g8 _ _ ab,zD,Rep.same (λb o e=>?_) _ _ bf,by rw[zDx,kG,zDx];exact ac.same (xP (xP g8)),aj,ak,b1,b2,∅,∅,by rw[mL,mY];lia};let hb:=zMc e;let n1:b≠c:=λz=>by subst z;rw[hb] at ab;cases ab
    let n2:b≠g:=λz=>by subst z;rw[hb] at L;cases L
    rw[xZ n2,xZ n1,zM n2];rw[wZ hb] at e;exact e
   ·let a0:=g7.trans g8
    rw[av u] at ag;refine yH (SqL.of an) (yI (j:=0) O) {false,O, ?_};refine iN ∎ ?_;exact{p++ [V.ref d],rs,y,u,_,⟨O,_,O⟩,ds++ [(wd,ks,z)],by rw[Int.zero_add,<-ax];exact o8 ae ag,a0,g8 _ _ ab,g8 _ _ L,Rep.same (xP (xP g8)) _ _ am,ac.same (xP (xP g8)),aj,ak,b9 ∅ _ aa,af,∅,∅,∅}
  ·refine iN (by intro z;cases z) ?_
   exact{p++ [V.ref d],rs,y,u,_,⟨O,_,O⟩,ds++ [(wd,ks,z)],o6 ae,g7,ab,L,am,ac,aj,ak,b9 ∅ _ aa,af,∅,∅,∅}
 ·rintro σ H5 ⟨p,rs,y,u,st,o1,o2,ds,rfl,az,g5,ah,ap,hy,ao,ay,ax,aa,af,bk,bh,ba⟩
  lk;intro l hl;let s6:=zF hl (.lst [V.ref c,V.ref g,st]);let gg:Same (wB (wB H5 c) g) (upd H5 l (.lst [V.ref c,V.ref g,st])):=λb o e=>s6 _ _ (wV _ _ (wV _ _ e));exact q l c g st p rs y ds u _ (g5.trans s6) zD (s6 _ _ ah) (ao.same gg) ay ∅ (s6 _ _ ap) (Rep.same gg _ _ hy) az (b9 ∅ _ aa) af ∅ ∅
abbrev sSt:V6:=top 31
abbrev sHas:V6:=top 30
def yEb:Sp:=λe H Q _=>∃(v:V)(t:T)(d:V1)(a:B8),e= [v, .ref d]/\Rep H v t/\T.pure t/\T.sz t<=100000/\H d=Y (.lst (a.map kV))/\(∀k∈a,okK k)/\a...*<=8/\∀p c b,Same H b->b p=Y (.lst c)->Reps b c (goT t a)->Q (.ref p) b
theorem ok_st(F:Fun K "stops_on" "stops_on" sSt f fd)(B:Bl mg)(l:Dn P w K mg base 1 "leads_on" ["thing","step"] zUi):FnOk P w K mg base CX0 2 f fd ["thing","path"] yEb:=by
 refine F.okn (N:=["thing","path","stops","step"]) λan A aj s H vs Q E nd hr h=>?_;ext yN h v t pa m ak d;ext zS d hv hp hz y af d;ext oA d h8 q;subst ak;let hu:=vE hr;refine{_,(zC (pS 2 nd (yM (zA (pv 0) zB)))
  (zC (wW PassesOwn.never O (vJ (pv 1)) (yF (i:=3) nd O (nZ O)) (zC (zT (wJ (yG (pD l hr (zA (pX zU (pv 2) (xW xH zE)) (zA (pv 3) zB))))) (zG (zJ (pv 2))) zL)
  (zG (xS (qA pA pM rE vK (pv 2) (zA (zDe (pX zU (pX zU (pv 2) (xW xH zE)) (pv 3)) (vT hu (pX zU (pv 2) (xW xH zE)) (pv 3) (λ_ _=>O))) zB))))))
  (zG (zJ (pv 2))))), ?_}
 walk_at "st";lk;intro L D;let ao:pa≠L:=λz=>by rw[z,D] at y;cases y
 refine{{_,SqL.of (zF D _ _ _ y)},gP (K:=K) (a:=pa) (xs:=m.map kV) (λi σ' H'=>∃o us u J c,σ'= [Y v,Y (.ref pa),Y (.ref L),o]/\Same H H'/\H' L=Y (.lst (J++ [c]))/\Reps H J us/\Rep H c u/\us...*=i/\goT t m=us++goT u (m.drop i)/\T.pure u/\T.sz u<=100000)
  {none,[],t,[],v,O,zF D _,zD,O,hv,O,O,hp,hz} (λi σ' H' _ h=>by
   ext yA h o us u J c d;ext oAA d _ g _;exact SqL.of (g _ _ y)) ?_ ?_}
 ·intro i x σ' H' hx d
  ext yA d o us u J c d;ext zS d ab g hS hR hc d;ext yZ d hl M ac ae;subst ab;lk;let ap:=hR...*;rw[nG] at hx
  cases n:m[i]? with
  |none=>rw[n] at hx;cases hx|some k=>
   rw[n] at hx;let ex:kV k=x:=mQ hx;subst ex;let ai:=(mS.mp n).1;let am:m.drop i=k::m.drop (i+1):=by
    rw[pZ ai,(mS.mp n).2]
   rw[am] at M;refine yH (SqL.of hS) (xV _ _) {c,u,k,O,Rep.same g _ _ hc,ac,ae,af _ (mM n),λH2 g2=>{_,O, ?_}};let p:=g2 _ _ hS;let gg:=g.trans g2
   cases hs:zR u k with
   |none=>
    refine iP O (q L _ _ gg p ?_);let e:goT u (k::m.drop (i+1))= [u]:=by show(match zR u k with | none=>[u] | some r=>u::goT r (m.drop (i+1)))=_;rw[hs]
    rw[M,e];exact Reps.snoc (Rep.same gg _ _ hc) (Reps.same gg _ _ hR)
   |some r=>
    let e:goT u (k::m.drop (i+1))=u::goT r (m.drop (i+1)):=by show(match zR u k with | none=>[u] | some r=>u::goT r (m.drop (i+1)))=_;rw[hs]
    rw[e] at M;refine iN (by simp) {nZ {O,_,SqL.of p}, ?_};let I:∀c',Rep H c' r->T.pure r->T.sz r<=100000->zKt (V.ref L) [c'] H2 (λ_ H1=>Same H H1/\∃aa u1 ag c1,H1 L=Y (.lst (ag++ [c1]))/\Reps H ag aa/\Rep H c1 u1/\aa...*=i+1/\goT t m=aa++goT u1 (m.drop (i+1))/\T.pure u1/\T.sz u1<=100000):=λc' h1 h2 h3=>
     {L,J++ [c],c',O,O,p,by rw[mV,mL];show J...*+1<_;lia,gg.put D _,us++ [u],r,J++ [c],c',zD,Reps.snoc hc hR,h1,by rw[mL,hl];rfl,by rw[M,rM];rfl,h2,h3}
    obtain⟨c',h1,h2,h3,⟨b,zs,j,rfl,hb,ej,al⟩|⟨b,qs,rfl,hb,ah⟩⟩:=zRw hc ac ae (af _ (mM n)) hs
    ·refine .inl ?_
     lk;refine yH (SqL.of p) (xV _ _) ?_;rw[ej];exact yH (SqL.of (gg _ _ hb)) al (I _ h1 h2 h3)
    ·refine .inr ?_
     lk;exact yH (SqL.of p) (xV _ _) {b,O,c', .inl {qs,k, .inl (gg _ _ hb),O,ah.symm},I _ h1 h2 h3}
 ·intro σ' H' d
  ext yA d o us u J c d;ext zS d ab g hS hR hc d;ext yZ d hl M ac ae;subst ab;lk;rw[mJ,aV] at M;refine q L _ _ g hS ?_;rw[M];exact Reps.snoc (Rep.same g _ _ hc) (Reps.same g _ _ hR)
def yCy:Sp:=λd H Q _=>∃(v:V)(t:T)(c:V1)(a:B8),d= [v, .ref c]/\Rep H v t/\T.pure t/\T.sz t<=100000/\H c=Y (.lst (a.map kV))/\(∀k∈a,okK k)/\a...*<=8/\∀b,Same H b->Q (.bl (decide (a...*<(goT t a)...*))) b
theorem yDr(F:Fun K "has" "has" sHas f fd)(B:Bl mg)(a:Dn P w K mg base 2 "stops_on" ["thing","path"] yEb):FnOk P w K mg base CX0 3 f fd ["thing","path"] yCy:=by
 refine F.okn (N:=["thing","path"]) λu A j s H I Q E J m h=>?_;ext yN h v t y c d k;ext zS k x z r b i k;ext oA k D q;subst d;let M:=vE m;refine nEA _ (zG (zJ (pE uP (zO zZ O B.len yR (zA (pD a m (zA (pv 0) (zA (pv 1) zB))) zB)) (zO zZ O B.len yR (zA (pv 1) zB))))) ?_;walk_at "st";lk;refine{v,t,y,c,O,x,z,r,b,i,D,λp l L n g o=>?_};refine vB p O l (SqL.of g) _ (nA (SqL.of (n _ _ b)) ?_);let e:decide (((c.map kV)...*:Int)<(l...*:Int))=decide (c...*<(goT t c)...*):=by
  rw[mJ,o...*];exact aB.mpr ∅
 rw[e];exact q _ n
end
end K48
namespace K48
open PySem L2 PySem.W
seal L2.PSs L2.PS L2.PE L2.PT L2.PW L2.PA L2.PI L2.PG L2.PGs L2.PPs L2.PTs
theorem zYc{t u:T}{k:Key}(f:T.few t)(h:zR t k=Y u):T.few u/\T.dep u<=T.dep t/\T.sz u<=T.sz t:=by
 let d:∀a:List T,d8 a->u∈a->T.few u/\T.dep u<=T.deps a+1/\T.sz u<=T.szs a+1:=λa f c=>by
  let j:=b8 c;let l:=c8 c;exact nAA (b7 f c) ∅ ∅
 cases t with
 |lst a=>
  cases k with
  |inl i=>
   let e:a[i.toNat]? =Y u:=h;exact d a f.2 (mM e)
  |inr x=>cases h
 |dic g a=>
  cases k with
  |inl i=>cases h|inr x=>
   let e:(if ts x∈g then Y (zH (ts x) g a) else none)=Y u:=h
   by_cases c:ts x∈g
   ·rw[mN c] at e
    rw[<-mQ e] at d⊢;exact d a f.2.2.2 (yC c f.2.2.1)
   ·rw[mK c] at e;cases e
 |non=>cases h|bl b=>cases h|int b=>cases h|str b=>cases h|tup a=>cases h
theorem zJk:∀(ks:B8)(t u:T),T.few t->u∈goT t ks->T.few u/\T.dep u<=T.dep t/\T.sz u<=T.sz t
 |[],t,u,a,h=>by
  let e:u=t:=mH.mp h;rw[e];exact{a,mC _,mC _}
 |k::ks,t,u,a,h=>by
  let b:u∈(match zR t k with | none=>[t] | some u=>t::goT u ks):=h
  cases c:zR t k with
  |none=>
   rw[c] at b;let e:u=t:=mH.mp b;rw[e];exact{a,mC _,mC _}
  |some g=>
   rw[c] at b;rcases mG.mp b with z | z
   ·rw[z];exact{a,mC _,mC _}
   ·obtain⟨d,i,j⟩:=zYc a c
    obtain⟨f,m,l⟩:=zJk ks g u d z;exact nAA f ∅ ∅
abbrev sTa:V6:=top 29
section
variable{P:V3}{w:V4}{K:PySem.W.Frag}{mg:C8}{base:V5}{f:V1}{fd:V7}{C:V1}
structure Tp(H:Hp)(v:V)(t:T)(pa:V1)(ks:B8):Prop where
 v:Rep H v t
 few:T.few t
 dep:T.dep t<=16
 sz:T.sz t<=5000
 pa:H pa=Y (.lst (ks.map kV))
 ok:∀k∈ks,okK k
 l8:ks...*<=8
theorem Tp.pure{H:Hp}{v:V}{t:T}{a:V1}{ks:B8}(h:Tp H v t a ks):T.pure t:=qF 16 t h.dep h.few
def lds(t:T)(ks:B8):Prop:=ks...*<(goT t ks)...*
noncomputable instance (t:T) (ks:B8):Decidable (lds t ks):=inferInstanceAs (Decidable (_<_))
def spTa:Sp:=λg H Q _=>∃(v:V)(t:T)(e:V1)(a:B8),g= [v, .ref e]/\Tp H v t e a/\lds t a/\∀u d c D,(goT t a).getLast? =Y u->Same H c->Sp1 c d u D->(∀b∈D,H b=none)->Q d c
theorem ok_ta(F:Fun K "thing_at" "thing_at" sTa f fd)(B:Bl mg)(a:Dn P w K mg base 2 "stops_on" ["thing","path"] yEb)(c:Dn P w K mg base (1+20) "copied" ["thing"] (zFr 20)):FnOk P w K mg base CX0 22 f fd ["thing","path"] spTa:=by
 refine F.okn (N:=["thing","path","stops"]) λL A m s H vs Q E J y h=>?_;ext yN h v t pa e i z_;ext oAA z_ d r q;subst i;let r:e...*<(goT t e)...*:=r;refine{_,(zC (pS 2 J (pD a y (zA (pv 0) (zA (pv 1) zB))))
  (zC (zT (pT zAh (zO zZ O B.len yR (zA (pv 2) zB)) (zO zZ O B.len yR (zA (pv 1) zB))) zEb zL)
  (zG (zJ (pD c y (zA (pX zU (pv 2) (xW xH zE)) zB)))))), ?_}
 walk_at "st";lk;let hz:=d.sz;refine{v,t,pa,e,O,d.v,d.pure,∅,d.pa,d.ok,d.l8,λp M H1 l g o=>?_};let aa:=o...*;refine oEA (jZ t e) λu z k=>?_;refine oAA (zJk e t u d.few k) λI du zu=>?_;refine oEA (Reps.last o z) λx hx j=>?_;let hd:=d.dep;refine vB p O M (SqL.of g) _ (nA (SqL.of (l _ _ d.pa)) (iN (by rw[mJ];lia) (yH (SqL.of g) (zCn hx) {x,u,O,j,qF 16 u ∅ I,∅,∅,λv' H2 D g2 n hD=>q u v' H2 D z (l.trans g2) n λb hb=>zQ l (hD b hb)})))
end
end K48
namespace K48
open PySem L2
def Eqc(t u:T):Prop:=xO (zN t) (zN u)=0
theorem Eqc.refl{t:T}(h:T.few t):Eqc t t:=zBv (T.dep t+1) t h (tZ _)
noncomputable def atT:List Key->T->Option T
 |[],t=>Y t|k::a,t=>(zR t k).bind (atT a)
noncomputable def bkD(s:T)(d:Dd):Dd:=match atT d.2.1 s with
 |none=>(.tak,d.2.1, .non)|some g=>match d.1 with
  |.ins=>(.tak,d.2.1, .non)|.put=>(.put,d.2.1,g)|.tak=>match d.2.1.getLast? with
   |some (.inl _)=>(.ins,d.2.1,g)|_=>(.put,d.2.1,g)
theorem jS{us:B0}{i:Nat}{t:T}(h:d8 us)(a:us[i]? =Y t):T.few t:=b7 h (mM a)
theorem zPj{us ws:B0}(h:us=ws)(f:T.few (.lst ws)):Eqc (.lst us) (.lst ws):=by rw[h];exact Eqc.refl f
theorem zZw{s u r:T}{k:Key}(h:T.few s)(d:zR s k=Y u):zR (yD .put s k r) k=Y r:=by
 cases s with
 |lst c=>
  cases k with
  |inl i=>
   let g:c[i.toNat]? =Y u:=d;let j:=(mS.mp g).1;show(c.take i.toNat++r::c.drop (i.toNat+1))[i.toNat]? =Y r;rw[nW (by rw[nU];lia),nU,show i.toNat - min i.toNat c...*=0 by lia]
   rfl
  |inr z=>cases d
 |dic a c=>
  cases k with
  |inl i=>cases d|inr z=>
   let g:(if ts z∈a then Y (zH (ts z) a c) else none)=Y u:=d
   by_cases f:ts z∈a
   ·let e:yE (a,c) (ts z) r=(a,yQ (ts z) r a c):=mN f
    show(if ts z∈(yE (a,c) (ts z) r).1 then Y (zH (ts z) (yE (a,c) (ts z) r).1 (yE (a,c) (ts z) r).2) else none)=Y r;rw[e];show(if ts z∈a then Y (zH (ts z) a (yQ (ts z) r a c)) else none)=Y r;rw[mN f,kB h.2.2.1 f,mN O]
   ·rw[mK f] at g;cases g
 |non=>cases d|bl b=>cases d|int b=>cases d|str b=>cases d|tup b=>cases d
theorem vF{k:List Nat}{ks:C6}{us:B0}(a:ks...*=us...*)(b:k∈ks)(h:d8 us):T.few (zH k ks us):=b7 h (yC b a)
theorem yFx{us:B0}{i:Nat}{u c:T}(h:d8 us)(f:us[i]? =Y u)(e:Eqc c u):Eqc (.lst (us.take i++c::us.drop (i+1))) (.lst us):=by
 let d:=(mS.mp f).1;rw[<-zCz d];refine(zAw _ _).mpr {aY,λj t g b a=>?_}
 by_cases z:i=j
 ·subst z
  rw[sJ d] at b;rw[f] at a;cases b;cases a;exact e
 ·rw[sR z,a] at b
  cases b;exact Eqc.refl (jS h a)
theorem zJf{s u f r:T}{k:Key}(l:T.few s)(d:zR s k=Y u)(e:Eqc f u):Eqc (yD .put (yD .put s k r) k f) s:=by
 cases s with
 |lst c=>
  cases k with
  |inl i=>
   let g:c[i.toNat]? =Y u:=d;let j:=(mS.mp g).1;show Eqc (.lst ((c.take i.toNat++r::c.drop (i.toNat+1)).take i.toNat++f::(c.take i.toNat++r::c.drop (i.toNat+1)).drop (i.toNat+1))) _;rw[aK (by rw[nU];lia),List.drop_append,nU,show i.toNat+1 - min i.toNat c...*=1 by lia,bZ (by rw[nU];lia)];exact yFx l.2 g e
  |inr z=>cases d
 |dic a c=>
  cases k with
  |inl i=>cases d|inr z=>
   let g:(if ts z∈a then Y (zH (ts z) a c) else none)=Y u:=d
   by_cases h:ts z∈a
   ·let o:∀(n:B0)(r:T),yE (a,n) (ts z) r=(a,yQ (ts z) r a n):=λ_ _=>mN h
    rw[mN h] at g;cases g;show Eqc (.dic (yE ((yE (a,c) (ts z) r).1,(yE (a,c) (ts z) r).2) (ts z) f).1 (yE ((yE (a,c) (ts z) r).1,(yE (a,c) (ts z) r).2) (ts z) f).2) _;rw[o c r];show Eqc (.dic (yE (a,yQ (ts z) r a c) (ts z) f).1 (yE (a,yQ (ts z) r a c) (ts z) f).2) _;rw[o];let j:=l.2.2.1;let m:a...*=(yQ (ts z) r a c)...*:=by rw[gT];exact j
    refine(wI l.1).mpr {O,λq p=>{p, ?_}};show xO (zN (zH q a (yQ (ts z) f a (yQ (ts z) r a c)))) _=0;rw[kB m h,kB j h]
    by_cases w:q=ts z
    ·subst w;rw[mN O];exact e
    ·rw[mK w,mK w];exact Eqc.refl (vF j p l.2.2.2)
   ·rw[mK h] at g;cases g
 |non=>cases d|bl b=>cases d|int b=>cases d|str b=>cases d|tup b=>cases d
theorem zKx{n:List Nat}{t:T}:∀{ks:C6}{us:B0},ks...*=us...*->n∉ks->xI n (ks++ [n])=ks/\yV n (ks++ [n]) (us++ [t])=us
 |[],[],_,_=>by
  constructor
  ·show(if n=n then[] else[n])= []
   rw[mN O]
  ·show(if n=n then yV n [] [] else[t])= []
   rw[mN O];rfl
 |k::ks,u::us,c,h=>by
  let d:k≠n:=λe=>h (e▸mE);obtain⟨a,b⟩:=zKx (t:=t) (ks:=ks) (us:=us) (Nat.succ.inj c) λz=>h (mI _ z);constructor
  ·show(if k=n then _ else k::xI n (ks++ [n]))=_
   rw[mK d,a]
  ·show(if k=n then _ else u::yV n (ks++ [n]) (us++ [t]))=_
   rw[mK d,b]
 |[],_::_,c,_=>nomatch c|_::_,[],c,_=>nomatch c
theorem zHp{n:List Nat}:∀{ks:C6},n∉ks->xI n ks=ks
 |[],_=>rfl|k::ks,h=>by
  show(if k=n then _ else k::xI n ks)=_;rw[mK (λe:k=n=>h (e▸mE)),zHp λz=>h (mI _ z)]
theorem zAu{n:List Nat}:∀{ks:C6},ks.Nodup->n∈ks->(xI n ks)...*+1=ks...*
 |k::ks,c,h=>by
  obtain⟨a,b⟩:=pC.mp c;show(if k=n then xI n ks else k::xI n ks)...*+1=_
  by_cases e:k=n
  ·rw[mN e,zHp (e▸a)];rfl
  ·rw[mK e,mX,zAu b ((mG.mp h).resolve_left (Ne.symm e))];rfl
theorem kK{s u:T}{k:Key}(f:T.few s)(a:zR s k=Y u):T.few u:=by
 cases s with
 |lst g=>
  cases k with|inl i=>exact jS (i:=i.toNat) f.2 a|inr z=>cases a
 |dic e g=>
  cases k with
  |inl i=>cases a|inr z=>
   let c:(if ts z∈e then Y (zH (ts z) e g) else none)=Y u:=a
   by_cases d:ts z∈e
   ·rw[mN d] at c;cases c;exact vF f.2.2.1 d f.2.2.2
   ·rw[mK d] at c;cases c
 |non=>cases a|bl b=>cases a|int b=>cases a|str b=>cases a|tup b=>cases a
theorem zAa{w:Wd}{n s:T}{k:Key}(h:xN w s k=true):doT w n [k] s=Y (yD w s k n):=mN h
theorem zGl{α:Type}{us ws:List α}{i:Nat}(h:i<=us...*):(us.take i++ws).take i=us.take i:=aK (by rw[nU];lia)
theorem zMb{α:Type}{us ws:List α}{i:Nat}(h:i<=us...*):(us.take i++ws).drop i=ws:=List.drop_left' (by rw[nU];lia)
theorem zIi{α:Type}{us ws:List α}{x:α}{i:Nat}(h:i<=us...*):(us.take i++x::ws).drop (i+1)=ws:=by
 rw[<-List.drop_drop,zMb h];rfl
theorem zRn{α:Type}{us ws:List α}{x:α}{i:Nat}(h:i<=us...*):(us.take i++x::ws)[i]? =Y x:=by
 rw[nW (by rw[nU];lia),nU,show i - min i us...*=0 by lia];rfl
theorem zCq{s g:T}{w:Wd}{n:T}{k:Key}(h:zR s k=Y g):bkD s (w,[k],n)=match w with
  |.ins=>(.tak,[k], .non)|.put=>(.put,[k],g)|.tak=>match k with
   |.inl _=>(.ins,[k],g)|.inr _=>(.put,[k],g):=by
 unfold bkD;show(match (zR s k).bind (atT []) with | none=>_ | some g=>_)=_
 rw[h];cases w<;>cases k<;>rfl
theorem zJp{s:T}{w:Wd}{n:T}{k:Key}(h:zR s k=none):bkD s (w,[k],n)=(.tak,[k], .non):=by
 unfold bkD;show(match (zR s k).bind (atT []) with | none=>_ | some g=>_)=_
 rw[h];rfl
theorem zYv{us:B0}{w:Wd}{n r:T}{i:Int}(c:T.few (.lst us))(l:0<=i)(d:xN w (.lst us) (.inl i)=true)(h:r=yD w (.lst us) (.inl i) n):∃s',doT (bkD (.lst us) (w,[.inl i],n)).1 (bkD (.lst us) (w,[.inl i],n)).2.2 [.inl i] r=Y s'/\Eqc s' (.lst us):=by
 subst h
 cases w with
 |ins=>
  let k:i<=(us...*:Int):=rJ d;let e:bkD (.lst us) (.ins,[.inl i],n)=(.tak,[.inl i], .non):=by
   cases a:zR (.lst us) (.inl i) with|none=>exact zJp a|some g=>exact zCq a
  rw[e];refine nEA _ (zAa (by show((us.take i.toNat++n::us.drop i.toNat)[i.toNat]?).isSome=true;rw[zRn ∅];rfl)) (zPj ?_ c);show(us.take i.toNat++n::us.drop i.toNat).take i.toNat++(us.take i.toNat++n::us.drop i.toNat).drop (i.toNat+1)=us;rw[zGl ∅,zIi ∅,sN]
 |put=>
  let k:i<=(us...*:Int):=rJ d
  cases a:zR (.lst us) (.inl i) with
  |some g=>
   rw[zCq a];let b:=(mS.mp (show us[i.toNat]? =Y g from a)).1;refine nEA _ (zAa ?_) (zJf c a (Eqc.refl (kK c a)));show decide (i<=((us.take i.toNat++n::us.drop (i.toNat+1))...*:Int))=true;refine nF ?_;rw[mL,nU,mX]
   lia
  |none=>
   rw[zJp a];let b:=List.getElem?_eq_none_iff.mp (show us[i.toNat]? =none from a);refine nEA _ (zAa (by show((us.take i.toNat++n::us.drop (i.toNat+1))[i.toNat]?).isSome=true;rw[zRn ∅];rfl)) (zPj ?_ c);show(us.take i.toNat++n::us.drop (i.toNat+1)).take i.toNat++(us.take i.toNat++n::us.drop (i.toNat+1)).drop (i.toNat+1)=us;rw[zGl ∅,zIi ∅,sK b,bZ ∅,pH]
 |tak=>
  cases a:zR (.lst us) (.inl i) with
  |none=>rw[show xN .tak (.lst us) (.inl i)=(zR (.lst us) (.inl i)).isSome from O,a] at d;cases d|some g=>
   rw[zCq a];let f:us[i.toNat]? =Y g:=a;let b:=(mS.mp f).1;refine nEA _ (zAa ?_) (zPj ?_ c)
   ·show decide (i<=((us.take i.toNat++us.drop (i.toNat+1))...*:Int))=true
    refine nF ?_;rw[mL,nU,nI]
    lia
   ·show(us.take i.toNat++us.drop (i.toNat+1)).take i.toNat++g::(us.take i.toNat++us.drop (i.toNat+1)).drop i.toNat=us
    rw[zGl ∅,zMb ∅,<-zCz b];refine List.ext_getElem? λj=>?_
    by_cases z:i.toNat=j
    ·subst z;rw[sJ b,f]
    ·rw[sR z]
theorem zUu{ks:C6}{us:B0}{w:Wd}{n r:T}{z:Str}(d:T.few (.dic ks us))(k:xN w (.dic ks us) (.inr z)=true)(m:r=yD w (.dic ks us) (.inr z) n):∃s',doT (bkD (.dic ks us) (w,[.inr z],n)).1 (bkD (.dic ks us) (w,[.inr z],n)).2.2 [.inr z] r=Y s'/\Eqc s' (.dic ks us):=by
 subst m;let j:=d.2.2.1
 cases w with
 |ins=>cases k|put=>
  by_cases c:ts z∈ks
  ·let f:zR (.dic ks us) (.inr z)=Y (zH (ts z) ks us):=mN c
   rw[zCq f];exact nEA _ (zAa O) (zJf d f (Eqc.refl (kK d f)))
  ·let f:zR (.dic ks us) (.inr z)=none:=mK c
   rw[zJp f];let e:yE (ks,us) (ts z) n=(ks++ [ts z],us++ [n]):=mK c;obtain⟨a,b⟩:=zKx (t:=n) j c;refine nEA _ (zAa ?_) ?_
   ·show(if ts z∈(yE (ks,us) (ts z) n).1 then Y (zH (ts z) (yE (ks,us) (ts z) n).1 (yE (ks,us) (ts z) n).2) else none).isSome=true
    rw[e,mN (by simp)];rfl
   ·show Eqc (.dic (xI (ts z) (yE (ks,us) (ts z) n).1) (yV (ts z) (yE (ks,us) (ts z) n).1 (yE (ks,us) (ts z) n).2)) _
    rw[e];show Eqc (.dic (xI (ts z) (ks++ [ts z])) (yV (ts z) (ks++ [ts z]) (us++ [n]))) _;rw[a,b];exact Eqc.refl d
 |tak=>
  by_cases c:ts z∈ks
  ·let f:zR (.dic ks us) (.inr z)=Y (zH (ts z) ks us):=mN c
   rw[zCq f];refine nEA _ (zAa O) ?_;let g:ts z∉xI (ts z) ks:=λh=>(dropN_mem.mp h).2 O;show Eqc (.dic (yE (xI (ts z) ks,yV (ts z) ks us) (ts z) (zH (ts z) ks us)).1 (yE (xI (ts z) ks,yV (ts z) ks us) (ts z) (zH (ts z) ks us)).2) _;rw[show yE (xI (ts z) ks,yV (ts z) ks us) (ts z) (zH (ts z) ks us)=(xI (ts z) ks++ [ts z],yV (ts z) ks us++ [zH (ts z) ks us]) from mK g];let i:=(uQ (n:=ts z) j).1;refine(wI ?_).mpr {?_,λq s=>?_}
   ·refine aN.mpr {vC d.1,pC.mpr ⟨pO,bQ⟩,λa o b u e=>?_}
    rw[mH.mp u] at e;exact g (e▸o)
   ·rw[mL];exact zAu d.1 c
   ·rcases mZ.mp s with h1 | h1
    ·obtain⟨l,p⟩:=dropN_mem.mp h1
     refine{l, ?_};rw[zAf i h1,gK p j];exact Eqc.refl (vF j l d.2.2.2)
    ·rw[mH.mp h1]
     refine{c, ?_};rw[uC i g];exact Eqc.refl (vF j c d.2.2.2)
  ·rw[show xN .tak (.dic ks us) (.inr z)=(zR (.dic ks us) (.inr z)).isSome from O,show zR (.dic ks us) (.inr z)=none from mK c] at k;cases k
theorem zVn{w:Wd}{n s r:T}{k:Key}(d:T.few s)(f:okK k)(h:doT w n [k] s=Y r):∃s',doT (bkD s (w,[k],n)).1 (bkD s (w,[k],n)).2.2 [k] r=Y s'/\Eqc s' s:=by
 let c:(if xN w s k=true then Y (yD w s k n) else none)=Y r:=h
 by_cases a:xN w s k=true
 ·rw[mN a] at c
  let e:=(mQ c).symm
  cases s with
  |lst g=>
   cases k with|inl i=>exact zYv d f.1 a e|inr z=>cases w<;>cases a
  |dic j g=>
   cases k with|inl i=>cases w<;>cases a|inr z=>exact zUu d a e
  |non=>cases w<;>cases a|bl b=>cases w<;>cases a|int b=>cases w<;>cases a|str b=>cases w<;>cases a|tup b=>exact d.elim
 ·rw[mK a] at c;cases c
theorem yBd{s u:T}{w:Wd}{n:T}{k k':Key}{ks:B8}(h:zR s k=Y u):(bkD s (w,k::k'::ks,n)).1=(bkD u (w,k'::ks,n)).1/\(bkD s (w,k::k'::ks,n)).2.2=(bkD u (w,k'::ks,n)).2.2:=by
 let b:atT (k::k'::ks) s=atT (k'::ks) u:=by show(zR s k).bind (atT (k'::ks))=_;rw[h];rfl
 let a:(k::k'::ks).getLast? =(k'::ks).getLast?:=rfl;unfold bkD;simp only[b,a]
 cases atT (k'::ks) u with
 |none=>exact⟨O,O⟩|some g=>
  cases w with
  |ins=>exact⟨O,O⟩|put=>exact⟨O,O⟩|tak=>
   cases (k'::ks).getLast? with|none=>exact⟨O,O⟩|some q=>cases q<;>exact⟨O,O⟩
theorem zQq{w:Wd}{n:T}:∀(ks:B8)(s r:T),T.few s->(∀k∈ks,okK k)->doT w n ks s=Y r->∃s',doT (bkD s (w,ks,n)).1 (bkD s (w,ks,n)).2.2 ks r=Y s'/\Eqc s' s
 |[],s,r,b,_,h=>by
  cases w with|put=>exact{s,O,Eqc.refl b}|ins=>cases h|tak=>cases h
 |[k],s,r,b,f,h=>zVn b (f k mE) h|k::a::ks,s,r,b,f,h=>by
  cases c:zR s k with
  |none=>
   rw[show doT w n (k::a::ks) s=match zR s k with
    |some u=>(doT w n (a::ks) u).map λr=>yD .put s k r|none=>none from O,c] at h
   cases h
  |some u=>
   let d:(doT w n (a::ks) u).map (λr=>yD .put s k r)=Y r:=by
    rw[<-h];show _=(match zR s k with
    | some u=>(doT w n (a::ks) u).map λr=>yD .put s k r|none=>none)
    rw[c]
   cases e:doT w n (a::ks) u with
   |none=>rw[e] at d;cases d|some i=>
    rw[e] at d;let g:=mQ d;obtain⟨o,p,m⟩:=zQq (a::ks) u i (kK b c) (λq t=>f q (mI _ t)) e;obtain⟨j,l⟩:=yBd (w:=w) (n:=n) (k':=a) (ks:=ks) c;rw[j,l];refine nEA (yD .put r k o) ?_ ?_
    ·show(match zR r k with
     | some u=>(doT _ _ (a::ks) u).map λx=>yD .put r k x|none=>none)=_
     rw[<-g,zZw b c];show(doT _ _ (a::ks) i).map _=_;rw[p];rfl
    ·rw[<-g]
     exact zJf b c m
theorem yT{t u:T}(h:Eqc t u):(zN t).ord=(zN u).ord:=by
 refine Decidable.byContradiction λa=>?_;let z:xO (zN t) (zN u)≠0:=by
  rw[uY _ _ a,sgI];split<;>split<;>lia
 exact z h
theorem kO{us:B0}{t:T}(h:Eqc (.lst us) t)(a:T.few t):∃ws,t= .lst ws:=by
 cases t with|lst ws=>exact⟨ws,O⟩|tup ws=>exact a.elim|non=>exact absurd (yT h) (by simp[zN,C.ord])|bl b=>exact absurd (yT h) (by simp[zN,C.ord])|int b=>exact absurd (yT h) (by simp[zN,C.ord])|str b=>exact absurd (yT h) (by simp[zN,C.ord])|dic c ws=>exact absurd (yT h) (by simp[zN,C.ord])
theorem gY{ks:C6}{us:B0}{t:T}(h:Eqc (.dic ks us) t)(c:T.few t):∃a ws,t= .dic a ws:=by
 cases t with|dic a ws=>exact⟨a,ws,O⟩|tup ws=>exact c.elim|non=>exact absurd (yT h) (by simp[zN,C.ord])|bl b=>exact absurd (yT h) (by simp[zN,C.ord])|int b=>exact absurd (yT h) (by simp[zN,C.ord])|str b=>exact absurd (yT h) (by simp[zN,C.ord])|lst ws=>exact absurd (yT h) (by simp[zN,C.ord])
def Eqs(us ws:B0):Prop:=us...*=ws...*/\∀(i:Nat) t a,us[i]? =Y t->ws[i]? =Y a->Eqc t a
theorem eqs_iff{us ws:B0}:Eqc (.lst us) (.lst ws)↔Eqs us ws:=zAw us ws
theorem Eqs.app{us ws b a:B0}(h:Eqs us ws)(h':Eqs b a):Eqs (us++b) (ws++a):=by
 refine{by rw[mL,mL,h.1,h'.1],λi t e d c=>?_}
 by_cases z:i<us...*
 ·rw[nY z] at d
  rw[nY (h.1▸z)] at c;exact h.2 i t e d c
 ·rw[nW ∅] at d
  rw[nW (by let:=h.1;lia),<-h.1] at c;exact h'.2 _ t e d c
theorem Eqs.take{us ws:B0}(n:Nat)(h:Eqs us ws):Eqs (us.take n) (ws.take n):=by
 refine{by rw[nU,nU,h.1],λi t c a b=>?_};rw[List.getElem?_take] at a b
 by_cases z:i<n
 ·rw[mN z] at a b;exact h.2 i t c a b
 ·rw[mK z] at a;cases a
theorem Eqs.drop{us ws:B0}(n:Nat)(h:Eqs us ws):Eqs (us.drop n) (ws.drop n):=by
 refine{by rw[nI,nI,h.1],λi t c b a=>?_};rw[tE] at b a;exact h.2 _ t c b a
theorem Eqs.cons{us ws:B0}{t t':T}(e:Eqc t t')(h:Eqs us ws):Eqs (t::us) (t'::ws):=by
 refine{by rw[mX,mX,h.1],λi x c b a=>?_}
 cases i with|zero=>cases b;cases a;exact e|succ i=>exact h.2 i x c b a
theorem zNd{t t' u:T}{k:Key}(q:T.few t)(e:T.few t')(h:Eqc t t')(c:zR t k=Y u):∃n,zR t' k=Y n/\Eqc u n:=by
 cases t with
 |lst l=>
  obtain⟨j,rfl⟩:=kO h e
  cases k with
  |inl i=>
   let d:l[i.toNat]? =Y u:=c;let p:=(mS.mp d).1;let z:=eqs_iff.mp h;let m:j[i.toNat]? =Y (j[i.toNat]'(z.1▸p)):=mP _;exact nEA _ m (z.2 _ _ _ d m)
  |inr z=>cases c
 |dic g l=>
  obtain⟨o,j,rfl⟩:=gY h e
  cases k with
  |inl i=>cases c|inr z=>
   let d:(if ts z∈g then Y (zH (ts z) g l) else none)=Y u:=c
   by_cases f:ts z∈g
   ·rw[mN f] at d
    cases d;obtain⟨a,b⟩:=((wI q.1).mp h).2 _ f;exact nEA _ (mN a) b
   ·rw[mK f] at d;cases d
 |non=>cases c|bl b=>cases c|int b=>cases c|str b=>cases c|tup b=>cases c
theorem yAg{t t':T}{w:Wd}{k:Key}(n:T.few t)(c:T.few t')(h:Eqc t t')(a:xN w t k=true):xN w t' k=true:=by
 cases w with
 |tak=>
  cases g:zR t k with
  |none=>rw[show xN .tak t k=(zR t k).isSome from O,g] at a;cases a|some u=>
   obtain⟨o,m,_⟩:=zNd n c h g;show(zR t' k).isSome=true;rw[m];rfl
 |put=>
  cases t with
  |lst d=>
   obtain⟨f,rfl⟩:=kO h c
   cases k with
   |inl i=>
    let e:i<=(d...*:Int):=rJ a;rw[(eqs_iff.mp h).1] at e;exact nF e
   |inr z=>cases a
  |dic j d=>
   obtain⟨l,f,rfl⟩:=gY h c
   cases k with|inl i=>cases a|inr z=>rfl
  |non=>cases k<;>cases a|bl b=>cases k<;>cases a|int b=>cases k<;>cases a|str b=>cases k<;>cases a|tup b=>cases k<;>cases a
 |ins=>
  cases t with
  |lst d=>
   obtain⟨f,rfl⟩:=kO h c
   cases k with
   |inl i=>
    let e:i<=(d...*:Int):=rJ a;rw[(eqs_iff.mp h).1] at e;exact nF e
   |inr z=>cases a
  |dic j d=>cases k<;>cases a|non=>cases k<;>cases a|bl b=>cases k<;>cases a|int b=>cases k<;>cases a|str b=>cases k<;>cases a|tup b=>cases k<;>cases a
theorem vY{ks:C6}{us:B0}{n:List Nat}{t:T}(h:ks.Nodup):(yE (ks,us) n t).1.Nodup:=by
 by_cases c:n∈ks
 ·rw[show yE (ks,us) n t=(ks,yQ n t ks us) from mN c];exact h
 ·rw[show yE (ks,us) n t=(ks++ [n],us++ [t]) from mK c]
  refine aN.mpr {h,pC.mpr ⟨pO,bQ⟩,λa d b f e=>?_};rw[mH.mp f] at e;exact c (e▸d)
theorem jF{ks:C6}{us:B0}{n:List Nat}{t:T}:(yE (ks,us) n t).1...*=if n∈ks then ks...* else ks...*+1:=by
 by_cases a:n∈ks
 ·rw[show yE (ks,us) n t=(ks,yQ n t ks us) from mN a,mN a]
 ·rw[show yE (ks,us) n t=(ks++ [n],us++ [t]) from mK a,mK a,mL];rfl
theorem zXt{t u:T}{k:Key}(a:zR t k=Y u):xN .put t k=true:=by
 cases t with
 |lst c=>
  cases k with
  |inl i=>
   let d:=(mS.mp (show c[i.toNat]? =Y u from a)).1;exact nF ∅
  |inr z=>cases a
 |dic e c=>
  cases k with|inl i=>cases a|inr z=>rfl
 |non=>cases a|bl b=>cases a|int b=>cases a|str b=>cases a|tup b=>cases a
theorem zLn{t t' n n':T}{w:Wd}{k:Key}(p:T.few t)(j:T.few t')(h:Eqc t t')(g:xN w t k=true)(e:Eqc n n'):Eqc (yD w t k n) (yD w t' k n'):=by
 cases t with
 |lst m=>
  obtain⟨u,rfl⟩:=kO h j;let z:=eqs_iff.mp h
  cases k with
  |inl i=>
   cases w with|put=>exact eqs_iff.mpr ((z.take i.toNat).app (Eqs.cons e (z.drop (i.toNat+1))))|ins=>exact eqs_iff.mpr ((z.take i.toNat).app (Eqs.cons e (z.drop i.toNat)))|tak=>exact eqs_iff.mpr ((z.take i.toNat).app (z.drop (i.toNat+1)))
  |inr z=>cases w<;>cases g
 |dic f m=>
  obtain⟨d,u,rfl⟩:=gY h j;let P:=(wI p.1).mp h;let s:f.Perm d:=jD p.1 (λk H=>(P.2 k H).1) P.1.symm;let D:=p.2.2.1;let r:=j.2.2.1
  cases k with
  |inl i=>cases w<;>cases g|inr z=>
   cases w with
   |ins=>cases g|put=>
    show Eqc (.dic (yE (f,m) (ts z) n).1 (yE (f,m) (ts z) n).2) (.dic (yE (d,u) (ts z) n').1 (yE (d,u) (ts z) n').2);refine(wI (vY p.1)).mpr {?_,λq B=>?_}
    ·rw[jF,jF,P.1]
     by_cases l:ts z∈f
     ·rw[mN l,mN (s.mem_iff.mp l)]
     ·rw[mK l,mK λx=>l (s.mem_iff.mpr x)]
    ·let o:=putT_in.mp B
     let v:q∈d\/q=ts z:=o.imp s.mem_iff.mp id;obtain⟨a,b⟩:=zAn (t:=n') r v;refine{a, ?_};rw[b,(zAn (t:=n) D o).2]
     by_cases y:q=ts z
     ·rw[mN y,mN y];exact e
     ·rw[mK y,mK y];exact(P.2 q (o.resolve_right y)).2
   |tak=>
    by_cases l:ts z∈f
    ·show Eqc (.dic (xI (ts z) f) (yV (ts z) f m)) (.dic (xI (ts z) d) (yV (ts z) d u))
     refine(wI (vC p.1)).mpr {?_,λq B=>?_}
     ·let a:=zAu p.1 l
      let b:=zAu j.1 (s.mem_iff.mp l);let c:=P.1
      lia
     ·obtain⟨I,A⟩:=dropN_mem.mp B
      obtain⟨J,E⟩:=P.2 q I;refine{dropN_mem.mpr ⟨J,A⟩, ?_};rw[gK A D,gK A r];exact E
    ·rw[show xN .tak (.dic f m) (.inr z)=(zR (.dic f m) (.inr z)).isSome from O,show zR (.dic f m) (.inr z)=none from mK l] at g;cases g
 |non=>cases w<;>cases g|bl b=>cases w<;>cases g|int b=>cases w<;>cases g|str b=>cases w<;>cases g|tup b=>exact p.elim
theorem zUs{w:Wd}{n n':T}(e:Eqc n n'):∀(ks:B8)(t t' r:T),T.few t->T.few t'->Eqc t t'->doT w n ks t=Y r->∃m,doT w n' ks t'=Y m/\Eqc r m
 |[],t,t',r,_,_,_,h=>by
  cases w with|put=>cases h;exact⟨n',O,e⟩|ins=>cases h|tak=>cases h
 |[k],t,t',r,d,a,q,h=>by
  let b:(if xN w t k=true then Y (yD w t k n) else none)=Y r:=h
  by_cases i:xN w t k=true
  ·rw[mN i] at b
   cases b;exact nEA _ (zAa (yAg d a q i)) (zLn d a q i e)
  ·rw[mK i] at b;cases b
 |k::c::ks,t,t',r,d,a,q,h=>by
  cases f:zR t k with
  |none=>
   rw[show doT w n (k::c::ks) t=match zR t k with
    |some u=>(doT w n (c::ks) u).map λr=>yD .put t k r|none=>none from O,f] at h
   cases h
  |some u=>
   let b:(doT w n (c::ks) u).map (λr=>yD .put t k r)=Y r:=by
    rw[<-h];show _=(match zR t k with
    | some u=>(doT w n (c::ks) u).map λr=>yD .put t k r|none=>none)
    rw[f]
   cases j:doT w n (c::ks) u with
   |none=>rw[j] at b;cases b|some y=>
    rw[j] at b;let p:=mQ b;obtain⟨o,g,s⟩:=zNd d a q f;obtain⟨l,z,v⟩:=zUs e (c::ks) u o y (kK d f) (kK a g) s j;refine nEA (yD .put t' k l) ?_ (p▸zLn d a q (zXt f) v);show(match zR t' k with
     | some u=>(doT _ _ (c::ks) u).map λx=>yD .put t' k x|none=>none)=_
    rw[g];show(doT _ _ (c::ks) o).map _=_;rw[z];rfl
theorem zHd{i:Int}{u:T}(c:T.few u)(h:Eqc (.int i) u):u= .int i:=by
 cases u with
 |int j=>
  let z:xO (.int i) (.int j)=0:=h;rw[xO] at z;let e:j=i:=by
   unfold sgI at z;split at z<;>split at z<;>lia
  rw[e]
 |tup a=>exact c.elim|non=>exact absurd (yT h) (by simp[zN,C.ord])|bl b=>exact absurd (yT h) (by simp[zN,C.ord])|lst b=>exact absurd (yT h) (by simp[zN,C.ord])|str b=>exact absurd (yT h) (by simp[zN,C.ord])|dic d a=>exact absurd (yT h) (by simp[zN,C.ord])
theorem zGe{x:List Nat}{u:T}(c:T.few u)(h:Eqc (.str x) u):u= .str x:=by
 cases u with
 |str y=>
  let z:xO (.str x) (.str y)=0:=h;rw[zEo] at z;rw[(gJ _ _).mp z]
 |tup a=>exact c.elim|non=>exact absurd (yT h) (by simp[zN,C.ord])|bl b=>exact absurd (yT h) (by simp[zN,C.ord])|lst b=>exact absurd (yT h) (by simp[zN,C.ord])|int b=>exact absurd (yT h) (by simp[zN,C.ord])|dic d a=>exact absurd (yT h) (by simp[zN,C.ord])
theorem zFd{u:T}(c:T.few u)(h:Eqc .non u):u= .non:=by
 cases u with|non=>rfl|tup a=>exact c.elim|str y=>exact absurd (yT h) (by simp[zN,C.ord])|bl b=>exact absurd (yT h) (by simp[zN,C.ord])|lst b=>exact absurd (yT h) (by simp[zN,C.ord])|int b=>exact absurd (yT h) (by simp[zN,C.ord])|dic d a=>exact absurd (yT h) (by simp[zN,C.ord])
theorem zJy{b:Bool}{u:T}(d:T.few u)(h:Eqc (.bl b) u):u= .bl b:=by
 cases u with
 |bl c=>
  let z:xO (.bl b) (.bl c)=0:=h
  revert z
  cases b<;>cases c<;>first |(intro _;rfl)|(intro z;exact absurd z (by decide+kernel))
 |tup a=>exact d.elim|str y=>exact absurd (yT h) (by simp[zN,C.ord])|non=>exact absurd (yT h) (by simp[zN,C.ord])|lst b=>exact absurd (yT h) (by simp[zN,C.ord])|int b=>exact absurd (yT h) (by simp[zN,C.ord])|dic e a=>exact absurd (yT h) (by simp[zN,C.ord])
theorem zGx:∀(n:Nat)(t u:T),T.few t->T.few u->T.dep t<n->Eqc t u->Eqc u t
 |0,_,_,_,_,f,_=>absurd f (rA _)|n+1,t,u,d,c,f,h=>by
  cases t with
  |non=>rw[zFd c h];exact Eqc.refl d|bl b=>rw[zJy c h];exact Eqc.refl d|int i=>rw[zHd c h];exact Eqc.refl d|str x=>rw[zGe c h];exact Eqc.refl d|tup g=>exact d.elim|lst g=>
   obtain⟨v,rfl⟩:=kO h c;let z:=eqs_iff.mp h;let l:T.deps g+1<n+1:=f;refine eqs_iff.mpr {z.1.symm,λi a b p m=>?_};let:=b8 (mM m);exact zGx n b a (jS d.2 m) (jS c.2 p) ∅ (z.2 i b a m p)
  |dic s g=>
   obtain⟨j,v,rfl⟩:=gY h c;let l:T.deps g+1<n+1:=f;let P:=(wI d.1).mp h;let r:s.Perm j:=jD d.1 (λk w=>(P.2 k w).1) P.1.symm;refine(wI c.1).mpr {P.1.symm,λq o=>?_};let e:=r.mem_iff.mpr o;let:=b8 (yC e d.2.2.1);exact{e,zGx n _ _ (vF d.2.2.1 e d.2.2.2) (vF c.2.2.1 o c.2.2.2) ∅ (P.2 q e).2}
theorem zDz:∀(n:Nat)(t u v:T),T.few t->T.few u->T.few v->T.dep t<n->Eqc t u->Eqc u v->Eqc t v
 |0,_,_,_,_,_,_,k,_,_=>absurd k (rA _)|n+1,t,u,v,j,e,g,k,h,f=>by
  cases t with
  |non=>rw[zFd e h] at f;exact f|bl b=>rw[zJy e h] at f;exact f|int i=>rw[zHd e h] at f;exact f|str x=>rw[zGe e h] at f;exact f|tup l=>exact j.elim|lst l=>
   obtain⟨o,rfl⟩:=kO h e;obtain⟨E,rfl⟩:=kO f g;let z:=eqs_iff.mp h;let y:=eqs_iff.mp f;let r:T.deps l+1<n+1:=k;refine eqs_iff.mpr {z.1.trans y.1,λi a c m w=>?_};let:=b8 (mM m);let H:=(mS.mp m).1;let p:o[i]? =Y (o[i]'(z.1▸H)):=mP _;exact zDz n a _ c (jS j.2 m) (jS e.2 p) (jS g.2 w) ∅ (z.2 i _ _ m p) (y.2 i _ _ p w)
  |dic I l=>
   obtain⟨D,o,rfl⟩:=gY h e;obtain⟨B,E,rfl⟩:=gY f g;let r:T.deps l+1<n+1:=k;let P:=(wI j.1).mp h;let A:=(wI e.1).mp f;refine(wI j.1).mpr {P.1.trans A.1,λq s=>?_};obtain⟨a,b⟩:=P.2 q s;obtain⟨c,d⟩:=A.2 q a;let:=b8 (yC s j.2.2.1);exact{c,zDz n _ _ _ (vF j.2.2.1 s j.2.2.2) (vF e.2.2.1 a e.2.2.2) (vF g.2.2.1 c g.2.2.2) ∅ b d}
theorem Eqc.symm{t u:T}(b:T.few t)(a:T.few u)(h:Eqc t u):Eqc u t:=zGx (T.dep t+1) t u b a (tZ _) h
theorem Eqc.trans{t u v:T}(d:T.few t)(a:T.few u)(b:T.few v)(h:Eqc t u)(c:Eqc u v):Eqc t v:=zDz (T.dep t+1) t u v d a b (tZ _) h c
noncomputable def wK:List Dd->T->List Dd
 |[],_=>[]|d::a,t=>match doT d.1 d.2.2 d.2.1 t with
  |some r=>wK a r++ [bkD t d]|none=>[]
theorem gL{d:Dd}{ds:C4}{t r:T}(h:doT d.1 d.2.2 d.2.1 t=Y r):wK (d::ds) t=wK ds r++ [bkD t d]:=by
 show(match doT d.1 d.2.2 d.2.1 t with
  | some r=>wK ds r++ [bkD t d]|none=>[])=_
 rw[h]
theorem zZr{s:T}{d:Dd}:(bkD s d).2.1=d.2.1:=by
 obtain⟨w,a,n⟩:=d;unfold bkD;simp only
 cases atT a s with
 |none=>rfl|some g=>
  cases w with
  |ins=>rfl|put=>rfl|tak=>
   cases a.getLast? with|none=>rfl|some q=>cases q<;>rfl
theorem RJ.pre{m:Nat}{a b:C4}{s:T}(h:RJ m (a++b) s):RJ m a s:=by
 let f:=h.m1;let c:=h.z;rw[mL] at f c;exact{h.f,h.m0,∅,h.g,h.d,∅,λd e=>h.o d (pG _ e)}
theorem RJ.run:∀{a b:C4}{m:Nat}{s r:T},RJ m (a++b) s->xG a s=Y r->RJ (m+a...*) b r
 |[],b,m,s,r,h,e=>by cases e;exact h|d::a,b,m,s,r,h,e=>by
  cases c:doT d.1 d.2.2 d.2.1 s with
  |none=>
   rw[show xG (d::a) s=(doT d.1 d.2.2 d.2.1 s).bind (xG a) from O,c] at e;cases e
  |some q=>
   rw[jR c] at e;let z:=RJ.run (RJ.step (ds:=a++b) h c) e;rw[show m+(d::a)...*=m+1+a...* by rw[mX];lia];exact z
theorem zHv:∀(ds:C4)(m l:Nat)(t u b:T),RJ m ds t->xG ds t=Y u->RJ l (wK ds t) b->Eqc u b->∃t',xG (wK ds t) b=Y t'/\Eqc t t'
 |[],m,l,t,u,b,_,h,_,e=>by
  cases h;exact nEA b O e
 |d::ds,m,l,t,u,b,J,h,v,e=>by
  cases f:doT d.1 d.2.2 d.2.1 t with
  |none=>
   rw[show xG (d::ds) t=(doT d.1 d.2.2 d.2.1 t).bind (xG ds) from O,f] at h;cases h
  |some r=>
   rw[jR f] at h;rw[gL f] at v⊢;let a:=J.step f;obtain⟨w,z,E⟩:=zHv ds (m+1) l r u b a h v.pre e;let q:=v.run z;let o:=q.o _ mE;let x:=J.o d mE;let c:=J.few;let p:=a.few;let g:=q.few;obtain⟨A,y,L⟩:=zQq d.2.1 t r c (λk D=>(x.s k D).k) f;let N:=a.m1;let Q:=a.m0;let M:=a.z;obtain⟨H,-⟩:=zCb (m:=m+1) ∅ (b9 ∅ _ o.f) o.g _ _ _ y a.f a.g x.s ∅;let j:T.few A:=d3 ∅ _ H;obtain⟨s,I,B⟩:=zUs (Eqc.refl (d3 ∅ _ o.f)) d.2.1 r w A p g E y;let i:doT (bkD t d).1 (bkD t d).2.2 (bkD t d).2.1 w=Y s:=by rw[zZr];exact I
   let n:T.few s:=(q.step i).few;exact nEA s (by rw[zFn z];exact i) (Eqc.trans c j n (Eqc.symm j c L) B)
theorem zBy{k q:List Nat}{ks:C6}{u:T}{us:B0}(h:k≠q):zH q (k::ks) (u::us)=zH q ks us:=mK h
theorem zCw{k:List Nat}{ks:C6}{u:T}{us:B0}:zH k (k::ks) (u::us)=u:=mN O
theorem zLj{w:T}:∀{ks:C6}{ws:B0},ks.Nodup->ks...*=ws...*->w∈ws->∃q∈ks,zH q ks ws=w
 |[],[],_,_,h=>nomatch h|k::ks,u::g,f,c,h=>by
  obtain⟨a,b⟩:=pC.mp f;rcases mG.mp h with z | z
  ·exact nEA k mE (by rw[zCw,z])
  ·obtain⟨q,d,e⟩:=zLj b (Nat.succ.inj c) z
   exact nEA q (mI _ d) (by rw[zBy (λz:k=q=>a (z▸d))];exact e)
 |[],_::_,_,c,_=>nomatch c|_::_,[],_,c,_=>nomatch c
theorem zDj:∀{ks:C6}{us:B0},ks.Nodup->ks...*=us...*->qD us=(ks.map λk=>lsz (zH k ks us)).sum
 |[],[],_,_=>rfl|k::ks,u::us,e,c=>by
  obtain⟨a,b⟩:=pC.mp e;show lsz u+qD us=lsz (zH k (k::ks) (u::us))+(ks.map λq=>lsz (zH q (k::ks) (u::us))).sum;rw[zCw,zDj b (Nat.succ.inj c)]
  congr 2
  refine rL λq d=>?_;rw[zBy (λz:k=q=>a (z▸d))]
 |[],_::_,_,c=>nomatch c|_::_,[],_,c=>nomatch c
theorem zKn{u:T}:∀{us:B0},u∈us->jN u<=wC us
 |t::us,h=>by
  show jN u<=max (jN t) (wC us);rcases mG.mp h with z | z
  ·rw[z];lia
  ·let:=zKn z;lia
theorem zGh{d:Nat}:∀{us:B0},(∀u∈us,jN u<=d)->wC us<=d
 |[],_=>nJ _|t::us,h=>by
  let a:=h t mE;let b:=zGh λu c=>h u (mI _ c);show max (jN t) (wC us)<=d
  lia
theorem lnars_iff:∀{us:B0},yX us=true↔∀u∈us,lnar u=true
 |[]=>{λ_ _ h=>(nomatch h),λ_=>O}|t::us=>by
  show(lnar t && yX us)=true↔_;rw[nH,lnars_iff (us:=us),List.forall_mem_cons]
theorem zNi:∀{us ws:B0},us...*=ws...*->(∀(i:Nat) t t',us[i]? =Y t->ws[i]? =Y t'->lsz t=lsz t')->qD us=qD ws
 |[],[],_,_=>rfl|u::us,w::ws,a,h=>by
  show lsz u+qD us=lsz w+qD ws;rw[h 0 u w O O,zNi (Nat.succ.inj a) λi t t' b c=>h (i+1) t t' b c]
 |[],_::_,a,_=>nomatch a|_::_,[],a,_=>nomatch a
theorem zYp:∀(n:Nat)(t u:T),T.few t->T.few u->T.dep t<n->Eqc t u->lsz t=lsz u/\jN u<=jN t/\(lnar t=true->lnar u=true)
 |0,_,_,_,_,B,_=>absurd B (rA _)|n+1,t,u,p,c,B,h=>by
  cases t with
  |non=>rw[zFd c h];exact{O,mC _,id}|bl b=>rw[zJy c h];exact{O,mC _,id}|int i=>rw[zHd c h];exact{O,mC _,id}|str x=>rw[zGe c h];exact{O,mC _,id}|tup d=>exact p.elim|lst d=>
   obtain⟨g,rfl⟩:=kO h c;let z:=eqs_iff.mp h;let H:T.deps d+1<n+1:=B;let m:∀(i:Nat) a b,d[i]? =Y a->g[i]? =Y b->lsz a=lsz b/\jN b<=jN a/\(lnar a=true->lnar b=true):=λi a b A D=>by
    let:=b8 (mM A);exact zYp n a b (jS p.2 A) (jS c.2 D) ∅ (z.2 i a b A D)
   let o:∀w∈g,∃a∈d,lsz a=lsz w/\jN w<=jN a/\(lnar a=true->lnar w=true):=λw l=>by
    obtain⟨i,N⟩:=aP.mp l;let hl:=(mS.mp N).1;let M:d[i]? =Y (d[i]'(z.1▸hl)):=mP _;exact nEA _ (mM M) (m i _ w M N)
   refine nAA ?_ ?_ (λI=>?_)
   ·show qD d+1=qD g+1
    rw[zNi z.1 λi a b A D=>(m i a b A D).1]
   ·show wC g+1<=wC d+1
    refine rK (zGh λw l=>?_);refine vN (o w l) λa s _ e _=>?_;exact pB e (zKn s)
   ·let f:(decide (d...*<=60)&& yX d)=true:=I
    rw[nH] at f;show(decide (g...*<=60)&& yX g)=true;rw[nH,<-z.1];refine{f.1,lnars_iff.mpr λw l=>?_};refine vN (o w l) λa s _ _ e=>?_;exact e (lnars_iff.mp f.2 a s)
  |dic v d=>
   obtain⟨j,g,rfl⟩:=gY h c;let H:T.deps d+1<n+1:=B;let P:=(wI p.1).mp h;let E:v.Perm j:=jD p.1 (λk Q=>(P.2 k Q).1) P.1.symm;let m:∀q∈v,lsz (zH q v d)=lsz (zH q j g)/\jN (zH q j g)<=jN (zH q v d)/\(lnar (zH q v d)=true->lnar (zH q j g)=true):=λq r=>by
    let:=b8 (yC r p.2.2.1);exact zYp n _ _ (vF p.2.2.1 r p.2.2.2) (vF c.2.2.1 (E.mem_iff.mp r) c.2.2.2) ∅ (P.2 q r).2
   let o:∀w∈g,∃a∈d,jN w<=jN a/\(lnar a=true->lnar w=true):=λw l=>by
    obtain⟨q,r,e⟩:=zLj c.1 c.2.2.1 l;let y:=E.mem_iff.mpr r;obtain⟨_,J,L⟩:=m q y;rw[e] at J L;exact zTb _ (yC y p.2.2.1) J L
   refine nAA ?_ ?_ (λI=>?_)
   ·show qD d+1=qD g+1
    rw[zDj p.1 p.2.2.1,zDj c.1 c.2.2.1,rL λq r=>(m q r).1,(E.map _).sum_nat]
   ·show wC g+1<=wC d+1
    refine rK (zGh λw l=>?_);refine xE (o w l) λa s e _=>?_;exact pB e (zKn s)
   ·let f:(decide (v...*<=30)&& yX d)=true:=I
    rw[nH] at f;show(decide (j...*<=30)&& yX g)=true;rw[nH,<-P.1];refine{f.1,lnars_iff.mpr λw l=>?_};refine xE (o w l) λa s _ e=>?_;exact e (lnars_iff.mp f.2 a s)
theorem Eqc.good{t u:T}(f:T.few t)(e:T.few u)(h:Eqc t u)(d:xM t=true):xM u=true:=by
 obtain⟨a,b,c⟩:=zYp (T.dep t+1) t u f e (tZ _) h;unfold xM at d⊢;rw[nH,nH,nX,nX] at d⊢;exact{{c d.1.1,cX b d.1.2},a▸d.2}
theorem zPx{t u:T}{k:Key}{ks:B8}(h:zR t k=Y u):goT t (k::ks)=t::goT u ks:=by
 show(match zR t k with | none=>[t] | some u=>t::goT u ks)=_
 rw[h]
theorem yBv{t:T}{k:Key}{ks:B8}(h:zR t k=none):goT t (k::ks)= [t]:=by
 show(match zR t k with | none=>[t] | some u=>t::goT u ks)=_
 rw[h]
theorem zVf:∀(ks:B8)(t:T),lds t ks->atT ks t=(goT t ks).getLast?
 |[],t,_=>rfl|k::ks,t,h=>by
  let a:(k::ks)...*<(goT t (k::ks))...*:=h;show(zR t k).bind (atT ks)=_
  cases b:zR t k with
  |none=>rw[yBv b] at a;exact absurd a (by simp)|some u=>
   rw[zPx b] at a⊢;let d:lds u ks:=Nat.lt_of_succ_lt_succ a;show atT ks u=_;rw[zVf ks u d,List.getLast?_cons];obtain⟨x,c,_⟩:=jZ u ks;rw[c];rfl
theorem zQc:∀(ks:B8)(t:T),¬lds t ks->atT ks t=none
 |[],t,h=>absurd (show[]...*< [t]...* from Nat.zero_lt_one) h|k::ks,t,h=>by
  show(zR t k).bind (atT ks)=_
  cases a:zR t k with
  |none=>rfl|some u=>
   refine zQc ks u λb=>h ?_;show(k::ks)...*<(goT t (k::ks))...*;rw[zPx a];exact Nat.succ_lt_succ b
end K48
namespace K48
open PySem L2 PySem.W
seal L2.PSs L2.PS L2.PE L2.PT L2.PW L2.PA L2.PI L2.PG L2.PGs L2.PPs L2.PTs
abbrev sBk1:V6:=top 49
theorem zUy:∀(ks:B8)(s u:T),T.few s->T.gk s->atT ks s=Y u->T.gk u
 |[],s,u,_,c,h=>by cases h;exact c|k::ks,s,u,d,c,h=>by
  let a:(zR s k).bind (atT ks)=Y u:=h
  cases b:zR s k with|none=>rw[b] at a;cases a|some t=>rw[b] at a;exact zUy ks t u (kK d b) (zQu d c b) a
section
variable{P:V3}{w:V4}{K:PySem.W.Frag}{mg:C8}{base:V5}{f:V1}{fd:V7}{C3:V1}
def yCp(C3:V1):Sp:=λe H Q E=>∃(v x:V)(s r:T)(d:Dd),e= [v,x]/\Rep H v s/\T.few s/\T.gk s/\T.dep s<=16/\T.sz s<=5000/\Dlay H x d/\(∀k∈d.2.1,okS k)/\d.2.1...*<=8/\doT d.1 d.2.2 d.2.1 s=Y r/\
 ((∀g,atT d.2.1 s=Y g->d.1≠ .ins->xM g=true)->∀c D a,Same H a->Sp1 a c (ddT (bkD s d)) D->(∀b∈D,H b=none)->Q c a)/\
 (∀g,atT d.2.1 s=Y g->d.1≠ .ins->xM g=false->∀a,Same H a->E (.ref C3) none a)
theorem yGf(F:Fun K "deed_back" "deed_back" sBk1 f fd)(B:Bl mg)(ah:Dn P w K mg base 22 "has" ["thing","path"] yCy)(m:Dn P w K mg base 22 "thing_at" ["thing","path"] spTa)(I:Dx aC P w K mg base 22 "sound" ["thing"] (zYy C3)):FnOk P w K mg base (CXE aC P w) 23 f fd ["stand","deed"] (yCp C3):=by
 refine F.okxn (N:=["stand","deed","word","path","gone"]) λaq A ak s H vs Q E nd hr h=>?_;obtain⟨v,x,s,r,d,rfl,hv,hf,hg,hd,hz,⟨tp,pd,rr,rfl,hp,ao,ap⟩,ag,ae,am,q,qx⟩:=h;refine{_,(zC (pS 2 nd (pX kC (pv 1) zE))
  (zC (pS 3 nd (yW zDa O B.list wA (zA (pX kC (pv 1) zE) zB)))
  (zC (zT (i8 (zBb (pT xD (pv 2) zP) (zAl (wJ (yG (pD ah hr (zA (pv 0) (zA (pv 3) zB)))))))) (zG (zJ (vX (zA zP (zA (pv 3) zB))))) zL)
  (zC (pS 4 nd (zGc I hr ∅ O lvs (zA (pD m hr (zA (pv 0) (zA (pv 3) zB))) zB)))
  (zC (zT (i8 (vZ (pT xD (pv 2) zP) (qE (wJ (yG (pI B.isinstance zK B.str qP (pX zU (pv 3) (xW xH zE)))))))) (zG (zJ (vX (zA zP (zA (pv 3) (zA (pv 4) zB)))))) zL)
  (zG (zJ (vX (zA zP (zA (pv 3) (zA (pv 4) zB))))))))))), ?_}
 walk_at "st";lk;obtain⟨J,a,n⟩:=d;refine qO (SqT.of hp) (yI (j:=0) O) (qO (SqT.of hp) (yI (j:=1) O) {pd,O,_, .inl (SqL.of ao),λl hl=>{O, ?_}});show(if V.str J.s=V.str (A5 "insert") then _ else _);let M:Same H (upd H l (.lst (a.map kV))):=zF hl _;let af:∀{H2:Hp}{p:V1},Same (upd H l (.lst (a.map kV))) H2->H2 p=none->l≠p:=λg h z=>by rw[<-z,g _ _ zD] at h;cases h
 let ac:bkD s (J,a,n)=(.tak,a, .non)->(∀g,atT a s=Y g->J≠ .ins->xM g=true)->∀H2,Same (upd H l (.lst (a.map kV))) H2->∀p,H2 p=none->Q (.ref p) (upd H2 p (.tup [.str (A5 "take"), .ref l])):=λeb pr H2 g2 p t=>by
  refine q pr _ [p,l] _ ((M.trans g2).trans (zF t _)) ?_ λb hb=>?_
  ·rw[eb];exact zPk zD (by rw[zM (af g2 t)];exact g2 _ _ zD)
  ·rcases mG.mp hb with z | z
   ·rw[z];exact zQ (M.trans g2) t
   ·rw[mH.mp z];exact hl
 by_cases hw:J= .ins
 ·subst hw
  refine iP O λp t=>ac ?_ (λ_ _ z=>absurd O z) _ (Same.refl _) p t;unfold bkD;simp only;cases atT a s<;>rfl
 ·refine iN (λz=>hw ?_) ?_
  ·cases J with|ins=>rfl|put=>exact absurd z ∎|tak=>exact absurd z ∎
  ·refine{v,s,l,a,O,Rep.same M _ _ hv,qF 16 s hd hf,∅,zD,λk L=>(ag k L).k,ae,λH2 g2=>{_,O, ?_}}
   by_cases hL:lds s a
   ·rw[nF (show a...*<(goT s a)...* from hL)]
    refine iN ∎ ?_;refine oEA (jZ s a) λu hu al=>?_;refine oAA (zJk a s u hf al) λfu du zu=>?_;let ha:atT a s=Y u:=(zVf a s hL).trans hu;refine{v,s,l,a,O,{Rep.same (M.trans g2) _ _ hv,hf,hd,hz,g2 _ _ zD,λk L=>(ag k L).k,ae},hL,λu' y H3 D e3 g3 hy hD=>?_};obtain rfl:u=u':=mQ (hu.symm.trans e3);refine{y,u,O,Sp1.rep _ _ _ hy,zUy a s u hf hg ha,fu,∅,λab H4 g4=>{O, ?_},λai H4 g4=>qx u ha hw ai H4 (((M.trans g2).trans g3).trans g4)};let aa:∀w':Wd,w'≠ .tak->bkD s (J,a,n)=(w',a,u)->∀H5,Same H4 H5->∀p,H5 p=none->Q (.ref p) (upd H5 p (.tup [.str w'.s, .ref l,y])):=λw' an eb H5 g5 p c=>by
     let gA:Same (upd H l (.lst (a.map kV))) H5:=(g2.trans g3).trans (g4.trans g5);let g9:=zF c (HO.tup [V.str w'.s,V.ref l,y]);refine q (λg e _=>by rw[ha] at e;cases e;exact ab) _ (p::l::D) _ ((M.trans gA).trans g9) ?_ λb hb=>?_
     ·rw[eb]
      refine zKj an zD (g9 _ _ (gA _ _ zD)) ((hy.same (g4.trans g5)).same g9) (λz=>?_) λz=>?_
      ·obtain⟨o,ho⟩:=Sp1.there _ _ _ (hy.same (g4.trans g5)) z
       rw[c] at ho;cases ho
      ·let e:=hD l z
       rw[g2 _ _ zD] at e;cases e
     ·rcases mG.mp hb with z | z
      ·rw[z];exact zQ (M.trans gA) c
      ·rcases mG.mp z with z | z
       ·rw[z];exact hl
       ·exact zQ (M.trans g2) (hD b z)
    show(if V.str J.s=V.str (A5 "take") then _ else _)
    cases J with
    |ins=>exact absurd O hw|put=>
     refine iN ∎ λp c=>aa .put (by intro z;cases z) ?_ _ (Same.refl _) p c;unfold bkD;simp only[ha]
    |tak=>
     refine iP O ?_
     cases L:a.getLast? with
     |none=>
      let e:a= []:=bA.mp L;subst e;cases am
     |some k=>
      let aj:(a.map kV).getLast? =Y (kV k):=by rw[List.getLast?_map,L];rfl
      refine yH (SqL.of (g4 _ _ (g3 _ _ (g2 _ _ zD)))) (zCn aj) ?_
      cases k with
      |inl i=>
       refine nEA _ O (iP ∎ λp c=>aa .ins (by intro z;cases z) ?_ _ (Same.refl _) p c);unfold bkD;simp only[ha,L]
      |inr z=>
       refine nEA _ O (iN ∎ λp c=>aa .put (by intro z;cases z) ?_ _ (Same.refl _) p c);unfold bkD;simp only[ha,L]
   ·rw[nP (show¬a...*<(goT s a)...* from hL)]
    refine iP O λp t=>ac ?_ (λg e=>by rw[zQc a s hL] at e;cases e) _ g2 p t;unfold bkD;simp only[zQc a s hL]
end
end K48
namespace K48
open PySem L2 PySem.W
seal L2.PSs L2.PS L2.PE L2.PT L2.PW L2.PA L2.PI L2.PG L2.PGs L2.PPs L2.PTs
abbrev yDo:V6:=top 48
noncomputable def gn1(s:T)(d:Dd):Bool:=match atT d.2.1 s with
 |none=>true|some g=>match d.1 with
  |.ins=>true|_=>xM g
theorem gn1_all{s:T}{d:Dd}:gn1 s d=true↔∀g,atT d.2.1 s=Y g->d.1≠ .ins->xM g=true:=by
 unfold gn1
 cases atT d.2.1 s with
 |none=>exact{λ_ g e=>(nomatch e),λ_=>O}|some u=>
  cases a:d.1 with|ins=>exact{λ_ g _ z=>absurd O z,λ_=>O}|put=>exact{λh g e _=>by cases e;exact h,λh=>h u O (by intro z;cases z)}|tak=>exact{λh g e _=>by cases e;exact h,λh=>h u O (by intro z;cases z)}
noncomputable def gns:List Dd->T->Bool
 | [],_=>true|d::a,t=>gn1 t d && (match doT d.1 d.2.2 d.2.1 t with
  | some r=>gns a r|none=>true)
theorem zFi{d:Dd}{ds:C4}{t r:T}(h:doT d.1 d.2.2 d.2.1 t=Y r):gns (d::ds) t=(gn1 t d && gns ds r):=by
 show(gn1 t d && (match doT d.1 d.2.2 d.2.1 t with
  | some r=>gns ds r|none=>true))=_
 rw[h]
theorem zIy:∀(ds:C4)(k m:Nat)(t r:T),wH k ds t= .inr r->RJ m ds t->(stands ds t)...*=ds...*+1/\(wK ds t)...*=ds...*/\
  ∀(i:Nat) d,ds[i]? =Y d->∃s q g,(stands ds t)[i]? =Y s/\doT d.1 d.2.2 d.2.1 s=Y q/\RJ g (d::ds.drop (i+1)) s/\(wK ds t).reverse[i]? =Y (bkD s d)/\(gn1 s d=false->gns ds t=false)
 |[],k,m,t,r,h,J=>{O,O,λi d e=>by cases e}|d0::ds,k,m,t,r,h,J=>by
  cases f:doT d0.1 d0.2.2 d0.2.1 t with
  |none=>rw[qZ f] at h;cases h|some q=>
   rw[qK f] at h;obtain⟨a,b,c⟩:=zIy ds (k+1) (m+1) q r h (J.step f);rw[zAt f,gL f,zFi f];refine nAA (by rw[mX,a];rfl) (by rw[mL,b];rfl) (λi d e=>?_);rw[List.reverse_append]
   cases i with
   |zero=>
    cases e;exact gD t q m O f (nAA J O (λz=>by rw[z];rfl))
   |succ i=>
    refine yB (c i d e) λs n g p j v=>?_;ext oAA v o u l;exact gD s n g p j (nAA o u (λz=>by rw[l z,bP]))
theorem zPy:∀(ds:C4)(k:Nat)(t r:T),wH k ds t= .inr r->(∀(i:Nat) d s,ds[i]? =Y d->(stands ds t)[i]? =Y s->gn1 s d=true)->gns ds t=true
 |[],k,t,r,h,_=>rfl|d0::ds,k,t,r,h,z=>by
  cases a:doT d0.1 d0.2.2 d0.2.1 t with
  |none=>rw[qZ a] at h;cases h|some q=>
   rw[qK a] at h;rw[zFi a,z 0 d0 t O (by rw[zAt a];rfl),zPy ds (k+1) q r h λi d s c b=>z (i+1) d s c (by rw[zAt a];exact b)]
   rfl
theorem l9{H:Hp}:∀{vs:B3}{ts:B0}{D:B9},Sps H vs ts D->∃a,Sps H vs.reverse ts.reverse a/\∀b∈a,b∈D
 |vs,[],D,e=>by
  obtain⟨c,d⟩:=e;subst c d;exact nEA ([]) ⟨O,O⟩ (λ_ z=>z)
 |vs,t::ts,D,⟨v,r,i,l,c,d,k,j,n⟩=>by
  subst c d;obtain⟨a,h,g⟩:=l9 j;rw[tU,tU];refine nEA (a++i) (Sps.snoc k h λb f z=>n b z (g b f)) (λb f=>(mZ.mp f).elim (λz=>nN _ (g b z)) λz=>pG _ z)
section
variable{P:V3}{w:V4}{K:PySem.W.Frag}{mg:C8}{base:V5}{f:V1}{fd:V7}{C2 C3:V1}
def zFo(C2 C3:V1):Sp:=λh H Q E=>∃(v:V)(g:V1)(e:B3)(t:T)(a:C4)(m:Nat),h= [v, .ref g]/\Rep H v t/\H g=Y (.lst e)/\Dlays H e a/\RJ m a t/\
 (∀r,wH 0 a t= .inr r->xM r=true->gns a t=true->∀l d D c,Same H c->H l=none->c l=Y (.lst d)->Sps c d ((wK a t).map ddT) D->(∀b∈D,H b=none/\b≠l)->Q (.ref l) c)/\
 (∀r,wH 0 a t= .inr r->(xM r && gns a t)=false->∀c,Same H c->E (.ref C3) none c)/\(∀i:Nat,wH 0 a t= .inl i->XNo C2 (i:Int) H E)
theorem zQd(F:Fun K "back" "back" yDo f fd)(B:Bl4 mg)(aj:mg "reversed" =none)(e:Dx aC P w K mg base 25 "stands_of" ["thing","paper"] (yGp C2 C3))(k:Dx aC P w K mg base 25 "deed_back" ["stand","deed"] (yCp C3)):FnOk P w K mg base (CXE aC P w) 26 f fd ["thing","paper"] (zFo C2 C3):=by
 refine F.okxn (N:=["thing","paper","stands","deeds"]) λa4 A ap s H vs Q E nd hr h=>?_;ext yA h v pa xs t I J;ext wQ J m am hv ah hD J;ext yZ J hI q qx qn;subst am;refine{_,(zC (zDy (i:=2) nd O (bY O) (zGc e hr ∅ O lvs (zA (pv 0) (zA (pv 1) zB))))
  (zC (zXq (i:=3) nd O (nZ O) (own:=["number","deed"]) (F:=[("stands",2)]) {O,tb_g%,tb_g%,tb_g%,(.cons O O O .nil)} O (zKb O B.enumerate (zA (pv 1) zB)) (λ_ _ _ _=>zJn (K:=K) (n:=2) O O (vP (yF (i:=0) (by show(wM ["number","deed"] [("stands",2)]).Nodup;decide+kernel) O (nZ O)) (vP (yF (i:=1) (by show(wM ["number","deed"] [("stands",2)]).Nodup;decide+kernel) O (nZ O)) zCh))) (λ_ _ _ _=>xT) (λ_ _ _ _ _ _ hp=>(zWv k hr ∅ O hp (zA (pX (zNh (K:=K) O) (pv 2) (pv 0)) (zA (pv 1) zB)))) lvs)
  (zG (zJ (zOl O O B.list O aj (pv 3)))))), ?_}
 walk_at "st";unfold zWt;lk;refine{v,pa,xs,t,I,O,hv,ah,hD, .inl ⟨m,hI⟩,λr c hg l ys y H1 g1 hl hy a0 aw hz hR=>?_,λr c hg=>qx r c (by rw[hg];rfl),qn};refine oAA (zIy I 0 m t r c hI) λa1 a2 a3=>?_;let ay:=hD.1;let a5:=hI.m1;let a6:=hR...*;refine{{_,SqL.of (g1 _ _ ah)}, ?_};refine zIr (K:=K) (xs:=xs) (λi M H'=>Same H1 H'/\(∀(j:Nat) d s,j<i->I[j]? =Y d->(stands I t)[j]? =Y s->gn1 s d=true)/\∃D,Sps H' M (((wK I t).reverse.take i).map ddT) D/\∀b∈D,H1 b=none) (by rw[mV];lia) {Same.refl _,(λj d s h=>absurd h (rA _)),[],⟨O,O⟩,λ_ h=>nomatch h} (λi M H' _ h=>SqL.of (h.1 _ _ (g1 _ _ ah))) ?_ ?_
 ·intro i x M H2 p hx _ J
  ext yDl J g2 ag D hS aa;intro hp;let az:=(mS.mp hx).1;let af:I[i]? =some I[i]:=mP ∅;refine yB (a3 i _ af) λs q' m' b1 b2 J=>?_;ext oAA J b3 b4 b5;let L:=zF hp (.tup [V.int (i:Int),x]);let g3:=g2.trans L;let ai:=hS.same L;generalize upd H2 p (.tup [V.int (i:Int),x])=H3 at L g3 ai⊢;let ac:(ys++ [y])[i]? =Y ((ys++ [y])[i]'∅):=mP _;generalize (ys++ [y])[i]'∅=sv at ac;refine oEA (hR.get ac) λs' au av=>?_;obtain rfl:s=s':=mQ (b1.symm.trans au);let a7:=b3.z;let ax:=b3.d;let od:=b3.o _ mE;lk;refine yH (SqL.of (g3 _ _ hl)) (yI ac) ⟨sv,x,s,q',I[i],O,Rep.same g3 _ _ av,b3.few,b3.g,∅,∅,((hD.2 i x _ hx af).same g1).same g3,od.s,od.l,b2,λao v' D' H4 g4 al ak=>?_,λg e1 e2 e3 H4 g4 a o ha=>?_⟩
  ·let an:gn1 s I[i]=true:=gn1_all.mpr ao
   refine nAAEA (g3.trans g4) (λj d u hj h1 h2=>?_) (D++D') ?_ (λb hb=>(mZ.mp hb).elim (aa b) λz=>zQ g3 (ak b z))
   ·rcases(show j<i\/j=i by lia) with z | z
    ·exact ag j d u z h1 h2
    ·subst z
     rw[af] at h1;rw[b1] at h2;cases h1;cases h2;exact an
   ·rw[yP b4,mU]
    refine Sps.snoc al (ai.same g4) λb hb z=>?_;obtain⟨o,ho⟩:=Sps.there _ _ _ ai hb;rw[ak b z] at ho;cases ho
  ·let aq:gn1 s I[i]=false:=by
    cases hc:gn1 s I[i] with|false=>rfl|true=>rw[gn1_all.mp hc g e1 e2] at e3;cases e3
   exact qx r c (by rw[b5 aq,bP]) _ (g1.trans (g3.trans (g4.trans (zF ha o))))
 ·intro M H2 _ J
  ext yDl J g2 ag D hS aa;intro p hp;rw[sK (by rw[pJ];lia)] at hS;refine oEA (l9 hS) λD' ae ar=>?_;rw[<-List.map_reverse,List.reverse_reverse] at ae;let L:=zF hp (.lst M);refine{p,M,O,SqL.of zD,λp2 ab=>?_};let s4:=zF ab (.lst M.reverse);refine q r c hg (zPy I 0 t r c λj d u h1 h2=>ag j d u (by let:=(mS.mp h1).1;lia) h1 h2) p2 _ D' _ (g1.trans (g2.trans (L.trans s4))) (zQ (g1.trans (g2.trans L)) ab) zD ((ae.same L).same s4) λb hb=>{zQ g1 (aa b (ar b hb)),λz=>?_};obtain⟨o,ho⟩:=Sps.there _ _ _ (ae.same L) hb;rw[z,ab] at ho;cases ho
end
end K48
namespace K48
open PySem L2
seal L2.PSs L2.PS L2.PE L2.PT L2.PW L2.PA L2.PI L2.PG L2.PGs L2.PPs L2.PTs
abbrev sDf:V6:=top 51
theorem yBa(ds:C4):ds.map (pfx [])=ds:=by
 let:∀d:Dd,pfx [] d=d:=λd=>O;rw[rL λd _=>this d,List.map_id']
section
variable{P:V3}{w:V4}{K:A6}{mg:C8}{base:V5}{f:V1}{fd:V7}
def spDf:Sp:=λg H Q _=>∃(e c:V)(t u:T),g= [e,c]/\Rep H e t/\Rep H c u/\ThI t/\ThI u/\∀l d D a,Same H a->H l=none->a l=Y (.lst d)->Sps a d ((dfT 20 t u).map ddT) D->(∀b∈D,H b=none/\b≠l)->Q (.ref l) a
theorem ok_df{k:Nat}(F:Fun K "difference" "difference" sDf f fd)(c:Dn P w K mg base k "deeds_between" ["old","new","path"] (zUf 20)):FnOk P w K mg base CX0 (k+1) f fd ["old","new"] spDf:=by
 refine F.okn (N:=["old","new"]) λB A p s H vs Q E nd hr h=>?_;ext yN h vo vn t u j z_;ext wY z_ M hn i g q;subst j;refine{_,(zG (zJ (pD c hr (zA (pv 0) (zA (pv 1) (zA (yM zB) zB)))))), ?_};walk_at "st";lk;intro n e;let d:=zF e (.lst []);let v:=zD (H:=H) (a:=n) (o:=.lst []);generalize upd H n (.lst [])=H1 at d v⊢;let hd:=i.d;let aa:=g.d;let hz:=i.z;let J:=g.z;let hc:=zKq 20 t u i.g.f g.g.f;let I:=zFw (dfT 20 t u);refine{vo,vn,n,t,u,[],O,Rep.same d _ _ M,Rep.same d _ _ hn,v,{i.g.f,g.g.f,∅,∅,∅,∅,by show 0+T.dep t<=100;lia},∅,∅,λl ys D H2 g2 L m r y=>?_};rw[yBa] at r;refine q l ys D H2 (d.trans g2) (zQ d L) m r λb x=>{?_,(y b x).2};rcases(y b x).1 with z | z
 ·exact zQ d z
 ·rw[z];exact e
end
structure Og(d:Dd):Prop where
 o:Od d
 g:d.1≠ .tak->xM d.2.2=true
theorem zUk{t u:T}{k:Key}(h:zR t k=Y u):(∃us i,t= .lst us/\k= .inl i)\/∃a us z,t= .dic a us/\k= .inr z:=by
 cases t with
 |lst us=>
  cases k with|inl i=>exact .inl ⟨us,i,O,O⟩|inr z=>cases h
 |dic a us=>
  cases k with|inl i=>cases h|inr z=>exact .inr ⟨a,us,z,O,O⟩
 |_=>cases k<;>cases h
theorem at_in{ks:B8}{s:T}(e:T.few s):T.few ((atT ks s).getD .non)/\T.dep ((atT ks s).getD .non)<=T.dep s/\T.sz ((atT ks s).getD .non)<=max 1 (T.sz s):=by
 by_cases b:lds s ks
 ·obtain⟨u,c,a⟩:=jZ s ks
  obtain⟨d,f,g⟩:=zJk ks s u e a;rw[zVf ks s b,c];exact nAA d (by show T.dep u<=_;lia) (by show T.sz u<=_;lia)
 ·rw[zQc ks s b]
  exact nAA mT (nJ _) (by show 1<=_;lia)
mutual
theorem zJu:∀t:T,T.few t->lsz t=T.sz t/\jN t=T.dep t
 |.lst c,h=>by
  obtain⟨a,b⟩:=zGd c h.2;exact{congrArg (· +1) a,congrArg (· +1) b}
 |.dic ks c,h=>by
  obtain⟨a,b⟩:=zGd c h.2.2.2;exact{congrArg (· +1) a,congrArg (· +1) b}
 |.tup _,h=>h.elim|.non,_=>⟨O,O⟩|.bl _,_=>⟨O,O⟩|.int _,_=>⟨O,O⟩|.str _,_=>⟨O,O⟩
theorem zGd:∀us:List T,d8 us->qD us=T.szs us/\wC us=T.deps us
 |[],_=>⟨O,O⟩|t::us,h=>by
  obtain⟨a,b⟩:=zJu t h.1;obtain⟨c,d⟩:=zGd us h.2;exact{by show lsz t+qD us=T.sz t+T.szs us;rw[a,c],by show max (jN t) (wC us)=max (T.dep t) (T.deps us);rw[b,d]}
end
mutual
theorem zIe:∀t:T,T.few t->lnar t=true->T.fewm 30 t
 |.lst b,h,n=>by
  let a:(decide (b...*<=60)&& yX b)=true:=n;rw[nH] at a;exact{h.1,zAd b h.2 a.2}
 |.dic ks b,h,n=>by
  let a:(decide (ks...*<=30)&& yX b)=true:=n;rw[nH,nX] at a;exact{h.1,a.1,h.2.2.1,zAd b h.2.2.2 a.2}
 |.tup _,h,_=>h.elim|.non,_,_=>mT|.bl _,_,_=>mT|.int _,_,_=>mT|.str _,_,_=>mT
theorem zAd:∀us:List T,d8 us->yX us=true->d7 30 us
 |[],_,_=>mT|t::us,h,n=>by
  let a:(lnar t && yX us)=true:=n;rw[nH] at a;exact{zIe t h.1 a.1,zAd us h.2 a.2}
end
theorem vS{t:T}(c:T.few t)(h:xM t=true):T.fewm 30 t/\T.dep t<=8/\T.sz t<=200:=by
 unfold xM at h;rw[nH,nH,nX,nX] at h;obtain⟨a,b⟩:=zJu t c;exact nAA (zIe t c h.1.1) ∅ ∅
theorem zNr:∀(ds:C4)(k:Nat)(t u:T),wH k ds t= .inr u->xG ds t=Y u
 |[],k,t,u,h=>by cases h;rfl|d::ds,k,t,u,h=>by
  cases a:doT d.1 d.2.2 d.2.1 t with|none=>rw[qZ a] at h;cases h|some q=>rw[qK a] at h;rw[jR a];exact zNr ds (k+1) q u h
theorem zQh:∀(ds:C4)(k:Nat)(t u:T),xG ds t=Y u->wH k ds t= .inr u
 |[],k,t,u,h=>by cases h;rfl|d::ds,k,t,u,h=>by
  cases a:doT d.1 d.2.2 d.2.1 t with
  |none=>
   rw[show xG (d::ds) t=(doT d.1 d.2.2 d.2.1 t).bind (xG ds) from O,a] at h;cases h
  |some q=>rw[jR a] at h;rw[qK a];exact zQh ds (k+1) q u h
theorem zVw{s g:T}{k:Key}(e:T.few s)(h:zR s k=Y g):1+T.dep g<=T.dep s:=by
 rcases zUk h with⟨b,i,rfl,rfl⟩|⟨d,b,z,rfl,rfl⟩
 ·let a:b[i.toNat]? =Y g:=h
  let:=b8 (mM a);show 1+T.dep g<=T.deps b+1
  lia
 ·let a:(if ts z∈d then Y (zH (ts z) d b) else none)=Y g:=h
  by_cases c:ts z∈d
  ·rw[mN c] at a
   cases a;let:=b8 (yC c e.2.2.1);show 1+T.dep _<=T.deps b+1
   lia
  ·rw[mK c] at a;cases a
theorem zWp:∀(ks:B8)(s g:T),T.few s->atT ks s=Y g->ks...*+T.dep g<=T.dep s
 |[],s,g,_,h=>by cases h;simp|k::ks,s,g,e,h=>by
  let c:(zR s k).bind (atT ks)=Y g:=h
  cases d:zR s k with
  |none=>rw[d] at c;cases c|some u=>
   rw[d] at c;let a:=zVw e d;let b:=zWp ks u g (kK e d) c;rw[mX]
   lia
theorem bk_og{s:T}{d:Dd}(l:T.few s)(r:T.gk s)(t:T.dep s<=15)(o:Od d)(h:gn1 s d=true):Og (bkD s d):=by
 let p:=gn1_all.mp h;let u:=o.l;let tak:Og (.tak,d.2.1, .non):={{o.s,o.l,mT,mT,by show d.2.1...*+0<=15;lia,by show 1<=200;decide},λz=>absurd O z};let f:∀g w,atT d.2.1 s=Y g->xM g=true->Og (w,d.2.1,g):=λg w e i=>by
  obtain⟨m,_⟩:=at_in (ks:=d.2.1) l;rw[e] at m;obtain⟨a,b,c⟩:=vS m i;let:=zWp _ s g l e;exact{{o.s,o.l,b9 ∎ _ a,zUy _ s g l r e,by show d.2.1...*+T.dep g<=15;lia,c},λ_=>i}
 unfold bkD
 cases k:atT d.2.1 s with
 |none=>exact tak|some g=>
  let j:=p g k
  cases n:d.1 with
  |ins=>exact tak|put=>exact f g _ k (j (by rw[n];intro z;cases z))|tak=>
   let z:=j (by rw[n];intro z;cases z)
   cases d.2.1.getLast? with|none=>exact f g _ k z|some q=>cases q<;>exact f g _ k z
theorem zMg:∀(ds:C4)(k m:Nat)(t r:T),wH k ds t= .inr r->RJ m ds t->gns ds t=true->∀d'∈wK ds t,Og d'
 |[],k,m,t,r,_,_,_,d',h=>nomatch h|d::ds,k,m,t,r,h,J,c,d',b=>by
  cases a:doT d.1 d.2.2 d.2.1 t with
  |none=>rw[qZ a] at h;cases h|some q=>
   rw[qK a] at h;rw[zFi a,nH] at c;rw[gL a] at b;rcases mZ.mp b with z | z
   ·exact zMg ds (k+1) (m+1) q r h (J.step a) c.2 d' z
   ·rw[mH.mp z]
    exact bk_og J.few J.g J.d (J.o d mE) c.1
theorem zAq:∀(ds:C4)(k:Nat)(t r:T),wH k ds t= .inr r->(wK ds t)...*=ds...*
 |[],k,t,r,_=>rfl|d::ds,k,t,r,h=>by
  cases a:doT d.1 d.2.2 d.2.1 t with
  |none=>rw[qZ a] at h;cases h|some q=>
   rw[qK a] at h;rw[gL a,mL,zAq ds (k+1) q r h]
   rfl
theorem zLg{ds:C4}{m:Nat}{t u:T}(J:RJ m ds t)(r:ds...*<=20)(o:xM t=true)(g:wH 0 ds t= .inr u)(p:T.gk u)(j:T.few u)(f:xM u=true)(h:gns ds t=true):RJ 31 (wK ds t) u/\∃t',wH 0 (wK ds t) u= .inr t'/\xM t'=true/\Eqc t' t/\T.few t':=by
 obtain⟨a,b,c⟩:=vS j f;let s:=zAq ds 0 t u g;let q:=zMg ds 0 m t u g J h;let i:RJ 31 (wK ds t) u:={b9 ∎ _ a,mC _,∅,p,∅,∅,λd n=>(q d n).o};obtain⟨t',l,k⟩:=zHv ds m 31 t u u J (zNr _ _ _ _ g) i (Eqc.refl j);let e:RJ (31+(wK ds t)...*) [] t':=RJ.run (a:=wK ds t) (b:=[]) (by rw[pH];exact i) l;exact zKp i t' (zQh _ _ _ _ l) (Eqc.good J.few e.few k o) (Eqc.symm J.few e.few k) e.few
end K48
namespace K48
open PySem L2 PySem.W
seal L2.PSs L2.PS L2.PE L2.PT L2.PW L2.PA L2.PI L2.PG L2.PGs L2.PPs L2.PTs
abbrev sTr:V6:=top 78
structure Tf(K:Frag)(mg:C8)(Bs C2 C3:V1):Prop where
 mB:mg "CabinetError" =Y (.ref Bs)
 x5:exmOne K (.ref C2) (.ref Bs)=Y true
 x2:exmOne K (.ref C3) (.ref Bs)=Y true
section
variable{P:V3}{w:V4}{K:PySem.W.Frag}{mg:C8}{base:V5}{f:V1}{fd:V7}{Bs C2 C3:V1}
def spTr:Sp:=λh H Q _=>∃(v:V)(g:V1)(e:B3)(t:T)(b:C4)(m:Nat),h= [v, .ref g]/\Rep H v t/\H g=Y (.lst e)/\Dlays H e b/\RJ m b t/\
 (∀r,wH 0 b t= .inr r->xM r=true->gns b t=true->∀l y d c D a,Same H a->a l=Y (.lst [y, .ref d])->Rep a y r->a d=Y (.lst c)->Sps a c ((wK b t).map ddT) D->Q (.ref l) a)/\(∀a,Same H a->Q .non a)
theorem ok_tr(F:Fun K "_law_tried" "_law_tried" sTr f fd)(W:Tf K mg Bs C2 C3)(Gd:Dx aC P w K mg base 26 "done" ["thing","paper"] (zFg C2 C3))(Gb:Dx aC P w K mg base 26 "back" ["thing","paper"] (zFo C2 C3)):FnOk P w K mg base CX0 27 f fd ["_law_thing","_law_paper"] spTr:=by
 refine F.okn (N:=["_law_thing","_law_paper"]) λab A B s H vs Q E nd hr h=>?_;obtain⟨v,pa,xs,t,ds,m,rfl,hv,e,hD,M,q,qx⟩:=h;refine{_,(zG (yBo (φ:=aC) (ts2:=zLo (tC .non)) (tb:=λE=>zLo (zWl (vG (kY (zFg C2 C3) [] E (vG (qH 0) (vG (qH 1) zBu))) (vG (kY (zFo C2 C3) [] E (vG (qH 0) (vG (qH 1) zBu))) zBu)))) O O W.mB O O O
    (λJ W' E n=>zG (zJ (yM (zA (zWv Gd hr ∅ O n (zA (pv 0) (zA (pv 1) zB))) (zA (zWv Gb hr ∅ O n (zA (pv 0) (zA (pv 1) zB))) zB)))))
    (λv=>zG (zJ zAc)))), ?_}
 walk_at "st";unfold yCl;lk;let l:∀C b,exmOne K (.ref C) (.ref Bs)=Y true->Same H b->∀d,zSg K Bs 2 (zLo (tC .non)) {nx:=λx H'=>Q V.non H',rt:=Q} (.ref C) d b:=λC b z a d=>{C,O,z,λx z=>qx _ (a.trans (zF z _))};refine{v,pa,xs,t,ds,O,hv,e,hD, .inl ⟨m,M⟩,λr j L y b D a sp aa=>?_,λr j L b a=>l C3 b W.x2 a none,λi hi I b a u=>l C2 b W.x5 a ↥I};refine{v,pa,xs,t,ds,m,O,Rep.same a _ _ hv,a _ _ e,hD.same a,M,λr' g _ c lb ys D' o g2 h1 h2 h3 h4 p n=>?_,λr' g c o g2=>l C3 o W.x2 (a.trans g2) none,λi hi I o g2 u=>l C2 o W.x5 (a.trans g2) ↥I};let k:=zF n (.lst [y, .ref lb]);exact q r j L c p y lb ys D' _ ((a.trans g2).trans k) zD (Rep.same (g2.trans k) _ _ (Sp1.rep _ _ _ sp)) (k _ _ h2) (h3.same k)
end
end K48
namespace K48
open PySem L2
mutual
theorem zOu:∀t:T,l7 t<=2*T.dep t
 |.lst a=>by let:=zEn a;show i7 a+1<=2*(T.deps a+1);lia|.dic _ a=>by let:=zEn a;show i7 a+2<=2*(T.deps a+1);lia|.tup a=>by let:=zEn a;show i7 a+1<=2*(T.deps a+1);lia|.non=>nJ _|.bl _=>nJ _|.int _=>nJ _|.str _=>nJ _
theorem zEn:∀us:List T,i7 us<=2*T.deps us
 |[]=>nJ _|t::us=>by
  let:=zOu t;let:=zEn us;show max (l7 t) (i7 us)<=2*max (T.dep t) (T.deps us)
  lia
end
theorem zDl{n:Nat}{H:Hp}{v u:V}{t t':T}{Q:VK}(d:Rep H v t)(b:Rep H u t')(c:T.few t)(a:T.few t')(f:2*T.dep t<=n)(e:2*T.dep t'<=n)(q:∀H',Same H H'->Q (.bl (alk t t')) H'):zPm n [v,u] H Q E0:={v,u,t,t',O,d,b,c,a,by let:=zOu t;lia,by let:=zOu t';lia,q}
section
variable{P:V3}{w:V4}{K:A6}{mg:C8}{base:V5}{f:V1}{fd:V7}{C2 C3:V1}
def yFd:Sp:=λg H Q _=>∃(v:V)(e:V1)(d:B3)(t r:T)(c:C4),g= [v, .ref e]/\Rep H v t/\H e=Y (.lst d)/\Dlays H d c/\RK c t/\wH 0 c t= .inr r/\xM r=true/\∀y a D,Same H a->Sp1 a y r D->(∀b∈D,H b=none)->Q y a
theorem dn_of{k:Nat}{ps:C1}(F:FnOk P w K mg base (CXE aC P w) k f fd ps (zFg C2 C3)):FnOk P w K mg base CX0 k f fd ps yFd:=by
 let j:∀a H Q E,yFd a H Q E->zFg C2 C3 a H Q E0:=λa H Q E h=>by
  obtain⟨v,L,y,t,r,u,e,h1,D,h3,B,m,I,q⟩:=h;exact{v,L,y,t,u,e,h1,D,h3,B,(λN b _=>by rw[m] at b;rw[<-Sum.inr.inj b];exact q),(λN b n=>by rw[m] at b;rw[<-Sum.inr.inj b,I] at n;cases n),(λi o=>by rw[m] at o;cases o)}
 refine{λa H Q E h=>F.len a H Q E0 (j _ _ _ _ h),λA c s H g us a Q E b he M J p=>sG (F.run A c s H g us a Q E0 b he M J (j _ _ _ _ p)) λr s' h=>?_}
 cases r with
 |error e=>
  ext yA h x T C d a0 l;ext wQ l H' _ _ _ _ l;ext zS l _ _ _ _ _ l;ext oA l _ z;exact z.elim
 |ok fl=>cases fl<;>exact h
def yGn:Sp:=λh H Q _=>∃(v:V)(g:V1)(e:B3)(t r:T)(a:C4)(m:Nat),h= [v, .ref g]/\Rep H v t/\H g=Y (.lst e)/\Dlays H e a/\RJ m a t/\wH 0 a t= .inr r/\xM r=true/\gns a t=true/\∀l d D c,Same H c->H l=none->c l=Y (.lst d)->Sps c d ((wK a t).map ddT) D->(∀b∈D,H b=none/\b≠l)->Q (.ref l) c
theorem bn_of{k:Nat}{ps:C1}(F:FnOk P w K mg base (CXE aC P w) k f fd ps (zFo C2 C3)):FnOk P w K mg base CX0 k f fd ps yGn:=by
 let g:∀a H Q E,yGn a H Q E->zFo C2 C3 a H Q E0:=λa H Q E h=>by
  obtain⟨v,M,B,t,r,y,m,e,h1,I,h3,D,n,J,h7,q⟩:=h;exact{v,M,B,t,y,m,e,h1,I,h3,D,(λr' j _ _=>q),(λr' j o=>by rw[n] at j;rw[<-Sum.inr.inj j,J,h7] at o;cases o),(λi p=>by rw[n] at p;cases p)}
 refine{λa H Q E h=>F.len a H Q E0 (g _ _ _ _ h),λA b s H c us a Q E j he N L u=>sG (F.run A b s H c us a Q E0 j he N L (g _ _ _ _ u)) λr s' h=>?_}
 cases r with
 |error e=>
  ext yA h x T C d a0 l;ext wQ l H' _ _ _ _ l;ext zS l _ _ _ _ _ l;ext oA l _ z;exact z.elim
 |ok fl=>cases fl<;>exact h
end
theorem ThI.of{t:T}(d:T.few t)(e:T.gk t)(c:xM t=true):ThI t:=by
 obtain⟨_,a,b⟩:=vS d c;refine{{d,e, ?_},a,b};unfold xM at c;rw[nH,nH] at c;exact c.1.1
theorem BaseI.good{t:T}(h:BaseI t):xM t=true/\T.few t:=by
 let c:=d3 ∎ _ h.f;obtain⟨a,b⟩:=zJu t c;let:=h.d;let:=h.z;refine{?_,c};unfold xM;rw[nH,nH,nX,nX];exact{{h.n,∅},∅}
theorem zId:∀(a b:C4)(k:Nat)(t u:T),wH k a t= .inr u->wK (a++b) t=wK b u++wK a t
 |[],b,k,t,u,h=>by
  cases h;rw[aJ];show wK b t=wK b t++ [];rw[pH]
 |d::a,b,k,t,u,h=>by
  cases c:doT d.1 d.2.2 d.2.1 t with
  |none=>rw[qZ c] at h;cases h|some q=>
   rw[qK c] at h;rw[aX,gL c,gL c,zId a b (k+1) q u h,rM]
theorem zPs:∀(a b:C4)(k:Nat)(t u:T),wH k a t= .inr u->gns (a++b) t=(gns a t && gns b u)
 |[],b,k,t,u,h=>by
  cases h
  rfl
 |d::a,b,k,t,u,h=>by
  cases c:doT d.1 d.2.2 d.2.1 t with
  |none=>rw[qZ c] at h;cases h|some q=>
   rw[qK c] at h;rw[aX,zFi c,zFi c,zPs a b (k+1) q u h,Bool.and_assoc]
structure Wh(t0 t:T)(ds:C4)(n:Nat):Prop where
 f0:T.few t0
 k0:T.gk t0
 g0:xM t0=true
 f:T.few t
 k:T.gk t
 g:xM t=true
 r:wH 0 ds t0= .inr t
 b:gns ds t0=true
 o:∀d∈ds,Od d
 l:ds...*<=4*n
theorem zKi{t:T}{ds:C4}(h:T.few t)(e:T.gk t)(g:xM t=true)(f:∀d∈ds,Od d)(i:ds...*<=20):RJ 31 ds t:=by
 obtain⟨a,b,c⟩:=vS h g;exact{b9 ∎ _ a,mC _,∅,e,∅,∅,f}
theorem Wh.rj{a t:T}{ds:C4}{n:Nat}(h:Wh a t ds n)(b:n<=5):RJ 31 ds a:=zKi h.f0 h.k0 h.g0 h.o (by let:=h.l;lia)
theorem Wh.mono{a t:T}{ds:C4}{n m:Nat}(h:Wh a t ds n)(b:n<=m):Wh a t ds m:={h.f0,h.k0,h.g0,h.f,h.k,h.g,h.r,h.b,h.o,by let:=h.l;lia}
theorem Wh.step{e t u:T}{ds c:C4}{n:Nat}(h:Wh e t ds n)(f:∀d∈c,Od d)(m:c...*<=4)(i:wH 0 c t= .inr u)(k:xM u=true)(l:gns c t=true):Wh e u (ds++c) (n+1):=by
 let J:=zKi h.f h.k h.g f ∅;let g:RJ (31+c...*) [] u:=RJ.run (a:=c) (b:=[]) (by rw[pH];exact J) (zNr _ _ _ _ i);let:=h.l;refine{h.f0,h.k0,h.g0,g.few,g.g,k, ?_, ?_,λd j=>?_,by rw[mL];lia}
 ·refine zQh _ _ _ _ ?_
  rw[jU,zNr _ _ _ _ h.r];exact zNr _ _ _ _ i
 ·rw[zPs _ _ _ _ _ h.r,h.b,l];rfl
 ·exact(mZ.mp j).elim (h.o d) (f d)
theorem Dlays.app{H:Hp}{xs ys:B3}{as e:C4}(h:Dlays H xs as)(h':Dlays H ys e):Dlays H (xs++ys) (as++e):=by
 obtain⟨f,k⟩:=h;obtain⟨g,j⟩:=h';refine{by rw[mL,mL,f,g],λi v d a b=>?_}
 by_cases c:i<xs...*
 ·rw[nY c] at a
  rw[nY ∅] at b;exact k i v d a b
 ·rw[nW ∅] at a b
  rw[f] at a;exact j _ v d a b
theorem zZa{t u:T}(l:ThI t)(c:ThI u)(m:xM u=true):∃r,RK (dfT 20 t u) t/\wH 0 (dfT 20 t u) t= .inr r/\xM r=true/\alk r u=true/\T.few r:=by
 obtain⟨J,r,i,g⟩:=l.ri c;let f:∀(a:C4)(s r:T),RI a s->xG a s=Y r->T.few r:=λa=>by
  induction a with
  |nil=>intro s r h e;cases e;exact h.few|cons d a k=>
   intro s r h e;obtain⟨q,n,j⟩:=h.step;rw[jR n] at e;exact k q r j e
 let b:=f _ _ _ J i;let e:xO (zN r) (zN u)=0:=rJ g;exact{r, .inr J,zQh _ _ _ _ i,Eqc.good c.g.f b (Eqc.symm b c.g.f e) m,g,b}
def LpI(a:V1)(j:V)(d:T)(H1:Hp)(i:Nat)(σ:St)(b:Hp):Prop:=∃(v:V)(f h:V1)(e g:B3)(t:T)(c:C4)(l m k:Option V),σ= [Y (.ref a),Y j,Y v,Y (.ref f),Y (.ref h),l,m,k]/\Same H1 b/\Rep b v t/\b f=Y (.lst e)/\Dlays b e c/\b h=Y (.lst g)/\Dlays b g (wK c d)/\Wh d t c i
seal L2.PSs L2.PS L2.PE L2.PT L2.PW L2.PA L2.PI L2.PG L2.PGs L2.PPs L2.PTs
abbrev zMa:V6:=top 79
section
variable{P:V3}{w:V4}{K:A6}{mg:C8}{base:V5}{f:V1}{fd:V7}
def zRj(K:A6):Sp:=λc H Q _=>∃(a:V1)(b:List Int),c= [.ref a]/\SqL K H a (b.map V.int)/\b...*<=63/\∀d,Q (.bl true) d
theorem yEy{k:Nat}(F:Fun K "law" "law" zMa f fd)(B:Bl6 mg)(I:Dn P w K mg base k "_law_cell" ["_law_script","_law_k"] (gB K))(ai:Dn P w K mg base k "_law_base" ["_law_script","_law_k"] (spBa K))(ag:Dn P w K mg base k "_law_deeds" ["_law_script","_law_k","_law_thing","_law_many"] (spDs K))(ae:Dn P w K mg base k "_law_tried" ["_law_thing","_law_paper"] spTr)(b:Dn P w K mg base k "_law_same" ["_law_one","_law_other"] (zPm 40))(m:Dn P w K mg base k "done" ["thing","paper"] yFd)(a9:Dn P w K mg base k "back" ["thing","paper"] yGn)(e:Dn P w K mg base k "difference" ["old","new"] spDf):FnOk P w K mg base CX0 (k+1) f fd ["_law_script"] (zRj K):=by
 refine F.okn (N:=["_law_script","_law_first","_law_now","_law_whole","_law_backs","_law_j","_law_paper","_law_pair"]) λci A b1 s H vs Q E nd L h=>?_;ext zV h a ns b4 ha ay q;subst b4;let hu:=vE L;let cs:=L.units0;let cf:=L.units;refine{_,(zC (pS 1 nd (pD ai L (zA (pv 0) (zA zE zB))))
  (zC (pS 2 nd (pv 1))
  (zC (pS 3 nd (yM zB))
  (zC (pS 4 nd (yM zB))
  (zC (wW PassesOwn.never O (wE O B.range (zA (zI xK zE (zI yL (pD I L (zA (pv 0) (zA zE zB))) zE)) zB)) (yF (i:=5) nd O (nZ O)) (zC (pS 6 nd (pX zU (pD ag L (zA (pv 0) (zA (zI xK zE (zI jM zE (pv 5))) (zA (pv 2) (zA (zI xK zE (zI yL (pD I L (zA (pv 0) (zA (zI xK zE (pv 5)) zB))) zE)) zB))))) zE))
  (zC (pS 7 nd (pD ae L (zA (pv 2) (zA (pv 6) zB))))
  (zC (zT (zAm (zKh (pv 7))) (zG zMp) zL)
  (zC (zT (wJ (yG (pD b L (zA (pD m L (zA (pX zU (pv 7) zE) (zA (pX zU (pv 7) zE) zB))) (zA (pv 2) zB))))) (zG (zJ vQ)) zL)
  (zC (zT (wJ (yG (pD b L (zA (pD m L (zA (pX zU (pv 7) zE) (zA (pD e L (zA (pX zU (pv 7) zE) (zA (pv 2) zB))) zB))) (zA (pv 2) zB))))) (zG (zJ vQ)) zL)
  (zC (pS 3 nd (zI qU (pv 3) (pv 6)))
  (zC (pS 4 nd (zI qU (pX zU (pv 7) zE) (pv 4)))
  (zG (pS 2 nd (pX zU (pv 7) zE)))))))))))
  (zC (zT (i8 (zBb (wJ (yG (pD b L (zA (pD m L (zA (pv 1) (zA (pv 3) zB))) (zA (pv 2) zB))))) (zAl (wJ (yG (pD b L (zA (pD m L (zA (pv 2) (zA (pv 4) zB))) (zA (pv 1) zB)))))))) (zG (zJ vQ)) zL)
  (zC (zT (wJ (yG (pD b L (zA (pD m L (zA (pv 2) (zA (pD a9 L (zA (pv 1) (zA (pv 3) zB))) zB))) (zA (pv 1) zB))))) (zG (zJ vQ)) zL)
  (zG (zJ (pD b L (zA (pD m L (zA (pv 1) (zA (pD e L (zA (pv 1) (zA (pv 2) zB))) zB))) (zA (pv 2) zB)))))))))))), ?_}
 walk_at "st";refine cut4 λR hR=>?_;lk;refine{a,ns,0,O,ha,ay,by decide,by decide,λv0 t0 H1 g1 bt hB p hp p1 a7=>?_};obtain⟨g0,f0⟩:=hB.good;let s2:=zF hp (.lst []);let e2:=zD (H:=H1) (a:=p) (o:=.lst []);generalize upd H1 p (.lst [])=H2 at s2 e2 a7⊢;let s3:=zF a7 (.lst []);let e3:=zD (H:=H2) (a:=p1) (o:=.lst []);let bh:=s3 _ _ e2;generalize upd H2 p1 (.lst [])=H3 at s3 e3 bh⊢;let aj:=s2.trans s3;let W0:Wh t0 t0 [] 0:={f0,hB.c,g0,f0,hB.c,g0,O,O,(λ_ z=>nomatch z),nJ _};let T0:=ThI.of f0 hB.c g0;obtain⟨_,d0,_⟩:=vS f0 g0;clear s2 s3 e2 hp a7;subst hR;refine zJh λR hR=>?_;lk;refine uM ((g1.trans aj).seq ha) ay (show(0:Int)<=4 by decide) ∎ λH4 g4=>{_,O,∅,∅, ?_};let ar:=aj.trans g4;obtain⟨n,hn⟩:∃n:Nat,(n:Int)=1+qC ns 4 % 5:={(1+qC ns 4 % 5).toNat,∅};rw[<-hn,rN];let b':n<=5:=by lia
 refine qL (LpI a v0 t0 H1) {v0,p,p1,[],[],t0,[],_,_,_,O,ar,Rep.same ar _ _ bt,g4 _ _ bh,{O,λi v d h=>nomatch h},g4 _ _ e3,{O,λi v d h=>nomatch h},W0} ?_ ?_
 ·clear bh e3 ar g4 aj
  rintro i σ H5 hi ⟨v,pw,pb,xs,ys,t,ds,o1,o2,o3,rfl,g5,hv,aq,hD,a2,hE,c⟩;simp only[qG,bH,bI,mX,rF,Nat.reduceAdd,Nat.reduceLT,true_and];refine cut3 λR2 av=>?_;lk;let T1:=ThI.of c.f c.k c.g;let bo:=vS c.f c.g;refine uM ((g1.trans g5).seq ha) ay ∅ ∅ λH6 g6=>⟨_,O,a,ns,_,v,_,t,O,(g1.trans (g5.trans g6)).seq ha,ay,∅,∅,∅,∅,Rep.same g6 _ _ hv,bo.1,c.k,∅,∅,λl pp pr o ps rs x es t' H7 g7 hl bm hP hO cq _ _ _ _ _ _ _=>yH (SqL.of hl) (yI (j:=0) rfl) ?_⟩;let bx:es...*<=4:=by lia
  let oE:∀d∈es,Od d:=λd hd=>(hO d hd).1;let ac:=g6.trans g7;let J:=zKi c.f c.k c.g oE ∅;refine{v,pp,ps,t,es,31,O,Rep.same ac _ _ hv,bm,hP,J,λr aw ak bl l2 y lb zs D H8 g8 ao hy a1 a6=>?_,λH8 g8=>?_}
  rotate_left
  ·let g:=ac.trans g8
   refine iP O ?_;exact{v,pw,pb,xs,ys,t,ds,_,_,_,O,g5.trans g,Rep.same g _ _ hv,g _ _ aq,hD.same g,g _ _ a2,hE.same g,c.mono (pV _)}
  refine iN (λz=>by cases z) ?_;let g:=ac.trans g8;let ah:=c.step oE bx aw ak bl;obtain⟨_,dt,_⟩:=bo;obtain⟨_,dr,_⟩:=vS ah.f ak;obtain⟨J2,u,af,ap,a5,fu⟩:=zLg J ∅ c.g aw ah.k ah.f ak bl;refine oAA (vS fu ap) λ_ du _=>?_;let am:alk u t=true:=nF a5;subst av;refine zJh λR2 av=>?_;lk;let cd:=hP.same g8;let a':Dlays H8 zs (wK es t):=Dlays.of (Sps.rep _ _ _ a6);let cg:=zAq es 0 t r aw;let cl:(wK ds t0)...*=ds...*:=zAq ds 0 t0 t c.r;obtain⟨w,Jw,b5,bj,bi,fw⟩:=zZa (ThI.of ah.f ah.k ak) T1 c.g;obtain⟨_,dw,_⟩:=vS fw bj;let cm:=c.l;refine yH (SqL.of ao) (yI (j:=0) O) (yH (SqL.of ao) (yI (j:=1) O) {y,lb,zs,r,u,_,O,hy,a1,a', .inl ⟨_,J2⟩,af,ap,λy1 H9 D9 g9 b6 _=>?_});let ba:=Rep.same g _ _ hv;refine zDl (Sp1.rep _ _ _ b6) (Rep.same g9 _ _ ba) fu c.f ∅ ∅ λb2 az=>{_,O,iN (by rw[am];decide) ?_};let aa:=g9.trans az;subst av;refine zJh λR2 av=>?_;lk;refine yH (SqL.of (aa _ _ ao)) (yI (j:=0) O) (yH (SqL.of (aa _ _ ao)) (yI (j:=0) O) {y,v,r,t,O,Rep.same aa _ _ hy,Rep.same aa _ _ ba,ThI.of ah.f ah.k ak,T1,λl3 a8 D3 b0 a0 _ bd bb _=>?_});refine{y,l3,a8,r,w,_,O,Rep.same (aa.trans a0) _ _ hy,bd,Dlays.of (Sps.rep _ _ _ bb),Jw,b5,bj,λy4 ca cp bc bu _=>?_};let a4:=aa.trans (a0.trans bc);refine zDl (Sp1.rep _ _ _ bu) (Rep.same a4 _ _ ba) fw c.f ∅ ∅ λbe aj=>{_,O,iN (by rw[bi];decide) ?_};let ax:=a4.trans aj;let bk:=g.trans ax;let ch:=hD.1;let cr:=hE.1;let co:=hP.1;let cj:=a'.1;subst av;lk;refine{pw,pp,_,_,O,O,bk _ _ aq,(g8.trans ax) _ _ bm,by rw[mV];lia,λq1 b3=>?_};let br:=zF b3 (.lst (xs++ps));let bp:=zD (H:=be) (a:=q1) (o:=.lst (xs++ps));generalize upd be q1 (.lst (xs++ps))=bg at br bp⊢;let al:=ax.trans br;refine yH (SqL.of (al _ _ ao)) (yI (j:=1) O) {lb,pb,_,_,O,O,al _ _ a1,(g.trans al) _ _ a2,by rw[mV];lia,λq2 bz=>?_};let bf:=zF bz (.lst (zs++ys));let bn:=zD (H:=bg) (a:=q2) (o:=.lst (zs++ys));generalize upd bg q2 (.lst (zs++ys))=ce at bf bn⊢;let M:=al.trans bf;refine yH (SqL.of (M _ _ ao)) (yI (j:=0) O) ?_;refine{y,q1,q2,xs++ps,zs++ys,r,ds++es,_,_,_,O,g5.trans (g.trans M),Rep.same M _ _ hy,bf _ _ bp,(hD.same (g.trans M)).app (cd.same M),bn, ?_,ah};rw[zId _ _ _ _ _ c.r];exact(a'.same M).app (hE.same (g.trans M))
 rintro σ H5 ⟨v,pw,pb,xs,ys,t,ds,o1,o2,o3,rfl,g5,hv,aq,hD,a2,hE,c⟩;show R _ _ _;subst hR;lk;let hl:=c.l;let J:=c.rj b';let T1:=ThI.of c.f c.k c.g;let ab:=Rep.same g5 _ _ bt;obtain⟨_,dt,_⟩:=vS c.f c.g;obtain⟨J2,u,af,ap,a5,fu⟩:=zLg J ∅ g0 c.r c.k c.f c.g c.b;obtain⟨_,du,_⟩:=vS fu ap;let am:alk u t0=true:=nF a5;obtain⟨r,Jr,cc,ak,bs,fr⟩:=zZa T0 T1 c.g;obtain⟨_,dr,_⟩:=vS fr ak;refine{v0,pw,xs,t0,t,ds,O,ab,aq,hD, .inl ⟨_,J⟩,c.r,c.g,λy1 H6 D6 g6 bw _=>?_};refine zDl (Sp1.rep _ _ _ bw) (Rep.same g6 _ _ hv) c.f c.f ∅ ∅ λH7 g7=>{_,O,iN (by rw[zBq c.f];decide) ?_};let ac:=g6.trans g7;refine{v,pb,ys,t,u,_,O,Rep.same ac _ _ hv,ac _ _ a2,hE.same ac, .inl ⟨_,J2⟩,af,ap,λy2 H8 D8 g8 cb _=>?_};refine zDl (Sp1.rep _ _ _ cb) (Rep.same (ac.trans g8) _ _ ab) fu f0 ∅ ∅ λH9 g9=>{_,O,iN (by rw[am];decide) ?_};let au:=ac.trans (g8.trans g9);refine{v0,pw,xs,t0,t,ds,_,O,Rep.same au _ _ ab,au _ _ aq,hD.same au,J,c.r,c.g,c.b,λlb zs D b2 az _ a1 a6 _=>?_};refine{v,lb,zs,t,u,_,O,Rep.same (au.trans az) _ _ hv,a1,Dlays.of (Sps.rep _ _ _ a6), .inl ⟨_,J2⟩,af,ap,λy3 b0 cn a0 bq _=>?_};let a3:=au.trans (az.trans a0);refine zDl (Sp1.rep _ _ _ bq) (Rep.same a3 _ _ ab) fu f0 ∅ ∅ λca bc=>{_,O,iN (by rw[am];decide) ?_};let an:=a3.trans bc;refine{v0,v,t0,t,O,Rep.same an _ _ ab,Rep.same an _ _ hv,T0,T1,λl3 a8 D3 be aj _ bd bb _=>?_};refine{v0,l3,a8,t0,r,_,O,Rep.same (an.trans aj) _ _ ab,bd,Dlays.of (Sps.rep _ _ _ bb),Jr,cc,ak,λy4 bg ck ar bv _=>?_};refine zDl (Sp1.rep _ _ _ bv) (Rep.same (an.trans (aj.trans ar)) _ _ hv) fr c.f ∅ ∅ λce _=>?_;rw[bs];exact q _
end
end K48
namespace K48
open PySem L2 PySem.W
section
variable{K:Frag}{dT:V1}{kV doc pm cdv ct:V0}{an:Option V1}
theorem biCs{o:Obj}{h:V0}{n:Nat}(i:K.lookup dT=Y o)(j:o.data= .seq #[h] n):Binds K (fnOf "change_shared" "change_shared" (xR sCs) (xJ sCs) (zY sCs) (.ref dT) kV doc pm an cdv ct) ["thing","word","path","new"] []:=by
 refine λs k g f=>?_;rw[pH] at f⊢;rcases k with _ |⟨a,_ |⟨b,_ |⟨c,_ |⟨d,_ |⟨e,r⟩⟩⟩⟩⟩
 case cons.cons.cons.cons.nil=>exact binds_K g O i j O O
 all_goals exact absurd f (by simp)
end
end K48
namespace K48
open PySem L2 PySem.W
def FA(K:A6)(x:Str)(st:V6)(f:V1):Prop:=A8 K A0 x=Y ↥(.ref f)/\∃i g kV d e c a h b,K.lookup f=Y {i,g, .func (W.fnOf x x (xR st) (xJ st) (zY st) .none kV d e c a h),b}/\A9 K a x=true/\A7 K (.ref f)=true
theorem FA.out{K:A6}{h:V5}{b:C8}{x:Str}{st:V6}{f:V1}(a:FA K x st f)(X:K.In h)(G:h.Ns A0 b):b x=Y (.ref f)/\(∃d,Fun K x x st f d)/\A7 K (.ref f)=true:=by
 obtain⟨a,p,m,kV,i,j,g,n,o,e,l,c,k⟩:=a;exact nAA (tQ X G a) {_,zYf l c k} k
theorem zBc{P:V3}{w:V4}{K:A6}{a:C8}{base:V5}{k:Nat}{x:Str}{ps:C1}{sp:Sp}(j:Nat)(h:Dn P w K a base k x ps sp)(l:k<=j:=by decide):Dn P w K a base j x ps sp:=by
 obtain⟨_,_,z,b,p,m⟩:=h;exact{_,_,FnOk.mono z l,b,p,m}
section
variable{φ:V0->Prop}{P:V3}{w:V4}{K:A6}{mg:C8}{base h:V5}{k:Nat}{x:Str}{ps:C1}{sp:Sp}{st:V6}{f:V1}(X:K.In h)(G:h.Ns A0 mg)(j:Nat)(a:FA K x st f)
include X G a
theorem dn_mk(o:∀{c},Fun K x x st f c->FnOk P w K mg base CX0 k f c ps sp)(l:k<=j:=by decide)(b:∀c,Fun K x x st f c->Binds K c ps []:=by walk_at "b"):Dn P w K mg base j x ps sp:=by
 obtain⟨m,⟨c,F⟩,p⟩:=a.out X G;exact{_,_,FnOk.mono (o F) l,b _ F,p,m}
theorem yEg(o:∀{c},Fun K x x st f c->Binds K c ps []->A7 K (.ref f)=true->mg x=Y (.ref f)->FnOk P w K mg base CX0 k f c ps sp)(l:k<=j:=by decide)(b:∀c,Fun K x x st f c->Binds K c ps []:=by walk_at "b"):Dn P w K mg base j x ps sp:=by
 obtain⟨m,⟨c,F⟩,p⟩:=a.out X G;exact{_,_,FnOk.mono (o F (b _ F) p m) l,b _ F,p,m}
theorem yDb(o:∀{c},Fun K x x st f c->FnOk P w K mg base (CXE φ P w) k f c ps sp)(l:k<=j:=by decide)(b:∀c,Fun K x x st f c->Binds K c ps []:=by walk_at "b"):Dx φ P w K mg base j x ps sp:=by
 obtain⟨m,⟨c,F⟩,p⟩:=a.out X G;exact{_,_,FnOk.mono (o F) l,b _ F,p,m}
end
theorem all_mk{l:W.OpenLaw}{w:V4}{K:A6}{h:V5}{d:C8}{fa f0 f1 f2 f3 f4 f5 f6 f7 f8 f9 ho fk ez fn e4 ga gc gl dk ej ek gg dd en g0 ia e7 dm gr ii ib hy hd gv iq fr h' fv ep de hx ds gk ik g1 he fe ih hm fy fi gm fs hv aq:V1}(X:K.In h)(G:h.Ns A0 d)(fp:d "law" =Y (.ref fa))
  {cf af:Option V1} {bs:Array (Option V0)} {bo ae ai aj H ag:V0}
  {u0:Tok}
  {u1:Tok}
  {v0:Tok}
  {v1:Tok}
  {v2:Tok}
  {v3:Tok}
  {v4:Tok}
  {v5:Tok}
  {o a j c:V1} {pN pF pD:V1} {pq:Str} {h1:B7} {ew:C1} {bj:B7} {cv:Bool} {ca:Option Bool} {dx:Option V1} {fw eb ee fq g9:Option V0} {c1 ij:Option V1} {h7:Array (Option V0)} {gx dr e8 g3 cb fu:V0} {co:Option V1} {bm ip:V0} {ct:Nat} {dz:Array (Option V0)} {dN dF dD:V1} {dq:Str} {dv:B7} {ff:C1} {bh:B7} {ie:Bool} {bu:Option Bool} {gw:Option V1} {fj go hf er hg:Option V0} {g6 ic:Option V1} {e3:Array (Option V0)} {g7 ig ea ef bl hp:V0} {iv:Option V1} {bg d2:V0} {gf:Nat} {hw:Array (Option V0)} {tN:V1} {tq:Str} {fl:B7} {iw:C1} {bp:B7} {fz:Bool} {bn:Option Bool} {e5:Option V1} {cm e' df ey h2:Option V0} {hF hD:V1} {bx az an au N bc em:V0} {b5 ba c0:Option V1} {b0 gz:Array (Option V0)} {it:Nat}
  (a0:FA K "kind_of" zRa f0)
  (a1:FA K "is_name" zQm f1)
  (a2:FA K "is_text_sign" sSgn f2)
  (a3:FA K "is_thing" sTh f3)
  (a4:FA K "is_sound_outside" sSnd f4)
  (a5:FA K "holds_parts" sHp f5)
  (a6:FA K "parts_of" sPo f6)
  (a7:FA K "parts_of_all" sPz f7)
  (a8:FA K "alike" zUr f8)
  (a9:FA K "alike_rows" zQn f9)
  (c':FA K "alike_records" zPu ho)
  (fx:FA K "copied" sCp fk)
  (cn:FA K "is_place" zZd ez)
  (hi:FA K "thing_at" sTa fn)
  (dt:FA K "has" sHas e4)
  (cw:FA K "stops_on" sSt ga)
  (e2:FA K "leads_on" sLo gc)
  (be:FA K "sound" sSou gl)
  (cz:FA K "whole_changed" sWc dk)
  (io:FA K "stops_to_last" sSl ej)
  (db:FA K "leads_within" sLw ek)
  (hc:FA K "can_change" sCc gg)
  (d0:FA K "part_changed" yDg dd)
  (gh:FA K "record_changed" sRec en)
  (gy:FA K "row_changed" sRow g0)
  (cc:FA K "done" yCt ia)
  (hq:FA K "stands_of" sSo e7)
  (el:FA K "after_deed" sAd dm)
  (bq:FA K "back" yDo gr)
  (h4:FA K "deed_back" sBk1 ii)
  (h6:FA K "difference" sDf ib)
  (h9:FA K "deeds_between" sDb hy)
  (eg:FA K "deeds_between_records" sDc hd)
  (gd:FA K "deeds_between_rows" sDr gv)
  (et:FA K "alike_ahead" sAh iq)
  (ec:FA K "_law_cell" yCn fr)
  (cl:FA K "_law_name_by" yCo h')
  (d1:FA K "_law_signs" zXa fv)
  (eh:FA K "_law_text_by" yCi ep)
  (fg:FA K "_law_number_by" sNum de)
  (hh:FA K "_law_thing_by" zHe hx)
  (g8:FA K "_law_kind" yCw ds)
  (dy:FA K "_law_rows_compare" zRm gk)
  (di:FA K "_law_compare" zVj ik)
  (e6:FA K "_law_same" yCk g1)
  (cu:FA K "_law_held" sCo he)
  (g4:FA K "_law_put_in" sPi fe)
  (iu:FA K "_law_deed_on" sDo ih)
  (h3:FA K "_law_base" sBa hm)
  (hl:FA K "_law_walk" sWk fy)
  (c5:FA K "_law_step_at" sSa fi)
  (du:FA K "_law_deed" sDe gm)
  (ed:FA K "_law_deeds" sDs fs)
  (f':FA K "_law_tried" sTr hv)
  (h5:A8 K A0 "law" =Y ↥(.ref aq))
  (hz:K.lookup aq=Y {bo,cf, .func (W.fnOf "law" "law" (xR zMa) (xJ zMa) (zY zMa) .none ae ai aj af H ag),bs})
  (gp:A9 K H "law" =true)
  (dw:A7 K (.ref aq)=true)
  (z0:A8 K A0 "len" =Y none)
  (z1:A8 K A0 "range" =Y none)
  (z2:A8 K A0 "isinstance" =Y none)
  (z3:A8 K A0 "all" =Y none)
  (z4:A8 K A0 "sum" =Y none)
  (z5:A8 K A0 "int" =Y none)
  (z6:A8 K A0 "str" =Y none)
  (z7:A8 K A0 "bool" =Y none)
  (z8:A8 K A0 "list" =Y none)
  (z9:A8 K A0 "dict" =Y none)
  (h0:A8 K A0 "tuple" =Y none)
  (y0:A8 K A0 "max" =Y none)
  (y1:A8 K A0 "min" =Y none)
  (y2:A8 K A0 "sorted" =Y none)
  (r0:A8 K A0 "enumerate" =Y none)
  (q0:A8 K A0 "abs" =Y none)
  (q1:A8 K A0 "ord" =Y none)
  (dj:A8 K A0 "zip" =Y none)
  (s0:A8 K A0 "LETTERS" =Y ↥(.str (A5 "abcdefghijklmnopqrstuvwxyz") u0))
  (s1:A8 K A0 "NAME_SIGNS" =Y ↥(.str (A5 "abcdefghijklmnopqrstuvwxyz0123456789") u1))
  (n0:A8 K A0 "MOST_IN_NAME" =Y ↥(.int 12 v0))
  (n1:A8 K A0 "MOST_IN_TEXT" =Y ↥(.int 30 v1))
  (n2:A8 K A0 "MOST_IN_ROW" =Y ↥(.int 60 v2))
  (n3:A8 K A0 "MOST_IN_RECORD" =Y ↥(.int 30 v3))
  (n4:A8 K A0 "MOST_DEPTH" =Y ↥(.int 8 v4))
  (n5:A8 K A0 "MOST_SIZE" =Y ↥(.int 200 v5))
  (ha:A8 K A0 "change_shared" =Y ↥(.ref hF))
  (hs:K.lookup hF=Y {bx,b5, .func (W.fnOf "change_shared" "change_shared" (xR sCs) (xJ sCs) (zY sCs) (.ref hD) az an au ba N bc),b0})
  (ht:A9 K N "change_shared" =true)
  (hk:A7 K (.ref hF)=true)
  (hu:K.lookup hD=Y {em,c0, .seq #[.none] it,gz})
  (ck:A8 K A0 "CabinetError" =Y ↥(.ref o))
  (dc:A8 K A0 "reversed" =Y none)
  (aw:W.tailIn K veMro (.ref o::veMro)=true)
  (ev:W.specialIn K (.ref o) "__getattribute__" =Y ↥(.builtin "type.__getattribute__"))
  (gn:W.readsIn K o (.type "type")=true)
  (c2:W.findCls K (.ref o) (.type "type") "__init__" =Y (.val (.builtin "ValueError.__init__")))
  (pa:A8 K A0 "NoPlace" =Y ↥(.ref a))
  (b':K.lookup a=Y (excClassObj "NoPlace" pq a pN h1 (.ref o::veMro) true ew bj cv ca dx fw eb ee fq g9 "ValueError.__new__"))
  (gt:W.findIn K (.ref a) "__init__" =Y ↥(.ref pF))
  (ex:W.typeIn K (.ref pF)=Y (.type "function"))
  (hj:W.findIn K (.ref a) "__setattr__" =Y ↥(.builtin "object.__setattr__"))
  (d':W.findIn K (.ref a) "at" =Y none)
  (es:A7 K (.ref a)=true)
  (e0:K.lookup pF=Y {gx,c1, .func (W.fnOf "__init__" "NoPlace.__init__" (xR qS) (xJ qS) (zY qS) (.ref pD) dr e8 g3 ij cb fu),h7})
  (eo:A9 K cb "NoPlace.__init__" =true)
  (dn:K.lookup pD=Y {bm,co, .seq #[ip] ct,dz})
  (da:A8 K A0 "NoDeed" =Y ↥(.ref c))
  (bz:K.lookup c=Y (excClassObj "NoDeed" dq c dN dv (.ref o::veMro) true ff bh ie bu gw fj go hf er hg "ValueError.__new__"))
  (e1:W.findIn K (.ref c) "__init__" =Y ↥(.ref dF))
  (cr:W.typeIn K (.ref dF)=Y (.type "function"))
  (g5:W.findIn K (.ref c) "__setattr__" =Y ↥(.builtin "object.__setattr__"))
  (dp:W.findIn K (.ref c) "at" =Y none)
  (cy:A7 K (.ref c)=true)
  (fo:K.lookup dF=Y {g7,g6, .func (W.fnOf "__init__" "NoDeed.__init__" (xR qW) (xJ qW) (zY qW) (.ref dD) ig ea ef ic bl hp),e3})
  (cp:A9 K bl "NoDeed.__init__" =true)
  (c4:K.lookup dD=Y {bg,iv, .seq #[d2] gf,hw})
  (c9:W.findIn K (.ref c) "number" =Y none)
  (ta:A8 K A0 "TooGreat" =Y ↥(.ref j))
  (e9:K.lookup j=Y (excClassObj "TooGreat" tq j tN fl (.ref o::veMro) true iw bp fz bn e5 cm e' df ey h2 "ValueError.__new__"))
  (cx:W.nsOkIn K tN=true)
  (gi:A8 K tN "__init__" =Y none)
  (fb:A7 K (.ref j)=true)
  (im:W.exmOne K (.ref a) (.ref a)=Y true)
  (b6:W.exmOne K (.ref c) (.ref o)=Y true)
  (cg:W.exmOne K (.ref j) (.ref o)=Y true):
  ∃i:V7,(∀(s:V2)(v:V0),BindsTo s i {[v],[]} [("_law_script",v)])/\∀base:V5,K.In base->base.Ns A0 d->FnOk l.prog w K d base CX0 107 fa i ["_law_script"] (zRj K):=by
 let e:=fp.symm.trans (tQ X G h5);cases e;let cd:=zYf (st:=zMa) hz gp dw;let B:Bl d:={pY X G z0,pY X G z1,pY X G z2,pY X G z3,pY X G z4,pY X G z5,pY X G z6,pY X G z7,pY X G z8,pY X G z9,pY X G h0};let I:Bl2 d:={B,pY X G y0,pY X G y1,pY X G y2};let B4:Bl4 d:={I,pY X G r0};let B5:Bl5 d:={I,pY X G q0,pY X G q1};let B6:Bl6 d:={I,pY X G dj};let M:Ms d:={{_,tQ X G s0},{_,tQ X G s1},{_,tQ X G n0},{_,tQ X G n1},{_,tQ X G n2},{_,tQ X G n3},{_,tQ X G n4},{_,tQ X G n5}};refine{W.fnOf "law" "law" (xR zMa) (xJ zMa) (zY zMa) .none ae ai aj af H ag,λs v=>.of_eq O,λbase _ _=>?_};let D {k x ps sp st f}:=@dn_mk l.prog w K d base h k x ps sp st f X G;let D3 {k x ps sp st f}:=@yEg l.prog w K d base h k x ps sp st f X G;let EnC {k x ps sp st f}:=@yDb nC l.prog w K d base h k x ps sp st f X G;let EaC {k x ps sp st f}:=@yDb aC l.prog w K d base h k x ps sp st f X G;obtain⟨mR,⟨_,FR⟩,pR⟩:=dy.out X G;let g:=D 1 ec λF=>yBt F B;let ce:=D 1 fg λF=>yFq F;let E:=D 1 cl λF=>yAb F B;let ab:=D 1 d1 λF=>zVu F;let bb:=D 2 eh λF=>yCb F B ab;let r:=D3 (3+3) hh λF b p m=>zTx (n:=3) (zHs F B g ce bb E b p m);let ar:=D3 (1+20) cu λF b p m=>zYa F B b p m 20;let bR:Binds K _ ["_law_one","_law_other"] []:=(by walk_at "b" :∀i,Fun K "_law_rows_compare" "_law_rows_compare" zRm _ i->Binds K i ["_law_one","_law_other"] []) _ FR;let z:=D 1 g8 λF=>yBr F B;let bv:=D3 (2+2*40) di λF b p m=>zSd F FR I z b p m bR pR mR 40;let ao:=D (2+2*40+1) e6 λF=>yBj F I z bv;let bw:=D 1 a0 λF=>zGs F B;let ax:=D3 (1+20) fx λF b p m=>zZj F B b p m 20;let gj:=D 6 c5 λF=>ok_sa F I E;let gs:=D 6 hl λF=>ok_wk F I g;let t:=zBc 6 g;let gb:=D 23 du λF=>ok_de F I t gs gj r;let gu:=D 22 g4 λF=>ok_pi F B ar;let ay:=zBc 22 ar;let fc:=D 23 iu λF=>ok_do F B ay gu;let ap:=zBc 23 ar;let ge:=D 41 ed λF=>ok_ds F I ap gb fc;let eu:=D 1 a0 λF=>yEs (zGs F B);let q:=D 2 cn λF=>zYr F B M eu;let ci:=D 1 e2 λF=>ok_lo F B;let bt:=D 3 db λF=>ok_lw F B ci q;let hr:=D 4 hc λF=>ok_cc F B bt q;let bf:=D 1 gh λF=>yGg F B;let ch:=D 1 gy λF=>yGb F B;let av:=D 2 d0 λF=>yBk F B bf ch;let mB:=tQ X G ck;let XC:zDf K "NoPlace" a o pF:={⟨pN,_,b',_,_,_,_,_,_,_,_,_,_,_,_,_,O⟩,{_,by unfold W.clsIn;rw[b'],O,O},aw,gt,ex,hj,d',es};let XD:zDf K "NoDeed" c o dF:={⟨dN,_,bz,_,_,_,_,_,_,_,_,_,_,_,_,_,O⟩,{_,by unfold W.clsIn;rw[bz],O,O},aw,e1,cr,g5,dp,cy};let XB:zPv K o:=⟨ev,gn,c2⟩;let RN:Xr l.prog w K d base 1 "NoPlace" a:={_,_,_,_,_,XC,zXh e0 eo XC XB mB,zMs dn O O,tQ X G pa};let RB:Xb K d "NoPlace" a:={_,_,_,XC,tQ X G pa,im};let RD:Xh l.prog w K d base 1 "NoDeed" c "number":={_,_,_,_,_,XD,zVc fo cp XD c9 XB mB,zLa c4 O O,tQ X G da};let RT:Xr0 K d "TooGreat" j:={_,_,{{tN,_,e9,⟨_,_,_,_,_,_,_,_,_,_,_,_,_,O⟩,cx,gi},aw,fb},tQ X G ta};let TF:Tf K d o c j:=⟨mB,b6,cg⟩;let c3:=EnC 3 cz λF=>ok_wc F B RN;let cq:=EnC 4 io λF=>ok_sl F B bt RN;let fm:FunD K "change_shared" "change_shared" sCs hF (W.fnOf "change_shared" "change_shared" (xR sCs) (xJ sCs) (zY sCs) (.ref hD) az an au ba N bc):={{bx,b5, .ref hD,az,an,au,ba,N,bc,b0,O,hs,ht}};let eq:=tQ X G ha;let g':Dx nC l.prog w K d base 5 "change_shared" ["thing","word","path","new"] (yAu a):={_,_,ok_cs fm B c3 cq hr av RN,biCs hu O,hk,eq};let cs:=EaC 6 el λF=>ok_ad F B g' RD RB;let ft:=D 1 a1 λF=>zOw F B M;let h8:=D 1 a2 λF=>yFz F B5;let bi:=D 2 a4 λF=>yFu F B5 M bw h8 ft;let fh:=D 1 a5 λF=>ok_hp F B;let ir:=D 1 a6 λF=>ok_po F B;let ei:=D 2 a7 λF=>yGx F B ir;let bd:=D 3 a3 λF=>ok_th F B M bi fh ei;let bk:=EaC 6 be λF=>zUn F bd RT;let J:=EaC 25 hq λF=>ok_so F B4 cs bk;let A:=zBc 25 ax;let aa:=EaC 26 cc λF=>zRy F J A;let br:=D 2 cw λF=>ok_st F B ci;let cj:=D 22 dt λF=>yDr F B br;let dh:=D 22 hi λF=>ok_ta F B br ax;let ac:=EaC 22 be λF=>zUn F bd RT;let ak:=EaC 25 h4 λF=>yGf F B cj dh ac;let al:=pY X G dc;let Q:=EaC 26 bq λF=>zQd F B4 al J ak;let a':=D 106 cc λF=>dn_of (zRy F J A);let y:=zBc 106 g;let L:=zBc 106 ge;let u:=zBc 106 ao;let am:=D 106 bq λF=>bn_of (zQd F B4 al J ak);let hn:=D 106 f' λF=>ok_tr F TF aa Q;let dg:=D 106 h3 λF=>ok_ba F I t r;obtain⟨m1,⟨_,F1⟩,p1⟩:=a9.out X G;let b1:Binds K _ ["one","other"] []:=(by walk_at "b" :∀i,Fun K "alike_rows" "alike_rows" zQn _ i->Binds K i ["one","other"] []) _ F1;obtain⟨m2,⟨_,F2⟩,p2⟩:=c'.out X G;let b2:Binds K _ ["one","other"] []:=(by walk_at "b" :∀i,Fun K "alike_records" "alike_records" zPu _ i->Binds K i ["one","other"] []) _ F2;obtain⟨m3,⟨_,F3⟩,p3⟩:=gd.out X G;let b3:Binds K _ ["old","new","path"] []:=(by walk_at "b" :∀i,Fun K "deeds_between_rows" "deeds_between_rows" sDr _ i->Binds K i ["old","new","path"] []) _ F3;obtain⟨m4,⟨_,F4⟩,p4⟩:=eg.out X G;let b4:Binds K _ ["old","new","path"] []:=(by walk_at "b" :∀i,Fun K "deeds_between_records" "deeds_between_records" sDc _ i->Binds K i ["old","new","path"] []) _ F4;let ah:=D3 (2+2*20) a8 λF b p m=>zRx F F1 F2 B4 bw b p m b1 p1 m1 b2 p2 m2 20;let hb:=D (2+2*20+1) et λF=>ok_ah F B6 ah;let Ga:=λk (hk:43<=k)=>zBc k ah (pB ∎ hk);let Gh:=λk (hk:43<=k)=>zBc k hb (pB ∎ hk);let Gc:=λk (hk:43<=k)=>zBc k ax (pB ∎ hk);let gq:=D3 (43+2+2*20) h9 λF b p m=>zXs F F3 F4 B6 Ga Gh Gc b p m b3 p3 m3 b4 p4 m4 20;let il:=D 106 h6 λF=>ok_df F gq;exact yEy cd B6 y dg L hn u a' am il
theorem walk{l:W.OpenLaw}{q:V3}{b:C1}{j:(Str->Option V0)->V5->Prop}{e:V4->V5->Prop}{d:DefRec}{K:Params->A6}(m:l.most=Y 63)(c:d.params.defaults= [])
  (o:∀(w:V4)(h:V5),e w h->(K w.params).In h)
  (F:∀(w:V4)(mg:C8)(fa:V1)(h:V5),(K w.params).In h->h.Ns A0 mg->mg d.name=Y (.ref fa)->
   ∃fd:V7,(∀(s:V2)(u:V0),BindsTo s fd {[u],[]} [("_law_script",u)])/\∀base:V5,(K w.params).In base->base.Ns A0 mg->FnOk l.prog w (K w.params) mg base CX0 107 fa fd ["_law_script"] (zRj (K w.params))):
  W.WalkO q b j e l.row.toRowW d [] (λf vs=>PySem.call f vs):=
 L2.zRi (n:=63) (k:=107) (x:="_law_script") (CX:=λ_=>CX0) (sp:=λw=>zRj (K w.params)) m ∎ c {O,by decide,by decide} o F (λ_ _ a g p _ i=>{a,g,O,i,p,λ_=>O}) λ_ _ _ _ _ z=>z
end K48
end
end
end
namespace PySem.W.Fast
def tw3000864085717419178:=()
def tw10239859665861990680:=()
def tw656810965471525381:=()
def tw17300788693091102141:=()
def tw11760340359674671744:=()
def tw15838626909138779865:=()
def tw1350631853227562322:=()
def tw13448583951876895702:=()
def tw10487672922221610497:=()
def tw9972478489741869237:=()
def tw16513471626124567407:=()
def tw1872576093856946989:=()
def tw16384377956343824897:=()
def tw13575807119772113031:=()
def tw11469918987027026574:=()
def tw8050686596673706297:=()
def tw11244189209668208654:=()
def tw8620370604748448589:=()
def tw16671708204813320421:=()
def tw4153847514955672135:=()
def tw3764588815563126520:=()
def tw10564350244063565809:=()
def tw2290743472395523759:=()
def tw1027380492477968087:=()
def tw17994539217106220596:=()
def tw208368251111062261:=()
def tw11830430175449717326:=()
def tw12639417701125017789:=()
def tw16378876560940429483:=()
def tw10714575903860092869:=()
def tw3077876519056699579:=()
def tw2367644130286878749:=()
def tw79502046813080171:=()
def tw10835232889588833322:=()
def tw15829934217707580700:=()
def tw2889242371607548737:=()
def tw13452088525368617653:=()
def tw912674557517933744:=()
def tw16018996632183918911:=()
def tw16028184437664920530:=()
def tw4441696588235100045:=()
def tw17249652602434073598:=()
def tw10983525607001607324:=()
def tw14217279138972497435:=()
def tw9116993636164072511:=()
def tw7462430135113781492:=()
def tw4885716433895401318:=()
def tw16875145473566997152:=()
def tw1042274871793209117:=()
def tw13819596559200863998:=()
def tw17037379518304630015:=()
def tw17373537954375028537:=()
def tw17063420575690929978:=()
def tw8852510402394784512:=()
def tw3637640622429154221:=()
def tw14977669100388420365:=()
def tw16739252667927108693:=()
def tw16819739134859786087:=()
def tw8476127510559981846:=()
def tw13203861128404534095:=()
def tw13184793275396254504:=()
def tw3117979646909030299:=()
def tw9428460246763716246:=()
def tw5867790772879264550:=()
def tw10064242423761139247:=()
def tw10258283633863189976:=()
def tw7688679577468085023:=()
def tw12810793049170849380:=()
def tw17480935783268744117:=()
def tw3845855070568775031:=()
def tw86904709549895125:=()
def tw3807350913138968234:=()
def tw11423340449085605863:=()
def tw4175409739238289244:=()
def tw8870697713815857316:=()
def tw13576910721283981316:=()
def tw1913735193436928584:=()
def tw7135856410322550645:=()
def tw17201531231485295823:=()
def tw7299109285552138167:=()
def tw12700923356726232603:=()
def tw7448545697348342330:=()
def tw3645507390418481522:=()
def tw10415922946538372784:=()
def tw8707454012104296746:=()
def tw17353640568771872053:=()
def tw12441588188209939629:=()
def tw11775356987524808803:=()
def tw8070404308139273539:=()
def tw15405453043452360811:=()
def tw13629328289728830002:=()
def tw7791707956946385228:=()
def tw1959810285068002740:=()
def tw8110340359243053786:=()
def tw15032104735918587454:=()
def tw10550748368155777459:=()
def tw18286867875286915854:=()
def tw4842929336192081660:=()
def tw15394776466056733268:=()
def tw15526362641732484233:=()
def tw1216679239128701819:=()
def tw11755885456887467688:=()
def tw6765709813644165319:=()
def tw16661597434671152234:=()
def tw15097342606734897063:=()
def tw3958351574498850651:=()
def tw5410427045758562540:=()
def tw14461397266795302053:=()
def tw8022458140623231923:=()
def tw12963998460422081053:=()
def tw1953779834458152411:=()
def tw73383245380771137:=()
def tw17965582107164188743:=()
def tw14302928671381326630:=()
def tw8569118506642467774:=()
def tw18278132576270580564:=()
def tw1950672145500591096:=()
def tw1114507585693682566:=()
def tw13575366888229403104:=()
def tw5294133952024741260:=()
def tw3785272208083272792:=()
def tw16069161855129514337:=()
def tw4596477273427189772:=()
def tw1702530276069626833:=()
def tw7866677402940688692:=()
def tw16529754519975876641:=()
def tw6089357829610534595:=()
def tw4691911007009017258:=()
def tw2210254225101621132:=()
def tw13262748292784520303:=()
def tw1336785198377888822:=()
def tw4198537273408689323:=()
def tw12222158484208957600:=()
def tw15820267279426192909:=()
def tw68103817706503044:=()
def tw7836327306732643999:=()
def tw2034656409092747348:=()
def tw15708933380847106496:=()
def tw6160687111558881494:=()
def tw11321240211056179468:=()
def tw9565946049743001353:=()
def tw8894150627655967454:=()
def tw15673651708679402540:=()
def tw664503311832362841:=()
def tw6593894938023547255:=()
def tw10631837106436042115:=()
def tw17430299641728920782:=()
def tw17297812552834625706:=()
def tw169917655049747924:=()
def tw4401568410225104739:=()
def tw10244146032735423628:=()
def tw1730357048300696624:=()
def tw545056285305706950:=()
def tw8004019342617380910:=()
def tw4886649614969699724:=()
def tw10925144448586759136:=()
def tw14244938889377118872:=()
def tw15860544301336519918:=()
def tw14012896265119351877:=()
def tw6583262845997145255:=()
def tw13537868032197000942:=()
def tw7898630460655481959:=()
def tw5546636079068577725:=()
def tw4835535738752053533:=()
def tw9141794932599645156:=()
def tw3943371165250261728:=()
def tw952379836111340604:=()
def tw4103613055147676435:=()
def tw2447199370555016470:=()
def tw6329812825057528869:=()
def tw16953137604948832389:=()
def tw18009138393908299597:=()
def tw17655194446499109427:=()
def tw4960209718629462923:=()
def tw3153786403098511447:=()
def tw3049799578783550904:=()
def tw902420843009956598:=()
def tw1434986785738103213:=()
def tw4993183202494658390:=()
def tw12766755551204703372:=()
def tw2677119361812514655:=()
def tw7177377388932209160:=()
def tw11375116225980668780:=()
def tw10499128372307799262:=()
def tw15317838285586718765:=()
def tw5111774849884781001:=()
def tw5467650878036490446:=()
def tw2991369319632862082:=()
def tw2725876036500513720:=()
def tw9895346450111621906:=()
def tw5143401219830113531:=()
def tw18019612105282016348:=()
def tw16464468945915498572:=()
def tw4554337752730145491:=()
def tw6261533262044986428:=()
def tw15513304609129939179:=()
def tw7792993638772789246:=()
def tw5509297029287771841:=()
def tw11679087925860429678:=()
def tw2785394003040381361:=()
def tw11694984882965746840:=()
def tw10952208465376493416:=()
def tw11798147789642700843:=()
def tw4778554129943019891:=()
def tw6955308771516983039:=()
def tw7301896219875979357:=()
def tw18234359654842980471:=()
def tw2224044978509658258:=()
def tw9893187270980497047:=()
def tw10723735518610270942:=()
def tw11040811752287760270:=()
def tw7538042580342512674:=()
def tw1034942860033109014:=()
def tw10377286598463976127:=()
def tw8405172308892778124:=()
def tw17854367939430765430:=()
def tw12172883255436641718:=()
def tw8060397636775262264:=()
def tw3407749595458324888:=()
def tw17359530904507612396:=()
def tw10826812927594963133:=()
def tw187082349011391245:=()
def tw3349993080891176805:=()
def tw4835289197667762808:=()
def tw17056885061164905250:=()
def tw10027429671013728677:=()
def tw1605899503129807259:=()
def tw6295125553255693522:=()
def tw10666257735382688309:=()
def tw6392598329098998661:=()
def tw6113276380778606895:=()
def tw15005282400655046100:=()
def tw12820085557929715382:=()
def tw2335905591483920091:=()
def tw15804066239837770836:=()
def tw1823207470178500870:=()
def tw11693542871053406682:=()
def tw2339856049681392627:=()
def tw9435427370473066189:=()
def tw12811453603098928344:=()
def tw12098059023824770632:=()
def tw17425072634171062909:=()
def tw5628937387419405771:=()
def tw1598966892235636129:=()
def tw8437137428665811272:=()
def tw6037285760222191062:=()
def tw287334211378268453:=()
def tw14882962043314534079:=()
def tw4661462939016558524:=()
def tw9923603509290270160:=()
def tw154919890550930561:=()
def tw6066863081607054980:=()
def tw1201786639825365541:=()
def tw15733468103882671379:=()
end PySem.W.Fast
open PySem PySem.W PyProof.Rows
set_option maxRecDepth 100000 in
set_option maxHeartbeats 0 in
theorem PySem.Challenge.cw_cabinet_k48_whole_there_and_back_holds : PySem.Challenge.rw_cabinet_k48_whole_there_and_back.Holds := by
  w_on;o_law;k_head;(case hw=>w_witness2)
  k_fill
  refine K48.walk (l:=PySem.Challenge.rw_cabinet_k48_whole_there_and_back) rfl rfl (fun w h Y=>PySem.W.kIn_of Y) ?F
  case F=>
    intro w mg fa h KX G hmg;refine' K48.all_mk KX G hmg ?a0 ?a1 ?a2 ?a3 ?a4 ?a5 ?a6 ?a7 ?a8 ?a9 ?a10 ?a11 ?a12 ?a13 ?a14 ?a15 ?a16 ?a17 ?a18 ?a19 ?a20 ?a21 ?a22 ?a23 ?a24 ?a25 ?a26 ?a27 ?a28 ?a29 ?a30 ?a31 ?a32 ?a33 ?a34 ?a35 ?a36 ?a37 ?a38 ?a39 ?a40 ?a41 ?a42 ?a43 ?a44 ?a45 ?a46 ?a47 ?a48 ?a49 ?a50 ?a51 ?a52 ?a53 ?a54 ?l54 ?c54 ?k54 ?z0 ?z1 ?z2 ?z3 ?z4 ?z5 ?z6 ?z7 ?z8 ?z9 ?z10 ?y0 ?y1 ?y2 ?r0 ?q0 ?q1 ?zz0 ?s0 ?s1 ?n0 ?n1 ?n2 ?n3 ?n4 ?n5 ?ha ?hs ?ht ?hk ?hu ?xaB ?hrv ?xb1 ?xc0 ?xc1 ?xc2 ?pa ?pb0 ?pb2 ?pb3 ?pb4 ?pb5 ?pb6 ?pd0 ?pd1 ?pd2 ?da ?db0 ?db2 ?db3 ?db4 ?db5 ?db6 ?dd0 ?dd1 ?dd2 ?dfn ?ta ?tb0 ?tb2 ?tb3 ?tb6 ?xf1 ?xf5B ?xf2B
    case a0 | a1 | a2 | a3 | a4 | a5 | a6 | a7 | a8 | a9 | a10 | a11 | a12 | a13 | a14 | a15 | a16 | a17 | a18 | a19 | a20 | a21 | a22 | a23 | a24 | a25 | a26 | a27 | a28 | a29 | a30 | a31 | a32 | a33 | a34 | a35 | a36 | a37 | a38 | a39 | a40 | a41 | a42 | a43 | a44 | a45 | a46 | a47 | a48 | a49 | a50 | a51 | a52 | a53=>exact⟨by k_is,_,_,_,_,_,_,_,_,_,by k_is,by k_is,by k_is⟩
    case a54 | l54 | c54 | k54 | z0 | z1 | z2 | z3 | z4 | z5 | z6 | z7 | z8 | z9 | z10 | y0 | y1 | y2 | r0 | q0 | q1 | zz0 | s0 | s1 | n0 | n1 | n2 | n3 | n4 | n5 | ha | hs | ht | hk | hu | xaB | hrv=>k_is
    case xb1=>first | rfl | kernel_rfl
    case xc0 | xc1 | xc2 | pa | pb0 | pb2 | pb3 | pb4 | pb5 | pb6 | pd0 | pd1 | pd2 | da | db0 | db2 | db3 | db4 | db5 | db6 | dd0 | dd1 | dd2 | dfn | ta | tb0=>k_is
    case tb2=>first | rfl | kernel_rfl
    case tb3 | tb6=>k_is
    case xf1 | xf5B | xf2B=>first | rfl | kernel_rfl
