import PyProof.Rows.All
import Wide.All
import OpenK.AllK
import Wide.FinOn
import Lean
import PyProof.EqAt
import PyProof.EqKinds
import PyProof.TupleCall
import PyProof.StrReplace2
import PyProof.DictItems
import PyProof.EnumStmt
import PyProof.EnumFor
import PyProof.DictItemsLoops
import PyProof.ZipIter
import PyProof.IsRules
import PyProof.Rows.SortRev
import KE.KIntText
import OpenK.KRaise
import KE.TryInHelper
import PyProof.RulesRaise
import PyProof.Rows.RaiseClass
import PyProof.RaisesMany
import PyProof.ExcClass3
import PyProof.ExcBaseAll.ValueError
import KE.KTryMore
import PyProof.InstStoreFacts
import OpenK.KMake
import PyProof.ExcAttrAll.ValueError
import KE.KIsAll
import OpenK.KWalk
import OpenK.KDescr
import PyProof.PureStr
import PyProof.ExcStr
import PyProof.CallStr
import KE.KCallOwn
import KE.KSortTup
import PyProof.Rows.StrCut
import PyProof.StrBlock
import KE.IntTextLaws
import PyProof.DictValues
import PyProof.DictWalks
import PyProof.Rows.Range3
import KE.KDictOf
import KE.KRevIter
import KE.KDictList
import PyProof.EqAt
import PySem.Challenge.RW_cabinet_k43_backs
set_option compiler.extract_closed false
set_option Elab.async false
set_option linter.all false
set_option maxRecDepth 100000
set_option maxHeartbeats 4000000
section
variable{t1 t2 t3 t4 t5:Type}{G:Prop}{p00 p01 p02 p03 p04 p05:Prop}{p11 p12 p13 p14 p15:t1→Prop}{p22 p23 p24 p25:t1→t2→Prop}{p33 p34 p35:t1→t2→t3→Prop}{p44 p45:t1→t2→t3→t4→Prop}{p55:t1→t2→t3→t4→t5→Prop}
theorem oA(h:p00∧p01)(k:p00→p01→G):G:=by obtain⟨a,b⟩:=h;exact k a b
theorem oAA(h:p00∧p01∧p02)(k:p00→p01→p02→G):G:=by obtain⟨a,b,c⟩:=h;exact k a b c
theorem xA(h:p00∧p01∧p02∧p03)(k:p00→p01→p02→p03→G):G:=by obtain⟨a,b,c,d⟩:=h;exact k a b c d
theorem vB(h:p00∧p01∧p02∧p03∧p04)(k:p00→p01→p02→p03→p04→G):G:=by obtain⟨a,b,c,d,e⟩:=h;exact k a b c d e
theorem zS(h:p00∧p01∧p02∧p03∧p04∧p05)(k:p00→p01→p02→p03→p04→p05→G):G:=by obtain⟨a,b,c,d,e,f⟩:=h;exact k a b c d e f
theorem yGb(h:p00∧p01∧p02∧p03∧(∃e,p15 e))(k:p00→p01→p02→p03→∀e,p15 e→G):G:=by obtain⟨a,b,c,d,e,f⟩:=h;exact k a b c d e f
theorem zJw(h:p00∧p01∧p02∧(∃d,p14 d∧p15 d))(k:p00→p01→p02→∀d,p14 d→p15 d→G):G:=by obtain⟨a,b,c,d,e,f⟩:=h;exact k a b c d e f
theorem yDi(h:p00∧p01∧(∃c,p13 c∧p14 c))(k:p00→p01→∀c,p13 c→p14 c→G):G:=by obtain⟨a,b,c,d,e⟩:=h;exact k a b c d e
theorem oAEA(h:p00∧(∃b,p12 b∧p13 b))(k:p00→∀b,p12 b→p13 b→G):G:=by obtain⟨a,b,c,d⟩:=h;exact k a b c d
theorem yEl(h:p00∧(∃b,p12 b∧p13 b∧p14 b))(k:p00→∀b,p12 b→p13 b→p14 b→G):G:=by obtain⟨a,b,c,d,e⟩:=h;exact k a b c d e
theorem yIl(h:p00∧(∃b,p12 b∧p13 b∧p14 b∧p15 b))(k:p00→∀b,p12 b→p13 b→p14 b→p15 b→G):G:=by obtain⟨a,b,c,d,e,f⟩:=h;exact k a b c d e f
theorem yGe(h:p00∧(∃b,∃c,p23 b c∧p24 b c∧p25 b c))(k:p00→∀b,∀c,p23 b c→p24 b c→p25 b c→G):G:=by obtain⟨a,b,c,d,e,f⟩:=h;exact k a b c d e f
theorem zWd(h:p00∧(∃b,∃c,∃d,p34 b c d∧p35 b c d))(k:p00→∀b,∀c,∀d,p34 b c d→p35 b c d→G):G:=by obtain⟨a,b,c,d,e,f⟩:=h;exact k a b c d e f
theorem oE(h:∃a,p11 a)(k:∀a,p11 a→G):G:=by obtain⟨a,b⟩:=h;exact k a b
theorem oEA(h:∃a,p11 a∧p12 a)(k:∀a,p11 a→p12 a→G):G:=by obtain⟨a,b,c⟩:=h;exact k a b c
theorem xC(h:∃a,p11 a∧p12 a∧p13 a)(k:∀a,p11 a→p12 a→p13 a→G):G:=by obtain⟨a,b,c,d⟩:=h;exact k a b c d
theorem jD(h:∃a,p11 a∧p12 a∧p13 a∧p14 a)(k:∀a,p11 a→p12 a→p13 a→p14 a→G):G:=by obtain⟨a,b,c,d,e⟩:=h;exact k a b c d e
theorem wG(h:∃a,p11 a∧p12 a∧p13 a∧p14 a∧p15 a)(k:∀a,p11 a→p12 a→p13 a→p14 a→p15 a→G):G:=by obtain⟨a,b,c,d,e,f⟩:=h;exact k a b c d e f
theorem oEE(h:∃a,∃b,p22 a b)(k:∀a,∀b,p22 a b→G):G:=by obtain⟨a,b,c⟩:=h;exact k a b c
theorem wS(h:∃a,∃b,p22 a b∧p23 a b)(k:∀a,∀b,p22 a b→p23 a b→G):G:=by obtain⟨a,b,c,d⟩:=h;exact k a b c d
theorem yL(h:∃a,∃b,p22 a b∧p23 a b∧p24 a b)(k:∀a,∀b,p22 a b→p23 a b→p24 a b→G):G:=by obtain⟨a,b,c,d,e⟩:=h;exact k a b c d e
theorem zR(h:∃a,∃b,p22 a b∧p23 a b∧p24 a b∧p25 a b)(k:∀a,∀b,p22 a b→p23 a b→p24 a b→p25 a b→G):G:=by obtain⟨a,b,c,d,e,f⟩:=h;exact k a b c d e f
theorem yGh(h:∃a,∃b,p22 a b∧(∃d,∃e,p45 a b d e))(k:∀a,∀b,p22 a b→∀d,∀e,p45 a b d e→G):G:=by obtain⟨a,b,c,d,e,f⟩:=h;exact k a b c d e f
theorem zVj(h:∃a,∃b,∃c,p33 a b c)(k:∀a,∀b,∀c,p33 a b c→G):G:=by obtain⟨a,b,c,d⟩:=h;exact k a b c d
theorem zEo(h:∃a,∃b,∃c,p33 a b c∧p34 a b c)(k:∀a,∀b,∀c,p33 a b c→p34 a b c→G):G:=by obtain⟨a,b,c,d,e⟩:=h;exact k a b c d e
theorem zU(h:∃a,∃b,∃c,p33 a b c∧p34 a b c∧p35 a b c)(k:∀a,∀b,∀c,p33 a b c→p34 a b c→p35 a b c→G):G:=by obtain⟨a,b,c,d,e,f⟩:=h;exact k a b c d e f
theorem yN(h:∃a,∃b,∃c,∃d,p44 a b c d∧p45 a b c d)(k:∀a,∀b,∀c,∀d,p44 a b c d→p45 a b c d→G):G:=by obtain⟨a,b,c,d,e,f⟩:=h;exact k a b c d e f
theorem yA(h:∃a,∃b,∃c,∃d,∃e,p55 a b c d e)(k:∀a,∀b,∀c,∀d,∀e,p55 a b c d e→G):G:=by obtain⟨a,b,c,d,e,f⟩:=h;exact k a b c d e f

theorem nA(a:p00)(b:p01):p00∧p01:=⟨a,b⟩
theorem nAA(a:p00)(b:p01)(c:p02):p00∧p01∧p02:=⟨a,b,c⟩
theorem zZc(a:p00)(b:p01)(c:p02)(d:p03):p00∧p01∧p02∧p03:=⟨a,b,c,d⟩
theorem yDb(a:p00)(b:p01)(c:p02)(d:p03)(e:p04):p00∧p01∧p02∧p03∧p04:=⟨a,b,c,d,e⟩
theorem zDk(a:p00)(b:p01)(c:p02)(d:p03)(e:p04)(f:p05):p00∧p01∧p02∧p03∧p04∧p05:=⟨a,b,c,d,e,f⟩
theorem nAAEA(a:p00)(b:p01)(c:t1)(d:p13 c)(e:p14 c):p00∧p01∧(∃c,p13 c∧p14 c):=⟨a,b,c,d,e⟩
theorem yAe(a:p00)(b:p01)(c:t1)(d:t2)(e:p24 c d)(f:p25 c d):p00∧p01∧(∃c,∃d,p24 c d∧p25 c d):=⟨a,b,c,d,e,f⟩
theorem zPi(a:p00)(b:t1)(c:p12 b)(d:p13 b):p00∧(∃b,p12 b∧p13 b):=⟨a,b,c,d⟩
theorem nAEAA(a:p00)(b:t1)(c:p12 b)(d:p13 b)(e:p14 b):p00∧(∃b,p12 b∧p13 b∧p14 b):=⟨a,b,c,d,e⟩
theorem uP(a:p00)(b:t1)(c:p12 b)(d:p13 b)(e:p14 b)(f:p15 b):p00∧(∃b,p12 b∧p13 b∧p14 b∧p15 b):=⟨a,b,c,d,e,f⟩
theorem yIi(a:p00)(b:t1)(c:t2)(d:p23 b c)(e:p24 b c)(f:p25 b c):p00∧(∃b,∃c,p23 b c∧p24 b c∧p25 b c):=⟨a,b,c,d,e,f⟩
theorem nEA(a:t1)(b:p11 a)(c:p12 a):∃a,p11 a∧p12 a:=⟨a,b,c⟩
theorem zAm(a:t1)(b:p11 a)(c:p12 a)(d:p13 a):∃a,p11 a∧p12 a∧p13 a:=⟨a,b,c,d⟩
theorem zFx(a:t1)(b:p11 a)(c:p12 a)(d:p13 a)(e:p14 a):∃a,p11 a∧p12 a∧p13 a∧p14 a:=⟨a,b,c,d,e⟩
theorem yIn(a:t1)(b:p11 a)(c:p12 a)(d:p13 a)(e:p14 a)(f:p15 a):∃a,p11 a∧p12 a∧p13 a∧p14 a∧p15 a:=⟨a,b,c,d,e,f⟩
theorem yHe(a:t1)(b:p11 a)(c:p12 a)(d:p13 a)(e:t2)(f:p25 a e):∃a,p11 a∧p12 a∧p13 a∧(∃e,p25 a e):=⟨a,b,c,d,e,f⟩
theorem yFs(a:t1)(b:p11 a)(c:p12 a)(d:t2)(e:p24 a d)(f:p25 a d):∃a,p11 a∧p12 a∧(∃d,p24 a d∧p25 a d):=⟨a,b,c,d,e,f⟩
theorem yFq(a:t1)(b:p11 a)(c:p12 a)(d:t2)(e:t3)(f:p35 a d e):∃a,p11 a∧p12 a∧(∃d,∃e,p35 a d e):=⟨a,b,c,d,e,f⟩
theorem zVw(a:t1)(b:p11 a)(c:t2)(d:p23 a c):∃a,p11 a∧(∃c,p23 a c):=⟨a,b,c,d⟩
theorem qR(a:t1)(b:p11 a)(c:t2)(d:p23 a c)(e:p24 a c):∃a,p11 a∧(∃c,p23 a c∧p24 a c):=⟨a,b,c,d,e⟩
theorem zDx(a:t1)(b:p11 a)(c:t2)(d:p23 a c)(e:p24 a c)(f:p25 a c):∃a,p11 a∧(∃c,p23 a c∧p24 a c∧p25 a c):=⟨a,b,c,d,e,f⟩
theorem kB(a:t1)(b:p11 a)(c:t2)(d:p23 a c)(e:t3)(f:p35 a c e):∃a,p11 a∧(∃c,p23 a c∧(∃e,p35 a c e)):=⟨a,b,c,d,e,f⟩
theorem nEEA(a:t1)(b:t2)(c:p22 a b)(d:p23 a b):∃a,∃b,p22 a b∧p23 a b:=⟨a,b,c,d⟩
theorem yDy(a:t1)(b:t2)(c:p22 a b)(d:p23 a b)(e:p24 a b):∃a,∃b,p22 a b∧p23 a b∧p24 a b:=⟨a,b,c,d,e⟩
theorem zBv(a:t1)(b:t2)(c:p22 a b)(d:p23 a b)(e:p24 a b)(f:p25 a b):∃a,∃b,p22 a b∧p23 a b∧p24 a b∧p25 a b:=⟨a,b,c,d,e,f⟩
theorem yGt(a:t1)(b:t2)(c:p22 a b)(d:p23 a b)(e:t3)(f:p35 a b e):∃a,∃b,p22 a b∧p23 a b∧(∃e,p35 a b e):=⟨a,b,c,d,e,f⟩
theorem qX(a:t1)(b:t2)(c:t3)(d:p33 a b c)(e:p34 a b c)(f:p35 a b c):∃a,∃b,∃c,p33 a b c∧p34 a b c∧p35 a b c:=⟨a,b,c,d,e,f⟩
theorem zOq(a:t1)(b:t2)(c:t3)(d:t4)(e:t5)(f:p55 a b c d e):∃a,∃b,∃c,∃d,∃e,p55 a b c d e:=⟨a,b,c,d,e,f⟩
end

section
open PySem renaming Value→V0,Addr→V1,Shared→V2,Program→V3,World→V4,Heap→V5,Stmt→V6,FuncData→V7,wpAny→V8,sizeLine→V9,mainGlobals→A0,bootBuiltins→A4,starEach→A5,compareOp→A6,sysModules→A7,standAt→S3,swapsWith→S4,backTo→S5,model→S8,assignEach→S9,Env→P0
open PySem.Str renaming ofString→A8
open PySem.W renaming Frag→A9,keepIn→S0,nsIn→S1,codeIn→S2
open PySem.NameKind renaming free→S6
open PySem.Builtin.Range renaming rangeSize→S7
theorem O.{u}{α:Sort u}{a:α}:a=a:=rfl
section
open Option renaming some→Y
set_option hygiene false
local macro_rules|`(tactic|let $d:letDecl)=>`(tactic|have $d:letDecl)
local macro_rules|`(tactic|lk)=>`(tactic|walk_at "rd3")
local macro_rules|`(∅)=>`(by lia)
local macro_rules|`(∎)=>`(by decide)
local macro_rules|`(tb_g%)=>`(by walk_at "wu")
local macro_rules|`(↥$x)=>`(some $x)
local macro_rules|`($x...*)=>`(($x).length)
local macro_rules|`($x⁻¹)=>`(($x).heap.objs.size)
local macro_rules|`({$x:term,*})=>`(⟨$x,*⟩)
set_option hygiene true
local macro_rules|`(tactic|ext $x*)=>let a:Array Lean.Term:=x.map fun s=>⟨if s.raw[0].isOfKind `Lean.Parser.Tactic.rcasesPat.one then s.raw[0][0] else Lean.mkNode `Lean.Parser.Term.hole #[Lean.mkAtom "_"]⟩;let f:=a[0]!;let z:=a[1]!;let r:=a.extract 2 a.size;`(tactic|(revert $z;intro z_;refine $f z_ fun $r* =>?_;clear z_))
namespace L2
open PySem PySem.Spec PyProof.Rows
abbrev mC:=@wpAny_bind
abbrev mD:=@List.mem_cons_self
abbrev mE:=@Nat.le_refl
abbrev mF:=@List.mem_cons
abbrev mG:=@List.mem_cons_of_mem
abbrev mH:=@List.mem_singleton
abbrev mI:=@if_neg
abbrev mJ:=@List.getElem?_eq_some_iff
abbrev mK:=@True.intro
abbrev mL:=@Heap.get?_push_of_some
abbrev mM:=@List.length_append
abbrev mN:=@List.length_map
abbrev mO:=@List.mem_of_getElem?
abbrev mP:=@if_pos
abbrev mQ:=@List.getElem?_eq_getElem
abbrev mS:=@sizeLine_eq
abbrev mT:=@wpAny_pure
abbrev mU:=@Option.some.inj
abbrev mV:=@Heap.get?_update_other
abbrev mW:=@List.length_cons
abbrev mX:=@List.mem_append_right
abbrev mY:=@List.size_toArray
abbrev mZ:=@Heap.lt_size
abbrev nB:=@List.mem_append
abbrev nD:=@Bool.false_ne_true
abbrev nF:=@decide_eq_true
abbrev nG:=@List.map_cons
abbrev nH:=@List.getElem?_map
abbrev nI:=@List.map_append
abbrev nJ:=@decide_eq_false
abbrev nL:=@List.length_singleton
abbrev nM:=@Heap.get?_push_size
abbrev nN:=@Nat.lt_of_lt_of_le
abbrev nO:=@Or.inl
abbrev nP:=@Nat.ne_of_lt
abbrev nQ:=@List.mem_append_left
abbrev nR:=@Nat.zero_le
abbrev nS:=@List.getElem?_append_right
abbrev nU:=@List.drop_eq_getElem_cons
abbrev nV:=@List.mem_map
abbrev nW:=@Nat.le_trans
abbrev nX:=@List.nodup_cons
abbrev nY:=@PySem.F.plainAttrs_list
abbrev nZ:=@List.length_take
abbrev pA:=@Bool.and_eq_true
abbrev pB:=@List.getElem?_append_left
abbrev pC:=@wpAny_mono
abbrev pG:=@List.take_length
abbrev pH:=@Array.getElem?_eq_some_iff
abbrev pJ:=@List.append_nil
abbrev pK:=@PySem.F.slot_list_append
abbrev pL:=@wpAny_holding
abbrev pM:=@W.mg_none_of
abbrev pO:=@decide_eq_true_eq
abbrev pP:=@Nat.le_succ
abbrev pQ:=@List.drop_of_length_le
abbrev pU:=@Array.getElem?_setIfInBounds_ne
abbrev pV:=@Nat.not_lt_zero
abbrev pW:=@List.filterMap_cons
abbrev pY:=@List.getElem?_cons_zero
abbrev pZ:=@wpAny_truthy_bool
abbrev rA:=@wpAny_Call_Name_kw
abbrev rB:=@List.length_nil
abbrev rC:=@Nat.ne_of_gt
abbrev rD:=@List.length_drop
abbrev rE:=@Nat.succ_le_succ
abbrev rF:=@List.all_eq_true
abbrev rG:=@PySem.F.type_list_append
abbrev rH:=@List.replicate_succ
abbrev rJ:=@List.length_replicate
abbrev rK:=@Heap.get?_none_of_le
abbrev rL:=@Option.map_eq_some_iff
abbrev rM:=@List.take_of_length_le
abbrev rN:=@wpAny_field
abbrev rO:=@List.not_mem_nil
abbrev rP:=@PyProof.Rows.callWith_type1
abbrev rQ:=@wpAny_typeOf_ref
abbrev rR:=@wpAny_standAt
abbrev rT:=@codeAny_mono
abbrev rV:=@beq_eq_false_iff_ne
abbrev rW:=@PySem.mem_of_lookup
abbrev rX:=@List.lookup_cons
abbrev rY:=@Int.emod_lt_of_pos
abbrev rZ:=@List.getElem?_set_ne
abbrev sA:=@W.mg_of
abbrev sB:=@List.filter_cons_of_pos
abbrev sC:=@List.filter_cons_of_neg
abbrev sD:=@List.flatten_cons
abbrev sE:=@List.append_assoc
abbrev sF:=@Int.emod_nonneg
abbrev sG:=@List.map_congr_left
abbrev sH:=@List.getElem?_set_self
abbrev sI:=@List.map_map
abbrev sJ:=@List.getD_eq_getElem?_getD
abbrev sK:=@List.getElem_mem
abbrev sL:=@Array.getElem?_toList
abbrev sM:=@List.getElem?_eq_none
abbrev sN:=@wpAny_setField
abbrev sO:=@List.contains_cons
abbrev sP:=@List.map_nil
abbrev sQ:=@call_meets
abbrev sR:=@Array.size_setIfInBounds
abbrev sS:=@of_decide_eq_true
abbrev sT:=@Nat.le_succ_of_le
abbrev sU:=@Nat.lt_irrefl
abbrev sV:=@Array.getElem?_setIfInBounds_self_of_lt
abbrev sW:=@Int.eq_ofNat_of_zero_le
abbrev sX:=@PySem.F.slot_list_index
abbrev sY:=@Bool.false_and
abbrev sZ:=@Heap.size_push
abbrev tD:=@F.plain_max_loop
abbrev tE:=@Nat.lt_succ_self
abbrev tF:=@List.drop_length
abbrev tG:=@W.kia_one
abbrev tH:=@List.idxOf_lt_length_of_mem
abbrev tI:=@wpAny_passesOwn
abbrev tJ:=@Heap.get?_update_self
abbrev tK:=@List.foldl_cons
abbrev tL:=@Bool.true_and
abbrev tM:=@Around.under_plainId
abbrev tP:=@List.mem_of_mem_take
abbrev tQ:=@List.mem_range
abbrev tR:=@Bool.and_false
abbrev tS:=@Nat.le_of_lt
abbrev tU:=@Bool.or_true
abbrev tV:=@Array.length_toList
abbrev tW:=@List.getElem?_replicate
abbrev tX:=@PySem.F.type_list_index
abbrev tY:=@List.getLast?_cons_cons
abbrev tZ:=@wpAny_execs_nil
abbrev aA:=@Bool.eq_iff_iff
abbrev aB:=@wpAny_call
abbrev aD:=@List.length_set
abbrev aE:=@List.nil_append
abbrev aF:=@List.find?_cons
abbrev aG:=@wpAny_pyNext_list_item
abbrev aH:=@Calls.callWith_builtin
abbrev aI:=@List.drop_eq_nil_of_le
abbrev aJ:=@List.eq_nil_of_length_eq_zero
abbrev aK:=@wpAny_pyNext_list_end
abbrev aL:=@Or.inr
abbrev aM:=@wpAny_tryCatch
abbrev aN:=@List.drop_zero
abbrev aO:=@List.nodup_nil
abbrev aP:=@List.mem_iff_getElem?
abbrev aQ:=@codeAny_handlers_test
abbrev aR:=@List.dropLast_concat_getLast
abbrev aS:=@List.take_append_drop
abbrev aT:=@codeAny_call_builtin
abbrev aU:=@Nat.mul_le_mul_right
abbrev aV:=@Nat.not_succ_le_zero
abbrev aW:=@ks_wpAny_isType_inst
abbrev aX:=@List.cons_append
abbrev aY:=@decide_eq_decide
abbrev aZ:=@List.mem_of_mem_drop
abbrev bA:=@plainId_quiet
abbrev bB:=@wpAny_handleBy_cons
abbrev bC:=@List.mem_filter
abbrev bD:=@codeAny_builtin
abbrev bE:=@Nat.le_add_left
abbrev bF:=@List.getLast?_eq_none_iff
abbrev bG:=@List.getLast?_eq_getElem?
abbrev bH:=@Calls.spliced_cons
abbrev bI:=@wpAny_comprehension_free
abbrev bJ:=@or_false
abbrev bK:=@wpAny_nameGoes
abbrev bL:=@PySem.F.plainAttrs_dict
abbrev bM:=@wpAny_pyIter_list
abbrev bN:=@Calls.spliced_nil
abbrev bO:=@List.reverse_cons
abbrev bP:=@wpAny_newObj_type
abbrev bQ:=@List.nodup_append
abbrev bS:=@Int.toNat_natCast
abbrev bT:=@Nat.lt_succ_of_le
abbrev bU:=@List.length_range
abbrev bV:=@List.set_eq_take_append_cons_drop
abbrev bW:=@List.all_cons
abbrev bX:=@List.any_cons
abbrev bY:=@wpAny_execs_cons
abbrev bZ:=@List.any_eq_true
abbrev cA:=@Bool.not_eq_true
abbrev cD:=@plainObj_wpAny_Assign_Attribute
abbrev cE:=@List.of_mem_zip
abbrev cF:=@PyProof.Rows.callWith_builtin1
abbrev cG:=@Nat.lt_trans
abbrev cI:=@List.all_map
abbrev cJ:=@F.excBase_ValueError
abbrev cK:=@List.take_left'
abbrev cL:=@List.forall_mem_cons
abbrev cM:=@F.slot_dict_itemiterator_iter
abbrev cN:=@List.getLast?_eq_some_getLast
abbrev cO:=@wpAny_isSubtype_exc
abbrev cP:=@List.length_reverse
abbrev cQ:=@wpAny_seqItems
abbrev cR:=@W.kitx_dict
abbrev cS:=@wpAny_letGo
abbrev cU:=@SeqAt.EqAt.str_str
abbrev cV:=@tupleKind_room_in1
abbrev cW:=@Nat.lt_of_le_of_lt
abbrev cX:=@List.pairwise_cons
abbrev cY:=@List.set_cons_zero
abbrev cZ:=@List.set_cons_succ
abbrev dA:=@List.mem_replicate
abbrev dB:=@wpAny_assign_Name
abbrev dC:=@PySem.list_append
abbrev dE:=@List.filter_cons
abbrev dG:=@F.entry_max_loop
abbrev dH:=@Nat.le_add_right
abbrev dI:=@beq_self_eq_true
abbrev dJ:=@Nat.min_eq_right
abbrev dL:=@eq_false
abbrev dM:=@List.cons_ne_nil
abbrev dO:=@wpAny_updateSeq
abbrev dP:=@Nat.le_max_left
abbrev dQ:=@Nat.min_eq_left
abbrev dR:=@exists_eq_left'
abbrev dS:=@W.kitx_list
abbrev Key:=Sum Int Str
def zGl:Key->V0->Bool
 |.inl k,v=>Value.isInt k v|.inr x,v=>Value.isStrOf x v
def keyH(w:V4):Key->Int
 |.inl k=>hashInt k|.inr x=>hashStr w x
theorem wI:∀{k:Key}{v:V0},zGl k v=true->(∃i t,k=Sum.inl i/\v=Value.int i t)\/(∃x t,k=Sum.inr x/\v=Value.str x t)
 |.inl i,v,h=>by
  obtain⟨t,e⟩:=Value.isInt_shape (k:=i) (v:=v) h;exact .inl ⟨i,t,O,e⟩
 |.inr x,v,h=>by
  obtain⟨t,e⟩:=Value.isStrOf_shape (x:=x) (v:=v) h;exact .inr ⟨x,t,O,e⟩
theorem zSs(i:Int)(t:Tok):zGl (.inl i) (.int i t)=true:=by simp[zGl,Value.isInt]
theorem zUc(x:Str)(t:Tok):zGl (.inr x) (.str x t)=true:=by simp[zGl,Value.isStrOf]
theorem yGy(a b:Int):decide ((Sum.inl a:Key)=Sum.inl b)=(a==b):=by
 by_cases e:a=b
 ·subst e;simp
 ·let h:¬(Sum.inl a:Key)=Sum.inl b:=λq=>e (Sum.inl.inj q)
  rw[nJ h];exact(rV.mpr e).symm
theorem yHs(a b:Str):decide ((Sum.inr a:Key)=Sum.inr b)=decide (a=b):=by
 by_cases e:a=b
 ·subst e;simp
 ·let h:¬(Sum.inr a:Key)=Sum.inr b:=λq=>e (Sum.inr.inj q)
  rw[nJ h,nJ e]
theorem yIp(a:Int)(b:Str):decide ((Sum.inl a:Key)=Sum.inr b)=false:=nJ (λq=>nomatch q)
theorem yFt(a:Str)(b:Int):decide ((Sum.inr a:Key)=Sum.inl b)=false:=nJ (λq=>nomatch q)
def yZ(prog:V3)(w:V4):PySem.KeyKind prog w Key where
 is:=zGl
 hash:=keyH w
 inj:=λv a b l f=>by
  rcases wI l with⟨i,t,rfl,rfl⟩|⟨x,t,rfl,rfl⟩
  ·rcases wI f with⟨j,u,rfl,e⟩|⟨y,u,rfl,e⟩
   ·injection e with c _;rw[c]
   ·exact nomatch e
  ·rcases wI f with⟨j,u,rfl,e⟩|⟨y,u,rfl,e⟩
   ·exact nomatch e
   ·injection e with c _;rw[c]
 byValue:=λk v h=>by
  rcases wI h with⟨i,t,rfl,rfl⟩|⟨x,t,rfl,rfl⟩<;>rfl
 pyHash:=λd h=>by
  rcases wI d with⟨i,t,rfl,rfl⟩|⟨x,t,rfl,rfl⟩
  ·exact wpAny_pyHash_int h
  ·exact wpAny_pyHash_str h
 eqBool:=λg d h=>by
  rcases wI g with⟨i,t,rfl,rfl⟩|⟨x,t,rfl,rfl⟩
  ·rcases wI d with⟨j,u,rfl,rfl⟩|⟨y,u,rfl,rfl⟩
   ·rw[yGy] at h;exact wpAny_eqBool_int h
   ·rw[yIp] at h;exact SeqAt.EqAt.int_str i t y u _ _ _ _ h
  ·rcases wI d with⟨j,u,rfl,rfl⟩|⟨y,u,rfl,rfl⟩
   ·rw[yFt] at h;exact SeqAt.EqAt.str_int x t j u _ _ _ _ h
   ·rw[yHs] at h;exact wpAny_eqBool_str h
 «strs»:=λk x t v h=>by
  rcases wI h with⟨i,u,rfl,e⟩|⟨y,u,rfl,e⟩
  ·exact nomatch e
  ·injection e with c _
   subst c;cases v<;>rfl
theorem zMy(prog:V3)(w:V4)(i:Int)(t:Tok):(yZ prog w).is (.inl i) (.int i t)=true:=zSs i t
theorem zLh(prog:V3)(w:V4)(x:Str)(t:Tok):(yZ prog w).is (.inr x) (.str x t)=true:=zUc x t
inductive V where
 |non | bl (b:Bool)| int (i:Int)| str (x:Str)| byt (b:Array UInt8)| flt (b:UInt64)| ref (a:V1)| ty (n:String)
 deriving DecidableEq
def RelV:V->V0->Prop
 |.non,u=>u=Value.none|.bl b,u=>u=Value.bool b|.int i,u=>∃t,u=Value.int i t|.str x,u=>∃t,u=Value.str x t|.byt b,u=>∃t,u=Value.bytes b t|.flt b,u=>∃t,u=Value.float b t|.ref a,u=>u=Value.ref a|.ty n,u=>u=Value.type n
abbrev Vals:List V->List V0->Prop:=Paired RelV
abbrev _root_.B3:=List V
abbrev _root_.B7:=List V0
theorem Vals.length{xs:B3}{us:B7}(r:Vals xs us):xs...*=us...*:=Paired.length r
theorem Vals.get:∀{xs:B3}{us:B7}{i:Nat}{x:V},Vals xs us->xs[i]? =Y x->∃u,us[i]? =Y u/\RelV x u
 |_,_,_,_, .nil,e=>by simp at e|_,_,0,_, .cons r _,e=>by simp at e;subst e;exact⟨_,O,r⟩|_,_,i+1,x, .cons _ t,e=>by
  obtain⟨u,a,b⟩:=Vals.get (i:=i) (x:=x) t (by simpa using e);exact{u,by simpa using a,b}
theorem Vals.set{x:V}{u:V0}(r:RelV x u):∀{xs:B3}{us:B7}(i:Nat),Vals xs us->Vals (xs.set i x) (us.set i u)
 |_,_,_, .nil=>.nil|_,_,0, .cons _ t=>.cons r t|_,_,i+1, .cons q t=>.cons q (Vals.set r i t)
theorem Vals.append:∀{xs ys:B3}{us a:B7},Vals xs us->Vals ys a->Vals (xs++ys) (us++a)
 |_,_,_,_, .nil,s=>s|_,_,_,_, .cons r t,s=>.cons r (Vals.append t s)
theorem Vals.take:∀{xs:B3}{us:B7}(n:Nat),Vals xs us->Vals (xs.take n) (us.take n)
 |_,_,0,_=>.nil|_,_,_+1, .nil=>.nil|_,_,n+1, .cons r t=>.cons r (Vals.take n t)
theorem Vals.drop:∀{xs:B3}{us:B7}(n:Nat),Vals xs us->Vals (xs.drop n) (us.drop n)
 |_,_,0,r=>r|_,_,_+1, .nil=>.nil|_,_,n+1, .cons _ t=>Vals.drop n t
def RelO:Option V->Option V0->Prop
 |some v,Y u=>RelV v u|none,none=>True|_,_=>False
def KV{κ:Type}:List (κ×V)->List (κ×V0)->Prop:=Paired fun(p:κ×V) (q:κ×V0)=>p.1=q.1/\RelV p.2 q.2
def kV:Key->V
 |.inl i=>.int i|.inr x=>.str x
abbrev _root_.D0:=List (Key×V)
inductive HO where
 |lst (xs:B3)
 |tup (xs:B3)
 |dK (kvs:D0)| dT (kvs:List (List Key×V))
 |set (S:Int->Bool) (n:Nat)
 |ins (C dx:V1) (fs:List (Str×V))
 |own (x:V1)
 |xd (fs:List (Str×V))
 |met (f x:V1)
 |rng (lo hi:Int)
 |frz (o:Obj) (u:HO)
 |tbl (ps:Array V0)
 |ext (φ:V5->Prop)
abbrev Hp:=V1->Option HO
def upd(H:Hp)(a:V1)(o:HO):Hp:=λb=>if b=a then Y o else H b
theorem zC{H:Hp}{a:V1}{o:HO}:upd H a o a=Y o:=by unfold upd;rw[mP O]
theorem zM{H:Hp}{a b:V1}{o:HO}(h:b≠a):upd H a o b=H b:=by unfold upd;rw[mI h]
theorem zKu{H:Hp}{a:V1}{o u:HO}:upd (upd H a o) a u=upd H a u:=by
 funext b;unfold upd;split<;>rfl
theorem ne_of{H:Hp}{a b:V1}{o u:HO}(h:H a=Y o)(h':H b=Y u)(d:o≠u):a≠b:=by
 intro e;subst e;rw[h] at h';exact d (mU h')
theorem yM{H:Hp}{a b:V1}{o:HO}(h:H a=Y o)(h':H b=none):a≠b:=by
 intro e;subst e;rw[h] at h';cases h'
section
variable(P:V3)(w:V4)
def ObjOk(H:Hp)(h:V5)(a:V1):HO->Prop
 |.lst c=>c...*<=V9/\∃(b:B7)(n:Nat),Vals c b/\h.get? a=some {cls:=.type "list",data:=.seq b.toArray n}|.tup c=>c...*<=V9/\∃b:List V0,Vals c b/\IsTup h a b.toArray|.dK kvs=>kvs...*<=V9/\(a==A7)=false/\∃j,KV kvs j/\h.DictOf (yZ P w) a j|.dT kvs=>kvs...*<=V9/\(a==A7)=false/\∃c:List (List Key×V1×V0),
   Paired (fun(p:List Key×V) (q:List Key×V1×V0)=>p.1=q.1/\H q.2.1=Y (.tup (p.1.map kV))/\RelV p.2 q.2.2) kvs c/\
   ∃o i r,h.get? a=Y o/\o.ExactDict/\o.data= .dict i r/\i.toList=c.map (entryOfKey (tupleKind (yZ P w)))/\(c.map (·.1)).Nodup
 |.set S n=>h.SetOf (intKind P w) a S n|.ins C g e=>H g=Y (.own a)/\e...*<=1000/\g≠a/\h.get? a=Y (W.instObj C g)/\
   ∃d,h.Ns1 g d/\(∀f,RelO (e.lookup f) (d f))/\PySem.Within d (e.map (·.1))
 |.own _=>∃o,h.get? a=Y o|.xd e=>∃d,h.Ns1 a d/\∀f,RelO (e.lookup f) (d f)|.rng lo m=>∃t u v,h.get? a=some {cls:=.type "range",data:=.fields #[.int lo t, .int m u, .int 1 v]}|.frz o u=>h.get? a=Y o/\ObjOk H h a u|.tbl ps=>h.get? a=some {cls:=.none,data:=.fields ps}|.met f x=>h.get? a=Y (W.methodObj (.ref f) (.ref x))|.ext φ=>φ h/\(∃o,h.get? a=Y o)/\∀k l:V5,φ k->(∀o,k.get? a=Y o->l.get? a=Y o)->φ l
def HOk(H:Hp)(h:V5):Prop:=∀a o,H a=Y o->ObjOk P w H h a o
end
section
variable{P:V3}{w:V4}{H H':Hp}{h h':V5}{a:V1}{o:HO}
theorem ObjOk.lt(x:ObjOk P w H h a o):a<h.objs.size:=by
 cases o with
 |lst c=>obtain⟨_,_,_,_,e⟩:=x;exact mZ e
 |tup c=>obtain⟨_,_,_,p⟩:=x;exact p.lt
 |dK b=>obtain⟨_,_,_,_,o,_,_,e,_⟩:=x;exact mZ e
 |dT b=>obtain⟨_,_,_,_,o,_,_,e,_⟩:=x;exact mZ e
 |set S n=>obtain⟨o,_,_,_,e,_⟩:=x;exact mZ e
 |ins C i d=>obtain⟨_,_,_,e,_⟩:=x;exact mZ e
 |own y=>obtain⟨_,e⟩:=x;exact mZ e
 |xd d=>obtain⟨_,⟨_,_,_,e,_⟩,_⟩:=x;exact mZ e
 |rng lo g=>obtain⟨_,_,_,e⟩:=x;exact mZ e
 |frz j u=>obtain⟨e,_⟩:=x;exact mZ e
 |tbl k=>exact mZ (show h.get? a=Y _ from x)|met f y=>exact mZ (show h.get? a=Y _ from x)|ext φ=>obtain⟨_,⟨_,e⟩,_⟩:=x;exact mZ e
theorem j9{α β:Type}{F G:α->β->Prop}:∀{d:List α}{c:List β},Paired F d c->(∀a b,F a b->G a b)->Paired G d c
 |_,_, .nil,_=>.nil|_,_, .cons r t,f=>.cons (f _ _ r) (j9 t f)
theorem ObjOk.stay(x:ObjOk P w H h a o)(k:∀b u,(b=a\/H b=Y (.own a))->h.get? b=Y u->h'.get? b=Y u)
  (L:∀b,H b=Y (.own a)->H' b=Y (.own a)) (N:∀b m,H b=Y (.tup m)->H' b=Y (.tup m)):ObjOk P w H' h' a o:=by
 induction o with
 |lst m=>obtain⟨z,l,n,r,e⟩:=x;exact{z,l,n,r,k _ _ (.inl O) e}
 |tup m=>obtain⟨z,l,r,g,e,c⟩:=x;exact{z,l,r,g,k _ _ (.inl O) e,c}
 |dK s=>obtain⟨z,y,E,r,g,j,i,e,c⟩:=x;exact{z,y,E,r,g,j,i,k _ _ (.inl O) e,c}
 |dT s=>
  obtain⟨z,y,m,r,g,j,i,e,c⟩:=x;exact{z,y,m,j9 r λp q z=>{z.1,N _ _ z.2.1,z.2.2},g,j,i,k _ _ (.inl O) e,c}
 |set S n=>obtain⟨g,j,i,t,e,c⟩:=x;exact{g,j,i,t,k _ _ (.inl O) e,c}
 |ins C dx M=>
  obtain⟨d,z,Q,e,B,⟨A,j,i,J,c⟩,r⟩:=x;exact{L _ d,z,Q,k _ _ (.inl O) e,B,{A,j,i,k _ _ (.inr d) J,c},r}
 |own y=>obtain⟨g,e⟩:=x;exact{g,k _ _ (.inl O) e}
 |xd M=>obtain⟨B,⟨A,j,i,e,c⟩,r⟩:=x;exact{B,{A,j,i,k _ _ (.inl O) e,c},r}
 |rng lo hi=>obtain⟨t,u,v,e⟩:=x;exact{t,u,v,k _ _ (.inl O) e}
 |frz g u I=>obtain⟨e,q⟩:=x;exact{k _ _ (.inl O) e,I q}
 |tbl D=>
  let e:h.get? a=some {cls:=.none,data:=.fields D}:=x;show h'.get? a=some {cls:=.none,data:=.fields D};exact k a _ (.inl O) e
 |met f y=>
  let e:h.get? a=Y (W.methodObj (.ref f) (.ref y)):=x;show h'.get? a=Y (W.methodObj (.ref f) (.ref y));exact k a _ (.inl O) e
 |ext φ=>obtain⟨p,⟨o,e⟩,st⟩:=x;exact{st _ _ p λo q=>k _ _ (.inl O) q,{o,k _ _ (.inl O) e},st}
theorem HOk.lt(x:HOk P w H h)(e:H a=Y o):a<h.objs.size:=(x a o e).lt
theorem HOk.fresh(x:HOk P w H h)(e:h.objs.size<=a):H a=none:=by
 cases q:H a with|none=>rfl|some u=>exact absurd (nN (x.lt q) e) (sU _)
theorem HOk.kept(x:HOk P w H h)(k:∀b u,h.get? b=Y u->h'.get? b=Y u):HOk P w H h':=λa o e=>
 (x a o e).stay (λb u _ q=>k b u q) (λ_ q=>q) λ_ _ q=>q
theorem HOk.laid(x:HOk P w H h)(k:∀b u,h.get? b=Y u->h'.get? b=Y u)(i:h.objs.size<=a)(d:ObjOk P w (upd H a o) h' a o):HOk P w (upd H a o) h':=λb u e=>by
 let f:=x.fresh i
 by_cases g:b=a
 ·subst g;rw[zC] at e;cases e;exact d
 ·rw[zM g] at e
  exact(x b u e).stay (λc v _ q=>k c v q) (λc q=>by rw[zM (yM q f)];exact q) λc j q=>by rw[zM (yM q f)];exact q
end
def Rd(H:Hp)(a:V1)(u:HO):Prop:=H a=Y u\/∃o,H a=Y (.frz o u)
theorem Rd.ok{P:V3}{w:V4}{H:Hp}{h:V5}{a:V1}{u:HO}(r:Rd H a u)(x:HOk P w H h):ObjOk P w H h a u:=by
 rcases r with r |⟨o,r⟩
 ·exact x a u r
 ·obtain⟨_,q⟩:=x a _ r
  exact q
def Mut:Option HO->Prop
 |some (.lst _)=>True|some (.dK _)=>True|some (.dT _)=>True|some (.set _ _)=>True|some (.ins _ _ _)=>True|some (.ext _)=>True|_=>False
section
variable{P:V3}{w:V4}{H:Hp}{h h':V5}{x e:V1}{o':HO}
theorem HOk.write(s:HOk P w H h)(i:Mut (H x))(o:e=x\/H e=Y (.own x))(k:∀b u,b≠e->h.get? b=Y u->h'.get? b=Y u)(m:∃u,h'.get? e=Y u)
  (l:ObjOk P w (upd H x o') h' x o'):HOk P w (upd H x o') h':=λb u q=>by
 let d:∀c y,H c=Y (.own y)->c≠x:=λc y r z=>by subst z;rw[r] at i;exact i
 let f:∀c g,H c=Y (.tup g)->c≠x:=λc g r z=>by subst z;rw[r] at i;exact i
 by_cases j:b=x
 ·subst j;rw[zC] at q;cases q;exact l
 ·rw[zM j] at q
  by_cases a:b=e
  ·let n:H b=Y (.own x):=by
    rcases o with z | z
    ·exact absurd (a.trans z) j
    ·rw[a];exact z
   rw[q] at n;cases n;obtain⟨v,p⟩:=m;exact{v,by rw[a];exact p}
  ·refine(s b u q).stay (λc v hc r=>k c v ?_ r) (λc r=>by rw[zM (d c b r)];exact r) λc g r=>by rw[zM (f c g r)];exact r
   rcases hc with rfl | hc
   ·exact a
   ·rintro rfl
    rcases o with z | z
    ·exact d c b hc z
    ·rw[hc] at z;cases z;exact j O
end
abbrev _root_.B9:=List V1
structure Un(fs ex:B9)(H H':Hp)(h h':V5):Prop where
 keep:∀b o,h.get? b=Y o->H b=none->b∉fs->b∉ex->h'.get? b=Y o
 slot:∀b o,h.get? b=Y o->H b=none->b∈fs->b∉ex->∃sl,h'.get? b=some {o with slots:=sl}
 free:∀b o,h.get? b=Y o->H b=none->b∉ex->H' b=none
 there:∀b o,h.get? b=Y o->b∉ex->∃o',h'.get? b=Y o'
 tups:∀b xs,H b=Y (.tup xs)->H' b=Y (.tup xs)
 frzs:∀b o u,H b=Y (.frz o u)->H' b=Y (.frz o u)
 tbls:∀b ps,H b=Y (.tbl ps)->∃more,H' b=Y (.tbl (ps++more))
section
variable{fs fs' ex ex':B9}{H H1 H2:Hp}{h h1 h2 h':V5}{a x e:V1}{o:HO}
theorem Un.any(u:Un fs ex H H1 h h1){b:V1}{c:Obj}(q:h.get? b=Y c)(n:H b=none)(d:b∉ex):∃g,h1.get? b=some {c with slots:=g}:=by
 by_cases f:b∈fs
 ·exact u.slot b c q n f d
 ·exact{c.slots,u.keep b c q n f d}
theorem Un.kept(k:∀b u,h.get? b=Y u->h'.get? b=Y u):Un fs ex H H h h':=
 {λb c q _ _ _=>k b c q,λb c q _ _ _=>{c.slots,k b c q},λ_ _ _ n _=>n,λb c q _=>{c,k b c q},λ_ _ q=>q,λ_ _ _ q=>q,λ_ d q=>{#[],by rw[q];simp}}
theorem Un.refl:Un fs ex H H h h:=Un.kept λ_ _ q=>q
theorem Un.laid(k:∀b u,h.get? b=Y u->h'.get? b=Y u)(d:h.objs.size<=a)(c:H a=none):Un fs ex H (upd H a o) h h' where
 keep:=λb u q _ _ _=>k b u q
 slot:=λb u q _ _ _=>{u.slots,k b u q}
 free:=λb u q n _=>by rw[zM (nP (nN (mZ q) d))];exact n
 there:=λb u q _=>{u,k b u q}
 tups:=λb f q=>by rw[zM (yM q c)];exact q
 frzs:=λb u f q=>by rw[zM (yM q c)];exact q
 tbls:=λb g q=>{#[],by rw[zM (yM q c),q];simp}
theorem Un.write(d:Mut (H x))(m:e=x\/H e=Y (.own x))(k:∀b u,b≠e->h.get? b=Y u->h'.get? b=Y u)(g:∃u,h'.get? e=Y u):Un fs ex H (upd H x o) h h':=by
 let j:∀b,H b=none->b≠x:=λb n z=>by subst z;rw[n] at d;exact d
 let i:∀b,H b=none->b≠e:=λb n z=>by
  subst z;rcases m with r | r
  ·exact j b n r
  ·rw[n] at r;cases r
 let f:∀b u,H b=Y u->¬Mut ↥u->b≠x:=λb u q p z=>by subst z;rw[q] at d;exact p d
 refine{λb u q n _ _=>k b u (i b n) q,λb u q n _ _=>{u.slots,k b u (i b n) q},λb u q n _=>by rw[zM (j b n)];exact n,λb u q _=>?_,
  λb l q=>by rw[zM (f b _ q λz=>z)];exact q,λb u l q=>by rw[zM (f b _ q λz=>z)];exact q,λb s q=>{#[],by rw[zM (f b _ q λz=>z),q];simp}}
 by_cases c:b=e
 ·subst c;exact g
 ·exact{u,k b u c q}
end
def trk(h:V5)(H:Hp):List V1:=(List.range h.objs.size).filter λa=>(H a).isSome
def zJm(h:V5)(H:Hp):V5:=W.hideAll h (trk h H)
theorem zTy(h:V5)(H:Hp):(zJm h H).objs.size=h.objs.size:=W.hideAll_size _ _
theorem zWw{h:V5}{H:Hp}{b:V1}{o:Obj}(e:h.get? b=Y o)(n:H b=none):(zJm h H).get? b=Y o:=
 W.hideAll_get _ e λa=>by
  let q:(H b).isSome=true:=(bC.mp a).2;rw[n] at q;simp at q
theorem yCh{h:V5}{H:Hp}{b:V1}{o:Obj}(e:(zJm h H).get? b=Y o):h.get? b=Y o/\H b=none:=by
 let a:h.get? b=Y o:=W.of_hideAll (trk h H) e;refine{a, ?_}
 cases q:H b with
 |none=>rfl|some x=>
  let c:b∈trk h H:=bC.mpr {tQ.mpr (mZ a),by simp[q]};let z:(zJm h H).get? b=none:=W.hideAll_none (trk h H) c;rw[z] at e;cases e
def yBd(g h:V5)(L:V1):List (V1×Obj):=(List.range h.objs.size).filterMap λa=>if a=L\/(g.get? a).isSome=true then none else(h.get? a).map λo=>(a,o)
def rest(g h:V5)(L d:V1):List (V1×Obj):=(yBd g h L).filter λp=>decide (p.1≠d)
abbrev _root_.C8:=Str->Option V0
structure Mod(K:A9)(mg:C8)(base:V5):Prop where
 kin:K.In base
 glob:base.Ns A0 mg
 blt:∃mb,base.Ns builtinsNs mb/\∀x:Str,x≠ "__name__"->mb x=A4 x
 nolimit:base.NoLimit
structure Cx where
 prog:V3
 w:V4
 K:A9
 mg:Str->Option V0
 base:V5
 A:Around
 N:List Str
 s₀:V2
 H₀:Hp
 env:P0
 outer:List P0
 stack:List P0
 ex:List V1
 fn:Str->Bool
 calm:Bool
 pn:List (V1×Obj)
 xe:V0->V2->Prop
def frs(l:List P0):List V1:=l.filterMap (·.frame)
abbrev Cx.fs(X:Cx):List V1:=frs X.outer
def Vis(a:Scope)(x:Str):Prop:=a.names.lookup x=some .local\/a.names.lookup x=some .cell\/a.names.lookup x=some .free
def Loc(a:Scope)(x:Str):Prop:=a.names.lookup x=some .local\/a.names.lookup x=some .cell
def Look(a:P0)(h:V5)(m:C8)(x:Str)(u:V0):Prop:=
 (a.kindOf x=some .local/\m x=Y u)\/((a.kindOf x=some .cell\/a.kindOf x=some .free)/\∃c,a.cells.lookup x=Y c/\h.IsCell c ↥u)
structure Cx.Ok(X:Cx):Prop where
 mod:Mod X.K X.mg X.base
 kind:X.env.scope.kind= .function
 glob:X.env.globals=A0
 blt:X.env.builtins=builtinsNs
 above:X.s₀⁻¹<=X.env.locals
 inj:∀x y c,X.env.cells.lookup x=Y c->X.env.cells.lookup y=Y c->x=y
 has:∀x,(X.env.kindOf x=some .cell\/X.env.kindOf x=some .free)->∃c,X.env.cells.lookup x=Y c
 cab:∀x c,X.fn x=true->X.env.cells.lookup x=Y c->X.s₀⁻¹<=c
 hd:X.calm=true->X.A.handled=none
 frames:X.A.frames=Y X.stack
 stk:X.stack=X.outer\/(X.stack=X.env::X.outer/\X.env.frame=Y X.env.locals)
 exf:∀b∈X.ex,b≠X.env.locals/\∀x c,X.env.cells.lookup x=Y c->c≠b
 bs:∀b o,X.base.get? b=Y o->X.s₀.heap.get? b=Y o/\X.H₀ b=none
 bsz:X.base.objs.size<=X.s₀⁻¹
 noex:∀b o,X.base.get? b=Y o->b∉X.ex
 exfs:∀b∈X.ex,b∉X.fs
 funs:X.s₀.heap.FunFrames X.base X.outer
 frf:∀b∈X.fs,X.H₀ b=none
abbrev _root_.C7:=List (V1×Obj)
structure Inv(X:Cx)(pins:C7)(σ:List (Option V))(H:Hp)(s:V2):Prop where
 ok:X.Ok
 os:s.os=X.s₀.os
 bare:AllBare s.gens
 base:Un X.fs X.ex X.H₀ H X.s₀.heap s.heap
 loc:∃m,s.heap.Ns X.env.locals m/\∀(i:Nat)(x:Str)(v:V),X.N[i]? =Y x->σ[i]? =Y ↥v->Vis X.env.scope x->∃u,RelV v u/\Look X.env s.heap m x u
 cell:∀x c,X.env.cells.lookup x=Y c->∃v,s.heap.IsCell c v
 free:H X.env.locals=none
 freeC:∀x c,X.env.cells.lookup x=Y c->H c=none
 pin:∀p∈X.pn++pins,s.heap.get? p.1=Y p.2/\H p.1=none/\p.1≠X.env.locals/\p.1∉X.fs/\∀v,p.2.data≠ .cell v
 hok:HOk X.prog X.w H s.heap
 len:σ...*=X.N...*
section
variable{X:Cx}{pins:C7}{σ:List (Option V)}{H H':Hp}{s:V2}{h':V5}
theorem Cx.Ok.nofr(a:X.Ok){b:V1}{o:Obj}(e:X.base.get? b=Y o):b∉X.fs:=λc=>by
 let:=(a.funs.mem c).1;rw[e] at this;cases this
theorem Inv.bs(I:Inv X pins σ H s):∀b o,X.base.get? b=Y o->s.heap.get? b=Y o/\H b=none:=λb o e=>
 ⟨I.base.keep b o (I.ok.bs b o e).1 (I.ok.bs b o e).2 (I.ok.nofr e) (I.ok.noex b o e),I.base.free b o (I.ok.bs b o e).1 (I.ok.bs b o e).2 (I.ok.noex b o e)⟩
theorem Inv.bk(I:Inv X pins σ H s):∀b o,X.base.get? b=Y o->s.heap.get? b=Y o:=λb o e=>(I.bs b o e).1
theorem Inv.mod(I:Inv X pins σ H s):Mod X.K X.mg X.base:=I.ok.mod
theorem Inv.kIn(I:Inv X pins σ H s):X.K.In s.heap:=I.ok.mod.kin.keeps I.bk
theorem Inv.lt(I:Inv X pins σ H s):X.env.locals<s⁻¹:=let ⟨_,hn,_⟩:=I.loc;hn.lt
theorem Inv.sz(I:Inv X pins σ H s):X.s₀⁻¹<=s⁻¹:=nW I.ok.above (tS I.lt)
theorem Inv.nofs(I:Inv X pins σ H s){a:V1}(h:s⁻¹<=a):a∉X.fs:=λc=>by
 obtain⟨_,o,b,_⟩:=I.ok.funs.mem c;exact absurd (nN (mZ b) (nW I.sz h)) (sU _)
theorem Inv.cne(I:Inv X pins σ H s):∀x c,X.env.cells.lookup x=Y c->c≠X.env.locals:=λx c e z=>by
 refine wS (I.cell x c e) λv o d f=>?_;obtain⟨m,⟨h,g,i,a,b,_⟩,_⟩:=I.loc;rw[z,a] at d;cases d;rw[b] at f;cases f
theorem Inv.funs(I:Inv X pins σ H s):s.heap.FunFrames X.base X.outer:=by
 let all:∀(l:List P0),(∀b∈frs l,b∈X.fs)->X.s₀.heap.FunFrames X.base l->s.heap.FunFrames X.base l:=by
  intro l
  induction l with
  |nil=>intro _ _;trivial|cons j r g=>
   intro f m;obtain⟨p,⟨L,o,d,h,k,i⟩,n⟩:=m;let a:L∈X.fs:=f L (by unfold frs;rw[pW,d];exact mD);obtain⟨q,e⟩:=I.base.slot L o k (I.ok.frf L a) a λz=>I.ok.exfs L z a;exact⟨p,⟨L,_,d,h,e,i⟩,g (λb c=>f b (by unfold frs;rw[pW,d];exact mG _ c)) n⟩
 exact all X.outer (λ_ c=>c) I.ok.funs
theorem Inv.stack(I:Inv X pins σ H s):s.heap.FunFrames X.base X.stack:=by
 rcases I.ok.stk with e |⟨e,a⟩
 ·rw[e];exact I.funs
 ·rw[e]
  obtain⟨m,b,_⟩:=I.loc;refine .cons (by rw[I.ok.kind];decide) a b ?_ I.funs;exact rK (nW I.ok.bsz I.ok.above)
theorem Inv.stkSub(I:Inv X pins σ H s):∀b∈frs X.stack,b∈X.env.locals::X.fs:=λb a=>by
 rcases I.ok.stk with e |⟨e,c⟩
 ·rw[e] at a;exact mG _ a
 ·rw[e] at a
  unfold frs at a;rw[pW,c] at a;exact a
theorem Inv.stkFree(I:Inv X pins σ H s):∀b∈frs X.stack,H b=none:=λb hb=>by
 rcases mF.mp (I.stkSub b hb) with e | hb
 ·rw[e];exact I.free
 ·obtain⟨_,o,a,_⟩:=I.ok.funs.mem hb
  exact I.base.free b o a (I.ok.frf b hb) λz=>I.ok.exfs b z hb
theorem Inv.step{g':Array GenState}{t':Nat}{d':Drawn}{ch:B9}(I:Inv X pins σ H s)
  (g:∀b∈ch,(b∈X.ex\/X.s₀⁻¹<=b)/\b≠X.env.locals/\(∀x c,X.env.cells.lookup x=Y c->c≠b)/\∀p∈X.pn++pins,p.1≠b)
  (f:∀b o,b≠X.env.locals->b∉X.fs->b∉ch->s.heap.get? b=Y o->H b=none->h'.get? b=Y o)
  (y:∀b o,b≠X.env.locals->b∈X.fs->b∉ch->s.heap.get? b=Y o->H b=none->∃sl,h'.get? b=some {o with slots:=sl}) (free:∀b o,b∉ch->s.heap.get? b=Y o->H b=none->H' b=none)
  (B:∀b o,b∉ch->s.heap.get? b=Y o->∃M,h'.get? b=Y M)
  (N:∀b A,H b=Y (.tup A)->H' b=Y (.tup A)) (aa:∀b o u,H b=Y (.frz o u)->H' b=Y (.frz o u)) (Q:∀b ps,H b=Y (.tbl ps)->∃more,H' b=Y (.tbl (ps++more)))
  (ns:∀m,s.heap.Ns X.env.locals m->h'.Ns X.env.locals m) (ac:HOk X.prog X.w H' h') (hg:AllBare g'):
  Inv X pins σ H' {s with heap:=h',gens:=g',drawn:=d',toks:=t'}:=by
 let J:∀b o,X.s₀.heap.get? b=Y o->b≠X.env.locals:=λb o e=>nP (nN (mZ e) I.ok.above);let t:∀b o,X.s₀.heap.get? b=Y o->b∉X.ex->b∉ch:=λb o e a D=>by
  rcases(g b D).1 with z | z
  ·exact a z
  ·exact absurd (nN (mZ e) z) (sU _)
 let j:∀x c,X.env.cells.lookup x=Y c->∀v,s.heap.IsCell c v->h'.IsCell c v:=λx c e v ⟨o,E,hd⟩=>by
  let h:c∉ch:=λz=>(g c z).2.2.1 x c e O
  by_cases hc:c∈X.fs
  ·obtain⟨sl,q⟩:=y c o (I.cne x c e) hc h E (I.freeC x c e)
   exact⟨_,q,hd⟩
  ·exact⟨o,f c o (I.cne x c e) hc h E (I.freeC x c e),hd⟩
 refine{I.ok,I.os,hg,⟨λb o e n D a=>?_,λb o e n D a=>?_,λb o e n a=>?_,λb o e a=>?_,λb A e=>N b A (I.base.tups b A e),λb o A e=>aa b o A (I.base.frzs b o A e),λb ps e=>?_⟩, ?_,λx c e=>?_, ?_,λx c e=>?_,λp hp=>?_,ac,I.len}
 ·exact f b o (J b o e) D (t b o e a) (I.base.keep b o e n D a) (I.base.free b o e n a)
 ·obtain⟨sl,w⟩:=I.base.slot b o e n D a
  obtain⟨ab,L⟩:=y b _ (J b o e) D (t b o e a) w (I.base.free b o e n a);exact⟨ab,L⟩
 ·obtain⟨M,w⟩:=I.base.there b o e a
  exact free b M (t b o e a) w (I.base.free b o e n a)
 ·obtain⟨M,w⟩:=I.base.there b o e a
  exact B b M (t b o e a) w
 ·obtain⟨m1,w⟩:=I.base.tbls b ps e
  obtain⟨m2,L⟩:=Q b _ w;exact{m1++m2,by rw[L,Array.append_assoc]}
 ·obtain⟨m,hn,hl⟩:=I.loc
  refine{m,ns m hn,λi x v w L e3=>?_};obtain⟨u,r,l⟩:=hl i x v w L e3;refine{u,r, ?_};rcases l with l |⟨k,c,e,z⟩
  ·exact .inl l
  ·exact .inr {k,c,e,j x c e _ z}
 ·obtain⟨v,z⟩:=I.cell x c e
  exact{v,j x c e v z}
 ·obtain⟨m,⟨o,_,_,E,_⟩,_⟩:=I.loc
  exact free _ o (λz=>(g _ z).2.1 rfl) E I.free
 ·refine wS (I.cell x c e) λv o E hd=>?_
  exact free c o (λz=>(g c z).2.2.1 x c e rfl) E (I.freeC x c e)
 ·refine vB (I.pin p hp) λe n ne nf d=>?_
  let h:p.1∉ch:=λz=>(g p.1 z).2.2.2 p hp O;exact{f p.1 p.2 ne nf h e n,free p.1 p.2 h e n,ne,nf,d}
theorem Inv.un{t':Nat}(I:Inv X pins σ H s)(u:Un X.fs [] H H' s.heap h')(f:HOk X.prog X.w H' h'):Inv X pins σ H' {s with heap:=h',toks:=t'}:=by
 obtain⟨m,⟨o,l,v,h,r⟩,_⟩:=id I.loc;obtain⟨p,j⟩:=u.any h I.free (by simp);exact I.step (g':=s.gens) (d':=s.drawn) (ch:=[]) (λ_ z=>nomatch z) (λb o _ g _ e n=>u.keep b o e n g (by simp)) (λb o _ g _ e n=>u.slot b o e n g (by simp)) (λb o _ e n=>u.free b o e n (by simp)) (λb o _ e=>u.there b o e (by simp)) u.tups u.frzs u.tbls (λq k=>by
  ext zEo k t d c a i;rw[h] at a;cases a;exact⟨_,d,c,j,i⟩) f I.bare
theorem Inv.call{g':Array GenState}{t':Nat}{d':Drawn}{ch:B9}(I:Inv X pins σ H s)(u:Un (frs X.stack) ch H H' s.heap h')(j:HOk X.prog X.w H' h')(v:AllBare g')
  (f:∀b∈ch,(b∈X.ex\/X.s₀⁻¹<=b)/\b≠X.env.locals/\(∀x c,X.env.cells.lookup x=Y c->c≠b)/\∀p∈X.pn++pins,p.1≠b):
  Inv X pins σ H' {s with heap:=h',gens:=g',drawn:=d',toks:=t'}:=by
 obtain⟨m,⟨o,w,D,k,r⟩,_⟩:=id I.loc;obtain⟨y,h⟩:=u.any k I.free λz=>(f _ z).2.1 O;exact I.step (ch:=ch) f (λb o h t a e n=>u.keep b o e n (λz=>(mF.mp (I.stkSub b z)).elim h t) a) (λb o _ _ a e n=>u.any e n a) (λb o a e n=>u.free b o e n a) (λb o a e=>u.there b o e a) u.tups u.frzs u.tbls (λA q=>by
  ext zEo q B i g d l;rw[k] at d;cases d;exact⟨_,i,g,h,l⟩) j v
theorem Inv.turned{t':Nat}{it:V1}(I:Inv X pins σ H s)(k:∀b o,b≠it->s.heap.get? b=Y o->h'.get? b=Y o)(i:H it=none)(f:it≠X.env.locals)
  (t:it∈X.ex\/X.s₀⁻¹<=it) (y:∀x c,X.env.cells.lookup x=Y c->c≠it) (h:∀p∈X.pn++pins,p.1≠it):Inv X pins σ H {s with heap:=h',toks:=t'}:=by
 let d:∀b u,H b=Y u->b≠it:=λb u e z=>by rw[z,i] at e;cases e
 refine I.step (g':=s.gens) (d':=s.drawn) (ch:=[it]) (λb w=>?_) (λb o _ _ a e _=>k b o (λz=>a (by simp[z])) e) (λb o _ _ a e _=>⟨o.slots,k b o (λz=>a (by simp[z])) e⟩) (λ_ _ _ _ n=>n)
  (λb o a e=>⟨o,k b o (λz=>a (by simp[z])) e⟩) (λ_ _ e=>e) (λ_ _ _ e=>e) (λb B e=>{#[],by rw[e];simp}) (λm l=>?_) (λb u e=>?_) I.bare
 ·let e:b=it:=by simpa using w
  subst e;exact⟨t,f,y,h⟩
 ·ext zEo l o g A j r
  exact⟨o,g,A,k _ o (Ne.symm f) j,r⟩
 ·refine(I.hok b u e).stay (λc v a q=>k c v ?_ q) (λ_ q=>q) λ_ _ q=>q
  rcases a with z | z
  ·rw[z];exact d b u e
  ·exact d c _ z
theorem Inv.tok(I:Inv X pins σ H s)(t:Nat):Inv X pins σ H {s with toks:=t}:=I.un (h':=s.heap) (t':=t) Un.refl I.hok
theorem Inv.kept{t':Nat}(I:Inv X pins σ H s)(k:∀b u,s.heap.get? b=Y u->h'.get? b=Y u):Inv X pins σ H {s with heap:=h',toks:=t'}:=I.un (Un.kept k) (I.hok.kept k)
theorem Inv.laid{a:V1}{o:HO}{t':Nat}(I:Inv X pins σ H s)(k:∀b u,s.heap.get? b=Y u->h'.get? b=Y u)(c:s⁻¹<=a)(d:ObjOk X.prog X.w (upd H a o) h' a o):
  Inv X pins σ (upd H a o) {s with heap:=h',toks:=t'}:=I.un (Un.laid k c (I.hok.fresh c)) (I.hok.laid k c d)
theorem Inv.write{x e:V1}{o:HO}{t':Nat}(I:Inv X pins σ H s)(d:Mut (H x))(f:e=x\/H e=Y (.own x))(k:∀b u,b≠e->s.heap.get? b=Y u->h'.get? b=Y u)(a:∃u,h'.get? e=Y u)
  (c:ObjOk X.prog X.w (upd H x o) h' x o):Inv X pins σ (upd H x o) {s with heap:=h',toks:=t'}:=I.un (Un.write d f k a) (I.hok.write d f k a c)
theorem Inv.weak{a:List (Option V)}(I:Inv X pins σ H s)(b:a...*=σ...*)(w:∀(i:Nat) v,a[i]? =Y ↥v->σ[i]? =Y ↥v):Inv X pins a H s:=
 {I.ok,I.os,I.bare,I.base,let ⟨m,hn,hl'⟩:=I.loc;{m,hn,λi x v c e d=>hl' i x v c (w i v e) d},I.cell,I.free,I.freeC,I.pin,I.hok,b.trans I.len}
theorem Inv.pins_of{pins':C7}(I:Inv X pins σ H s)(h:∀p∈pins',s.heap.get? p.1=Y p.2/\H p.1=none/\p.1≠X.env.locals/\p.1∉X.fs/\∀v,p.2.data≠ .cell v):Inv X pins' σ H s:=
 {I.ok,I.os,I.bare,I.base,I.loc,I.cell,I.free,I.freeC,λp a=>(nB.mp a).elim (λz=>I.pin p (nQ _ z)) (h p),I.hok,I.len}
abbrev _root_.C1:=List Str
theorem zLc{N:C1}(d:N.Nodup){i j:Nat}{x:Str}(a:N[i]? =Y x)(b:N[j]? =Y x):i=j:=by
 obtain⟨g,c⟩:=mJ.mp a;obtain⟨f,e⟩:=mJ.mp b;exact(List.getElem_inj d).mp (c.trans e.symm)
abbrev _root_.C9:=V0->V2->Prop
theorem zEd{M:Model}{A:Around}{E:C9}{i:Nat}{x:Str}{v:V}{u:V0}{Q:Unit->V2->Prop}(I:Inv X pins σ H s)(hN:X.N.Nodup)(hi:X.N[i]? =Y x)(t:Loc X.env.scope x)(r:RelV v u)
  (h:∀s',Inv X pins (σ.set i ↥v) H s'->(∃a,Heap.SameBut a s.heap s'.heap/\(a=X.env.locals\/X.env.cells.lookup x=Y a))->Q () s') (hf:X.fn x=true\/X.env.scope.names.lookup x=some .local:=by first | exact .inl O | exact .inr O | assumption):V8 M A (storeName X.env x u) Q E s:=by
 obtain⟨m,hn,hl⟩:=id I.loc;let ae:(X.env.scope.kind== .class ||(X.env.scope.kind== .module && X.env.locals !=X.env.globals))=false:=by rw[I.ok.kind];rfl
 let af:i<σ...*:=by rw[I.len];exact(mJ.mp hi).1
 let J:=I.cne;let l:∀{a:V1}{h':V5},(∃o,s.heap.get? a=Y o/\H a=none)->Heap.SameBut a s.heap h'->HOk X.prog X.w H h':=λ{a h'} ha f b ob e=>by
  obtain⟨_,_,w⟩:=ha;refine(I.hok b ob e).stay (λc w' hc q=>(f.2 c ?_).trans q) (λ_ q=>q) λ_ _ q=>q;rintro rfl;rcases hc with rfl | hc
  ·rw[w] at e;cases e
  ·rw[w] at hc;cases hc
 rcases t with hk | hk
 ·refine wpAny_storeName_local hk hn (λh' ai f=>?_) ae
  refine zEo (id hn) λoL _ _ ah _=>?_;refine h _ {I.ok,I.os,I.bare,⟨λb o e n D t=>?_,λb o e n D t=>?_,I.base.free,λb o e t=>?_,I.base.tups,I.base.frzs,I.base.tbls⟩,{_,ai,λj y v' g B e3=>?_},λy c e=>?_,I.free,I.freeC,λp hp=>?_,l ⟨oL,ah,I.free⟩ f,by simpa using I.len} {_,f, .inl O}
  ·exact(f.2 b (nP (nN (mZ e) I.ok.above))).trans (I.base.keep b o e n D t)
  ·obtain⟨sl,g⟩:=I.base.slot b o e n D t
   exact{sl,(f.2 b (nP (nN (mZ e) I.ok.above))).trans g}
  ·obtain⟨o',g⟩:=I.base.there b o e t
   exact{o',(f.2 b (nP (nN (mZ e) I.ok.above))).trans g}
  ·by_cases L:j=i
   ·subst L
    rw[hi] at g;cases g;rw[sH af] at B;cases B;exact{u,r, .inl {hk,by simp}}
   ·rw[rZ (Ne.symm L)] at B
    obtain⟨u',r',q⟩:=hl j y v' g B e3;refine{u',r', ?_};rcases q with⟨k,e⟩|⟨k,c,e,z⟩
    ·refine .inl {k, ?_}
     let:y≠x:=λe=>L (zLc hN g (e▸hi));simp[this,e]
    ·exact .inr {k,c,e,z.sameBut f (J y c e)}
  ·obtain⟨w',z⟩:=I.cell y c e
   exact{w',z.sameBut f (J y c e)}
  ·refine vB (I.pin p hp) λe n ne nf d=>?_
   exact{(f.2 p.1 ne).trans e,n,ne,nf,d}
 ·let N:X.fn x=true:=by
   rcases hf with z | z
   ·exact z
   ·rw[z] at hk;cases hk
  obtain⟨c,hc⟩:=I.ok.has x (.inl hk);obtain⟨w',z⟩:=I.cell x c hc;refine wpAny_storeName_cell I.ok.kind hk hc z (λh' ag f=>?_);obtain⟨oc,ab,aa⟩:=id z;refine h {s with heap:=h'} {I.ok,I.os,I.bare,⟨λb o e n D t=>?_,λb o e n D t=>?_,I.base.free,λb o e t=>?_,I.base.tups,I.base.frzs,I.base.tbls⟩,{m,hn.sameBut f (Ne.symm (J x c hc)),λj y v' g B e3=>?_},λy c' e=>?_,I.free,I.freeC,λp hp=>?_,l {oc,ab,I.freeC x c hc} f,by simpa using I.len} {c,f, .inr hc}
  ·exact(f.2 b (nP (nN (mZ e) (I.ok.cab x c N hc)))).trans (I.base.keep b o e n D t)
  ·obtain⟨sl,g⟩:=I.base.slot b o e n D t
   exact{sl,(f.2 b (nP (nN (mZ e) (I.ok.cab x c N hc)))).trans g}
  ·obtain⟨o',g⟩:=I.base.there b o e t
   exact{o',(f.2 b (nP (nN (mZ e) (I.ok.cab x c N hc)))).trans g}
  ·by_cases L:j=i
   ·subst L
    rw[hi] at g;cases g;rw[sH af] at B;cases B;exact{u,r, .inr {.inl hk,c,hc,ag}}
   ·rw[rZ (Ne.symm L)] at B
    obtain⟨u',r',q⟩:=hl j y v' g B e3;refine{u',r', ?_};rcases q with q |⟨k,c',e,z'⟩
    ·exact .inl q
    ·refine .inr {k,c',e,z'.sameBut f ?_}
     rintro rfl;exact L (zLc hN g (I.ok.inj _ _ _ e hc▸hi))
  ·by_cases ac:c'=c
   ·subst ac;exact⟨_,ag⟩
   ·obtain⟨w2,z2⟩:=I.cell y c' e
    exact{w2,z2.sameBut f ac}
  ·refine vB (I.pin p hp) λe n ne nf d=>?_
   refine{(f.2 p.1 ?_).trans e,n,ne,nf,d};intro q;rw[q,ab] at e;let q':oc=p.2:=mU e;exact d w' (by rw[<-q'];exact aa)
theorem zAw{M:Model}{A:Around}{E:C9}{i:Nat}{x:Str}{v:V}{u:V0}{Q:Unit->V2->Prop}(I:Inv X pins σ H s)(d:X.N.Nodup)(b:X.N[i]? =Y x)(f:Loc X.env.scope x)(r:RelV v u)
  (h:∀a,Inv X pins (σ.set i ↥v) H a->Q () a) (e:X.fn x=true\/X.env.scope.names.lookup x=some .local:=by first | exact .inl O | exact .inr O | assumption):V8 M A (storeName X.env x u) Q E s:=
 zEd I d b f r (λa c _=>h a c) e
theorem Inv.call'{s':V2}{ch:B9}(I:Inv X pins σ H s)(f:s'.os=s.os)(u:Un (frs X.stack) ch H H' s.heap s'.heap)(a:HOk X.prog X.w H' s'.heap)(i:AllBare s'.gens)
  (d:∀b∈ch,(b∈X.ex\/X.s₀⁻¹<=b)/\b≠X.env.locals/\(∀x c,X.env.cells.lookup x=Y c->c≠b)/\∀p∈X.pn++pins,p.1≠b):Inv X pins σ H' s':=by
 obtain⟨h',k,g,h,j⟩:=s';let e:j=s.os:=f;subst e;exact I.call (g':=k) (t':=h) (d':=g) u a i d
end
abbrev XK:=V0->Option V1->Hp->Prop
abbrev St:=List (Option V)
abbrev VK:=V->Hp->Prop
abbrev TE:=St->Hp->VK->Prop
abbrev TT:=St->Hp->(Bool->Hp->Prop)->Prop
abbrev TA:=St->Hp->(List V->Hp->Prop)->Prop
structure gG where
 nx:St->Hp->Prop
 rt:VK
 bk:St->Hp->Prop:=λ_ _=>False
 ct:St->Hp->Prop:=λ_ _=>False
abbrev TS:=gG->St->Hp->Prop
def EP(X:Cx)(a:C7)(σ:St)(Q:VK)(u:V0)(s':V2):Prop:=∃v b,Inv X a σ b s'/\RelV v u/\Q v b
def TP(X:Cx)(a:C7)(σ:St)(Q:Bool->Hp->Prop)(b:Bool)(s':V2):Prop:=∃c,Inv X a σ c s'/\Q b c
def AP(X:Cx)(a:C7)(σ:St)(Q:List V->Hp->Prop)(us:B7)(s':V2):Prop:=∃b c,Inv X a σ c s'/\Vals b us/\Q b c
def SP(X:Cx)(a:C7)(D:gG)(f:Flow)(s':V2):Prop:=
 match f with|.next=>∃c b,Inv X a c b s'/\D.nx c b|.brk=>∃c b,Inv X a c b s'/\D.bk c b|.cont=>∃c b,Inv X a c b s'/\D.ct c b|.ret u=>∃v c b,Inv X a c b s'/\RelV v u/\D.rt v b
def PE(X:Cx)(e:Expr)(t:TE):Prop:=
 ∀(a:C7)(s:V2)(σ:St)(H:Hp)(Q:VK),Inv X a σ H s->t σ H Q->V8 (S8 X.prog X.w) X.A (eval e X.env) (EP X a σ Q) X.xe s
def PT(X:Cx)(e:Expr)(t:TT):Prop:=
 ∀(a:C7)(s:V2)(σ:St)(H:Hp)(Q:Bool->Hp->Prop),Inv X a σ H s->t σ H Q->V8 (S8 X.prog X.w) X.A (isTrue e X.env (eval e X.env)) (TP X a σ Q) X.xe s
def PW(X:Cx)(e:Expr)(t:TT):Prop:=
 ∀(b:Sem V0)(a:C7)(s:V2)(σ:St)(H:Hp)(Q:Bool->Hp->Prop),Inv X a σ H s->t σ H Q->V8 (S8 X.prog X.w) X.A (isTrue e X.env b) (TP X a σ Q) X.xe s
theorem i6{X:Cx}{e:Expr}{t:TT}(h:PW X e t):PT X e t:=h _
abbrev _root_.C5:=List Expr
def PA(X:Cx)(c:C5)(t:TA):Prop:=
 ∀(b:Pos)(a:C7)(s:V2)(σ:St)(H:Hp)(Q:List V->Hp->Prop),Inv X a σ H s->t σ H Q->V8 (S8 X.prog X.w) X.A (spliced (S5 b (A5 c X.env))) (AP X a σ Q) X.xe s
def PS(X:Cx)(st:V6)(t:TS):Prop:=
 ∀(a:C7)(s:V2)(σ:St)(H:Hp)(D:gG),Inv X a σ H s->t D σ H->V8 (S8 X.prog X.w) X.A (exec st X.env) (SP X a D) X.xe s
def PSs(X:Cx)(st:List V6)(t:TS):Prop:=
 ∀(a:C7)(s:V2)(σ:St)(H:Hp)(D:gG),Inv X a σ H s->t D σ H->V8 (S8 X.prog X.w) X.A (execs st X.env) (SP X a D) X.xe s
theorem thn{α:Type}{t:Sem α}{Q b:α->V2->Prop}{M:Model}{A:Around}{E:C9}{s:V2}(h:V8 M A t Q E s)(c:∀a s,Q a s->b a s):V8 M A t b E s:=pC h c λ_ _ x=>x
section
variable{X:Cx}
def jC(i:Nat):TE:=λσ H Q=>match σ[i]? with|some ↥v=>Q v H|_=>False
theorem yBh{i:Nat}{σ:St}{H:Hp}{Q:VK}(h:jC i σ H Q):∃v,σ[i]? =Y ↥v/\Q v H:=by
 unfold jC at h;split at h
 ·exact{_,by assumption,h}
 ·exact h.elim
def tC(v:V):TE:=λ_ H Q=>Q v H
theorem zWg{i:Nat}{x:Str}{g:Pos}(o:X.N[i]? =Y x)(n:Vis X.env.scope x)(j:(x==("__debug__" :Str))=false:=by decide)(f:(x==("__classdict__" :Str))=false:=by decide):PE X (.Name x g) (jC i):=by
 intro d s σ H Q I h;obtain⟨v,e,h⟩:=yBh h;obtain⟨m,p,q⟩:=I.loc;obtain⟨u,r,l⟩:=q i x v o e n;let b:EP X d σ Q u s:=⟨v,H,I,r,h⟩;rcases l with⟨hk,t⟩|⟨hk,c,k,a⟩
 ·exact wpAny_Name (wpAny_loadName_local I.ok.kind hk p t b) j
 ·rcases hk with hk | hk
  ·exact wpAny_Name (wpAny_loadName_cell I.ok.kind hk k a b) j
  ·exact wpAny_Name (wpAny_loadName_free I.ok.kind hk k a b f) j
theorem zE{i j pos}:PE X (.Constant (.int i) j pos) (tC (.int i)):=λ_ _ _ H _ I h=>wpAny_Constant_int {.int i,H,I.tok _,⟨_,O⟩,h}
theorem vE{b j pos}:PE X (.Constant (.bool b) j pos) (tC (.bl b)):=λ_ _ _ H _ I h=>Constant_bool {.bl b,H,I,O,h}
theorem uU{j pos}:PE X (.Constant .none j pos) (tC .non):=λ_ _ _ H _ I h=>Constant_none {.non,H,I,O,h}
theorem zL{x j pos}:PE X (.Constant (.str x) j pos) (tC (.str x)):=λ_ _ _ H _ I h=>Calls.Constant_str {.str x,H,I.tok _,⟨_,O⟩,h}
def Gl(X:Cx)(x:Str):Prop:=X.env.kindOf x=some .globalImplicit
theorem qS{E:C9}{a:C7}{s:V2}{σ:St}{H:Hp}{x:Str}{u:V0}{b:Pos}{Q:C9}(I:Inv X a σ H s)(e:Gl X x)(c:X.mg x=Y u)(h:Q u s)
  (d:(x==("__debug__" :Str))=false:=by decide):V8 (S8 X.prog X.w) X.A (eval (.Name x b) X.env) Q E s:=
 Calls.Name_function_global I.ok.kind e (Calls.loadGlobal_global (by rw[I.ok.glob];exact I.mod.glob.keeps I.bk) c h) d
theorem zAb{E:C9}{a:C7}{s:V2}{σ:St}{H:Hp}{x:Str}{u:V0}{b:Pos}{Q:C9}(I:Inv X a σ H s)(f:Gl X x)(c:X.mg x=none)(d:A4 x=Y u)(h:Q u s)
  (i:x≠ "__name__":=by decide) (j:(x==("__debug__" :Str))=false:=by decide):V8 (S8 X.prog X.w) X.A (eval (.Name x b) X.env) Q E s:=by
 obtain⟨k,e,g⟩:=I.mod.blt;exact Calls.Name_function_global I.ok.kind f (Calls.loadGlobal_builtin (by rw[I.ok.glob];exact I.mod.glob.keeps I.bk) c (by rw[I.ok.blt];exact e.keeps I.bk) ((g x i).trans d) h) j
theorem zRo{x:Str}{v:V}{u:V0}{a:Pos}(c:Gl X x)(b:X.mg x=Y u)(r:RelV v u)(d:(x==("__debug__" :Str))=false:=by decide):PE X (.Name x a) (tC v):=
 λ_ _ _ H _ I h=>qS I c b ⟨v,H,I,r,h⟩ d
theorem wA{x:Str}{v:V}{u:V0}{a:Pos}(e:Gl X x)(b:X.mg x=none)(d:A4 x=Y u)(r:RelV v u)(c:x≠ "__name__":=by decide)(f:(x==("__debug__" :Str))=false:=by decide):PE X (.Name x a) (tC v):=
 λ_ _ _ H _ I h=>zAb I e b d ⟨v,H,I,r,h⟩ c f
variable{a b:Expr}{ta tb:TE}{pos:Pos}
def PC(X:Cx)(d:CmpOp)(a b:Expr)(t:TE):Prop:=
 ∀(c:C7)(s:V2)(σ:St)(H:Hp)(Q:VK),Inv X c σ H s->t σ H Q->
  V8 (S8 X.prog X.w) X.A (eval a X.env) (λv f=>V8 (S8 X.prog X.w) X.A (eval b X.env) (λu e=>V8 (S8 X.prog X.w) X.A (A6 d v u) (EP X c σ Q) X.xe e) X.xe f) X.xe s
theorem zNe(b:Expr){c:CmpOp}(h:c≠ .In)(d:c≠ .NotIn):behindInMarks c b=false:=by
 let e:(c==CmpOp.In)=false:=by cases c<;>first | rfl | exact absurd O h
 let f:(c==CmpOp.NotIn)=false:=by cases c<;>first | rfl | exact absurd O d
 cases b<;>simp[behindInMarks,e,f]
def yFd(ta:TE):TE:=λσ H Q=>ta σ H λx c=>Q (.bl (decide (x= .non))) c
def zWf(ta:TE):TE:=λσ H Q=>ta σ H λx c=>Q (.bl (!decide (x= .non))) c
theorem RelV.none_iff{x:V}{v:V0}(r:RelV x v):(v==Value.none)=decide (x= .non):=by
 cases x with
 |non=>cases r;rfl|bl _=>cases r;rfl|int _=>obtain⟨t,rfl⟩:=r;rfl
 |str _=>obtain⟨t,rfl⟩:=r;rfl
 |byt _=>obtain⟨t,rfl⟩:=r;rfl
 |flt _=>obtain⟨t,rfl⟩:=r;rfl
 |ref _=>cases r;rfl|ty _=>cases r;rfl
theorem zPn{j pos'}(e:PE X a ta):PC X .Is a (.Constant .none j pos') (yFd ta):=by
 intro c s σ H Q I h;refine thn (e c s σ H _ I h) λv k z_=>?_;obtain⟨x,i,d,g,f⟩:=z_;exact Constant_none (is_none_gen {.bl _,i,d,by rw[g.none_iff];rfl,f})
theorem zFb{j pos'}(e:PE X a ta):PC X .IsNot a (.Constant .none j pos') (zWf ta):=by
 intro c s σ H Q I h;refine thn (e c s σ H _ I h) λv k z_=>?_;obtain⟨x,i,d,g,f⟩:=z_;exact Constant_none (isnot_none_gen {.bl _,i,d,by rw[g.none_iff];rfl,f})
def tB(t:TE):TT:=λσ H Q=>t σ H λx d=>∃c,x= .bl c/\Q c d
theorem zOv{d:CmpOp}{t:TE}(h:PC X d a b t)(e:behindInMarks d b=false:=by first | exact zNe _ ∎ ∎| rfl):PE X (.Compare a [d] [b] pos) t:=λc s σ H Q I f=>wpAny_Compare1 (h c s σ H Q I f) e
theorem gR{f:CmpOp}{t:TE}(h:PC X f a b t)(g:behindInMarks f b=false:=by first | exact zNe _ ∎ ∎| rfl):PT X (.Compare a [f] [b] pos) (tB t):=by
 intro e s σ H Q I j;refine wpAny_isTrue_Compare1 (thn (h e s σ H _ I j) λv p g=>thn g λu o m=>thn m λc r z_=>?_) g;obtain⟨x,l,k,n,i⟩:=z_;obtain⟨d,rfl,q⟩:=i;cases n;exact pZ ⟨l,k,q⟩
theorem yD{e:Expr}{t:TE}(h:PE X e t)(k:∀whole,isTrue e X.env whole=(do let v <-whole;S3 e.pos;holding [v] (truthy v)):=by intro _;rfl):PT X e (tB t):=by
 intro c s σ H Q I g;refine isTrue_plain (thn (h c s σ H _ I g) λv m z_=>?_) (k _);obtain⟨x,j,i,l,f⟩:=z_;obtain⟨d,rfl,q⟩:=f;cases l;exact pZ ⟨j,i,q⟩
variable{tA tB':TT}{rest:C5}
def yIc(t u:TT):TT:=λσ H Q=>t σ H λc d=>if c=true then u σ d Q else Q false d
def tOr(t u:TT):TT:=λσ H Q=>t σ H λc d=>if c=true then Q true d else u σ d Q
def yFw(t:TT):TT:=λσ H Q=>t σ H λc d=>Q (!c) d
theorem qH(f:PT X a tA):PW X (.BoolOp .And [a] pos) tA:=by
 intro g d s σ H Q I h;refine isTrue_and (thn (f d s σ H Q I h) λc i e=>?_)
 cases c with|true=>exact isTrue_and_nil e|false=>exact e
theorem jP(f:PT X a tA):PW X (.BoolOp .Or [a] pos) tA:=by
 intro g d s σ H Q I h;refine isTrue_or (thn (f d s σ H Q I h) λc i e=>?_)
 cases c with|false=>exact isTrue_or_nil e|true=>exact e
theorem vH(j:PT X a tA)(k:PW X (.BoolOp .And (b::rest) pos) tB'):PW X (.BoolOp .And (a::b::rest) pos) (yIc tA tB'):=by
 intro i d s σ H Q I h;refine isTrue_and (thn (j d s σ H _ I h) λc l ⟨g,e,f⟩=>?_)
 cases c with|true=>exact k i d l σ g Q e f|false=>exact⟨g,e,f⟩
theorem jI(j:PT X a tA)(k:PW X (.BoolOp .Or (b::rest) pos) tB'):PW X (.BoolOp .Or (a::b::rest) pos) (tOr tA tB'):=by
 intro i d s σ H Q I h;refine isTrue_or (thn (j d s σ H _ I h) λc l ⟨g,e,f⟩=>?_)
 cases c with|true=>exact⟨g,e,f⟩|false=>exact k i d l σ g Q e f
theorem xL(e:PT X a tA):PT X (.UnaryOp .Not a pos) (yFw tA):=by
 intro d s σ H Q I h;exact isTrue_not (e d s σ H (λc f=>Q (!c) f) I h)
def zZk(ta tb:TE):TE:=λσ H Q=>ta σ H λx d=>∃c,x= .bl c/\if c=true then tb σ d Q else Q (.bl false) d
def yFv(ta tb:TE):TE:=λσ H Q=>ta σ H λx d=>∃c,x= .bl c/\if c=true then Q (.bl true) d else tb σ d Q
def zXq(ta:TE):TE:=λσ H Q=>ta σ H λx d=>∃c,x= .bl c/\Q (.bl (!c)) d
theorem qC{op}{t:TE}(h:PE X a t):PE X (.BoolOp op [a] pos) t:=λc s σ H Q I d=>BoolOp_one (h c s σ H Q I d)
theorem vQ(j:PE X a ta)(k:PE X (.BoolOp .And (b::rest) pos) tb):PE X (.BoolOp .And (a::b::rest) pos) (zZk ta tb):=by
 intro d s σ H Q I h;refine BoolOp_and (thn (j d s σ H _ I h) λv i z_=>?_);obtain⟨x,g,f,l,e⟩:=z_;obtain⟨c,rfl,e⟩:=e;cases l;refine pZ ?_
 cases c with|true=>exact k d i σ g Q f e|false=>exact{.bl false,g,f,O,e}
theorem yEr(j:PE X a ta)(k:PE X (.BoolOp .Or (b::rest) pos) tb):PE X (.BoolOp .Or (a::b::rest) pos) (yFv ta tb):=by
 intro d s σ H Q I h;refine BoolOp_or (thn (j d s σ H _ I h) λv i z_=>?_);obtain⟨x,g,f,l,e⟩:=z_;obtain⟨c,rfl,e⟩:=e;cases l;refine pZ ?_
 cases c with|false=>exact k d i σ g Q f e|true=>exact{.bl true,g,f,O,e}
theorem yFj(i:PE X a ta):PE X (.UnaryOp .Not a pos) (zXq ta):=by
 intro d s σ H Q I h;refine UnaryOp_ (thn (i d s σ H _ I h) λv k z_=>?_);obtain⟨x,g,f,j,e⟩:=z_;obtain⟨c,rfl,e⟩:=e;cases j;exact not_of (pZ {.bl (!c),g,f,O,e})
def tIf(t:TT)(ta tb:TE):TE:=λσ H Q=>t σ H λc d=>if c=true then ta σ d Q else tb σ d Q
theorem zNp{c:Expr}(l:PT X c tA)(k:PE X a ta)(m:PE X b tb):PE X (.IfExp c a b pos) (tIf tA ta tb):=by
 intro e s σ H Q I h;refine wpAny_IfExp (thn (l e s σ H _ I h) λd i ⟨j,f,g⟩=>?_)
 cases d with|true=>exact k e i σ j Q f g|false=>exact m e i σ j Q f g
end
def SqL(K:A9)(H:Hp)(a:V1)(xs:B3):Prop:=
 Rd H a (.lst xs)\/
  ∃(o:Obj)(b:Array V0)(n:Nat),K.lookup a=Y o/\o.cls= .type "list"/\o.dict=none/\o.data= .seq b n/\b.size<=V9/\Vals xs b.toList
def SqT(K:A9)(H:Hp)(a:V1)(xs:B3):Prop:=
 Rd H a (.tup xs)\/
  ∃(o:Obj)(b:Array V0)(n:Nat),K.lookup a=Y o/\o.cls= .type "tuple"/\o.data= .seq b n/\b.size<=V9/\Vals xs b.toList
def absV:V0->Option V
 |.none=>some .non|.bool b=>Y (.bl b)|.int i _=>Y (.int i)|.str x _=>Y (.str x)|.bytes b _=>Y (.byt b)|.float b _=>Y (.flt b)|.ref a=>Y (.ref a)|.type n=>Y (.ty n)|_=>none
theorem RelV.abs{x:V}{u:V0}(r:RelV x u):absV u=Y x:=by
 cases x with
 |non=>cases r;rfl|bl _=>cases r;rfl|int _=>obtain⟨t,rfl⟩:=r;rfl
 |str _=>obtain⟨t,rfl⟩:=r;rfl
 |byt _=>obtain⟨t,rfl⟩:=r;rfl
 |flt _=>obtain⟨t,rfl⟩:=r;rfl
 |ref _=>cases r;rfl|ty _=>cases r;rfl
theorem RelV.inj{x y:V}{u:V0}(r:RelV x u)(q:RelV y u):x=y:=mU (r.abs.symm.trans q.abs)
theorem Vals.inj:∀{xs ys:B3}{us:B7},Vals xs us->Vals ys us->xs=ys
 |_,_,_, .nil, .nil=>rfl|_,_,_, .cons r t, .cons a b=>by rw[r.inj a,Vals.inj t b]
section
variable{X:Cx}{pins:C7}{σ:St}{H:Hp}{s:V2}{a:V1}{xs ys:B3}
theorem SqL.of{K:A9}(h:H a=Y (.lst xs)):SqL K H a xs:=.inl (.inl h)
theorem SqT.of{K:A9}(h:H a=Y (.tup xs)):SqT K H a xs:=.inl (.inl h)
theorem Inv.list(I:Inv X pins σ H s)(h:SqL X.K H a xs):∃b:List V0,Vals xs b/\PlainL s.heap a b.toArray/\xs...*<=V9:=by
 rcases h with h |⟨o,b,n,f,d,g,c,i,r⟩
 ·obtain⟨z,b,n,r,e⟩:=h.ok I.hok
  exact{b,r,⟨_,n,e,O,O,O⟩,z}
 ·refine{b.toList,r,⟨o,n,I.kIn a o f,d,g,by simpa using c⟩, ?_}
  let e:=r...*;simp only[tV] at e
  lia
theorem Inv.tuple(I:Inv X pins σ H s)(h:SqT X.K H a xs):∃b:List V0,Vals xs b/\IsTup s.heap a b.toArray/\xs...*<=V9:=by
 rcases h with h |⟨o,b,n,f,d,c,g,r⟩
 ·obtain⟨z,b,r,p⟩:=h.ok I.hok
  exact⟨b,r,p,z⟩
 ·refine{b.toList,r,⟨o,I.kIn a o f,d,n,by simpa using c⟩, ?_}
  let e:=r...*;simp only[tV] at e
  lia
theorem Inv.list_inj(I:Inv X pins σ H s)(h:SqL X.K H a xs)(h':SqL X.K H a ys):xs=ys:=by
 obtain⟨c,r,⟨o,n,e,_,_,d⟩,_⟩:=I.list h;obtain⟨b,i,⟨l,k,g,_,_,f⟩,_⟩:=I.list h';rw[e] at g;cases g;rw[d] at f;injection f with j _;let:c=b:=by simpa using congrArg Array.toList j
 subst this;exact r.inj i
end
abbrev Cx.wish(X:Cx)(E:C9):Cx:={X with xe:=E}
abbrev Cx.nox(X:Cx):Cx:=X.wish λ_ _=>False
theorem Cx.Ok.wish{X:Cx}(a:X.Ok)(E:C9):(X.wish E).Ok:=
 ⟨a.mod,a.kind,a.glob,a.blt,a.above,a.inj,a.has,a.cab,a.hd,a.frames,a.stk,a.exf,a.bs,a.bsz,a.noex,a.exfs,a.funs,a.frf⟩
theorem Cx.Ok.unwish{X:Cx}{E:C9}(a:(X.wish E).Ok):X.Ok:=
 ⟨a.mod,a.kind,a.glob,a.blt,a.above,a.inj,a.has,a.cab,a.hd,a.frames,a.stk,a.exf,a.bs,a.bsz,a.noex,a.exfs,a.funs,a.frf⟩
section
variable{X:Cx}{pins:C7}{σ:St}{H:Hp}{s:V2}{E:C9}
theorem Inv.wish(I:Inv X pins σ H s)(E:C9):Inv (X.wish E) pins σ H s:={I.ok.wish E,I.os,I.bare,I.base,I.loc,I.cell,I.free,I.freeC,I.pin,I.hok,I.len}
theorem Inv.unwish(I:Inv (X.wish E) pins σ H s):Inv X pins σ H s:=⟨I.ok.unwish,I.os,I.bare,I.base,I.loc,I.cell,I.free,I.freeC,I.pin,I.hok,I.len⟩
theorem SP.unwish{D:gG}{f:Flow}{s':V2}(h:SP (X.wish E) pins D f s'):SP X pins D f s':=by
 cases f with
 |next=>obtain⟨a,b,I,q⟩:=h;exact⟨a,b,I.unwish,q⟩
 |brk=>obtain⟨a,b,I,q⟩:=h;exact⟨a,b,I.unwish,q⟩
 |cont=>obtain⟨a,b,I,q⟩:=h;exact⟨a,b,I.unwish,q⟩
 |ret u=>obtain⟨v,a,b,I,r,q⟩:=h;exact⟨v,a,b,I.unwish,r,q⟩
theorem PSs.nox{st:List V6}{t:TS}(h:PSs X.nox st t):PSs X st t:=λpins s σ H D I a=>
 pC (h pins s σ H D (I.wish _) a) (λ_ _ q=>q.unwish) λ_ _ z=>False.elim z
end
section
variable{X:Cx}{st:V6}{rest:List V6}{t u:TS}{e:Expr}{te:TE}{pos:Pos}
def zWa:TS:=λD σ H=>D.nx σ H
def jG(t u:TS):TS:=λD σ H=>t {D with nx:=u D} σ H
theorem zK:PSs X [] zWa:=λ_ _ σ H _ I h=>tZ ⟨σ,H,I,h⟩
theorem zD(i:PS X st t)(j:PSs X rest u):PSs X (st::rest) (jG t u):=by
 intro a s σ H D I h;refine bY (thn (i a s σ H {D with nx:=u D} I h) λf g q=>?_)
 cases f with
 |next=>
  ext wS q b c d q;exact j a g b c D d q
 |ret v=>exact q|brk=>exact q|cont=>exact q
theorem zG(b:PS X st t):PSs X [st] t:=by
 intro a s σ H D I h;refine bY (thn (b a s σ H D I h) λf c q=>?_)
 cases f with|next=>exact tZ q|ret v=>exact q|brk=>exact q|cont=>exact q
theorem Inv.quiet{a:C7}{σ:St}{H:Hp}{s:V2}(I:Inv X a σ H s):interactive X.env=false:=by simp[interactive,I.ok.kind]
def zZj(te:TE):TS:=λD σ H=>te σ H λ_ a=>D.nx σ a
theorem wP(c:PE X e te)(d:S4 e none pos.line X.env=pure false:=by rfl):PS X (.Expr e pos) (zZj te):=by
 intro a s σ H D I h;exact wpAny_Expr_any (thn (c a s σ H _ I h) λv i ⟨x,g,b,j,f⟩=>⟨σ,g,b,f⟩) I.quiet d
def zMs(te:TE):TS:=λD σ H=>te σ H D.rt
theorem zI(c:PE X e te):PS X (.Return ↥e pos) (zMs te):=by
 intro a s σ H D I h;exact wpAny_Return_some (thn (c a s σ H _ I h) λv i ⟨x,g,b,f,d⟩=>⟨x,σ,g,b,f,d⟩)
def yEp:TS:=λD _ H=>D.rt .non H
def yGw(c:TT)(t u:TS):TS:=λD σ H=>c σ H λb a=>if b=true then t D σ a else u D σ a
theorem zT{c:Expr}{a b:List V6}{i:TT}(n:PT X c i)(m:PSs X a t)(o:PSs X b u):PS X (.If c a b pos) (yGw i t u):=by
 intro f s σ H D I h;refine wpAny_If (thn (n f s σ H _ I h) λd k ⟨l,g,j⟩=>?_)
 cases d with|true=>exact m f k σ l D g j|false=>exact o f k σ l D g j
def zPf:TS:=λ_ _ _=>False
theorem zEa{a:List V6}:PSs X a zPf:=λ_ _ _ _ _ _ h=>h.elim
end
abbrev TG:=V->St->Hp->(St->Hp->Prop)->Prop
abbrev TGs:=List V->St->Hp->(St->Hp->Prop)->Prop
def PG(X:Cx)(a:Expr)(t:TG):Prop:=
 ∀(b:C7)(s:V2)(σ:St)(H:Hp)(v:V)(u:V0)(Q:St->Hp->Prop),Inv X b σ H s->RelV v u->t v σ H Q->
  V8 (S8 X.prog X.w) X.A (assign a X.env u) (λ_ e=>∃c d,Inv X b c d e/\Q c d) X.xe s
def PGs(X:Cx)(ts:C5)(t:TGs):Prop:=
 ∀(a:C7)(s:V2)(σ:St)(H:Hp)(d:B3)(e:B7)(Q:St->Hp->Prop),Inv X a σ H s->Vals d e->t d σ H Q->
  V8 (S8 X.prog X.w) X.A (assignInOrder ((S9 ts X.env).map (·.2)) e) (λ_ f=>∃b c,Inv X a b c f/\Q b c) X.xe s
abbrev yHi:=V->V->V->Hp->(Hp->Prop)->Prop
def PSet(X:Cx)(t:yHi):Prop:=
 ∀(a:C7)(s:V2)(σ:St)(H:Hp)(o i v:V)(d b u:V0)(Q:Hp->Prop),Inv X a σ H s->RelV o d->RelV i b->RelV v u->t o i v H Q->
  V8 (S8 X.prog X.w) X.A (setItem d b u) (λ_ e=>∃c,Inv X a σ c e/\Q c) X.xe s
abbrev TIp:=V->V->Hp->VK->Prop
def PIp(X:Cx)(b:Operator)(t:TIp):Prop:=
 ∀(a:C7)(s:V2)(σ:St)(H:Hp)(x y:V)(v u:V0)(Q:VK),Inv X a σ H s->RelV x v->RelV y u->t x y H Q->
  V8 (S8 X.prog X.w) X.A (inplaceOp b v u) (EP X a σ Q) X.xe s
section
variable{X:Cx}{pos:Pos}
def qQ(i:Nat):TG:=λv σ H Q=>Q (σ.set i ↥v) H
theorem yG{i:Nat}{x:Str}(d:X.N.Nodup)(b:X.N[i]? =Y x)(f:Loc X.env.scope x)(e:X.fn x=true\/X.env.scope.names.lookup x=some .local:=by first | exact .inl O | exact .inr O | assumption):PG X (.Name x pos) (qQ i):=by
 intro a s σ H v u Q I r h;exact dB (zAw I d b f r (λg c=>⟨_,H,c,h⟩) e)
def yCx:TGs:=λa σ H Q=>a= []/\Q σ H
def zMz(t:TG)(u:TGs):TGs:=λc σ H Q=>∃v r,c=v::r/\t v σ H λa b=>u r a b Q
theorem zKx:PGs X [] yCx:=by
 intro a s σ H b c Q I r h;obtain⟨e,h⟩:=h;subst e;cases r;exact assignInOrder_nil ⟨σ,H,I,h⟩
theorem uL{e:Expr}{b:C5}{t:TG}{u:TGs}(k:PG X e t)(m:PGs X b u)
  (j:(S9 (e::b) X.env).map (·.2)=assign e X.env::(S9 b X.env).map (·.2):=by rfl):PGs X (e::b) (zMz t u):=by
 intro a s σ H p q Q I r h;ext wS h v o l h;subst l
 cases r with
 |cons r n=>
  rw[j];refine assignInOrder_cons (thn (k a s σ H _ _ _ I r h) λ_ d z_=>?_);obtain⟨i,g,f,c⟩:=z_;exact m a d i g _ _ Q f n c
def zYe(K:A9)(n:Nat)(t:TGs):TG:=λv σ H Q=>∃a b,v= .ref a/\SqT K H a b/\b...*=n/\t b σ H Q
theorem zYk{d:C5}{k:Nat}{t:TGs}{n:Nat}(y:X.calm=true)(h:PGs X d t)
  (w:(S9 d X.env)...*=n:=by rfl) (g:(S9 d X.env).findIdx? (·.1)=none:=by rfl):PG X (.Tuple d k pos) (zYe X.K n t):=by
 intro c s σ H v u Q I r f;ext zR f a m z q x f;subst z;cases r;refine xC (I.tuple q) λl i A D=>?_;refine assign_Tuple_tuple (I.ok.hd y) A (by simp[w,<-x,i...*]) g λj B=>?_;let p:Inv X c σ H {s with heap:=j}:=I.kept (t':=s.toks) λb o e=>B b o (nP (mZ e)) e;exact h c _ σ H m _ Q p (by simpa using i) f
def gSub(d c:TE)(t:yHi):TG:=λv σ H Q=>d σ H λo e=>c σ e λi b=>t o i v b λa=>Q σ a
theorem yIg{o i:Expr}{e d:TE}{t:yHi}(q:PE X o e)(k:PE X i d)(A:PSet X t)
  (w:∀v,assign (.Subscript o i pos) X.env v=(do
   let b <-holding [v] (eval o X.env);let c <-holding [v,b] (eval i X.env)
   S3 pos
   holding [v,b,c] (setItem b c v)
   release [v,b,c] []):=by intro _;rfl):PG X (.Subscript o i pos) (gSub e d t):=by
 intro a s σ H v u Q I r h;rw[w];refine mC (pL (thn (q a s σ H _ I h) λb l z_=>?_));obtain⟨x,p,n,E,g⟩:=z_;refine mC (pL (thn (k a l σ p _ n g) λc j z_=>?_));obtain⟨y,J,D,L,z⟩:=z_;refine mC (rR (mC (pL (thn (A a j σ J x y v b c u _ D E L r z) λ_ M ⟨f,B,m⟩=>?_))));exact wpAny_release ⟨σ,f,B,m⟩
def zNl(a:TE)(g:TG):TS:=λD σ H=>a σ H λx b=>g x σ b D.nx
theorem yFa{b e:Expr}{c:TE}{g:TG}(l:PE X e c)(o:PG X b g)(m:swapsWithSole [b] e pos.line X.env=pure false:=by rfl)(i:swappedStores [b] e X.env=pure none:=by rfl)
  (n:(S9 [b] X.env).map (·.2)= [assign b X.env]:=by rfl):PS X (.Assign [b] e pos) (zNl c g):=by
 intro a s σ H D I h;refine wpAny_Assign_stores (thn (l a s σ H _ I h) λv f z_=>?_) m i;obtain⟨x,k,j,p,d⟩:=z_;rw[n];exact thn (o a f σ k x v _ j p d) λ_ r q=>q
theorem uW{i:Nat}{x:Str}{e:Expr}{c:TE}{a:Pos}(g:X.N.Nodup)(f:X.N[i]? =Y x)(q:Loc X.env.scope x)(l:PE X e c)(m:S4 e ↥(.Name x a) pos.line X.env=pure false:=by rfl)(o:X.fn x=true\/X.env.scope.names.lookup x=some .local:=by first | exact .inl O | exact .inr O | assumption):
  PS X (.Assign [.Name x a] e pos) (zNl c (qQ i)):=by
 intro b s σ H D I h;refine wpAny_Assign_Name (thn (l b s σ H _ I h) λv t z_=>?_) m;obtain⟨y,k,j,p,d⟩:=z_;exact zAw j g f q p (λr n=>⟨_,k,n,d⟩) o
def tAug(i:Nat)(a:TE)(c:TIp):TS:=λD σ H=>∃x,σ[i]? =Y ↥x/\a σ H λy d=>c x y d λz b=>D.nx (σ.set i ↥z) b
theorem zZb{i:Nat}{x:Str}{e:Expr}{p:TE}{j:Operator}{q:TIp}{d:Pos}(A:X.N.Nodup)(n:X.N[i]? =Y x)(g:Loc X.env.scope x)(he:PE X e p)(J:PIp X j q)(hf:X.fn x=true\/X.env.scope.names.lookup x=some .local:=by first | exact .inl O | exact .inr O | assumption):
  PS X (.AugAssign (.Name x d) j e pos) (tAug i p q):=by
 intro a s σ H D I h;obtain⟨v,M,h⟩:=h;obtain⟨m,E,hl⟩:=I.loc;let f:Vis X.env.scope x:=by rcases g with k | k;exact .inl k;exact .inr (.inl k)
 obtain⟨u,r,l⟩:=hl i x v n M f;refine wpAny_AugAssign_Name ?_;let o:V8 (S8 X.prog X.w) X.A (eval e X.env) (λw t=>V8 (S8 X.prog X.w) X.A (inplaceOp j u w) (λr Q=>V8 (S8 X.prog X.w) X.A (storeName X.env x r) (λ_=>SP X a D .next) X.xe Q) X.xe t) X.xe s:=by
  refine thn (he a s σ H _ I h) λw B z_=>?_;obtain⟨y,H1,I1,r1,q1⟩:=z_;refine thn (J a B σ H1 v y u w _ I1 r r1 q1) λz s2 z_=>?_;obtain⟨zv,H2,I2,N,q2⟩:=z_;exact zAw I2 A n g N (λs3 L=>⟨_,H2,L,q2⟩) hf
 rcases l with⟨hk,hm⟩|⟨hk,c,hc,b⟩
 ·exact wpAny_loadName_local I.ok.kind hk E hm o
 ·rcases hk with hk | hk
  ·exact wpAny_loadName_cell I.ok.kind hk hc b o
  ·rcases g with k | k
   ·let:X.env.scope.names.lookup x=some .free:=hk
    rw[k] at this;cases this
   ·let:X.env.scope.names.lookup x=some .free:=hk
    rw[k] at this;cases this
def ipI(f:Int->Int->Int):TIp:=λx y H Q=>∃i j,x= .int i/\y= .int j/\Q (.int (f i j)) H
theorem zWo:PIp X .Add (ipI λi j=>i+j):=by
 intro a s σ H x y v u Q I d e h;ext yL h i j c b q;subst c;subst b;obtain⟨t,rfl⟩:=d;obtain⟨f,rfl⟩:=e;exact iadd_int {.int _,H,I.tok _,⟨_,O⟩,q}
def yFu(c:TT)(tb:TS):TS:=λD σ H=>∃W:Nat->St->Hp->Prop,(∃m,W m σ H)/\∀m σ H,W m σ H->
 c σ H λb e=>if b=true then∃N:St->Hp->Prop,(∀a d,N a d->∃f,f<m/\W f a d)/\tb {D with nx:=N,ct:=N,bk:=D.nx} σ e else D.nx σ e
theorem zXn{c:Expr}{d:List V6}{w:TT}{tb:TS}(u:PassesOwn (S8 X.prog X.w) X.A X.env X.xe)(hc:PT X c w)(L:PSs X d tb):PS X (.While c d [] pos) (yFu w tb):=by
 intro a s σ H D I h;obtain⟨W,⟨Q,w0⟩,g⟩:=h;refine wpAny_While (codeAny_whileLoop (λn E=>∃r x,Inv X a r x E/\W n r x) ?_ Q ⟨σ,H,I,w0⟩);intro n B J;ext wS J k y I1 M;refine tI u (thn (hc a B k y _ I1 (g n k y M)) λb s2 ⟨A,z,l⟩=>?_)
 cases b with
 |true=>
  obtain⟨N,t,l⟩:=l;rw[mP O];refine tI u (thn (L a s2 k A _ z l) λf s3 j=>?_)
  cases f with
  |next=>
   ext wS j e i m n3;obtain⟨q,p,o⟩:=t e i n3;exact⟨q,p,e,i,m,o⟩
  |cont=>
   ext wS j e i m n3;obtain⟨q,p,o⟩:=t e i n3;exact⟨q,p,e,i,m,o⟩
  |brk=>exact j|ret v=>exact j
 |false=>
  rw[mI nD];exact tZ ⟨k,A,z,l⟩
end
structure It where
 go:Nat->Hp->Prop
 yld:Nat->Hp->V->Hp->Prop
 stop:Nat->Hp->Prop
def zDn(X:Cx)(a:C7)(H:Hp)(b:V1):Prop:=
 H b=none/\b≠X.env.locals/\b∉X.fs/\(b∈X.ex\/X.s₀⁻¹<=b)/\(∀x c,X.env.cells.lookup x=Y c->c≠b)/\∀p∈X.pn++a,p.1≠b
theorem Inv.fpOk{X:Cx}{a:C7}{σ:St}{H f:Hp}{s:V2}{b:V1}(I:Inv X a σ H s)(d:s⁻¹<=b)(h:f b=none):zDn X a f b:=by
 refine{h,rC (nN I.lt d),I.nofs d, .inr (nW I.sz d),λx c e z=>?_,λp g z=>?_}
 ·obtain⟨v,q⟩:=I.cell x c e
  exact absurd (nN q.lt (by rw[z];exact d)) (sU _)
 ·exact absurd (nN (mZ (I.pin p g).1) (by rw[z];exact d)) (sU _)
structure zHt(P:V3)(w:V4)(K:A9)(tg:Expr)(J:It)(fp:B9)(it:V1)(tn:Nat->V5->Prop):Prop where
 mem:it∈fp
 obj:∀i h,tn i h->∀b∈fp,∃o,h.get? b=Y o/\∀v,o.data≠ .cell v
 keep:∀i h h',tn i h->(∀b∈fp,∀o,h.get? b=Y o->h'.get? b=Y o)->tn i h'
 item:∀(X:Cx),X.prog=P->X.w=w->X.K=K->X.calm=true->∀(i:Nat)(pins:C7)(s:V2)(σ:St)(H:Hp)(E:C9),Inv X pins σ H s->(∀b∈fp,zDn X pins H b)->tn i s.heap->J.go i H->
  V8 (S8 P w) X.A (pyNext (.ref it)) (λr s1=>∃u,r=Y u/\
   V8 (S8 P w) X.A (letOwnedTupleGo tg (.ref it) u) (λ_ s2=>∃x H',Inv X pins σ H' s2/\RelV x u/\J.yld i H x H'/\tn (i+1) s2.heap/\∀b∈fp,H' b=none) E s1) E s
 done:∀(X:Cx),X.prog=P->X.w=w->X.K=K->X.calm=true->∀(i:Nat)(pins:C7)(s:V2)(σ:St)(H:Hp)(E:C9),Inv X pins σ H s->(∀b∈fp,zDn X pins H b)->tn i s.heap->J.stop i H->
  V8 (S8 P w) X.A (pyNext (.ref it)) (λr s1=>r=none/\Inv X pins σ H s1) E s
 self:∀(A:Around)(i:Nat)(s:V2)(Q:C9)(E:C9),tn i s.heap->Q (.ref it) s->V8 (S8 P w) A (pyIter (.ref it)) Q E s
abbrev TI:=St->Hp->(It->Hp->Prop)->Prop
def PIE(X:Cx)(a:C7)(σ:St)(i:Expr)(R:It->Hp->Prop)(d:V0)(g:V2):Prop:=
 ∃(f:V1)(h:B9)(e:Nat->V5->Prop)(J:It)(c:Hp),d= .ref f/\Inv X a σ c g/\zHt X.prog X.w X.K i J h f e/\e 0 g.heap/\(∀b∈h,zDn X a c b)/\R J c
def PI(X:Cx)(d iter:Expr)(b:TI):Prop:=
 ∀(a:C7)(s:V2)(σ:St)(H:Hp)(R:It->Hp->Prop),Inv X a σ H s->b σ H R->
  V8 (S8 X.prog X.w) X.A (eval iter X.env) (λv c=>V8 (S8 X.prog X.w) X.A (pyIter v) (PIE X a σ d R) X.xe c) X.xe s
theorem zLs{M:Model}{A:Around}{E:C9}{s:V2}{b:Expr}{it:V1}{u:V0}{o:Obj}{n:String}{vs:Array V0}{Q:Unit->V2->Prop}(c:s.heap.get? it=Y o)(d:o.cls= .type n)(f:o.data= .fields vs)
    (e: ["enumerate","zip","dict_itemiterator","dict_reverseitemiterator","odict_iterator","itertools.zip_longest","itertools.pairwise"].contains n=false) (a:Q () s):V8 M A (letOwnedTupleGo b (.ref it) u) Q E s:=by
  unfold letOwnedTupleGo;cases b<;>first
    |exact mT a
    |(cases u<;>first
        |exact mT a
        | (refine mC (wpAny_load c ?_)
           rw[d,f];show V8 M A (if(["enumerate","zip","dict_itemiterator","dict_reverseitemiterator","odict_iterator","itertools.zip_longest","itertools.pairwise"].contains n && vs[0]? ==Y (rawInt _))=true then _ else _) Q E s;rw[mI (by intro h;rw[e,sY] at h;cases h)];exact mT a))
def Itl(K:A9)(a:V1):It:=
 {λi H=>∃b x,SqL K H a b/\b[i]? =Y x,λi H x c=>c=H/\∀b,SqL K H a b->b[i]? =Y x,λi H=>∃b,SqL K H a b/\b...*<=i}
def Itr(lo:Int)(n:Nat):It:={λi _=>i<n,λi H x a=>a=H/\x= .int (lo+i),λi _=>n<=i}
theorem zTo{P:V3}{w:V4}{K:A9}{tg:Expr}(a it:V1):zHt P w K tg (Itl K a) [it] it (λi h=>h.IsListIter it a i) where
 mem:=by simp
 obj:=λi h st b g=>by
  let e:b=it:=by simpa using g
  subst e;ext xC st o e c d;exact⟨o,e,λv z=>by rw[d] at z;cases z⟩
 keep:=λi h l st k=>st.at λo e=>k it (by simp) o e
 item:=by
  intro X L M Q hc i f s σ H E I n st N;subst L M Q;ext wS N xs x m D;refine xC (I.list m) λq r p hz=>?_;obtain⟨u,hu,ru⟩:=r.get D;refine zS (n it (by simp)) λt J f2 y B A=>?_;refine aG st p.isList (x:=u) (by simpa using hu) λl j sb=>?_;let I1:Inv X f σ H {s with heap:=l}:=I.turned (t':=s.toks) (λb o g e=>(sb.2 b g).trans e) t J y B A;refine xC (id j) λo e c d=>?_;exact{u,O,zLs (s:={s with heap:=l}) e c d ∎ {x,H,I1,ru,{O,λys hy=>by rw[I.list_inj hy m];exact D},j,λb g=>(n b g).1}}
 done:=by
  intro X L M Q hc i f s σ H E I n st N;subst L M Q;obtain⟨xs,m,D⟩:=N;refine xC (I.list m) λq r p hz=>?_;refine zS (n it (by simp)) λt J f2 y B A=>?_;let hl:=r...*;exact aK (I.ok.hd hc) st p.isList (by simp;lia) λl eb=>{O,I.turned (t':=s.toks) (λb o g e=>eb b o g e) t J y B A}
 self:=λ_ _ _ _ _ st h=>wpAny_pyIter_listiter st h
theorem zPk{P:V3}{w:V4}{K:PySem.W.Frag}{L:Expr}(it:V1)(lo:Int)(n:Nat):zHt P w K L (Itr lo n) [it] it (λi h=>IsRangeIter h it (lo+(i:Nat)*1) ((n:Int)- (i:Nat)) 1) where
 mem:=by simp
 obj:=λi h st b c=>by
  let e:b=it:=by simpa using c
  subst e;exact{_,st,λv z=>by
   let M:Data.fields _=Data.cell v:=z;cases M}
 keep:=λi h f st k=>k it (by simp) _ st
 item:=by
  intro X r u A x i a s σ H E I g st y;subst r u A;refine zS (g it (by simp)) λj q N l p m=>?_;let W:=Walks.range (prog:=X.prog) (w:=X.w) (I.ok.hd x) it lo 1 n;refine W.item i s _ _ y st λv f B J d D=>?_;obtain⟨t,rfl⟩:=J;let I1:Inv X a σ H {s with heap:=f,toks:=B}:=I.turned (λb o c e=>D b o (by simpa using c) e) j q l p m;refine{_,O,zLs (s:={s with heap:=f,toks:=B}) (n:="range_iterator") d O O ∎ {.int (lo+i),H,I1,{t, ?_},⟨O,O⟩,d,λb c=>(g b c).1}};rw[Int.mul_one]
 done:=by
  intro X r u A x i a s σ H E I g st y;subst r u A;refine zS (g it (by simp)) λj q N l p m=>?_;exact wpAny_pyNext_range_end (I.ok.hd x) st (by let:n<=i:=y;lia) λf Q=>{O,I.turned (t':=s.toks) (λb o c e=>Q b o c e) j q l p m}
 self:=λ_ _ _ _ _ st h=>wpAny_pyIter_rangeiter st h
section
variable{X:Cx}{tg:Expr}
def zWm(K:A9)(c:TE):TI:=λσ H R=>c σ H λx b=>∃a,x= .ref a/\(∃d,SqL K b a d)/\R (Itl K a) b
theorem xG{l:Expr}{g:TE}(n:PE X l g):PI X tg l (zWm X.K g):=by
 intro c s σ H R I h;refine thn (n c s σ H _ I h) λv d z_=>?_;obtain⟨x,m,f,t,i⟩:=z_;obtain⟨a,e,⟨y,k⟩,q⟩:=i;subst e;cases t;refine xC (f.list k) λj w p u=>?_;refine bM p.isList ?_;refine⟨d⁻¹,[d⁻¹],_,_,m,O,f.kept (t':=d.toks) λb o e=>mL _ e,zTo a _,⟨_,nM _ rfl,rfl,rfl⟩,λb r=>?_,q⟩;let e:b=d⁻¹:=by simpa using r
 subst e;exact f.fpOk (mE _) (f.hok.fresh (mE _))
theorem zYq{c:C7}{σ:St}{H:Hp}{s:V2}{R:It->Hp->Prop}{E:C9}{lo a:Int}{t u v:Tok}{d:Nat}(I:Inv X c σ H s)(j: -(2 ^ 62)<=lo)(m:lo<2 ^ 62)(h: -(2 ^ 62)<=a)(g:a<2 ^ 62)
  (q:R (Itr lo (a - lo).toNat) H):V8 (S8 X.prog X.w) X.A (pyIter (.ref s⁻¹)) (PIE X c σ tg R) E {s with heap:=s.heap.push {cls:=.type "range",data:=.fields #[.int lo t, .int a u, .int 1 v]},toks:=d}:=by
 refine wpAny_pyIter_range (IsRange.new ..) (small_one j m h g) ?_;let f:Inv X c σ H {s with heap:=s.heap.push {cls:=.type "range",data:=.fields #[.int lo t, .int a u, .int 1 v]},toks:=d}:=I.kept λb o e=>mL _ e;refine⟨(s.heap.push {cls:=.type "range",data:=.fields #[.int lo t, .int a u, .int 1 v]}).objs.size,[(s.heap.push {cls:=.type "range",data:=.fields #[.int lo t, .int a u, .int 1 v]}).objs.size],_,_,H,rfl,
  f.kept (t':=d) λb o e=>mL _ e,zPk _ lo (a - lo).toNat, ?_,λb l=>?_,q⟩
 ·let k:lo+((0:Nat):Int)*1=lo:=by simp
  let i:(((a - lo).toNat:Nat):Int)- ((0:Nat):Int)=S7 lo a 1:=by rw[rangeSize_one];split<;>lia
  show IsRangeIter _ _ (lo+((0:Nat):Int)*1) ((((a - lo).toNat:Nat):Int)- ((0:Nat):Int)) 1;rw[k,i];exact nM _ O
 ·let e:b=(s.heap.push {cls:=.type "range",data:=.fields #[.int lo t, .int a u, .int 1 v]}).objs.size:=by simpa using l
  subst e;exact f.fpOk (mE _) (f.hok.fresh (mE _))
def zYh(ta:TA):TI:=λσ H R=>ta σ H λa b=>∃j:Int,a= [.int j]/\-(2 ^ 62)<=j/\j<2 ^ 62/\R (Itr 0 j.toNat) b
theorem wE{a:Expr}{ta:TA}{p b:Pos}(m:Gl X "range")(g:X.mg "range" =none)(i:PA X [a] ta)(l:A5 [a] X.env= [(false,eval a X.env)]:=by rfl):PI X tg (.Call (.Name "range" p) [a] [] b) (zYh ta):=by
 intro c s σ H R I h;refine Call_ (zAb I m g boot_range (rP (thn (i b c s σ H _ I h) λx u z_=>?_) l O));obtain⟨v,w,f,n,d⟩:=z_;ext jD d j e d k q;subst e
 cases n with
 |cons r o=>
  cases o;obtain⟨t,rfl⟩:=r;exact call_range_1 (zYq f ∅ ∅ d k (by simpa using q))
def tFor(d:TI)(g:TG)(tb:TS):TS:=λD σ H=>d σ H λJ e=>∃W:Nat->Nat->St->Hp->Prop,(∃m,W 0 m σ e)/\∀i m σ H,W i m σ H->
 (J.stop i H/\D.nx σ H)\/(J.go i H/\∃N:St->Hp->Prop,(∀b a,N b a->∃c,c<m/\W (i+1) c b a)/\∀x a,J.yld i H x a->g x σ a λf h=>tb {D with nx:=N,ct:=N,bk:=D.nx} f h)
def zAv(fp:B9)(h:V5):List (V1×Obj):=fp.filterMap λb=>(h.get? b).map λo=>(b,o)
theorem jQ{fp:B9}{h:V5}{b:V1}{o:Obj}(a:b∈fp)(e:h.get? b=Y o):(b,o)∈zAv fp h:=List.mem_filterMap.mpr {b,a,by rw[e];rfl}
theorem zSp{fp:B9}{h:V5}{p:V1×Obj}(c:p∈zAv fp h):p.1∈fp/\h.get? p.1=Y p.2:=by
 obtain⟨b,d,e⟩:=List.mem_filterMap.mp c
 cases q:h.get? b with
 |none=>rw[q] at e;cases e|some o=>
  rw[q] at e;let a:(b,o)=p:=mU e;subst a;exact⟨d,q⟩
theorem Inv.pinned{a:C7}{σ:St}{H:Hp}{s:V2}{fp:B9}(I:Inv X a σ H s)(k:∀b∈fp,zDn X a H b)(h:∀b∈fp,∃o,s.heap.get? b=Y o/\∀v,o.data≠ .cell v):Inv X (a++zAv fp s.heap) σ H s:=
 I.pins_of λp i=>(nB.mp i).elim (λz=>I.pin p (mX _ z)) λz=>by
  obtain⟨c,e⟩:=zSp z;refine xA (k p.1 c) λl j g _=>?_;obtain⟨o,f,d⟩:=h p.1 c;rw[e] at f;cases f;exact⟨e,l,j,g,d⟩
theorem Inv.unpinned{a pl:C7}{σ:St}{H:Hp}{s:V2}(I:Inv X (a++pl) σ H s):Inv X a σ H s:=I.pins_of λp b=>I.pin p (mX _ (nQ _ b))
theorem vX{iter:Expr}{t:List V6}{wi:TI}{g:TG}{tb:TS}{ae:Pos}(Q:PassesOwn (S8 X.prog X.w) X.A X.env X.xe)(hc:X.calm=true)(hi:PI X tg iter wi)(hg:PG X tg g)(j:PSs X t tb)
  (hs:∀x,foldedSetIterable iter X.env x=pure x:=by intro _;rfl):PS X (.For tg iter t [] ae) (tFor wi g tb):=by
 intro a s σ H D I h;refine wpAny_For (thn (hi a s σ H _ I h) λv s1 h1=>thn h1 λag s2 h2=>?_) hs;obtain⟨it,A,tn,J,H2,e,I2,T,ab,f2,W,⟨m0,w0⟩,M⟩:=h2;subst e
 -- what stays true of the iterator's objects through the loop
 let p:∀{q:Hp},(∀b∈A,q b=none)->∀b∈A,zDn X a q b:=λhn b j=>{hn b j,(f2 b j).2};refine codeAny_forLoop_any (λn s'=>∃i E q,Inv X a E q s'/\tn i s'.heap/\(∀b∈A,q b=none)/\W i n E q) ?_ m0 {0,σ,H2,I2,ab,λb j=>(f2 b j).1,w0};intro n s3 z_;ext zU z_ i z H3 I3 B z_;ext oA z_ aa w3;rcases M i n z H3 w3 with⟨stop,qn⟩|⟨go,N,hN,step⟩
 ·refine tI Q (thn (T.done X O O O hc i a s3 z H3 X.xe I3 (p aa) B stop) λr s4 ⟨hr,I4⟩=>?_)
  subst hr;exact tZ ⟨z,H3,I4,qn⟩
 ·refine tI Q (thn (T.item X O O O hc i a s3 z H3 X.xe I3 (p aa) B go) λr s4 ⟨u,hr,h4⟩=>?_)
  subst hr;refine tI Q (thn h4 λ_ s5 z_=>?_);obtain⟨x,H5,I5,r5,y5,y,af⟩:=z_;let ac:=I5.pinned (p af) (T.obj _ _ y);refine tI Q (thn (hg _ s5 z H5 x u _ ac r5 (step x H5 y5)) λ_ s6 z_=>?_);obtain⟨σ6,H6,I6,q6⟩:=z_;refine tI Q (thn (j _ s6 σ6 H6 _ I6 q6) λf s7 w=>?_);let again:∀{k:St}{l:Hp},Inv X (a++zAv A s5.heap) k l s7->N k l->∃m,m<n/\∃i E q,Inv X a E q s7/\tn i s7.heap/\(∀b∈A,q b=none)/\W i m E q:=λ{k l} c L=>by
   obtain⟨m',hm,w7⟩:=hN k l L;refine⟨m',hm,i+1,k,l,c.unpinned,T.keep _ _ _ y λb j o e=>(c.pin (b,o) (mX _ (mX _ (jQ j e)))).1,λb j=>?_,w7⟩;obtain⟨o,e,d⟩:=T.obj _ _ y b j;exact(c.pin (b,o) (mX _ (mX _ (jQ j e)))).2.1
  cases f with
  |next=>obtain⟨k,l,c,L⟩:=w;exact again c L
  |cont=>obtain⟨k,l,c,L⟩:=w;exact again c L
  |brk=>obtain⟨k,l,c,w⟩:=w;exact⟨k,l,c.unpinned,w⟩
  |ret v=>obtain⟨x7,k,l,c,r7,w⟩:=w;exact⟨x7,k,l,c.unpinned,r7,w⟩
end
theorem zZx{K:PySem.W.Frag}{a:V1}{xs:B3}{g:TG}{tb:TS}{D:gG}{σ:St}{H:Hp}(Pv:Nat->St->Hp->Prop)(l:Pv 0 σ H)(r:∀i σ H,i<=xs...*->Pv i σ H->SqL K H a xs)
  (s:∀i x σ H,xs[i]? =Y x->Pv i σ H->g x σ H λf h=>tb {D with nx:=Pv (i+1),ct:=Pv (i+1),bk:=D.nx} f h) (o:∀σ H,Pv xs...* σ H->D.nx σ H):
  ∃W:Nat->Nat->St->Hp->Prop,(∃m,W 0 m σ H)/\∀i m σ H,W i m σ H->
   ((Itl K a).stop i H/\D.nx σ H)\/((Itl K a).go i H/\∃N:St->Hp->Prop,(∀d b,N d b->∃j,j<m/\W (i+1) j d b)/\∀x b,(Itl K a).yld i H x b->g x σ b λf h=>tb {D with nx:=N,ct:=N,bk:=D.nx} f h):=by
 refine{λi m σ H=>m=xs...* - i/\i<=xs...*/\Pv i σ H,{xs...*,by simp,nR _,l}, ?_};rintro i m σ H ⟨rfl,k,p⟩;let q:=r i σ H k p
 by_cases c:i<xs...*
 ·refine .inr {{xs,xs[i],q,by simp[c]},Pv (i+1),λd b n=>{xs...* - (i+1),∅,O,c,n},λx b y=>?_}
  obtain⟨e,y⟩:=y;subst e;exact s i x σ _ (y xs q) p
 ·let e:i=xs...*:=by lia
  subst e;exact .inl {{xs,q,mE _},o σ H p}
theorem zSn{lo:Int}{n:Nat}{g:TG}{tb:TS}{D:gG}{σ:St}{H:Hp}(Pv:Nat->St->Hp->Prop)(j:Pv 0 σ H)
  (o:∀i σ H,i<n->Pv i σ H->g (.int (lo+i)) σ H λd f=>tb {D with nx:=Pv (i+1),ct:=Pv (i+1),bk:=D.nx} d f) (l:∀σ H,Pv n σ H->D.nx σ H):
  ∃W:Nat->Nat->St->Hp->Prop,(∃m,W 0 m σ H)/\∀i m σ H,W i m σ H->
   ((Itr lo n).stop i H/\D.nx σ H)\/((Itr lo n).go i H/\∃N:St->Hp->Prop,(∀c a,N c a->∃h,h<m/\W (i+1) h c a)/\∀x a,(Itr lo n).yld i H x a->g x σ a λd f=>tb {D with nx:=N,ct:=N,bk:=D.nx} d f):=by
 refine{λi m σ H=>m=n - i/\i<=n/\Pv i σ H,{n,by simp,nR _,j}, ?_};rintro i m σ H ⟨rfl,q,p⟩
 by_cases b:i<n
 ·refine .inr {b,Pv (i+1),λc a k=>{n - (i+1),∅,O,b,k},λx a y=>?_}
  obtain⟨e,y⟩:=y;subst e y;exact o i σ _ b p
 ·let e:i=n:=by lia
  subst e;exact .inl {mE _,l σ H p}
abbrev R2:=V->V->Hp->VK->Prop
def OpR(X:Cx)(f:V0->V0->Sem V0)(r:R2):Prop:=
 ∀(a:C7)(s:V2)(σ:St)(H:Hp)(x y:V)(v u:V0)(Q:VK),Inv X a σ H s->RelV x v->RelV y u->r x y H Q->
  V8 (S8 X.prog X.w) X.A (f v u) (EP X a σ Q) X.xe s
def UnR(X:Cx)(f:V0->Sem V0)(r:V->Hp->VK->Prop):Prop:=
 ∀(a:C7)(s:V2)(σ:St)(H:Hp)(x:V)(v:V0)(Q:VK),Inv X a σ H s->RelV x v->r x H Q->
  V8 (S8 X.prog X.w) X.A (f v) (EP X a σ Q) X.xe s
def wX(X:Cx)(f:V0)(r:List V->Hp->VK->Prop):Prop:=
 ∀(a:C7)(s:V2)(σ:St)(H:Hp)(b:B3)(c:B7)(Q:VK),Inv X a σ H s->Vals b c->r b H Q->
  V8 (S8 X.prog X.w) X.A (call f c) (EP X a σ Q) X.xe s
def TruR(X:Cx)(r:V->Hp->(Bool->Hp->Prop)->Prop):Prop:=
 ∀(a:C7)(s:V2)(σ:St)(H:Hp)(x:V)(v:V0)(Q:Bool->Hp->Prop),Inv X a σ H s->RelV x v->r x H Q->
  V8 (S8 X.prog X.w) X.A (truthy v) (TP X a σ Q) X.xe s
def tOp(r:R2)(ta tb:TE):TE:=λσ H Q=>ta σ H λx b=>tb σ b λy a=>r x y a Q
def tUn(r:V->Hp->VK->Prop)(ta:TE):TE:=λσ H Q=>ta σ H λx a=>r x a Q
def rI(C:Int->Int->Prop)(g:Int->Int->V):R2:=λx y H Q=>∃i j,x= .int i/\y= .int j/\C i j/\Q (g i j) H
def rI0(g:Int->Int->V):R2:=λx y H Q=>∃i j,x= .int i/\y= .int j/\Q (g i j) H
def rU(g:Int->V):V->Hp->VK->Prop:=λx H Q=>∃i,x= .int i/\Q (g i) H
section
variable{X:Cx}{a b c:Expr}{ta tb tc:TE}{pos:Pos}
theorem yHo(n:PE X a ta)(r:PE X b tb){d:C7}{s:V2}{σ:St}{H:Hp}{R:V->V->Hp->Prop}(I:Inv X d σ H s)
  (h:ta σ H λx i=>tb σ i λy e=>R x y e) {Q:C9} {f:V0->V0->Sem V0}
  (t:∀v u g x y e,Inv X d σ e g->RelV x v->RelV y u->R x y e->V8 (S8 X.prog X.w) X.A (f v u) Q X.xe g):
  V8 (S8 X.prog X.w) X.A (eval a X.env) (λv q=>V8 (S8 X.prog X.w) X.A (eval b X.env) (λu j=>V8 (S8 X.prog X.w) X.A (f v u) Q X.xe j) X.xe q) X.xe s:=by
 refine thn (n d s σ H _ I h) λv l z_=>?_;obtain⟨x,i,m,w,k⟩:=z_;refine thn (r d l σ i _ m k) λu g z_=>?_;obtain⟨y,e,p,z,o⟩:=z_;exact t v u g x y e p w z o
theorem zJ{e:Operator}{r:R2}(i:OpR X (binaryOp e) r)(j:PE X a ta)(l:PE X b tb):PE X (.BinOp a e b pos) (tOp r ta tb):=by
 intro d s σ H Q I h;exact wpAny_BinOp (yHo j l I h λv u f x y m k g n q=>i d f σ m x y v u Q k g n q)
theorem wO{e:UnaryOp}{r:V->Hp->VK->Prop}(f:UnR X (unaryOp e) r)(i:PE X a ta):PE X (.UnaryOp e a pos) (tUn r ta):=by
 intro d s σ H Q I h;exact UnaryOp_ (thn (i d s σ H _ I h) λv k ⟨x,m,g,l,j⟩=>f d k σ m x v Q g l j)
theorem opI{f:V0->V0->Sem V0}{C:Int->Int->Prop}{g:Int->Int->Int}
  (rule:∀(i j:Int)(t u:Tok)(s:V2)(Q:C9)(E:C9),C i j->Q (.int (g i j) s.toks) {s with toks:=s.toks+1}->V8 (S8 X.prog X.w) X.A (f (.int i t) (.int j u)) Q E s):
  OpR X f (rI C λi j=>.int (g i j)):=by
 intro k s σ H x y v u Q I l o h;ext zR h i j e d m q;subst e d;obtain⟨t,rfl⟩:=l;obtain⟨n,rfl⟩:=o;exact rule i j t n s _ _ m {.int (g i j),H,I.tok _,⟨_,O⟩,q}
theorem opI0{f:V0->V0->Sem V0}{g:Int->Int->Int}
  (rule:∀(i j:Int)(t u:Tok)(s:V2)(Q:C9)(E:C9),Q (.int (g i j) s.toks) {s with toks:=s.toks+1}->V8 (S8 X.prog X.w) X.A (f (.int i t) (.int j u)) Q E s):
  OpR X f (rI0 λi j=>.int (g i j)):=by
 intro k s σ H x y v u Q I l n h;ext yL h i j e d q;subst e d;obtain⟨t,rfl⟩:=l;obtain⟨m,rfl⟩:=n;exact rule i j t m s _ _ {.int (g i j),H,I.tok _,⟨_,O⟩,q}
theorem yCd{f:V0->V0->Sem V0}{g:Int->Int->Bool}
  (rule:∀(i j:Int)(t u:Tok)(s:V2)(Q:C9)(E:C9),Q (.bool (g i j)) s->V8 (S8 X.prog X.w) X.A (f (.int i t) (.int j u)) Q E s):
  OpR X f (rI0 λi j=>.bl (g i j)):=by
 intro k s σ H x y v u Q I l n h;ext yL h i j e d q;subst e d;obtain⟨t,rfl⟩:=l;obtain⟨m,rfl⟩:=n;exact rule i j t m s _ _ {.bl (g i j),H,I,O,q}
def yHd(i j:Int):Prop:=0<j/\j<1073741824
def yGz(i j:Int):Prop:=0<=j/\j<=1000000/\i.natAbs<2 ^ 64
def CMul(i j:Int):Prop:=(-(2 ^ 64)<i/\i<2 ^ 64)\/(-(2 ^ 64)<j/\j<2 ^ 64)
theorem CMul.ok{i j:Int}(h:CMul i j):IntMulOk i j:=by
 rcases h with⟨e,d⟩|⟨e,d⟩
 ·exact .of_left (intBits_le_64 e d)
 ·exact .of_right (intBits_le_64 e d)
theorem xI:OpR X (binaryOp .Add) (rI0 λi j=>.int (i+j)):=opI0 λ_ _ _ _ _ _ _ q=>add_int q
theorem vJ:OpR X (binaryOp .Sub) (rI0 λi j=>.int (i - j)):=opI0 λ_ _ _ _ _ _ _ q=>sub_int q
theorem gE:OpR X (binaryOp .Mult) (rI CMul λi j=>.int (i*j)):=opI λ_ _ _ _ _ _ _ d q=>mul_int q d.ok
theorem yK:OpR X (binaryOp .FloorDiv) (rI yHd λi j=>.int (i / j)):=opI λi j _ _ _ _ _ d q=>by
 let f:(0:Int)<j:=d.1;let e:j<1073741824:=d.2;exact floordiv_int ∅ (by rw[Int.fdiv_eq_ediv_of_nonneg i ∅];exact q) (.inl (PyProof.noPylong_small ∅))
theorem yI:OpR X (binaryOp .Mod) (rI (λ_ j=>0<j) λi j=>.int (i % j)):=opI λi j _ _ _ _ _ d q=>by
 let e:(0:Int)<j:=d;exact mod_int' ∅ (by rw[Int.fmod_eq_emod_of_nonneg i ∅];exact q)
theorem zAn:OpR X (binaryOp .Pow) (rI yGz λi j=>.int (i ^ j.toNat)):=opI λ_ _ _ _ _ _ _ d q=>pow_int_small d.1 d.2.1 d.2.2 q
theorem unI{f:V0->Sem V0}{g:Int->Int}
  (rule:∀(i:Int)(t:Tok)(s:V2)(Q:C9)(E:C9),Q (.int (g i) s.toks) {s with toks:=s.toks+1}->V8 (S8 X.prog X.w) X.A (f (.int i t)) Q E s):
  UnR X f (rU λi=>.int (g i)):=by
 intro d s σ H x v Q I e h;obtain⟨i,rfl,q⟩:=h;obtain⟨t,rfl⟩:=e;exact rule i t s _ _ {.int (g i),H,I.tok _,⟨_,O⟩,q}
theorem xO:UnR X (unaryOp .USub) (rU λi=>.int (-i)):=unI λ_ _ _ _ _ q=>neg_int q
def zUn:V->V->Bool
 |.non, .non=>true | .non, .int _=>true | .int _, .non=>true | .non, .bl _=>true | .bl _, .non=>true | .non, .str _=>true | .str _, .non=>true|.int _, .int _=>true | .bl _, .bl _=>true | .str _, .str _=>true | .byt _, .byt _=>true|.int _, .str _=>true | .str _, .int _=>true | .bl _, .str _=>true | .str _, .bl _=>true|_,_=>false
def rEq:R2:=λx y H Q=>zUn x y=true/\Q (.bl (decide (x=y))) H
def rNe:R2:=λx y H Q=>zUn x y=true/\Q (.bl (!decide (x=y))) H
theorem zQd{i j:Int}:decide (V.int i=V.int j)=(i==j):=by
 rw[aA];simp
theorem zZv{i j:Bool}:decide (V.bl i=V.bl j)=(i==j):=by
 rw[aA];simp
theorem zPr{i j:Str}:decide (V.str i=V.str j)=(i==j):=by
 rw[aA];simp
theorem zQc{i j:Array UInt8}:decide (V.byt i=V.byt j)=(i.toList==j.toList):=by
 rw[aA];cases i;cases j;simp
theorem yV{d:C7}{σ:St}{H:Hp}{s:V2}{Q:VK}{k k':Bool}(I:Inv X d σ H s)(q:Q (.bl k) H)(e:k=k'):EP X d σ Q (.bool k') s:=by
 subst e;exact{.bl k,H,I,O,q}
theorem xN:OpR X (A6 .Eq) rEq:=by
 intro k s σ H x y v u Q I g d h;obtain⟨f,q⟩:=h
 cases x with
 |non=>
  cases g
  cases y with
  |non=>cases d;exact PySem.EqNone.eq_none_none (yV I q (by simp))|bl j=>cases d;exact PySem.EqNone.eq_none_bool (yV I q (by simp))|int j=>obtain⟨e,rfl⟩:=d;exact PySem.EqNone.eq_none_int (yV I q (by simp))
  |str j=>obtain⟨e,rfl⟩:=d;exact PySem.EqNone.eq_none_str (yV I q (by simp))
  |_=>exact absurd (show false=true from f) nD
 |bl i=>
  cases g
  cases y with
  |non=>cases d;exact PySem.EqNone.eq_bool_none (yV I q (by simp))|bl j=>cases d;exact eq_bool (yV I q zZv)|str j=>obtain⟨e,rfl⟩:=d;exact PySem.EqMixed.eq_bool_str (yV I q (by simp))
  |_=>exact absurd (show false=true from f) nD
 |int i=>
  obtain⟨t,rfl⟩:=g
  cases y with
  |non=>cases d;exact PySem.EqNone.eq_int_none (yV I q (by simp))|int j=>obtain⟨e,rfl⟩:=d;exact eq_int (yV I q zQd)
  |str j=>obtain⟨e,rfl⟩:=d;exact PySem.EqMixed.eq_int_str (yV I q (by simp))
  |_=>exact absurd (show false=true from f) nD
 |str i=>
  obtain⟨t,rfl⟩:=g
  cases y with
  |non=>cases d;exact PySem.EqNone.eq_str_none (yV I q (by simp))|bl j=>cases d;exact PySem.EqMixed.eq_str_bool (yV I q (by simp))|int j=>obtain⟨e,rfl⟩:=d;exact PySem.EqMixed.eq_str_int (yV I q (by simp))
  |str j=>obtain⟨e,rfl⟩:=d;exact eq_str (yV I q zPr)
  |_=>exact absurd (show false=true from f) nD
 |byt i=>
  obtain⟨t,rfl⟩:=g
  cases y with
  |byt j=>obtain⟨e,rfl⟩:=d;exact W.eq_bytes (yV I q zQc)
  |_=>exact absurd (show false=true from f) nD
 |_=>cases y<;>exact absurd (show false=true from f) nD
theorem zEp:OpR X (A6 .NotEq) rNe:=by
 intro k s σ H x y v u Q I g d h;obtain⟨f,q⟩:=h
 cases x with
 |non=>
  cases g
  cases y with
  |non=>cases d;exact PySem.EqNone.ne_none_none (yV I q (by simp))|bl j=>cases d;exact PySem.EqNone.ne_none_bool (yV I q (by simp))|int j=>obtain⟨e,rfl⟩:=d;exact PySem.EqNone.ne_none_int (yV I q (by simp))
  |str j=>obtain⟨e,rfl⟩:=d;exact PySem.EqNone.ne_none_str (yV I q (by simp))
  |_=>exact absurd (show false=true from f) nD
 |bl i=>
  cases g
  cases y with
  |non=>cases d;exact PySem.EqNone.ne_bool_none (yV I q (by simp))|bl j=>cases d;exact ne_bool (yV I q (congrArg not zZv))|str j=>obtain⟨e,rfl⟩:=d;exact PySem.EqMixed.ne_bool_str (yV I q (by simp))
  |_=>exact absurd (show false=true from f) nD
 |int i=>
  obtain⟨t,rfl⟩:=g
  cases y with
  |non=>cases d;exact PySem.EqNone.ne_int_none (yV I q (by simp))|int j=>obtain⟨e,rfl⟩:=d;exact ne_int (yV I q (congrArg not zQd))
  |str j=>obtain⟨e,rfl⟩:=d;exact PySem.EqMixed.ne_int_str (yV I q (by simp))
  |_=>exact absurd (show false=true from f) nD
 |str i=>
  obtain⟨t,rfl⟩:=g
  cases y with
  |non=>cases d;exact PySem.EqNone.ne_str_none (yV I q (by simp))|bl j=>cases d;exact PySem.EqMixed.ne_str_bool (yV I q (by simp))|int j=>obtain⟨e,rfl⟩:=d;exact PySem.EqMixed.ne_str_int (yV I q (by simp))
  |str j=>obtain⟨e,rfl⟩:=d;exact ne_str (yV I q (congrArg not zPr))
  |_=>exact absurd (show false=true from f) nD
 |byt i=>
  obtain⟨t,rfl⟩:=g
  cases y with
  |byt j=>obtain⟨e,rfl⟩:=d;exact W.ne_bytes (yV I q (congrArg not zQc))
  |_=>exact absurd (show false=true from f) nD
 |_=>cases y<;>exact absurd (show false=true from f) nD
theorem jU:OpR X (A6 .Lt) (rI0 λi j=>.bl (decide (i<j))):=yCd λ_ _ _ _ _ _ _ q=>lt_int q
theorem uE:OpR X (A6 .LtE) (rI0 λi j=>.bl (decide (i<=j))):=yCd λ_ _ _ _ _ _ _ q=>le_int q
theorem kS:OpR X (A6 .Gt) (rI0 λi j=>.bl (decide (j<i))):=yCd λ_ _ _ _ _ _ _ q=>gt_int q
theorem op_ge:OpR X (A6 .GtE) (rI0 λi j=>.bl (decide (j<=i))):=yCd λ_ _ _ _ _ _ _ q=>ge_int q
theorem zSg:OpR X (A6 .In) (λx y H Q=>∃i j,x= .str i/\y= .str j/\Q (.bl (!(Builtin.Str.occurrences j i 0 j...* 1).isEmpty)) H):=by
 intro f s σ H x y v u Q I g k h;ext yL h i j e d q;subst e d;obtain⟨t,rfl⟩:=g;obtain⟨l,rfl⟩:=k;exact in_str (yV I q O)
theorem zYa(b:Expr){d:CmpOp}(h:d≠ .In:=by decide)(e:d≠ .NotIn:=by decide):behindInMarks d b=false:=by
 let f:(d==CmpOp.In)=false:=by cases d<;>first | rfl | exact absurd O h
 let g:(d==CmpOp.NotIn)=false:=by cases d<;>first | rfl | exact absurd O e
 cases b<;>simp[behindInMarks,f,g]
theorem zFc{e:CmpOp}{r:R2}(i:OpR X (A6 e) r)(k:PE X a ta)(m:PE X b tb)(j:behindInMarks e b=false):PE X (.Compare a [e] [b] pos) (tOp r ta tb):=by
 intro d s σ H Q I h;exact wpAny_Compare1 (yHo k m I h λv u f x y n l g o q=>i d f σ n x y v u Q l g o q) j
def zMa(t:TE):TT:=λσ H Q=>t σ H λx d=>∃k,x= .bl k/\Q k d
theorem yCz{f:CmpOp}{r:R2}(q:OpR X (A6 f) r)(A:PE X a ta)(E:PE X b tb)(t:behindInMarks f b=false):PT X (.Compare a [f] [b] pos) (zMa (tOp r ta tb)):=by
 intro d s σ H Q I h;refine wpAny_isTrue_Compare1 (thn (A d s σ H _ I h) λv m ⟨x,p,o,J,i⟩=>thn (E d m σ p _ o i) λu j ⟨y,L,D,M,w⟩=>
  thn (q d j σ L x y v u _ D J M w) λc N ⟨z,g,B,l,k,e,n⟩=>?_) t
 subst e;cases l;exact pZ ⟨g,B,n⟩
def zKc(r e:R2)(ta tb tc:TE):TE:=λσ H Q=>ta σ H λx i=>tb σ i λy g=>r x y g λz d=>∃k,z= .bl k/\
 (if k=true then tc σ d λh f=>e y h f Q else Q (.bl false) d)
theorem zMv{j g:CmpOp}{r n:R2}(w:OpR X (A6 j) r)(i:OpR X (A6 g) n)(ha:PE X a ta)(B:PE X b tb)(hc:PE X c tc)
  (hm:lastMarks [j,g] [b,c]=false:=by with_unfolding_all rfl):PE X (.Compare a [j,g] [b,c] pos) (zKc r n ta tb tc):=by
 intro f s σ H Q I h;refine Compare_chain (thn (ha f s σ H _ I h) λv q ⟨x,H1,I1,r1,L⟩=>chain_link (thn (B f q σ H1 _ I1 L) λu M ⟨y,H2,I2,m,q2⟩=>
  thn (w f M σ H2 x y v u _ I2 r1 m q2) λd s3 ⟨z,o,l,N,k,e,p⟩=>?_)) hm
 subst e;cases N;refine pZ ?_
 cases k with|false=>exact ite_ff {.bl false,o,l,O,p}|true=>exact ite_tt (chain_last (thn (hc f s3 σ o _ l p) λw' t ⟨E,A,J,r4,D⟩=>i f t σ A y E u w' Q J m r4 D))
theorem zMw{j g:CmpOp}{r n:R2}(B:OpR X (A6 j) r)(i:OpR X (A6 g) n)(ha:PE X a ta)(E:PE X b tb)(hc:PE X c tc)
  (hm:lastMarks [j,g] [b,c]=false:=by with_unfolding_all rfl):PT X (.Compare a [j,g] [b,c] pos) (zMa (zKc r n ta tb tc)):=by
 intro f s σ H Q I h;refine isTrue_chain (thn (ha f s σ H _ I h) λv t ⟨x,H1,I1,r1,q1⟩=>test_link (thn (E f t σ H1 _ I1 q1) λu s2 ⟨y,H2,I2,m,q2⟩=>
  thn (B f s2 σ H2 x y v u _ I2 r1 m q2) λd s3 ⟨z,o,l,r3,k,e,p⟩=>?_)) hm
 subst e;cases r3;refine pZ ?_
 cases k with
 |false=>
  obtain⟨k',J,q'⟩:=p;cases J;exact ite_ff ⟨o,l,q'⟩
 |true=>
  refine ite_tt (test_last (thn (hc f s3 σ o _ l p) λw' w ⟨M,D,N,r4,L⟩=>thn (i f w σ D y M u w' _ N m r4 L) λd' s5 z_=>?_));obtain⟨z2,H5,I5,q,k2,A,q5⟩:=z_;subst A;cases q;exact pZ ⟨H5,I5,q5⟩
def TruV(K:A9)(x:V)(H:Hp)(k:Bool):Prop:=
 match x with|.non=>k=false|.bl b=>k=b|.int i=>k=(i !=0)|.str y=>y...*<=V9/\k=((y...*:Int) !=0)|.byt y=>y.size<=V9/\k=((y.size:Int) !=0)|.ref p=>(∃d,SqL K H p d/\k= !d.isEmpty)\/(∃d,SqT K H p d/\k= !d.isEmpty)\/∃e,H p=Y (.dK e)/\k= !e.isEmpty|_=>False
theorem zNz{κ:Type}{kvs:List (κ×V)}{vs:List (κ×V0)}(r:KV kvs vs):(!vs.isEmpty)= !kvs.isEmpty:=by
 cases r<;>rfl
theorem zGe{xs:B3}{d:B7}(r:Vals xs d):(!d.toArray.isEmpty)= !xs.isEmpty:=by
 cases r<;>simp
theorem zBz:(V9:Nat)<2 ^ 63:=by rw[mS];decide
theorem yEy:TruR X (λx H Q=>∃k,TruV X.K x H k/\Q k H):=by
 intro A s σ H x v Q I l h;obtain⟨k,e,q⟩:=h;let E:=zBz;let J:V9=16777216:=mS
 cases x with
 |non=>
  cases l;let d:k=false:=e;subst d;exact truthy_none ⟨H,I,q⟩
 |bl b=>
  cases l;let d:k=b:=e;subst d;exact pZ ⟨H,I,q⟩
 |int i=>
  obtain⟨t,rfl⟩:=l;let d:k=(i !=0):=e;subst d;exact PySem.P.truthy_int ⟨H,I,q⟩
 |str y=>
  obtain⟨t,rfl⟩:=l;obtain⟨B,d⟩:y...*<=V9/\k=((y...*:Int) !=0):=e;subst d;exact PySem.P.truthy_str ∅ {H,I.tok _,q}
 |byt y=>
  obtain⟨t,rfl⟩:=l;obtain⟨B,d⟩:y.size<=V9/\k=((y.size:Int) !=0):=e;subst d;exact W.truthy_bytes ∅ {H,I.tok _,q}
 |ref p=>
  cases l;let d:(∃j,SqL X.K H p j/\k= !j.isEmpty)\/(∃j,SqT X.K H p j/\k= !j.isEmpty)\/∃f,H p=Y (.dK f)/\k= !f.isEmpty:=e;rcases d with⟨j,n,d⟩|⟨j,n,d⟩|⟨f,n,d⟩
  ·subst d
   refine xC (I.list n) λw r u z=>?_;let g:=r...*;exact wpAny_truthy_list u.isList (by simp only[mY];lia) {H,I.tok _,by rw[zGe r];exact q}
  ·subst d
   refine xC (I.tuple n) λw r u z=>?_;let g:=r...*;exact truthy_tuple u (by simp only[mY];lia) {H,I.tok _,by rw[zGe r];exact q}
  ·subst d
   obtain⟨z,D,o,r,m⟩:f...*<=V9/\(p==A7)=false/\∃o,KV f o/\s.heap.DictOf (yZ X.prog X.w) p o:=I.hok p _ n;let g:f...*=o...*:=Paired.length r;exact wpAny_truthy_dict D m ∅ {H,I.tok _,by rw[zNz r];exact q}
 |_=>exact(show False from e).elim
theorem zLi(m:PE X a ta)(l:∀whole,isTrue a X.env whole=(do let v <-whole;S3 a.pos;holding [v] (truthy v))):
  PT X a (λσ H Q=>ta σ H λx e=>∃k,TruV X.K x e k/\Q k e):=by
 intro d s σ H Q I h;exact isTrue_plain (thn (m d s σ H _ I h) λv g ⟨x,j,i,n,f⟩=>yEy d g σ j x v Q i n f) (l _)
theorem jO:OpR X (binaryOp .Add) (λx y H Q=>∃i j,x= .str i/\y= .str j/\i...*+j...*<=V9/\Q (.str (i++j)) H):=by
 intro f s σ H x y v u Q I k m h;ext zR h i j e d g q;subst e d;obtain⟨t,rfl⟩:=k;obtain⟨l,rfl⟩:=m;exact add_str (λl n=>{.str (i++j),H,I.tok _,⟨_,O⟩,q}) g
theorem jH{x:V}{us:B7}(r:Vals [x] us):∃u,us= [u]/\RelV x u:=by
 cases r with|cons d e=>cases e;exact⟨_,O,d⟩
theorem zEr{x y:V}{us:B7}(r:Vals [x,y] us):∃u d,us= [u,d]/\RelV x u/\RelV y d:=by
 cases r with
 |cons e f=>
  cases f with|cons h g=>cases g;exact⟨_,_,O,e,h⟩
theorem zVr:wX X (.builtin "abs") (λxs H Q=>∃i,xs= [.int i]/\Q (.int (if i<0 then -i else i)) H):=by
 intro d s σ H xs f Q I r h;obtain⟨i,rfl,q⟩:=h;obtain⟨u,rfl,t,rfl⟩:=jH r;exact call_abs_int λu e=>{.int (if i<0 then -i else i),H,I.tok _,⟨_,O⟩,q}
theorem zEh(g:X.calm=true):wX X (.builtin "min") (λxs H Q=>∃i j,xs= [.int i, .int j]/\Q (.int (if j<i then j else i)) H):=by
 intro f s σ H xs p Q I r h;ext wS h i j e q;subst e;obtain⟨u,n,rfl,⟨t,rfl⟩,⟨o,rfl⟩⟩:=zEr r;refine min_two_ints (I.ok.hd g) λm l k=>{_,H,I.kept k, ?_,q}
 by_cases d:j<i
 ·rw[mP d,mP d];exact⟨_,O⟩
 ·rw[mI d,mI d];exact⟨_,O⟩
theorem zSe:wX X (.type "int") (λxs H Q=>(∃i,xs= [.int i]/\Q (.int i) H)\/∃k,xs= [.bl k]/\Q (.int (if k then 1 else 0)) H):=by
 intro d s σ H xs f Q I r h;rcases h with⟨i,rfl,q⟩|⟨k,rfl,q⟩
 ·obtain⟨u,rfl,t,rfl⟩:=jH r
  exact call_int_int {.int i,H,I,⟨_,O⟩,q}
 ·obtain⟨u,rfl,e⟩:=jH r
  cases e;exact call_int_bool {.int (if k then 1 else 0),H,I.tok _,⟨_,O⟩,q}
theorem zKp:wX X (.type "str") (λxs H Q=>∃i,xs= [.int i]/\i.natAbs.log2<1920/\Q (.str (toString i)) H):=by
 intro e s σ H xs g Q I r h;ext xC h i d f q;subst d;obtain⟨u,rfl,t,rfl⟩:=jH r;exact PySem.P.str_of_int f {.str _,H,I.tok _,⟨_,O⟩,q}
theorem zVx:wX X (.builtin "ord") (λxs H Q=>∃x,xs= [.str x]/\x...*=1/\Q (.int (x.cps.getD 0 0:Nat)) H):=by
 intro e s σ H xs g Q I r h;ext xC h x d f q;subst d;obtain⟨u,rfl,t,rfl⟩:=jH r;exact ord_of_one f {.int _,H,I.tok _,⟨_,O⟩,q}
end
structure ObjM(h:V5)(x dx C:V1)(mA:C8):Prop where
 obj:h.get? x=Y (W.instObj C dx)
 ns:h.Ns1 dx mA
 ne:dx≠x
theorem zIu{h:V5}{d:V1}{f:C8}(n:h.Ns1 d f):∃od,h.get? d=Y od/\∀name,W.lookIn name od=Y (f name):=by
 ext zU n o c r g p i;ext oAA i m _ j;refine⟨o,g,λname=>?_⟩;let e:=j name;unfold nsFind findBy at e;rw[<-Array.find?_toList] at e;unfold W.lookIn;rw[p];dsimp only;split
 ·rename_i y q
  rw[q] at e;exact congrArg some e
 ·rename_i q
  rw[q] at e;let a:c.toList.any (·.refKey)=false:=by
   rw[List.any_eq_false];intro y k;obtain⟨z,t,b⟩:=m y (Array.mem_toList_iff.mp k);simp[DictEntry.refKey,b]
  let l:¬c.toList.any (·.refKey)=true:=by rw[a];exact nD
  rw[mI l];exact congrArg some e
theorem ObjM.look{h:V5}{x a C:V1}{b:C8}(I:ObjM h x a C b):∃od,W.InstAt h x (W.instObj C a) C ↥od/\∀name,W.lookIn name od=Y (b name):=
 let ⟨od,ho,hl⟩:=zIu I.ns
 {od,⟨I.obj,O,O,ho⟩,hl}
section
variable{prog:V3}{w:V4}{A:Around}{E:C9}{s:V2}{K:A9}{x dx C f:V1}{mA:C8}{name:Str}{v:V0}
end
theorem j7{v:V}{o:Option V0}(r:RelO ↥v o):∃u,o=Y u/\RelV v u:=by
 cases o with|none=>exact(show False from r).elim|some u=>exact⟨u,O,r⟩
section
variable{P:V3}{w:V4}{H H':Hp}{h h':V5}{a C dx:V1}{fs fs':List (Str×V)}
theorem yCg(c:HOk P w H h)(e:H a=Y (.ins C dx fs)):∃b,ObjM h a dx C b/\(∀f,RelO (fs.lookup f) (b f))/\PySem.Within b (fs.map (·.1))/\fs...*<=1000/\H dx=Y (.own a):=by
 obtain⟨d,z,g,i,b,n,r,q⟩:=(show ObjOk P w H h a (.ins C dx fs) from c a _ e);exact{b,⟨i,n,g⟩,r,q,z,d}
end
structure Cls(K:A9)(C:V1):Prop where
 pg:W.plainGet K C Str.empty=true
 hd:W.hasDictIn K C=true
 po:W.plainOver K C=true
 sa:W.findIn K (.ref C) "__setattr__" =Y ↥(.builtin "object.__setattr__")
theorem Cls.get{K:A9}{C:V1}(c:Cls K C)(f:Str):W.plainGet K C f=true:=c.pg
structure Con(K:A9)(C:V1)(f:Str)(v:V)(u:V0):Prop where
 at_:W.findIn K (.ref C) f=Y ↥u
 rel:RelV v u
 get:W.specialIn K u "__get__" =Y none
 cp:W.copiedNames.contains f=false
structure Meth(K:A9)(C:V1)(m:Str)(f:V1):Prop where
 at_:W.findIn K (.ref C) m=Y ↥(.ref f)
 fn:W.isFn K (.ref f)=true
 kp:S0 K (.ref f)=true
section
variable{X:Cx}{pins:C7}{σ:St}{H:Hp}{s:V2}{a C dx:V1}{fs:List (Str×V)}{f:Str}{v:V}{A:Around}{E:C9}
theorem yCe{prog:V3}{w:V4}{b:P0}{e:Expr}{f:Str}{c:Pos}{s:V2}{Q:C9}(d:attributeBase e f b (eval e b)=eval e b)
  (h:V8 (S8 prog w) A (eval e b) (λo s₁=>V8 (S8 prog w) A (getAttr o f true) Q E s₁) E s):V8 (S8 prog w) A (eval (.Attribute e f c) b) Q E s:=
 Attribute_any_ h (by rw[arm_eval_Attribute,d])
end
section
variable{X:Cx}{o e value:Expr}{f:Str}{pos pos' tpos:Pos}{ta tv:TE}
end
section
variable{X:Cx}{pins:C7}{σ:St}{H:Hp}{s:V2}{A:Around}{E:C9}{Q:C9}{c:V0}{b:Bool}
inductive zDr (K:A9) (H:Hp):V->V0->Prop where
 |non:zDr K H .non (.type "NoneType")
 |bl (x:Bool):zDr K H (.bl x) (.type "bool")
 |int (i:Int):zDr K H (.int i) (.type "int")
 |str (x:Str):zDr K H (.str x) (.type "str")
 |flt (x:UInt64):zDr K H (.flt x) (.type "float")
 |lst {a:V1} {xs:B3} (e:H a=Y (.lst xs)):zDr K H (.ref a) (.type "list")
 |frz {a:V1} {o:Obj} {xs:B3} (e:H a=Y (.frz o (.lst xs))):zDr K H (.ref a) (.type "list")
 |tup {a:V1} {xs:B3} (e:H a=Y (.tup xs)):zDr K H (.ref a) (.type "tuple")
 |dK {a:V1} {kvs:D0} (e:H a=Y (.dK kvs)):zDr K H (.ref a) (.type "dict")
 |dT {a:V1} {kvs:List (List Key×V)} (e:H a=Y (.dT kvs)):zDr K H (.ref a) (.type "dict")
 |ins {a C dx:V1} {fs:List (Str×V)} (e:H a=Y (.ins C dx fs)) (cl:Cls K C) (ha:W.findIn K (.ref C) "__class__" =Y ↥(.builtin "object.__class__"))
   (hn:W.specialIn K (.builtin "object.__class__") "__get__" =Y ↥(.builtin "getset_descriptor.__get__")) (htk:W.takesIn K (.builtin "object.__class__")=Y true)
   (hm:W.mroIn K C (.type "object")=Y true):zDr K H (.ref a) (.ref C)
theorem zSo{x:V}{u t:V0}(I:Inv X pins σ H s)(f:RelV x u)(ty:zDr X.K H x t)(e:W.kitOne X.K t c=Y b)(h:∀tk,Q (.bool b) {s with toks:=tk}):
  V8 (S8 X.prog X.w) A (call (.builtin "isinstance") [u,c]) Q E s:=by
 cases ty with
 |non=>cases (show u=Value.none from f);exact tG W.kitx_none I.kIn mK e (λz=>nomatch z) h|bl y=>cases (show u=Value.bool y from f);exact tG W.kitx_bool I.kIn mK e (λz=>nomatch z) h|int i=>obtain⟨t,q⟩:=(show∃t,u=Value.int i t from f);cases q;exact tG W.kitx_int I.kIn mK e (λz=>nomatch z) h
 |str y=>obtain⟨t,q⟩:=(show∃t,u=Value.str y t from f);cases q;exact tG W.kitx_str I.kIn mK e (λz=>nomatch z) h
 |flt y=>obtain⟨t,q⟩:=(show∃t,u=Value.float y t from f);cases q;exact tG W.kitx_float I.kIn mK e (λz=>nomatch z) h
 |@lst a k d=>
  cases (show u=Value.ref a from f);obtain⟨_,_,n,_,g⟩:=(show ObjOk X.prog X.w H s.heap a (.lst k) from I.hok a _ d);exact tG dS I.kIn ⟨_,g,O⟩ e (λz=>nomatch z) h
 |@frz a w k d=>
  cases (show u=Value.ref a from f);obtain⟨_,_,_,n,_,g⟩:=(show ObjOk X.prog X.w H s.heap a (.frz w (.lst k)) from I.hok a _ d);exact tG dS I.kIn ⟨_,g,O⟩ e (λz=>nomatch z) h
 |@tup a k d=>
  cases (show u=Value.ref a from f);obtain⟨_,_,_,p⟩:=(show ObjOk X.prog X.w H s.heap a (.tup k) from I.hok a _ d);ext xC p o g l _;exact tG W.kitx_tuple I.kIn ⟨o,g,l⟩ e (λz=>nomatch z) h
 |@dK a j d=>
  cases (show u=Value.ref a from f);obtain⟨_,_,vs,_,p⟩:=(show ObjOk X.prog X.w H s.heap a (.dK j) from I.hok a _ d);ext zU p o v N g l _;exact tG cR I.kIn ⟨o,g,l.1⟩ e (λz=>nomatch z) h
 |@dT a j d=>
  cases (show u=Value.ref a from f);obtain⟨_,_,k,_,o,v,N,g,l,_⟩:=(show ObjOk X.prog X.w H s.heap a (.dT j) from I.hok a _ d);exact tG cR I.kIn ⟨o,g,l.1⟩ e (λz=>nomatch z) h
 |@ins a C dx fs d r M D m L=>
  cases (show u=Value.ref a from f);obtain⟨mA,B,_⟩:=yCg I.hok d;obtain⟨od,J,_⟩:=B.look;exact tG (W.kitx_own (r.get _) r.hd M D m L) I.kIn J e (λz=>nomatch z) h
end
structure Room(k:Nat)(A:Around):Prop where
 hd:A.handled=none
 dp:A.depth+3*k+5<recursionLimit
 un:A.units+16*k+200<cLine
theorem Room.mono{j k:Nat}{A:Around}(r:Room k A)(h:j<=k):Room j A:={r.hd,by let:=r.dp;lia,by let:=r.un;lia}
theorem Room.deeper{k:Nat}{A:Around}(r:Room (k+1) A)(a:P0):Room k (A.deeper a):=
 {r.hd,by let:=r.dp;show A.depth+1+3*k+5<_;lia,by let:=r.un;show A.units+3+16*k+200<_;lia}
theorem zHi{A:Around}{C:V1}{us:B7}{a:List (Str×V0)}:(A.under (.builtin "type.__call__" {.ref C::us,a})).depth=A.depth+1:=by
 first | rfl | simp[Around.under,Code.weight,Code.isCreation,Code.isGuard,Code.isCaller,Code.frames,Code.isFrame,guardIds]
theorem zHn{A:Around}{C:V1}{us:B7}{a:List (Str×V0)}:(A.under (.builtin "type.__call__" {.ref C::us,a})).units=A.units+1:=by
 first | rfl | simp[Around.under,Code.cUnits,Code.frames,Code.isFrame]
theorem Room.make{k:Nat}{A:Around}(r:Room (k+1) A)(C:V1)(us:B7)(a:List (Str×V0)):Room k (A.under (.builtin "type.__call__" {.ref C::us,a})):=
 {r.hd,by let:=r.dp;rw[zHi];lia,by let:=r.un;rw[zHn];lia}
theorem Room.depth{k:Nat}{A:Around}(r:Room k A):A.depth<recursionLimit:=by let:=r.dp;lia
theorem Room.units{k:Nat}{A:Around}(r:Room k A):A.units+64<cLine:=by let:=r.un;lia
theorem Room.units0{k:Nat}{A:Around}(r:Room k A):A.units<cLine:=by let:=r.un;lia
def zAh:TA:=λ_ H Q=>Q [] H
def vK(ta:TE)(d:TA):TA:=λσ H Q=>ta σ H λx c=>d σ c λb a=>Q (x::b) a
section
variable{X:Cx}{e:Expr}{es:C5}{te:TE}{t:TA}{pos:Pos}
theorem zB:PA X [] zAh:=λ_ _ _ _ H Q I h=>bN {[],H,I, .nil,h}
theorem zA(i:PE X e te)(k:PA X es t)(m:A5 (e::es) X.env=(false,eval e X.env)::A5 es X.env:=by rfl):PA X (e::es) (vK te t):=by
 intro pos a s σ H Q I h;rw[m];show V8 _ _ (spliced ((false,eval e X.env)::S5 pos (A5 es X.env))) _ _ s;refine bH (thn (i a s σ H _ I h) λu c z_=>?_);obtain⟨x,g,f,n,b⟩:=z_;exact thn (k pos a c σ g _ f b) λr q ⟨d,o,l,p,j⟩=>{x::d,o,l, .cons n p,j}
def zTe(t:TA):TE:=λσ H Q=>t σ H λa b=>a...*<=V9/\∀p,b p=none->Q (.ref p) (upd b p (.tup a))
def zZh(t:TA):TE:=λσ H Q=>t σ H λa b=>a...*<=V9/\∀p,b p=none->Q (.ref p) (upd b p (.lst a))
theorem xH{x1}(h:PA X es t):PE X (.Tuple es x1 pos) (zTe t):=by
 intro a s σ H Q I i;refine wpAny_Tuple_spliced (thn (h pos a s σ H _ I i) λj c ⟨g,f,d,r,z,q⟩=>{by rw[<-r...*];exact z, ?_});let k:f c⁻¹=none:=d.hok.fresh (mE _);refine{.ref c⁻¹,upd f c⁻¹ (.tup g),d.laid (t':=c.toks) (λb u e=>mL _ e) (mE _) ?_,O,q _ k};exact{z,j,r,{_,nM _ O,O,_,O}}
theorem zZ(h:PA X es t):PE X (.List es pos) (zZh t):=by
 intro a s σ H Q I i;refine wpAny_List_spliced (thn (h pos a s σ H _ I i) λj c ⟨g,f,d,r,z,q⟩=>{by rw[<-r...*];exact z, ?_});let k:f c⁻¹=none:=d.hok.fresh (mE _);refine{.ref c⁻¹,upd f c⁻¹ (.lst g),d.laid (t':=c.toks) (λb u e=>mL _ e) (mE _) ?_,O,q _ k};exact{z,j,0,r,nM _ O}
end
abbrev Sp:=List V->Hp->VK->XK->Prop
abbrev CXT:=List P0->Hp->V2->XK->V0->V2->Prop
structure Env0(P:V3)(w:V4)(K:A9)(mg:C8)(base:V5)(A:Around)(outer:List P0)(s:V2)(H:Hp):Prop where
 frames:A.frames=Y outer
 mod:Mod K mg base
 bs:∀b o,base.get? b=Y o->s.heap.get? b=Y o/\H b=none
 bsz:base.objs.size<=s⁻¹
 funs:s.heap.FunFrames base outer
 frf:∀b∈frs outer,H b=none
 hok:HOk P w H s.heap
 bare:AllBare s.gens
def CE(a:List P0)(P:V3)(w:V4)(H:Hp)(s:V2)(Q:VK)(u:V0)(s':V2):Prop:=
 ∃v b,s'.os=s.os/\AllBare s'.gens/\Un (frs a) [] H b s.heap s'.heap/\HOk P w b s'.heap/\RelV v u/\Q v b
def CR(CX:CXT)(a:List P0)(P:V3)(w:V4)(H:Hp)(s:V2)(Q:VK)(E:XK)(r:Result)(s':V2):Prop:=
 match r with|.ok (.ret u)=>CE a P w H s Q u s'|.ok _=>False|.error e=>CX a H s E e s'
structure FnOk(P:V3)(w:V4)(K:A9)(mg:C8)(base:V5)(CX:CXT)(k:Nat)(f:V1)(fd:V7)(ps:C1)(sp:Sp):Prop where
 len:∀vs H Q E,sp vs H Q E->vs...*=ps...*
 run:∀(A:Around)(outer:List P0)(s:V2)(H:Hp)(args:Args)(us:B7)(vs:B3)(Q:VK)(E:XK),Room k A->Env0 P w K mg base A outer s H->BindsTo s fd args (ps.zip us)->Vals vs us->sp vs H Q E->
  codeAny (S8 P w) A (.call (.ref f) args) (CR CX outer P w H s Q E) s
theorem FnOk.mono{P:V3}{w:V4}{K:A9}{d:C8}{base:V5}{CX:CXT}{j k:Nat}{f:V1}{c:V7}{ps:C1}{sp:Sp}(F:FnOk P w K d base CX j f c ps sp)(h:j<=k):
  FnOk P w K d base CX k f c ps sp:={F.len,λA a s H b i g Q E e=>F.run A a s H b i g Q E (e.mono h)}
theorem FnOk.imp{P:V3}{w:V4}{K:A9}{g:C8}{base:V5}{CX:CXT}{k:Nat}{f:V1}{e:V7}{ps:C1}{sp c:Sp}(F:FnOk P w K g base CX k f e ps sp)
  (h:∀b H Q E,c b H Q E->sp b H Q E):FnOk P w K g base CX k f e ps c:=
 {λb H Q E q=>F.len b H Q E (h _ _ _ _ q),λA a s H d o b Q E l j n i m=>F.run A a s H d o b Q E l j n i (h _ _ _ _ m)}
theorem Env0.make{P:V3}{w:V4}{K:A9}{b:C8}{base:V5}{A:Around}{a:List P0}{s:V2}{H:Hp}(e:Env0 P w K b base A a s H)(C:V1)(us:B7)(c:List (Str×V0)):
  Env0 P w K b base (A.under (.builtin "type.__call__" {.ref C::us,c})) a s H:={by first | exact e.frames |(simpa [Around.under,Code.envs,Code.isFrame,pushEnvs] using e.frames),e.mod,e.bs,e.bsz,e.funs,e.frf,e.hok,e.bare}
section
variable{X:Cx}{pins:C7}{σ:St}{H:Hp}{s s':V2}
theorem Inv.env0(I:Inv X pins σ H s):Env0 X.prog X.w X.K X.mg X.base X.A X.stack s H:=
 {I.ok.frames,I.ok.mod,I.bs,nW I.ok.bsz I.sz,I.stack,I.stkFree,I.hok,I.bare}
theorem Inv.after{Q:VK}{u:V0}(I:Inv X pins σ H s)(h:CE X.stack X.prog X.w H s Q u s'):EP X pins σ Q u s':=by
 ext zR h v f os a i j;ext oAA j e r q;obtain⟨k,g,d,t,c⟩:=s';obtain rfl:c=s.os:=os;exact{v,f,I.call (h':=k) (g':=g) (d':=d) (t':=t) (ch:=[]) i e a (λb z=>absurd z (by simp)),r,q}
end
def gY(sp:Sp)(a:B3)(E:XK)(t:TA):TE:=λσ H Q=>t σ H λb c=>sp (b++a) c Q E
def Binds(K:A9)(b:V7)(ps:C1)(ds:B7):Prop:=
 ∀(s:V2)(a:B7),K.In s.heap->(a++ds)...*=ps...*->BindsTo s b {a,[]} (ps.zip (a++ds))
theorem Binds.all{K:A9}{c:V7}{ps:C1}(h:∀a:List V0,a...*=ps...*->bindArgs c {a,[]}=pure (ps.zip a)):Binds K c ps []:=λs a _ b=>by
 rw[pJ] at b⊢;exact .of_eq (h a b)
def zAd(CX:CXT)(X:Cx)(E:XK):Prop:=∀(a:C7)(σ:St)(H:Hp)(s:V2)(e:V0)(b:V2),Inv X a σ H s->CX X.stack H s E e b->X.xe e b
section
variable{X:Cx}{CX:CXT}{k:Nat}{f C:V1}{fd:V7}{ps:C1}{sp:Sp}{dvs:B3}{ds:B7}{E:XK}{x m:Str}{p pos apos:Pos}{e o:Expr}{es:C5}{ta:TE}{t:TA}
theorem zXk{a:C7}{σ:St}{H:Hp}{s:V2}{Q:VK}{us:B7}{vs:B3}(F:FnOk X.prog X.w X.K X.mg X.base CX k f fd ps sp)(i:Room k X.A)(j:Binds X.K fd ps ds)(q:Vals dvs ds)(n:zAd CX X E)
  (I:Inv X a σ H s) (r:Vals vs us) (h:sp (vs++dvs) H Q E):V8 (S8 X.prog X.w) X.A (call (.ref f) us) (EP X a σ Q) X.xe s:=by
 let c:Vals (vs++dvs) (us++ds):=r.append q;let d:(us++ds)...*=ps...*:=by rw[<-c...*];exact F.len _ _ _ _ h
 refine aB (rT (F.run X.A X.stack s H {us,[]} (us++ds) (vs++dvs) Q E i I.env0 (j s us I.kIn d) c h) λr l b=>?_)
 cases r with
 |error e=>exact n a σ H s e l I b|ok g=>
  cases g with|ret u=>exact I.after b|next=>exact False.elim b|brk=>exact False.elim b|cont=>exact False.elim b
theorem zKa(F:FnOk X.prog X.w X.K X.mg X.base CX k f fd ps sp)(u:Room k X.A)(v:Gl X x)(l:X.mg x=Y (.ref f))(y:S0 X.K (.ref f)=true)(w:Binds X.K fd ps ds)(i:Vals dvs ds)(g:zAd CX X E)
  (n:PA X (e::es) t) (b:(x==("__debug__" :Str))=false:=by decide) (j:A5 (e::es) X.env=(false,eval e X.env)::A5 es X.env:=by rfl) (c:(S5 pos (A5 es X.env)).any (·.1)=false:=by rfl):
  PE X (.Call (.Name x p) (e::es) [] pos) (gY sp dvs E t):=by
 intro a s σ H Q I h;refine rA (qS I v l ?_ b);refine W.callWith_K (h₀:=X.base) I.ok.mod.kin y (thn (n pos a s σ H _ I h) λD z ⟨A,B,d,r,q⟩=>{d.kIn, ?_}) j c;exact zXk F u w i g d r q
theorem zXi(F:FnOk X.prog X.w X.K X.mg X.base CX k f fd ps sp)(d:Room k X.A)(g:Gl X x)(c:X.mg x=Y (.ref f))(j:S0 X.K (.ref f)=true)(i:Binds X.K fd ps ds)(l:Vals dvs ds)(n:zAd CX X E)
  (a:(x==("__debug__" :Str))=false:=by decide):PE X (.Call (.Name x p) [] [] pos) (gY sp dvs E zAh):=by
 intro b s σ H Q I h;refine rA (qS I g c ?_ a);exact W.callWith_K0 I.kIn j (zXk (us:=[]) F d i l n I .nil h)
structure Mk(K:A9)(C f:V1):Prop where
 makes:W.makesIn K C=true
 init:W.findIn K (.ref C) "__init__" =Y ↥(.ref f)
 fn:W.isFn K (.ref f)=true
 kp:S0 K (.ref C)=true
end
section
variable{X:Cx}{CX:CXT}{k:Nat}{f C:V1}{fd:V7}{ps ks:C1}{sp:Sp}{E:XK}{x m:Str}{p pos apos kpos:Pos}{e o:Expr}{es:C5}{kws:List Keyword}{te ta:TE}{t tk:TA}{nm:Option Str}
structure KBinds(K:A9)(fd:V7)(ps ks:C1)(g:List V0->List V0->List V0)(gV:List V->List V->List V):Prop where
 to:∀(s:V2)(us ws:B7),K.In s.heap->(g us ws)...*=ps...*->BindsTo s fd {us,ks.zip ws} (ps.zip (g us ws))
 rel:∀{vs:B3}{us:B7}{zs:B3}{ws:B7},Vals vs us->Vals zs ws->Vals (gV vs zs) (g us ws)
variable{g:List V0->List V0->List V0}{gV:List V->List V->List V}
end
structure wF(N P:C1)(sc:Scope):Prop where
 kind:sc.kind= .function
 co:sc.isCoroutine=false
 gen:sc.isGenerator=false
 nd:N.Nodup
 pre:N.take P...*=P
 par:∀x∈P,sc.names.lookup x=some .local\/sc.names.lookup x=some .cell
 nofree:∀y∈sc.names,y.2≠ .free
theorem zIp{kindOf:Str->Option NameKind}{x:Str}:∀{a:List (Str×V0)}{m:C8},(∀v,(x,v)∉a)->bindL kindOf a m x=m x
 |[],_,_=>rfl|(n,v)::r,m,h=>by
  unfold bindL;rw[zIp λw b=>h w (mG _ b)];split
  ·let:x≠n:=by rintro rfl;exact h v mD
   simp[this]
  ·rfl
theorem zIy{kindOf:Str->Option NameKind}{x:Str}:∀{a:List (Str×V0)}{m:C8},(∀v,(x,v)∉a)->bindC kindOf a m x=m x
 |[],_,_=>rfl|(n,v)::r,m,h=>by
  unfold bindC;rw[zIy λw b=>h w (mG _ b)];split
  ·rfl
  ·let:x≠n:=by rintro rfl;exact h v mD
   simp[this]
theorem zHz{kindOf:Str->Option NameKind}{x:Str}{v:V0}:∀{P:C1}{vs:B7}{i:Nat}{m:C8},P.Nodup->P[i]? =Y x->vs[i]? =Y v->kindOf x=some .local->
  bindL kindOf (P.zip vs) m x=Y v
 |[],_,_,_,_,h,_,_=>by simp at h|_::_,[],_,_,_,_,h,_=>by simp at h|p::P,w::vs,0,m,c,a,b,d=>by
  simp at a b;subst a;subst b;show bindL kindOf ((p,w)::P.zip vs) m p=_;unfold bindL;rw[zIp λv e=>(nX.mp c).1 (cE e).1,mP d];simp
 |p::P,w::vs,i+1,m,c,a,b,d=>by
  show bindL kindOf ((p,w)::P.zip vs) m x=_;unfold bindL;exact zHz (i:=i) (nX.mp c).2 (by simpa using a) (by simpa using b) d
theorem zIq{kindOf:Str->Option NameKind}{x:Str}{v:V0}:∀{P:C1}{vs:B7}{i:Nat}{m:C8},P.Nodup->P[i]? =Y x->vs[i]? =Y v->kindOf x≠some .local->
  bindC kindOf (P.zip vs) m x=Y v
 |[],_,_,_,_,h,_,_=>by simp at h|_::_,[],_,_,_,_,h,_=>by simp at h|p::P,w::vs,0,m,c,a,b,d=>by
  simp at a b;subst a;subst b;show bindC kindOf ((p,w)::P.zip vs) m p=_;unfold bindC;rw[zIy λv e=>(nX.mp c).1 (cE e).1,mI d];simp
 |p::P,w::vs,i+1,m,c,a,b,d=>by
  show bindC kindOf ((p,w)::P.zip vs) m x=_;unfold bindC;exact zIq (i:=i) (nX.mp c).2 (by simpa using a) (by simpa using b) d
def jX(N:C1)(vs:B3):St:=vs.map some++List.replicate (N...* - vs...*) none
def zCl(CX:CXT)(P:V3)(w:V4)(K:A9)(h:C8)(base:V5)(N:C1)(c:Str)(a:Scope)(f:V1)(g:V0)(A:Around)(b:List P0)(s:V2)(H:Hp)(E:XK):Cx where
 prog:=P
 w:=w
 K:=K
 mg:=h
 base:=base
 A:=A.deeper (envOfC c a s⁻¹ f g)
 N:=N
 s₀:=s
 H₀:=H
 env:=envOfC c a s⁻¹ f g
 outer:=b
 stack:=envOfC c a s⁻¹ f g::b
 ex:=[]
 calm:=true
 fn:=λ_=>true
 pn:=[]
 xe:=λe j=>V8 (S8 P w) (A.deeper (envOfC c a s⁻¹ f g)) (leaving (envOfC c a s⁻¹ f g) e) (λ_ d=>CX b H s E e d) (λi d=>CX b H s E i d) j
theorem zMh{a:Scope}{n:Nat}{x:Str}(h:a.names.lookup x=some .cell):∃c,(cellsFrom n a.names []).lookup x=Y c:=by
 let q:=W.cellsFrom_some a.names n [] (.inl h);exact Option.isSome_iff_exists.mp q
theorem zIn{CX:CXT}{P:V3}{w:V4}{K:A9}{L:C8}{base:V5}{N ps:C1}{j:Str}{d:Scope}{f:V1}{J:V0}{A:Around}{g:List P0}{s s1:V2}{H:Hp}{E:XK}{us:B7}{vs:B3}
  (S:wF N ps d) (hd:A.handled=none) (m:Env0 P w K L base A g s H) (hl:vs...*=ps...*) (r:Vals vs us)
  (x:InCallC s s⁻¹ (bindL (envOfC j d s⁻¹ f J).kindOf (ps.zip us) λ_=>none) (cellsFrom (s⁻¹+1) d.names []) (bindC (envOfC j d s⁻¹ f J).kindOf (ps.zip us) λ_=>none) s1):
  Inv (zCl CX P w K L base N j d f J A g s H E) [] (jX N vs) H s1:=by
 let aa:ps...*<=N...*:=by let:=congrArg List.length S.pre;rw[nZ] at this;lia
 refine wS (x.done) λI tk M hk=>?_;subst M;let o:∀b:V1,b∉(zCl CX P w K L base N j d f J A g s H E).ex:=λb z=>absurd (show b∈([]:B9) from z) (by simp);refine{{m.mod,S.kind,O,O,mE _,λy z c I l=>?_,λy hy=>?_,λy c _ h=>?_,λ_=>hd,Around.frames_deeper m.frames, .inr ⟨O,O⟩,λb z=>absurd z (o b),m.bs,m.bsz,λb _ _=>o b,λb z=>absurd z (o b),m.funs,m.frf},
  rfl,m.bare,Un.kept hk,{_,x.toInCall.ns,λi y v I l h3=>?_},λy c h=>{_,x.cell y c h},m.hok.fresh (mE _),λy c h=>?_,λp t=>absurd (show p∈([]:C7) from t) (by simp),m.hok.kept hk, ?_}
 ·exact name_of_addr x.apart (rW I) (rW l)
 ·let hy:d.names.lookup y=some .cell\/d.names.lookup y=some .free:=hy
  rcases hy with hy | hy
  ·exact zMh hy
  ·exact absurd O (S.nofree _ (rW hy))
 ·exact tS (x.above y c (rW h))
 ·let D:i<vs...*:=by
   unfold jX at l
   by_cases D:i<vs...*
   ·exact D
   ·rw[nS (by simpa using D)] at l
    rw[tW] at l;split at l<;>cases l
  let ha:vs[i]? =Y v:=by
   unfold jX at l;rw[pB (by simpa using D),nH] at l
   cases e:vs[i]? with|none=>rw[e] at l;cases l|some a=>rw[e] at l;cases l;rfl
  obtain⟨u,Q,rv⟩:=r.get ha;let t:ps[i]? =Y y:=by
   rw[<-S.pre,List.getElem?_take_of_lt ∅];exact I
  let B:ps.Nodup:=by rw[<-S.pre];exact S.nd.sublist (List.take_sublist _ _)
  refine{u,rv, ?_};rcases S.par y (mO t) with k | k
  ·exact .inl {k,zHz B t Q k}
  ·obtain⟨c,e⟩:=zMh (n:=s⁻¹+1) k
   refine .inr {.inl k,c,e, ?_};let q:=x.cell y c e;rw[zIq B t Q (by show d.names.lookup y≠_;rw[k];decide)] at q;exact q
 ·exact m.hok.fresh (tS (x.above y c (rW h)))
 ·unfold jX
  show _=N...*;rw[mM,mN,rJ]
  lia
theorem zQf{CX:CXT}{P:V3}{w:V4}{K:A9}{mg:C8}{base:V5}{k:Nat}{f:V1}{name d:Str}{h:Arguments}{i:List V6}{a:Scope}{dV kV D pm g ct oc:V0}{an od:Option V1}
  {ab:Array (Option V0)} {N ps:C1} {sp:Sp} (lk:K.lookup f=Y {oc,od, .func (W.fnOf name d h i a dV kV D pm an g ct),ab}) (aa:S2 K g d=true) (S:wF N ps a)
  (len:∀j H Q E,sp j H Q E->j...*=ps...*)
  (m:∀(A:Around)(c:List P0)(s:V2)(H:Hp)(j:B3)(Q:VK)(E:XK),Room k (A.deeper (envOfC d a s⁻¹ f g))->sp j H Q E->
   ∃t,PSs (zCl CX P w K mg base N d a f g A c s H E) i t/\t {nx:=λ_ l=>Q .non l,rt:=Q} (jX N j) H):
  FnOk P w K mg base CX (k+1) f (W.fnOf name d h i a dV kV D pm an g ct) ps sp:=by
 refine{len,λA c s H ae us j Q E hr B hb r L=>?_};let hl:=len _ _ _ _ L;let KX:K.In s.heap:=B.mod.kin.keeps λb o e=>(B.bs b o e).1;let ac:s.heap.NoLimit:=B.mod.nolimit.keeps λb o e=>(B.bs b o e).1;let p:∀y∈ps.zip us,a.names.lookup y.1=some .local\/(a.names.lookup y.1=some .cell/\((cellsFrom (s⁻¹+1) a.names []).lookup y.1).isSome=true):=fun⟨n,v⟩ hy=>by
  rcases S.par n (cE hy).1 with q | q
  ·exact .inl q
  ·exact .inr {q,W.cellsFrom_some _ _ _ (.inl q)}
 refine codeAny_call_function hr.depth (KX _ _ lk) O S.co S.gen O (W.codeRec_of KX aa) (hb _ _ _ _ ?_);refine wpAny_newFunctionEnv_cells S.kind p λaf he s1 x=>?_;subst he;refine{ac.keeps x.toInCall.keep,codeAny_func ?_};obtain⟨t,ht,hq⟩:=m A c s H j Q E (hr.deeper _) L;let I:Inv (zCl CX P w K mg base N d a f g A c s H E) [] (jX N j) H s1:=zIn S hr.hd B hl r x;refine pC (ht [] s1 (jX N j) H _ I hq) (λfl s' z=>?_) λe s' z=>z;let M:∀{σ':St}{l:Hp}{v:V}{u:V0},Inv (zCl CX P w K mg base N d a f g A c s H E) [] σ' l s'->RelV v u->Q v l->CE c P w H s Q u s':=
  λ{σ' l v u} J rv q=>⟨v,l,J.os,J.bare,J.base,J.hok,rv,q⟩
 cases fl with
 |ret u=>
  ext zU z v σ' l J rv q;exact M J rv q
 |next=>
  ext wS z σ' l J q;exact M (v:=V.non) (u:=Value.none) J O q
 |brk=>
  ext wS z _ _ _ q;exact False.elim q
 |cont=>
  ext wS z _ _ _ q;exact False.elim q
section
variable{X:Cx}{x:Str}{p pos:Pos}{e:Expr}{es:C5}{t:TA}{id T:String}{r:List V->Hp->VK->Prop}
def tCB(r:List V->Hp->VK->Prop)(t:TA):TE:=λσ H Q=>t σ H λa b=>r a b Q
theorem zN(q:wX X (.builtin id) r)(u:Gl X x)(n:X.mg x=none)(d:A4 x=Y (.builtin id))(o:PA X (e::es) t)(l:x≠ "__name__":=by decide)(b:(x==("__debug__" :Str))=false:=by decide)
  (m:A5 (e::es) X.env=(false,eval e X.env)::A5 es X.env:=by rfl) (c:(S5 pos (A5 es X.env)).any (·.1)=false:=by rfl):PE X (.Call (.Name x p) (e::es) [] pos) (tCB r t):=by
 intro a s σ H Q I h;refine rA (zAb I u n d ?_ l b);exact cF (thn (o pos a s σ H _ I h) λw g ⟨i,k,j,v,f⟩=>q a g σ k i w Q j v f) m c
theorem yJ(q:wX X (.type T) r)(u:Gl X x)(n:X.mg x=none)(d:A4 x=Y (.type T))(o:PA X (e::es) t)(l:x≠ "__name__":=by decide)(b:(x==("__debug__" :Str))=false:=by decide)
  (m:A5 (e::es) X.env=(false,eval e X.env)::A5 es X.env:=by rfl) (c:(S5 pos (A5 es X.env)).any (·.1)=false:=by rfl):PE X (.Call (.Name x p) (e::es) [] pos) (tCB r t):=by
 intro a s σ H Q I h;refine rA (zAb I u n d ?_ l b);exact rP (thn (o pos a s σ H _ I h) λw g ⟨i,k,j,v,f⟩=>q a g σ k i w Q j v f) m c
end
end L2
namespace HT
open PySem PyProof.Rows
section
open PySem.SeqAt
open PySem.AutoSeq1 (wpAny_loadPart')
open PySem.MeetsSeq PySem.MeetsSeq2 PySem.MeetsSeq3
end
section
variable{prog:V3}{w:V4}{A:Around}{E:C9}{s:V2}
theorem cat_tup{t b:V1}{vs a:B7}{Q:C9}(B:IsTup s.heap t vs.toArray)(y:IsTup s.heap b a.toArray)(k:vs≠ [])
  (x:a= []->Q (.ref t) s) (z:a≠ []->Q (.ref s⁻¹) {s with heap:=s.heap.push {cls:=.type "tuple",data:=.seq (vs++a).toArray}})
  (hsz:vs...*+a...*<=V9):V8 (S8 prog w) A (binaryOp .Add (.ref t) (.ref b)) Q E s:=by
 obtain⟨⟨v,p,q,o⟩,j,r,n,u⟩:=id B;obtain⟨⟨l,g,data2,d⟩,c,h,m,f⟩:=id y;simp only at r u h f;subst r u h f;let e:vs.toArray++a.toArray=(vs++a).toArray:=by simp
 by_cases i:a= []
 ·exact concat_meets ⟨_,j,O⟩ ⟨_,c,O⟩ noFill_tuple_add seq_tuple_add PySem.F.slot_tuple_add PySem.F.entry_tuple_add (PySem.F.args_tuple_add_2 _ _)
   (tuple_addW1 t b vs.toArray a.toArray n m p g o d (by simpa using k) (by simp[i])) {j,c,x i}
 ·refine concat_meets ⟨_,j,O⟩ ⟨_,c,O⟩ noFill_tuple_add seq_tuple_add PySem.F.slot_tuple_add PySem.F.entry_tuple_add (PySem.F.args_tuple_add_2 _ _)
   (tuple_addW2 t b vs.toArray a.toArray n m p g o d (by simpa using k) (by simpa using i) (by rw[List.size_toArray,List.size_toArray];exact hsz)) {j,c, ?_}
  rw[e];exact z i
def sIx(n d:Nat):Option Int->Nat
 |none=>d|some v=>if v<0 then(v+(n:Int)).toNat else min v.toNat n
theorem sIx_none(n d:Nat):sIx n d none=d:=rfl
theorem sIx_nat(n d k:Nat):sIx n d ↥(k:Int)=min k n:=by
 show(if(k:Int)<0 then((k:Int)+(n:Int)).toNat else min (k:Int).toNat n)=min k n;rw[if_neg ∅,Int.toNat_natCast]
theorem yHq(n d:Nat)(b:d<=n)(o:Option Int):sIx n d o<=n:=by
 cases o with
 |none=>exact b|some v=>
  show(if v<0 then(v+(n:Int)).toNat else min v.toNat n)<=n
  by_cases a:v<0
  ·rw[if_pos a];lia
  ·rw[if_neg a];exact Nat.min_le_right _ _
theorem zQw(v:Int)(n d:Nat):(if v<0 then max (v+(n:Int)) 0 else min v (n:Int))=((sIx n d ↥v:Nat):Int):=by
 show(if v<0 then max (v+(n:Int)) 0 else min v (n:Int))=(((if v<0 then(v+(n:Int)).toNat else min v.toNat n):Nat):Int)
 by_cases a:v<0
 ·simp only[if_pos a];lia
 ·simp only[if_neg a];lia
theorem zOk(lo a:Option Int)(n:Nat):Builtin.Slice.sliceAdjust lo a 1 (n:Int)=(((sIx n 0 lo:Nat):Int),((sIx n n a:Nat):Int)):=by
 let b:¬((1:Int)<0):=by lia
 unfold Builtin.Slice.sliceAdjust;simp only[b,if_false];refine Prod.ext ?_ ?_
 ·cases lo with|none=>rfl|some v=>exact zQw v n 0
 ·cases a with|none=>rfl|some v=>exact zQw v n n
theorem zOb(i j:Nat):Builtin.Slice.slicePlaces (i:Int) (j:Int) 1=j - i:=by
 unfold Builtin.Slice.slicePlaces;let a:(1:Int)>0:=by lia
 simp only[a,if_true,Int.ediv_one];split<;>lia
theorem zFp{v:V0}{o:Option Int}{Q:Option Int->V2->Prop}(p:IsPart v o)(h:Q o s):V8 (S8 prog w) A (Builtin.Slice.slicePartIndex v) Q E s:=by
 cases p with|none=>exact slicePart_none h|int i t=>exact slicePart_int h
theorem gT{f:V1}{e d:V0}{lo a:Option Int}{n:Nat}{Q:Int×Int×Nat->V2->Prop}(i:s.heap.IsSliceOf f e d .none)(pl:IsPart e lo)(g:IsPart d a)
  (h:Q (((sIx n 0 lo:Nat):Int),1,sIx n n a - sIx n 0 lo) s):V8 (S8 prog w) A (Builtin.Slice.sliceApplied (.ref f) (pure (n:Int))) Q E s:=by
 refine xC (id i) λos b j c=>?_;unfold Builtin.Slice.sliceApplied Builtin.Slice.sliceFields;refine wpAny_bind (wpAny_bind (wpAny_field b c (x:=e) O (wpAny_bind (wpAny_field b c (x:=d) O (wpAny_bind (wpAny_field b c (x:=.none) O (wpAny_pure ?_)))))));refine wpAny_bind (slicePart_none ?_);show V8 _ _ (if((1:Int)==0)=true then _ else _) _ _ s;rw[if_neg ∎];refine wpAny_bind (zFp pl (wpAny_bind (zFp g (wpAny_bind (wpAny_pure ?_)))));show V8 _ _ (match Builtin.Slice.sliceAdjust lo a 1 (n:Int) with |(lo,a)=>pure (lo,(1:Int),Builtin.Slice.slicePlaces lo a 1)) _ _ s
 rw[zOk lo a n];show V8 _ _ (pure (((sIx n 0 lo:Nat):Int),(1:Int),Builtin.Slice.slicePlaces ((sIx n 0 lo:Nat):Int) ((sIx n n a:Nat):Int) 1)) _ _ s;rw[zOb];exact wpAny_pure h
theorem zUr(xs:Array V0)(i k:Nat):((List.range k).filterMap fun(m:Nat)=>xs[((i:Int)+(m:Int)*1).toNat]?).toArray=((xs.toList.drop i).take k).toArray:=by
 let e:(fun(m:Nat)=>xs[((i:Int)+(m:Int)*1).toNat]?)=λm=>xs[i+m]?:=by
  funext m
  let:((i:Int)+(m:Int)*1).toNat=i+m:=by lia
  rw[this]
 rw[e];let:=pick_run xs i k;rw[List.filterMap_map] at this;let a:((λx=>xs[x]?)∘λx=>i+x)=λm=>xs[i+m]?:=rfl;rw[a] at this;rw[this]
theorem getItem_tuple_cut{t g:V1}{items:Array V0}{k j:V0}{lo b:Option Int}{Q:C9}(c:IsTup s.heap t items)(l:s.heap.IsSliceOf g k j .none)(pl:IsPart k lo)(o:IsPart j b)
  (n:¬(sIx items.size 0 lo=0/\sIx items.size items.size b=items.size))
  (h:Q (.ref s⁻¹) {s with heap:=s.heap.push {cls:=.type "tuple",data:=.seq ((items.toList.drop (sIx items.size 0 lo)).take (sIx items.size items.size b - sIx items.size 0 lo)).toArray}})
  (hsz:items.size<=V9):V8 (S8 prog w) A (getItem (.ref t) (.ref g)) Q E s:=by
 let a:sizeOk (.seq ((items.toList.drop (sIx items.size 0 lo)).take (sIx items.size items.size b - sIx items.size 0 lo)).toArray):=by
  show((items.toList.drop (sIx items.size 0 lo)).take (sIx items.size items.size b - sIx items.size 0 lo)).toArray.size<=V9;rw[List.size_toArray,List.length_take,List.length_drop,Array.length_toList]
  lia
 let v:sIx items.size items.size b<=items.size:=yHq _ _ (Nat.le_refl _) b;refine xC (id l) λos e i p=>?_;let f:s.TypeIs (.ref g) "slice":=⟨os,e,i⟩;unfold getItem
 try with_reducible refine wpAny_holding ?_
 first | refine wpAny_bind (wpAny_pure ?_)| skip
 refine wpAny_bind (wpAny_sequenceKey c.typeIs ∎ ?_);refine wpAny_bind (wpAny_callSpecial?_slot (name:=A8 "__getitem__") c.typeIs PyProof.Rows.slot_tuple_getitem
  (wpAny_call_entry PyProof.Rows.slot_tuple_getitem c.typeIs entry_tuple_getitem ?_ (args_tuple_getitem _ _)))
 show V8 _ _ (Builtin.Tuple.tupleItemsOf (.ref t)>>=_) _ _ s;refine wpAny_bind (tupleItemsOf_ c ?_);refine wpAny_bind (wpAny_typeOf f ?_);rw[if_pos ∎];refine wpAny_bind (gT l pl o ?_);let d:¬((((sIx items.size 0 lo:Nat):Int)==0 && (1:Int)==1 && (sIx items.size items.size b - sIx items.size 0 lo)==items.size)=true):=by
  intro q;rw[Bool.and_eq_true,Bool.and_eq_true] at q;let r:((sIx items.size 0 lo:Nat):Int)=0:=eq_of_beq q.1.1;let u:sIx items.size items.size b - sIx items.size 0 lo=items.size:=eq_of_beq q.2;exact n {∅,∅}
 show V8 _ _ (if(((sIx items.size 0 lo:Nat):Int)==0 && (1:Int)==1 && (sIx items.size items.size b - sIx items.size 0 lo)==items.size)=true then _ else _) _ _ s;rw[if_neg d,zUr]
 first
  |exact wpAny_bind (m:=Builtin.Tuple.tupleExact _) (wpAny_newObj_type (wpAny_pure {_,O,wpAny_pure h}) a)
  |exact wpAny_bind (m:=Builtin.Tuple.tupleExact _) (wpAny_newObj_type (wpAny_bind (wpAny_pure (wpAny_pure {_,O,wpAny_pure h}))) a)
  |exact wpAny_bind (wpAny_bind (m:=Builtin.Tuple.tupleExact _) (wpAny_newObj_type (wpAny_pure (wpAny_pure {_,O,wpAny_pure h})) a))
  |exact wpAny_bind (wpAny_bind (m:=Builtin.Tuple.tupleExact _) (wpAny_newObj_type (wpAny_pure {_,O,wpAny_pure h}) a))
end
end HT
namespace L2
open PySem PySem.Spec PyProof.Rows
abbrev TO:=St->Hp->(Option Int->Hp->Prop)->Prop
def PO(X:Cx)(e:Option Expr)(t:TO):Prop:=
 ∀(a:C7)(s:V2)(σ:St)(H:Hp)(Q:Option Int->Hp->Prop),Inv X a σ H s->t σ H Q->
  V8 (S8 X.prog X.w) X.A (evalPart e X.env) (λu c=>∃o b,Inv X a σ b c/\IsPart u o/\Q o b) X.xe s
def zKh:TO:=λ_ H Q=>Q none H
def zZn(t:TE):TO:=λσ H Q=>t σ H λx a=>∃i,x= .int i/\Q ↥i a
theorem zOf{a:List Int}:∀{us:B7},Vals (a.map V.int) us->IntsAre us a:=by
 induction a with
 |nil=>intro us r;rw[sP] at r;cases r;exact .nil|cons n a c=>
  intro us r;rw[nG] at r
  cases r with
  |cons b d=>
   obtain⟨t,e⟩:=b;subst e;exact .cons n t (c d)
section
variable{X:Cx}{e:Expr}{te:TE}{lo hi:Option Expr}{tl th:TO}{pos p2:Pos}
theorem gO:PO X none zKh:=by
 intro a s σ H Q I h;rw[evalPart_none];exact mT {none,H,I, .none,h}
theorem gP(h:PE X e te):PO X ↥e (zZn te):=by
 intro a s σ H Q I c;rw[evalPart_some];refine thn (h a s σ H _ I c) λu j z_=>?_;obtain⟨x,f,d,g,b⟩:=z_;obtain⟨i,rfl,q⟩:=b;obtain⟨t,rfl⟩:=g;exact{Y i,f,d, .int i t,q}
def SlR(X:Cx)(r:V->Option Int->Option Int->Hp->VK->Prop):Prop:=
 ∀(a:C7)(s:V2)(σ:St)(H:Hp)(x:V)(v b c:V0)(lo hi:Option Int)(d:V1)(Q:VK),Inv X a σ H s->RelV x v->s.heap.IsSliceOf d b c .none->IsPart b lo->IsPart c hi->r x lo hi H Q->
  ∃T id,typeLookup (.type T) "__getitem__" =pure ↥(.builtin id)/\s.TypeIs v T/\V8 (S8 X.prog X.w) X.A (getItem v (.ref d)) (EP X a σ Q) X.xe s
def tSl(r:V->Option Int->Option Int->Hp->VK->Prop)(te:TE)(tl th:TO):TE:=λσ H Q=>te σ H λx c=>tl σ c λl b=>th σ b λu a=>r x l u a Q
theorem kA{r:V->Option Int->Option Int->Hp->VK->Prop}(J:SlR X r)(B:PE X e te)(D:PO X lo tl)(i:PO X hi th):PE X (.Subscript e (.Slice lo hi none p2) pos) (tSl r te tl th):=by
 intro a s σ H Q I h;refine Subscript_ (thn (B a s σ H _ I h) λv k z_=>?_);obtain⟨x,A,z,N,t⟩:=z_;refine wpAny_Slice (thn (D a k σ A _ z t) λf w ⟨l,H2,L,j,E⟩=>thn (i a w σ H2 _ L E) λd c z_=>?_);obtain⟨u,g,n,m,y⟩:=z_;rw[evalPart_none];refine mT ?_;let p:Inv X a σ g {c with heap:=c.heap.push {cls:=.type "slice",data:=.fields #[f,d, .none]}}:=n.kept (t':=c.toks) λb ob q=>mL _ q;refine yL (J a {c with heap:=c.heap.push {cls:=.type "slice",data:=.fields #[f,d, .none]}} σ g x v f d l u c⁻¹ Q p N (Heap.IsSliceOf.new ..) j m y) λT id o ht M=>?_;show V8 (S8 X.prog X.w) X.A (subscriptTail e (.Slice lo hi none p2) v (.ref c⁻¹)) (EP X a σ Q) X.xe {c with heap:=c.heap.push {cls:=.type "slice",data:=.fields #[f,d, .none]}};exact tail_any (ops:=[.ref c⁻¹,v]) ht o M (by with_unfolding_all rfl)
def uQ(xs:B3)(lo hi:Option Int):List V:=(xs.drop (HT.sIx xs...* 0 lo)).take (HT.sIx xs...* xs...* hi - HT.sIx xs...* 0 lo)
theorem zEl(xs:B3)(lo hi:Option Int):(uQ xs lo hi)...*<=xs...*:=by
 unfold uQ;rw[nZ,rD]
 lia
def rSlT(K:A9):V->Option Int->Option Int->Hp->VK->Prop:=λx lo hi H Q=>∃a b,x= .ref a/\SqT K H a b/\
 ¬(HT.sIx b...* 0 lo=0/\HT.sIx b...* b...* hi=b...*)/\∀p,H p=none->Q (.ref p) (upd H p (.tup (uQ b lo hi)))
theorem yHu:SlR X (rSlT X.K):=by
 intro j s σ H x v y w lo hi A Q I m t l p h;ext zR h a d g u n q;subst g;cases m;refine xC (I.tuple u) λf r k i=>?_;let c:f.toArray.size=d...*:=by rw[mY];exact r.length.symm
 refine{"tuple",_,PyProof.Rows.slot_tuple_getitem.lookup,k.typeIs, ?_};refine HT.getItem_tuple_cut k t l p (by rw[c];exact n) ?_ (by rw[c];exact i);rw[c];refine{.ref s⁻¹,_,I.laid (t':=s.toks) (o:=.tup (uQ d lo hi)) (λb z q=>mL _ q) (mE _) ?_,O,q _ (I.hok.fresh (mE _))};exact{nW (zEl d lo hi) i,_,(r.drop (HT.sIx d...* 0 lo)).take (HT.sIx d...* d...* hi - HT.sIx d...* 0 lo),IsTup.new _ _}
def yEd(K:A9):R2:=λx y H Q=>∃a b d c,x= .ref a/\y= .ref b/\SqT K H a d/\SqT K H b c/\d≠ []/\d...*+c...*<=V9/\
 (c= []->Q (.ref a) H)/\(c≠ []->∀p,H p=none->Q (.ref p) (upd H p (.tup (d++c))))
theorem Vals.nil_iff{xs:B3}{us:B7}(r:Vals xs us):us= []↔xs= []:=by
 cases r with|nil=>simp|cons _ _=>simp
theorem yCt:OpR X (binaryOp .Add) (yEd X.K):=by
 intro l s σ H x y v u Q I B r h;ext yN h a b D m g d;ext zS d f E p t k d;ext oA d A J;subst g f;cases B;cases r;refine xC (I.tuple E) λn i L _=>?_;refine xC (I.tuple p) λj c p2 _=>?_;refine HT.cat_tup L p2 (λz=>t (i.nil_iff.mp z)) (λz=>{.ref a,H,I,O,A (c.nil_iff.mp z)}) (λz=>?_) (by rw[<-i...*,<-c...*];exact k);refine{.ref s⁻¹,_,I.laid (t':=s.toks) (o:=.tup (D++m)) (λb M q=>mL _ q) (mE _) ?_,O,J (λw=>z (c.nil_iff.mpr w)) _ (I.hok.fresh (mE _))};exact{by rw[mM];exact k,_,i.append c,IsTup.new _ _}
end
def ixN(n:Nat)(i:Int):Option Nat:=if 0<=i then(if i<n then Y i.toNat else none) else if -(n:Int)<=i then Y (i+n).toNat else none
def atI{α:Type}(xs:List α)(i:Int):Option α:=(ixN xs...* i).bind λj=>xs[j]?
theorem zJx{n:Nat}{i:Int}{j:Nat}(h:ixN n i=Y j):seqIndex? i n=Y j/\j<n/\-(n:Int)<=i/\i<n:=by
 unfold ixN at h
 by_cases b:0<=i
 ·rw[mP b] at h
  by_cases a:i<n
  ·rw[mP a] at h
   let e:i.toNat=j:=mU h;exact{by rw[seqIndex_of b a,e],∅,∅,a}
  ·rw[mI a] at h;cases h
 ·rw[mI b] at h
  by_cases a: -(n:Int)<=i
  ·rw[mP a] at h
   let e:(i+n).toNat=j:=mU h;exact{by rw[seqIndex_neg ∅ a,e],∅,a,∅}
  ·rw[mI a] at h;cases h
theorem zEw{α:Type}{xs:List α}{i:Int}{v:α}(h:atI xs i=Y v):∃j,seqIndex? i xs...*=Y j/\xs[j]? =Y v/\j<xs...*/\-(xs...*:Int)<=i/\i<xs...*:=by
 unfold atI at h
 cases e:ixN xs...* i with
 |none=>rw[e] at h;cases h|some j=>
  rw[e] at h;refine xA (zJx e) λc a b d=>?_;exact⟨j,c,h,a,b,d⟩
theorem zQ{α:Type}{xs:List α}{j:Nat}{v:α}(h:xs[j]? =Y v):atI xs (j:Int)=Y v:=by
 let a:j<xs...*:=(mJ.mp h).1;let e:ixN xs...* (j:Int)=Y j:=by
  unfold ixN;rw[mP ∅,mP ∅];simp
 unfold atI;rw[e];exact h
theorem xY{α:Type}(xs:List α)(v:α):atI (xs++ [v]) (-1)=Y v:=by
 let a:(xs++ [v])...*=xs...*+1:=by simp
 let e:ixN (xs++ [v])...* (-1)=Y xs...*:=by
  unfold ixN;rw[a,mI ∎,mP ∅]
  congr 1
  lia
 unfold atI;rw[e];show(xs++ [v])[xs...*]? =Y v;simp
def zQt(b:Expr):Prop:=∀o i,subscripted b false o i=operate [o,i] (getItem o i)
def IxR(X:Cx)(r:R2):Prop:=
 ∀(c a:Expr)(b:C7)(s:V2)(σ:St)(H:Hp)(x y:V)(v u:V0)(Q:VK),Inv X b σ H s->RelV x v->RelV y u->r x y H Q->
  subscripted a false v u=operate [v,u] (getItem v u)->V8 (S8 X.prog X.w) X.A (subscriptTail c a v u) (EP X b σ Q) X.xe s
def MtR(X:Cx)(id:String)(r:V->List V->Hp->VK->Prop):Prop:=
 ∀(a:C7)(s:V2)(σ:St)(H:Hp)(x:V)(b:B3)(v:V0)(c:B7)(Q:VK),Inv X a σ H s->RelV x v->Vals b c->r x b H Q->
  V8 (S8 X.prog X.w) X.A (call (.builtin id) (v::c)) (EP X a σ Q) X.xe s
section
variable{X:Cx}{a b:Expr}{ta tb:TE}{pos:Pos}
theorem pe_ix{r:R2}(j:IxR X r)(f:PE X a ta)(k:PE X b tb)(g:zQt b):PE X (.Subscript a b pos) (tOp r ta tb):=by
 intro c s σ H Q I h;exact Subscript_ (yHo f k I h λv u d x y l i e m q=>j a b c d σ l x y v u Q i e m q (g _ _))
def yBy(K:A9):R2:=λx y H Q=>∃p c i v,x= .ref p/\y= .int i/\SqL K H p c/\atI c i=Y v/\Q v H
def zUu(K:A9):R2:=λx y H Q=>∃p c i v,x= .ref p/\y= .int i/\SqT K H p c/\atI c i=Y v/\Q v H
def rIxS:R2:=λx y H Q=>∃z i c,x= .str z/\y= .int i/\z...*<=V9/\atI z.cps.toList i=Y c/\Q (.str {#[c]}) H
theorem zP:IxR X (yBy X.K):=by
 intro f n c s σ H x y v u Q I rx ry h E;ext yN h p xs i z m L;ext xA L l hq he q;subst m l;cases rx;obtain⟨t,rfl⟩:=ry;refine xC (I.list hq) λk r g hz=>?_;refine wG (zEw he) λj e M h3 h4 N=>?_;obtain⟨w,D,A⟩:=r.get M;let hl:=r...*;let hn:=zBz;let d:EP X c σ Q w s:=⟨z,H,I,A,q⟩
 by_cases B:0<=i
 ·let o:i.toNat=j:=by
   rw[seqIndex_of B N] at e;exact mU e
  exact item_listR g.isList B ∅ (by rw[o];simpa using D) d E
 ·let o:(i+(k.toArray.size:Int)).toNat=j:=by
   rw[seqIndex_neg ∅ h4] at e;rw[mY,<-hl];exact mU e
  exact subscriptTail_builtinR (x:=w) g.isList.typeIs slot_list_getitem.lookup
   (wpAny_getItem_list_neg (Q:=λr J=>r=w/\EP X c σ Q r J) g.isList ∅ (by rw[mY]<;>lia) ∅ (by rw[o];simpa using D) ⟨O,d⟩) E
theorem vP:IxR X (zUu X.K):=by
 intro d g c s σ H x y v u Q I J E h hs;ext yN h p xs i z f A;ext xA A e M N q;subst f e;cases J;obtain⟨t,rfl⟩:=E;refine xC (I.tuple M) λn r m hz=>?_;refine wG (zEw N) λj B D h3 h4 h5=>?_;obtain⟨w,L,l⟩:=r.get D;let hl:=r...*;let hn:=zBz;let k:EP X c σ Q w s:=⟨z,H,I,l,q⟩;exact subscriptTail_builtinR (x:=w) m.typeIs slot_tuple_getitem.lookup
  (getItem_tuple (j:=j) (Q:=λr o=>r=w/\EP X c σ Q r o) m ∅ ∅ (by rw[mY,<-hl];exact B) (by simpa using L) ⟨O,k⟩) hs
theorem zDq:IxR X rIxS:=by
 intro d g l s σ H x y v u Q I B w h J;ext zU h z i c e f n;ext oAA n N D q;subst e f;obtain⟨t,rfl⟩:=B;obtain⟨M,rfl⟩:=w;refine wG (zEw D) λj k p h3 A r=>?_;let E:z.cps.toList...*=z...*:=by simp[Str.length]
 rw[E] at k A r;let L:=zBz;exact tail_any (typeIs_str s z t) slot_str_getitem.lookup (getItem_str (c:=c) (by
  let o:decide (i< -(2 ^ 63:Int))=false:=nJ ∅;let m:decide (i≥2 ^ 63)=false:=nJ ∅;rw[o,m,Bool.or_false]) (by rw[k];simpa using p) {.str {#[c]},H,I.tok _,⟨_,O⟩,q}) J
theorem zOy(c:B7)(n j:Nat)(u:V0):Obj.mapSeq (·.setIfInBounds j u) {cls:=.type "list",data:=.seq c.toArray n}={cls:=.type "list",data:=.seq (c.set j u).toArray n}:=by
 simp[Obj.mapSeq]
theorem Inv.lst{d:C7}{σ:St}{H:Hp}{s:V2}{p:V1}{xs:B3}(I:Inv X d σ H s)(h:H p=Y (.lst xs)):
  ∃(c:B7)(n:Nat),Vals xs c/\s.heap.get? p=some {cls:=.type "list",data:=.seq c.toArray n}/\xs...*<=V9:=by
 obtain⟨z,c,n,r,e⟩:=I.hok p _ h;exact⟨c,n,r,e,z⟩
theorem Inv.lstUpd{c:C7}{σ:St}{H:Hp}{s:V2}{p:V1}{xs ys:B3}{d its':B7}{n g:Nat}{f:Obj->Obj}(I:Inv X c σ H s)(h:H p=Y (.lst xs))
  (j:s.heap.get? p=some {cls:=.type "list",data:=.seq d.toArray n}) (i:f {cls:=.type "list",data:=.seq d.toArray n}={cls:=.type "list",data:=.seq its'.toArray g}) (r:Vals ys its') (hz:ys...*<=V9) (t:Nat):
  Inv X c σ (upd H p (.lst ys)) {s with heap:=s.heap.update p f,toks:=t}:=by
 let e:(s.heap.update p f).get? p=some {cls:=.type "list",data:=.seq its'.toArray g}:=by
  rw[tJ f j (by rw[i]<;>rfl),i]
 refine I.write (x:=p) (e:=p) (by rw[h];trivial) (.inl O) (λb u k q=>(mV _ _ (Ne.symm k)).trans q) ⟨_,e⟩ ?_;exact⟨hz,its',g,r,e⟩
def rSetL:V->V->V->Hp->(Hp->Prop)->Prop:=λo i v H Q=>∃p c k j,o= .ref p/\i= .int k/\H p=Y (.lst c)/\ixN c...* k=Y j/\Q (upd H p (.lst (c.set j v)))
theorem zWx:PSet X rSetL:=by
 intro d s σ H o i v ov iv u Q I ro N D h;ext yN h p M k j l E;ext xA E f z J q;subst l f;cases ro;obtain⟨t,rfl⟩:=N;refine yL (I.lst z) λc n r g L=>?_;refine xA (zJx J) λe h2 B A=>?_;let m:=r...*;let hn:=zBz;let y:Inv X d σ (upd H p (.lst (M.set j v))) {s with heap:=s.heap.update p (Obj.mapSeq (·.setIfInBounds j u))}:=
  I.lstUpd z g (zOy c n j u) (r.set D j) (by rw[aD];exact L) s.toks
 by_cases x:0<=k
 ·let w:k.toNat=j:=by
   rw[seqIndex_of x A] at e;exact mU e
  exact W.ki_setAt g x ∅ (by rw[mY,<-m];exact A) (by rw[w];exact⟨_,y,q⟩)
 ·let w:(k+(c.toArray.size:Int)).toNat=j:=by
   rw[seqIndex_neg ∅ B] at e;rw[mY,<-m];exact mU e
  exact W.ki_setBack g ∅ (by rw[mY,<-m];exact B) ∅ (by rw[w];exact⟨_,y,q⟩)
theorem zJr(lo c:Option Int)(n:Nat):(sliceBounds lo c none n).1=((HT.sIx n 0 lo:Nat):Int)/\(sliceBounds lo c none n).2.1=((HT.sIx n n c:Nat):Int)/\(sliceBounds lo c none n).2.2=1:=by
 refine{?_, ?_,O}
 ·cases lo with
  |none=>simp[sliceBounds,HT.sIx]|some i=>
   simp only[sliceBounds,HT.sIx,Option.getD_none,show(1:Int)>0 by decide,if_true]
   by_cases h:i<0
   ·simp only[h,if_true]<;>lia
   ·simp only[h,if_false]<;>lia
 ·cases c with
  |none=>simp[sliceBounds,HT.sIx]|some i=>
   simp only[sliceBounds,HT.sIx,Option.getD_none,show(1:Int)>0 by decide,if_true]
   by_cases h:i<0
   ·simp only[h,if_true]<;>lia
   ·simp only[h,if_false]<;>lia
theorem zHv(c:B7)(lo d:Option Int):slicePick c.toArray lo d none=((c.drop (HT.sIx c...* 0 lo)).take (HT.sIx c...* c...* d - HT.sIx c...* 0 lo)).toArray:=by
 obtain⟨g,e,f⟩:=zJr lo d c.toArray.size;unfold slicePick;rw[g,e,f];simp only[sliceRange_one,pick_run,mY]<;>rfl
def rSlL(K:A9):V->Option Int->Option Int->Hp->VK->Prop:=λx lo d H Q=>∃a c,x= .ref a/\SqL K H a c/\∀p,H p=none->Q (.ref p) (upd H p (.lst (uQ c lo d)))
theorem uS:SlR X (rSlL X.K):=by
 intro g s σ H x v w u lo e z Q I m p j n h;ext yL h a c f t q;subst f;cases m;refine xC (I.list t) λl r i k=>?_;let d:=r...*;refine{"list",_,slot_list_getitem.lookup,i.isList.typeIs, ?_};refine wpAny_getItem_list_slice i.isList p j n .none (by simp) ?_ (by rw[mY]<;>lia);rw[zHv,<-d];refine{.ref s⁻¹,_,I.laid (t':=s.toks) (o:=.lst (uQ c lo e)) (λb y q=>mL _ q) (mE _) ?_,O,q _ (I.hok.fresh (mE _))};exact{nW (zEl c lo e) k,_,0,(r.drop (HT.sIx c...* 0 lo)).take (HT.sIx c...* c...* e - HT.sIx c...* 0 lo),nM _ O}
def jF:V->Bool
 |.non=>true|.bl _=>true|.int _=>true|.str _=>true|_=>false
def eqV:V->V->Bool
 |.non, .non=>true|.bl a, .bl b=>a==b|.bl a, .int b=>(if a then 1 else 0)==b|.int a, .bl b=>a==(if b then 1 else 0)|.int a, .int b=>a==b|.str a, .str b=>a==b|_,_=>false
theorem zVv{A:Around}{s:V2}{y x:V}{u v:V0}(f:RelV y u)(c:RelV x v)(g:jF y=true)(e:jF x=true):SeqAt.EqAt A s u v (eqV y x):=by
 cases y with
 |non=>
  cases f
  cases x with
  |non=>cases c;exact SeqAt.EqAt.same _|bl b=>cases c;exact SeqAt.EqAt.none_bool b|int b=>obtain⟨t,rfl⟩:=c;exact SeqAt.EqAt.none_int b t
  |str b=>obtain⟨t,rfl⟩:=c;exact SeqAt.EqAt.none_str b t
  |_=>exact absurd (show false=true from e) nD
 |bl a=>
  cases f
  cases x with
  |non=>cases c;exact SeqAt.EqAt.bool_none a|bl b=>cases c;exact SeqAt.EqAt.bool_bool a b|int b=>obtain⟨t,rfl⟩:=c;exact SeqAt.EqAt.bool_int a b t
  |str b=>obtain⟨t,rfl⟩:=c;exact SeqAt.EqAt.bool_str a b t
  |_=>exact absurd (show false=true from e) nD
 |int a=>
  obtain⟨d,rfl⟩:=f
  cases x with
  |non=>cases c;exact SeqAt.EqAt.int_none a d|bl b=>cases c;exact SeqAt.EqAt.int_bool a d b|int b=>obtain⟨t,rfl⟩:=c;exact SeqAt.EqAt.int_int a d b t
  |str b=>obtain⟨t,rfl⟩:=c;exact SeqAt.EqAt.int_str a d b t
  |_=>exact absurd (show false=true from e) nD
 |str a=>
  obtain⟨d,rfl⟩:=f
  cases x with
  |non=>cases c;exact SeqAt.EqAt.str_none a d|bl b=>cases c;exact SeqAt.EqAt.str_bool a d b|int b=>obtain⟨t,rfl⟩:=c;exact SeqAt.EqAt.str_int a d b t
  |str b=>obtain⟨t,rfl⟩:=c;exact cU a d b t
  |_=>exact absurd (show false=true from e) nD
 |_=>exact absurd (show false=true from g) nD
def eqU(x:V)(u:V0):Bool:=match u with|.none=>eqV .non x|.bool b=>eqV (.bl b) x|.int i _=>eqV (.int i) x|.str z _=>eqV (.str z) x|_=>false
theorem zZd{x y:V}{u:V0}(r:RelV y u)(f:jF y=true):eqU x u=eqV y x:=by
 cases y with
 |non=>cases r;rfl|bl b=>cases r;rfl|int i=>obtain⟨t,rfl⟩:=r;rfl
 |str z=>obtain⟨t,rfl⟩:=r;rfl
 |_=>exact absurd (show false=true from f) nD
theorem zKl{x:V}:∀{xs:B3}{us:B7},Vals xs us->xs.all jF=true->us.any (eqU x)=xs.any λy=>eqV y x
 |_,_, .nil,_=>rfl|y::xs,u::us, .cons r t,f=>by
  rw[bW,pA] at f;rw[bX,bX,zZd r f.1,zKl t f.2]
theorem zGd{A:Around}{s:V2}{x:V}{v:V0}(d:RelV x v)(c:jF x=true):∀{xs:B3}{us:B7},Vals xs us->xs.all jF=true->∀u∈us,SeqAt.EqAt A s u v (eqU x u)
 |_,_, .nil,_=>λu hu=>by cases hu|y::xs,u::us, .cons r t,f=>λe hu=>by
  rw[bW,pA] at f;rcases mF.mp hu with rfl | hu
  ·rw[zZd r f.1];exact zVv r d f.1 c
  ·exact zGd d c t f.2 e hu
def inV(x:V)(xs:B3):Bool:=xs.any λy=>eqV y x
def rIn(K:A9)(d:Bool):R2:=λx y H Q=>∃p c,y= .ref p/\(SqL K H p c\/SqT K H p c)/\jF x=true/\c.all jF=true/\Q (.bl (if d then !inV x c else inV x c)) H
theorem zSt:OpR X (A6 .In) (rIn X.K false):=by
 intro j s σ H x y v u Q I i n h;ext zR h p o g hq k m;ext oA m d q;subst g;cases n;rcases hq with hq | hq
 ·refine xC (I.list hq) λc r e l=>?_
  refine SeqAt.in_listAt (eqU x) e.isList (λw f=>zGd i k r d w (by simpa using f)) {.bl _,H,I,O, ?_};rw[show c.toArray.any (eqU x)=c.any (eqU x) by simp,zKl r d];exact q
 ·refine xC (I.tuple hq) λc r e l=>?_
  refine SeqAt.in_tupleAt (eqU x) e (λw f=>zGd i k r d w (by simpa using f)) {.bl _,H,I,O, ?_};rw[show c.toArray.any (eqU x)=c.any (eqU x) by simp,zKl r d];exact q
theorem kI:wX X (.builtin "len") (λxs H Q=>∃p ys,xs= [.ref p]/\(SqL X.K H p ys\/SqT X.K H p ys)/\Q (.int ys...*) H):=by
 intro i s σ H xs m Q I r h;ext yL h p ys g hq q;subst g;obtain⟨u,rfl,k⟩:=jH r;cases k;let l:=zBz;rcases hq with hq | hq
 ·refine xC (I.list hq) λf d e j=>?_
  let c:=d...*;exact Calls.call_len_list e.isList (by simp only[mY]<;>lia) {.int ys...*,H,I.tok _,{s.toks+1,by rw[mY,c]},q}
 ·refine xC (I.tuple hq) λf d e j=>?_
  let c:=d...*;exact len_tuple e (by simp only[mY]<;>lia) {.int ys...*,H,I.tok _,{s.toks+1,by rw[mY,c]},q}
theorem zDa:wX X (.builtin "len") (λxs H Q=>∃z,xs= [.str z]/\z...*<=V9/\Q (.int z...*) H):=by
 intro d s σ H xs g Q I r h;ext xC h z c e q;subst c;obtain⟨u,rfl,t,rfl⟩:=jH r;let f:=zBz;exact len_str ∅ {.int z...*,H,I.tok _,⟨_,O⟩,q}
theorem kF:wX X (.type "list") (λxs H Q=>∃p ys,xs= [.ref p]/\(SqL X.K H p ys\/SqT X.K H p ys)/\∀l,H l=none->Q (.ref l) (upd H l (.lst ys))):=by
 intro t s σ H xs D Q I r h;ext yL h p ys x hq q;subst x;obtain⟨u,rfl,B⟩:=jH r;cases B;let k:∀(c:B7),Vals ys c->ys...*<=V9->∀(d:V5)(g:Nat),(∀b A,s.heap.get? b=Y A->d.get? b=Y A)->
   d.get? s⁻¹=some {cls:=.type "list",dict:=none,data:=.seq c.toArray g,slots:=#[]}->EP X t σ Q (.ref s⁻¹) {s with heap:=d}:=λc f m d g j e=>
  {.ref s⁻¹,_,I.laid (t':=s.toks) j (mE _) (show ObjOk X.prog X.w _ d _ (.lst ys) from⟨m,c,g,f,e⟩),O,q _ (I.hok.fresh (mE _))}
 rcases hq with hq | hq
 ·refine xC (I.list hq) λc f v m=>?_
  let i:=f...*;obtain⟨o,w,z,n,y⟩:=v.isList;exact call_list_seq p (.inl O) w z y (λd g j e=>k c f m d g j e) (by simp only[mY]<;>lia)
 ·refine xC (I.tuple hq) λc f v m=>?_
  let i:=f...*;obtain⟨o,w,z,n,y⟩:=v;exact call_list_seq p (.inr O) w z y (λd g j e=>k c f m d g j e) (by simp only[mY]<;>lia)
theorem zBs:wX X (.type "tuple") (λxs H Q=>∃p ys,xs= [.ref p]/\((SqL X.K H p ys/\∀l,H l=none->Q (.ref l) (upd H l (.tup ys)))\/(SqT X.K H p ys/\Q (.ref p) H))):=by
 intro c s σ H xs y Q I r h;ext wS h p ys i h;subst i;obtain⟨u,rfl,w⟩:=jH r;cases w;rcases h with⟨k,q⟩|⟨k,q⟩
 ·refine xC (I.list k) λd j g n=>?_
  let m:=j...*;refine call_tuple_list g.isList (λf v=>?_) (by simp only[mY]<;>lia);let t:Inv X c σ H {s with heap:=f}:=I.kept (t':=s.toks) v;let x:Inv X c σ (upd H f.objs.size (.tup ys)) {s with heap:=f.push {cls:=.type "tuple",data:=.seq d.toArray}}:=
   t.laid (t':=s.toks) (λb o e=>mL _ e) (mE _) (show ObjOk X.prog X.w _ _ _ (.tup ys) from{n,d,j,IsTup.new _ _})
  exact{.ref f.objs.size,_,x,O,q _ (t.hok.fresh (mE _))}
 ·refine xC (I.tuple k) λd j g n=>?_
  exact call_tuple_same g {.ref p,H,I,O,q}
def tyV(K:A9)(T:String)(x:V)(H:Hp):Prop:=match x with
 |.str _=>T= "str"|.int _=>T= "int"|.ref p=>(T= "list"/\∃d,SqL K H p d)\/(T= "tuple"/\∃o,K.lookup p=Y o/\o.cls= .type "tuple"/\o.dict=none)\/
   (T= "dict"/\((∃c,H p=Y (.dK c))\/∃c,H p=Y (.dT c)))\/(T= "set"/\∃S n,H p=Y (.set S n))
 |_=>False
theorem zYm{g:C7}{σ:St}{H:Hp}{s:V2}{T:String}{x:V}{v:V0}(I:Inv X g σ H s)(r:RelV x v)(h:tyV X.K T x H):
  s.TypeIs v T/\∀a,v= .ref a->∃q,s.heap.get? a=Y q/\q.dict=none:=by
 cases x with
 |str z=>
  obtain⟨t,rfl⟩:=r;cases (show T= "str" from h);exact{typeIs_str s z t,λ_ e=>nomatch e}
 |int i=>
  obtain⟨t,rfl⟩:=r;cases (show T= "int" from h);exact{typeIs_int s i t,λ_ e=>nomatch e}
 |ref p=>
  cases r;rcases h with⟨rfl,B,w⟩|⟨rfl,o,d,A,l⟩|⟨rfl,d⟩|⟨rfl,S,n,d⟩
  ·refine xC (I.list w) λu _ m _=>?_
   refine{m.isList.typeIs,λa e=>?_};cases e;ext zR m o n e c l _;exact⟨o,e,l⟩
  ·refine{⟨o,I.kIn p o d,A⟩,λa e=>?_}
   cases e;exact⟨o,I.kIn _ o d,l⟩
  ·let z:∃o,s.heap.get? p=Y o/\o.ExactDict:=by
    rcases d with⟨j,d⟩|⟨j,d⟩
    ·obtain⟨_,_,_,_,o,_,_,e,f,_⟩:=I.hok p _ d
     exact⟨o,e,f⟩
    ·obtain⟨_,_,_,_,o,_,_,e,f,_⟩:=I.hok p _ d
     exact⟨o,e,f⟩
   obtain⟨o,e,f⟩:=z;refine{⟨o,e,f.1⟩,λa k=>?_};cases k;exact⟨o,e,f.2.1⟩
  ·refine yN (I.hok p _ d) λo _ _ _ e y=>?_
   ext oA y f _;refine{⟨o,e,f.1⟩,λa k=>?_};cases k;exact⟨o,e,f.2.1⟩
 |_=>exact False.elim h
def yHy(K:A9)(T:String)(r:V->List V->Hp->VK->Prop)(d:TE):TE:=λσ H Q=>d σ H λx c=>tyV K T x c/\r x [] c Q
def tBM(K:A9)(T:String)(r:V->List V->Hp->VK->Prop)(e:TE)(t:TA):TE:=λσ H Q=>e σ H λx c=>tyV K T x c/\t σ c λf d=>r x f d Q
variable{o e:Expr}{es:C5}{to:TE}{t:TA}{name:Str}{apos cpos:Pos}{T id:String}{r:V->List V->Hp->VK->Prop}
theorem yHb(w:PlainAttrs T)(g:Slot T name id)(i:typeOf (.builtin id)=pure (.type "method_descriptor"))(p:MtR X id r)(q:PE X o to)
  (d:attributeBase o name X.env (eval o X.env)=eval o X.env:=by rfl) (f:(apos.endLine==cpos.line)=true:=by rfl):PE X (.Call (.Attribute o name apos) [] [] cpos) (yHy X.K T r to):=by
 intro c s σ H Q I h;refine wpAny_Call_method0_late d f (thn (q c s σ H _ I h) λv m z_=>?_);obtain⟨x,n,j,k,z,l⟩:=z_;obtain⟨u,y⟩:=zYm j k z;exact{T,id,w,g,i,u,y,aH O (PySem.evalArgs_none (p c m σ n x [] v [] Q j k .nil l))}
theorem jZ(M:PlainAttrs T)(i:Slot T name id)(k:typeOf (.builtin id)=pure (.type "method_descriptor"))(z:MtR X id r)(A:PE X o to)(B:PA X (e::es) t)
  (f:attributeBase o name X.env (eval o X.env)=eval o X.env:=by rfl)
  (j:((S5 cpos (A5 (e::es) X.env)).all (λx=>!x.1)&& (backToKw cpos (keywordEach [] X.env)).all (λx=>x.1.isSome)
   && decide ((e::es)...*+([]:List Keyword)...*+(if([]:List Keyword).isEmpty then 0 else 1)<30))=true:=by rfl)
  (g:(apos.endLine==cpos.line)=true:=by rfl) (E:A5 (e::es) X.env=(false,eval e X.env)::A5 es X.env:=by rfl) (d:(S5 cpos (A5 es X.env)).any (·.1)=false:=by rfl):
  PE X (.Call (.Attribute o name apos) (e::es) [] cpos) (tBM X.K T r to t):=by
 intro c s σ H Q I h;refine wpAny_Call_method_late f j g O (thn (A c s σ H _ I h) λv u z_=>?_);obtain⟨x,y,m,n,ty,p⟩:=z_;obtain⟨L,N⟩:=zYm m n ty;refine{T,id,M,i,k,L,N, ?_};let l:=B cpos c u σ y _ m p;rw[E] at l⊢;refine aH (by show(false ||(S5 cpos (A5 es X.env)).any (·.1))=false;rw[d]<;>rfl) (Calls.evalArgs_plain ?_)
 exact thn l λus q ⟨w,H2,J,r2,D⟩=>z c q σ H2 x w v us Q J n r2 D
/- xs.append(e),list.index on a module's tuple .. are MtR facts of 06m -/
end
def MtM(X:Cx)(id:String)(r:V->List V->Hp->VK->Prop):Prop:=
 ∀(a:C7)(s:V2)(σ:St)(H:Hp)(x:V)(b:B3)(v:V0)(c:B7)(Q:VK),Inv X a σ H s->RelV x v->Vals b c->r x b H Q->
  V8 (S8 X.prog X.w) X.A (call (.builtin id) (v::c)) (EP X a σ Q) X.xe s
theorem Vals.one{x:V}{us:B7}(h:Vals [x] us):∃u,us= [u]/\RelV x u:=by
 cases h with
 |cons r h=>
  cases h;exact⟨_,O,r⟩
theorem Vals.two{x y:V}{us:B7}(h:Vals [x,y] us):∃u v,us= [u,v]/\RelV x u/\RelV y v:=by
 cases h with
 |cons r h=>
  cases h with
  |cons q h=>
   cases h;exact⟨_,_,O,r,q⟩
theorem Vals.eraseIdx:∀{xs:B3}{us:B7}(i:Nat),Vals xs us->Vals (xs.eraseIdx i) (us.eraseIdx i)
 |_,_,_, .nil=>.nil|_,_,0, .cons _ t=>t|_,_,i+1, .cons r t=>.cons r (Vals.eraseIdx i t)
theorem Vals.reverse{xs:B3}{us:B7}(h:Vals xs us):Vals xs.reverse us.reverse:=by
 induction h with|nil=>exact .nil|cons r t a=>rw[bO,bO];exact Vals.append a (.cons r .nil)
theorem Vals.rep{xs:B3}{us:B7}(h:Vals xs us):∀k:Nat,Vals (List.replicate k xs).flatten (List.replicate k us).flatten
 |0=>.nil|k+1=>by
  rw[rH,rH,sD,sD];exact Vals.append h (Vals.rep h k)
theorem zIx{α:Type}:∀(l:List α)(i:Nat),(l.eraseIdx i)...*<=l...*
 |[],_=>mE _|_::_,0=>pP _|_::r,i+1=>rE (zIx r i)
theorem zIj(a:B7):∀(k:Nat)(acc:B7),
  List.foldl (λc b=>c++b) acc.toArray (List.replicate k a.toArray)=(acc++(List.replicate k a).flatten).toArray
 |0,acc=>by simp|k+1,acc=>by
  let e:acc.toArray++a.toArray=(acc++a).toArray:=by simp
  let d:(acc++a)++(List.replicate k a).flatten=acc++(List.replicate (k+1) a).flatten:=by
   rw[rH,sD,sE]
  rw[<-d,<-zIj a k (acc++a),<-e,rH,tK]
section
variable{X:Cx}{pins:C7}{σ:St}{H:Hp}{s:V2}{l b:V1}{xs ys zs:B3}
theorem Inv.lset{a its':B7}{n:Nat}{f:Array V0->Array V0}{t':Nat}(I:Inv X pins σ H s)(d:H l=Y (.lst xs))
  (e:s.heap.get? l=some {cls:=.type "list",data:=.seq a.toArray n}) (i:f a.toArray=its'.toArray) (g:Vals ys its') (hz:ys...*<=V9):
  Inv X pins σ (upd H l (.lst ys)) {s with heap:=s.heap.update l (Obj.mapSeq f),toks:=t'}:=by
 let q:=PySem.IsL.update e f;rw[i] at q;refine I.write (x:=l) (e:=l) (by rw[d];exact trivial) (.inl O) (λj u h c=>(mV s.heap (Obj.mapSeq f) (Ne.symm h)).trans c) ⟨_,q⟩ ?_;exact⟨hz,its',_,g,q⟩
theorem Inv.lnew{a:B7}{t':Nat}(I:Inv X pins σ H s)(c:Vals ys a)(hz:ys...*<=V9):
  Inv X pins σ (upd H s⁻¹ (.lst ys)) {s with heap:=s.heap.push {cls:=.type "list",data:=.seq a.toArray},toks:=t'}:=
 I.laid (λ_ _ q=>mL _ q) (mE _) {hz,a,0,c,nM _ O}
theorem Inv.fresh(I:Inv X pins σ H s):H s⁻¹=none:=I.hok.fresh (mE _)
theorem Inv.lstM(I:Inv X pins σ H s)(c:H l=Y (.lst xs)):xs...*<=V9/\∃(a:B7)(n:Nat),Vals xs a/\xs...*=a...*/\s.heap.get? l=some {cls:=.type "list",data:=.seq a.toArray n}:=by
 obtain⟨z,a,n,r,e⟩:=I.hok l _ c;exact{z,a,n,r,r...*,e}
theorem zNt{n:Nat}(h:n<=V9):Builtin.List.listTooLong n=false:=by
 unfold Builtin.List.listTooLong;exact nJ ∅
end
section
variable{X:Cx}
def zJz:V->List V->Hp->VK->Prop:=λx b H Q=>∃l a y,x= .ref l/\b= [y]/\H l=Y (.lst a)/\a...*<V9/\Q .non (upd H l (.lst (a++ [y])))
theorem jA:MtM X "list.append" zJz:=by
 intro f s σ H x o v t Q I i j h;ext zU h l p y b c k;ext oAA k d m q;subst b c;cases i;obtain⟨u,rfl,g⟩:=j.one;obtain⟨z,a,n,r,w,e⟩:=I.lstM d;refine sQ F.slot_list_append ⟨_,e,O⟩ F.entry_list_append (F.args_list_append_2 _ _) (dC l a.toArray n u (by rw[mY];lia)) {e, ?_};refine{.non,_,I.lset (its':=a++ [u]) d e (by simp) (r.append (.cons g .nil)) ?_,O,q};rw[mM,nL]
 lia
def yBs:V->List V->Hp->VK->Prop:=λx d H Q=>∃l b c a,x= .ref l/\d= [.ref b]/\H l=Y (.lst c)/\H b=Y (.lst a)/\c...*+a...*<=V9/\Q .non (upd H l (.lst (c++a)))
theorem zTv:MtM X "list.extend" yBs:=by
 intro k s σ H x J v us Q I B t h;ext yN h l b M zs g y;ext vB y f j m L q;subst g f;cases B;obtain⟨u,rfl,o⟩:=t.one;cases o;obtain⟨z,c,n,r,N,e⟩:=I.lstM j;obtain⟨E,a,D,A,p,w⟩:=I.lstM m;let i:c.toArray.size+a.toArray.size<=V9:=by rw[mY,mY];lia
 let d:¬(!c.toArray.isEmpty && Builtin.List.listTooLong (c.toArray.size+a.toArray.size))=true:=by
  rw[zNt i,tR];exact nD
 refine sQ F.slot_list_extend ⟨_,e,O⟩ F.entry_list_extend (F.args_list_extend_2 _ _)
  (AutoSeq1.list_extend_list_list_0 l c.toArray n b a.toArray D d (by rw[mY];lia) ∅) {e,w, ?_}
 refine{.non,_,I.lset (its':=c++a) j e (by simp) (r.append A) ?_,O,q};rw[mM]
 lia
def yGl:V->List V->Hp->VK->Prop:=λx b H Q=>∃l a i k y,x= .ref l/\b= [.int i]/\H l=Y (.lst a)/\-(2 ^ 63)<=i/\i<2 ^ 63/\seqIndex? i a...*=Y k/\a[k]? =Y y/\Q y (upd H l (.lst (a.eraseIdx k)))
theorem zYu:MtM X "list.pop" yGl:=by
 intro j s σ H x N v us Q I B o h;ext yA h l E i k y b;ext zS b c d g p A b;ext oAA b M J q;subst c d;cases B;obtain⟨u,rfl,m⟩:=o.one;obtain⟨t,rfl⟩:=m;obtain⟨z,a,n,r,L,e⟩:=I.lstM g;obtain⟨w,D,f⟩:=r.get J;refine sQ F.slot_list_pop ⟨_,e,O⟩ F.entry_list_pop (F.args_list_pop_2 _ _)
  (MeetsSeq.list_pop_at l a.toArray n i t k w (fitsIndex_both p A) (by rw[mY,<-L];exact M) (by rw[<-sL];exact D) (by rw[mY];lia)) {e, ?_}
 refine{y,_,I.lset (its':=a.eraseIdx k) g e ?_ (r.eraseIdx k) ?_,f,q}
 ·show a.toArray.eraseIdxIfInBounds k=(a.eraseIdx k).toArray
  rw[List.eraseIdxIfInBounds_toArray]
 ·let:=zIx E k
  lia
def zZo:R2:=λx y H Q=>∃l b c a,x= .ref l/\y= .ref b/\H l=Y (.lst c)/\H b=Y (.lst a)/\c...*+a...*<=V9/\∀p,H p=none->Q (.ref p) (upd H p (.lst (c++a)))
theorem zBb:OpR X (binaryOp .Add) zZo:=by
 intro g s σ H x y v u Q I A t h;ext yN h l b E M f o;ext vB o d w i D q;subst f d;cases A;cases t;obtain⟨z,c,n,r,L,e⟩:=I.lstM w;obtain⟨B,a,J,p,k,m⟩:=I.lstM i;refine PySem.P.add_list e m ?_ (by rw[mY,mY];lia);let j:c.toArray++a.toArray=(c++a).toArray:=by simp
 rw[j];exact{.ref _,_,I.lnew (t':=s.toks) (r.append p) (by rw[mM];lia),O,q _ I.fresh}
def rRep:R2:=λx y H Q=>∃l k a,x= .ref l/\y= .int k/\H l=Y (.lst a)/\-(2 ^ 63)<=k/\k<2 ^ 63/\a...**k.toNat<=V9/\
 ∀p,H p=none->Q (.ref p) (upd H p (.lst (List.replicate k.toNat a).flatten))
theorem yAg{α:Type}(xs:List α)(k:Nat):(List.replicate k xs).flatten...*=k*xs...*:=by
 induction k with|zero=>simp|succ k a=>rw[rH,sD,mM,a,Nat.succ_mul,Nat.add_comm]
theorem zWp:OpR X (binaryOp .Mult) rRep:=by
 intro B s σ H x y v u Q I rx N h;ext zU h l k xs j o J;ext vB J hH L M A q;subst j o;cases rx;obtain⟨t,rfl⟩:=N;refine yGe (I.lstM hH) λz b n r hl e=>?_;let d:b.toArray.size*k.toNat<=V9:=by rw[mY,<-hl];exact A
 let g:¬b.toArray.size*k.toNat>(2 ^ 63 - 1)/ 8:=by
  let:(V9:Nat)<=(2 ^ 63 - 1)/ 8:=by decide
  lia
 let i:¬(!Builtin.List.listFitsIndex k)=true:=by
  rw[fitsIndex_both L M];exact nD
 let c:¬Builtin.List.listTooLong (b.toArray.size*k.toNat)=true:=by
  rw[zNt d];exact nD
 let f:List.foldl (λw p=>w++p) #[] (List.replicate (if b.toArray.isEmpty=true then 0 else k.toNat) b.toArray)=(List.replicate k.toNat b).flatten.toArray:=by
  let E:∀m:Nat,List.foldl (λw p=>w++p) #[] (List.replicate m b.toArray)=(List.replicate m b).flatten.toArray:=λm=>by
   let:=zIj b m [];rw[aE] at this;exact this
  rw[E]
  cases b with|nil=>simp|cons a r'=>rw[mI (by simp)]
 refine wpAny_binaryOp_repeat_ref (T:="list") (U:="int") ∎ ⟨_,e,O⟩ (λD=>typeIs_int D k t) noFill_list_mul F.fills_int_mul F.slot_int_rmul repeat_list F.slot_int_index.lookup
  (sQ F.slot_int_rmul (typeIs_int s k t) F.entry_int_rmul (F.args_int_rmul_2 _ _) (int___rmul___int_list k t l b.toArray n)
   {e,O,⟨_,e,O⟩,sQ F.slot_list_mul ⟨_,e,O⟩ F.entry_list_mul (F.args_list_mul_2 _ _) (AutoListH.list___mul___list_int_3 l b.toArray n k t i g c) {e, ?_}})
 rw[f];exact{.ref _,_,I.lnew (t':=s.toks) (r.rep k.toNat) (by rw[yAg,Nat.mul_comm];exact A),O,q _ I.fresh}
end
section
variable{prog:V3}{w:V4}{A:Around}{E:C9}{s:V2}
set_option maxRecDepth 100000 in
end
section
variable{X:Cx}
end
section
variable{κ:Type} [DecidableEq κ]
def kK(kvs:List (κ×V))(k:κ):Option V:=(kvs.find? λa=>decide (a.1=k)).map (·.2)
def qG(kvs:List (κ×V))(k:κ)(v:V):List (κ×V):=
 if(kvs.any λa=>decide (a.1=k))=true then kvs.map (λa=>if a.1=k then(a.1,v) else a) else kvs++ [(k,v)]
def dropK(kvs:List (κ×V))(k:κ):List (κ×V):=kvs.filter λa=>decide (a.1≠k)
theorem zCq{p:κ×V}{r:List (κ×V)}{k:κ}(e:p.1=k):kK (p::r) k=Y p.2:=by simp[kK,aF,e]
theorem zAy{p:κ×V}{r:List (κ×V)}{k:κ}(e:¬p.1=k):kK (p::r) k=kK r k:=by simp[kK,aF,e]
theorem zCz(k:κ):∀kvs:List (κ×V),(kvs.any λkv=>decide (kv.1=k))=(kK kvs k).isSome
 |[]=>rfl|p::r=>by
  rw[bX]
  by_cases e:p.1=k
  ·simp only[zCq e,nF e,Bool.true_or,Option.isSome_some]
  ·rw[zAy e,nJ e,Bool.false_or];exact zCz k r
theorem zAz(kvs:List (κ×V))(k:κ)(v:V):(qG kvs k v)...*<=kvs...*+1:=by
 unfold qG;split
 ·rw[mN];lia
 ·rw[mM,mW,rB];lia
theorem zYg{kvs:List (κ×V)}{k:κ}(v:V)(h:kK kvs k=none):qG kvs k v=kvs++ [(k,v)]:=by
 unfold qG;rw[zCz,h];exact mI ∎
theorem RelO.isSome_eq{o:Option V}{u:Option V0}(r:RelO o u):o.isSome=u.isSome:=by
 cases o with
 |none=>cases u with
  |none=>rfl|some _=>exact(show False from r).elim
 |some _=>cases u with
  |none=>exact(show False from r).elim|some _=>rfl
theorem KV.val{kvs:List (κ×V)}{vs:List (κ×V0)}(r:KV kvs vs)(k:κ):RelO (kK kvs k) (valueAt vs k):=by
 unfold KV at r
 induction r with
 |nil=>exact mK|@cons p q i a h t g=>
  obtain⟨d,f⟩:=h
  by_cases e:p.1=k
  ·let c:q.1=k:=d.symm.trans e
   let b:valueAt (q::a) k=Y q.2:=by simp[valueAt,aF,c]
   rw[zCq e,b];exact f
  ·let c:¬q.1=k:=λz=>e (d.trans z)
   let b:valueAt (q::a) k=valueAt a k:=by simp[valueAt,aF,c]
   rw[zAy e,b];exact g
theorem KV.any{kvs:List (κ×V)}{vs:List (κ×V0)}(r:KV kvs vs)(k:κ):(kvs.any λkv=>decide (kv.1=k))=vs.any λkv=>decide (kv.1=k):=by
 unfold KV at r
 induction r with|nil=>rfl|cons h t a=>rw[bX,bX,a,h.1]
theorem KV.repl{kvs:List (κ×V)}{vs:List (κ×V0)}(r:KV kvs vs)(k:κ){y:V}{u:V0}(d:RelV y u):
  KV (kvs.map λkv=>if kv.1=k then(kv.1,y) else kv) (vs.map λkv=>if kv.1=k then(kv.1,u) else kv):=by
 unfold KV at r⊢
 induction r with
 |nil=>exact .nil|@cons p q g f h t c=>
  rw[nG,nG];refine .cons ?_ c;obtain⟨a,b⟩:=h
  by_cases e:p.1=k
  ·rw[mP e,mP (a.symm.trans e)];exact⟨a,d⟩
  ·rw[mI e,mI (λz=>e (a.trans z))];exact⟨a,b⟩
theorem KV.put{kvs:List (κ×V)}{vs:List (κ×V0)}(r:KV kvs vs)(k:κ){y:V}{u:V0}(a:RelV y u):KV (qG kvs k y) (stored vs k u):=by
 unfold qG stored;rw[r.any k]
 by_cases e:(vs.any λb=>decide (b.1=k))=true
 ·rw[mP e,mP e];exact r.repl k a
 ·rw[mI e,mI e];exact Paired.snoc r ⟨O,a⟩
theorem KV.drop{kvs:List (κ×V)}{vs:List (κ×V0)}(r:KV kvs vs)(k:κ):KV (dropK kvs k) (without vs k):=by
 unfold KV at r⊢;unfold dropK without
 induction r with
 |nil=>exact .nil|@cons p q j i h t d=>
  obtain⟨c,f⟩:=h;rw[dE,dE]
  by_cases e:p.1=k
  ·let a:¬decide (p.1≠k)=true:=by simp[e]
   let b:¬decide (q.1≠k)=true:=by simp[c.symm.trans e]
   rw[mI a,mI b];exact d
  ·let g:¬q.1=k:=λz=>e (c.trans z)
   let a:decide (p.1≠k)=true:=by simp[e]
   let b:decide (q.1≠k)=true:=by simp[g]
   rw[mP a,mP b];exact .cons ⟨c,f⟩ d
theorem KV.keys{kvs:List (κ×V)}{vs:List (κ×V0)}(r:KV kvs vs):kvs.map (·.1)=vs.map (·.1):=by
 unfold KV at r
 induction r with|nil=>rfl|cons h t a=>rw[nG,nG,a,h.1]
theorem KV.length{kvs:List (κ×V)}{vs:List (κ×V0)}(r:KV kvs vs):kvs...*=vs...*:=Paired.length r
theorem zUp(kvs:List (κ×V))(k:κ):(dropK kvs k)...*<=kvs...*:=List.length_filter_le _ _
end
theorem zHh{P:V3}{w:V4}{k:Key}{u:V0}(r:RelV (kV k) u):(yZ P w).is k u=true:=by
 cases k with
 |inl i=>obtain⟨t,e⟩:=(show∃t,u=Value.int i t from r);subst e;exact zMy P w i t
 |inr x=>obtain⟨t,e⟩:=(show∃t,u=Value.str x t from r);subst e;exact zLh P w x t
abbrev _root_.B8:=List Key
theorem zIo{P:V3}{w:V4}:∀{ks:B8}{us:B7},Vals (ks.map kV) us->ItemsAre (yZ P w) ks us
 |[],_,r=>by rw[sP] at r;cases r;exact .nil|k::ks,_,r=>by
  rw[nG] at r
  cases r with|cons h t=>exact .cons (zHh h) (zIo t)
abbrev KT(H:Hp):List (List Key×V)->List (List Key×V1×V0)->Prop:=Paired λp q=>p.1=q.1/\H q.2.1=Y (.tup (p.1.map kV))/\RelV p.2 q.2.2
theorem KT.val{H:Hp}{kvs:List (List Key×V)}{xs:List (List Key×V1×V0)}(r:KT H kvs xs)(k:B8):RelO (kK kvs k) ((atKey xs k).map (·.2)):=by
 induction r with
 |nil=>exact mK|@cons p q i a h t g=>
  obtain⟨d,_,f⟩:=h
  by_cases e:p.1=k
  ·let c:q.1=k:=d.symm.trans e
   let b:atKey (q::a) k=Y q.2:=by simp[atKey,aF,c]
   rw[zCq e,b];exact f
  ·let c:¬q.1=k:=λz=>e (d.trans z)
   let b:atKey (q::a) k=atKey a k:=by simp[atKey,aF,c]
   rw[zAy e,b];exact g
theorem KT.repl{H:Hp}{kvs:List (List Key×V)}{xs:List (List Key×V1×V0)}(r:KT H kvs xs)(k:B8){y:V}{u:V0}(f:RelV y u):
  KT H (kvs.map λkv=>if kv.1=k then(kv.1,y) else kv) (xs.map (putAt k u)):=by
 induction r with
 |nil=>exact .nil|@cons p q i g h t c=>
  rw[nG,nG];refine .cons ?_ c;obtain⟨a,b,d⟩:=h;unfold putAt
  by_cases e:p.1=k
  ·rw[mP e,mP (a.symm.trans e)];exact⟨a,b,f⟩
  ·rw[mI e,mI (λz=>e (a.trans z))];exact⟨a,b,d⟩
theorem KT.put{H:Hp}{kvs:List (List Key×V)}{xs:List (List Key×V1×V0)}(r:KT H kvs xs)(k:B8){b:V1}{y:V}{u:V0}(c:H b=Y (.tup (k.map kV)))(a:RelV y u):
  KT H (qG kvs k y) (storedH xs k b u):=by
 let e:(kvs.any λd=>decide (d.1=k))=(atKey xs k).isSome:=by
  rw[zCz,(r.val k).isSome_eq,Option.isSome_map]
 unfold qG storedH;rw[e]
 by_cases q:(atKey xs k).isSome=true
 ·rw[mP q,mP q];exact r.repl k a
 ·rw[mI q,mI q];exact Paired.snoc r ⟨O,c,a⟩
theorem KT.keeps{H a:Hp}{kvs:List (List Key×V)}{xs:List (List Key×V1×V0)}(r:KT H kvs xs)(c:∀b ys,H b=Y (.tup ys)->a b=Y (.tup ys)):KT a kvs xs:=
 j9 r λ_ _ z=>{z.1,c _ _ z.2.1,z.2.2}
section
variable{P:V3}{w:V4}{H:Hp}{h:V5}{a:V1}
theorem yDk{u:HO}(b:HOk P w H h)(e:Rd H a u):ObjOk P w H h a u:=e.ok b
theorem gW{kvs:D0}(b:HOk P w H h)(e:Rd H a (.dK kvs)):kvs...*<=V9/\(a==A7)=false/\∃vs,KV kvs vs/\h.DictOf (yZ P w) a vs:=
 show ObjOk P w H h a (.dK kvs) from yDk b e
theorem zRe{kvs:D0}(b:HOk P w H h)(e:H a=Y (.dK kvs)):kvs...*<=V9/\(a==A7)=false/\∃vs,KV kvs vs/\h.DictOf (yZ P w) a vs:=gW b (.inl e)
theorem zKr{ks:B8}(g:HOk P w H h)(e:H a=Y (.tup (ks.map kV))):(tupleKind (yZ P w)).is h ks a:=by
 obtain⟨_,b,r,o,c,d,n,f⟩:=(show ObjOk P w H h a (.tup (ks.map kV)) from g a _ e);exact{o,b.toArray,n,c,d,f,by simpa using zIo r}
theorem zNg{kvs:List (List Key×V)}(c:HOk P w H h)(e:Rd H a (.dT kvs)):kvs...*<=V9/\(a==A7)=false/\
  ∃xs,KT H kvs xs/\h.DictOfH (tupleKind (yZ P w)) a xs:=by
 obtain⟨z,y,xs,r,o,f,n,j,k,i,d,s⟩:=(show ObjOk P w H h a (.dT kvs) from yDk c e);refine{z,y,xs,r,o,f,n,j,k,i,d,λx hx=>?_,s};let all:∀{l:List (List Key×V)}{m:List (List Key×V1×V0)},KT H l m->∀x∈m,(tupleKind (yZ P w)).is h x.1 x.2.1:=by
  intro l m q
  induction q with
  |nil=>intro x hx;exact nomatch hx|@cons p q v u b t g=>
   intro x hx;rcases mF.mp hx with e | hx
   ·subst e
    exact zKr c (by rw[<-b.1];exact b.2.1)
   ·exact g x hx
 exact all r x hx
theorem dt_of{kvs:List (List Key×V)}(b:HOk P w H h)(e:H a=Y (.dT kvs)):kvs...*<=V9/\(a==A7)=false/\
  ∃xs,KT H kvs xs/\h.DictOfH (tupleKind (yZ P w)) a xs:=zNg b (.inl e)
end
def zMg(H:Hp)(a:V1)(y:V)(r:Option V):Prop:=
 (∃c k,Rd H a (.dK c)/\y=kV k/\r=kK c k)\/∃c k b,Rd H a (.dT c)/\y= .ref b/\H b=Y (.tup (k.map kV))/\r=kK c k
def DPut(H:Hp)(a:V1)(y v:V)(d:Hp):Prop:=
 (∃c k,H a=Y (.dK c)/\y=kV k/\c...*<V9/\d=upd H a (.dK (qG c k v)))\/
 ∃c k b,H a=Y (.dT c)/\y= .ref b/\H b=Y (.tup (k.map kV))/\c...*<V9/\d=upd H a (.dT (qG c k v))
theorem DPut.k{H:Hp}{a:V1}{kvs:D0}{k:Key}{v:V}(e:H a=Y (.dK kvs))(b:kvs...*<V9):DPut H a (kV k) v (upd H a (.dK (qG kvs k v))):=.inl ⟨kvs,k,e,O,b,O⟩
section
variable{X:Cx}{pins:C7}{σ:St}{H:Hp}{s:V2}{a:V1}{y v:V}{u r:V0}{o:Option V}{A:Around}{E:C9}
theorem Inv.big(I:Inv X pins σ H s):A7<s⁻¹:=by
 let h:A0<s⁻¹:=(I.mod.glob.keeps I.bk).lt;exact cG ∎ h
theorem zUa{Q:C9}(w:A.units+1<cLine)(I:Inv X pins σ H s)(g:zMg H a y ↥v)(t:RelV y u)(h:∀f s',Inv X pins σ H s'->RelV v f->Q f s'):
  V8 (S8 X.prog X.w) A (getItem (.ref a) u) Q E s:=by
 rcases g with⟨i,k,e,j,l⟩|⟨i,k,b,e,j,D,l⟩
 ·subst j
  obtain⟨z,J,x,d,n⟩:=gW I.hok e;obtain⟨f,m,c⟩:=j7 (v:=v) (o:=valueAt x k) (by rw[l];exact d.val k);exact wpAny_getItem_of (zHh t) n.mapOf m (h f _ (I.tok _) c)
 ·subst j
  cases (show u=Value.ref b from t);obtain⟨z,J,B,d,n⟩:=zNg I.hok e;obtain⟨f,m,c⟩:=j7 (v:=v) (o:=(atKey B k).map (·.2)) (by rw[l];exact d.val k);obtain⟨p,L,q⟩:=rL.mp m;refine wpAny_getItem_heap (cV w) (zKr I.hok D) n L ?_;rw[q];exact h f _ (I.tok _) c
theorem d_in{Q:C9}(n:A.units+1<cLine)(I:Inv X pins σ H s)(g:zMg H a y o)(m:RelV y u)(h:∀s',Inv X pins σ H s'->Q (.bool o.isSome) s'):
  V8 (S8 X.prog X.w) A (A6 .In u (.ref a)) Q E s:=by
 rcases g with⟨f,k,e,i,l⟩|⟨f,k,b,e,i,p,l⟩
 ·subst i
  obtain⟨z,j,t,c,d⟩:=gW I.hok e;refine wpAny_in_of (zHh m) j d.mapOf ?_;rw[<-(c.val k).isSome_eq,<-l];exact h _ (I.tok _)
 ·subst i
  cases (show u=Value.ref b from m);obtain⟨z,j,w,c,d⟩:=zNg I.hok e;refine wpAny_in_heap (cV n) (zKr I.hok p) j d ?_;let q:=(c.val k).isSome_eq;rw[Option.isSome_map] at q;rw[<-q,<-l];exact h _ (I.tok _)
theorem zFm{h':V5}{t':Nat}{d:HO}(I:Inv X pins σ H s)(g:Mut (H a))(f:Heap.SameBut a s.heap h')(i:∃q,h'.get? a=Y q)(c:ObjOk X.prog X.w (upd H a d) h' a d):
  Inv X pins σ (upd H a d) {s with heap:=h',toks:=t'}:=
 I.write (x:=a) (e:=a) g (.inl O) (λb q h z=>(f.2 b h).trans z) i c
theorem zKj{P:V3}{w:V4}{e:Hp}{h':V5}{kvs:D0}{vs:List (Key×V0)}(z:kvs...*<=V9)(c:(a==A7)=false)(b:KV kvs vs)(d:h'.DictOf (yZ P w) a vs):
  ObjOk P w e h' a (.dK kvs):=⟨z,c,vs,b,d⟩
theorem zTk{M:Hp}{Q:Unit->V2->Prop}(hu:A.units+1<cLine)(I:Inv X pins σ H s)(g:DPut H a y v M)(L:RelV y u)(J:RelV v r)(h:∀s',Inv X pins σ M s'->Q () s'):
  V8 (S8 X.prog X.w) A (setItem (.ref a) u r) Q E s:=by
 rcases g with⟨d,k,e,t,l,m⟩|⟨d,k,b,e,t,N,l,m⟩
 ·subst t m
  obtain⟨z,n,vs,f,x⟩:=zRe I.hok e;let p:vs...*<=V9:=by rw[<-f...*];exact z
  let w:(qG d k v)...*<=V9:=by let:=zAz d k v;lia
  refine wpAny_setItem_pairs (hsz:=p) (zHh L) x λD i B=>h _ ?_;let he:∃q,D.get? a=Y q:=let ⟨q,_,_,j,_⟩:=i;⟨q,j⟩;exact zFm I (by rw[e];exact mK) B he (zKj w n (f.put k J) i)
 ·subst t m
  cases (show u=Value.ref b from L);obtain⟨z,n,xs,f,x⟩:=dt_of I.hok e;let p:xs...*<=V9:=by rw[<-Paired.length f];exact z
  let w:(qG d k v)...*<=V9:=by let:=zAz d k v;lia
  refine wpAny_setItem_heap (hsz:=p) (cV hu) (zKr I.hok N) x λD i B=>h _ ?_;ext zU i q es ep j h2 z_;ext xA z_ h3 h4 _ h5;refine zFm I (by rw[e];exact mK) B ⟨q,j⟩ {w,n,_,(f.put k N J).keeps λc ys ec=>?_,q,es,ep,j,h2,h3,h4,h5};rw[zM (ne_of ec e (λz=>nomatch z))];exact ec
end
section
variable{X:Cx}{pins:C7}{σ:St}{H:Hp}{s:V2}{a:V1}{kvs:D0}{k:Key}{u:V0}{A:Around}{E:C9}
theorem d_pop{v:V}{b:B7}{Q:C9}(I:Inv X pins σ H s)(e:H a=Y (.dK kvs))(g:RelV (kV k) u)(l:kK kvs k=Y v)(p:b= []\/∃x,b= [x])
  (h:∀d s',Inv X pins σ (upd H a (.dK (dropK kvs k))) s'->RelV v d->Q d s'):V8 (S8 X.prog X.w) A (call (.builtin "dict.pop") (.ref a::u::b)) Q E s:=by
 obtain⟨z,y,m,c,n⟩:=zRe I.hok e;obtain⟨d,w,j⟩:=j7 (v:=v) (o:=valueAt m k) (by rw[<-l];exact c.val k);let L:(keyPart u).isSome=true:=by
  cases k with
  |inl i=>obtain⟨t,q⟩:=(show∃t,u=Value.int i t from g);subst q;rfl
  |inr x=>obtain⟨t,q⟩:=(show∃t,u=Value.str x t from g);subst q;rfl
 let D:argsOk "dict.pop" {.ref a::u::b,[]}:=by
  rcases p with q |⟨x,q⟩
  ·subst q;exact PySem.F.args_dict_pop_2 _ _
  ·subst q;exact PySem.F.args_dict_pop_3 _ _ _
 refine call_meetsIn PySem.F.slot_dict_pop n.typeIs PySem.F.entry_dict_pop D (meets_dict_pop_there (yZ X.prog X.w) a (zHh g) b p L)
  {m,d,n,by rw[<-c...*];exact z,w,λr f J=>h d _ ?_ j}
 let B:∃q,r.get? a=Y q:=let ⟨q,_,_,hq,_⟩:=f;⟨q,hq⟩;exact zFm I (by rw[e];exact mK) J B (zKj (nW (zUp kvs k) z) y (c.drop k) f)
theorem yEk{Q:C9}(I:Inv X pins σ H s)(e:Rd H a (.dK kvs))(h:∀t s',Inv X pins σ H s'->Q (.int kvs...* t) s'):V8 (S8 X.prog X.w) A (call (.builtin "len") [.ref a]) Q E s:=by
 obtain⟨z,d,f,b,c⟩:=gW I.hok e;refine call_len_dict d c (by rw[<-b...*];rw[mS] at z;lia) ?_;rw[<-b...*];exact h _ _ (I.tok _)
end
def NoSl(i:Expr):Prop:=∀b a,subscripted i false b a=operate [b,a] (getItem b a)
theorem yCp{prog:V3}{w:V4}{A:Around}{E:C9}{s:V2}{d:P0}{b a:Expr}{f:Pos}{T id:String}{Q:C9}
  (n:typeLookup (.type T) "__getitem__" =pure ↥(.builtin id)) (p:NoSl a)
  (h:V8 (S8 prog w) A (eval b d) (λo k=>V8 (S8 prog w) A (eval a d) (λi e=>e.TypeIs o T/\V8 (S8 prog w) A (getItem o i) Q E e) E k) E s):
  V8 (S8 prog w) A (eval (.Subscript b a f) d) Q E s:=by
 refine Subscript_ (pC h (λo k m=>pC m (λi e g=>?_) λ_ _ x=>x) λ_ _ x=>x);obtain⟨l,g⟩:=g;unfold subscriptTail;refine mC ?_;rw[getitemInPython_of_ne l.not_modules];refine mC (wpAny_specialOf l n ?_);let c:V8 (S8 prog w) A (subscripted a false o i) (λr j=>V8 (S8 prog w) A (letTemporaryGo b o r>>=λ_=>pure r) Q E j) E e:=by
  rw[p o i];exact wpAny_operating (pC g (λr j q=>mC (wpAny_letTemporaryGo (mT q))) λ_ _ x=>x)
 first
  |exact mT (mC c)
  |exact mC (mT (mC c))
  |exact mC c
theorem zNm{X:Cx}{c:C7}{σ:St}{H:Hp}{s:V2}{a:V1}{y:V}{o:Option V}(I:Inv X c σ H s)(g:zMg H a y o):s.TypeIs (.ref a) "dict":=by
 rcases g with⟨f,k,e,_,_⟩|⟨f,k,b,e,_,_,_⟩
 ·obtain⟨_,_,h,_,d⟩:=gW I.hok e
  exact d.typeIs
 ·obtain⟨_,_,i,_,d⟩:=zNg I.hok e
  exact d.typeIs
def zHa(c e:TE):TE:=λσ H Q=>c σ H λx d=>e σ d λy b=>∃a v,x= .ref a/\zMg b a y ↥v/\Q v b
def zUw(e c:TE):TE:=λσ H Q=>e σ H λy d=>c σ d λx b=>∃a o,x= .ref a/\zMg b a y o/\Q (.bl o.isSome) b
def zRl(e h d:TE):TS:=λD σ H=>d σ H λv g=>e σ g λx f=>h σ f λy c=>∃a b,x= .ref a/\DPut c a y v b/\D.nx σ b
section
variable{X:Cx}{o i e value:Expr}{pos pos' tpos:Pos}{td ty tv:TE}
theorem jR(f:X.A.units+1<cLine)(r:PE X o td)(l:PE X i ty)(w:NoSl i):PE X (.Subscript o i pos) (zHa td ty):=by
 intro b s σ H Q I h;refine yCp PySem.F.slot_dict_getitem.lookup w (thn (r b s σ H _ I h) λu m ⟨x,q,p,n,k⟩=>thn (l b m σ q _ p k) λD E z_=>?_);obtain⟨y,A,d,B,a,v,j,g,t⟩:=z_;subst j;obtain rfl:u=Value.ref a:=n;exact{zNm d g,zUa f d g B λJ L z c=>⟨v,A,z,c,t⟩}
theorem zEe(c:X.A.units+1<cLine)(j:PE X i ty)(p:PE X o td):PC X .In i o (zUw ty td):=by
 intro b s σ H Q I h;refine thn (j b s σ H _ I h) λA k ⟨y,n,m,w,f⟩=>thn (p b k σ n _ m f) λu B z_=>?_;obtain⟨x,v,t,l,a,z,d,g,q⟩:=z_;subst d;obtain rfl:u=Value.ref a:=l;exact d_in c t g w λD r=>{.bl z.isSome,v,r,O,q}
theorem zCh(c:X.A.units+1<cLine)(m:PE X o td)(j:PE X i ty)(d:PE X value tv)(M:S4 value ↥(.Subscript o i pos') pos.line X.env=pure false):
  PS X (.Assign [.Subscript o i pos'] value pos) (zRl td ty tv):=by
 intro b s σ H D I h;refine wpAny_Assign_Subscript (thn (d b s σ H _ I h) λr k ⟨v,J,E,l,w⟩=>thn (m b k σ J _ E w) λu z ⟨x,Q,N,A,L⟩=>thn (j b z σ Q _ N L) λiv s3 z_=>?_) M;obtain⟨y,H3,p,q,a,n,f,g,B⟩:=z_;subst f;obtain rfl:u=Value.ref a:=A;exact zTk c p g q l λs4 t=>⟨σ,n,t,B⟩
end
theorem zLo{P:V3}{w:V4}{H:Hp}(h:V5)(a:A7<h.objs.size):ObjOk P w H (h.push {cls:=.type "dict",data:=.dict #[]}) h.objs.size (.dK []):=
 {nR _,rV.mpr (Ne.symm (nP a)),[], .nil,Heap.DictOf.new h}
def zKv:TE:=λ_ H Q=>∀p,H p=none->Q (.ref p) (upd H p (.dK []))
section
variable{X:Cx}{pos:Pos}
theorem zGc:PE X (.Dict [] [] pos) zKv:=λb s σ H Q I h=>
 wpAny_Dict_empty {.ref s⁻¹,_,I.laid (a:=s⁻¹) (o:=.dK []) (t':=s.toks) (λ_ _ q=>mL _ q) (mE _) (zLo s.heap I.big),O,h _ (I.hok.fresh (mE _))}
end
def zGy:List (TE×TE)->St->Hp->(List (V×V)->Hp->Prop)->Prop
 |[],_,H,Q=>Q [] H|(tk,b)::r,σ,H,Q=>tk σ H λx e=>b σ e λy c=>zGy r σ c λd a=>Q ((x,y)::d) a
abbrev VV:List (V×V)->List (V0×V0)->Prop:=Paired λp q=>RelV p.1 q.1/\RelV p.2 q.2
def PPs(X:Cx)(e:Pos)(c:List (Option Expr))(a:C5)(d:List (TE×TE)):Prop:=
 ∀(b:C7)(s:V2)(σ:St)(H:Hp)(Q:List (V×V)->Hp->Prop),Inv X b σ H s->zGy d σ H Q->
  V8 (S8 X.prog X.w) X.A (evalPairs (pairTrees c a X.env e)) (λh i=>∃g f,Inv X b σ f i/\VV g h/\Q g f) X.xe s
theorem yCa{X:Cx}{a:Pos}:PPs X a [] [] []:=λb s σ H Q I h=>pairTrees_nil_walk {[],H,I, .nil,h}
theorem zCm{X:Cx}{c:Pos}{k v:Expr}{ks:List (Option Expr)}{vs:C5}{e f:TE}{b:List (TE×TE)}(A:PE X k e)(i:PE X v f)(t:PPs X c ks vs b):
  PPs X c (Y k::ks) (v::vs) ((e,f)::b):=λa s σ H Q I h=>
 pairTrees_cons_walk (thn (A a s σ H _ I h) λu m ⟨x,q,p,n,j⟩=>thn (i a m σ q _ p j) λJ l ⟨y,D,z,E,r⟩=>
  thn (t a l σ D _ z r) λM L ⟨B,g,w,d,o⟩=>{(x,y)::B,g,w, .cons ⟨n,E⟩ d,o})
def kC(kvs a:D0):List (Key×V):=a.foldl (λb c=>qG b c.1 c.2) kvs
theorem KV.merge:∀{a:D0}{b:List (Key×V0)}{kvs:D0}{vs:List (Key×V0)},KV a b->KV kvs vs->KV (kC kvs a) (merged vs b):=by
 intro a b kvs vs r;unfold KV at r
 induction r generalizing kvs vs with
 |nil=>intro q;exact q|@cons p q g f h t d=>
  intro c;let e:KV (qG kvs p.1 p.2) (stored vs q.1 q.2):=by
   let:=c.put p.1 h.2;rw[<-h.1];exact this
  exact d e
theorem gQ:∀(a kvs:D0),(kC kvs a)...*<=kvs...*+a...*
 |[],kvs=>by show kvs...*<=kvs...*+0;lia|p::r,kvs=>by
  let c:=gQ r (qG kvs p.1 p.2);let b:=zAz kvs p.1 p.2;show(kC (qG kvs p.1 p.2) r)...*<=_;rw[mW];lia
theorem zHc{P:V3}{w:V4}:∀{kvs:D0}{e:List (V0×V0)},VV (kvs.map λkv=>(kV kv.1,kv.2)) e->∃d,Carries (yZ P w) e d/\KV kvs d
 |[],_,r=>by rw[sP] at r;cases r;exact{[],mK, .nil}|p::kvs,_,r=>by
  rw[nG] at r
  cases r with
  |@cons a b as g h t=>
   obtain⟨d,c,q⟩:=zHc (P:=P) (w:=w) t;obtain⟨i,f⟩:=b;exact{(p.1,f)::d,{zHh h.1,O,c}, .cons ⟨O,h.2⟩ q}
def zVb(b:List (TE×TE)):TE:=λσ H Q=>∀p,H p=none->zGy b σ (upd H p (.dK [])) λe c=>c p=Y (.dK [])/\∃a:List (Key×V),e=a.map (λd=>(kV d.1,d.2))/\a...*<=15/\Q (.ref p) (upd c p (.dK (kC [] a)))
theorem yAv{X:Cx}{k:Pos}{b:List (Option Expr)}{d:C5}{j:List (TE×TE)}(h:PPs X k b d j)(g:b.all (·.isSome)=true)(hl:b...*=d...*)(t:b≠ [])
  (m:b...*<=15):PE X (.Dict b d k) (zVb j):=by
 intro l s σ H Q I q;let v:=I.hok.fresh (mE s⁻¹);let D:=I.laid (a:=s⁻¹) (o:=.dK []) (h':=s.heap.push {cls:=.type "dict",data:=.dict #[]}) (t':=s.toks) (λ_ _ q=>mL _ q) (mE _) (zLo s.heap I.big);refine wpAny_Dict_walk (knd:=yZ X.prog X.w) g hl t m (thn (h l _ σ _ _ D (q _ v)) λws s2 z_=>?_);obtain⟨ps,H2,p,n,e,f,y,lk,N⟩:=z_;subst y;obtain⟨r,c,rk⟩:=zHc (P:=X.prog) (w:=X.w) n;obtain⟨z,A,M,J,L⟩:=zRe p.hok e;cases J;refine{r,c,L,λu i hs=>{.ref s⁻¹,_, ?_,O,N}};let B:(kC [] f)...*<=V9:=by
  let x:=gQ f [];rw[rB] at x;rw[mS];lia
 let E:∃q,u.get? s⁻¹=Y q:=let ⟨q,_,_,hq,_⟩:=i;⟨q,hq⟩;exact zFm p (by rw[e];exact mK) hs E (zKj B A (rk.merge .nil) i)
structure M1(X:Cx)(o:Expr)(m:Str)(apos:Pos)(e:Expr)(cpos:Pos):Prop where
 base:attributeBase o m X.env (eval o X.env)=eval o X.env
 few:((S5 cpos (A5 [e] X.env)).all (λx=>!x.1)&& (backToKw cpos (keywordEach [] X.env)).all (λx=>x.1.isSome)
  && decide (([e]:C5)...*+([]:List Keyword)...*+(if([]:List Keyword).isEmpty then 0 else 1)<30))=true
 line:(apos.endLine==cpos.line)=true
 trees:S5 cpos (A5 [e] X.env)= [(false,eval e X.env)]
structure M2(X:Cx)(o:Expr)(m:Str)(apos:Pos)(e f:Expr)(cpos:Pos):Prop where
 base:attributeBase o m X.env (eval o X.env)=eval o X.env
 few:((S5 cpos (A5 [e,f] X.env)).all (λx=>!x.1)&& (backToKw cpos (keywordEach [] X.env)).all (λx=>x.1.isSome)
  && decide (([e,f]:C5)...*+([]:List Keyword)...*+(if([]:List Keyword).isEmpty then 0 else 1)<30))=true
 line:(apos.endLine==cpos.line)=true
 trees:S5 cpos (A5 [e,f] X.env)= [(false,eval e X.env),(false,eval f X.env)]
def IsD(H:Hp)(a:V1):Prop:=(∃b,Rd H a (.dK b))\/∃b,Rd H a (.dT b)
theorem yHc{X:Cx}{g:C7}{σ:St}{H:Hp}{s:V2}{a:V1}(I:Inv X g σ H s)(d:IsD H a):
  s.TypeIs (.ref a) "dict"/\(∀b,Value.ref a= .ref b->∃c,s.heap.get? b=Y c/\c.dict=none)/\(a==A7)=false:=by
 rcases d with⟨h,e⟩|⟨h,e⟩
 ·obtain⟨_,k,l,_,f⟩:=gW I.hok e
  refine{f.typeIs,λb q=>?_,k};cases q;ext zU f c _ _ i j _;exact⟨c,i,j.2.1⟩
 ·obtain⟨_,k,m,_,f⟩:=zNg I.hok e
  refine{f.typeIs,λb q=>?_,k};cases q;ext zU f c _ _ i j _;exact⟨c,i,j.2.1⟩
section
variable{X:Cx}{pins:C7}{σ:St}{H:Hp}{s:V2}{a:V1}{y d:V}{u r:V0}{o:Option V}{A:Around}{E:C9}
end
def zZr(e f:TE):TE:=λσ H Q=>e σ H λx d=>∃a,x= .ref a/\IsD d a/\f σ d λy c=>∃b k v,c a=Y (.dK b)/\y=kV k/\kK b k=Y v/\Q v (upd c a (.dK (dropK b k)))
section
variable{X:Cx}{o e f:Expr}{apos cpos:Pos}{td ty tx:TE}
theorem zMc(q:PE X o td)(E:PE X e ty)(m:M1 X o "pop" apos e cpos):PE X (.Call (.Attribute o "pop" apos) [e] [] cpos) (zZr td ty):=by
 intro b s σ H Q I h;refine wpAny_Call_method m.base m.few m.line bL PySem.F.slot_dict_pop PySem.F.type_dict_pop (thn (q b s σ H _ I h) λu p z_=>?_);obtain⟨x,D,g,A,a,n,d,w⟩:=z_;subst n;obtain rfl:u=Value.ref a:=A;obtain⟨z,t2,_⟩:=yHc g d;refine{z,t2, ?_};rw[m.trees];refine aH O (Calls.evalArgs_plain (bH (thn (E b p σ D _ g w) λM N z_=>bN ?_)));obtain⟨y,H2,L,t,j,k,v,i,B,l,J⟩:=z_;subst B;exact d_pop L i t l (.inl O) λw' s3 r c=>⟨v,_,r,c,J⟩
end
section
variable{X:Cx}{pins:C7}{σ:St}{H:Hp}{s:V2}{a:V1}{kvs:D0}{A:Around}{E:C9}
end
section
variable{X:Cx}{pins:C7}{σ:St}{H:Hp}{s:V2}{a:V1}{y:V}{u:V0}{A:Around}{E:C9}
end
end L2
namespace Att
open PySem PySem.W PySem.Calls PyProof.Rows
theorem zEt{P:Params}{h:V5}:∀(c:List Int)(vs:B7),WellAll P h vs (c.map WData.int)->IntsAre vs c:=by
 intro c
 induction c with
 |nil=>
  intro vs w;rw[List.map_nil] at w;cases w;exact .nil
 |cons n c d=>
  intro vs w;rw[List.map_cons] at w
  cases w with
  |cons a b=>
   cases a;exact .cons _ _ (d _ b)
theorem zTb{l:OpenLaw}{n:Nat}(v:l.most=Y n){P:Params}{h:V5}{args:List WData}{c:B7}
  (e:l.row.toRowW.claim.pre args=true) (k:WellAll P h c args):
  ∃a vs b,c= [Value.ref a]/\args= [WData.list (b.map WData.int)]/\h.get? a=some {cls:=.type "list",data:=.seq vs.toArray}/\IntsAre vs b/\b...*<=n:=by
 let m:WShape.hasAll [] args [.list .int]=true:=(pre_splitW e).1;let p:l.pre.holds [] {args:=args}=true:=(pre_splitW e).2;refine yL (hasAllW_cons m) λd r o x y=>?_;subst o;obtain rfl:=hasAllW_nil y;obtain⟨A,rfl,u⟩:=hasW_list x;obtain⟨b,rfl⟩:=items_int u;let f:b...*<=n:=by
  unfold OpenLaw.pre at p;let i:(WTm.not (.lt (.lit (.int (n:Int))) (.len (.arg 0)))).holds [] {args:=[.list (b.map .int)]}=true:=by
   let i:=(holds_andW p).1;rw[v] at i;exact i
  let j:=condW_of i (w_not (w_lt w_lit (w_len_list (w_arg O))));rw[List.length_map] at j;refine Nat.le_of_not_lt λq=>?_;let s:(n:Int)<((b...*:Nat):Int):=by lia
  first
   |(rw[decide_eq_true s] at j;exact absurd j ∎)
   |(simp at j;lia)
 cases k with
 |cons z t=>
  cases t
  cases z with|list w g=>exact{_,_,b,O,O,w,zEt b _ g,f}
theorem zTh(l:OpenLaw)(args:List WData):l.row.toRowW.claim.post args (.bool true) args=true:=
 postW_of (r:=l.row.toRowW) (X:=(true==true))
  (show WShape.has [] (.bool true) .bool=true by first | rfl | decide | simp[WShape.has,WShape.arms,WShape.armsAll])
  (show(WTm.eq .res (.lit (.bool true))).value [] {args:=args,res:=Y (.bool true),after:=args}=Y (.bool (true==true)) from w_eq_bool (w_res O) w_lit) O
theorem attach_call{l:OpenLaw}{n:Nat}{q:V3}{b:C1}{N:(Str->Option V0)->V5->Prop}{I:V4->V5->Prop}{d:DefRec}
  (hn:l.most=Y n) (B:d.params.defaults= [])
  (call:∀(w:V4)(v c:V2)(p z:C8)(i:V1)(o:Obj)(H t e:V0)(a:V1)(vs:B7)(m:List Int),
   Ground q b [] N w v p z c.heap->I w c.heap->
   c.heap.get? i=Y o->o.data= .func (docDef d.name d.params d.body d.scope H t e)->c.heap.CodeRec t d.name->p d.name=Y (.ref i)->
   c.heap.get? a=some {cls:=.type "list",data:=.seq vs.toArray}->IntsAre vs m->m...*<=n->c.gens= #[]->
   codeAny (S8 l.prog w) callerA (.call (.ref i) {[.ref a],[]}) (λr s=>r= .ok (.ret (.bool true))/\OldK c.heap s.heap/\s.os=c.os/\AllBare s.gens) c):
  WalkO q b N I l.row.toRowW d [] (λf vs=>PySem.call f vs):=by
 intro w v c p z G Yy i o H t e dV kV ho hd y M x hg Q L as k J ab E aa;obtain rfl:dV= .none:=Dflts.none M B;obtain rfl:kV= .none:=Dflts.noKw M;refine zU (zTb hn k E) λa vs m u A z_=>?_;ext oAA z_ j g h;subst u A;refine enter_call (codeAny_mono (call w v c p z i o H t e a vs m G Yy ho (fd_plain hd) y x j g h hg) λr s hq=>?_);ext xA hq D h2 h3 h4;subst D;exact{.inl {.bool true, .bool true,[],O,λ_=>O, .bool true,zTh l _,λ_=>{List.Pairwise.nil,λ_ hm=>(nomatch hm)}},h2,h3,h4}
section
variable{prog:V3}{w:V4}{A:Around}{E:C9}{s:V2}{K:Frag}
end
end Att
namespace L2
open PySem PySem.Spec PyProof.Rows
theorem zIz:∀{vs:B7}{a:List Int},IntsAre vs a->Vals (a.map V.int) vs
 |_,_, .nil=>.nil|_,_, .cons n t h=>.cons ⟨t,O⟩ (zIz h)
def yFx(H:Hp):Prop:=∀b,H b=none\/∃o a,H b=Y (.frz o (.lst a))
theorem zYs{P:V3}{w:V4}{K:A9}{t mb:C8}{CX:CXT}{k:Nat}{fa a:V1}{fd:V7}{x:Str}{sp:Sp}{c:V2}{vs:B7}{p:List Int}
  (KX:K.In c.heap) (L:c.heap.Ns A0 t) (g:c.heap.Ns builtinsNs mb) (aa:∀x:Str,x≠ "__name__"->mb x=A4 x) (E:c.heap.NoLimit) (hg:c.gens= #[])
  (Q:c.heap.get? a=some {cls:=.type "list",data:=.seq vs.toArray}) (hi:IntsAre vs p) (hl:p...*<=V9) (hr:Room k callerA)
  (F:∀base:V5,K.In base->base.Ns A0 t->FnOk P w K t base CX k fa fd [x] sp) (l:∀(s:V2)(u:V0),BindsTo s fd {[u],[]} [(x,u)])
  (ac:∀H:Hp,yFx H->SqL K H a (p.map V.int)->sp [.ref a] H (λv _=>v= .bl true) λ_ _ _=>False)
  (ab:∀H e s',CX [] H c (λ_ _ _=>False) e s'->False):
  codeAny (S8 P w) callerA (.call (.ref fa) {[.ref a],[]}) (λr s'=>r= .ok (.ret (.bool true))/\OldK c.heap s'.heap/\s'.os=c.os/\AllBare s'.gens) c:=by
 let rv:=zIz hi;let y:=hi...*
 -- from an abstract heap in which nothing but the script may be tracked
 let j:∀H:Hp,yFx H->SqL K H a (p.map V.int)->HOk P w H c.heap->(∀b,H b≠none->b=a)->(H a≠none->K.lookup a=none)->
   codeAny (S8 P w) callerA (.call (.ref fa) {[.ref a],[]}) (λr s'=>r= .ok (.ret (.bool true))/\OldK c.heap s'.heap/\s'.os=c.os/\AllBare s'.gens) c:=by
  intro H hO hS N hA hK;let f:∀{b:V1}{o:Obj},c.heap.get? b=Y o->H b=none->(zJm c.heap H).get? b=Y o:=λe n=>zWw e n;let ae:∀{b:V1}{o:Obj}{I:Array DictEntry}{A:Nat},c.heap.get? b=Y o->o.data= .dict I A->H b=none:=λ{b o I A} e d=>by
   cases q:H b with
   |none=>rfl|some u=>
    let e':b=a:=hA b (by rw[q];simp);subst e';rw[Q] at e;cases e;let d':Data.seq vs.toArray _=Data.dict I A:=d;cases d'
  let i:∀{b:V1}{m:C8},c.heap.Ns b m->(zJm c.heap H).Ns b m:=λ{b m} ⟨o,I,A,e,d,r⟩=>{o,I,A,f e (ae e d),d,r};let J:K.In (zJm c.heap H):=λb o e=>f (KX b o e) (by
   cases q:H b with
   |none=>rfl|some u=>
    let e':b=a:=hA b (by rw[q];simp);subst e';rw[hK (by rw[q];simp)] at e;cases e)
  let hM:Mod K t (zJm c.heap H):={J,i L,{mb,i g,aa},let ⟨mc,h1,h2⟩:=E;{mc,i h1,h2}};let e0:Env0 P w K t (zJm c.heap H) callerA [] c H:=⟨O,hM,λb o e=>yCh e,Nat.le_of_eq (zTy _ _),trivial,λb g=>absurd (show b∈([]:B9) from g) (by simp),N, .of_eq hg⟩;refine rT ((F _ J (i L)).run callerA [] c H {[.ref a],[]} [.ref a] [.ref a] _ _ hr e0 (l c (.ref a)) (.cons O .nil) (ac H hO hS)) λr s' h=>?_
  cases r with
  |error e=>exact(ab H e s' h).elim|ok fl=>
   cases fl with
   |next=>exact False.elim h|brk=>exact False.elim h|cont=>exact False.elim h|ret u=>
    ext zR h v H' os M un z_;ext oAA z_ B r' q;let q':v= .bl true:=q;subst q';obtain rfl:u=Value.bool true:=r';refine⟨O,OldK.of_keep λb o e=>?_,os,M⟩
    cases q:H b with
    |none=>exact un.keep b o e q (by intro z;exact absurd (show b∈([]:B9) from z) (by simp)) (by simp)|some u=>
     rcases hO b with z |⟨ob,xs,z⟩
     ·rw[q] at z;cases z
     ·let z2:=un.frzs b ob _ z
      obtain⟨e1,_⟩:=N b _ z;obtain⟨e2,_⟩:=B b _ z2;rw[e] at e1;cases e1;exact e2
 cases hk:K.lookup a with
 |some o=>
  -- the script is one of the module's own objects
  let e:=KX a o hk;rw[Q] at e;cases e;refine j (λ_=>none) (λ_=>.inl rfl) (.inr ⟨_,vs.toArray,_,hk,rfl,rfl,rfl,by rw[mY,y];exact hl,by simpa using rv⟩) (λb u z=>by let D:(none:Option HO)=Y u:=z;cases D) (λb z=>absurd rfl z) λz=>absurd rfl z
 |none=>
  refine j (λb=>if b=a then Y (.frz {cls:=.type "list",data:=.seq vs.toArray} (.lst (p.map V.int))) else none) (λb=>?_) (.inl (.inr {{cls:=.type "list",data:=.seq vs.toArray},mP O})) (λb u z=>?_) (λb z=>?_) λ_=>hk
  ·by_cases g:b=a
   ·exact .inr {_,_,mP g}
   ·exact .inl (mI g)
  ·by_cases g:b=a
   ·let D:=(mP g).symm.trans z
    cases D;subst g;exact{Q,by rw[mN];exact hl,vs,_,rv,Q}
   ·let D:=(mI g).symm.trans z
    cases D
  ·by_cases g:b=a
   ·exact g
   ·exact absurd (mI g) z
abbrev KOf{K:A9}{h:V5}(_:K.In h):A9:=K
theorem zSc{l:W.OpenLaw}{n k:Nat}{q:V3}{c:C1}{XP:(Str->Option V0)->V5->Prop}{I:V4->V5->Prop}{d:DefRec}{K:Params->A9}{CX:V4->CXT}{sp:V4->Sp}{x:Str}
  (M:l.most=Y n) (A:n<=V9) (y:d.params.defaults= []) (hr:Room k callerA)
  (J:∀(w:V4)(h:V5),I w h->(K w.params).In h)
  (F:∀(w:V4)(i:C8)(m:V1)(h:V5),(K w.params).In h->h.Ns A0 i->i d.name=Y (.ref m)->
   ∃D:V7,(∀(s:V2)(u:V0),BindsTo s D {[u],[]} [(x,u)])/\
    ∀base:V5,(K w.params).In base->base.Ns A0 i->FnOk l.prog w (K w.params) i base (CX w) k m D [x] (sp w))
  (B:∀(w:V4)(H:Hp)(a:V1)(p:List Int),p...*<=n->yFx H->SqL (K w.params) H a (p.map V.int)->sp w [.ref a] H (λv _=>v= .bl true) λ_ _ _=>False)
  (z:∀(w:V4)(H:Hp)(s:V2)(e:V0)(t:V2),CX w [] H s (λ_ _ _=>False) e t->False):
  W.WalkO q c XP I l.row.toRowW d [] (λf vs=>PySem.call f vs):=by
 refine Att.attach_call M y λw s₀ Q i mb m o pm cd N a vs p G Yy ho hd L r j g b hg=>?_;let E:=J w _ Yy;obtain⟨D,hb,hF⟩:=F w i m _ E G.T.g r;exact zYs E G.T.g G.T.b G.T.builtins G.T.nolimit hg j g (nW b A) hr hF hb (λH hO hS=>B w H a p b hO hS) λH e t=>z w H Q e t
end L2
/- THE LAST THEOREM (shape;LID,My.*are yours):
   My.Adr:a structure of the addresses that your layer names (classes,functions);My.Txt K t:a structure (Prop) of the equations over K;
   My.txt_mk:{K} {implicit addresses ..} (e1:nsIn K A0 "law" =Y ↥(.ref f)) (e2:K.lookup f=Y {oc,od, .func (fnOf "law" "law" params body scope dV kV doc pm an cdv ct),sl}) (e3:codeIn K cdv "law" =true) .. :∃t,My.Txt K t
set_option maxRecDepth 100000 in
set_option maxHeartbeats 0 in
theorem PySem.Challenge.cw_LID_holds : PySem.Challenge.rw_LID.Holds := by
  w_on;o_law;k_head;(case hw=>w_witness2)
  k_fill
  refine L2.zSc (l:=PySem.Challenge.rw_LID) (n:=63) (k:=40) (x:="script") (CX:=λw=>..) (sp:=λ_=>My.sp_law) O ∎ O {O,by decide,by decide} (λw h g=>PySem.W.kIn_of g) ?F ?S ?C
  case F=>
    intro w m f h e G c;let T:∃t,My.Txt (L2.KOf e) t:=by
      dsimp only[L2.KOf]                          -- K must stand as «<heap const>w.params» for k_is;refine' My.txt_mk ?e1 ?e2 ?e3 ..
      (case e1=>PySem.W.k_is)                    -- in the order:a name ->its address ->its object ->its parts
      (case e2=>PySem.W.k_is)
      ..
    obtain⟨t,T⟩:=T;let i:=c.symm.trans (PySem.W.mg_of e G T.law);cases i                                       -- f is the law's own address;exact{_,λs u=>.of_eq O,λbase d nb=>My.law_fn T d nb}     -- if «.of_eq O» comes too early:refine' {_, ?b,λbase d nb=>My.law_fn T d nb};exact λs u=>.of_eq O
  case S=>exact λw H a j o p q=>..
  case C=>exact ..
(the tactic k_is has no namespace:write k_is)-/
namespace L2
open PySem PySem.Spec PyProof.Rows
def wH(s:V6):Arguments:=match s with|.FunctionDef _ a _ _ _ _ _ _ _ _=>a|_=>{posonlyargs:=[],args:=[],vararg:=none,kwonlyargs:=[],kw_defaults:=[],kwarg:=none,defaults:=[]}
def xQ(s:V6):List V6:=match s with|.FunctionDef _ _ b _ _ _ _ _ _ _=>b|_=>[]
def yB(s:V6):Scope:=match s with|.FunctionDef _ _ _ _ _ _ a _ _ _=>a|_=>{kind:=.function,names:=[],isGenerator:=false,isCoroutine:=false}
abbrev CX0:CXT:=λ_ _ _ _ _ _=>False
abbrev E0:XK:=λ_ _ _=>False
theorem yEg{X:Cx}:zAd CX0 X E0:=λ_ _ _ _ _ _ _ h=>h.elim
structure Fun(K:A9)(x qual:Str)(st:V6)(f:V1)(fd:V7):Prop where
 ex:∃(oc:V0)(od:Option V1)(kV doc pm:V0)(an:Option V1)(cdv ct:V0)(osl:Array (Option V0)),
  fd=W.fnOf x qual (wH st) (xQ st) (yB st) .none kV doc pm an cdv ct/\K.lookup f=Y {oc,od, .func fd,osl}/\S2 K cdv qual=true
 kp:S0 K (.ref f)=true
section
variable{P:V3}{w:V4}{K:A9}{mg:C8}{base:V5}
theorem Fun.ok{x b:Str}{st:V6}{f:V1}{m:V7}{N ps:C1}{k:Nat}{sp:Sp}(F:Fun K x b st f m)(S:wF N ps (yB st))(len:∀d H Q E,sp d H Q E->d...*=ps...*)
  (e:∀(c:V0)(A:Around)(a:List P0)(s:V2)(H:Hp)(d:B3)(Q:VK)(E:XK),Room k (A.deeper (envOfC b (yB st) s⁻¹ f c))->sp d H Q E->
   ∃t,PSs (zCl CX0 P w K mg base N b (yB st) f c A a s H E).nox (xQ st) t/\t {nx:=λ_ H'=>Q .non H',rt:=Q} (jX N d) H):FnOk P w K mg base CX0 (k+1) f m ps sp:=by
 refine yA (F.ex) λz r kV o y l=>?_;ext yN l u c v n j l;ext oA l lk i;subst j;refine zQf lk i S len λA a s H d Q E p g=>?_;obtain⟨t,h,q⟩:=e c A a s H d Q E p g;exact⟨t,h.nox,q⟩
theorem Fun.binds{x a:Str}{st:V6}{f:V1}{k:V7}{ps:C1}(F:Fun K x a st f k)
  (h:∀(kV b d:V0)(g:Option V1)(c j:V0)(us:B7),us...*=ps...*->bindArgs (W.fnOf x a (wH st) (xQ st) (yB st) .none kV b d g c j) {us,[]}=pure (ps.zip us)):Binds K k ps []:=by
 refine yA (F.ex) λn o kV b d e=>?_;ext yN e g c j l i e;ext oA e lk m;subst i;exact .all (h kV b d g c j)
theorem zWh{x a:Str}{st:V6}{f:V1}{j:V0}{od h:Option V1}{e:Array (Option V0)}{kV d g b i:V0}(l:K.lookup f=Y {j,od, .func (W.fnOf x a (wH st) (xQ st) (yB st) .none kV d g h b i),e})
  (c:S2 K b a=true) (k:S0 K (.ref f)=true):Fun K x a st f (W.fnOf x a (wH st) (xQ st) (yB st) .none kV d g h b i):={⟨j,od,kV,d,g,h,b,i,e,O,l,c⟩,k}
end
theorem wY{A:Around}{k:Nat}(a:Room k A):A.units+1<cLine:=cW (Nat.add_le_add_left (by decide:1<=64) _) a.units
section
variable{X:Cx}
theorem pv(i:Nat){x:Str}{a:Pos}(e:X.N[i]? =Y x:=by rfl)(c:Vis X.env.scope x:=by first | exact nO O | exact aL (nO O)| exact aL (aL O))(d:(x==("__debug__" :Str))=false:=by decide)
  (b:(x==("__classdict__" :Str))=false:=by decide):PE X (.Name x a) (jC i):=zWg e c d b
theorem zTp{A B:Prop}(h:B):if false=true then A else B:=by
 rw[mI nD];exact h
theorem zPo{A B:Prop}(h:A):if true=true then A else B:=by
 rw[mP O];exact h
def Same(H a:Hp):Prop:=∀b o,H b=Y o->a b=Y o
theorem Same.refl(H:Hp):Same H H:=λ_ _ h=>h
theorem Same.trans{H H1 d:Hp}(a:Same H H1)(b:Same H1 d):Same H d:=λc o h=>b c o (a c o h)
theorem Same.seq{K:A9}{H b:Hp}{a:V1}{xs:B3}(e:Same H b)(h:SqL K H a xs):SqL K b a xs:=by
 rcases h with(h |⟨o,h⟩)| h
 ·exact .inl (.inl (e _ _ h))
 ·exact .inl (.inr {o,e _ _ h})
 ·exact .inr h
theorem zDl:wX X (.builtin "len") (λxs H Q=>∃a kvs,xs= [V.ref a]/\H a=Y (.dK kvs)/\Q (.int kvs...*) H):=by
 intro c s σ H xs i Q I r h;ext yL h a kvs b f q;subst b;obtain⟨u,rfl,d⟩:=jH r;cases d;exact yEk I (.inl f) λt g e=>{.int kvs...*,H,e,⟨t,O⟩,q}
end
section
variable{κ:Type} [DecidableEq κ]
theorem yBe{kvs:List (κ×V)}{k:κ}{v:V}(h:kK kvs k=Y v):k∈kvs.map (·.1):=by
 let q:(kvs.any λa=>decide (a.1=k))=true:=by
  rw[zCz,h]
  all_goals rfl
 obtain⟨p,b,e⟩:=bZ.mp q;exact nV.mpr {p,b,sS e}
theorem zQn:∀{l:List κ}{k:κ},l.Nodup->¬k∈l->(l++ [k]).Nodup
 |[],k,_,_=>by simp|a::r,k,h,b=>by
  obtain⟨c,d⟩:=nX.mp h;show(a::(r++ [k])).Nodup;refine nX.mpr {λm=>?_,zQn d λm=>b (mF.mpr (aL m))};rcases nB.mp m with q | q
  ·exact c q
  ·exact b (mF.mpr (nO (mH.mp q).symm))
end
abbrev ts(x:Str):List Nat:=x.cps.toList
abbrev tx(l:List Nat):Str:=⟨l.toArray⟩
theorem qZ(l:List Nat):ts (tx l)=l:=rfl
theorem qJ(x:Str):tx (ts x)=x:=by cases x;simp[tx,ts]
theorem zPc(x:Str):x...*=(ts x)...*:=by simp[Str.length,ts]
theorem kZ(l:List Nat):(tx l)...*=l...*:=by simp[Str.length,tx]
theorem zJh{x y:Str}(h:ts x=ts y):x=y:=by rw[<-qJ x,<-qJ y,h]
theorem zHl(a b:List Nat):tx a++tx b=tx (a++b):=by
 apply zJh;show(a.toArray++b.toArray).toList=a++b;simp
theorem zIl(xs:Array Nat):∀(k:Nat)(acc:Array Nat),((List.replicate k xs).foldl (· ++ ·) acc).toList=acc.toList++(List.replicate k xs.toList).flatten
 |0,acc=>by simp|k+1,acc=>by
  rw[rH,tK,zIl xs k (acc++xs)];simp[rH]
theorem yIa(x:Str)(n:Int):Txt.mul x n=tx (List.replicate n.toNat (ts x)).flatten:=by
 apply zJh;rw[qZ];unfold Txt.mul
 by_cases b:n<1
 ·rw[mP b]
  let e:n.toNat=0:=by lia
  rw[e];rfl
 ·rw[mI b]
  by_cases a:(n==1 || x...*==0)=true
  ·rw[mP a]
   rcases(Bool.or_eq_true _ _).mp a with h3 | h3
   ·let e:n=1:=by simpa using h3
    subst e;simp
   ·let e:x...*=0:=by simpa using h3
    rw[zPc] at e;let c:ts x= []:=aJ e;show ts x=_;rw[c];simp
  ·rw[mI a]
   show((List.replicate n.toNat x.cps).foldl (· ++ ·) #[]).toList=_;rw[zIl];simp
section
variable{X:Cx}
def zWb:R2:=λx y H Q=>∃z n,x= .str z/\y= .int n/\z...*<=1000/\-1000<=n/\n<=1000/\Q (.str (tx (List.replicate n.toNat (ts z)).flatten)) H
theorem uN:OpR X (binaryOp .Mult) zWb:=by
 intro f s σ H x y v u Q I i m h;ext zR h z n d c g j;ext oAA j o p q;subst d c;obtain⟨t,rfl⟩:=i;obtain⟨l,rfl⟩:=m;refine SB.mul {by rw[nJ ∅,nJ ∅];rfl,λa _ b=>?_,λa _=>?_} λl k=>{.str (Txt.mul z n),H,I.tok _,⟨_,O⟩,by rw[yIa];exact q}
 ·let r:(9223372036854775:Int)<=(2 ^ 63 - 1:Int)/ n:=Int.le_ediv_of_mul_le ∅ ∅
  lia
 ·unfold PySem.Builtin.Str.tooLong
  let e:z...**n.toNat<=1000*1000:=Nat.mul_le_mul g ∅;exact nJ (by rw[mS];lia)
theorem zPq{ys:C1}:∀{us:B7},Vals (ys.map V.str) us->StrsAre us ys:=by
 induction ys with
 |nil=>intro us r;rw[sP] at r;cases r;exact .nil|cons n d b=>
  intro us r;rw[nG] at r
  cases r with
  |cons a c=>
   obtain⟨t,e⟩:=a;subst e;exact .cons n t (b c)
theorem zGj(g:Str):∀(ps:C1)(acc:Array Nat),(ps.foldl (λa p=>a++g.cps++p.cps) acc).toList=acc.toList++(ps.map λp=>ts g++ts p).flatten
 |[],acc=>by simp|p::ps,acc=>by
  rw[tK,zGj g ps];simp
theorem zWv(ys:C1):Txt.join (tx []) ys=tx (ys.map ts).flatten:=by
 apply zJh;show((ys.drop 1).foldl (λa p=>a++(tx []).cps++p.cps) (ys.headD Str.empty).cps).toList=_;rw[zGj]
 cases ys with
 |nil=>rfl|cons y r=>
  show ts y++(List.map (λp=>ts (tx [])++ts p) r).flatten=ts y++(List.map ts r).flatten;simp only[qZ,aE]
def rJoin(K:A9):V->List V->Hp->VK->Prop:=λx b H Q=>∃(p:V1)(a:C1),x= .str (tx [])/\b= [.ref p]/\SqL K H p (a.map V.str)/\((a.map ts).flatten)...*<=100000/\Q (.str (tx (a.map ts).flatten)) H
theorem yAh(ys:C1):(ys.map (·.length)).sum=((ys.map ts).flatten)...*:=by
 induction ys with|nil=>rfl|cons y r a=>rw[nG,List.sum_cons,a,nG,sD,mM,zPc]
theorem zQs:MtR X "str.join" (rJoin X.K):=by
 intro d s σ H x o v y Q I i j h;ext zR h p c b a l m;ext oA m n q;subst b a;obtain⟨t,rfl⟩:=i;obtain⟨u,rfl,e⟩:=j.one;cases e;refine xC (I.list l) λg r f _=>?_;refine join_list (ys:=c) f.isList (by simpa using zPq r) ?_ λw k=>{.str (Txt.join (tx []) c),H,I.tok _,⟨_,O⟩,by rw[zWv];exact q};rw[yAh,show(tx [])...*=0 from O,Nat.mul_zero]
 lia
def yHf(a:Bool):R2:=λx y H Q=>∃c j,x= .str (tx [c])/\y= .str j/\Q (.bl (if a then !decide (c∈ts j) else decide (c∈ts j))) H
theorem zRt:OpR X (A6 .In) (yHf false):=by
 intro a s σ H x y v u Q I f g h;ext yL h c j d b q;subst d b;refine zSg a s σ H _ _ v u Q I f g {_,_,O,O, ?_};let e:=StrLaws.found_one j c;rw[show(tx [c]:Str)={#[c]} from O,e];exact q
def Its(x:Str):It:={λi _=>i<(ts x)...*,λi H y a=>a=H/\∃c,(ts x)[i]? =Y c/\y= .str (tx [c]),λi _=>(ts x)...*<=i}
theorem zVz{P:V3}{w:V4}{K:A9}{tg:Expr}(x:Str)(t:Tok)(it:V1)(p:String)(l:p= "str_ascii_iterator"\/p= "str_iterator"):zHt P w K tg (Its x) [it] it (λi h=>h.IsStrIter it p x t i) where
 mem:=by simp
 obj:=λi h st b j=>by
  let e:b=it:=by simpa using j
  subst e;ext xC st o e c d;exact⟨o,e,λv z=>by rw[d] at z;cases z⟩
 keep:=λi h a st k=>by
  ext xC st o e c d;exact⟨o,k it (by simp) o e,c,d⟩
 item:=by
  intro X M Q hK hc i g s σ H E I L st hg;subst M Q hK;refine zS (L it (by simp)) λy J f2 A D B=>?_;let r:i<(ts x)...*:=hg;let n:x.cps[i]? =some (ts x)[i]:=by
   rw[<-sL];simp[r]
  let q:∀a,a.IsStrIter it p x t (i+1)->Heap.SameBut it s.heap a->∃u,Y (Value.str {#[(ts x)[i]]} s.toks)=Y u/\
    V8 (S8 X.prog X.w) X.A (letOwnedTupleGo tg (.ref it) u) (λ_ s2=>∃x' N,Inv X g σ N s2/\RelV x' u/\(Its x).yld i H x' N/\s2.heap.IsStrIter it p x t (i+1)/\∀b∈ [it],N b=none) E {s with heap:=a,toks:=s.toks+1}:=λa f m=>by
   let I1:Inv X g σ H {s with heap:=a,toks:=s.toks+1}:=I.turned (t':=s.toks+1) (λb o j e=>(m.2 b j).trans e) y J A D B;refine xC (id f) λo e c d=>?_;refine{_,O,zLs (s:={s with heap:=a,toks:=s.toks+1}) e c d ?_ {.str (tx [(ts x)[i]]),H,I1,⟨_,O⟩,{O,_,by simp[r],O},f,λb j=>(L b j).1}};rcases l with z | z<;>(rw[z];decide)
  rcases l with z | z
  ·subst z;exact wpAny_pyNext_ascii_item st n λa f m=>q a f m
  ·subst z;exact wpAny_pyNext_wide_item st n λa f m=>q a f m
 done:=by
  intro X M Q hK hc i g s σ H E I L st hg;subst M Q hK;refine zS (L it (by simp)) λy J f2 A D B=>?_;let r:(ts x)...*<=i:=hg;let n:x.cps[i]? =none:=by
   rw[<-sL];exact sM r
  rcases l with z | z
  ·subst z;exact wpAny_pyNext_ascii_end (I.ok.hd hc) st n λa eb=>{O,I.turned (t':=s.toks) (λb o j e=>eb b o j e) y J A D B}
  ·subst z;exact wpAny_pyNext_wide_end (I.ok.hd hc) st n λa eb=>{O,I.turned (t':=s.toks) (λb o j e=>eb b o j e) y J A D B}
 self:=λ_ _ _ _ _ st h=>by
  rcases l with z | z
  ·subst z;exact wpAny_pyIter_striter_ascii st h
  ·subst z;exact wpAny_pyIter_striter_wide st h
def yFg(b:TE):TI:=λσ H R=>b σ H λx a=>∃z,x= .str z/\R (Its z) a
theorem zYb{j l:Expr}{m:TE}(u:PE X l m):PI X j l (yFg m):=by
 intro a s σ H R I h;refine thn (u a s σ H _ I h) λv c z_=>?_;obtain⟨x,r,g,w,p⟩:=z_;obtain⟨z,rfl,q⟩:=p;obtain⟨t,rfl⟩:=w;let f:∀d,(d= "str_ascii_iterator"\/d= "str_iterator")->PIE X a σ j R (.ref c⁻¹) {c with heap:=c.heap.push {cls:=.type d,data:=.fields #[.str z t, .int 0 0]}}:=λd i=>by
  refine⟨c⁻¹,[c⁻¹],_,_,r,O,g.kept (t':=c.toks) λb o e=>mL _ e,zVz z t _ d i,⟨_,nM _ rfl,rfl,rfl⟩,λb n=>?_,q⟩;let e:b=c⁻¹:=by simpa using n
  subst e;exact g.fpOk (mE _) (g.hok.fresh (mE _))
 cases k:z.cps.all (· <128) with|true=>exact wpAny_pyIter_ascii k (f _ (.inl O))|false=>exact wpAny_pyIter_wide k (f _ (.inr O))
theorem zNf{a:List Bool}:∀{us:B7},Vals (a.map V.bl) us->PyProof.Rows.LSm.BoolsAre us a:=by
 induction a with
 |nil=>intro us r;rw[sP] at r;cases r;exact .nil|cons n e c=>
  intro us r;rw[nG] at r
  cases r with
  |cons b d=>
   cases (show _=Value.bool n from b);exact .cons n (c d)
theorem gC(x:X.calm=true):wX X (.builtin "all") (λxs H Q=>∃(p:V1)(a:List Bool),xs= [.ref p]/\SqL X.K H p (a.map V.bl)/\Q (.bl (a.all id)) H):=by
 intro k s σ H xs M Q I r h;ext yL h p a d w q;subst d;obtain⟨u,rfl,t⟩:=jH r;cases t;refine xC (I.list w) λc n m L=>?_;let g:=m.isList;let j:=zNf n;let f:p<s⁻¹:=by obtain⟨_,e,_⟩:=g;exact mZ e
 refine call_all_walk (bM g ?_);refine{s⁻¹,[s⁻¹,p],[s⁻¹],c.toArray.size,_,_,λi=>(a[i]?).getD true,O,Walks.list (A:=X.A.in1) (I.ok.hd x) _ p (nP f) c.toArray,
  {{_,nM _ O,O,O},g.push _},λi v D J E o l=>?_,λB z y=>?_}
 ·obtain⟨b,e,rfl⟩:=j.get i v (by simpa using o)
  simp only[e,Option.getD_some] at l;exact pZ l
 ·let e:((List.range c.toArray.size).all λi=>(a[i]?).getD true)=a.all id:=by
   rw[mY,j...*];exact PyProof.Rows.LSm.range_all a
  rw[e];exact{.bl _,H,I.kept (PyProof.Rows.LSm.kept_iter y),O,q}
theorem zYl(o:X.calm=true):wX X (.builtin "sum") (λxs H Q=>∃(p:V1)(a:List Int),xs= [.ref p]/\SqL X.K H p (a.map V.int)/\Q (.int a.sum) H):=by
 intro g s σ H xs z Q I r h;ext yL h p a d l q;subst d;obtain⟨u,rfl,j⟩:=jH r;cases j;refine xC (I.list l) λb k i x=>?_;let e:=zOf k;obtain⟨xs,f⟩:=e.allInts.items;let c:s.heap.IsList p (intItems xs):=f▸i.isList;refine sum_intListG (I.ok.hd o) c λw v y t=>?_;let n:a=xs.toList.map (·.1):=by
  rw[<-nums_intItems,<-f];exact(show numsOf b.toArray.toList=a from e.numsOf).symm
 let m:preSum (numAt xs) xs.size=a.sum:=by
  rw[preSum_eq,rM (by simp),n]
 rw[m];exact{.int _,H,I.kept t,⟨_,O⟩,q}
def zHw:List V->List V->Bool
 |[],[]=>true|x::a,y::b=>eqV x y && zHw a b|_,_=>false
theorem zGz:∀(xs ys:B3),xs...*=ys...*->(List.range xs...*).all (λj=>match xs[j]?,ys[j]? with | some a,Y b=>eqV a b | _,_=>true)=zHw xs ys
 |[],[],_=>rfl|x::xs,y::ys,h=>by
  let c:=zGz xs ys (by simpa using h);rw[mW,List.range_succ_eq_map,bW,cI];show(eqV x y && _)=(eqV x y && zHw xs ys);rw[<-c]
  congr 1
theorem zLl:∀{xs ys:B3},xs...*≠ys...*->zHw xs ys=false
 |[],[],h=>absurd O h|[],_::_,_=>rfl|_::_,[],_=>rfl|x::xs,y::ys,h=>by
  let a:=zLl (xs:=xs) (ys:=ys) (by simpa using h);show(eqV x y && zHw xs ys)=false;rw[a,tR]
def rEqL(K:A9)(e:Bool):R2:=λx y H Q=>∃a b d c,x= .ref a/\y= .ref b/\SqL K H a d/\SqL K H b c/\d.all jF=true/\c.all jF=true/\Q (.bl (if e then !zHw d c else zHw d c)) H
theorem Vals.some_at{xs:B3}{us:B7}(r:Vals xs us){j:Nat}(h:j<us...*):∃x,xs[j]? =Y x/\RelV x us[j]:=by
 let b:=r...*;obtain⟨x,e⟩:∃x,xs[j]? =Y x:={xs[j],by simp[b,h]};obtain⟨u,a,c⟩:=r.get e;let d:us[j]? =some us[j]:=by simp[h]
 rw[d] at a;cases a;exact⟨x,e,c⟩
theorem zXy{A:Around}{s:V2}{xs ys:B3}{us c:B7}(r:Vals xs us)(q:Vals ys c)(l:xs.all jF=true)(i:ys.all jF=true):
  ∀j(e:j<us.toArray.size)(g:j<c.toArray.size),SeqAt.EqAt A s us.toArray[j] c.toArray[j] ((λj=>match xs[j]?,ys[j]? with | some a,Y b=>eqV a b | _,_=>true) j):=λj e g=>by
 obtain⟨x,f,m⟩:=r.some_at (j:=j) (by simpa using e);obtain⟨y,d,n⟩:=q.some_at (j:=j) (by simpa using g);let k:jF x=true:=rF.mp l x (mO f);let h:jF y=true:=rF.mp i y (mO d);let z:=zVv (A:=A) (s:=s) m n k h;simp only[f,d]
 simpa using z
theorem yBf(i:X.A.units<cLine):OpR X (A6 .NotEq) (rEqL X.K true):=by
 intro o s σ H x y v u Q I J E h;ext yN h a b n j g A;ext zS A f L D B r q;subst g f;cases J;cases E;refine xC (I.list L) λt p d _=>?_;refine xC (I.list D) λk m c _=>?_;let l:=p...*;let w:=m...*
 by_cases e:n...*=j...*
 ·refine SeqAt.RcNeAt.lists d.isList c.isList (by simp only[mY];lia) i (zXy p m B r) X.prog X.w X.xe _ {.bl _,H,I,O, ?_}
  rw[mY,<-l,zGz n j e];exact q
 ·refine SeqAt.RcNeAt.lists_lengths d.isList c.isList (by simp only[mY];simpa [<-l,<-w] using e) i X.prog X.w X.xe _ {.bl _,H,I,O, ?_}
  let z:=zLl e
  simpa [z] using q
def tyS(H:Hp):V->Option String
 |.non=>some "NoneType"|.bl _=>some "bool"|.int _=>some "int"|.str _=>some "str"|.ref a=>match H a with
  |some (.lst _)=>some "list"|some (.tup _)=>some "tuple"|some (.dK _)=>some "dict"|_=>none
 |_=>none
def yC(t T:String):Bool:=t==T ||(t== "bool" && T== "int")
theorem zYc{K:A9}{H:Hp}{x:V}{t:String}(h:tyS H x=Y t):zDr K H x (.type t):=by
 cases x with
 |non=>cases h;exact .non|bl b=>cases h;exact .bl b|int i=>cases h;exact .int i|str z=>cases h;exact .str z|ref a=>
  let c:(match H a with | some (.lst _)=>some "list" | some (.tup _)=>some "tuple" | some (.dK _)=>some "dict" | _=>none)=Y t:=h
  cases e:H a with
  |none=>rw[e] at c;cases c|some o=>
   rw[e] at c
   cases o with|lst f=>cases c;exact .lst e|tup f=>cases c;exact .tup e|dK d=>cases c;exact .dK e|_=>cases c
 |byt b=>cases h|flt b=>cases h|ty n=>cases h
def tyL:List String:=["NoneType","bool","int","str","list","tuple","dict"]
def kitB(t T:String):Option Bool:=if(Value.type t==Value.type T)=true then Y true else if W.kitMeta T=true then(fastBuiltinMro t).map (·.contains (.type T)) else none
theorem yBw:(tyL.all λt=>tyL.all λT=>kitB t T==Y (yC t T))=true:=by decide+kernel
theorem zDi{K:A9}{t T:String}(d:t∈tyL)(c:T∈tyL):W.kitOne K (.type t) (.type T)=Y (yC t T):=by
 let a:=rF.mp (rF.mp yBw t d) T c;let b:kitB t T=Y (yC t T):=by simpa using a
 exact b
theorem qU{H:Hp}{x:V}{t:String}(h:tyS H x=Y t):t∈tyL:=by
 cases x<;>first |(cases h;simp[tyL];done)|(cases h;done)| skip
 rename_i a;let b:(match H a with | some (.lst _)=>some "list" | some (.tup _)=>some "tuple" | some (.dK _)=>some "dict" | _=>none)=Y t:=h
 split at b<;>first |(cases b;simp[tyL];done)|(cases b;done)
theorem yAs{g:C7}{σ:St}{H:Hp}{s:V2}{x:V}{u:V0}{t:String}(I:Inv X g σ H s)(b:RelV x u)(h:tyS H x=Y t):
  ∃φ:V5->Prop,W.KitX X.K u (.type t) φ/\φ s.heap/\u≠ .builtin "__main__.__loader__#opaque":=by
 cases zYc (K:=X.K) h with
 |non=>cases (show u=Value.none from b);exact{_,W.kitx_none,mK,λz=>nomatch z}|bl y=>cases (show u=Value.bool y from b);exact{_,W.kitx_bool,mK,λz=>nomatch z}|int i=>obtain⟨t,q⟩:=(show∃t,u=Value.int i t from b);cases q;exact{_,W.kitx_int,mK,λz=>nomatch z}
 |str y=>obtain⟨t,q⟩:=(show∃t,u=Value.str y t from b);cases q;exact{_,W.kitx_str,mK,λz=>nomatch z}
 |flt y=>obtain⟨t,q⟩:=(show∃t,u=Value.float y t from b);cases q;exact{_,W.kitx_float,mK,λz=>nomatch z}
 |@lst a f c=>
  cases (show u=Value.ref a from b);obtain⟨_,_,n,_,d⟩:=(show ObjOk X.prog X.w H s.heap a (.lst f) from I.hok a _ c);exact{_,dS,⟨_,d,O⟩,λz=>nomatch z}
 |@frz a l f c=>
  cases (show u=Value.ref a from b);obtain⟨_,_,_,n,_,d⟩:=(show ObjOk X.prog X.w H s.heap a (.frz l (.lst f)) from I.hok a _ c);exact{_,dS,⟨_,d,O⟩,λz=>nomatch z}
 |@tup a f c=>
  cases (show u=Value.ref a from b);obtain⟨_,_,_,p⟩:=(show ObjOk X.prog X.w H s.heap a (.tup f) from I.hok a _ c);ext xC p o d j _;exact⟨_,W.kitx_tuple,⟨o,d,j⟩,λz=>nomatch z⟩
 |@dK a e c=>
  cases (show u=Value.ref a from b);obtain⟨_,_,r,_,p⟩:=(show ObjOk X.prog X.w H s.heap a (.dK e) from I.hok a _ c);ext zU p o k m d j _;exact⟨_,cR,⟨o,d,j.1⟩,λz=>nomatch z⟩
 |@dT a e c=>
  cases (show u=Value.ref a from b);obtain⟨_,_,f,_,o,k,m,d,j,_⟩:=(show ObjOk X.prog X.w H s.heap a (.dT e) from I.hok a _ c);exact{_,cR,⟨o,d,j.1⟩,λz=>nomatch z}
theorem jB{T U:String}(N:T∈tyL)(hU:U∈tyL):wX X (.builtin "isinstance") (λxs H Q=>∃x t p,xs= [x, .ref p]/\H p=Y (.tup [.ty T, .ty U])/\tyS H x=Y t/\Q (.bl (yC t T || yC t U)) H):=by
 intro j s σ H xs us Q I r h;ext zU h x t p a L A;ext oA A g q;subst a;refine yL (zEr r) λu w' c l f=>?_;subst c;cases (show w'=Value.ref p from f);refine xC (yAs I l g) λφ m B i=>?_;obtain⟨_,y,z,v⟩:=(show ObjOk X.prog X.w H s.heap p (.tup [.ty T, .ty U]) from I.hok p _ L);refine yL (zEr z) λD w e r1 M=>?_;subst e;cases (show D=Value.type T from r1);cases (show w=Value.type U from M);obtain⟨o,E,hc,n,hd⟩:=v;obtain⟨J,od,d,aa⟩:=o;cases (show J=Value.type "tuple" from hc);cases (show d=Data.seq _ n from hd);refine W.kia_tup m I.kIn B E (b:=yC t T || yC t U) ?_ i λtk=>{.bl _,H,I.tok _,O,q}
 let k:=zDi (K:=X.K) (qU g) N;let k2:=zDi (K:=X.K) (qU g) hU;simp only[W.kitAny,k,k2];cases yC t T<;>cases yC t U<;>rfl
theorem zHm{T:String}(g:T∈tyL):wX X (.builtin "isinstance") (λxs H Q=>∃x t,xs= [x, .ty T]/\tyS H x=Y t/\Q (.bl (yC t T)) H):=by
 intro c s σ H xs j Q I r h;ext yL h x t a d q;subst a;refine yL (zEr r) λu f a e b=>?_;subst a;cases (show f=Value.type T from b);exact zSo I e (zYc d) (zDi (qU d) g) λi=>{.bl _,H,I.tok _,O,q}
end
theorem yS:A4 "len" =Y (.builtin "len"):=by decide+kernel
theorem zH:A4 "isinstance" =Y (.builtin "isinstance"):=by decide+kernel
theorem zCa:A4 "all" =Y (.builtin "all"):=by decide+kernel
theorem yGa:A4 "sum" =Y (.builtin "sum"):=by decide+kernel
theorem yIq:A4 "abs" =Y (.builtin "abs"):=by decide+kernel
theorem yGo:A4 "ord" =Y (.builtin "ord"):=by decide+kernel
theorem zOe:A4 "min" =Y (.builtin "min"):=by decide+kernel
theorem yHt:A4 "max" =Y (.builtin "max"):=by decide+kernel
theorem uC:A4 "sorted" =Y (.builtin "sorted"):=by decide+kernel
theorem qW:A4 "int" =Y (.type "int"):=by decide+kernel
theorem jJ:A4 "str" =Y (.type "str"):=by decide+kernel
theorem zSd:A4 "bool" =Y (.type "bool"):=by decide+kernel
theorem yQ:A4 "list" =Y (.type "list"):=by decide+kernel
theorem xJ:A4 "dict" =Y (.type "dict"):=by decide+kernel
theorem uD:A4 "tuple" =Y (.type "tuple"):=by decide+kernel
structure Bl(mg:C8):Prop where
 len:mg "len" =none
 range:mg "range" =none
 isinstance:mg "isinstance" =none
 all:mg "all" =none
 sum:mg "sum" =none
 int:mg "int" =none
 str:mg "str" =none
 bool:mg "bool" =none
 list:mg "list" =none
 dict:mg "dict" =none
 tuple:mg "tuple" =none
structure Dn(P:V3)(w:V4)(K:A9)(mg:C8)(base:V5)(k:Nat)(x:Str)(ps:C1)(sp:Sp):Prop where
 ex:∃(f:V1)(fd:V7),FnOk P w K mg base CX0 k f fd ps sp/\Binds K fd ps []/\S0 K (.ref f)=true/\mg x=Y (.ref f)
section
variable{X:Cx}{k j:Nat}{x:Str}{ps:C1}{sp:Sp}{e:Expr}{es:C5}{t:TA}{p pos:Pos}
theorem pe_cd(D:Dn X.prog X.w X.K X.mg X.base k x ps sp)(d:Room j X.A)(m:k<=j)(i:Gl X x)(c:PA X (e::es) t)(a:(x==("__debug__" :Str))=false:=by decide)
  (o:A5 (e::es) X.env=(false,eval e X.env)::A5 es X.env:=by rfl) (b:(S5 pos (A5 es X.env)).any (·.1)=false:=by rfl):PE X (.Call (.Name x p) (e::es) [] pos) (gY sp [] E0 t):=by
 refine zR (D.ex) λf q g l n h=>?_;exact zKa g (d.mono m) i h n l .nil yEg c a o b
theorem yFc(D:Dn X.prog X.w X.K X.mg X.base k x ps sp)(b:Room j X.A)(i:k<=j)(g:Gl X x)(a:(x==("__debug__" :Str))=false:=by decide):PE X (.Call (.Name x p) [] [] pos) (gY sp [] E0 zAh):=by
 refine zR (D.ex) λf m c h l d=>?_;exact zXi c (b.mono i) g d l h .nil yEg a
end
theorem zOo{α β:Type}{l:List α}{f:α->β->Sem (ForInStep β)}(g:β->α->β)(h:∀x∈l,∀c,f x c=pure (.yield (g c x))):∀b:β,forIn l b f=pure (l.foldl g b):=by
 induction l with
 |nil=>intro b;rfl|cons a r d=>
  intro b;rw[List.forIn_cons,h a mD];show forIn r (g b a) f=_;rw[d (λx e=>h x (mG _ e)) (g b a)]
  rfl
def qT(b:P0)(cs:List (Str×V1))(x:Str×NameKind):List (Str×V1):=
 if(x.2==S6)=true then(match b.cells.lookup x.1 with | some a=>(x.1,a)::cs | none=>cs) else cs
def clo(b:P0)(a:List (Str×NameKind)):List (Str×V1):=a.foldl (qT b) []
theorem kQ{b:Scope}{d:P0}(h:∀x∈b.names,x.2= .free->∃c,d.cells.lookup x.1=Y c):closureFor b d=pure (clo d b.names):=by
 simp only[closureFor];rw[zOo (qT d) (λx i c=>by
  obtain⟨n,k⟩:=x
  by_cases f:k= .free
  ·subst f
   obtain⟨a,e⟩:=h _ i O;let g:d.cells.lookup n=Y a:=e;simp[qT,cellOf,g]
  ·let e:(k==S6)=false:=by simpa using f
   simp[qT,e])]
 rfl
theorem zRw{b:P0}:∀(c:List (Str×NameKind))(cs:List (Str×V1)),(∀p∈cs,b.cells.lookup p.1=Y p.2)->∀p∈c.foldl (qT b) cs,b.cells.lookup p.1=Y p.2
 |[],_,h=>h|x::r,cs,h=>by
  refine zRw r (qT b cs x) λp d=>?_;unfold qT at d;split at d
  ·split at d
   ·rename_i a e
    rcases mF.mp d with z | z
    ·rw[z];exact e
    ·exact h p z
   ·exact h p d
  ·exact h p d
theorem zLu{b:P0}{p:Str×V1}:∀(a:List (Str×NameKind))(cs:List (Str×V1)),p∈cs->p∈a.foldl (qT b) cs
 |[],_,h=>h|x::r,cs,h=>by
  refine zLu r (qT b cs x) ?_;unfold qT;split
  ·split
   ·exact mG _ h
   ·exact h
  ·exact h
theorem zPz{d:P0}{n:Str}{c:V1}(e:d.cells.lookup n=Y c):∀(b:List (Str×NameKind))(cs:List (Str×V1)),(n,S6)∈b->(n,c)∈b.foldl (qT d) cs
 |[],_,h=>nomatch h|x::r,cs,h=>by
  rcases mF.mp h with z | z
  ·subst z
   refine zLu r _ ?_;unfold qT;rw[mP (by rfl)];show(n,c)∈(match d.cells.lookup n with | some a=>(n,a)::cs | none=>cs)
   rw[e];exact mD
  ·exact zPz e r _ z
theorem kX{α:Type}{n:Str}{c:α}:∀{l:List (Str×α)},(n,c)∈l->∃a,l.lookup n=Y a
 |[],h=>nomatch h|(m,d)::r,h=>by
  by_cases e:n=m
  ·subst e;exact{d,by simp[rX]}
  ·rcases mF.mp h with z | z
   ·cases z;exact absurd O e
   ·obtain⟨a,q⟩:=kX z
    let b:(n==m)=false:=by simpa using e
    exact{a,by rw[rX,b];exact q}
theorem yAc{b:P0}{a:List (Str×NameKind)}{n:Str}{c:V1}(h:(clo b a).lookup n=Y c):b.cells.lookup n=Y c:=
 zRw a [] (λ_ z=>nomatch z) (n,c) (rW h)
theorem zHp{b:P0}{a:List (Str×NameKind)}{n:Str}{c:V1}(e:b.cells.lookup n=Y c)(h:(n,S6)∈a):(clo b a).lookup n=Y c:=by
 obtain⟨f,q⟩:=kX (zPz e a [] h);let d:(clo b a).lookup n=Y f:=q;let z:=yAc d;rw[e] at z;rw[d,<-z]
abbrev _root_.D4:=List (Str×Nat)
inductive FreeOk (X:Cx) (scope:Scope):List (Str×Nat)->Prop where
 |nil:FreeOk X scope []
 |cons {x:Str} {i:Nat} {r:D4} (h1:X.N[i]? =Y x) (h2:X.env.kindOf x=some .cell) (h3:scope.names.lookup x=some .free) (h:FreeOk X scope r):FreeOk X scope ((x,i)::r)
theorem FreeOk.mem{X:Cx}{a:Scope}:∀{F:D4},FreeOk X a F->∀p∈F,X.N[p.2]? =Y p.1/\X.env.kindOf p.1=some .cell/\a.names.lookup p.1=some .free
 |_, .nil,_,h=>nomatch h|_, .cons b d e h,p,c=>by
  rcases mF.mp c with z | z
  ·subst z;exact⟨b,d,e⟩
  ·exact h.mem p z
structure CompSc(X:Cx)(scope:Scope)(own:C1)(F:D4):Prop where
 kind:scope.kind= .function
 nocell:(scope.names.all λy=>!(y.2==NameKind.cell))=true
 loc:(scope.names.all λy=>!(y.2==NameKind.local)||(scope.names.lookup y.1==Y NameKind.local))=true
 fr:(scope.names.all λy=>!(y.2==S6)||(X.env.scope.names.lookup y.1==Y NameKind.cell))=true
 free:FreeOk X scope F
def xW(own:C1)(F:D4):List Str:=own++F.map (·.1)
def uA(own:C1)(F:D4)(σ:St):St:=own.map (λ_=>Option.none)++F.map (λp=>(σ[p.2]?).join)
def xD(X:Cx)(own:C1)(F:D4)(a:Scope)(C:V1)(d:V2)(b:Hp)(c:B9):Cx where
 prog:=X.prog
 w:=X.w
 K:=X.K
 mg:=X.mg
 base:=X.base
 A:=X.A
 N:=xW own F
 s₀:=d
 H₀:=b
 env:=compEnvC a (clo X.env a.names) C X.env
 outer:=X.stack
 stack:=X.stack
 ex:=c
 fn:=λ_=>false
 calm:=X.calm
 pn:=[]
 xe:=λ_ _=>False
theorem CompSc.nc{X:Cx}{a:Scope}{own:C1}{F:D4}(S:CompSc X a own F):∀y∈a.names,y.2≠ .cell:=λy b e=>by
 let q:=rF.mp S.nocell y b;rw[e] at q;exact absurd q ∎
theorem CompSc.lc{X:Cx}{a:Scope}{own:C1}{F:D4}(S:CompSc X a own F):∀y∈a.names,y.2= .local->a.names.lookup y.1=some .local:=λy b e=>by
 let q:=rF.mp S.loc y b;rw[e] at q
 simpa using q
theorem CompSc.fc{X:Cx}{a:Scope}{own:C1}{F:D4}(S:CompSc X a own F):∀y∈a.names,y.2= .free->X.env.kindOf y.1=some .cell:=λy b e=>by
 let q:=rF.mp S.fr y b;rw[e] at q;let c:X.env.scope.names.lookup y.1=Y NameKind.cell:=by simpa using q
 exact c
theorem zJk{a:Scope}{b:P0}(j:∀y∈a.names,y.2≠ .cell){x:Str}(h:(relabel a b).names.lookup x=some .cell\/(relabel a b).names.lookup x=some .free):(x,S6)∈a.names:=by
 let f:∀k,(relabel a b).names.lookup x=Y k->k= .cell\/k= .free->(x,S6)∈a.names:=λk e l=>by
  let m:=rW e;unfold relabel at m;obtain⟨⟨n,i⟩,g,c⟩:=nV.mp m
  by_cases d:i= .free
  ·subst d
   dsimp only at c;split at c<;>(cases c;exact g)
  ·let o:(i==S6)=false:=by simpa using d
   simp only[o,sY,Bool.false_eq_true,if_false] at c;cases c;rcases l with z | z
   ·exact absurd z (j _ g)
   ·exact absurd z d
 rcases h with h | h
 ·exact f _ h (.inl O)
 ·exact f _ h (.inr O)
theorem kE{a:P0}(f:a.scope.kind= .function):∀{b:List (Str×NameKind)}{x:Str},b.lookup x=some .free->a.kindOf x=some .cell->
  (b.map fun(n,k)=>if(k==S6 && a.scope.kind== .function && a.kindOf n==some .cell) then(n,NameKind.cell) else(n,k)).lookup x=some .cell
 |[],_,h,_=>by simp at h|(n,k)::r,x,h,g=>by
  let l:=@kE a f r x;rw[nG]
  by_cases e:x=n
  ·subst e
   let j:k= .free:=by simpa [rX] using h
   subst j;let c:(S6==S6 && a.scope.kind== .function && a.kindOf x==some .cell)=true:=by rw[f,g];rfl
   show List.lookup x ((if(S6==S6 && a.scope.kind== .function && a.kindOf x==some .cell)=true then(x,NameKind.cell) else(x,S6))::_)=_;rw[mP c];simp[rX]
  ·let d:(x==n)=false:=by simpa using e
   let i:r.lookup x=some .free:=by rw[rX,d] at h;exact h
   let q:=l i g;dsimp only;split
   ·rw[rX,d];exact q
   ·rw[rX,d];exact q
section
variable{X:Cx}{pins:C7}{σ:St}{H:Hp}{s:V2}
theorem Inv.freeCells{a:Scope}{own:C1}{F:D4}(I:Inv X pins σ H s)(S:CompSc X a own F):∀x∈a.names,x.2= .free->∃c,X.env.cells.lookup x.1=Y c:=λx b e=>
 I.ok.has x.1 (.inl (S.fc x b e))
theorem Inv.notStk(I:Inv X pins σ H s){b:V1}(c:b≠X.env.locals)(a:b∉X.fs):b∉frs X.stack:=λz=>(mF.mp (I.stkSub b z)).elim c a
theorem zHd{g:Scope}{own:C1}{F:D4}{fp:B9}{t:V5}{tk:Nat}(I:Inv X pins σ H s)(S:CompSc X g own F)(w:∀b∈fp,zDn X pins H b)(aa:∀b∈fp,b<s⁻¹){h:V2}
  (N:h={s with heap:=s.heap.push {cls:=.type "list",data:=.seq ([]:B7).toArray}})
  (Q:t.Ns h⁻¹ (λ_=>none)) (A:∀b o,h.heap.get? b=Y o->t.get? b=Y o):
  Inv (xD X own F g h⁻¹ h H (s⁻¹::fp)) [] (uA own F σ) H {h with heap:=t,toks:=tk}:=by
 let ab:h⁻¹=s⁻¹+1:=by rw[N];exact sZ ..
 let k3:∀b o,s.heap.get? b=Y o->h.heap.get? b=Y o:=λb o e=>by rw[N];exact mL _ e
 let E:Inv X pins σ H h:=by rw[N];exact I.kept (t':=s.toks) λb o e=>mL _ e
 let d:∀x c,(clo X.env g.names).lookup x=Y c->X.env.cells.lookup x=Y c:=λx c e=>yAc e;let j:∀b o,X.base.get? b=Y o->b<X.s₀⁻¹:=λb o e=>nN (mZ e) I.ok.bsz;let kf:X.env.scope.kind= .function:=I.ok.kind;refine{⟨I.ok.mod,S.kind,I.ok.glob,I.ok.blt,mE _,λx y c t h2=>I.ok.inj x y c (d x c t) (d y c h2),λx J=>?_,λx c J _=>(nomatch J),I.ok.hd,I.ok.frames, .inl O,λb n=>?_,λb o e=>?_, ?_,λb o e n=>?_,λb n=>?_,E.stack,λb n=>I.stkFree b n⟩,
  rfl,E.bare,Un.kept A,{_,Q,λi x v e1 f ac=>?_},λx c e=>?_, ?_,λx c e=>I.freeC x c (d x c e),λp hp=>absurd (show p∈([]:C7) from hp) (by simp),E.hok.kept A, ?_}
 ·let hm:=zJk S.nc J
  obtain⟨c,e⟩:=I.freeCells S _ hm O;exact{c,zHp e hm}
 ·rcases mF.mp n with z | z
  ·subst z
   refine{λq=>?_,λx c e q=>?_}
   ·let q':s⁻¹=h⁻¹:=q
    lia
   ·obtain⟨v,u⟩:=I.cell x c (d x c e)
    exact absurd u.lt (by rw[q];exact sU _)
  ·refine{λq=>?_,λx c e=>(w b z).2.2.2.2.1 x c (d x c e)}
   exact nP (nN (aa b z) (show s⁻¹<=h⁻¹ by lia)) q
 ·obtain⟨a1,a2⟩:=I.bs b o e
  exact⟨k3 b o a1,a2⟩
 ·exact nW (nW I.ok.bsz I.sz) (by show s⁻¹<=h⁻¹;lia)
 ·let l1:=j b o e
  rcases mF.mp n with z | z
  ·exact absurd (nN l1 I.sz) (by rw[z];exact sU _)
  ·rcases(w b z).2.2.2.1 with q | q
   ·exact I.ok.noex b o e q
   ·exact absurd l1 (Nat.not_lt.mpr q)
 ·rcases mF.mp n with z | z
  ·subst z
   exact I.notStk (rC I.lt) (I.nofs (mE _))
  ·exact I.notStk (w b z).2.1 (w b z).2.2.1
 ·-- a name that is seen
  let hi:own...*<=i:=by
   by_cases z:i<own...*
   ·rw[uA,pB (by simpa using z),nH] at f
    cases q:own[i]? with|none=>rw[q] at f;cases f|some y=>rw[q] at f;cases f
   ·lia
  rw[uA,nS (by simpa using hi),nH] at f;let k:(own++F.map (·.1))[i]? =Y x:=e1;rw[nS hi,nH] at k;simp only[mN] at f
  cases q:F[i - own...*]? with
  |none=>rw[q] at f;cases f|some p=>
   rw[q] at k f;simp only[Option.map_some,Option.some.injEq] at k f;obtain⟨f1,L,f3⟩:=S.free.mem p (mO q);subst k;obtain⟨m,hn,hl⟩:=I.loc;let e4:σ[p.2]? =Y ↥v:=by
    cases r:σ[p.2]? with|none=>rw[r] at f;cases f|some o=>rw[r] at f;exact congrArg some f
   obtain⟨u,ru,l⟩:=hl p.2 p.1 v f1 e4 (.inr (.inl L));refine{u,ru, .inr {.inl (kE kf f3 L), ?_}};rcases l with⟨l,_⟩|⟨_,c,ec,z⟩
   ·rw[L] at l;cases l
   ·refine{c,zHp ec (rW f3), ?_}
    obtain⟨D,B,M⟩:=z;exact{D,A _ _ (k3 _ _ B),M}
 ·refine wS (I.cell x c (d x c e)) λv D B M=>?_
  exact{v,D,A _ _ (k3 _ _ B),M}
 ·exact I.hok.fresh (by show s⁻¹<=h⁻¹;lia)
 ·show(uA own F σ)...*=(xW own F)...*
  simp[uA,xW]
theorem zBg{g:Scope}{own:C1}{F:D4}{fp:B9}{f j:V2}{B:St}{p:Hp}{ys:B3}{d:B7}{n:Nat}(I:Inv X pins σ H s)(N:∀b∈fp,zDn X pins H b)
  (v:f={s with heap:=s.heap.push {cls:=.type "list",data:=.seq ([]:B7).toArray}})
  (J:Inv (xD X own F g f⁻¹ f H (s⁻¹::fp)) [] B p j) (hz:ys...*<=V9) (y:Vals ys d)
  (E:j.heap.get? s⁻¹=some {cls:=.type "list",data:=.seq d.toArray n}) (k:p s⁻¹=none):Inv X pins σ (upd p s⁻¹ (.lst ys)) j:=by
 let D:f⁻¹=s⁻¹+1:=by rw[v];exact sZ ..
 let r:∀b o,s.heap.get? b=Y o->f.heap.get? b=Y o:=λb o e=>by rw[v];exact mL _ e
 let U:Un (frs X.stack) (s⁻¹::fp) H p f.heap j.heap:=J.base;let x:∀b o,s.heap.get? b=Y o->b≠s⁻¹:=λb o e=>nP (mZ e);let m:∀b o,s.heap.get? b=Y o->b∉fp->b∉s⁻¹::fp:=λb o e h z=>(mF.mp z).elim (x b o e) h;let t:j.os=s.os:=by
  let q:j.os=f.os:=J.os;rw[q,v]
 refine I.call' (ch:=fp) t ⟨λb o e z a i=>U.keep b o (r b o e) z a (m b o e i),λb o e z a i=>U.slot b o (r b o e) z a (m b o e i),λb o e z i=>?_,λb o e i=>U.there b o (r b o e) (m b o e i),λb w e=>?_,λb o u e=>?_,λb Q e=>?_⟩ (λb u e=>?_) J.bare λb a=>?_
 ·rw[zM (x b o e)]
  exact U.free b o (r b o e) z (m b o e i)
 ·let q:=U.tups b w e
  rw[zM (yM q k)];exact q
 ·let q:=U.frzs b o u e
  rw[zM (yM q k)];exact q
 ·obtain⟨l,q⟩:=U.tbls b Q e
  exact{l,by rw[zM (yM q k)];exact q}
 ·by_cases a:b=s⁻¹
  ·subst a
   rw[zC] at e;cases e;exact⟨hz,d,n,y,E⟩
  ·rw[zM a] at e
   exact(J.hok b u e).stay (λ_ _ _ q=>q) (λc q=>by rw[zM (yM q k)];exact q) λc w q=>by rw[zM (yM q k)];exact q
 ·refine zS (N b a) λ_ A _ L f4 M=>?_
  exact⟨L,A,f4,M⟩
theorem zCb{f:Hp}{a:V2}{C:V1}{h':V5}{g:St}(I:Inv X pins σ H s)(d:s⁻¹<=C)(h:Inv X pins g f a)(i:f C=none)(j:Heap.SameBut C a.heap h'):Inv X pins g f {a with heap:=h'}:=by
 let q:=h.turned (it:=C) (t':=a.toks) (h':=h') (λb o l e=>(j.2 b l).trans e) i (rC (nN I.lt d)) (.inr (nW I.sz d)) (λx c e z=>?_) (λp k z=>?_)
 ·exact q
 ·obtain⟨v,u⟩:=I.cell x c e
  exact absurd (nN u.lt (by rw[z];exact d)) (sU _)
 ·exact absurd (nN (mZ (I.pin p k).1) (by rw[z];exact d)) (sU _)
end
def PTs(X:Cx)(b:C5)(t:TT):Prop:=
 ∀(a:C7)(s:V2)(σ:St)(H:Hp)(Q:Bool->Hp->Prop),Inv X a σ H s->t σ H Q->
  V8 (S8 X.prog X.w) X.A (forIn b true λc r=>if r=true then do let ok <-isTrue c X.env (eval c X.env);pure (ForInStep.yield ok) else pure (ForInStep.yield r)) (TP X a σ Q) X.xe s
def zBa:TT:=λ_ H Q=>Q true H
theorem yT{X:Cx}:PTs X [] zBa:=λ_ _ _ H _ I h=>wpAny_tests_nil ⟨H,I,h⟩
theorem yBu{X:Cx}{c:Expr}{t:TT}(h:PT X c t):PTs X [c] t:=λa s σ H Q I q=>wpAny_tests_one (h a s σ H Q I q)
theorem zNo{prog:V3}{w:V4}{A:Around}{R:Result->V2->Prop}{s:V2}{g a iter:Expr}{e:C5}{d:Scope}{i:Pos}{it acc:V0}{b:P0}(I:Nat->V2->Prop)
  (k:∀n s,I n s->V8 (S8 prog w) A (pyNext it) (λr o=>match r with
   | none=>R (.ok .next) o|some v=>V8 (S8 prog w) A (letOwnedTupleGo a it v) (λ_ q=>V8 (S8 prog w) A (assign a b v) (λ_ y=>
     V8 (S8 prog w) A (forIn e true λc r=>if r=true then do let j <-isTrue c b (eval c b);pure (ForInStep.yield j) else pure (ForInStep.yield r)) (λj l=>
      if j=true then V8 (S8 prog w) A (eval g b) (λx u=>
       V8 (S8 prog w) A (call (.builtin "list.append") [acc,x]) (λ_ t=>∃m,m<n/\I m t) (λ_ _=>False) u) (λ_ _=>False) l
      else∃m,m<n/\I m l) (λ_ _=>False) y) (λ_ _=>False) q) (λ_ _=>False) o) (λ_ _=>False) s)
  (n:Nat) (h:I n s):codeAny (S8 prog w) A (.compLoop (.ListComp g [{a,iter,e,0}] d i) 0 it acc b) R s:=by
 refine codeAny_loop O I (λn s E=>?_) n h;show V8 _ A ((compTurn (.ListComp g [{a,iter,e,0}] d i) 0 it acc b).onRaise (λx=>do noteFrame x b;theTreesLotGoes x)) _ _ s;refine wpAny_noted ?_;rw[compTurn_list];refine mC (rR (mC (pC (k n s E) (λr o p=>?_) λ_ _ f=>f.elim)))
 cases r with
 |none=>exact mT p|some v=>
  refine mC (pC p (λ_ q H=>mC (pC H (λ_ y J=>mC (pC J (λj l z=>?_) λ_ _ f=>f.elim)) λ_ _ f=>f.elim)) λ_ _ f=>f.elim)
  cases j with|false=>exact mT ⟨O,z⟩|true=>exact mC (mC (pC z (λx u D=>mC (pC D (λ_ t B=>mT (mT ⟨O,B⟩)) λ_ _ f=>f.elim)) λ_ _ f=>f.elim))
def yGu(σ a:St):Prop:=a...*=σ...*/\∀(i:Nat) v,a[i]? =Y ↥v->σ[i]? =Y ↥v
theorem zUj{σ:St}{i:Nat}{v:Option V}(h:σ[i]? =Y none):yGu (σ.set i v) σ:=by
 refine{by simp,λj u e=>?_}
 by_cases a:i=j
 ·subst a;rw[h] at e;cases e
 ·rw[rZ a];exact e
def wN(own:C1)(F:D4)(g:TG)(q:TT)(o:TE)(σ:St)(Q:VK)(J:It)(H1:Hp):Prop:=∃W:Nat->Nat->List V->Hp->Prop,(∃m,W 0 m [] H1)/\∀i m c a,W i m c a->c...*<=i->
 (J.stop i a/\i<=V9/\∀p,a p=none->Q (.ref p) (upd a p (.lst c)))\/
 (J.go i a/\i<V9/\∃N:List V->Hp->Prop,(∀d e,N d e->∃j,j<m/\W (i+1) j d e)/\
  ∀x k,J.yld i a x k->g x (uA own F σ) k λf l=>yGu f (uA own F σ)/\q f l λb h=>if b=true then o f h λy n=>N (c++ [y]) n else N c h)
def zFv(own:C1)(F:D4)(d:TI)(g:TG)(b:TT)(a:TE):TE:=λσ H Q=>d σ H λJ c=>wN own F g b a σ Q J c
section
variable{X:Cx}{scope:Scope}{own:C1}{F:D4}{elt tg iter:Expr}{ifs:C5}{pos:Pos}{wi:TI}{g:TG}{tt:TT}{te:TE}
abbrev yF(s:V2):V2:={s with heap:=s.heap.push {cls:=.type "list",data:=.seq ([]:B7).toArray}}
theorem zNu{l:C7}{σ:St}{H:Hp}{s:V2}{Q:VK}{RR:V1->Result->V2->Prop}{it:V1}{fp:B9}{tn:Nat->V5->Prop}{J:It}(S:CompSc X scope own F)(hc:X.calm=true)
  (hg:∀C L H₃ ex,PG (xD X own F scope C L H₃ ex) tg g) (ht:∀C L H₃ ex,PTs (xD X own F scope C L H₃ ex) ifs tt) (he:∀C L H₃ ex,PE (xD X own F scope C L H₃ ex) elt te)
  (I:Inv X l σ H s) (T:zHt X.prog X.w X.K tg J fp it tn) (st:tn 0 s.heap) (hf:∀b∈fp,zDn X l H b)
  (h:wN own F g tt te σ Q J H)
  (hR:∀C s4 H4,s⁻¹<=C->C≠s⁻¹->Inv X l σ H4 s4->Q (.ref s⁻¹) H4->H4 C=none->(∃m,s4.heap.Ns C m)->RR C (.ok .next) s4):
  V8 (S8 X.prog X.w) X.A (newList []) (λacc L=>V8 (S8 X.prog X.w) X.A (newFunctionEnv scope X.env.globals (clo X.env scope.names) [] X.env.qual none .none ↥X.env) (λE s₄=>
   codeAny (S8 X.prog X.w) X.A (.compStart (.ListComp elt [{tg,iter,ifs,0}] scope pos) 0 (.ref it) acc {E with scope:=relabel scope X.env}) (λr s'=>acc= .ref s⁻¹/\RR E.locals r s') s₄) X.xe L) X.xe s:=by
 obtain⟨W,⟨m0,w0⟩,ac⟩:=h;let M:∀b∈fp,b<s⁻¹:=λb c=>by
  obtain⟨o,e,_⟩:=T.obj _ _ st b c;exact mZ e
 refine bP (wpAny_newFunctionEnv S.nc (by intro y hy;simp at hy) (λh₁ A D=>?_) S.kind);dsimp only at A D⊢;let ai:yF s={s with heap:=s.heap.push {cls:=.type "list",data:=.seq ([]:B7).toArray}}:=rfl;let av:(yF s)⁻¹=s⁻¹+1:=sZ ..;let k3:∀b o,(yF s).heap.get? b=Y o->h₁.get? b=Y o:=λb o e=>D.extBut b o (nP (mZ e)) (mL _ e);let k2:∀b o,s.heap.get? b=Y o->(yF s).heap.get? b=Y o:=λb o e=>mL _ e;let am:h₁.Ns (yF s)⁻¹ (λ_=>none):=by simpa using A
 let I0:Inv (xD X own F scope (yF s)⁻¹ (yF s) H (s⁻¹::fp)) [] (uA own F σ) H {yF s with heap:=h₁,toks:=(yF s).toks+([]:List (Str×V0))...*}:=zHd I S hf M ai am k3;let ab:h₁.get? s⁻¹=some {cls:=.type "list",data:=.seq ([]:B7).toArray 0}:=k3 _ _ (nM _ O);let ag:tn 0 h₁:=T.keep _ _ _ st λb _ o e=>k3 b o (k2 b o e);let af:codeAny (S8 X.prog X.w) X.A (.compLoop (.ListComp elt [{tg,iter,ifs,0}] scope pos) 0 (.ref it) (.ref s⁻¹) (compEnvC scope (clo X.env scope.names) (yF s)⁻¹ X.env)) (RR (yF s)⁻¹) {yF s with heap:=h₁,toks:=(yF s).toks+([]:List (Str×V0))...*}:=by
  refine zNo (λn s'=>∃i ys f a k,Inv (xD X own F scope (yF s)⁻¹ (yF s) H (s⁻¹::fp)) [] (uA own F σ) f s'/\tn i s'.heap/\(∀b∈fp,f b=none)/\f s⁻¹=none/\
   Vals ys a/\s'.heap.get? s⁻¹=some {cls:=.type "list",data:=.seq a.toArray k}/\ys...*<=i/\W i n ys f) ?_ m0 {0,[],H,[],0,I0,ag,λb c=>(hf b c).1,I.hok.fresh (mE _), .nil,ab,mE _,w0}
  intro n s5 z_;ext yA z_ i ys H5 a k z_;ext zS z_ I5 t5 ae al v5 z_;ext oAA z_ o5 l5 w5;let ah:Inv (xD X own F scope (yF s)⁻¹ (yF s) H (s⁻¹::fp)) [(s⁻¹,{cls:=.type "list",data:=.seq a.toArray k})] (uA own F σ) H5 s5:=I5.pins_of λp t=>by
   let z:p=(s⁻¹,{cls:=.type "list",data:=.seq a.toArray k}):=by simpa using t
   subst z;obtain⟨x1,x2⟩:=I0.ok.exf s⁻¹ mD;exact{o5,al,x1,I0.ok.exfs _ mD,λv z=>by cases z}
  let aa:∀{f:Hp},(∀b∈fp,f b=none)->∀b∈fp,zDn (xD X own F scope (yF s)⁻¹ (yF s) H (s⁻¹::fp)) [(s⁻¹,{cls:=.type "list",data:=.seq a.toArray k})] f b:=λ{f} hn b c=>by
   obtain⟨x1,x2⟩:=I0.ok.exf b (mG _ c);refine{hn b c,x1,I0.ok.exfs b (mG _ c), .inl (mG _ c),x2,λp t=>?_};let z:p=(s⁻¹,{cls:=.type "list",data:=.seq a.toArray k}):=by
    let ak:p∈([]:C7)++ [(s⁻¹,{cls:=.type "list",data:=.seq a.toArray k})]:=t
    simpa using ak
   subst z;exact rC (M b c)
  rcases ac i n ys H5 w5 l5 with⟨stop,hz,q⟩|⟨go,hz,N,hN,step⟩
  ·refine thn (T.done (xD X own F scope (yF s)⁻¹ (yF s) H (s⁻¹::fp)) O O O hc i _ s5 _ H5 (λ_ _=>False) ah (aa ae) t5 stop) λr s6 ⟨hr,I6⟩=>?_
   subst hr;obtain⟨a6,b6,_⟩:=I6.pin (s⁻¹,{cls:=.type "list",data:=.seq a.toArray k}) (mX _ (mH.mpr O));let J6:=I6.pins_of (pins':=[]) (λp t=>nomatch t);let I7:=zBg I hf ai J6 (nW l5 hz) v5 a6 b6;let hC:H5 (yF s)⁻¹=none:=J6.free;refine hR _ s6 _ (show s⁻¹<=(yF s)⁻¹ by lia) (λz=>by let z':(yF s)⁻¹=s⁻¹:=z;lia) I7 (q _ b6) (by rw[zM (λz=>by let z':(yF s)⁻¹=s⁻¹:=z;lia)];exact hC) ?_;obtain⟨m,hn,_⟩:=J6.loc;exact⟨m,hn⟩
  ·refine thn (T.item (xD X own F scope (yF s)⁻¹ (yF s) H (s⁻¹::fp)) O O O hc i _ s5 _ H5 (λ_ _=>False) ah (aa ae) t5 go) λr s6 ⟨u,hr,h6⟩=>?_
   subst hr;refine thn h6 λ_ s7 z_=>?_;obtain⟨x,H7,I7,r7,y7,t7,au⟩:=z_;let J7:=I7.pinned (aa au) (T.obj _ _ t7);refine thn (hg _ _ _ _ _ s7 _ H7 x u _ J7 r7 (step x H7 y7)) λ_ s8 z_=>?_;obtain⟨σ8,H8,I8,wk,q8⟩:=z_;refine thn (ht _ _ _ _ _ s8 σ8 H8 _ I8 q8) λok s9 ⟨H9,I9,q9⟩=>?_;let B:∀{σ':St}{f:Hp}{s':V2},Inv (xD X own F scope (yF s)⁻¹ (yF s) H (s⁻¹::fp)) ([(s⁻¹,{cls:=.type "list",data:=.seq a.toArray k})]++zAv fp s7.heap) σ' f s'->
     tn (i+1) s'.heap/\(∀b∈fp,f b=none)/\f s⁻¹=none/\s'.heap.get? s⁻¹=some {cls:=.type "list",data:=.seq a.toArray k}:=λ{σ' f s'} J=>by
    let pa:=J.pin (s⁻¹,{cls:=.type "list",data:=.seq a.toArray k}) (mX _ (nQ _ (mH.mpr O)));refine⟨T.keep _ _ _ t7 λb c o e=>(J.pin (b,o) (mX _ (mX _ (jQ c e)))).1,λb c=>?_,pa.2.1,pa.1⟩;obtain⟨o,e,d⟩:=T.obj _ _ t7 b c;exact(J.pin (b,o) (mX _ (mX _ (jQ c e)))).2.1
   cases ok with
   |false=>
    rw[mI nD] at q9⊢;obtain⟨m',hm,w9⟩:=hN _ _ q9;refine xA (B I9) λa1 a2 a3 a4=>?_;exact{m',hm,i+1,ys,H9,a,k,(I9.pins_of (pins':=[]) (λp t=>nomatch t)).weak wk.1 wk.2,a1,a2,a3,v5,a4,sT l5,w9}
   |true=>
    rw[mP O] at q9⊢;refine thn (he _ _ _ _ _ s9 σ8 H9 _ I9 q9) λu' w z_=>?_;obtain⟨y,ap,aj,ar,ao⟩:=z_;obtain⟨m',hm,an⟩:=hN _ _ ao;refine xA (B aj) λa1 a2 a3 a4=>?_;let hl:=v5...*;refine sQ pK ⟨_,a4,O⟩ PySem.F.entry_list_append (PySem.F.args_list_append_2 _ _) (dC s⁻¹ a.toArray k u' (by rw[mY];lia)) {a4, ?_};let q:=PySem.IsL.update a4 (λxs:Array V0=>xs.push u');let eq:a.toArray.push u'=(a++ [u']).toArray:=by simp
    rw[eq] at q;obtain⟨x1,x2⟩:=I0.ok.exf s⁻¹ mD;let aq:=(aj.pins_of (pins':=[]) (λp t=>nomatch t)).turned (it:=s⁻¹) (t':=w.toks) (h':=w.heap.update s⁻¹ (Obj.mapSeq (λxs:Array V0=>xs.push u'))) (λb o c e=>(mV w.heap _ (Ne.symm c)).trans e) a3 x1 (.inl mD) x2 (λp t=>absurd (show p∈([]:C7) from t) (by simp));refine{m',hm,i+1,ys++ [y],ap,a++ [u'],_,aq.weak wk.1 wk.2, ?_,a2,a3,v5.append (.cons ar .nil),q,by rw[mM,nL];lia,an};exact T.keep _ _ _ a1 λb c o e=>(mV w.heap _ (rC (M b c))).trans e
 let j:=rT af (R':=λr s'=>Value.ref s⁻¹= .ref s⁻¹/\RR (yF s)⁻¹ r s') λr s' z=>⟨O,z⟩;exact codeAny_compStart_list j (T.self X.A 0 _ _ _ ag j)
theorem xS(S:CompSc X scope own F)(hc:X.calm=true)(l:PI X tg iter wi)
  (hg:∀C s₃ H₃ ex,PG (xD X own F scope C s₃ H₃ ex) tg g) (ht:∀C s₃ H₃ ex,PTs (xD X own F scope C s₃ H₃ ex) ifs tt) (E:∀C s₃ H₃ ex,PE (xD X own F scope C s₃ H₃ ex) elt te)
  (hs:∀x,foldedSetIterable iter X.env x=pure x:=by intro _;rfl):PE X (.ListComp elt [{tg,iter,ifs,0}] scope pos) (zFv own F wi g tt te):=by
 intro a s σ H Q I h;rw[eval_ListComp];refine bI (use:=none) O hs (kQ (I.freeCells S)) S.kind S.lc ?_;refine thn (l a s σ H _ I h) λv s1 w=>thn w λo f z_=>?_;obtain⟨it,fp,tn,J,H2,e,j,T,c,z,M⟩:=z_;subst e;refine thn (zNu (Q:=Q) (RR:=λC r d=>compPost (S8 X.prog X.w) X.A X.xe none (EP X a σ Q) (.ref f⁻¹) C r d) S hc hg ht E j T c z M λC n u c1 c2 A y q L=>?_) λt s3 D=>thn D λi n B=>rT B λr d ⟨k,N⟩=>?_
 ·obtain⟨m,p⟩:=L
  exact{m,p,λh' b=>{.ref f⁻¹,u,zCb j c1 A q b,O,y}}
 ·rw[k];exact N
theorem gJ{i:Nat}{x:Str}{b d:Pos}(E:X.N.Nodup)(n:X.N[i]? =Y x)(hx:Loc X.env.scope x)(S:CompSc X scope own F)(hc:X.calm=true)(A:PI X tg iter wi)
  (hg:∀C s₃ H₃ ex,PG (xD X own F scope C s₃ H₃ ex) tg g) (ht:∀C s₃ H₃ ex,PTs (xD X own F scope C s₃ H₃ ex) ifs tt) (he:∀C s₃ H₃ ex,PE (xD X own F scope C s₃ H₃ ex) elt te)
  (k:S4 (.ListComp elt [{tg,iter,ifs,0}] scope pos) ↥(.Name x b) d.line X.env=pure true:=by rfl)
  (hs:∀x,foldedSetIterable iter X.env x=pure x:=by intro _;rfl) (hf:X.fn x=true\/X.env.scope.names.lookup x=some .local:=by first | exact .inl O | exact .inr O | assumption):
  PS X (.Assign [.Name x b] (.ListComp elt [{tg,iter,ifs,0}] scope pos) d) (zNl (zFv own F wi g tt te) (qQ i)):=by
 intro c s σ H D I h;rw[exec_Assign_Name_used x b _ _ k];refine mC (rR (mC ?_));refine mC ?_;refine pC (Q:=λ_ f=>SP X c D .next f) ?_ (λ_ f q=>mT (mT q)) λ_ _ z=>z;refine bI (use:=Y (assign (.Name x b) X.env)) O hs (kQ (I.freeCells S)) S.kind S.lc ?_;refine thn (A c s σ H _ I h) λv s1 h1=>thn h1 λM t z_=>?_;obtain⟨it,fp,tn,J,H2,e,j,T,o,f2,q2⟩:=z_;subst e;refine thn (zNu (Q:=λx H1=>qQ i x σ H1 D.nx) (RR:=λC r f=>compPost (S8 X.prog X.w) X.A X.xe ↥(assign (.Name x b) X.env) (λ_ f=>SP X c D .next f) (.ref t⁻¹) C r f) S hc hg ht he j T o f2 q2 λC L H4 p c2 I4 q4 n4 hm=>?_) λaa s3 h3=>thn h3 λw L h4=>rT h4 λr f ⟨y,hr⟩=>?_
 ·obtain⟨m,N⟩:=hm
  refine dB (zEd I4 E n hx (v:=.ref t⁻¹) O (λs5 I5 ⟨a,B,ha⟩=>?_) hf);let aC:a≠C:=by
   rcases ha with z | z
   ·rw[z];exact nP (nN j.lt p)
   ·obtain⟨v,u⟩:=j.cell _ _ z
    exact nP (nN u.lt p)
  exact{m,N.sameBut B (Ne.symm aC),λh' l=>{_,H4,zCb j p I5 n4 l,q4}}
 ·rw[y];exact hr
end
abbrev _root_.C6:=List (List Nat)
inductive T where
 |non | bl (b:Bool)| int (i:Int)| str (x:List Nat)| lst (ts:List T)| dic (ks:C6) (ts:List T)| tup (ts:List T)
mutual
def Rep(H:Hp):V->T->Prop
 |v, .non=>v= .non|v, .bl b=>v= .bl b|v, .int i=>v= .int i|v, .str x=>v= .str (tx x)|v, .lst ts=>∃a c,v= .ref a/\H a=Y (.lst c)/\Reps H c ts|v, .dic e ts=>∃a d,v= .ref a/\H a=Y (.dK d)/\d.map (·.1)=e.map (λk=>(Sum.inr (tx k):Key))/\Reps H (d.map (·.2)) ts|v, .tup ts=>∃a c,v= .ref a/\H a=Y (.tup c)/\Reps H c ts
def Reps(H:Hp):List V->List T->Prop
 |vs,[]=>vs= []|vs,t::ts=>∃v r,vs=v::r/\Rep H v t/\Reps H r ts
end
abbrev _root_.B0:=List T
mutual
theorem Rep.same{H g:Hp}(e:Same H g):∀(v:V)(t:T),Rep H v t->Rep g v t
 |_, .non,h=>h|_, .bl _,h=>h|_, .int _,h=>h|_, .str _,h=>h|_, .lst ts,⟨a,c,b,d,f⟩=>{a,c,b,e _ _ d,Reps.same e c ts f}|_, .dic k ts,⟨a,j,b,d,f,i⟩=>{a,j,b,e _ _ d,f,Reps.same e _ ts i}|_, .tup ts,⟨a,c,b,d,f⟩=>{a,c,b,e _ _ d,Reps.same e c ts f}
theorem Reps.same{H a:Hp}(e:Same H a):∀(vs:B3)(ts:B0),Reps H vs ts->Reps a vs ts
 |_,[],h=>h|_,t::ts,⟨v,r,b,c,d⟩=>{v,r,b,Rep.same e v t c,Reps.same e r ts d}
end
theorem Reps.snoc{H:Hp}{v:V}{t:T}(h:Rep H v t):∀{vs:B3}{ts:B0},Reps H vs ts->Reps H (vs++ [v]) (ts++ [t])
 |_,[],e=>by
  let c:_= []:=e;subst c;exact{v,[],O,h,O}
 |_,g::ts,⟨a,r,b,d,f⟩=>by
  subst b;exact{a,r++ [v],O,d,Reps.snoc h f}
theorem Reps.length{H:Hp}:∀{vs:B3}{ts:B0},Reps H vs ts->vs...*=ts...*
 |_,[],e=>by
  let b:_= []:=e;subst b;rfl
 |_,f::ts,⟨d,r,a,g,c⟩=>by
  subst a;simp[Reps.length c]
theorem Reps.get{H:Hp}:∀{vs:B3}{ts:B0}{i:Nat}{v:V},Reps H vs ts->vs[i]? =Y v->∃t,ts[i]? =Y t/\Rep H v t
 |_,[],i,v,e,h=>by
  let g:_= []:=e;subst g;simp at h
 |_,b::ts,0,v,⟨f,r,a,c,d⟩,h=>by
  subst a;simp at h;subst h;exact⟨b,O,c⟩
 |_,b::ts,i+1,v,⟨f,r,a,c,d⟩,h=>by
  subst a;obtain⟨t,e,q⟩:=Reps.get (i:=i) (v:=v) d (by simpa using h);exact{t,by simpa using e,q}
noncomputable def tyT:T->String
 |.non=>"NoneType"|.bl _=>"bool"|.int _=>"int"|.str _=>"str"|.lst _=>"list"|.dic _ _=>"dict"|.tup _=>"tuple"
theorem Rep.ty{H:Hp}{v:V}:∀{t:T},Rep H v t->tyS H v=Y (tyT t)
 |.non,h=>by cases (show v= .non from h);rfl|.bl b,h=>by cases (show v= .bl b from h);rfl|.int i,h=>by cases (show v= .int i from h);rfl|.str x,h=>by cases (show v= .str (tx x) from h);rfl|.lst ts,h=>by obtain⟨a,d,e,c,_⟩:=h;subst e;show(match H a with | some (.lst _)=>some "list" | some (.tup _)=>some "tuple" | some (.dK _)=>some "dict" | _=>none)=_;rw[c];rfl
 |.dic ks ts,h=>by obtain⟨a,d,e,c,_⟩:=h;subst e;show(match H a with | some (.lst _)=>some "list" | some (.tup _)=>some "tuple" | some (.dK _)=>some "dict" | _=>none)=_;rw[c];rfl
 |.tup ts,h=>by obtain⟨a,d,e,c,_⟩:=h;subst e;show(match H a with | some (.lst _)=>some "list" | some (.tup _)=>some "tuple" | some (.dK _)=>some "dict" | _=>none)=_;rw[c];rfl
noncomputable def letL:List Nat:=(List.range 26).map (· +97)
noncomputable def zGn:List Nat:=(List.range 10).map (· +48)
noncomputable def zDh:List Nat:=((List.range 95).map (· +32)).filter (· !=37)
noncomputable def xF(w:List Nat):Bool:=decide (1<=w...*)&& decide (w...*<=12)&& (match w with | []=>false | c::_=>decide (c∈letL))&& w.all (λc=>decide (c∈letL++zGn))
noncomputable def zDs(w:List Nat):Bool:=decide (w...*<=30)&& w.all (λc=>decide (c∈zDh))
mutual
def Nice:Nat->T->Prop
 |_, .non=>True|_, .bl _=>True|_, .int i=>-(10 ^ 12)<=i/\i<=10 ^ 12|_, .str x=>zDs x=true|d, .lst ts=>1<=d/\ts...*<=4/\NiceL (d - 1) ts|d, .dic a ts=>1<=d/\ts...*<=4/\a...*=ts...*/\a.Nodup/\(∀k∈a,xF k=true)/\NiceL (d - 1) ts|_, .tup _=>False
def NiceL:Nat->List T->Prop
 |_,[]=>True|d,t::ts=>Nice d t/\NiceL d ts
end
theorem NiceL.snoc{d:Nat}{t:T}(h:Nice d t):∀{ts:B0},NiceL d ts->NiceL d (ts++ [t])
 |[],_=>⟨h,trivial⟩|_::ts,⟨a,b⟩=>{a,NiceL.snoc h b}
theorem zF{H:Hp}{p:V1}(h:H p=none)(o:HO):Same H (upd H p o):=λb u q=>by rw[zM (yM q h)];exact q
section
variable{K:A9}{H:Hp}{Q:VK}{a b:V1}{xs ys:B3}
theorem yIe{c:Bool}(f:SqL K H a xs)(e:SqL K H b ys)(g:xs.all jF=true)(d:ys.all jF=true)(q:Q (.bl (if c then !zHw xs ys else zHw xs ys)) H):rEqL K c (.ref a) (.ref b) H Q:=
 ⟨a,b,xs,ys,O,O,f,e,g,d,q⟩
theorem zY{i:Int}{v:V}(d:SqL K H a xs)(c:atI xs i=Y v)(q:Q v H):yBy K (.ref a) (.int i) H Q:=⟨a,xs,i,v,O,O,d,c,q⟩
theorem wR{i:Int}{v:V}(d:SqT K H a xs)(c:atI xs i=Y v)(q:Q v H):zUu K (.ref a) (.int i) H Q:=⟨a,xs,i,v,O,O,d,c,q⟩
theorem zDm{z:Str}{i:Int}{c:Nat}(e:z...*<=V9)(d:atI (ts z) i=Y c)(q:Q (.str (tx [c])) H):rIxS (.str z) (.int i) H Q:=⟨z,i,c,O,O,e,d,q⟩
end
theorem zBc{α:Type}{xs:List α}{i:Int}(b:0<=i)(c:i<xs...*):∃v,atI xs i=Y v/\v∈xs:=by
 obtain⟨j,rfl⟩:=sW b;let a:j<xs...*:=by lia
 exact{xs[j],zQ (by simp[a]),sK a}
theorem zWs{α:Type}{xs:List α}{i:Int}{d:α}(b:0<=i)(c:i<xs...*):atI xs i=Y (xs.getD i.toNat d):=by
 obtain⟨j,rfl⟩:=sW b;let a:j<xs...*:=by lia
 refine zQ ?_;simp[List.getD,a]
theorem zFe{x:Str}{F:D4}{J:It}{n:Nat}{k:TT}{j:TE}{σ:St}{Q:VK}{H1:Hp}(Pv:Nat->List V->Hp->Prop)(s:n<=V9)(l:Pv 0 [] H1)(g:∀i a H,i<n->Pv i a H->J.go i H)
  (f:∀a H,Pv n a H->J.stop n H)
  (v:∀i a H y d,i<n->a...*<=i->Pv i a H->J.yld i H y d->k (Y y::F.map (λp=>(σ[p.2]?).join)) d λb H3=>if b=true then j (Y y::F.map (λp=>(σ[p.2]?).join)) H3 λz H4=>Pv (i+1) (a++ [z]) H4 else Pv (i+1) a H3)
  (u:∀a H,a...*<=n->Pv n a H->∀p,H p=none->Q (.ref p) (upd H p (.lst a))):wN [x] F (qQ 0) k j σ Q J H1:=by
 refine{λi m a H=>m=n - i/\i<=n/\Pv i a H,{n,by simp,nR _,l}, ?_};rintro i m a H ⟨rfl,w,p⟩ h
 by_cases c:i<n
 ·refine .inr {g i a H c p,∅,Pv (i+1),λo r q=>{n - (i+1),∅,O,c,q},λy d t=>?_}
  exact{zUj (i:=0) O,v i a H y d c h p t}
 ·let e:i=n:=by lia
  subst e;exact .inl {f a H p,s,u a H h p}
theorem uK{x:Str}{F:D4}{lo:Int}{n:Nat}{b:TE}{σ:St}{Q:VK}{H1:Hp}(Pv:Nat->List V->Hp->Prop)(f:n<=V9)(c:Pv 0 [] H1)
  (j:∀(i:Nat) a H,i<n->a...*<=i->Pv i a H->b (Y (.int (lo+i))::F.map (λp=>(σ[p.2]?).join)) H λz H4=>Pv (i+1) (a++ [z]) H4)
  (g:∀a H,a...*<=n->Pv n a H->∀p,H p=none->Q (.ref p) (upd H p (.lst a))):wN [x] F (qQ 0) zBa b σ Q (Itr lo n) H1:=
 zFe Pv f c (λi _ _ h _=>h) (λ_ _ _=>mE _) (λi a H y m k l e d=>by
  obtain⟨rfl,rfl⟩:=d;exact j i a _ k l e) g
theorem zMo{x:Str}{F:D4}{w:Str}{e:TT}{d:TE}{σ:St}{Q:VK}{H1:Hp}(Pv:Nat->List V->Hp->Prop)(k:(ts w)...*<=V9)(f:Pv 0 [] H1)
  (m:∀i c a H,(ts w)[i]? =Y c->a...*<=i->Pv i a H->e (Y (.str (tx [c]))::F.map (λp=>(σ[p.2]?).join)) H λb H3=>if b=true then d (Y (.str (tx [c]))::F.map (λp=>(σ[p.2]?).join)) H3 λz H4=>Pv (i+1) (a++ [z]) H4 else Pv (i+1) a H3)
  (l:∀a H,a...*<=(ts w)...*->Pv (ts w)...* a H->∀p,H p=none->Q (.ref p) (upd H p (.lst a))):wN [x] F (qQ 0) e d σ Q (Its w) H1:=
 zFe Pv k f (λi _ _ h _=>h) (λ_ _ _=>mE _) (λi a H y r q o j g=>by
  obtain⟨rfl,c,n,rfl⟩:=g;exact m i c a _ n o j) l
section
variable{X:Cx}{x:Str}{pos:Pos}
theorem yEb{z:Str}(b:Gl X x)(h:∃t,X.mg x=Y (.str z t))(a:(x==("__debug__" :Str))=false:=by decide):PE X (.Name x pos) (tC (.str z)):=by
 obtain⟨t,h⟩:=h;exact zRo b h ⟨t,O⟩ a
theorem zCj{z:Int}(b:Gl X x)(h:∃t,X.mg x=Y (.int z t))(a:(x==("__debug__" :Str))=false:=by decide):PE X (.Name x pos) (tC (.int z)):=by
 obtain⟨t,h⟩:=h;exact zRo b h ⟨t,O⟩ a
end
theorem yEs{CX:CXT}{P:V3}{w:V4}{K:A9}{d:C8}{base:V5}{N:C1}{c:Str}{b:Scope}{f:V1}{e:V0}{A:Around}{a:List P0}{s:V2}{H:Hp}{E:XK}:(zCl CX P w K d base N c b f e A a s H E).K=K:=rfl
theorem nox_K{X:Cx}:X.nox.K=X.K:=rfl
theorem zXb{X:Cx}{own:C1}{F:D4}{a:Scope}{C:V1}{d:V2}{c:Hp}{b:B9}:(xD X own F a C d c b).K=X.K:=rfl
theorem zSx(a:List Int):(a.map V.int).all jF=true:=by
 rw[cI];exact rF.mpr λ_ _=>O
theorem zVq(xs:B3):zHw xs []=xs.isEmpty:=by cases xs<;>rfl
end L2
namespace L2
theorem zUt:Int.natAbs 10=10:=rfl
end L2
namespace L2
open PySem PySem.Spec PyProof.Rows
def yAb(g:TG)(tb:TS)(D:gG)(σ:St)(J:It)(H1:Hp):Prop:=∃W:Nat->Nat->St->Hp->Prop,(∃m,W 0 m σ H1)/\∀i m σ H,W i m σ H->
 (J.stop i H/\D.nx σ H)\/(J.go i H/\∃N:St->Hp->Prop,(∀b a,N b a->∃c,c<m/\W (i+1) c b a)/\∀x a,J.yld i H x a->g x σ a λd e=>tb {D with nx:=N,ct:=N,bk:=D.nx} d e)
theorem yBa(a:TI)(g:TG)(tb:TS)(D:gG)(σ:St)(H:Hp):tFor a g tb D σ H=a σ H λJ H1=>yAb g tb D σ J H1:=rfl
theorem jY{lo:Int}{n:Nat}{g:TG}{tb:TS}{D:gG}{σ:St}{H:Hp}(Pv:Nat->St->Hp->Prop)(b:Pv 0 σ H)
  (a:∀i σ H,i<n->Pv i σ H->g (.int (lo+i)) σ H λσ2 H2=>tb {D with nx:=Pv (i+1),ct:=Pv (i+1),bk:=D.nx} σ2 H2) (c:∀σ H,Pv n σ H->D.nx σ H):yAb g tb D σ (Itr lo n) H:=zSn Pv b a c
theorem jN{K:A9}{a:V1}{xs:B3}{g:TG}{tb:TS}{D:gG}{σ:St}{H:Hp}(Pv:Nat->St->Hp->Prop)(e:Pv 0 σ H)(b:∀i σ H,i<=xs...*->Pv i σ H->SqL K H a xs)
  (c:∀i x σ H,xs[i]? =Y x->Pv i σ H->g x σ H λσ2 H2=>tb {D with nx:=Pv (i+1),ct:=Pv (i+1),bk:=D.nx} σ2 H2) (d:∀σ H,Pv xs...* σ H->D.nx σ H):yAb g tb D σ (Itl K a) H:=zZx Pv e b c d
section
variable{X:Cx}
theorem wK:wX X (.type "int") (λxs H Q=>∃k,xs= [.bl k]/\Q (.int (if k then 1 else 0)) H):=λa s σ H xs b Q I r h=>zSe a s σ H xs b Q I r (.inr h)
theorem yE:wX X (.builtin "len") (λxs H Q=>∃p,xs= [.ref p]/\∃ys,SqL X.K H p ys/\Q (.int ys...*) H):=λa s σ H xs b Q I r ⟨p,e,ys,h,q⟩=>kI a s σ H xs b Q I r {p,ys,e, .inl h,q}
end
abbrev nK(k:List Nat):Key:=Sum.inr (tx k)
theorem zAx{a b:List Nat}(h:nK a=nK b):a=b:=by
 let e:tx a=tx b:=Sum.inr.inj h;rw[<-qZ a,e,qZ]
theorem Reps.repl{H:Hp}{k:Key}{v:V}{t:T}(f:Rep H v t):∀{ps:D0}{ts:B0},Reps H (ps.map (·.2)) ts->∃a,Reps H ((ps.map λkv=>if kv.1=k then(kv.1,v) else kv).map (·.2)) a/\a...*=ts...*/\∀u∈a,u∈ts\/u=t
 |[],ts,h=>{ts,h,O,λu j=>.inl j}|p::ps,[],h=>by
  let m:(p::ps).map (·.2)= []:=h;cases m
 |p::ps,u::ts,⟨l,r,e,o,w⟩=>by
  let x:p.2::ps.map (·.2)=l::r:=e;injection x with s n;subst s n;obtain⟨a,c,d,i⟩:=Reps.repl f w
  by_cases g:p.1=k
  ·refine{t::a,{v,_, ?_,f,c},by simp[d],λz b=>?_}
   ·rw[nG,mP g,nG]
   ·rcases mF.mp b with q | q
    ·exact .inr q
    ·exact(i z q).imp (mG _) id
  ·refine{u::a,{p.2,_, ?_,o,c},by simp[d],λz b=>?_}
   ·rw[nG,mI g,nG]
   ·rcases mF.mp b with q | q
    ·exact .inl (by rw[q];exact mD)
    ·exact(i z q).imp (mG _) id
theorem yCb{H:Hp}{ps:D0}{ks:C6}{ts:B0}{n:List Nat}{v:V}{t:T}(c:ps.map (·.1)=ks.map nK)(i:Reps H (ps.map (·.2)) ts)(g:ks.Nodup)(f:Rep H v t):
  ∃(a:C6)(b:B0),(qG ps (nK n) v).map (·.1)=a.map nK/\Reps H ((qG ps (nK n) v).map (·.2)) b/\a.Nodup/\(∀k∈a,k∈ks\/k=n)/\(∀u∈b,u∈ts\/u=t)/\a...*<=ks...*+1:=by
 unfold qG
 by_cases h:(ps.any λm=>decide (m.1=nK n))=true
 ·rw[mP h]
  refine xC (Reps.repl (k:=nK n) f i) λb j w s=>?_;refine{ks,b, ?_,j,g,λk c=>.inl c,s,pP _};rw[<-c,sI];apply sG;intro p _;show(if p.1=nK n then(p.1,v) else p).1=p.1;split<;>rfl
 ·rw[mI h]
  refine{ks++ [n],ts++ [t],by rw[nI,c,nI];rfl,by rw[nI];exact Reps.snoc f i, ?_,λk c=>?_,λu l=>?_,by simp}
  ·refine zQn g λo=>h (bZ.mpr ?_)
   let d:nK n∈ps.map (·.1):=by rw[c];exact nV.mpr ⟨n,o,O⟩
   obtain⟨p,r,e⟩:=nV.mp d;exact{p,r,nF e}
  ·rcases nB.mp c with q | q
   ·exact .inl q
   ·exact .inr (mH.mp q)
  ·rcases nB.mp l with q | q
   ·exact .inl q
   ·exact .inr (mH.mp q)
theorem NiceL_iff{d:Nat}:∀{ts:B0},NiceL d ts↔∀t∈ts,Nice d t
 |[]=>{λ_ _ h=>(nomatch h),λ_=>trivial}|u::ts=>by
  show(Nice d u/\NiceL d ts)↔_;rw[NiceL_iff (ts:=ts)];exact{λh t a=>(mF.mp a).elim (λe=>e▸h.1) (h.2 t),λh=>{h u mD,λt a=>h t (mG _ a)}}
theorem zJv:ts (A8 "abcdefghijklmnopqrstuvwxyz0123456789")=letL++zGn:=by decide+kernel
theorem yId:ts (A8 "abcdefghijklmnopqrstuvwxyz")=letL:=by decide+kernel
theorem ts_a:ts (A8 "a")= [97]:=by decide+kernel
theorem ts_q:ts (A8 "'")= [39]:=by decide+kernel
theorem zXs:A8 "" =tx []:=by decide+kernel
theorem zFl(c k:Nat):(List.replicate k [c]).flatten=List.replicate k c:=by
 induction k with|zero=>rfl|succ k a=>rw[rH,sD,a,rH];rfl
theorem zJd{w:List Nat}(e:w...*<=12)(b:∃c r,w=c::r/\c∈letL)(f:∀c∈w,c∈letL++zGn):xF w=true:=by
 ext wS b c r a d;subst a;unfold xF;simp only[pA,pO,rF];exact{{{by simp,e},d},f}
theorem zIk{w:List Nat}(a:w...*<=30)(b:∀c∈w,c∈zDh):zDs w=true:=by
 unfold zDs;simp only[pA,pO,rF];exact⟨a,b⟩
theorem yGf{i:Int}(a:0<=i)(b:i<36):∃c,atI (letL++zGn) i=Y c/\c∈letL++zGn:=zBc a (by show i<((36:Nat):Int);lia)
theorem zWi{i:Int}(d:0<=i)(e:i<26):∃c,atI (letL++zGn) i=Y c/\c∈letL:=by
 obtain⟨j,rfl⟩:=sW d;let b:j<26:=by lia
 let a:j<letL...*:=b;refine{letL[j],zQ (by rw[pB a];simp[a]),sK a}
theorem zOz:97∈letL:=by decide
theorem zCx{c:Nat}(h:c∈letL):c∈letL++zGn:=nQ _ h
end L2
namespace L2
end L2
namespace L2
open PySem PySem.Spec PyProof.Rows
theorem yIo:A8 " !\"#$&'()*+,-./0123456789:;<=>?@ABCDEFGHIJKLMNOPQRSTUVWXYZ[\\]^_`" ++A8 "abcdefghijklmnopqrstuvwxyz{|}~" =tx zDh:=by decide+kernel
theorem yIr:39∈zDh:=by decide
theorem zYf{i:Int}(a:0<=i)(b:i<94):∃c,atI zDh i=Y c/\c∈zDh:=zBc a (by show i<((94:Nat):Int);lia)
theorem zLk(cs:List Nat):((cs.map λc=>tx [c]).map ts).flatten=cs:=by
 induction cs with|nil=>rfl|cons d r a=>simp only[nG,sD,a,qZ];rfl
theorem HOk.sim{P:V3}{w:V4}{H i:Hp}{h:V5}(l:HOk P w H h)(j:∀b a,H b=Y (.own a)->i b=Y (.own a))(k:∀b d,H b=Y (.tup d)->i b=Y (.tup d))
  (m:∀b u,i b=Y u->H b=Y u\/(∃o,H b=Y (.frz o u))\/∃o f,u= .frz o f/\H b=Y f/\h.get? b=Y o):HOk P w i h:=λb u e=>by
 rcases m b u e with q |⟨o,q⟩|⟨o,f,rfl,q,g⟩
 ·exact(l b u q).stay (λ_ _ _ z=>z) (λc z=>j c b z) λc d z=>k c d z
 ·obtain⟨_,z⟩:=(show ObjOk P w H h b (.frz o u) from l b _ q)
  exact z.stay (λ_ _ _ z=>z) (λc z=>j c b z) λc d z=>k c d z
 ·exact{g,(l b f q).stay (λ_ _ _ z=>z) (λc z=>j c b z) λc d z=>k c d z}
section
variable{X:Cx}{pins:C7}{σ σ':St}{H H':Hp}{s s':V2}
theorem Inv.sim(I:Inv X pins σ H s)(g:∀b,H b=none->H' b=none)(k:∀b a,H b=Y (.own a)->H' b=Y (.own a))(i:∀b f,H b=Y (.tup f)->H' b=Y (.tup f))
  (t:∀b h,H b=Y (.tbl h)->H' b=Y (.tbl h)) (v:∀b o u,X.H₀ b=Y (.frz o u)->H' b=Y (.frz o u))
  (l:∀b u,H' b=Y u->H b=Y u\/(∃o,H b=Y (.frz o u))\/∃o u',u= .frz o u'/\H b=Y u'/\s.heap.get? b=Y o):Inv X pins σ H' s:=
 {I.ok,I.os,I.bare,{I.base.keep,I.base.slot,λb o e n j=>g b (I.base.free b o e n j),I.base.there,λb f e=>i b f (I.base.tups b f e),v,λb h e=>by
  obtain⟨m,q⟩:=I.base.tbls b h e;exact{m,t b _ q}},I.loc,I.cell,g _ I.free,λx c e=>g _ (I.freeC x c e),λp r=>by
  refine vB (I.pin p r) λa b c d e=>?_;exact{a,g _ b,c,d,e},I.hok.sim k i l,I.len}
theorem Inv.freeze{d:V1}{kvs:D0}{o:Obj}(I:Inv X pins σ H s)(h:H d=Y (.dK kvs))(i:s.heap.get? d=Y o):Inv X pins σ (upd H d (.frz o (.dK kvs))) s:=by
 let c:∀b u,H b=u->u≠Y (.dK kvs)->b≠d:=λb u e n z=>by subst z;exact n (e.symm.trans h)
 refine I.sim (λb e=>by rw[zM (c b _ e (by intro z;cases z))];exact e) (λb a e=>by rw[zM (c b _ e (by intro z;cases z))];exact e) (λb a e=>by rw[zM (c b _ e (by intro z;cases z))];exact e)
  (λb a e=>by rw[zM (c b _ e (by intro z;cases z))];exact e) (λb j u e=>?_) λb u e=>?_
 ·let g:=I.base.frzs b j u e
  rw[zM (c b _ g (by intro z;cases z))];exact g
 ·by_cases f:b=d
  ·subst f
   rw[zC] at e;cases e;exact .inr (.inr ⟨o,_,O,h,i⟩)
  ·rw[zM f] at e;exact .inl e
def thaw(H H':Hp):Hp:=λb=>match H b with
 |some (.frz _ _)=>H' b|_=>match H' b with
  |some (.frz _ u)=>Y u|y=>y
theorem zNn{b:V1}{o:Obj}{u:HO}(h:H b=Y (.frz o u)):thaw H H' b=H' b:=by unfold thaw;rw[h]
theorem zJe{b:V1}(h:H' b=none):thaw H H' b=none:=by unfold thaw;rw[h];split<;>rfl
theorem vR{b:V1}{u:HO}(h:H' b=Y u)(n:∀o v,u≠ .frz o v):thaw H H' b=Y u:=by
 unfold thaw;rw[h];split
 ·rfl
 ·cases u<;>first | rfl | exact absurd O (n _ _)
theorem zRr{b:V1}{o:Obj}{u:HO}(h:H' b=Y (.frz o u))(n:∀o v,H b≠Y (.frz o v)):thaw H H' b=Y u:=by
 unfold thaw;rw[h]
 cases e:H b with
 |none=>rfl|some v=>cases v<;>first | rfl | exact absurd e (n _ _)
theorem zVo{b:V1}{u:HO}(h:thaw H H' b=Y u):H' b=Y u\/∃o,H' b=Y (.frz o u):=by
 unfold thaw at h;split at h
 ·exact .inl h
 ·split at h
  ·rename_i o v e
   cases h;exact .inr ⟨_,e⟩
  ·exact .inl h
theorem Inv.thaw(I:Inv X pins σ H s)(J:Inv X pins σ' H' s'):Inv X pins σ' (thaw H H') s':=
 J.sim (λb e=>zJe e) (λb a e=>vR e (by intro o v z;cases z)) (λb a e=>vR e (by intro o v z;cases z)) (λb a e=>vR e (by intro o v z;cases z))
  (λb o u e=>by rw[zNn (I.base.frzs b o u e)];exact J.base.frzs b o u e) λb u e=>(zVo e).imp id .inl
theorem zIr{H H':Hp}(h:∀b u,H b=Y u->H' b=Y u\/((∃o,H' b=Y (.frz o u))/\∀o v,u≠ .frz o v)):Same H (L2.thaw H H'):=λb u e=>by
 rcases h b u e with q |⟨⟨o,q⟩,n⟩
 ·cases u with|frz o v=>rw[zNn e];exact q|_=>exact vR q (by intro o v z;cases z)
 ·refine zRr q λa v z=>?_
  rw[e] at z;cases z;exact n _ _ O
def zXe(t:TE):TE:=λσ H Q=>t σ H λv H'=>Q v (thaw H H')
theorem zFh{e:Expr}{t:TE}(h:PE X e t):PE X e (zXe t):=by
 intro pins s σ H Q I q;refine thn (h pins s σ H _ I q) λu c ⟨v,d,a,r,b⟩=>{v,_,I.thaw a,r,b}
end
theorem KV.get{κ:Type}:∀{kvs:List (κ×V)}{vs:List (κ×V0)}{i:Nat}{kv:κ×V},KV kvs vs->kvs[i]? =Y kv->∃q,vs[i]? =Y q/\kv.1=q.1/\RelV kv.2 q.2
 |_,_,_,_, .nil,e=>by simp at e|_,_,0,_, .cons r _,e=>by simp at e;subst e;exact⟨_,O,r⟩|_,_,i+1,x, .cons _ t,e=>by
  obtain⟨u,a,b⟩:=KV.get (i:=i) (kv:=x) t (by simpa using e);exact{u,by simpa using a,b}
theorem zKo{P:V3}{w:V4}{k:Key}{u:V0}(h:(yZ P w).is k u=true):RelV (kV k) u:=by
 rcases wI (show zGl k u=true from h) with⟨i,t,rfl,rfl⟩|⟨x,t,rfl,rfl⟩
 ·exact⟨t,O⟩
 ·exact⟨t,O⟩
theorem zBj{P:V3}{w:V4}{H:Hp}{h:V5}{d:V1}{o:Obj}{kvs:D0}{j:Array DictEntry}{ep:Nat}(m:HOk P w H h)(e:H d=Y (.frz o (.dK kvs)))(i:o.data= .dict j ep):
  ∃vs,KV kvs vs/\h.DictAt (yZ P w) d vs ep/\(d==A7)=false/\kvs...*<=V9:=by
 obtain⟨g,z,n,vs,b,p,l,k,f,c,a,r⟩:=(show ObjOk P w H h d (.frz o (.dK kvs)) from m d _ e);rw[g] at f;cases f;rw[i] at a;cases a;exact{vs,b,⟨o,j,g,c,i,r⟩,n,z}
def Itd(d:V1)(o:Obj)(kvs:D0):It:=
 ⟨λi H=>i<kvs...*/\H d=Y (.frz o (.dK kvs)),λi H y b=>b=H/\∃a,kvs[i]? =Y a/\y=kV a.1,λi H=>kvs...*<=i/\H d=Y (.frz o (.dK kvs))⟩
theorem zTj{P:V3}{w:V4}{K:A9}{tg:Expr}(d it:V1)(o:Obj)(kvs:D0):zHt P w K tg (Itd d o kvs) [it] it (λi h=>∃j ep,o.data= .dict j ep/\h.IsKeyIter it d i kvs...* ep) where
 mem:=by simp
 obj:=λi h st b m=>by
  obtain⟨j,ep,_,x,e,c,dd⟩:=st;let e':b=it:=by simpa using m
  subst e';exact{x,e,λv z=>by rw[dd] at z;cases z}
 keep:=λi h t st k=>by
  ext wS st j ep a st;exact{j,ep,a,st.at λx e=>k it (by simp) x e}
 item:=by
  intro X Q hw hK hc i l s σ H E I A st n;subst Q hw hK;ext wS st j ep g st;obtain⟨hi,n⟩:=n;refine jD (zBj I.hok n g) λvs f hm _ _=>?_;refine zS (A it (by simp)) λB M f2 D L J=>?_;let y:=f...*;obtain⟨u,p⟩:∃u,kvs[i]? =Y u:={kvs[i],by simp[hi]};refine xC (KV.get f p) λq hq aa ab=>?_;rw[y] at st;refine wpAny_pyNext_dict_item (k:=q.1) (v:=q.2) st hm hq λN t hk r sb=>?_;let I1:Inv X l σ H {s with heap:=t}:=I.turned (t':=s.toks) (λb o m e=>(sb.2 b m).trans e) B M D L J;refine xC (id r) λx e c dd=>?_;exact{N,O,zLs (s:={s with heap:=t}) e c dd ∎ {kV u.1,H,I1,by rw[aa];exact zKo hk,⟨O,u,p,O⟩,{j,ep,g,by rw[y];exact r},λb m=>(A b m).1}}
 done:=by
  intro X Q hw hK hc i l s σ H E I A st n;subst Q hw hK;ext wS st j ep g st;obtain⟨hi,n⟩:=n;refine jD (zBj I.hok n g) λvs f hm _ _=>?_;refine zS (A it (by simp)) λB M f2 D L J=>?_;let y:=f...*;rw[y] at st;exact wpAny_pyNext_dict_end (I.ok.hd hc) st hm (by simp;lia) λt eb=>{O,I.turned (t':=s.toks) (λb o m e=>eb b o m e) B M D L J}
 self:=λ_ _ _ _ _ st h=>by
  ext wS st j ep _ st;exact wpAny_pyIter_keyiter st h
def zXo(c:TE):TI:=λσ H R=>c σ H λx b=>∃d a,x= .ref d/\((b d=Y (.dK a)/\∀o,R (Itd d o a) (upd b d (.frz o (.dK a))))\/∃o,b d=Y (.frz o (.dK a))/\R (Itd d o a) b)
section
variable{X:Cx}
theorem zJi{D l:Expr}{J:TE}(hl:PE X l J):PI X D l (zXo J):=by
 intro f s σ H R I h;refine thn (hl f s σ H _ I h) λv i z_=>?_;obtain⟨x,N,A,r1,M⟩:=z_;ext wS M d a u q;subst u;cases r1;let n:∀o k,Inv X f σ k i->k d=Y (.frz o (.dK a))->R (Itd d o a) k->V8 (S8 X.prog X.w) X.A (pyIter (.ref d)) (PIE X f σ D R) X.xe i:=λo k t e q=>by
  obtain⟨g,z,E,B,m,o',y,w,p,c,j,r⟩:=(show ObjOk X.prog X.w k i.heap d (.frz o (.dK a)) from t.hok d _ e);rw[g] at p;cases p;let Q:i.heap.DictAt (yZ X.prog X.w) d B w:=⟨o,y,g,c,j,r⟩;refine wpAny_pyIter_dict E Q ?_;refine⟨i⁻¹,[i⁻¹],_,_,k,O,t.kept (t':=i.toks) λb o e=>mL _ e,zTj d _ o a,⟨y,w,j,_,nM _ rfl,rfl,by rw[m...*];rfl⟩,λb L=>?_,q⟩;let e:b=i⁻¹:=by simpa using L
  subst e;exact t.fpOk (mE _) (t.hok.fresh (mE _))
 rcases q with⟨e,q⟩|⟨o,e,q⟩
 ·obtain⟨z,E,B,m,o,y,w,p,_⟩:=(show ObjOk X.prog X.w N i.heap d (.dK a) from A.hok d _ e)
  exact n o _ (A.freeze e p) zC (q o)
 ·exact n o _ A e q
theorem zDz{x:Str}{F:D4}{d:V1}{o:Obj}{kvs:D0}{g:TT}{f:TE}{σ:St}{Q:VK}{H1:Hp}(Pv:Nat->List V->Hp->Prop)(m:kvs...*<=V9)(j:Pv 0 [] H1)(hz:∀i a H,Pv i a H->H d=Y (.frz o (.dK kvs)))
  (q:∀i c a H,kvs[i]? =Y c->a...*<=i->Pv i a H->g (Y (kV c.1)::F.map (λp=>(σ[p.2]?).join)) H λb H3=>if b=true then f (Y (kV c.1)::F.map (λp=>(σ[p.2]?).join)) H3 λz H4=>Pv (i+1) (a++ [z]) H4 else Pv (i+1) a H3)
  (n:∀a H,a...*<=kvs...*->Pv kvs...* a H->∀p,H p=none->Q (.ref p) (upd H p (.lst a))):wN [x] F (qQ 0) g f σ Q (Itd d o kvs) H1:=
 zFe Pv m j (λi a H h p=>{h,hz i a H p}) (λa H p=>{mE _,hz _ a H p}) (λi a H y t s r l k=>by
  obtain⟨rfl,c,e,rfl⟩:=k;exact q i c a _ e r l) n
theorem wJ{K:A9}{x:Str}{F:D4}{a:V1}{xs:B3}{f:TT}{e:TE}{σ:St}{Q:VK}{H1:Hp}(Pv:Nat->List V->Hp->Prop)(k:xs...*<=V9)(g:Pv 0 [] H1)(hz:∀i c H,i<=xs...*->Pv i c H->SqL K H a xs)
  (n:∀i v c H,xs[i]? =Y v->c...*<=i->Pv i c H->f (Y v::F.map (λp=>(σ[p.2]?).join)) H λb H3=>if b=true then e (Y v::F.map (λp=>(σ[p.2]?).join)) H3 λz H4=>Pv (i+1) (c++ [z]) H4 else Pv (i+1) c H3)
  (l:∀c H,c...*<=xs...*->Pv xs...* c H->∀p,H p=none->Q (.ref p) (upd H p (.lst c))):wN [x] F (qQ 0) f e σ Q (Itl K a) H1:=
 zFe Pv k g (λi c H h p=>{xs,xs[i],hz i c H (tS h) p,by simp[h]}) (λc H p=>{xs,hz _ c H (mE _) p,mE _}) (λi c H y r o q d j=>by
  obtain⟨rfl,m⟩:=j;exact n i y c _ (m xs (hz i c _ (tS o) d)) q d) l
noncomputable def zLv(p d:V1):HO:=.ext λh=>h.IsValuesView p d
theorem zPw{κ:Type}:∀{kvs:List (κ×V)}{vs:List (κ×V0)},KV kvs vs->Vals (kvs.map (·.2)) (vs.map (·.2))
 |_,_, .nil=>.nil|_,_, .cons r t=>.cons r.2 (zPw t)
def zWr:V->List V->Hp->VK->Prop:=λx b H Q=>∃d a,x= .ref d/\b= []/\Rd H d (.dK a)/\∀p,H p=none->Q (.ref p) (upd H p (zLv p d))
theorem zUh:MtR X "dict.values" zWr:=by
 intro f s σ H x u v w Q I j l h;ext zR h d i c a m q;subst c a;cases j;cases l;obtain⟨z,t,n,p,g⟩:=gW I.hok m;refine call_meetsIn PySem.F.slot_dict_values g.typeIs PySem.F.entry_dict_values (PySem.F.args_dict_values_1 _) (meets_dict_values (yZ X.prog X.w) d t) {⟨n,g⟩, ?_};refine{.ref s⁻¹,_,I.laid (t':=s.toks) (λb o e=>mL _ e) (mE _) (o:=zLv s⁻¹ d) ?_,O,q _ (I.hok.fresh (mE _))};exact⟨{_,nM _ O,O,O},{_,nM _ O},λy A ⟨o,e,r⟩ k=>⟨o,k o e,r⟩⟩
theorem zMj(E:X.calm=true):wX X (.type "list") (λxs H Q=>∃p d kvs,xs= [.ref p]/\H p=Y (zLv p d)/\Rd H d (.dK kvs)/\∀l,H l=none->Q (.ref l) (upd H l (.lst (kvs.map (·.2))))):=by
 intro k s σ H xs us Q I r h;ext zU h p d kvs c w t;ext oA t A q;subst c;obtain⟨u,rfl,y⟩:=jH r;cases y;obtain⟨z,N,i,b,D⟩:=gW I.hok A;obtain⟨m,_⟩:=(show ObjOk X.prog X.w H s.heap p (zLv p d) from I.hok p _ w);obtain⟨x,f⟩:=D.dictAt;let hl:=b...*;refine W.kdl_call (W.kdl_values (knd:=yZ X.prog X.w) (kvs:=i) (ep:=x)) (I.ok.hd E) ⟨m,f⟩ ∅ λM n a B L J g=>?_;refine{.ref s⁻¹,_,I.laid (t':=n) L (mE _) (o:=.lst (kvs.map (·.2))) ?_,O,q _ (I.hok.fresh (mE _))};let e:a.toList=i.map (·.2):=W.kdl_vals_eq a.toList (by rw[tV];exact g.1) (λj v e=>g.2 j v (by rw[<-sL];exact e));exact{by rw[mN];exact z,a.toList,B,by rw[e];exact zPw b,by simpa using J}
end
theorem zKf:typeLookup (.type "list") "keys" =pure none:=am_miss_of_fast (by decide+kernel)
theorem zBr:entryFor table "dict.update.loop" =some Builtin.«dict.update.loop»:=entryFor_of_tree (by kernel_rfl)
theorem jS:plainId "dict.update.loop" =true:=by decide+kernel
section
variable{prog:V3}{w:V4}{A:Around}{E:C9}
theorem zTq{s:V2}{a:V1}{xs:Array V0}{k:Nat}{name:Str}{Q:Option V0->V2->Prop}
  (p:s.heap.get? a=some {cls:=.type "list",dict:=none,data:=.seq xs k,slots:=#[]}) (f:typeLookup (.type "list") name=pure none) (i:(["__module__","__name__","__qualname__","__doc__","__annotations__"]:C1).contains name=false) (q:A.handled=none)
  (h:∀l m,(∀b o,s.heap.get? b=Y o->l.get? b=Y o)->Q none {s with heap:=l,toks:=m}) (hsz:name...*+100<=V9:=by size_fits):
  V8 (S8 prog w) A (getAttr? (.ref a) name) Q E s:=by
 obtain⟨r,g,d,m,os⟩:=s;let n:∀c,(⟨r,g,d,c,os⟩:V2).TypeIs (.ref a) "list":=λ_=>⟨_,p,O⟩;let t:=sub_AttributeError;let x:=F.slot_list_getattribute.lookup;let B:=F.slot_list_getattribute.bind (.ref a);let z:=am_list_getattr_none;unfold getAttr? getAttrBy? getAttrBy
 repeat (any_goals (first | assumption | exact n _ |((with_reducible show V8 _ _ (call (Value.builtin "list.__getattribute__") _ _) _ _ _);refine sQ F.slot_list_getattribute (n _) am_entry_list_getattribute (F.args_list_getattribute_2 _ _) (meets_getattribute_miss_list a xs k #[] name _ f i hsz) {p,q,λl c e j=>?_})| wp_step))
 refine oEE (j.there) λy v u=>?_;show V8 _ _ (getattributeRaised _ _ _ _ _ _ _) _ _ _;unfold getattributeRaised
 repeat (any_goals (first | assumption | wp_step))
 exact h l c λb o e=>j.keeps b o e
theorem yCq{κ:Type} [DecidableEq κ] (knd:KeyKind prog w κ) (hh:A.handled=none) {d it l:V1} {items:Array V0} {ps:List (κ×V0)} {R:Result->V2->Prop} (q:d≠it) (L:d≠l) (J:it≠l) (ab:ps...*=items.size):
  ∀(n i:Nat)(s:V2)(kvs:List (κ×V0)),items.size - i=n->i<=items.size->s.heap.IsListIter it l i->s.heap.IsList l items->
   (∀(j:Nat) k v,ps[j]? =Y (k,v)->∃a f,items[j]? =Y (.ref a)/\a≠d/\a≠it/\IsTup s.heap a #[f,v]/\knd.is k f=true)->s.heap.DictOf knd d kvs->kvs...*+n<=V9->
   (∀h' H,h'.DictOf knd d ((ps.drop i).foldl (λm kv=>stored m kv.1 kv.2) kvs)->(∀b o,b≠d->b≠it->s.heap.get? b=Y o->h'.get? b=Y o)->R (.ok (.ret .none)) {s with heap:=h',toks:=H})->
   codeAny (S8 prog w) A (.builtin "dict.update.loop" {[.ref d, .ref it,rawInt i, .none],[]}) R s:=by
 intro n
 induction n with
 |zero=>
  intro i s kvs hn hi g D hp M hz I;refine bD zBr ?_;rw[tM jS _];unfold Builtin.«dict.update.loop»;show V8 _ A.in1 (pyNext (.ref it)>>=_) _ _ s;refine mC (aK (show A.in1.handled=none from hh) g D (by simp;lia) λh' eb=>?_);show V8 _ _ (Builtin.Dict.addKeywords d []>>=λ_=>ret .none) _ _ _;refine mC (mT (mT (I h' _ ?_ λb o h c e=>eb b o c e)));rw[aI ∅];exact M.extBut eb q
 |succ n ih=>
  intro i s kvs hn hi g D hp M hz I;refine bD zBr ?_;rw[tM jS _];unfold Builtin.«dict.update.loop»;let aa:i<items.size:=by lia
  obtain⟨kv,r⟩:∃kv,ps[i]? =Y kv:={ps[i],by simp[ab,aa]};refine zR (hp i kv.1 kv.2 r) λa f ha af u z_=>?_;ext oA z_ ht hk;show V8 _ A.in1 (pyNext (.ref it)>>=_) _ _ s;refine mC (aG g D (x:=.ref a) ha λh' ae sb=>?_);show V8 _ _ (holding [Value.ref a] (Sem.tryCatch (Builtin.Dict.pairItems (.ref a)) _>>=_)>>=λ_=>again _) _ _ _;let kp:∀b o,b≠it->s.heap.get? b=Y o->h'.get? b=Y o:=λb o h e=>(sb.2 b h).trans e;obtain⟨o,ho,hc,m,z⟩:=id ht;refine mC (pL (mC (aM ?_)));unfold Builtin.Dict.pairItems;refine mC (wpAny_typeOf (T:="tuple") ⟨o,kp a o u ho,hc⟩ ?_);rw[mP ∎];refine mC (cQ (kp a o u ho) z (mT ?_));show V8 _ _ (holding [f,kv.2] (dictSet d f kv.2)) _ _ _;refine pL (wpAny_dictSet_pairs hk (M.sameBut sb q) (λh2 ac B=>?_) ∅);let p:∀b o,b≠d->b≠it->s.heap.get? b=Y o->h2.get? b=Y o:=λb o h c e=>(B.2 b h).trans (kp b o c e);let Q:((i:Int)+1)=((i+1:Nat):Int):=by lia
  rw[Q];refine mT {bA jS _,ih (i+1) _ (stored kvs kv.1 kv.2) ∅ ∅ ?_ ?_ ?_ ac ?_ ?_}
  ·exact ae.at λo e=>(B.2 it (Ne.symm q)).trans e
  ·ext oEA D ol e1 e2
   exact{ol,p l ol (Ne.symm L) (Ne.symm J) e1,e2}
  ·intro j k v e
   obtain⟨a',y,x1,x2,x3,⟨o',y1,y2⟩,x5⟩:=hp j k v e;exact{a',y,x1,x2,x3,{o',p a' o' x2 x3 y1,y2},x5}
  ·let:(stored kvs kv.1 kv.2)...*<=kvs...*+1:=by
    unfold stored;split<;>simp
   lia
  ·intro h3 H N k3
   refine I h3 H ?_ λb o h c e=>k3 b o h c (p b o h c e);let e:ps.drop i=kv::ps.drop (i+1):=by
    obtain⟨t,e'⟩:=mJ.mp r;rw[nU t,e']
   rw[e,tK];exact N
end
section
variable{X:Cx}
theorem zMu{P:V3}{w:V4}{H:Hp}{h:V5}(n:HOk P w H h):∀{kvs:D0}{ys:B3}{c:B7},Vals ys c->kvs...*=ys...*->(∀(j:Nat) kv,kvs[j]? =Y kv->∃a,ys[j]? =Y (.ref a)/\H a=Y (.tup [kV kv.1,kv.2]))->
  ∃ps:List (Key×V0),KV kvs ps/\∀(j:Nat) k v,ps[j]? =Y (k,v)->∃a b,c[j]? =Y (.ref a)/\IsTup h a #[b,v]/\(yZ P w).is k b=true
 |[],[],_, .nil,_,_=>{[], .nil,λj k v e=>by simp at e}|kv::kvs,y::ys,_, .cons r t,d,o=>by
  obtain⟨ps,l,z⟩:=zMu n (kvs:=kvs) t (by simpa using d) λj i e=>by
   refine oEA (o (j+1) i (by simpa using e)) λa f g=>?_;exact{a,by simpa using f,g}
  refine oEA (o 0 kv O) λa f g=>?_;simp only[pY,Option.some.injEq] at f;subst f;cases r;obtain⟨_,m,s,p⟩:=(show ObjOk P w H h a (.tup [kV kv.1,kv.2]) from n a _ g);refine yL (zEr s) λu x q A B=>?_;subst q;refine{(kv.1,x)::ps, .cons ⟨O,B⟩ l,λj k v e=>?_}
  cases j with
  |zero=>
   simp only[pY,Option.some.injEq,Prod.mk.injEq] at e;obtain⟨rfl,rfl⟩:=e;exact{a,u,O,p,zHh A}
  |succ j=>simpa using z j k v (by simpa using e)
 |[],_::_,_,_,d,_=>by simp at d|_::_,[],_,_,d,_=>by simp at d
theorem zEq(hc:X.calm=true):wX X (.type "dict") (λxs H Q=>∃(p:V1)(ys:B3)(kvs:D0),xs= [.ref p]/\H p=Y (.lst ys)/\kvs...*=ys...*/\(∀(j:Nat) kv,kvs[j]? =Y kv->∃a,ys[j]? =Y (.ref a)/\H a=Y (.tup [kV kv.1,kv.2]))/\
  ∀l,H l=none->Q (.ref l) (upd H l (.dK (kC [] kvs)))):=by
 intro aa s σ H xs us Q I r h;ext zU h p ys kvs L hq z_;ext oAA z_ w t q;subst L;obtain⟨u,rfl,rx⟩:=jH r;cases rx;obtain⟨hz,x,n,rv,hg⟩:=(show ObjOk X.prog X.w H s.heap p (.lst ys) from I.hok p _ hq);obtain⟨ps,B,M⟩:=zMu I.hok rv w t;let ae:=rv...*;let ab:=B...*;let m:p<s⁻¹:=mZ hg;refine callType_codes (Q₁:=λD s₁=>D= .ref s⁻¹/\s₁={s with heap:=s.heap.push {cls:=.type "dict",data:=.dict #[]}}) F.kt_called_dict (F.kt_typeCall_dict_1 _) F.entry_dict_init (kt_code_dict_new _ ⟨O,O⟩) ?_;rintro D s₁ ⟨rfl,rfl⟩;let c:(s.heap.push {cls:=.type "dict",data:=.dict #[]}).DictOf (yZ X.prog X.w) s⁻¹ []:=Heap.DictOf.new s.heap;let f:=mL {cls:=.type "dict",data:=.dict #[]} hg;refine{c.typeIs,F.args_dict_init_2 _ _, ?_};unfold Builtin.«dict.__init__»;refine mC ?_;unfold Builtin.Dict.selfAndRest;refine mC (wpAny_notOrdered_dict c.typeIs ?_);show V8 _ _ (pure (s⁻¹,[Value.ref p])) _ _ _;refine mT ?_;show V8 _ _ (Builtin.Dict.updateFrom "dict.__init__" s⁻¹ (.ref p) [] .none) _ _ _;unfold Builtin.Dict.updateFrom;refine mC (wpAny_typeOf (T:="list") ⟨_,f,O⟩ ?_);rw[mP ∎];refine mC (zTq f zKf (by decide+kernel) (I.ok.hd hc) (λA ac E=>?_));rw[mP (by rfl)];refine mC (wpAny_rule (mC (bM (items:=x.toArray) {_,E _ _ f,O,n,O} ?_)));let k1:∀b o,s.heap.get? b=Y o->A.get? b=Y o:=λb o e=>E b o (mL _ e);let g:s⁻¹<A.objs.size:=mZ (E _ _ (nM _ O));let i:∀b o,A.get? b=Y o->(A.push {cls:=.type "list_iterator",data:=.fields #[.ref p, .int 0 0]}).get? b=Y o:=λb o e=>mL _ e;refine mT ⟨bA jS _,yCq (yZ X.prog X.w) (show X.A.in1.handled=none from I.ok.hd hc) (d:=s⁻¹) (it:=A.objs.size) (l:=p) (items:=x.toArray) (ps:=ps) (nP g) (rC m) (rC (cG m g)) (by simp;lia) _ 0 _ [] rfl (nR _) ?_ ?_ ?_ ?_ ?_ ?_⟩
 ·exact{_,nM _ O,O,O}
 ·exact{_,i _ _ (E _ _ f),O,n,O}
 ·intro j k v e
  obtain⟨a,N,e1,⟨o,e2,e3⟩,e4⟩:=M j k v e;let z:=mZ e2;exact{a,N,by simpa using e1,nP z,nP (cG z g),{o,i _ _ (k1 _ _ e2),e3},e4}
 ·ext zEo c o es ep ho rest
  exact{o,es,ep,i _ _ (E _ _ ho),rest}
 ·simp;lia
 ·intro h3 J y k3
  rw[aN] at y;let k4:∀b o,s.heap.get? b=Y o->h3.get? b=Y o:=λb o e=>k3 b o (nP (mZ e)) (nP (cG (mZ e) g)) (i _ _ (k1 _ _ e));refine⟨rfl, .ref s⁻¹,_,I.laid (t':=J) k4 (mE _) (o:=.dK (kC [] kvs)) ?_,rfl,q _ (I.hok.fresh (mE _))⟩;let hm:(kC [] kvs)...*<=kvs...*:=by
   let:=gQ kvs []
   simpa using this
  exact zKj ∅ (rV.mpr (Ne.symm (nP I.big))) (KV.merge B .nil) y
end
structure Bl2(mg:C8):Prop extends Bl mg where
 max:mg "max" =none
 min:mg "min" =none
 sorted:mg "sorted" =none
noncomputable def mxI(b z:Int):Int:=if z>b then z else b
noncomputable def mxD(k:Int):List Int->Int
 |[]=>k|b::r=>r.foldl mxI b
theorem yCm(a d:V0):argsOk "max" {[a],[("default",d)]}:=by unfold argsOk;kernel_rfl
section
variable{prog:V3}{w:V4}{A:Around}
theorem yBj{it l S:V1}{items:B7}{f:List Int}(hh:A.handled=none)(I:Vals (f.map V.int) items)(j:S≠it)(aa:S≠l)(L:it≠l)(dv:V0){R:Result->V2->Prop}:
  ∀(n i:Nat)(s:V2)(c:Nat)(b:Int)(tb:Tok),f...* - i=n->i<=f...*->s.heap.IsListIter it l i->s.heap.IsList l items.toArray->s.heap.get? S=some {cls:=.type "list",dict:=none,data:=.seq #[.int b tb, .int b tb] c,slots:=#[]}->
   (∀h' k t,(∀x o,x≠S->x≠it->s.heap.get? x=Y o->h'.get? x=Y o)->R (.ok (.ret (.int ((f.drop i).foldl mxI b) t))) {s with heap:=h',toks:=k})->
   codeAny (S8 prog w) A (.builtin "max.loop" {[.ref it, .none, .ref S],[("default",dv)]}) R s:=by
 let y:(toString "max" ++toString ".loop" :String)= "max.loop":=by decide
 intro n
 induction n with
 |zero=>
  intro i s c b tb hn N st H v D;refine bD dG ?_;rw[tM tD _];show V8 _ A.in1 (seqItems? (.ref S)>>=_) _ _ s;refine mC (cQ v O ?_);let d:=I...*;rw[mN] at d;refine mC (aM (aK (show A.in1.handled=none from hh) st H (by simp;lia) λh' eb=>?_));show V8 _ A.in1 (updateSeq S (λ_=>#[])>>=_) _ _ _;refine mC (dO (eb S _ j v) O (mC (cS (mT ?_))));let q:=D (h'.update S (Obj.mapSeq λ_=>#[])) s.toks tb λx o g a e=>(mV _ _ (Ne.symm g)).trans (eb x o a e);rw[aI ∅] at q;exact q
 |succ n ih=>
  intro i s c b tb hn N st H v D;let ab:i<f...*:=by lia
  let d:=I...*;rw[mN] at d;obtain⟨z,hz⟩:∃z,f[i]? =Y z:={f[i],by simp[ab]};obtain⟨u,ht,t,rfl⟩:=I.get (i:=i) (x:=.int z) (by rw[nH,hz];rfl);let ed:f.drop i=z::f.drop (i+1):=by
   obtain⟨h1,p⟩:=mJ.mp hz;rw[nU h1,p]
  refine bD dG ?_;rw[tM tD _];show V8 _ A.in1 (seqItems? (.ref S)>>=_) _ _ s;refine mC (cQ v O ?_);refine mC (aM (aG st H (x:=.int z t) (by simpa using ht) λh' r sb=>?_));let B:∀x o,x≠it->s.heap.get? x=Y o->h'.get? x=Y o:=λx o g e=>(sb.2 x g).trans e;let h:=B S _ j v;let m:h'.IsList l items.toArray:=by
   obtain⟨o,p,J⟩:=H;exact⟨o,B l o (Ne.symm L) p,J⟩
  show V8 _ A.in1 (tryCatch (holding [Value.int z t,Value.int z t] (richCompare .Gt (.int z t) (.int b tb)>>=_)) _>>=_) _ _ _;refine mC (aM (pL (mC (show V8 (S8 prog w) A.in1 (A6 .Gt (.int z t) (.int b tb)) _ _ _ from gt_int ?_))));refine mC (pL (pZ (mC (cS (mT ?_)))))
  by_cases E:z>b
  ·rw[nF E,mP O]
   refine mC (dO h O (mC (cS ?_)));rw[y];refine mT {bA tD _,ih (i+1) _ _ z t ∅ ∅ ?_ ?_ (tJ _ h O) λM k t2 Q=>?_}
   ·exact r.at λo e=>(mV _ _ j).trans e
   ·obtain⟨o,p,J⟩:=m
    exact{o,(mV _ _ aa).trans p,J}
   ·let q:=D M k t2 λx o g a e=>Q x o g a ((mV _ _ (Ne.symm g)).trans (B x o a e))
    rw[ed,tK,show mxI b z=z from mP E] at q;exact q
  ·rw[nJ E,mI nD]
   refine mC (cS ?_);rw[y];refine mT {bA tD _,ih (i+1) _ _ b tb ∅ ∅ r m h λM k t2 Q=>?_};let q:=D M k t2 λx o g a e=>Q x o g a (B x o a e);rw[ed,tK,show mxI b z=b from mI E] at q;exact q
theorem zXm{it l S:V1}{items:B7}{p:List Int}{s:V2}{c:Nat}(L:A.handled=none)(B:Vals (p.map V.int) items)(d:S≠it)(h:S≠l)(m:it≠l)(n:V0){R:Result->V2->Prop}
  (st:s.heap.IsListIter it l 0) (E:s.heap.IsList l items.toArray) (J:s.heap.get? S=some {cls:=.type "list",dict:=none,data:=.seq #[] c,slots:=#[]})
  (I:∀f q v,(∀x o,x≠S->x≠it->s.heap.get? x=Y o->f.get? x=Y o)->(match p with | []=>v=n | b::r=>∃t,v= .int (r.foldl mxI b) t)->R (.ok (.ret v)) {s with heap:=f,toks:=q}):
  codeAny (S8 prog w) A (.builtin "max.loop" {[.ref it, .none, .ref S],[("default",n)]}) R s:=by
 let H:(toString "max" ++toString ".loop" :String)= "max.loop":=by decide
 let a:=B...*;rw[mN] at a;refine bD dG ?_;rw[tM tD _];show V8 _ A.in1 (seqItems? (.ref S)>>=_) _ _ s;refine mC (cQ J O ?_)
 cases p with
 |nil=>
  refine mC (aM (aK (show A.in1.handled=none from L) st E (by simp at a;simp[a]) λf N=>?_));refine mC (wpAny_rule (mT ?_));exact I f s.toks n (λx o _ g e=>N x o g e) O
 |cons z r=>
  obtain⟨u,ht,t,rfl⟩:=B.get (i:=0) (x:=.int z) O;refine mC (aM (aG st E (x:=.int z t) (by simpa using ht) λf D M=>?_));let y:∀x o,x≠it->s.heap.get? x=Y o->f.get? x=Y o:=λx o g e=>(M.2 x g).trans e;let k:=y S _ d J;show V8 _ A.in1 (updateSeq S (λ_=>#[.int z t, .int z t])>>=_) _ _ _;refine mC (dO k O ?_);rw[H];refine mT {bA tD _,yBj L B d h m n _ 1 _ _ z t O (by simp) ?_ ?_ (tJ _ k O) λh2 q t2 k2=>?_}
  ·exact D.at λo e=>(mV _ _ d).trans e
  ·obtain⟨o,e1,Q⟩:=E
   exact{o,(mV _ _ h).trans (y l o (Ne.symm m) e1),Q}
  ·exact I h2 q _ (λx o g j e=>k2 x o g j ((mV _ _ (Ne.symm g)).trans (y x o j e))) ⟨t2,O⟩
end
section
variable{X:Cx}
def zLd(K:A9):V->V->Hp->VK->Prop:=λx y H Q=>∃(p:V1)(a:List Int)(k:Int),x= .ref p/\y= .int k/\SqL K H p (a.map V.int)/\Q (.int (mxD k a)) H
theorem zUb(hc:X.calm=true){a:C7}{s:V2}{σ:St}{H:Hp}{x y:V}{u d:V0}{Q:VK}(I:Inv X a σ H s)(rx:RelV x u)(ry:RelV y d)(h:zLd X.K x y H Q):
  V8 (S8 X.prog X.w) X.A (call (.builtin "max") [u] [("default",d)]) (EP X a σ Q) X.xe s:=by
 ext zU h p ns k z A z_;ext oA z_ hq q;subst z A;cases rx;refine xC (I.list hq) λaa rv pl hz=>?_;let D:=pl.isList;let g:p<s⁻¹:=by obtain⟨_,e,_⟩:=D;exact mZ e
 let E:(toString "max" ++toString ".loop" :String)= "max.loop":=by decide
 refine aB (aT F.plain_max F.entry_max ?_);simp only[checkBuiltinCall,F.kind_max];let m:V8 (S8 X.prog X.w) X.A.in1 (Builtin.«max» {[.ref p],[("default",d)]}) (λB j=>match B with
   |.done f=>(match (Except.ok f:Result) with | .ok (.ret v)=>EP X a σ Q v j | .ok _=>False | .error e=>X.xe e j)
   | .again c'=>c'.quiet=true/\codeAny (S8 X.prog X.w) X.A c' (λr j=>match r with | .ok (.ret v)=>EP X a σ Q v j | .ok _=>False | .error e=>X.xe e j) j) X.xe s:=by
  show V8 _ X.A.in1 (Builtin.Builtins.bindParams "max" ["key","default"] 0 {[],[("default",d)]}>>=_) _ _ s;refine mC (wpAny_of_eq (show Builtin.Builtins.bindParams "max" ["key","default"] 0 {[],[("default",d)]}=pure [none,Y d] from O) ?_);refine mC (mT ?_);refine mC (bM D ?_);refine mC (bP ?_);rw[E];let N:∀b o,s.heap.get? b=Y o->((s.heap.push {cls:=.type "list_iterator",data:=.fields #[.ref p, .int 0 0]}).push {cls:=.type "list",data:=.seq #[]}).get? b=Y o:=λb o e=>mL _ (mL _ e);let i:(s.heap.push {cls:=.type "list_iterator",data:=.fields #[.ref p, .int 0 0]}).objs.size=s⁻¹+1:=sZ ..;refine mT {bA tD _,zXm (it:=s⁻¹) (l:=p) (S:=(s.heap.push {cls:=.type "list_iterator",data:=.fields #[.ref p, .int 0 0]}).objs.size) (c:=0) (I.ok.hd hc) rv (by rw[i];exact rC (tE _)) (by rw[i];exact rC (Nat.lt_succ_of_lt g)) (rC g) d ?_ ?_ (nM _ O) λh' tk v k2 J=>?_}
  ·exact{_,mL _ (nM _ O),O,O}
  ·obtain⟨o,e1,e2⟩:=D
   exact{o,N _ _ e1,e2}
  ·let M:Inv X a σ H {s with heap:=h',toks:=tk}:=I.kept λb o e=>k2 b o (by rw[i];exact nP (Nat.lt_succ_of_lt (mZ e))) (nP (mZ e)) (N b o e)
   cases ns with
   |nil=>exact{.int k,H,M,by rw[show v=d from J];exact ry,q}|cons b r=>
    obtain⟨t,e⟩:=J;exact{.int (r.foldl mxI b),H,M,⟨t,e⟩,q}
 cases n:Manifest.signature? "max" with
 |none=>exact mT m|some w=>
  let L:=yCm (.ref p) d;simp only[argsOk,n] at L;let h2:Bind.checkArgs "max" w {[.ref p],[("default",d)]}=pure ():=L;show V8 _ X.A.in1 (Bind.checkArgs "max" w {[.ref p],[("default",d)]}) _ _ s;rw[h2];exact mT m
variable{e d:Expr}{te td:TE}{p kp pos:Pos}
def zXw(K:A9)(te td:TE):TE:=λσ H Q=>te σ H λx b=>td σ b λy a=>zLd K x y a Q
theorem yBx(w:X.calm=true)(z:Gl X "max")(q:X.mg "max" =none)(t:PA X [e] (vK te zAh))(n:PE X d td)(o:S5 pos (A5 [e] X.env)=(false,eval e X.env)::S5 pos (A5 [] X.env):=by rfl)(b:(S5 pos (A5 [e] X.env)).any (·.1)=false:=by rfl):
  PE X (.Call (.Name "max" p) [e] [{some "default",d,kp}] pos) (zXw X.K te td):=by
 intro a s σ H Q I h;refine rA (zAb I z q yHt ?_ ∎ ∎);refine callWith_kw ?_ o b;refine thn (t pos a s σ H (λf g=>match f with | [x]=>td σ g (λy j=>zLd X.K x y j Q)| _=>False) I h) λD k z_=>?_;obtain⟨f,g,m,i,c⟩:=z_
 match f,c,i with
 |[x],c,i=>
  obtain⟨u,rfl,l⟩:=jH i;refine kws_cons (thn (n a k σ g _ m c) λE B z_=>kws_nil ?_);obtain⟨y,j,v,A,r⟩:=z_;exact zUb w v l A r
end
end L2
namespace L2
open PySem PySem.Spec PyProof.Rows
mutual
noncomputable def T.dep:T->Nat
 |.lst ts=>T.deps ts+1|.dic _ ts=>T.deps ts+1|.tup ts=>T.deps ts+1|.non=>0|.bl _=>0|.int _=>0|.str _=>0
noncomputable def T.deps:List T->Nat
 |[]=>0|t::ts=>max (T.dep t) (T.deps ts)
end
mutual
def T.pure:T->Prop
 |.tup _=>False|.lst ts=>l4 ts|.dic ks ts=>ks.Nodup/\l4 ts|.non=>True|.bl _=>True|.int _=>True|.str _=>True
def l4:List T->Prop
 |[]=>True|t::ts=>T.pure t/\l4 ts
end
theorem b7{t:T}:∀{ts:B0},t∈ts->T.dep t<=T.deps ts
 |[],h=>nomatch h|u::ts,h=>by
  show T.dep t<=max (T.dep u) (T.deps ts);rcases mF.mp h with e | e
  ·subst e;exact dP _ _
  ·exact nW (b7 e) (Nat.le_max_right _ _)
section
variable{P:V3}{w:V4}
open AutoSeq1 (wpAny_loadPart')
open MeetsSeq MeetsSeq2 MeetsSeq3 SeqRoads2 SeqAt
end
section
variable{X:Cx}{pins:C7}{σ:St}{H:Hp}{s:V2}
theorem uF{ks:C6}(h:ks.Nodup):(ks.map nK).Nodup:=by
 induction ks with
 |nil=>exact aO|cons k r c=>
  rw[nX] at h;rw[nG,nX];refine{λb=>?_,c h.2};obtain⟨d,a,e⟩:=nV.mp b;exact h.1 (zAx e▸a)
def rEq0(K:A9)(c:Bool):R2:=λx y H Q=>∃a b d,x= .ref a/\y= .ref b/\SqL K H a d/\SqL K H b []/\Q (.bl (if c then !d.isEmpty else d.isEmpty)) H
theorem zQi(i:X.A.units<cLine):OpR X (A6 .Eq) (rEq0 X.K false):=by
 intro pins s σ H x y v u Q I t r h;ext zU h a b k f g m;ext oAA m w o q;subst f g;cases t;cases r;refine xC (I.list w) λB l d _=>?_;refine xC (I.list o) λA p c _=>?_;cases p
 cases k with
 |nil=>
  cases l;exact SeqAt.eq_listAt (e:=λ_=>true) d.isList c.isList O i (λj n=>absurd n (by simp)) {.bl true,H,I,O,q}
 |cons x k=>
  let z:=l...*;exact SeqAt.eq_list_lengthsAt d.isList c.isList (by simp[<-z]) i {.bl false,H,I,O,q}
end
end L2
namespace L2
open PySem PySem.Spec PyProof.Rows
mutual
noncomputable def T.sz:T->Nat
 |.lst ts=>T.szs ts+1|.dic _ ts=>T.szs ts+1|.tup ts=>T.szs ts+1|.non=>1|.bl _=>1|.int _=>1|.str _=>1
noncomputable def T.szs:List T->Nat
 |[]=>0|t::ts=>T.sz t+T.szs ts
end
mutual
def Occ(H:Hp)(d:V1):V->T->Prop
 |v, .lst ts=>v= .ref d\/∃a b,v= .ref a/\H a=Y (.lst b)/\Occs H d b ts|v, .dic _ ts=>v= .ref d\/∃a c,v= .ref a/\H a=Y (.dK c)/\Occs H d (c.map (·.2)) ts|v, .tup ts=>v= .ref d\/∃a b,v= .ref a/\H a=Y (.tup b)/\Occs H d b ts|_, .non=>False|_, .bl _=>False|_, .int _=>False|_, .str _=>False
def Occs(H:Hp)(d:V1):List V->List T->Prop
 |v::a,t::ts=>Occ H d v t\/Occs H d a ts|_,_=>False
end
mutual
theorem Rep.away{H:Hp}{d:V1}{o:HO}:∀(x:V)(t:T),Rep H x t->¬Occ H d x t->Rep (upd H d o) x t
 |_, .non,h,_=>h|_, .bl _,h,_=>h|_, .int _,h,_=>h|_, .str _,h,_=>h|x, .lst ts,⟨a,c,e,b,f⟩,n=>by
  let g:a≠d:=λz=>n (.inl (by rw[e,z]));exact{a,c,e,by rw[zM g];exact b,Reps.away c ts f λz=>n (.inr ⟨a,c,e,b,z⟩)}
 |x, .dic k ts,⟨a,i,e,b,j,f⟩,n=>by
  let g:a≠d:=λz=>n (.inl (by rw[e,z]));exact{a,i,e,by rw[zM g];exact b,j,Reps.away _ ts f λz=>n (.inr ⟨a,i,e,b,z⟩)}
 |x, .tup ts,⟨a,c,e,b,f⟩,n=>by
  let g:a≠d:=λz=>n (.inl (by rw[e,z]));exact{a,c,e,by rw[zM g];exact b,Reps.away c ts f λz=>n (.inr ⟨a,c,e,b,z⟩)}
theorem Reps.away{H:Hp}{d:V1}{o:HO}:∀(xs:B3)(ts:B0),Reps H xs ts->¬Occs H d xs ts->Reps (upd H d o) xs ts
 |_,[],h,_=>h|_,t::ts,⟨x,a,e,b,c⟩,n=>by
  subst e;exact{x,a,O,Rep.away x t b λz=>n (.inl z),Reps.away a ts c λz=>n (.inr z)}
end
mutual
theorem Occ.sub{H:Hp}{d:V1}:∀(x:V)(t:T),Rep H x t->Occ H d x t->∃t',Rep H (.ref d) t'/\T.sz t'<=T.sz t
 |_, .non,_,h=>h.elim|_, .bl _,_,h=>h.elim|_, .int _,_,h=>h.elim|_, .str _,_,h=>h.elim|x, .lst ts,c,h=>by
  rcases h with e |⟨a,k,e,i,h⟩
  ·exact{.lst ts,e▸c,mE _}
  ·ext yL c m g f b j
   rw[e] at f;cases f;rw[i] at b;cases b;obtain⟨t',q,l⟩:=Occs.sub k ts j h;exact{t',q,sT l}
 |x, .dic n ts,c,h=>by
  rcases h with e |⟨a,k,e,i,h⟩
  ·exact{.dic n ts,e▸c,mE _}
  ·ext zR c m g f b _ j
   rw[e] at f;cases f;rw[i] at b;cases b;obtain⟨t',q,l⟩:=Occs.sub _ ts j h;exact{t',q,sT l}
 |x, .tup ts,c,h=>by
  rcases h with e |⟨a,k,e,i,h⟩
  ·exact{.tup ts,e▸c,mE _}
  ·ext yL c m g f b j
   rw[e] at f;cases f;rw[i] at b;cases b;obtain⟨t',q,l⟩:=Occs.sub k ts j h;exact{t',q,sT l}
theorem Occs.sub{H:Hp}{d:V1}:∀(xs:B3)(ts:B0),Reps H xs ts->Occs H d xs ts->∃t',Rep H (.ref d) t'/\T.sz t'<=T.szs ts
 |xs,[],_,h=>by cases xs<;>exact h.elim|_,t::ts,⟨x,a,e,b,c⟩,h=>by
  subst e;rcases h with h | h
  ·obtain⟨t',q,l⟩:=Occ.sub x t b h
   exact{t',q,nW l (dH _ _)}
  ·obtain⟨t',q,l⟩:=Occs.sub a ts c h
   exact{t',q,nW l (bE _ _)}
end
theorem zQy:∀{a b:C6},a.map nK=b.map nK->a=b
 |[],[],_=>rfl|[],_::_,h=>by simp at h|_::_,[],h=>by simp at h|x::a,y::b,h=>by
  rw[nG,nG] at h;injection h with d c;rw[zAx d,zQy c]
mutual
theorem Rep.one{H:Hp}:∀(t:T)(x:V)(t':T),Rep H x t->Rep H x t'->t=t'
 |.non,x,t',h,d=>by
  cases (show x= .non from h)
  cases t' with
  |non=>rfl|bl b=>cases (show V.non= .bl b from d)|int b=>cases (show V.non= .int b from d)|str b=>cases (show V.non= .str (tx b) from d)|lst ts=>obtain⟨a,j,e,_⟩:=d;cases e
  |dic n ts=>obtain⟨a,j,e,_⟩:=d;cases e
  |tup ts=>obtain⟨a,j,e,_⟩:=d;cases e
 |.bl c,x,t',h,d=>by
  cases (show x= .bl c from h)
  cases t' with
  |non=>cases (show V.bl c= .non from d)|bl b=>cases (show V.bl c= .bl b from d);rfl|int b=>cases (show V.bl c= .int b from d)|str b=>cases (show V.bl c= .str (tx b) from d)|lst ts=>obtain⟨a,j,e,_⟩:=d;cases e
  |dic n ts=>obtain⟨a,j,e,_⟩:=d;cases e
  |tup ts=>obtain⟨a,j,e,_⟩:=d;cases e
 |.int c,x,t',h,d=>by
  cases (show x= .int c from h)
  cases t' with
  |non=>cases (show V.int c= .non from d)|bl b=>cases (show V.int c= .bl b from d)|int b=>cases (show V.int c= .int b from d);rfl|str b=>cases (show V.int c= .str (tx b) from d)|lst ts=>obtain⟨a,j,e,_⟩:=d;cases e
  |dic n ts=>obtain⟨a,j,e,_⟩:=d;cases e
  |tup ts=>obtain⟨a,j,e,_⟩:=d;cases e
 |.str c,x,t',h,d=>by
  cases (show x= .str (tx c) from h)
  cases t' with
  |non=>cases (show V.str (tx c)= .non from d)|bl b=>cases (show V.str (tx c)= .bl b from d)|int b=>cases (show V.str (tx c)= .int b from d)|str b=>
   let e:V.str (tx c)= .str (tx b):=d;injection e with e;let r:ts (tx c)=ts (tx b):=by rw[e]
   rw[qZ,qZ] at r;rw[r]
  |lst ts=>obtain⟨a,j,e,_⟩:=d;cases e
  |dic n ts=>obtain⟨a,j,e,_⟩:=d;cases e
  |tup ts=>obtain⟨a,j,e,_⟩:=d;cases e
 |.lst p,x,t',⟨a,j,e,l,o⟩,d=>by
  subst e
  cases t' with
  |non=>cases (show V.ref a= .non from d)|bl b=>cases (show V.ref a= .bl b from d)|int b=>cases (show V.ref a= .int b from d)|str b=>cases (show V.ref a= .str (tx b) from d)|lst ts=>
   ext yL d m g i f k;cases i;rw[l] at f;cases f;rw[Reps.one p j ts o k]
  |dic n ts=>obtain⟨m,g,i,f,_⟩:=d;cases i;rw[l] at f;cases f
  |tup ts=>obtain⟨m,g,i,f,_⟩:=d;cases i;rw[l] at f;cases f
 |.dic js p,x,t',⟨a,j,e,l,s,o⟩,d=>by
  subst e
  cases t' with
  |non=>cases (show V.ref a= .non from d)|bl b=>cases (show V.ref a= .bl b from d)|int b=>cases (show V.ref a= .int b from d)|str b=>cases (show V.ref a= .str (tx b) from d)|lst ts=>obtain⟨m,g,i,f,_⟩:=d;cases i;rw[l] at f;cases f
  |dic n ts=>
   ext zR d m g i f q k;cases i;rw[l] at f;cases f;rw[Reps.one p _ ts o k,zQy (s.symm.trans q)]
  |tup ts=>obtain⟨m,g,i,f,_⟩:=d;cases i;rw[l] at f;cases f
 |.tup p,x,t',⟨a,j,e,l,o⟩,d=>by
  subst e
  cases t' with
  |non=>cases (show V.ref a= .non from d)|bl b=>cases (show V.ref a= .bl b from d)|int b=>cases (show V.ref a= .int b from d)|str b=>cases (show V.ref a= .str (tx b) from d)|lst ts=>obtain⟨m,g,i,f,_⟩:=d;cases i;rw[l] at f;cases f
  |dic n ts=>obtain⟨m,g,i,f,_⟩:=d;cases i;rw[l] at f;cases f
  |tup ts=>
   ext yL d m g i f k;cases i;rw[l] at f;cases f;rw[Reps.one p j ts o k]
theorem Reps.one{H:Hp}:∀(us:B0)(xs:B3)(ts:B0),Reps H xs us->Reps H xs ts->us=ts
 |[],xs,ts,h,a=>by
  cases (show xs= [] from h)
  cases ts with
  |nil=>rfl|cons t ts=>obtain⟨x,r,e,_⟩:=a;cases e
 |u::us,xs,ts,⟨x,r,e,d,f⟩,a=>by
  subst e
  cases ts with
  |nil=>cases (show x::r= [] from a)|cons t ts=>
   ext yL a j i g c b;cases g;rw[Rep.one u x t d c,Reps.one us r ts f b]
end
theorem j6{H:Hp}{d:V1}{o:HO}{ps:D0}{ks:C6}{ts:B0}(b:H d=Y (.dK ps))(a:ps.map (·.1)=ks.map nK)(h:Reps H (ps.map (·.2)) ts):Reps (upd H d o) (ps.map (·.2)) ts:=by
 refine Reps.away _ ts h λz=>?_;obtain⟨c,q,l⟩:=Occs.sub _ ts h z;let e:=Rep.one (.dic ks ts) (.ref d) c ⟨d,ps,O,b,a,h⟩ q;rw[<-e] at l;exact absurd l (Nat.not_le_of_lt (tE _))
theorem zBd:∀{vs:D0}{i:Nat}{k:Key}{y:V},(vs.map (·.1)).Nodup->vs[i]? =Y (k,y)->kK vs k=Y y
 |[],i,k,y,_,h=>by simp at h|p::vs,0,k,y,_,h=>by
  simp only[pY,Option.some.injEq] at h;subst h;exact zCq O
 |p::vs,i+1,k,y,a,h=>by
  rw[nG,nX] at a;let b:vs[i]? =Y (k,y):=by simpa using h
  let c:¬p.1=k:=λe=>a.1 (nV.mpr {(k,y),mO b,e.symm});rw[zAy c];exact zBd a.2 b
theorem kG:∀(a kvs:D0),((kvs++a).map (·.1)).Nodup->kC kvs a=kvs++a
 |[],kvs,_=>by show kvs=_;rw[pJ]|p::r,kvs,h=>by
  show kC (qG kvs p.1 p.2) r=_;let c:kK kvs p.1=none:=by
   cases e:kK kvs p.1 with
   |none=>rfl|some v=>
    let b:=yBe e;rw[nI,bQ] at h;exact absurd O (h.2.2 p.1 b p.1 (by simp))
  rw[zYg _ c,kG r (kvs++ [(p.1,p.2)]) (by rw[sE];exact h),sE]
  rfl
mutual
theorem Nice.dep:∀(t:T){d:Nat},Nice d t->T.dep t<=d
 |.non,_,_=>nR _|.bl _,_,_=>nR _|.int _,_,_=>nR _|.str _,_,_=>nR _|.lst ts,d,h=>by
  let:=NiceL.dep ts h.2.2;let:=h.1;show T.deps ts+1<=d
  lia
 |.dic ks ts,d,h=>by
  let:=NiceL.dep ts h.2.2.2.2.2;let:=h.1;show T.deps ts+1<=d
  lia
 |.tup _,_,h=>h.elim
theorem NiceL.dep:∀(ts:B0){d:Nat},NiceL d ts->T.deps ts<=d
 |[],_,_=>nR _|t::ts,_,h=>Nat.max_le.mpr {Nice.dep t h.1,NiceL.dep ts h.2}
end
theorem gS(d:Nat):1<=5 ^ d:=Nat.one_le_pow _ _ ∎
mutual
theorem Nice.sz:∀(t:T){d:Nat},Nice d t->T.sz t<=5 ^ d
 |.non,d,_=>gS d|.bl _,d,_=>gS d|.int _,d,_=>gS d|.str _,d,_=>gS d|.lst ts,d,h=>by
  obtain⟨c,a,b⟩:=h;obtain⟨e,rfl⟩:∃e,d=e+1:={d - 1,∅};let:=NiceL.sz ts b;let p:=gS e;show T.szs ts+1<=5 ^ (e+1);rw[Nat.add_sub_cancel] at this;let q:ts...**5 ^ e<=4*5 ^ e:=aU _ a;rw[Nat.pow_succ];lia
 |.dic ks ts,d,h=>by
  ext zS h c a _ _ _ b;obtain⟨e,rfl⟩:∃e,d=e+1:={d - 1,∅};let:=NiceL.sz ts b;let p:=gS e;show T.szs ts+1<=5 ^ (e+1);rw[Nat.add_sub_cancel] at this;let q:ts...**5 ^ e<=4*5 ^ e:=aU _ a;rw[Nat.pow_succ];lia
 |.tup _,_,h=>h.elim
theorem NiceL.sz:∀(ts:B0){d:Nat},NiceL d ts->T.szs ts<=ts...**5 ^ d
 |[],_,_=>nR _|t::ts,d,h=>by
  let a:=Nice.sz t h.1;let b:=NiceL.sz ts h.2;show T.sz t+T.szs ts<=(ts...*+1)*5 ^ d;rw[Nat.succ_mul];lia
end
theorem zEy{H:Hp}{a:V1}{xs:B3}(h:H a=Y (.tup xs)):tyS H (.ref a)=some "tuple":=by
 show(match H a with | some (.lst _)=>some "list" | some (.tup _)=>some "tuple" | some (.dK _)=>some "dict" | _=>none)=_;rw[h]
theorem wQ{H:Hp}{a:V1}{xs:B3}(h:H a=Y (.lst xs)):tyS H (.ref a)=some "list":=by
 show(match H a with | some (.lst _)=>some "list" | some (.tup _)=>some "tuple" | some (.dK _)=>some "dict" | _=>none)=_;rw[h]
theorem qY{H:Hp}{a:V1}{xs:D0}(h:H a=Y (.dK xs)):tyS H (.ref a)=some "dict":=by
 show(match H a with | some (.lst _)=>some "list" | some (.tup _)=>some "tuple" | some (.dK _)=>some "dict" | _=>none)=_;rw[h]
theorem zAq{H c:Hp}(g:Same H c){v:V}{t:String}(h:tyS H v=Y t):tyS c v=Y t:=by
 cases v with
 |ref a=>
  let b:(match H a with | some (.lst _)=>some "list" | some (.tup _)=>some "tuple" | some (.dK _)=>some "dict" | _=>none)=Y t:=h
  cases e:H a with
  |none=>rw[e] at b;cases b|some o=>
   rw[e] at b
   cases o with|lst f=>cases b;exact wQ (g _ _ e)|tup f=>cases b;exact zEy (g _ _ e)|dK d=>cases b;exact qY (g _ _ e)|_=>cases b
 |_=>exact h
theorem Same.put{H a:Hp}{p:V1}(g:Same H a)(h:H p=none)(o:HO):Same H (upd a p o):=λb u e=>by
 rw[zM (yM e h)];exact g b u e
theorem i9{t:T}:∀{ts:B0},l4 ts->t∈ts->T.pure t
 |[],_,h=>nomatch h|u::ts,h,a=>(mF.mp a).elim (λe=>e▸h.1) (i9 h.2)
theorem yO{α:Type}{l:List α}{i:Nat}{a:α}(h:l[i]? =Y a):l.take (i+1)=l.take i++ [a]:=by rw[List.take_add_one,h];rfl
theorem o7:∀t:T,1<=T.sz t
 |.non=>mE _|.bl _=>mE _|.int _=>mE _|.str _=>mE _|.lst _=>bE _ _|.dic _ _=>bE _ _|.tup _=>bE _ _
theorem d5:∀ts:List T,ts...*<=T.szs ts
 |[]=>mE _|t::ts=>by
  let a:=o7 t;let b:=d5 ts;show ts...*+1<=T.sz t+T.szs ts
  lia
theorem c7{t:T}:∀{ts:B0},t∈ts->T.sz t<=T.szs ts
 |[],h=>nomatch h|u::ts,h=>by
  show T.sz t<=T.sz u+T.szs ts;rcases mF.mp h with e | e
  ·subst e;exact dH _ _
  ·exact nW (c7 e) (bE _ _)
mutual
theorem Rep.plain{H f:Hp}(g:∀a u,(∀o v,u≠HO.frz o v)->H a=Y u->f a=Y u):∀(x:V)(t:T),Rep H x t->Rep f x t
 |_, .non,h=>h|_, .bl _,h=>h|_, .int _,h=>h|_, .str _,h=>h|_, .lst ts,⟨a,b,d,e,c⟩=>{a,b,d,g _ _ (by intro o v z;cases z) e,Reps.plain g b ts c}|_, .dic k ts,⟨a,j,d,e,c,i⟩=>{a,j,d,g _ _ (by intro o v z;cases z) e,c,Reps.plain g _ ts i}|_, .tup ts,⟨a,b,d,e,c⟩=>{a,b,d,g _ _ (by intro o v z;cases z) e,Reps.plain g b ts c}
theorem Reps.plain{H b:Hp}(g:∀a u,(∀o v,u≠HO.frz o v)->H a=Y u->b a=Y u):∀(vs:B3)(ts:B0),Reps H vs ts->Reps b vs ts
 |_,[],h=>h|_,t::ts,⟨v,r,c,d,e⟩=>{v,r,c,Rep.plain g v t d,Reps.plain g r ts e}
end
theorem uG{H a:Hp}{d:V1}{o:Obj}{ps:D0}(f:H d=Y (.dK ps))(g:Same (upd H d (.frz o (.dK ps))) a):Same H (L2.thaw H a):=zIr λb u e=>by
 by_cases c:b=d
 ·subst c
  rw[f] at e;cases e;exact .inr ⟨{o,g _ _ zC},by intro o v z;cases z⟩
 ·exact .inl (g _ _ (by rw[zM c];exact e))
noncomputable def t9:T->List T
 |.lst a=>a|.dic _ a=>a|_=>[]
noncomputable def T.next(ts:B0):List T:=(ts.map t9).flatten
theorem d9:∀(a b:B0),T.szs (a++b)=T.szs a+T.szs b
 |[],b=>by show T.szs b=0+T.szs b;lia|t::a,b=>by
  show T.sz t+T.szs (a++b)=T.sz t+T.szs a+T.szs b;rw[d9 a b];lia
theorem Reps.append{H:Hp}{ys:B3}{vs:B0}(h':Reps H ys vs):∀{xs:B3}{us:B0},Reps H xs us->Reps H (xs++ys) (us++vs)
 |xs,[],h=>by
  cases (show xs= [] from h);exact h'
 |_,u::us,⟨x,r,e,a,b⟩=>by
  subst e;exact{x,r++ys,O,a,Reps.append h' b}
noncomputable def T.holds(t:T):Bool:=yC (tyT t) "list" || yC (tyT t) "dict"
def zSk(t:TS):TS:=λD σ H=>∃M:St->Hp->Prop,t {D with nx:=M} σ H/\∀a b,M a b->D.nx a b
theorem zFs{X:Cx}{st:V6}{t:TS}(h:PS X st t):PS X st (zSk t):=by
 intro a s σ H D I ⟨M,q,m⟩;refine thn (h a s σ H _ I q) λf d z=>?_
 cases f with
 |next=>obtain⟨b,c,J,q⟩:=z;exact{b,c,J,m _ _ q}
 |brk=>exact z|cont=>exact z|ret u=>exact z
section
variable{X:Cx}
theorem zQo{P:V3}{w:V4}:∀{vs:List (Key×V0)}{ks:C1}{us:B7},vs.map (·.1)=ks.map Sum.inr->us...*=vs...*->(∀(j:Nat)(v:V0),us[j]? =Y v->∃k x,vs[j]? =Y (k,x)/\(yZ P w).is k v=true)->StrsAre us ks
 |[],[],[],_,_,_=>.nil|p::vs,k::ks,u::us,e,a,h=>by
  rw[nG,nG] at e;injection e with c l;refine wS (h 0 u O) λf x b d=>?_;simp only[pY,Option.some.injEq] at b;rw[b] at c;let i:f=Sum.inr k:=c;rw[i] at d;obtain⟨t,m⟩:=(show∃t,u=Value.str k t from zKo d);subst m;exact .cons k t (zQo l (by simpa using a) λj v g=>by simpa using h (j+1) v (by simpa using g))
 |[],_::_,_,e,_,_=>by simp at e|_::_,[],_,e,_,_=>by simp at e|[],[],_::_,_,a,_=>by simp at a|_::_,_::_,[],_,a,_=>by simp at a
theorem zQb:∀{us:B7}{a:C1},StrsAre us a->Vals (a.map V.str) us
 |_,_, .nil=>.nil|_,_, .cons x t r=>.cons ⟨t,O⟩ (zQb r)
theorem qO(hc:X.calm=true):wX X (.builtin "sorted") (λxs H Q=>∃(p:V1)(kvs:D0)(ks:C1),xs= [.ref p]/\Rd H p (.dK kvs)/\kvs.map (·.1)=ks.map Sum.inr/\ks...*<64/\
  ∀l E,H l=none->E.Perm ks->sortedS E=true->Q (.ref l) (upd H l (.lst (E.map V.str)))):=by
 intro t s σ H xs us Q I r h;ext zU h p kvs ks J hq z_;ext oAA z_ hk ab q;subst J;obtain⟨u,rfl,rx⟩:=jH r;cases rx;obtain⟨z,hd,L,x,dd⟩:=gW I.hok hq;obtain⟨ep,D⟩:=dd.dictAt;let hl:=x...*;refine PySem.Calls.call_function_entry kind_sorted plain_sorted entry_sorted (args_sorted1 _) ?_;unfold Builtin.«sorted»;refine mC (m:=checkCount "sorted" 1 1 _) (mT ?_);refine mC (W.kdu_collect (A:=X.A.in1) (W.kdl_dict (knd:=yZ X.prog X.w) (kvs:=L) (ep:=ep) hd) (show X.A.in1.handled=none from I.ok.hd hc) D ∅ λd y c B i=>?_);let g:c.toList...*=L...*:=by rw[tV];exact i.1
 let M:StrsAre c.toList ks:=zQo (P:=X.prog) (w:=X.w) (by rw[<-x.keys];exact hk) g λj v e=>i.2 j v (by rw[<-sL];exact e);let aa:ks...*=L...*:=by
  let:=congrArg List.length hk;simp only[mN] at this
  lia
 refine mC (wpAny_newList ?_ (by rw[g];lia));let f:(d.push (seqObj "list" c.toList.toArray 0)).get? d.objs.size=Y (seqObj "list" c.toList.toArray 0):=nM _ O;refine mC (pL (wpAny_call_entry slot_list_sort ⟨_,f,O⟩ entry_list_sort (list_sort_treeK strKind_oneLt f M.keysOf (λv₁ v₂ rest e=>keyKind_strs (by rw[<-e];exact M)) ∅ λn a1 a2=>{_,O, ?_}) (args_list_sort _)));refine mT {_,O, ?_};refine xC (sorted_out_str M a1 a2) λk h1 h2 h3=>?_;let I':Inv X t σ H {s with heap:=d,toks:=y}:=I.kept (t':=y) B;let hL:d.objs.size<(d.push (seqObj "list" c.toList.toArray 0)).objs.size:=mZ f;obtain⟨e,he⟩:=sortedHeap_at (out:=(arrOf n).map (·.2)) f;let rS:Vals (k.map V.str) ((arrOf n).map (·.2)).toList:=zQb h1;let hp:=h2.length_eq;refine{.ref d.objs.size,_,I'.laid (a:=d.objs.size) (t':=y) (h':=sortedHeap (d.push (seqObj "list" c.toList.toArray 0)) d.objs.size c.toList ((arrOf n).map (·.2))) (λb u N=>?_) (mE _) (o:=.lst (k.map V.str)) ?_,O,q _ k (I'.hok.fresh (mE _)) h2 h3}
 ·let lt:b<d.objs.size:=mZ N
  exact(sortedHeap_old (nP lt) (cG lt hL)).trans (mL _ N)
 ·exact{by rw[mN];lia,_,e,rS,by rw[Array.toArray_toList];exact he}
end
section
variable{X:Cx}
def yHz(K:A9):V->List V->Hp->VK->Prop:=λx b H Q=>∃(p:V1)(a:C1)(k:Str)(j:Nat),x= .ref p/\b= [.str k]/\SqL K H p (a.map V.str)/\a[j]? =Y k/\(∀i,i<j->a[i]?≠Y k)/\j<1000000/\Q (.int j) H
theorem zGs{a:C1}{us:B7}(r:Vals (a.map V.str) us){j:Nat}(h:j<us...*):∃z t,a[j]? =Y z/\us[j]=Value.str z t:=by
 let b:=r...*;rw[mN] at b;obtain⟨u,c,t,d⟩:=r.get (i:=j) (x:=.str a[j]) (by simp[b,h]);rw[mQ h] at c;exact{a[j],t,by simp[b,h],(mU c).trans d}
noncomputable def zOm(k:Str):V0->Bool
 |.str z _=>z==k|_=>false
theorem zCy:MtR X "list.index" (yHz X.K):=by
 intro E s σ H x vs v us Q I rx M h;ext yN h p ss k j i z_;ext zS z_ g hq B f aa q;subst i g;cases rx;obtain⟨u,rfl,t,rfl⟩:=M.one;refine xC (I.list hq) λa r L _=>?_;let hl:=r...*;rw[mN] at hl;let N:j<ss...*:=(mJ.mp B).1;obtain⟨⟨ab,dd,A,sl⟩,w,J,n,D⟩:=id L.isList;simp only at J D;subst J D;refine sQ sX ⟨_,w,O⟩ PySem.F.entry_list_index (PySem.F.args_list_index_2 _ _) (SeqAt.list_indexAt p a.toArray n dd sl (.str k t) (zOm k) j (by simp;lia) ∅ ?_ ?_) {w,λy hy=>?_,{.int j,H,I.tok _,⟨_,O⟩,q}}
 ·refine wS (zGs r (j:=j) ∅) λz d c b=>?_
  rw[B] at c;cases c;show zOm k a[j]=true;rw[b];exact dI k
 ·intro m o l
  refine wS (zGs r (j:=m) (by simpa using o)) λz d c b=>?_;show zOm k a[m]=false;rw[b];let ne:z≠k:=λe=>f m l (by rw[c,e]);exact rV.mpr ne
 ·obtain⟨m,o,e⟩:=Array.mem_iff_getElem.mp hy
  refine wS (zGs r (j:=m) (by simpa using o)) λz d c b=>?_;let e3:y=Value.str z d:=by rw[<-e];simpa using b
  subst e3;exact cU z d k t
noncomputable def gtV:V->V->Option Bool
 |.int a, .int b=>Y (decide (b<a))|.bl a, .bl b=>Y (a && !b)|.str a, .str b=>Y (decide (ts b<ts a))|_,_=>none
def rGtA:R2:=λx y H Q=>∃b,gtV x y=Y b/\Q (.bl b) H
def rLtA:R2:=λx y H Q=>∃b,gtV y x=Y b/\Q (.bl b) H
theorem zPv:OpR X (A6 .Gt) rGtA:=by
 intro g s σ H x y v u Q I e f h;obtain⟨b,d,q⟩:=h;cases x<;>cases y<;>first |(cases d;done)| skip
 ·rename_i a c
  cases d;cases (show v=Value.bool a from e);cases (show u=Value.bool c from f);refine gt_bool (yV I q ?_);cases a<;>cases c<;>rfl
 ·rename_i a c
  cases d;obtain⟨t,rfl⟩:=e;obtain⟨i,rfl⟩:=f;exact PyProof.Rows.gt_int (yV I q O)
 ·rename_i a c
  cases d;obtain⟨t,rfl⟩:=e;obtain⟨i,rfl⟩:=f;exact PySem.P.gt_str (yV I q O)
theorem zPs:OpR X (A6 .Lt) rLtA:=by
 intro g s σ H x y v u Q I e f h;obtain⟨b,d,q⟩:=h;cases x<;>cases y<;>first |(cases d;done)| skip
 ·rename_i a c
  cases d;cases (show v=Value.bool a from e);cases (show u=Value.bool c from f);refine lt_bool (yV I q ?_);cases a<;>cases c<;>rfl
 ·rename_i a c
  cases d;obtain⟨t,rfl⟩:=e;obtain⟨i,rfl⟩:=f;exact PyProof.Rows.lt_int (yV I q O)
 ·rename_i a c
  cases d;obtain⟨t,rfl⟩:=e;obtain⟨i,rfl⟩:=f;exact PyProof.Rows.lt_str (yV I q O)
end
noncomputable def leK(a b:List Nat):Bool:=!decide (b<a)
theorem zIg(a b c:List Nat)(g:leK a b=true)(d:leK b c=true):leK a c=true:=by
 let e:a<=b:=by simpa [leK] using g
 let f:b<=c:=by simpa [leK] using d
 let:=List.le_trans e f
 simpa [leK] using this
theorem zTa(a b:List Nat):(leK a b || leK b a)=true:=by
 rcases List.le_total a b with h | h
 ·let:leK a b=true:=by simpa [leK] using h
  rw[this];rfl
 ·let:leK b a=true:=by simpa [leK] using h
  rw[this,tU]
theorem zMt{a b:List Nat}(f:leK a b=true)(c:leK b a=true):a=b:=by
 let d:a<=b:=by simpa [leK] using f
 let e:b<=a:=by simpa [leK] using c
 exact List.le_antisymm d e
noncomputable def wT(ks:C6):List (List Nat):=ks.mergeSort leK
theorem wU(ks:C6):(wT ks).Perm ks:=List.mergeSort_perm ks leK
theorem uV(ks:C6):(wT ks).Pairwise (λa b=>leK a b=true):=List.pairwise_mergeSort zIg zTa ks
theorem zCc:∀{a b:C6},a.Perm b->a.Pairwise (λa b=>leK a b=true)->b.Pairwise (λa b=>leK a b=true)->a=b
 |[],b,p,_,_=>(List.nil_perm.mp p).symm|x::a,[],p,_,_=>absurd p.length_eq (by simp)|x::a,y::b,p,c,d=>by
  rw[cX] at c d;let g:x∈y::b:=p.mem_iff.mp mD;let f:y∈x::a:=p.mem_iff.mpr mD;let e:x=y:=by
   rcases mF.mp g with z | z
   ·exact z
   ·rcases mF.mp f with z' | z'
    ·exact z'.symm
    ·exact zMt (c.1 y z') (d.1 x z)
  subst e;rw[zCc p.cons_inv c.2 d.2]
theorem zEm:∀(p:Str)(l:C1),risingS p l=true->((p::l).map ts).Pairwise (λa b=>leK a b=true)
 |p,[],_=>List.pairwise_singleton _ _|p,x::r,h=>by
  let e:(!ltCps x.cps.toList p.cps.toList && risingS x r)=true:=h;rw[pA] at e;let d:=zEm x r e.2;let c:leK (ts p) (ts x)=true:=by
   let:=e.1;rw[ltCps_eq] at this;exact this
  rw[nG,cX];refine{λy f=>?_,d};rw[nG] at f d;rw[cX] at d;rcases mF.mp f with z | z
  ·rw[z];exact c
  ·exact zIg _ _ _ c (d.1 y z)
theorem zKe{l:C1}(h:sortedS l=true):(l.map ts).Pairwise (λa b=>leK a b=true):=by
 cases l with|nil=>exact List.Pairwise.nil|cons p r=>exact zEm p r h
theorem zDb{a:C1}{ks:C6}(c:a.Perm (ks.map tx))(b:sortedS a=true):a=(wT ks).map tx:=by
 let e:a.map ts=wT ks:=by
  refine zCc ?_ (zKe b) (uV ks);let z:=c.map ts;rw[sI] at z;let f:ks.map (ts∘tx)=ks:=by
   conv=>rhs;rw[<-List.map_id ks]
   exact sG λk _=>qZ k
  rw[f] at z;exact z.trans (wU ks).symm
 let d:(a.map ts).map tx=a:=by
  rw[sI]
  conv=>rhs;rw[<-List.map_id a]
  exact sG λk _=>qJ k
 rw[<-d,e]
inductive C where
 |non | bl (b:Bool)| int (i:Int)| str (x:List Nat)| row (xs:List C)| rcd (xs:List C)| odd
noncomputable def C.ord:C->Nat
 |.non=>0|.bl _=>1|.int _=>2|.str _=>3|.row _=>4|.rcd _=>5|.odd=>6
noncomputable def zHo(k:List Nat):List (List Nat)->List C->C
 |k'::b,c::a=>if k'=k then c else zHo k b a|_,_=>.odd
noncomputable def yH(k:List Nat):List (List Nat)->List T->T
 |k'::b,c::a=>if k'=k then c else yH k b a|_,_=>.tup []
mutual
noncomputable def zO:T->C
 |.non=>.non|.bl b=>.bl b|.int i=>.int i|.str x=>.str x|.lst ts=>.row (xT ts)|.dic ks ts=>.rcd ((wT ks).map λk=>.row [.str k,zHo k ks (xT ts)])|.tup _=>.odd
noncomputable def xT:List T->List C
 |[]=>[]|t::ts=>zO t::xT ts
end
theorem kW:∀(ts:B0),xT ts=ts.map zO
 |[]=>rfl|t::ts=>by rw[nG,<-kW ts];rfl
theorem jL(k:List Nat):∀(ks:C6)(ts:B0),zO (yH k ks ts)=zHo k ks (xT ts)
 |[],_=>rfl|_::_,[]=>rfl|k'::ks,t::ts=>by
  show zO (if k'=k then t else yH k ks ts)=if k'=k then zO t else zHo k ks (xT ts);split
  ·rfl
  ·exact jL k ks ts
noncomputable def sgI(a b:Int):Int:=(if b<a then 1 else 0)- (if a<b then 1 else 0)
noncomputable def zWu(a b:List Nat):Int:=(if b<a then 1 else 0)- (if a<b then 1 else 0)
mutual
noncomputable def wC:C->C->Int
 |.non, .non=>0|.bl a, .bl b=>sgI (if a then 1 else 0) (if b then 1 else 0)|.int a, .int b=>sgI a b|.str a, .str b=>zWu a b|.row a, .row b=>qK a b|.rcd a, .rcd b=>qK a b|a,b=>sgI a.ord b.ord
noncomputable def qK:List C->List C->Int
 |[],[]=>0|[],_::_=>-1|_::_,[]=>1|x::a,y::b=>if wC x y=0 then qK a b else wC x y
end
mutual
noncomputable def m9:T->Nat
 |.lst ts=>j5 ts+1|.dic _ ts=>j5 ts+2|.tup ts=>j5 ts+1|.non=>0|.bl _=>0|.int _=>0|.str _=>0
noncomputable def j5:List T->Nat
 |[]=>0|t::ts=>max (m9 t) (j5 ts)
end
theorem k9{t:T}:∀{ts:B0},t∈ts->m9 t<=j5 ts
 |[],h=>nomatch h|u::ts,h=>by
  show m9 t<=max (m9 u) (j5 ts);rcases mF.mp h with e | e
  ·subst e;exact dP _ _
  ·exact nW (k9 e) (Nat.le_max_right _ _)
mutual
def T.few:T->Prop
 |.dic ks ts=>ks.Nodup/\ks...*<64/\ks...*=ts...*/\i4 ts|.lst ts=>ts...*<=100000/\i4 ts|.tup _=>False|.non=>True|.bl _=>True|.int _=>True|.str _=>True
def i4:List T->Prop
 |[]=>True|t::ts=>T.few t/\i4 ts
end
theorem b9{t:T}:∀{ts:B0},i4 ts->t∈ts->T.few t
 |[],_,h=>nomatch h|u::ts,h,a=>(mF.mp a).elim (λe=>e▸h.1) (b9 h.2)
theorem zFz{k:List Nat}:∀{ks:C6}{ts:B0}{i:Nat}{t:T},ks.Nodup->ks[i]? =Y k->ts[i]? =Y t->yH k ks ts=t
 |[],_,i,_,_,h,_=>by simp at h|k'::ks,[],i,_,_,_,h=>by simp at h|k'::ks,u::ts,0,t,c,b,d=>by
  simp only[pY,Option.some.injEq] at b d;subst b d;exact mP O
 |k'::ks,u::ts,i+1,t,c,b,d=>by
  rw[nX] at c;let a:ks[i]? =Y k:=by simpa using b
  let f:¬k'=k:=λe=>c.1 (e▸mO a);show(if k'=k then u else yH k ks ts)=t;rw[mI f];exact zFz c.2 a (by simpa using d)
theorem xK{k:List Nat}:∀{ks:C6}{ts:B0},k∈ks->ks...*=ts...*->yH k ks ts∈ts
 |[],_,h,_=>nomatch h|k'::ks,[],_,h=>by simp at h|k'::ks,u::ts,h,a=>by
  show(if k'=k then u else yH k ks ts)∈u::ts;split
  ·exact mD
  ·rename_i ne
   rcases mF.mp h with e | e
   ·exact absurd e.symm ne
   ·exact mG _ (xK e (by simpa using a))
theorem zCo:∀(a b:C),a.ord≠b.ord->wC a b=sgI a.ord b.ord:=by
 intro a b h;cases a<;>cases b<;>first | exact absurd O h |(unfold wC;rfl)
theorem uY(x y:C)(xs ys:List C):qK (x::xs) (y::ys)=if wC x y=0 then qK xs ys else wC x y:=by
 rw[qK]
theorem zOu{xs ys:List C}{i:Nat}{x y:C}(c:xs[i]? =Y x)(b:ys[i]? =Y y):qK (xs.drop i) (ys.drop i)=if wC x y=0 then qK (xs.drop (i+1)) (ys.drop (i+1)) else wC x y:=by
 obtain⟨d,e⟩:=mJ.mp c;obtain⟨a,f⟩:=mJ.mp b;rw[nU d,nU a,e,f,uY]
theorem zSf{xs ys:List C}{m:Nat}(h:m=min xs...* ys...*):qK (xs.drop m) (ys.drop m)=sgI xs...* ys...*:=by
 unfold sgI;rcases Nat.lt_trichotomy xs...* ys...* with g | g | g
 ·let e:m=xs...*:=by lia
  rw[pQ (Nat.le_of_eq e.symm),nU (show m<ys...* by lia),qK,mI ∅,mP ∅]
  rfl
 ·let e:m=xs...*:=by lia
  rw[pQ (Nat.le_of_eq e.symm),pQ (show ys...*<=m by lia),qK,mI ∅,mI ∅]
  rfl
 ·let e:m=ys...*:=by lia
  rw[pQ (show ys...*<=m by lia),nU (show m<xs...* by lia),qK,mP ∅,mI ∅]
  rfl
noncomputable def zAe(ks:C6)(ts:B0):List T:=(wT ks).map λk=>.lst [.str k,yH k ks ts]
theorem zGa(ks:C6)(ts:B0):xT (zAe ks ts)=(wT ks).map λk=>C.row [.str k,zHo k ks (xT ts)]:=by
 rw[kW,zAe,sI];refine sG λk _=>?_;show C.row [.str k,zO (yH k ks ts)]=_;rw[jL]
theorem mem_sortK{k:List Nat}{ks:C6}:k∈wT ks↔k∈ks:=(wU ks).mem_iff
theorem zJj{ts:B0}(h:∀t∈ts,T.few t):i4 ts:=by
 induction ts with|nil=>exact mK|cons t ts b=>exact{h t mD,b λu a=>h u (mG _ a)}
theorem yHw{n:Nat}{ts:B0}(h:∀t∈ts,m9 t<=n):j5 ts<=n:=by
 induction ts with|nil=>exact nR _|cons t ts b=>exact Nat.max_le.mpr {h t mD,b λu a=>h u (mG _ a)}
theorem zNb{ks:C6}{ts:B0}(b:ks...*=ts...*)(h:i4 ts):i4 (zAe ks ts):=by
 refine zJj λt c=>?_;obtain⟨k,a,rfl⟩:=nV.mp c;exact{by simp,mK,b9 h (xK (mem_sortK.mp a) b),mK}
theorem zRq{ks:C6}{ts:B0}(b:ks...*=ts...*):j5 (zAe ks ts)<=j5 ts+1:=by
 refine yHw λt c=>?_;obtain⟨k,a,rfl⟩:=nV.mp c;let:=k9 (xK (mem_sortK.mp a) b);show max 0 (max (m9 (yH k ks ts)) 0)+1<=_
 lia
theorem zGu(ks:C6)(ts:B0):(zAe ks ts)...*=ks...*:=by
 rw[zAe,mN];exact(wU ks).length_eq
theorem qA(ts:B0):(xT ts)...*=ts...*:=by rw[kW,mN]
theorem zAc{ts:B0}{i:Nat}{t:T}(h:ts[i]? =Y t):(xT ts)[i]? =Y (zO t):=by rw[kW,nH,h];rfl
theorem i5{H:Hp}{ps:D0}{ks:C6}{us:B0}(e:ks.Nodup)(f:ps.map (·.1)=ks.map λk=>(Sum.inr (tx k):Key))(m:Reps H (ps.map (·.2)) us){k:List Nat}(h:k∈ks):
  ∃v,kK ps (Sum.inr (tx k))=Y v/\Rep H v (yH k ks us):=by
 obtain⟨j,g⟩:=aP.mp h;let b:(ps.map (·.1))[j]? =Y (Sum.inr (tx k):Key):=by rw[f,nH,g];rfl
 rw[nH] at b
 cases a:ps[j]? with
 |none=>rw[a] at b;cases b|some d=>
  rw[a] at b;let n:d.1=(Sum.inr (tx k):Key):=mU b;let c:ps[j]? =Y ((Sum.inr (tx k):Key),d.2):=by rw[a,<-n]
  obtain⟨t,o,l⟩:=m.get (i:=j) (v:=d.2) (by rw[nH,a];rfl);refine{d.2,zBd (by rw[f];exact uF e) c, ?_};rw[zFz e g o];exact l
def LtM(P:V3)(w:V4)(A:Around)(s:V2)(u v:V0)(b:Bool):Prop:=∀(E:C9)(Q:C9),Q (.bool b) s->V8 (S8 P w) A (richCompare .Lt u v) Q E s
def EqB(P:V3)(w:V4)(A:Around)(s:V2)(u v:V0)(b:Bool):Prop:=∀(E:C9)(Q:Bool->V2->Prop),Q b s->V8 (S8 P w) A (eqBool u v) Q E s
inductive Zc (P:V3) (w:V4) (A:Around) (s:V2):List V0->List V0->Int->Prop
 |nil:Zc P w A s [] [] 0
 |less {y:V0} {ys:B7}:Zc P w A s [] (y::ys) (-1)
 |more {x:V0} {xs:B7}:Zc P w A s (x::xs) [] 1
 |eq {x y:V0} {xs ys:B7} {c:Int}:EqB P w A s x y true->Zc P w A s xs ys c->Zc P w A s (x::xs) (y::ys) c
 |ne {x y:V0} {xs ys:B7} {c:Int}:EqB P w A s x y false->LtM P w A s x y (decide (c<0))->c≠0->Zc P w A s (x::xs) (y::ys) c
section
variable{P:V3}{w:V4}{A:Around}{s:V2}{E:C9}
end
section
variable{X:Cx}{pins:C7}{σ:St}{H:Hp}{s:V2}
end
noncomputable def rawC:C->T
 |.str x=>.str x|_=>.non
mutual
noncomputable def rk:C->T
 |.non=>.tup [.int 0]|.bl b=>.tup [.int 1, .bl b]|.int i=>.tup [.int 2, .int i]|.str x=>.tup [.int 3, .str x]|.row cs=>.tup [.int 4, .tup (rks cs)]|.rcd cs=>.tup [.int 5, .tup (rkps cs)]|.odd=>.non
noncomputable def rks:List C->List T
 |[]=>[]|c::a=>rk c::rks a
noncomputable def rkps:List C->List T
 |[]=>[]|c::a=>rkq c::rkps a
noncomputable def rkq:C->T
 |.row cs=>.tup (rkl cs)|.non=>.non|.bl _=>.non|.int _=>.non|.str _=>.non|.rcd _=>.non|.odd=>.non
noncomputable def rkl:List C->List T
 |[]=>[]|c::a=>rawC c::rks a
end
mutual
def C.ok:C->Prop
 |.odd=>False|.row cs=>C.oks cs|.rcd cs=>r8 cs|.non=>True|.bl _=>True|.int _=>True|.str _=>True
def C.oks:List C->Prop
 |[]=>True|c::a=>C.ok c/\C.oks a
def r8:List C->Prop
 |[]=>True|c::a=>C.okq c/\r8 a
def C.okq:C->Prop
 |.row cs=>C.okl cs|.non=>False|.bl _=>False|.int _=>False|.str _=>False|.rcd _=>False|.odd=>False
def C.okl:List C->Prop
 |[]=>False|c::a=>(∃k,c= .str k)/\a...*=1/\C.oks a
end
theorem d8{n:Nat}{ts:B0}(h:∀t∈ts,T.dep t<=n):T.deps ts<=n:=by
 induction ts with|nil=>exact nR _|cons t ts b=>exact Nat.max_le.mpr {h t mD,b λu a=>h u (mG _ a)}
section
variable{X:Cx}
end
section
variable{X:Cx}{e k:Expr}{te:TE}{tk:TO}{pos p2:Pos}
end
mutual
def T.calm:T->Prop
 |.int i=>-(10 ^ 12)<=i/\i<=10 ^ 12|.str x=>x...*<=100|.lst ts=>l6 ts|.dic _ ts=>l6 ts|.tup ts=>l6 ts|.non=>True|.bl _=>True
def l6:List T->Prop
 |[]=>True|t::ts=>T.calm t/\l6 ts
end
structure Fit(d z:Nat)(t:T):Prop where
 few:T.few t
 calm:T.calm t
 dep:T.dep t<=d
 sz:T.sz t<=z
theorem zCi{K:A9}{H:Hp}{p:V1}{xs:B3}{i:Int}{Q:VK}(h:H p=Y (.lst xs))(b:0<=i)(d:i<xs...*)(q:∀x∈xs,Q x H):yBy K (.ref p) (.int i) H Q:=by
 obtain⟨x,c,a⟩:=zBc b d;exact zY (SqL.of h) c (q x a)
theorem kO:∀(n:Nat)(t:T),T.dep t<=n->T.few t->T.pure t:=by
 intro n
 induction n with
 |zero=>
  intro t b a
  cases t with|lst ts=>exact absurd b (aV _)|dic d ts=>exact absurd b (aV _)|tup ts=>exact a.elim|_=>exact mK
 |succ n e=>
  let all:∀ts:List T,T.deps ts<=n->i4 ts->l4 ts:=by
   intro ts
   induction ts with
   |nil=>intros;exact mK|cons t ts c=>
    intro b a;let f:max (T.dep t) (T.deps ts)<=n:=b;exact{e t ∅ a.1,c ∅ a.2}
  intro t b a
  cases t with|lst ts=>exact all ts (Nat.le_of_succ_le_succ b) a.2|dic d ts=>exact{a.1,all ts (Nat.le_of_succ_le_succ b) a.2.2.2}|tup ts=>exact a.elim|_=>exact mK
section
variable{P:V3}{w:V4}
end
section
variable{X:Cx}
end
theorem zYt(xs:B3)(i:Nat):uQ xs ↥(i:Int) none=xs.drop i:=by
 unfold uQ;rw[HT.sIx_nat];show(xs.drop (min i xs...*)).take (xs...* - min i xs...*)=_
 by_cases h:i<=xs...*
 ·rw[dQ h,rM (by rw[rD];lia)]
 ·rw[dJ ∅,tF,pQ ∅,List.take_nil]
theorem zLq(xs:B3):uQ xs none ↥(-1)=xs.take (xs...* - 1):=by
 unfold uQ;show(xs.drop 0).take ((-1+(xs...*:Int)).toNat - 0)=_;rw[aN,Nat.sub_zero]
 congr 1
 lia
theorem Reps.take{H:Hp}:∀{xs:B3}{us:B0}(i:Nat),Reps H xs us->Reps H (xs.take i) (us.take i)
 |xs,us,0,_=>by rw[List.take_zero,List.take_zero];exact O|xs,[],i+1,h=>by cases (show xs= [] from h);exact O|xs,u::us,i+1,⟨x,r,e,a,b⟩=>by
  subst e;rw[List.take_succ_cons,List.take_succ_cons];exact{x,_,O,a,Reps.take i b}
theorem Reps.drop{H:Hp}:∀{xs:B3}{us:B0}(i:Nat),Reps H xs us->Reps H (xs.drop i) (us.drop i)
 |xs,us,0,h=>by rw[aN,aN];exact h|xs,[],i+1,h=>by cases (show xs= [] from h);exact O|xs,u::us,i+1,⟨x,r,e,b,a⟩=>by
  subst e;rw[List.drop_succ_cons,List.drop_succ_cons];exact Reps.drop i a
theorem szs_append:∀(a b:B0),T.szs (a++b)=T.szs a+T.szs b
 |[],b=>by show T.szs b=0+T.szs b;lia|u::a,b=>by
  show T.sz u+T.szs (a++b)=T.sz u+T.szs a+T.szs b;rw[szs_append a b];lia
theorem sz_pos:∀(t:T),1<=T.sz t
 |.lst ts=>rE (nR _)|.dic _ ts=>rE (nR _)|.tup ts=>rE (nR _)|.non=>mE _|.bl _=>mE _|.int _=>mE _|.str _=>mE _
theorem zQa:∀(ts:B0),ts...*<=T.szs ts
 |[]=>mE _|t::ts=>by
  let:=zQa ts;let:=sz_pos t;show ts...*+1<=T.sz t+T.szs ts
  lia
section
variable{X:Cx}{pins:C7}{σ σ':St}{H H':Hp}{s s':V2}
theorem Inv.freezeL{d:V1}{xs:B3}{o:Obj}(I:Inv X pins σ H s)(h:H d=Y (.lst xs))(i:s.heap.get? d=Y o):Inv X pins σ (upd H d (.frz o (.lst xs))) s:=by
 let c:∀b u,H b=u->u≠Y (.lst xs)->b≠d:=λb u e n z=>by subst z;exact n (e.symm.trans h)
 refine I.sim (λb e=>by rw[zM (c b _ e (by intro z;cases z))];exact e) (λb a e=>by rw[zM (c b _ e (by intro z;cases z))];exact e) (λb a e=>by rw[zM (c b _ e (by intro z;cases z))];exact e)
  (λb a e=>by rw[zM (c b _ e (by intro z;cases z))];exact e) (λb j u e=>?_) λb u e=>?_
 ·let g:=I.base.frzs b j u e
  rw[zM (c b _ g (by intro z;cases z))];exact g
 ·by_cases f:b=d
  ·subst f
   rw[zC] at e;cases e;exact .inr (.inr ⟨o,_,O,h,i⟩)
  ·rw[zM f] at e;exact .inl e
def zRm(d:V1)(t:TE):TE:=λσ H Q=>(∃a,H d=Y (.dK a)/\∀o,t σ (upd H d (.frz o (.dK a))) λv H'=>Q v (thaw H H'))\/∃b,H d=Y (.lst b)/\∀o,t σ (upd H d (.frz o (.lst b))) λv H'=>Q v (thaw H H')
def zKt(t:TE):TE:=λσ H Q=>∃d,zRm d t σ H Q
theorem zFf{e:Expr}{t:TE}(h:PE X e t):PE X e (zKt t):=by
 intro pins s σ H Q I q;obtain⟨d,⟨i,a,q⟩|⟨m,a,q⟩⟩:=q
 ·obtain⟨_,_,l,_,D⟩:=zRe I.hok a
  obtain⟨o,f,_⟩:=D.typeIs;exact thn (h pins s σ _ _ (I.freeze a f) (q o)) λu j ⟨v,k,c,r,b⟩=>{v,_,I.thaw c,r,b}
 ·refine xC (I.list (SqL.of a)) λl p g _=>?_
  ext wS g o n f _;exact thn (h pins s σ _ _ (I.freezeL a f) (q o)) λu j ⟨v,k,c,r,b⟩=>⟨v,_,I.thaw c,r,b⟩
end
def wB(H:Hp)(d:V1):Hp:=λb=>if b=d then none else H b
theorem xX{H:Hp}{d b:V1}(h:b≠d):wB H d b=H b:=mI h
theorem gN{H:Hp}{d:V1}:wB H d d=none:=mP O
theorem qM{H:Hp}{d:V1}{u:HO}:wB (upd H d u) d=wB H d:=by
 funext b
 by_cases h:b=d
 ·subst h;rw[gN,gN]
 ·rw[xX h,xX h,zM h]
theorem zDf{H:Hp}{d:V1}{u:HO}:Same (wB H d) (upd H d u):=λb v e=>by
 by_cases h:b=d
 ·subst h;rw[gN] at e;cases e
 ·rw[xX h] at e;rw[zM h];exact e
theorem xP{H:Hp}{d:V1}:Same (wB H d) H:=λb v e=>by
 by_cases h:b=d
 ·subst h;rw[gN] at e;cases e
 ·rw[xX h] at e;exact e
theorem yU{H a:Hp}{d:V1}(h:Same H a):Same (wB H d) (wB a d):=λb v e=>by
 by_cases c:b=d
 ·subst c;rw[gN] at e;cases e
 ·rw[xX c] at e⊢;exact h b v e
theorem Rep.off{H a:Hp}{d:V1}{o:Obj}{u:HO}(c:a d=Y (.frz o u)){v:V}{t:T}(h:Rep a v t):Rep (wB (L2.thaw H a) d) v t:=
 Rep.plain (λb w n e=>by
  let f:b≠d:=λz=>by subst z;rw[c] at e;cases e;exact n _ _ O
  rw[xX f];exact vR e n) v t h
theorem zSj{H a:Hp}{d:V1}{o:Obj}{u:HO}(c:H d=Y u)(b:∀o v,u≠ .frz o v)(g:Same (upd H d (.frz o u)) a):L2.thaw H a d=Y u:=
 zRr (g d _ zC) λo v z=>b o v (mU (c.symm.trans z))
noncomputable def zAf:Nat->Nat
 |0=>1|d+1=>4*zAf d+1
theorem zBm:∀d,1<=zAf d
 |0=>mE _|d+1=>rE (nR _)
theorem zWn:∀d,d<=4->zAf d<=341:=by
 intro d h;let:d=0\/d=1\/d=2\/d=3\/d=4:=by lia
 rcases this with rfl | rfl | rfl | rfl | rfl<;>decide
theorem zEf{n:Nat}:∀{ts:B0},(∀t∈ts,T.sz t<=n)->T.szs ts<=ts...**n
 |[],_=>nR _|t::ts,h=>by
  let c:=h t mD;let b:=zEf (ts:=ts) λu a=>h u (mG _ a);show T.sz t+T.szs ts<=(ts...*+1)*n;rw[Nat.add_mul];lia
theorem zLm{X:Cx}{K:A9}(h:X.K=K):IxR X (yBy K):=by subst h;exact zP
end L2
namespace L2
open PySem PySem.Spec PyProof.Rows PySem.Builtin PySem.Builtin.Str
section
variable{prog:V3}{w:V4}{A:Around}{E:C9}{s:V2}{x y:Str}{t u:Tok}{Q:C9}
end
section
variable{X:Cx}
end
structure Bl3(mg:C8):Prop extends Bl2 mg where
 abs:mg "abs" =none
end L2
namespace L2
open PySem PySem.Spec PyProof.Rows
noncomputable def qN(a:List Int)(k:Int):Int:=
 let m:=if a= [] then k*7919 else(k*7919+k / a...**104729+a.getD (k % a...*).toNat 0*48271)% 1000003
 (m*m / 11+13*m)% 1000003
theorem qB(a:List Int)(k:Int):0<=qN a k:=sF _ ∎
theorem jE(a:List Int)(k:Int):qN a k<1000003:=rY _ ∎
noncomputable def yR(n:List Nat)(t:T):List (List Nat)->List T->List T
 |k::b,u::a=>(if k=n then t else u)::yR n t b a|_,a=>a
noncomputable def yY(p:List (List Nat)×List T)(n:List Nat)(t:T):List (List Nat)×List T:=if n∈p.1 then(p.1,yR n t p.1 p.2) else(p.1++ [n],p.2++ [t])
theorem gZ(n:List Nat)(t:T):∀(ks:C6)(us:B0),(yR n t ks us)...*=us...*
 |[],us=>by unfold yR;rfl|_::_,[]=>rfl|k::ks,u::us=>by
  show(yR n t ks us)...*+1=us...*+1;rw[gZ n t ks us]
theorem zBn(n:List Nat)(t:T):∀(ks:C6)(us:B0)(u:T),u∈yR n t ks us->u∈us\/u=t
 |[],us,u,h=>by unfold yR at h;exact .inl h|_::_,[],u,h=>.inl h|k::ks,v::us,u,h=>by
  let a:u∈(if k=n then t else v)::yR n t ks us:=h;rcases mF.mp a with z | z
  ·split at z
   ·exact .inr z
   ·exact .inl (by rw[z];exact mD)
  ·exact(zBn n t ks us u z).imp (mG _) id
theorem Reps.replT{H:Hp}{n:List Nat}{v:V}{t:T}(b:Rep H v t):∀{ps:D0}{ks:C6}{us:B0},ps.map (·.1)=ks.map nK->Reps H (ps.map (·.2)) us->Reps H ((ps.map λkv=>if kv.1=nK n then(kv.1,v) else kv).map (·.2)) (yR n t ks us)
 |[],[],us,_,h=>by
  let e:yR n t [] us=us:=by unfold yR;rfl
  rw[e];exact h
 |[],_::_,_,e,_=>by simp at e|_::_,[],_,e,_=>by simp at e|p::ps,k::ks,[],_,h=>by
  let g:(p::ps).map (·.2)= []:=h;cases g
 |p::ps,k::ks,u::us,e,⟨f,r,j,o,s⟩=>by
  let w:p.2::ps.map (·.2)=f::r:=j;injection w with q l;subst q l;let i:p.1::ps.map (·.1)=nK k::ks.map nK:=e;injection i with d m;let c:=Reps.replT (n:=n) b m s
  by_cases a:k=n
  ·refine{v,_, ?_, ?_,c}
   ·rw[nG,mP (by rw[d,a]),nG]
   ·rw[mP a];exact b
  ·refine{p.2,_, ?_, ?_,c}
   ·rw[nG,mI (by rw[d];exact λz=>a (zAx z)),nG]
   ·rw[mI a];exact o
theorem zDd{H:Hp}{ps:D0}{p:List (List Nat)×List T}{n:List Nat}{v:V}{t:T}(a:ps.map (·.1)=p.1.map nK)(j:Reps H (ps.map (·.2)) p.2)(i:Rep H v t):
  (qG ps (nK n) v).map (·.1)=(yY p n t).1.map nK/\Reps H ((qG ps (nK n) v).map (·.2)) (yY p n t).2:=by
 let g:(ps.any λb=>decide (b.1=nK n))=true↔n∈p.1:=by
  rw[bZ];constructor
  ·rintro⟨b,f,e⟩
   let:nK n∈ps.map (·.1):=nV.mpr {b,f,sS e};rw[a] at this;obtain⟨k,c,d⟩:=nV.mp this;rw[<-zAx d];exact c
  ·intro h
   let:nK n∈ps.map (·.1):=by rw[a];exact nV.mpr ⟨n,h,O⟩
   obtain⟨b,c,d⟩:=nV.mp this;exact{b,c,nF d}
 unfold qG yY
 by_cases h:n∈p.1
 ·rw[mP (g.mpr h),mP h]
  refine{?_,Reps.replT i a j};show _=p.1.map nK;rw[<-a,sI];apply sG;intro q _;show(if q.1=nK n then(q.1,v) else q).1=q.1;split<;>rfl
 ·rw[mI (λz=>h (g.mp z)),mI h]
  exact{by rw[nI,a,nI];rfl,by rw[nI];exact Reps.snoc i j}
end L2
namespace L2
open PySem PySem.Spec PyProof.Rows PySem.Builtin PySem.Builtin.Str
theorem zFu{k:List Nat}(h:xF k=true):k...*<=12:=by
 unfold xF at h;simp only[pA,pO] at h
 lia
end L2
namespace L2
open PySem PySem.Spec PyProof.Rows
section
variable{X:Cx}
def yBk(t u:TE):TE:=λσ H Q=>t σ H Q\/u σ H Q
theorem zEc{e:Expr}{t u:TE}(b:PE X e t)(c:PE X e u):PE X e (yBk t u):=λa s σ H Q I h=>h.elim (b a s σ H Q I) (c a s σ H Q I)
end
noncomputable def yGn:T->List T
 |.lst us=>(List.range us...*).map fun(i:Nat)=>T.int (i:Int)|.dic ks _=>(wT ks).map T.str|_=>[]
noncomputable def kid:T->T->T
 |.lst a, .int i=>a.getD i.toNat .non|.dic ks a, .str k=>yH k ks a|_,_=>.non
theorem zRi{t s:T}(h:T.few t)(d:s∈yGn t):T.few (kid t s)/\T.dep (kid t s)<T.dep t/\T.sz (kid t s)<T.sz t:=by
 cases t with
 |lst a=>
  obtain⟨i,c,rfl⟩:=nV.mp d;let c:=tQ.mp c;let e:kid (.lst a) (T.int (i:Int))=a[i]:=by
   show a.getD (i:Int).toNat .non=_;rw[bS,sJ,mQ c];rfl
  rw[e];let b:a[i]∈a:=sK c;exact{b9 h.2 b,bT (b7 b),bT (c7 b)}
 |dic g a=>
  obtain⟨k,j,rfl⟩:=nV.mp d;ext xA h n m f l;let b:yH k g a∈a:=xK (mem_sortK.mp j) f;exact{b9 l b,bT (b7 b),bT (c7 b)}
 |_=>cases d
section
variable{X:Cx}{pins:C7}{σ:St}{H:Hp}{s:V2}{h':V5}
theorem Inv.turnedNew{fp:B9}{a:V1}{o:HO}{t':Nat}(I:Inv X pins σ H s)(p:∀b∈fp,zDn X pins H b)(k:∀b d,b∉fp->s.heap.get? b=Y d->h'.get? b=Y d)(t:s⁻¹<=a)
  (j:ObjOk X.prog X.w (upd H a o) h' a o):Inv X pins σ (upd H a o) {s with heap:=h',toks:=t'}:=by
 let h:H a=none:=I.hok.fresh t;let g:∀b u,H b=Y u->b∉fp:=λb u e z=>by rw[(p b z).1] at e;cases e
 let l:∀b d,s.heap.get? b=Y d->b≠a:=λb d e=>nP (nN (mZ e) t);refine I.step (g':=s.gens) (d':=s.drawn) (ch:=fp) (λb i=>?_) (λb d _ _ f e _=>k b d f e) (λb d _ _ f e _=>{d.slots,k b d f e}) (λb d _ e n=>by rw[zM (l b d e)];exact n)
  (λb d f e=>{d,k b d f e}) (λb y e=>by rw[zM (yM e h)];exact e) (λb d u e=>by rw[zM (yM e h)];exact e) (λb M e=>{#[],by rw[zM (yM e h),e];simp}) (λm B=>?_) (λb u e=>?_) I.bare
 ·refine zS (p b i) λ_ w _ D J E=>?_
  exact⟨D,w,J,E⟩
 ·ext zEo B d x L A r
  exact{d,x,L,k _ d (λz=>(p _ z).2.1 O) A,r}
 ·by_cases i:b=a
  ·subst i;rw[zC] at e;cases e;exact j
  ·rw[zM i] at e
   refine(I.hok b u e).stay (λc v f q=>k c v ?_ q) (λc q=>by rw[zM (yM q h)];exact q) λc y q=>by rw[zM (yM q h)];exact q
   rcases f with z | z
   ·rw[z];exact g b u e
   ·exact g c _ z
end
def Iti(d:V1)(o:Obj)(kvs:D0):It:=
 ⟨λi H=>i<kvs...*/\H d=Y (.frz o (.dK kvs)),λi H y b=>∃p a,H p=none/\kvs[i]? =Y a/\y= .ref p/\b=upd H p (.tup [kV a.1,a.2]),λi H=>kvs...*<=i/\H d=Y (.frz o (.dK kvs))⟩
theorem zZy:entryFor table "dict_itemiterator.__iter__" =some Builtin.«dict_keyiterator.__iter__»:=
 entryFor_alias (by kernel_rfl) O (by decide+kernel) (by kernel_rfl) (id':="dict_keyiterator.__iter__")
theorem zOg{P:V3}{w:V4}{K:A9}{J:C5}{x1:Nat}{af:Pos}(d it:V1)(o:Obj)(kvs:D0):
  zHt P w K (.Tuple J x1 af) (Iti d o kvs) [it] it (λi h=>∃g ep j n,o.data= .dict g ep/\IsItemIter h it d i kvs...* ep j n) where
 mem:=by simp
 obj:=λi h st b m=>by
  ext yN st g ep j n _ e;let e':b=it:=by simpa using m
  subst e';exact{_,e,λv z=>by cases z}
 keep:=λi h h' st k=>by
  ext yN st g ep j n a st;exact{g,ep,j,n,a,k it (by simp) _ st}
 item:=by
  intro X hP hw hK hc i x s σ H E I N st l;subst hP hw hK;ext yN st g ep j n c st;obtain⟨hi,l⟩:=l;refine jD (zBj I.hok l c) λvs f hm _ _=>?_;let M:=f...*;obtain⟨r,t⟩:∃r,kvs[i]? =Y r:={kvs[i],by simp[hi]};refine xC (KV.get f t) λq hq ae aa=>?_;rw[M] at st;let y:it<s⁻¹:=mZ st;refine wpAny_pyNext_items_item (k:=q.1) (v:=q.2) st hm hq λp h1 hk so ht hz u=>{_,O, ?_};refine wpAny_letOwnedTupleGo_items so λh2 ab L=>?_;let L:Heap.SameBut it h1 h2:=L;let ac:h2.get? s⁻¹=some {cls:=.type "tuple",data:=.seq #[p,q.2]}:=(L.2 _ (rC y)).trans ht;let D:H s⁻¹=none:=I.hok.fresh (mE _);refine{.ref s⁻¹,upd H s⁻¹ (.tup [kV r.1,r.2]),I.turnedNew (t':=s.toks) N (λb ob m e=>?_) (mE _) ?_,O,⟨_,r,D,t,O,O⟩,{g,ep,p,q.2,c,by rw[M];exact ab},λb m=>?_}
  ·let B:b≠it:=by simpa using m
   exact(L.2 b B).trans (u b ob B e)
  ·refine{by rw[mS];simp,[p,q.2], .cons (by rw[ae];exact zKo hk) (.cons aa .nil),⟨_,ac,O,_,O⟩}
  ·let e:b=it:=by simpa using m
   subst e;rw[zM (nP y)];exact(N _ (by simp)).1
 done:=by
  intro X hP hw hK hc i x s σ H E I N st l;subst hP hw hK;ext yN st g ep j n c st;obtain⟨hi,l⟩:=l;refine jD (zBj I.hok l c) λvs f hm _ _=>?_;refine zS (N it (by simp)) λf0 f1 f2 f3 f4 f5=>?_;let M:=f...*;rw[M] at st;exact wpAny_pyNext_items_end (I.ok.hd hc) st hm (by simp;lia) λh' eb=>{O,I.turned (t':=s.toks) (λb o m e=>eb b o m e) f0 f1 f3 f4 f5}
 self:=λA i s Q E st h=>by
  ext yN st g ep j n _ st;let hT:s.TypeIs (.ref it) "dict_itemiterator":=⟨_,st,O⟩;refine wpAny_pyIter_slot hT cM (wpAny_call_entry cM hT zZy ?_ (F.args_dict_itemiterator_iter_1 _));show V8 _ _ (ret (.ref it)) _ _ s;exact mT {_,O,"dict_itemiterator",_,hT,F.slot_dict_itemiterator_next.lookup,h}
noncomputable def zHu(p d:V1):HO:=.ext λh=>h.IsItemsView p d
def yFz:V->List V->Hp->VK->Prop:=λx b H Q=>∃d a,x= .ref d/\b= []/\Rd H d (.dK a)/\∀p,H p=none->Q (.ref p) (upd H p (zHu p d))
def yIk(c:TE):TI:=λσ H R=>c σ H λx b=>∃p d a,x= .ref p/\b p=Y (zHu p d)/\((b d=Y (.dK a)/\∀o,R (Iti d o a) (upd b d (.frz o (.dK a))))\/∃o,b d=Y (.frz o (.dK a))/\R (Iti d o a) b)
section
variable{X:Cx}
theorem zZg:MtR X "dict.items" yFz:=by
 intro f s σ H x u v w Q I j l h;ext zR h d i c a m q;subst c a;cases j;cases l;obtain⟨z,t,n,p,g⟩:=gW I.hok m;refine call_meetsIn PySem.F.slot_dict_items g.typeIs PySem.F.entry_dict_items (PySem.F.args_dict_items_1 _) (meets_dict_items (yZ X.prog X.w) d t) {⟨n,g⟩, ?_};refine{.ref s⁻¹,_,I.laid (t':=s.toks) (λb o e=>mL _ e) (mE _) (o:=zHu s⁻¹ d) ?_,O,q _ (I.hok.fresh (mE _))};exact⟨{_,nM _ O,O,O},{_,nM _ O},λy A ⟨o,e,r⟩ k=>⟨o,k o e,r⟩⟩
theorem zUi{k:C5}{L:Nat}{u:Pos}{l:Expr}{N:TE}(hl:PE X l N):PI X (.Tuple k L u) l (yIk N):=by
 intro f s σ H R I h;refine thn (hl f s σ H _ I h) λv i z_=>?_;obtain⟨x,M,y,r1,q1⟩:=z_;ext zU q1 p d a B hp q;subst B;cases r1;obtain⟨Q,_⟩:=(show ObjOk X.prog X.w M i.heap p (zHu p d) from y.hok p _ hp);let t:∀o m,Inv X f σ m i->m d=Y (.frz o (.dK a))->R (Iti d o a) m->V8 (S8 X.prog X.w) X.A (pyIter (.ref p)) (PIE X f σ (.Tuple k L u) R) X.xe i:=λo m A e q=>by
  obtain⟨g,z,hd,J,n,o',E,D,w,c,j,r⟩:=(show ObjOk X.prog X.w m i.heap d (.frz o (.dK a)) from A.hok d _ e);rw[g] at w;cases w;let hm:i.heap.DictAt (yZ X.prog X.w) d J D:=⟨o,E,g,c,j,r⟩;refine wpAny_pyIter_items Q hm ?_;refine⟨i⁻¹,[i⁻¹],_,_,m,O,A.kept (t':=i.toks) λb o e=>mL _ e,zOg d _ o a,⟨E,D, .none, .none,j, ?_⟩,λb hb=>?_,q⟩
  ·rw[n...*];exact nM _ O
  ·let e:b=i⁻¹:=by simpa using hb
   subst e;exact A.fpOk (mE _) (A.hok.fresh (mE _))
 rcases q with⟨e,q⟩|⟨o,e,q⟩
 ·obtain⟨z,hd,J,n,o,E,D,w,_⟩:=(show ObjOk X.prog X.w M i.heap d (.dK a) from y.hok d _ e)
  exact t o _ (y.freeze e w) zC (q o)
 ·exact t o _ y e q
end
abbrev g2(K:A9):TG:=zYe K 2 (zMz (qQ 0) (zMz (qQ 1) yCx))
theorem zVf{F:List (Option V)}{x y:V}:yGu (Y x::Y y::F) (none::none::F):={O,λi v e=>by
 match i,e with
 |0,e=>cases e|1,e=>cases e|i+2,e=>exact e}
theorem zMq{K:A9}{x y:Str}{F:D4}{J:It}{n:Nat}{k:TE}{σ:St}{Q:VK}{H1:Hp}(Pv:Nat->List V->Hp->Prop)(w:n<=V9)(l:Pv 0 [] H1)(h:∀i b H,i<n->Pv i b H->J.go i H)
  (g:∀b H,Pv n b H->J.stop n H)
  (D:∀i b H z d,i<n->b...*<=i->Pv i b H->J.yld i H z d->∃a u v,z= .ref a/\SqT K d a [u,v]/\k (Y u::Y v::F.map (λp=>(σ[p.2]?).join)) d λr H4=>Pv (i+1) (b++ [r]) H4)
  (B:∀b H,b...*<=n->Pv n b H->∀p,H p=none->Q (.ref p) (upd H p (.lst b))):wN [x,y] F (g2 K) zBa k σ Q J H1:=by
 refine{λi m b H=>m=n - i/\i<=n/\Pv i b H,{n,by simp,nR _,l}, ?_};rintro i m b H ⟨rfl,I,p⟩ j
 by_cases c:i<n
 ·refine .inr {h i b H c p,∅,Pv (i+1),λs t q=>{n - (i+1),∅,O,c,q},λz d o=>?_}
  refine zU (D i b H z d c j p o) λa u v f A E=>?_;subst f;refine{a,[u,v],O,A,O,u,[v],O,v,[],O,O, ?_};exact⟨zVf,E⟩
 ·let e:i=n:=by lia
  subst e;exact .inl {g b H p,w,B b H j p}
theorem zPm{K:A9}{x y:Str}{F:D4}{d:V1}{o:Obj}{kvs:D0}{g:TE}{σ:St}{Q:VK}{H1:Hp}(Pv:Nat->List V->Hp->Prop)(m:kvs...*<=V9)(j:Pv 0 [] H1)(hz:∀i a H,Pv i a H->H d=Y (.frz o (.dK kvs)))
  (q:∀i b a H p,kvs[i]? =Y b->a...*<=i->Pv i a H->H p=none->g (Y (kV b.1)::Y b.2::F.map (λp=>(σ[p.2]?).join)) (upd H p (.tup [kV b.1,b.2])) λz H4=>Pv (i+1) (a++ [z]) H4)
  (n:∀a H,a...*<=kvs...*->Pv kvs...* a H->∀p,H p=none->Q (.ref p) (upd H p (.lst a))):wN [x,y] F (g2 K) zBa g σ Q (Iti d o kvs) H1:=
 zMq Pv m j (λi a H h p=>{h,hz i a H p}) (λa H p=>{mE _,hz _ a H p}) (λi a H z u t s l k=>by
  ext zR k p b r c f e;subst f e;exact{p,_,_,O, .of zC,q i b a H p c s l r}) n
def Ite(K:A9)(l:V1):It:=
 {λi H=>∃a x,SqL K H l a/\a[i]? =Y x,λi H y b=>∃p x,H p=none/\y= .ref p/\(∀a,SqL K H l a->a[i]? =Y x)/\b=upd H p (.tup [.int i,x]),λi H=>∃a,SqL K H l a/\a...*<=i}
theorem zTw{P:V3}{w:V4}{K:A9}{B:C5}{x1:Nat}{ab:Pos}(l e it:V1)(t:e≠it):
  zHt P w K (.Tuple B x1 ab) (Ite K l) [e,it] e (λi h=>(∃old,IsEnum h e it (i:Int) old)/\h.IsListIter it l i) where
 mem:=by simp
 obj:=λi h st b a=>by
  obtain⟨⟨old,f⟩,o,e1,c,d⟩:=st;rcases mF.mp a with z | z
  ·subst z
   exact{_,f,λv z=>by cases z}
  ·let e':b=it:=by simpa using z
   subst e';exact{o,e1,λv z=>by rw[d] at z;cases z}
 keep:=λi h h' st k=>by
  obtain⟨⟨old,f⟩,st⟩:=st;exact⟨{old,k e (by simp) _ f},st.at λo q=>k it (by simp) o q⟩
 item:=by
  intro X N hw hK hc i m s σ H E I n st hg;subst N hw hK;obtain⟨⟨old,f⟩,st⟩:=st;ext wS hg xs x D hx;refine xC (I.list D) λJ rv p hz=>?_;obtain⟨u,hu,ru⟩:=rv.get hx;let r:e<s⁻¹:=mZ f;let ac:it<s⁻¹:=by obtain⟨o,q,_⟩:=id st;exact mZ q
  refine wpAny_pyNext_enum_item f st p.isList (x:=u) (by simpa using hu) t λh1 so L ht ae j=>{_,O, ?_};refine wpAny_letOwnedTupleGo_enum so λh2 Q g=>?_;let g:Heap.SameBut e h1 h2:=g;let aa:h2.get? s⁻¹=some {cls:=.type "tuple",data:=.seq #[.int i s.toks,u]}:=(g.2 _ (rC r)).trans ht;let y:H s⁻¹=none:=I.hok.fresh (mE _);refine{.ref s⁻¹,upd H s⁻¹ (.tup [.int i,x]),I.turnedNew (t':=s.toks+1) n (λb ob a q=>?_) (mE _) ?_,O,{_,x,y,O,λys hy=>by rw[I.list_inj hy D];exact hx,O},{{u, ?_}, ?_},λb a=>?_}
  ·let A:b≠e:=λz=>a (by simp[z])
   let M:b≠it:=λz=>a (by simp[z]);exact(g.2 b A).trans (j b ob A M q)
  ·exact{by rw[mS];simp,[.int i s.toks,u], .cons ⟨_,O⟩ (.cons ru .nil),⟨_,aa,O,_,O⟩}
  ·let:((i+1:Nat):Int)=(i:Int)+1:=by lia
   rw[this];exact Q
  ·exact L.at λo q=>(g.2 it (Ne.symm t)).trans q
  ·rcases mF.mp a with z | z
   ·subst z
    rw[zM (nP r)];exact(n _ (by simp)).1
   ·let e':b=it:=by simpa using z
    subst e';rw[zM (nP ac)];exact(n _ (by simp)).1
 done:=by
  intro X N hw hK hc i m s σ H E I n st hg;subst N hw hK;obtain⟨⟨old,f⟩,st⟩:=st;obtain⟨xs,D,hx⟩:=hg;refine xC (I.list D) λJ rv p hz=>?_;refine zS (n it (by simp)) λf0 f1 f2 f3 f4 f5=>?_;let hl:=rv...*;exact wpAny_pyNext_enum_end (I.ok.hd hc) f st p.isList (by simp;lia) λh' eb=>{O,I.turned (t':=s.toks) (λb o a e=>eb b o a e) f0 f1 f3 f4 f5}
 self:=λ_ _ _ _ _ st h=>wpAny_pyIter_enum st.1.choose_spec h
def zUx(K:A9)(ta:TA):TI:=λσ H R=>ta σ H λb a=>∃l c,b= [.ref l]/\SqL K a l c/\R (Ite K l) a
theorem zJs:A4 "enumerate" =Y (.type "enumerate"):=by decide+kernel
theorem zQx{X:Cx}{m:C5}{A:Nat}{g:Pos}{a:Expr}{ta:TA}{p j:Pos}(N:Gl X "enumerate")(E:X.mg "enumerate" =none)(J:PA X [a] ta)(M:A5 [a] X.env= [(false,eval a X.env)]:=by rfl):
  PI X (.Tuple m A g) (.Call (.Name "enumerate" p) [a] [] j) (zUx X.K ta):=by
 intro k s σ H R I h;refine Call_ (zAb I N E zJs (rP (thn (J j k s σ H _ I h) λus c z_=>?_) M O));obtain⟨vs,o,d,Q,B⟩:=z_;ext yL B l xs e D q;subst e
 cases Q with
 |cons r rr=>
  cases rr;cases r;refine xC (d.list D) λw rv v hz=>?_;refine call_enumerate_list v.isList λh' u st L f=>?_;refine wpAny_pyIter_enum (it:=c⁻¹) (i:=0) (old:=.none) u ?_;let n:o c⁻¹=none:=d.hok.fresh (mE _);let t:o (c⁻¹+1)=none:=d.hok.fresh (pP _);refine{c⁻¹+1,[c⁻¹+1,c⁻¹],_,_,o,O,d.kept (t':=c.toks) f,zTw l _ _ (Nat.succ_ne_self _),{{.none,u},st},λb x=>?_,q};rcases mF.mp x with z | z
  ·subst z;exact d.fpOk (pP _) t
  ·let y:b=c⁻¹:=by simpa using z
   subst y;exact d.fpOk (mE _) n
theorem zUg{K:A9}{x y:Str}{F:D4}{l:V1}{xs:B3}{e:TE}{σ:St}{Q:VK}{H1:Hp}(Pv:Nat->List V->Hp->Prop)(k:xs...*<=V9)(g:Pv 0 [] H1)(hz:∀i a H,i<=xs...*->Pv i a H->SqL K H l xs)
  (n:∀i v a H p,xs[i]? =Y v->a...*<=i->Pv i a H->H p=none->e (Y (.int i)::Y v::F.map (λp=>(σ[p.2]?).join)) (upd H p (.tup [.int i,v])) λz H4=>Pv (i+1) (a++ [z]) H4)
  (m:∀a H,a...*<=xs...*->Pv xs...* a H->∀p,H p=none->Q (.ref p) (upd H p (.lst a))):wN [x,y] F (g2 K) zBa e σ Q (Ite K l) H1:=
 zMq Pv k g (λi a H h p=>{xs,xs[i],hz i a H (tS h) p,by simp[h]}) (λa H p=>{xs,hz _ a H (mE _) p,mE _}) (λi a H z s o r d j=>by
  ext zR j p v q b f c;subst b c;exact{p,_,_,O, .of zC,n i v a H p (f xs (hz i a H (tS o) d)) r d q}) m
noncomputable def tyR(H:Hp):V->Option String
 |.ref a=>match H a with
  |some (.frz _ (.dK _))=>some "dict"|_=>tyS H (.ref a)
 |v=>tyS H v
theorem yCk{H:Hp}{x:V}{t:String}(h:tyR H x=Y t):t∈tyL:=by
 cases x with
 |ref a=>
  let c:(match H a with | some (.frz _ (.dK _))=>some "dict" | _=>tyS H (.ref a))=Y t:=h
  split at c
  ·cases c;simp[tyL]
  ·exact qU c
 |non=>exact qU (H:=H) (show tyS H .non=Y t from h)|bl b=>exact qU (H:=H) (show tyS H (.bl b)=Y t from h)|int b=>exact qU (H:=H) (show tyS H (.int b)=Y t from h)|str b=>exact qU (H:=H) (show tyS H (.str b)=Y t from h)|byt b=>exact qU (H:=H) (show tyS H (.byt b)=Y t from h)|flt b=>exact qU (H:=H) (show tyS H (.flt b)=Y t from h)|ty b=>exact qU (H:=H) (show tyS H (.ty b)=Y t from h)
theorem zOx{H:Hp}{x:V}{t:String}(h:tyS H x=Y t):tyR H x=Y t:=by
 cases x with
 |ref a=>
  show(match H a with | some (.frz _ (.dK _))=>some "dict" | _=>tyS H (.ref a))=Y t
  split
  ·rename_i o kvs e
   let b:(match H a with | some (.lst _)=>some "list" | some (.tup _)=>some "tuple" | some (.dK _)=>some "dict" | _=>none)=Y t:=h
   rw[e] at b;cases b
  ·exact h
 |_=>exact h
theorem yCw{H:Hp}{a:V1}{ps:D0}(h:Rd H a (.dK ps)):tyR H (.ref a)=some "dict":=by
 rcases h with h |⟨o,h⟩
 ·exact zOx (qY h)
 ·show(match H a with | some (.frz _ (.dK _))=>some "dict" | _=>tyS H (.ref a))=some "dict"
  rw[h]
section
variable{X:Cx}
theorem kL{T:String}(f:T∈tyL):wX X (.builtin "isinstance") (λxs H Q=>∃x t,xs= [x, .ty T]/\tyR H x=Y t/\Q (.bl (yC t T)) H):=by
 intro b s σ H xs j Q I r h;ext yL h x t c i q;subst c
 cases x with
 |ref a=>
  let d:(match H a with | some (.frz _ (.dK _))=>some "dict" | _=>tyS H (.ref a))=Y t:=i
  split at d
  ·rename_i o kvs e
   cases d;refine yL (zEr r) λu v c k g=>?_;subst c;cases (show v=Value.type T from g);cases (show u=Value.ref a from k);obtain⟨_,_,y,_,p⟩:=gW I.hok (.inr ⟨o,e⟩);ext zU p l B A m n _;exact tG cR I.kIn ⟨l,m,n.1⟩ (zDi (by simp[tyL]) f) (λz=>nomatch z) λw=>{.bl _,H,I.tok _,O,q}
  ·exact zHm f b s σ H _ j Q I r ⟨_,t,O,d,q⟩
 |_=>exact zHm f b s σ H _ j Q I r ⟨_,t,O,i,q⟩
theorem zTf:wX X (.builtin "len") (λxs H Q=>∃a kvs,xs= [V.ref a]/\Rd H a (.dK kvs)/\Q (.int kvs...*) H):=by
 intro c s σ H xs i Q I r h;ext yL h a kvs b f q;subst b;obtain⟨u,rfl,d⟩:=jH r;cases d;exact yEk I f λt g e=>{.int kvs...*,H,e,⟨t,O⟩,q}
end
mutual
def Rp(H:Hp):V->T->Prop
 |v, .non=>v= .non|v, .bl b=>v= .bl b|v, .int i=>v= .int i|v, .str x=>v= .str (tx x)|v, .lst ts=>∃a c,v= .ref a/\H a=Y (.lst c)/\Rps H c ts|v, .dic e ts=>∃a d,v= .ref a/\Rd H a (.dK d)/\d.map (·.1)=e.map (λk=>(Sum.inr (tx k):Key))/\Rps H (d.map (·.2)) ts|v, .tup ts=>∃a c,v= .ref a/\H a=Y (.tup c)/\Rps H c ts
def Rps(H:Hp):List V->List T->Prop
 |vs,[]=>vs= []|vs,t::ts=>∃v r,vs=v::r/\Rp H v t/\Rps H r ts
end
mutual
theorem Rep.rp{H:Hp}:∀(v:V)(t:T),Rep H v t->Rp H v t
 |_, .non,h=>h|_, .bl _,h=>h|_, .int _,h=>h|_, .str _,h=>h|_, .lst ts,⟨a,c,b,d,e⟩=>{a,c,b,d,Reps.rp c ts e}|_, .dic i ts,⟨a,g,b,d,e,f⟩=>{a,g,b, .inl d,e,Reps.rp _ ts f}|_, .tup ts,⟨a,c,b,d,e⟩=>{a,c,b,d,Reps.rp c ts e}
theorem Reps.rp{H:Hp}:∀(vs:B3)(ts:B0),Reps H vs ts->Rps H vs ts
 |_,[],h=>h|_,t::ts,⟨v,r,a,b,c⟩=>{v,r,a,Rep.rp v t b,Reps.rp r ts c}
end
theorem Rp.ty{H:Hp}{v:V}:∀{t:T},Rp H v t->tyR H v=Y (tyT t)
 |.non,h=>by cases (show v= .non from h);rfl|.bl b,h=>by cases (show v= .bl b from h);rfl|.int i,h=>by cases (show v= .int i from h);rfl|.str x,h=>by cases (show v= .str (tx x) from h);rfl|.lst ts,h=>by obtain⟨a,d,e,c,_⟩:=h;subst e;exact zOx (wQ c)
 |.dic ks ts,h=>by obtain⟨a,d,e,c,_⟩:=h;subst e;exact yCw c
 |.tup ts,h=>by obtain⟨a,d,e,c,_⟩:=h;subst e;exact zOx (zEy c)
theorem zDj{k:Key}:∀{ps:D0},k∉ps.map (·.1)->kK ps k=none
 |[],_=>rfl|p::ps,h=>by
  rw[zAy λe=>h (by simp[e])];exact zDj λz=>h (mG _ z)
theorem zCd:∀(xs ys:List C),qK xs ys=0↔xs...*=ys...*/\∀(i:Nat) x y,xs[i]? =Y x->ys[i]? =Y y->wC x y=0
 |[],[]=>{λ_=>{O,λi x y h=>by simp at h},λ_=>by rw[qK]}|[],_::_=>{λh=>absurd h (by rw[qK];decide),λh=>absurd h.1 (by simp)}|_::_,[]=>{λh=>absurd h (by rw[qK];decide),λh=>absurd h.1 (by simp)}|x::xs,y::ys=>by
  rw[uY];let j:=zCd xs ys;constructor
  ·intro h
   by_cases c:wC x y=0
   ·rw[mP c] at h
    obtain⟨g,f⟩:=j.mp h;refine{by simp[g],λi a b d e=>?_}
    cases i with|zero=>simp at d e;rw[<-d,<-e];exact c|succ i=>exact f i a b (by simpa using d) (by simpa using e)
   ·rw[mI c] at h;exact absurd h c
  ·rintro⟨g,f⟩
   let c:=f 0 x y O O;rw[mP c];exact j.mpr {by simpa using g,λi a b d e=>f (i+1) a b (by simpa using d) (by simpa using e)}
theorem jW:∀{ks a:C6},ks.Nodup->(∀k∈ks,k∈a)->a...*=ks...*->ks.Perm a
 |[],a,_,_,h=>by cases a with | nil=>exact .nil | cons _ _=>cases h
 |k::ks,a,e,b,f=>by
  obtain⟨g,i⟩:=nX.mp e;let c:=b k mD;let p:=List.perm_cons_erase c;refine .trans (.cons k (jW i (λj d=>?_) ?_)) p.symm
  ·exact(List.mem_erase_of_ne λz=>g (by rw[<-z];exact d)).mpr (b j (mG _ d))
  ·rw[List.length_erase_of_mem c,f];rfl
theorem zBl(a b:List Nat):zWu a b=0↔a=b:=by
 unfold zWu;constructor
 ·intro h
  by_cases d:b<a
  ·by_cases c:a<b
   ·exact absurd (List.lt_trans d c) (List.lt_irrefl _)
   ·rw[mP d,mI c] at h;cases h
  ·by_cases c:a<b
   ·rw[mI d,mP c] at h;cases h
   ·exact zMt (by unfold leK;simp[d]) (by unfold leK;simp[c])
 ·intro h
  subst h;rw[mI (List.lt_irrefl _)];rfl
theorem zPu{xs ys:List C}:wC (.row xs) (.row ys)=qK xs ys:=by rw[wC]
theorem yBi{xs ys:List C}:wC (.rcd xs) (.rcd ys)=qK xs ys:=by rw[wC]
theorem zJo{x y:List Nat}:wC (.str x) (.str y)=zWu x y:=by rw[wC]
theorem zMl(k k':List Nat)(c b:C):wC (.row [.str k,c]) (.row [.str k',b])=0↔k=k'/\wC c b=0:=by
 rw[zPu,uY,zJo]
 by_cases h:zWu k k'=0
 ·rw[mP h,uY]
  by_cases a:wC c b=0
  ·rw[mP a]
   exact{λ_=>{(zBl k k').mp h,a},λ_=>by rw[qK]}
  ·rw[mI a]
   exact{λz=>absurd z a,λz=>absurd z.2 a}
 ·rw[mI h]
  exact{λz=>absurd z h,λz=>absurd ((zBl k k').mpr z.1) h}
theorem zJl(us c:B0):wC (zO (.lst us)) (zO (.lst c))=0↔us...*=c...*/\∀(i:Nat) t t',us[i]? =Y t->c[i]? =Y t'->wC (zO t) (zO t')=0:=by
 show wC (.row (xT us)) (.row (xT c))=0↔_;rw[zPu,zCd,qA,qA];refine and_congr_right λf=>{λh i t t' a b=>h i _ _ (zAc a) (zAc b),λh i x y a b=>?_};rw[kW,nH] at a b
 cases d:us[i]? with
 |none=>rw[d] at a;cases a|some t=>
  cases e:c[i]? with
  |none=>rw[e] at b;cases b|some t'=>
   rw[d] at a;rw[e] at b;cases a;cases b;exact h i t t' d e
theorem qI{ks a:C6}{us b:B0}(r:ks.Nodup):wC (zO (.dic ks us)) (zO (.dic a b))=0↔ks...*=a...*/\∀k∈ks,k∈a/\wC (zO (yH k ks us)) (zO (yH k a b))=0:=by
 show wC (.rcd ((wT ks).map λk=>.row [.str k,zHo k ks (xT us)])) (.rcd ((wT a).map λk=>.row [.str k,zHo k a (xT b)]))=0↔_;let m:(wT ks)...*=ks...*:=(wU ks).length_eq;let n:(wT a)...*=a...*:=(wU a).length_eq;rw[yBi,zCd,mN,mN,m,n];refine and_congr_right λo=>?_;constructor
 ·intro h k g
  obtain⟨i,j⟩:=aP.mp (mem_sortK.mpr g);let d:i<(wT a)...*:=by let:=(mJ.mp j).1;lia
  let c:(wT a)[i]? =some (wT a)[i]:=by simp[d]
  let z:=h i _ _ (by rw[nH,j];rfl) (by rw[nH,c];rfl);obtain⟨e,z⟩:=(zMl _ _ _ _).mp z;let p:k∈a:=by rw[e];exact mem_sortK.mp (sK d)
  refine{p, ?_};rw[jL,jL];rw[<-e] at z;exact z
 ·intro h i x y f c
  let q:ks.Perm a:=jW r (λk g=>(h k g).1) o.symm;let l:wT ks=wT a:=zCc ((wU ks).trans (q.trans (wU a).symm)) (uV ks) (uV a);rw[<-l] at c;rw[nH] at f c
  cases e:(wT ks)[i]? with
  |none=>rw[e] at f;cases f|some k=>
   rw[e] at f c;cases f;cases c;let g:=mem_sortK.mp (mO e);let z:=(h k g).2;rw[jL,jL] at z;exact(zMl _ _ _ _).mpr ⟨O,z⟩
theorem zRs{X:Cx}{K:A9}(d:X.K=K){a:C5}{k:Nat}{c:Pos}{t:TGs}{n:Nat}(e:X.calm=true)(h:PGs X a t)
  (f:(S9 a X.env)...*=n:=by rfl) (b:(S9 a X.env).findIdx? (·.1)=none:=by rfl):PG X (.Tuple a k c) (zYe K n t):=by subst d;exact zYk e h f b
structure Bl4(mg:C8):Prop extends Bl2 mg where
 enumerate:mg "enumerate" =none
mutual
def Sp1(H:Hp):V->T->List V1->Prop
 |v, .non,D=>D= []/\v= .non|v, .bl b,D=>D= []/\v= .bl b|v, .int i,D=>D= []/\v= .int i|v, .str x,D=>D= []/\v= .str (tx x)|v, .lst ts,D=>∃a d c,v= .ref a/\H a=Y (.lst d)/\D=a::c/\a∉c/\Sps H d ts c|v, .dic f ts,D=>∃a e c,v= .ref a/\H a=Y (.dK e)/\e.map (·.1)=f.map (λk=>(Sum.inr (tx k):Key))/\D=a::c/\a∉c/\Sps H (e.map (·.2)) ts c|v, .tup ts,D=>∃a d c,v= .ref a/\H a=Y (.tup d)/\D=a::c/\a∉c/\Sps H d ts c
def Sps(H:Hp):List V->List T->List V1->Prop
 |vs,[],D=>vs= []/\D= []|vs,t::ts,D=>∃v r a c,vs=v::r/\D=a++c/\Sp1 H v t a/\Sps H r ts c/\∀b∈a,b∉c
end
mutual
theorem Sp1.rep{H:Hp}:∀(v:V)(t:T)(D:B9),Sp1 H v t D->Rep H v t
 |_, .non,_,h=>h.2|_, .bl _,_,h=>h.2|_, .int _,_,h=>h.2|_, .str _,_,h=>h.2|_, .lst ts,_,⟨a,d,b,c,e,_,_,f⟩=>{a,d,c,e,Sps.rep d ts b f}|_, .dic j ts,_,⟨a,i,b,c,e,f,_,_,g⟩=>{a,i,c,e,f,Sps.rep _ ts b g}|_, .tup ts,_,⟨a,d,b,c,e,_,_,f⟩=>{a,d,c,e,Sps.rep d ts b f}
theorem Sps.rep{H:Hp}:∀(vs:B3)(ts:B0)(D:B9),Sps H vs ts D->Reps H vs ts
 |_,[],_,h=>h.1|_,t::ts,_,⟨v,r,a,b,c,_,d,e,_⟩=>{v,r,c,Sp1.rep v t a d,Sps.rep r ts b e}
end
mutual
theorem Sp1.keep{H m:Hp}:∀(v:V)(t:T)(D:B9),(∀b∈D,∀o,(∀l u,o≠HO.frz l u)->H b=Y o->m b=Y o)->Sp1 H v t D->Sp1 m v t D
 |_, .non,_,_,h=>h|_, .bl _,_,_,h=>h|_, .int _,_,_,h=>h|_, .str _,_,_,h=>h|_, .lst ts,_,k,⟨a,d,c,g,j,e,n,f⟩=>{a,d,c,g,k a (by rw[e];exact mD) _ (by intro l u z;cases z) j,e,n,Sps.keep d ts c (λb i=>k b (by rw[e];exact mG _ i)) f}|_, .dic r ts,_,k,⟨a,q,c,g,j,f,e,n,p⟩=>{a,q,c,g,k a (by rw[e];exact mD) _ (by intro l u z;cases z) j,f,e,n,Sps.keep _ ts c (λb i=>k b (by rw[e];exact mG _ i)) p}|_, .tup ts,_,k,⟨a,d,c,g,j,e,n,f⟩=>{a,d,c,g,k a (by rw[e];exact mD) _ (by intro l u z;cases z) j,e,n,Sps.keep d ts c (λb i=>k b (by rw[e];exact mG _ i)) f}
theorem Sps.keep{H f:Hp}:∀(vs:B3)(ts:B0)(D:B9),(∀b∈D,∀o,(∀i u,o≠HO.frz i u)->H b=Y o->f b=Y o)->Sps H vs ts D->Sps f vs ts D
 |_,[],_,_,h=>h|_,t::ts,_,k,⟨v,r,c,d,j,e,l,g,n⟩=>{v,r,c,d,j,e,Sp1.keep v t c (λb a=>k b (by rw[e];exact nQ _ a)) l,Sps.keep r ts d (λb a=>k b (by rw[e];exact mX _ a)) g,n}
end
mutual
theorem Sp1.there{H:Hp}{b:V1}:∀(v:V)(t:T)(D:B9),Sp1 H v t D->b∈D->∃o,H b=Y o
 |_, .non,_,h,c=>by rw[h.1] at c;cases c|_, .bl _,_,h,c=>by rw[h.1] at c;cases c|_, .int _,_,h,c=>by rw[h.1] at c;cases c|_, .str _,_,h,c=>by rw[h.1] at c;cases c|_, .lst ts,_,⟨a,i,d,j,f,e,n,g⟩,c=>by
  rw[e] at c;rcases mF.mp c with z | z
  ·exact{_,by rw[z];exact f}
  ·exact Sps.there i ts d g z
 |_, .dic l ts,_,⟨a,m,d,j,f,g,e,n,k⟩,c=>by
  rw[e] at c;rcases mF.mp c with z | z
  ·exact{_,by rw[z];exact f}
  ·exact Sps.there _ ts d k z
 |_, .tup ts,_,⟨a,i,d,j,f,e,n,g⟩,c=>by
  rw[e] at c;rcases mF.mp c with z | z
  ·exact{_,by rw[z];exact f}
  ·exact Sps.there i ts d g z
theorem Sps.there{H:Hp}{b:V1}:∀(vs:B3)(ts:B0)(D:B9),Sps H vs ts D->b∈D->∃o,H b=Y o
 |_,[],_,h,a=>by rw[h.2] at a;cases a|_,t::ts,_,⟨v,r,c,d,i,e,g,f,n⟩,a=>by
  rw[e] at a;rcases nB.mp a with z | z
  ·exact Sp1.there v t c g z
  ·exact Sps.there r ts d f z
end
theorem Sp1.same{H a:Hp}(g:Same H a){v:V}{t:T}{D:B9}(h:Sp1 H v t D):Sp1 a v t D:=Sp1.keep v t D (λb _ o _ e=>g b o e) h
theorem Sps.same{H a:Hp}(g:Same H a){v:B3}{t:B0}{D:B9}(h:Sps H v t D):Sps a v t D:=Sps.keep v t D (λb _ o _ e=>g b o e) h
theorem Sps.snoc{H:Hp}{v:V}{t:T}{a:B9}(h:Sp1 H v t a):∀{vs:B3}{ts:B0}{D:B9},Sps H vs ts D->(∀b∈D,b∉a)->Sps H (vs++ [v]) (ts++ [t]) (D++a)
 |_,[],D,e,_=>by
  obtain⟨m,k⟩:=e;subst m k;exact{v,[],a,[],O,by simp,h,⟨O,O⟩,λ_ _ z=>nomatch z}
 |_,q::ts,D,⟨g,r,o,i,l,e,p,j,n⟩,f=>by
  subst l e;refine{g,r++ [v],o,i++a,O,by simp,p,Sps.snoc h j λb d=>f b (mX _ d),λb d z=>?_};rcases nB.mp z with c | c
  ·exact n b d c
  ·exact f b (nQ _ d) c
theorem Sps.length{H:Hp}{vs:B3}{ts:B0}{D:B9}(h:Sps H vs ts D):vs...*=ts...*:=(Sps.rep vs ts D h)...*
def Keep(D:B9)(H a:Hp):Prop:=∀b o,b∉D->H b=Y o->a b=Y o
theorem Keep.refl{D:B9}{H:Hp}:Keep D H H:=λ_ _ _ h=>h
theorem Keep.trans{D:B9}{H H1 d:Hp}(a:Keep D H H1)(b:Keep D H1 d):Keep D H d:=λc o h e=>b c o h (a c o h e)
theorem Keep.mono{D c:B9}{H a:Hp}(h:Keep D H a)(s:∀b∈D,b∈c):Keep c H a:=λb o d e=>h b o (λz=>d (s b z)) e
theorem Keep.of{D:B9}{H a:Hp}(g:Same H a):Keep D H a:=λb o _ e=>g b o e
theorem Keep.put{D:B9}{H c:Hp}{a:V1}(o:HO)(h:Keep D H c)(f:a∈D):Keep D H (upd c a o):=λb u d e=>by
 rw[zM λz=>d (by rw[z];exact f)];exact h b u d e
theorem Keep.old{D:B9}{a H c:Hp}(h:Keep D H c)(g:Same a H)(d:∀b∈D,a b=none):Same a c:=λb o e=>h b o (λz=>by rw[d b z] at e;cases e) (g b o e)
theorem zW{H a:Hp}(g:Same H a){p:V1}(h:a p=none):H p=none:=by
 cases e:H p with|none=>rfl|some o=>rw[g _ _ e] at h;cases h
theorem Sps.thaw{H a:Hp}{vs:B3}{ts:B0}{D:B9}(h:Sps a vs ts D):Sps (L2.thaw H a) vs ts D:=Sps.keep vs ts D (λ_ _ _ n e=>vR e n) h
section
variable{prog:V3}{w:V4}{A:Around}{E:C9}{s:V2}
end
section
variable{X:Cx}
end
section
variable{X:Cx}{a:Expr}{ta:TE}
end
inductive U where
 |leaf (v:V)| lst (us:List U)| dic (ks:B8) (us:List U)
mutual
noncomputable def U.sz:U->Nat
 |.leaf _=>1|.lst a=>U.szs a+1|.dic _ a=>U.szs a+1
noncomputable def U.szs:List U->Nat
 |[]=>0|u::a=>U.sz u+U.szs a
end
mutual
noncomputable def U.dep:U->Nat
 |.leaf _=>0|.lst a=>U.deps a+1|.dic _ a=>U.deps a+1
noncomputable def U.deps:List U->Nat
 |[]=>0|u::a=>max (U.dep u) (U.deps a)
end
mutual
def U.ok:U->Prop
 |.leaf v=>∀x,v= .str x->x...*<=1000|.lst a=>U.oks a|.dic ks a=>ks.Nodup/\ks...*=a...*/\(∀x,Sum.inr x∈ks->x...*<=1000)/\U.oks a
def U.oks:List U->Prop
 |[]=>True|u::a=>U.ok u/\U.oks a
end
section
variable{X:Cx}{pins:C7}{σ:St}{H:Hp}{s:V2}
theorem zIf:OpR X (A6 .LtE) (λx y H Q=>∃i j,x= .str i/\y= .str j/\Q (.bl (!decide (ts j<ts i))) H):=by
 intro pins s σ H x y v u Q I c d h;ext yL h i j b a q;subst b a;obtain⟨t,rfl⟩:=c;obtain⟨e,rfl⟩:=d;exact PySem.P.le_str (yV I q O)
theorem zNy{T W:String}(i:T∈tyL)(l:W∈tyL):wX X (.builtin "isinstance") (λxs H Q=>∃x t p,xs= [x, .ref p]/\H p=Y (.tup [.ty T, .ty W])/\tyR H x=Y t/\Q (.bl (yC t T || yC t W)) H):=by
 intro pins s σ H xs v Q I r h;ext zU h x t p c g L;ext oA L m q;subst c
 cases x with
 |ref a=>
  let d:(match H a with | some (.frz _ (.dK _))=>some "dict" | _=>tyS H (.ref a))=Y t:=m
  split at d
  ·rename_i o kvs e
   cases d;refine yL (zEr r) λu w' f y k=>?_;subst f;cases (show w'=Value.ref p from k);cases (show u=Value.ref a from y);obtain⟨_,_,vs,_,pp⟩:=gW I.hok (.inr ⟨o,e⟩);ext zU pp J es ep h1 h2 _;obtain⟨_,D,E,A⟩:=(show ObjOk X.prog X.w H s.heap p (.tup [.ty T, .ty W]) from I.hok p _ g);refine yL (zEr E) λN B ee r1 r2=>?_;subst ee;cases (show N=Value.type T from r1);cases (show B=Value.type W from r2);obtain⟨o2,M,hc,n,hd⟩:=A;obtain⟨oc,od,j,aa⟩:=o2;cases (show oc=Value.type "tuple" from hc);cases (show j=Data.seq _ n from hd);refine PySem.W.kia_tup PySem.W.kitx_dict I.kIn ⟨J,h1,h2.1⟩ M (b:=yC "dict" T || yC "dict" W) ?_ (λz=>nomatch z) λtk=>{.bl _,H,I.tok _,O,q}
   let w:=zDi (K:=X.K) (t:="dict") (by simp[tyL]) i;let k2:=zDi (K:=X.K) (t:="dict") (by simp[tyL]) l;simp only[PySem.W.kitAny,w,k2];cases yC "dict" T<;>cases yC "dict" W<;>rfl
  ·exact jB i l pins s σ H _ v Q I r ⟨_,t,p,O,g,d,q⟩
 |_=>exact jB i l pins s σ H _ v Q I r ⟨_,t,p,O,g,m,q⟩
end
section
variable{X:Cx}{o:Expr}{to:TE}{name:Str}{apos cpos:Pos}{id:String}{r:V->List V->Hp->VK->Prop}
def tBMR(r:V->List V->Hp->VK->Prop)(to:TE):TE:=λσ H Q=>to σ H λx b=>(∃p a,x= .ref p/\Rd b p (.dK a))/\r x [] b Q
theorem yHr(z:PlainAttrs "dict")(f:Slot "dict" name id)(i:typeOf (.builtin id)=pure (.type "method_descriptor"))(u:MtR X id r)(w:PE X o to)
  (c:attributeBase o name X.env (eval o X.env)=eval o X.env:=by rfl) (d:(apos.endLine==cpos.line)=true:=by rfl):PE X (.Call (.Attribute o name apos) [] [] cpos) (tBMR r to):=by
 intro b s σ H Q I h;refine wpAny_Call_method0_late c d (thn (w b s σ H _ I h) λv n {x,q,k,A,⟨p,l,g,y⟩,m}=>?_);subst g;cases A;obtain⟨_,_,_,_,j,_,_,e,g,_⟩:=gW k.hok y;refine{"dict",id,z,f,i,⟨j,e,g.1⟩,(λa t=>by cases t;exact⟨j,e,g.2.1⟩),aH O (PySem.evalArgs_none (u b n σ q (.ref p) [] (.ref p) [] Q k O .nil m))}
end
structure Bl5(mg:C8):Prop extends Bl2 mg where
 abs:mg "abs" =none
 ord:mg "ord" =none
section
variable{X:Cx}{pins:C7}{σ:St}{H:Hp}{s:V2}{h':V5}
end
def Itz(K:A9)(l m:V1):It:=
  {λi H=>∃b a x y,SqL K H l b/\SqL K H m a/\b[i]? =Y x/\a[i]? =Y y,
   λi H v c=>∃p x y,H p=none/\v= .ref p/\(∀b,SqL K H l b->b[i]? =Y x)/\(∀a,SqL K H m a->a[i]? =Y y)/\c=upd H p (.tup [x,y]),
   λi H=>∃b a,SqL K H l b/\SqL K H m a/\(b...*<=i\/a...*<=i)}
def iZip(K:A9)(ta:TA):TI:=λσ H R=>ta σ H λc a=>∃l m d b,c= [.ref l, .ref m]/\SqL K a l d/\SqL K a m b/\R (Itz K l m) a
structure Bl6(mg:C8):Prop extends Bl2 mg where
 zip:mg "zip" =none
theorem zQv{X:Cx}{K:A9}(a:X.K=K):IxR X (zUu K):=by subst a;exact vP
section
variable{X:Cx}{a:Expr}{ta:TE}
def tIsT(ta:TE):TE:=λσ H Q=>ta σ H λx c=>∃b,x= .bl b/\Q (.bl b) c
end
end L2
namespace HT
open PySem PyProof.Rows
open PySem.SeqAt
open PySem.AutoSeq1 (wpAny_loadPart')
open PySem.MeetsSeq PySem.MeetsSeq2 PySem.MeetsSeq3
section
variable{prog:V3}{w:V4}{A:Around}{E:C9}{s:V2}
theorem getItem_tuple_whole{t b:V1}{items:Array V0}{l k:V0}{lo c:Option Int}{Q:C9}(a:IsTup s.heap t items)(i:s.heap.IsSliceOf b l k .none)(pl:IsPart l lo)(m:IsPart k c)
  (j:sIx items.size 0 lo=0/\sIx items.size items.size c=items.size) (h:Q (.ref t) s):V8 (S8 prog w) A (getItem (.ref t) (.ref b)) Q E s:=by
 refine xC (id i) λos f g o=>?_;let e:s.TypeIs (.ref b) "slice":=⟨os,f,g⟩;unfold getItem
 try with_reducible refine wpAny_holding ?_
 first | refine wpAny_bind (wpAny_pure ?_)| skip
 refine wpAny_bind (wpAny_sequenceKey a.typeIs ∎ ?_);refine wpAny_bind (wpAny_callSpecial?_slot (name:=A8 "__getitem__") a.typeIs PyProof.Rows.slot_tuple_getitem
  (wpAny_call_entry PyProof.Rows.slot_tuple_getitem a.typeIs entry_tuple_getitem ?_ (args_tuple_getitem _ _)))
 show V8 _ _ (Builtin.Tuple.tupleItemsOf (.ref t)>>=_) _ _ s;refine wpAny_bind (tupleItemsOf_ a ?_);refine wpAny_bind (wpAny_typeOf e ?_);rw[if_pos ∎];refine wpAny_bind (gT i pl m ?_);show V8 _ _ (if(((sIx items.size 0 lo:Nat):Int)==0 && (1:Int)==1 && (sIx items.size items.size c - sIx items.size 0 lo)==items.size)=true then _ else _) _ _ s;rw[if_pos (by rw[j.1,j.2];simp)];refine wpAny_bind ?_;let n:∀(d:Bool->V2->Prop),d true s->V8 (S8 prog w) A.in1 (Builtin.Tuple.tupleIsExact (.ref t)) d E s:=λd p=>by
  unfold Builtin.Tuple.tupleIsExact;exact wpAny_bind (wpAny_typeOf a.typeIs (wpAny_pure p))
 refine n _ ?_;rw[if_pos O];refine wpAny_bind (wpAny_rule ?_);exact wpAny_pure {_,O,wpAny_pure h}
end
end HT
namespace L2
open PySem PySem.Spec PyProof.Rows
def yDn(K:A9):V->Option Int->Option Int->Hp->VK->Prop:=λx lo c H Q=>∃a b,x= .ref a/\SqT K H a b/\
 ((HT.sIx b...* 0 lo=0/\HT.sIx b...* b...* c=b...*/\Q (.ref a) H)\/(¬(HT.sIx b...* 0 lo=0/\HT.sIx b...* b...* c=b...*)/\∀p,H p=none->Q (.ref p) (upd H p (.tup (uQ b lo c)))))
theorem yBz{X:Cx}:SlR X (yDn X.K):=by
 intro c s σ H x v p o lo n u Q I g k f j h;ext yL h a i e m h;subst e;rcases h with⟨w,y,q⟩|⟨t,q⟩
 ·cases g
  refine xC (I.tuple m) λd r l z=>?_;let b:d.toArray.size=i...*:=by rw[mY];exact r.length.symm
  refine{"tuple",_,PyProof.Rows.slot_tuple_getitem.lookup,l.typeIs, ?_};exact HT.getItem_tuple_whole l k f j (by rw[b];exact⟨w,y⟩) {.ref a,H,I,O,q}
 ·exact yHu c s σ H _ v p o lo n u Q I g k f j ⟨a,i,O,m,t,q⟩
end L2
namespace L2
open PySem PySem.Spec PyProof.Rows PySem.Builtin PySem.Builtin.Str
noncomputable def rpl(c:Nat)(z:List Nat)(d:Nat):List Nat:=if d=c then z else[d]
section
variable{X:Cx}
end
end L2
namespace L2
open PySem PySem.Spec PyProof.Rows
section
variable{X:Cx}
def rEqS:R2:=λx y H Q=>∃z,y= .str z/\((zUn x y=true/\Q (.bl (decide (x= .str z))) H)\/∃a b,x= .ref a/\H a=Y (.lst b)/\Q (.bl false) H)
theorem yAn(o:X.A.units+1<cLine):OpR X (A6 .Eq) rEqS:=by
 intro d s σ H x y v u Q I g j h;obtain⟨z,rfl,h⟩:=h;rcases h with⟨m,q⟩|⟨a,w,rfl,l,q⟩
 ·exact xN d s σ H x _ v u Q I g j ⟨m,q⟩
 ·cases g
  obtain⟨t,rfl⟩:=j;refine yL (I.lst l) λc n r e p=>?_;let i:s.TypeIs (.ref a) "list":=⟨_,e,O⟩;refine SeqAt.rc_eq_decline_or (k:=false) i (typeIs_str _ _ _) ∎ (by kernel_rfl) F.slot_list_eq F.slot_str_eq ?_ ?_ ?_ (.inr ∅) {.bl false,H,I,O,q}
  ·intro f b
   exact sQ F.slot_list_eq i F.entry_list_eq (F.args_list_eq_2 _ _) (SeqAt.list_eq_declines_str a c.toArray n none #[] z t) ⟨e,b⟩
  ·intro f b
   exact sQ F.slot_str_eq (typeIs_str _ _ _) F.entry_str_eq (F.args_str_eq_2 _ _) (SeqAt.str_eq_declines_seq_str z t a _ c.toArray n none #[]) ⟨e,b⟩
  ·intro f b
   exact mT b
def rInS(K:A9):R2:=λx y H Q=>∃(p:V1)(b:C1),y= .ref p/\H p=Y (.tup (b.map V.str))/\((jF x=true/\Q (.bl (inV x (b.map V.str))) H)\/∃a c,x= .ref a/\H a=Y (.lst c)/\Q (.bl false) H)
theorem zVy(ys:C1):(ys.map V.str).all jF=true:=by
 rw[cI,rF];intro _ _
 rfl
theorem yBo(A:X.A.units+1<cLine):OpR X (A6 .In) (rInS X.K):=by
 intro d s σ H x y v u Q I n m h;ext yL h p c j k h;subst j;rcases h with⟨hf,q⟩|⟨a,xs,rfl,N,q⟩
 ·exact zSt d s σ H x _ v u Q I n m {p,_,O, .inr (SqT.of k),hf,zVy c,q}
 ·cases n
  cases m;refine xC (I.tuple (SqT.of (K:=X.K) k)) λb r l L=>?_;refine xC (I.list (SqL.of (K:=X.K) N)) λJ rv g M=>?_;refine SeqAt.in_tupleAt (λ_=>false) l (λw o=>?_) {.bl false,H,I, ?_,q}
  ·obtain⟨z,t,rfl⟩:∃z t,w= .str z t:=by
    let f:w∈b:=by simpa using o
    clear o l L k
    induction b generalizing c with
    |nil=>cases f|cons i b B=>
     cases c with
     |nil=>cases r|cons y c=>
      cases r with
      |cons r1 E=>
       rcases mF.mp f with e | e
       ·obtain⟨t,D⟩:=r1
        exact{y,t,e.trans D}
       ·exact B c E e
   exact SeqAt.EqAt.str_list z t g.isList (by show X.A.units+1<cLine;exact A)
  ·show Value.bool (b.toArray.any λ_=>false)=Value.bool false
   congr 1
   simp
theorem zAt:wX X (.builtin "len") (λxs H Q=>∃(a:V1)(n:Nat),xs= [.ref a]/\((∃ys,SqL X.K H a ys/\n=ys...*)\/∃kvs,H a=Y (.dK kvs)/\n=kvs...*)/\Q (.int n) H):=by
 intro b s σ H xs d Q I r h;ext yL h a n c h q;subst c;rcases h with⟨ys,e,rfl⟩|⟨kvs,f,rfl⟩
 ·exact yE b s σ H _ d Q I r ⟨a,O,ys,e,q⟩
 ·exact zDl b s σ H _ d Q I r ⟨a,kvs,O,f,q⟩
end
mutual
def T.fewm(m:Nat):T->Prop
 |.dic ks a=>ks.Nodup/\ks...*<=m/\ks...*=a...*/\i3 m a|.lst a=>a...*<=100000/\i3 m a|.tup _=>False|.non=>True|.bl _=>True|.int _=>True|.str _=>True
def i3(m:Nat):List T->Prop
 |[]=>True|t::a=>T.fewm m t/\i3 m a
end
theorem c8{m:Nat}{t:T}:∀{us:B0},i3 m us->t∈us->T.fewm m t
 |[],_,h=>nomatch h|u::us,h,a=>(mF.mp a).elim (λe=>e▸h.1) (c8 h.2)
theorem d7{m:Nat}{us:B0}(h:∀t∈us,T.fewm m t):i3 m us:=by
 induction us with|nil=>exact mK|cons t us b=>exact{h t mD,b λu a=>h u (mG _ a)}
mutual
theorem b8{m b:Nat}(l:m<=b):∀t:T,T.fewm m t->T.fewm b t
 |.lst a,h=>{h.1,i7 l a h.2}|.dic ks a,h=>{h.1,nW h.2.1 l,h.2.2.1,i7 l a h.2.2.2}|.tup _,h=>h.elim|.non,_=>mK|.bl _,_=>mK|.int _,_=>mK|.str _,_=>mK
theorem i7{m a:Nat}(l:m<=a):∀us:List T,i3 m us->i3 a us
 |[],_=>mK|t::us,h=>{b8 l t h.1,i7 l us h.2}
end
mutual
theorem c6{m:Nat}(l:m<=63):∀t:T,T.fewm m t->T.few t
 |.lst a,h=>{h.1,j8 l a h.2}|.dic ks a,h=>{h.1,by let:=h.2.1;lia,h.2.2.1,j8 l a h.2.2.2}|.tup _,h=>h.elim|.non,_=>mK|.bl _,_=>mK|.int _,_=>mK|.str _,_=>mK
theorem j8{m:Nat}(l:m<=63):∀us:List T,i3 m us->i4 us
 |[],_=>mK|t::us,h=>{c6 l t h.1,j8 l us h.2}
end
noncomputable def zAg(f:T->Int->T×Int):List Nat->List T->Int->List T×Int
 |[],a,c=>(a,c)|i::is,a,c=>zAg f is (a.set i (f (a.getD i .non) c).1) (f (a.getD i .non) c).2
noncomputable def ixs(ks:C6):List Nat:=(wT ks).map λk=>ks.idxOf k
noncomputable def yCr(r:List T×Int):T×Int:=(.lst (r.1++ [.int r.2]),r.2+1)
noncomputable def mrkU(r:List T×Int):T×Int:=(.tup r.1,r.2+1)
theorem zGf{f:T->Int->T×Int}{A B:T->Prop}(m:∀t c,A t->B (f t c).1):∀(is:List Nat)(us:B0)(c:Int),is.Nodup->(∀i∈is,i<us...*)->(∀i t,us[i]? =Y t->(i∈is->A t)/\(i∉is->B t))->(∀t∈(zAg f is us c).1,B t)/\(zAg f is us c).1...*=us...*
 |[],us,c,_,_,h=>{λt o=>by
   obtain⟨i,d⟩:=aP.mp o;exact(h i t d).2 (λz=>nomatch z),O}
 |i::is,us,c,g,l,h=>by
  rw[nX] at g;let d:=l i mD;let e:us.getD i .non=us[i]:=by simp[sJ,d]
  let k:=zGf m is (us.set i (f (us.getD i .non) c).1) (f (us.getD i .non) c).2 g.2 (λj b=>by rw[aD];exact l j (mG _ b)) λj t b=>by
   by_cases a:j=i
   ·subst a
    refine{λz=>absurd z g.1,λ_=>?_};rw[sH d] at b;rw[<-mU b,e];exact m _ _ ((h j us[j] (mQ d)).1 mD)
   ·rw[rZ (Ne.symm a)] at b
    obtain⟨n,p⟩:=h j t b;exact{λz=>n (mG _ z),λz=>p λy=>(mF.mp y).elim a z}
  rw[aD] at k;exact k
theorem zFi{ks:C6}{k:List Nat}(h:k∈ks):ks[ks.idxOf k]? =Y k:=by
 let a:=tH h;rw[mQ a];exact congrArg some (List.getElem_idxOf a)
theorem yGd{ks:C6}(b:ks.Nodup){i:Nat}{k:List Nat}(h:ks[i]? =Y k):ks.idxOf k=i:=by
 obtain⟨a,e⟩:=mJ.mp h;rw[<-e];exact b.idxOf_getElem i a
theorem zIw{ks:C6}(i:ks.Nodup):(ixs ks).Nodup:=by
 unfold ixs;let d:=wU ks;let h:(wT ks).Nodup:=d.nodup_iff.mpr i;unfold List.Nodup;rw[List.pairwise_map];refine List.Pairwise.imp_of_mem ?_ h;intro a b g j c z;let e:=zFi (d.mem_iff.mp g);let f:=zFi (d.mem_iff.mp j);rw[z] at e;rw[e] at f;exact c (mU f)
theorem yGp{ks:C6}{i:Nat}(h:i∈ixs ks):i<ks...*:=by
 obtain⟨k,a,rfl⟩:=nV.mp h;exact tH ((wU ks).mem_iff.mp a)
theorem yCi{ks:C6}(a:ks.Nodup){i:Nat}(h:i<ks...*):i∈ixs ks:=by
 refine nV.mpr {ks[i],(wU ks).mem_iff.mpr (sK h), ?_};exact yGd a (mQ h)
theorem uI{ks:C6}{us:B0}{n:List Nat}{t:T}(h:ks...*=us...*):(yY (ks,us) n t).1...*=(yY (ks,us) n t).2...*/\(yY (ks,us) n t).2...*<=us...*+1:=by
 unfold yY;split
 ·exact{by show ks...*=(yR n t ks us)...*;rw[gZ];exact h,by show(yR n t ks us)...*<=_;rw[gZ];exact pP _}
 ·exact{by show(ks++ [n])...*=(us++ [t])...*;rw[mM,mM,h];rfl,by show(us++ [t])...*<=_;rw[mM];exact mE _}
theorem gD{ks:C6}{us:B0}{n:List Nat}{t:T}(h:ks.Nodup):(yY (ks,us) n t).1.Nodup:=by
 unfold yY;split
 ·exact h
 ·rename_i hn
  show(ks++ [n]).Nodup;rw[bQ];exact{h,by simp,λa c b d z=>hn (by rw[<-mH.mp d,<-z];exact c)}
theorem zCn{ks:C6}{us:B0}{n:List Nat}{t u:T}(h:u∈(yY (ks,us) n t).2):u∈us\/u=t:=by
 unfold yY at h;split at h
 ·exact zBn _ _ _ _ _ h
 ·rcases nB.mp h with z | z
  ·exact .inl z
  ·exact .inr (mH.mp z)
theorem l9{n:Nat}{us:B0}(b:0<n)(h:∀t∈us,T.dep t<n):T.deps us<n:=by
 let:=d8 (n:=n - 1) (ts:=us) λt a=>by let:=h t a;lia
 lia
theorem Sps.at{H:Hp}:∀{us:B0}{vs:B3}{D:B9}{i:Nat}{t:T},Sps H vs us D->us[i]? =Y t->∃v f,vs[i]? =Y v/\Sp1 H v t f/\(∀b∈f,b∈D)/\
  ∀g t' c,Sp1 g v t' c->(∀b∈c,b∈f)->Keep f H g->∃j,Sps g vs (us.set i t') j/\∀b∈j,b∈D
 |[],_,_,i,t,_,h=>by simp at h|u::us,_,_,0,t,⟨v,r,f,p,rfl,rfl,m,n,k⟩,h=>by
  let e:u=t:=by simpa using h
  subst e;refine{v,f,O,m,λb a=>nQ _ a,λg t' c q d l=>{c++p,{v,r,c,p,O,O,q, ?_,λb a=>k b (d b a)},λb a=>?_}}
  ·exact Sps.keep _ _ _ (λb a o _ e=>l b o (λz=>k b z a) e) n
  ·exact(nB.mp a).elim (λz=>nQ _ (d b z)) (λz=>mX _ z)
 |u::us,_,_,i+1,t,⟨v,r,f,p,rfl,rfl,m,n,k⟩,h=>by
  refine zR (Sps.at (i:=i) n (by simpa using h)) λw B E g2 x A=>?_;refine{w,B,by simpa using E,g2,λb a=>mX _ (x b a),λg t' c q d l=>?_};obtain⟨j,y,s⟩:=A g t' c q d l;refine{f++j,{v,r,f,j,O,O, ?_,y,λb a z=>k b a (s b z)},λb a=>(nB.mp a).elim (λz=>nQ _ z) (λz=>mX _ (s b z))};exact Sp1.keep _ _ _ (λb a o _ e=>l b o (λz=>k b a (x b z)) e) m
theorem Sps.replT{H:Hp}{n:List Nat}{c:Int}:∀{ps:D0}{ks:C6}{us:B0}{D:B9},ps.map (·.1)=ks.map nK->Sps H (ps.map (·.2)) us D->
  ∃a,Sps H ((ps.map λkv=>if kv.1=nK n then(kv.1,V.int c) else kv).map (·.2)) (yR n (.int c) ks us) a/\∀b∈a,b∈D
 |[],[],us,D,_,h=>by
  let e:yR n (.int c) [] us=us:=by unfold yR;rfl
  rw[e];exact{D,h,λ_ h=>h}
 |[],_::_,_,_,e,_=>by simp at e|_::_,[],_,_,e,_=>by simp at e|p::ps,k::ks,[],_,_,h=>by
  let m:(p::ps).map (·.2)= []:=h.1;cases m
 |p::ps,k::ks,u::us,_,e,⟨y,r,i,E,o,rfl,s,v,x⟩=>by
  let w:p.2::ps.map (·.2)=y::r:=o;injection w with t q;subst t q;let A:p.1::ps.map (·.1)=nK k::ks.map nK:=e;injection A with j B;obtain⟨a,l,g⟩:=Sps.replT (n:=n) (c:=c) B v
  by_cases f:k=n
  ·refine{a,{.int c,_,[],a, ?_,O, ?_,l,λ_ z=>nomatch z},λb d=>mX _ (g b d)}
   ·rw[nG,mP (by rw[j,f]),nG]
   ·rw[mP f];exact⟨O,O⟩
  ·refine{i++a,{p.2,_,i,a, ?_,O, ?_,l,λb d z=>x b d (g b z)},λb d=>(nB.mp d).elim (λz=>nQ _ z) (λz=>mX _ (g b z))}
   ·rw[nG,mI (by rw[j];exact λz=>f (zAx z)),nG]
   ·rw[mI f];exact s
theorem zUz{ps:D0}{ks:C6}{n:List Nat}(d:ps.map (·.1)=ks.map nK):(ps.any λkv=>decide (kv.1=nK n))=true↔n∈ks:=by
 rw[bZ];constructor
 ·rintro⟨kv,b,e⟩
  let:nK n∈ps.map (·.1):=nV.mpr {kv,b,sS e};rw[d] at this;obtain⟨k,c,a⟩:=nV.mp this;rw[<-zAx a];exact c
 ·intro h
  let:nK n∈ps.map (·.1):=by rw[d];exact nV.mpr ⟨n,h,O⟩
  obtain⟨kv,c,a⟩:=nV.mp this;exact{kv,c,nF a}
theorem Sps.put{H:Hp}{ps:D0}{ks:C6}{us:B0}{D:B9}{n:List Nat}{c:Int}(d:ps.map (·.1)=ks.map nK)(h:Sps H (ps.map (·.2)) us D):
  (qG ps (nK n) (.int c)).map (·.1)=(yY (ks,us) n (.int c)).1.map nK/\∃i,Sps H ((qG ps (nK n) (.int c)).map (·.2)) (yY (ks,us) n (.int c)).2 i/\∀b∈i,b∈D:=by
 refine{(zDd (p:=(ks,us)) (n:=n) (t:=.int c) d (Sps.rep _ _ _ h) (show Rep H (.int c) (.int c) from O)).1, ?_}
 by_cases a:n∈ks
 ·let e:qG ps (nK n) (.int c)=ps.map λf=>if f.1=nK n then(f.1,V.int c) else f:=mP ((zUz d).mpr a)
  let g:yY (ks,us) n (.int c)=(ks,yR n (.int c) ks us):=mP a;rw[e,g];exact Sps.replT d h
 ·let e:qG ps (nK n) (.int c)=ps++ [(nK n, .int c)]:=mI λz=>a ((zUz d).mp z)
  let g:yY (ks,us) n (.int c)=(ks++ [n],us++ [.int c]):=mI a;rw[e,g,nI];refine{D++ [],Sps.snoc (show Sp1 H (.int c) (.int c) [] from⟨O,O⟩) h (λ_ _ z=>nomatch z),λb j=>by simpa using j}
def zAk(H a:Hp):Hp:=λb=>match H b with|none=>a b|some _=>none
theorem wZ{H a:Hp}{b:V1}(h:H b=none):zAk H a b=a b:=by unfold zAk;rw[h]
theorem zDg{H a:Hp}{b:V1}{o:HO}(e:zAk H a b=Y o):H b=none:=by
 unfold zAk at e
 cases h:H b with|none=>rfl|some _=>rw[h] at e;cases e
theorem zSy{H c a:Hp}(g:Same c a):Same (zAk H c) (zAk H a):=λb o e=>by
 let h:=zDg e;rw[wZ h] at e⊢;exact g _ _ e
theorem Sp1.new{H a:Hp}{v:V}{t:T}{D:B9}(h:Sp1 a v t D)(c:∀b∈D,H b=none):Rep (zAk H a) v t:=
 Sp1.rep _ _ _ (Sp1.keep _ _ _ (λb d o _ e=>by rw[wZ (c b d)];exact e) h)
end L2
namespace L2
open PySem PySem.W PySem.Spec PyProof.Rows
structure Dd(P:V3)(w:V4)(K:PySem.W.Frag)(mg:C8)(base:V5)(k:Nat)(x:Str)(ps:C1)(dvs:B3)(sp:Sp):Prop where
 ex:∃(f:V1)(fd:V7)(ds:B7),FnOk P w K mg base CX0 k f fd ps sp/\Binds K fd ps ds/\Vals dvs ds/\PySem.W.keepIn K (.ref f)=true/\mg x=Y (.ref f)
section
variable{X:Cx}{k j:Nat}{x:Str}{ps:C1}{dvs:B3}{sp:Sp}{e:Expr}{es:C5}{t:TA}{p pos:Pos}
end
structure FunD(K:PySem.W.Frag)(x qual:Str)(st:V6)(f:V1)(fd:V7):Prop where
 ex:∃(oc:V0)(od:Option V1)(dV kV doc pm:V0)(an:Option V1)(cdv ct:V0)(osl:Array (Option V0)),
  fd=PySem.W.fnOf x qual (wH st) (xQ st) (yB st) dV kV doc pm an cdv ct/\K.lookup f=Y {oc,od, .func fd,osl}/\PySem.W.codeIn K cdv qual=true
end L2
namespace L2
open PySem PySem.Spec PyProof.Rows
section
variable{X:Cx}
end
end L2
namespace L2
open PySem PySem.Builtin PySem.Builtin.Str
abbrev Tk:=Nat×List Nat
noncomputable def dbl(x:List Nat):List Nat:=x.flatMap (rpl 39 [39,39])
noncomputable def shw(t:Tk):List Nat:=if t.1=2 then 39::(dbl t.2++ [39]) else t.2
noncomputable def stk(a b:Tk):Bool:=if b.2.take 1= [45]/\b.1=0 then false else if a.1=1 then decide (b.1=1)|| decide (b.1=0) else decide (a.1=b.1)&& !decide (a.1=3)
noncomputable def lay:List (Nat×Tk)->List Nat
 |[]=>[]|x::r=>List.replicate x.1 32++(shw x.2++lay r)
end L2
namespace L2
open PySem PySem.Spec PyProof.Rows
section
variable{P:V3}{w:V4}{A:Around}{s:V2}{E:C9}
end
section
variable{X:Cx}
end
end L2
namespace L2
open PySem PySem.Spec PyProof.Rows PySem.W
structure Kp(fs xs:B9)(h h':V5):Prop where
 keep:∀b o,h.get? b=Y o->b∉fs->b∉xs->h'.get? b=Y o
 slot:∀b o,h.get? b=Y o->b∈fs->b∉xs->∃sl,h'.get? b=some {o with slots:=sl}
theorem Kp.refl{a xs:B9}{h:V5}:Kp a xs h h:=⟨λ_ _ e _ _=>e,λ_ o e _ _=>⟨o.slots,e⟩⟩
theorem Kp.trans{f xs ys zs:B9}{h i g:V5}(a:Kp f xs h i)(b:Kp f ys i g)(hz:∀c,c∈xs\/(c∈ys/\h.get? c≠none)->c∈zs):Kp f zs h g where
 keep c o e hf hx:=b.keep c o (a.keep c o e hf λz=>hx (hz c (.inl z))) hf λz=>hx (hz c (.inr ⟨z,by rw[e];exact λz=>nomatch z⟩))
 slot c o e hf hx:=by
  obtain⟨l,j⟩:=a.slot c o e hf λz=>hx (hz c (.inl z));obtain⟨d,k⟩:=b.slot c _ j hf λz=>hx (hz c (.inr {z,by rw[e];exact λz=>nomatch z}));exact⟨d,k⟩
theorem zHf{base h h':V5}{f xs:B9}(k:Kp f xs h h'):∀{l:List P0},(∀b∈frs l,b∈f/\b∉xs)->h.FunFrames base l->h'.FunFrames base l
 |[],_,_=>by rw[Heap.FunFrames.eq_1];exact mK|env::l,c,g=>by
  rw[Heap.FunFrames.eq_2] at g⊢;obtain⟨a,⟨L,o,d,m,i,j⟩,r⟩:=g;let e:L∈frs (env::l):=by unfold frs;rw[pW,d];exact mD
  obtain⟨q,n⟩:=k.slot L o i (c L e).1 (c L e).2;exact⟨a,⟨L,_,d,m,n,j⟩,zHf k (λb p=>c b (by unfold frs;rw[pW,d];exact mG _ p)) r⟩
def Fl(φ:V0->Prop)(h:V5)(x T:V1)(C:V0)(d:Option V1)(g f:V0):Prop:=∃(b:Obj)(a:Array V0)(c:Obj)(ts:Array V0),h.get? x=Y b/\b.cls=C/\b.dict=d/\b.data= .fields a/\a[0]? =Y g/\a[1]? =Y (.ref T)/\T≠x/\h.get? T=Y c/\c.data= .fields ts/\ts[3]? =Y f/\∃e,a[2]? =Y e/\φ e
theorem yDt{o:Obj}{vs:Array V0}(h:o.data= .fields vs)(f:Array V0->Array V0):Obj.mapFields f o={o with data:=.fields (f vs)}:=by
 obtain⟨c,d,b,a⟩:=o;cases h
 rfl
section
variable{M:Model}{A:Around}{E:C9}{s:V2}{env:P0}{outer:List P0}{x T L:V1}{C a0 fl:V0}{d:Option V1}{base:V5}{Q:Unit->V2->Prop}{φ:V0->Prop}
theorem uM{h:V5}{a:V1}{o:Obj}{vs:Array V0}(e:h.get? a=Y o)(b:o.data= .fields vs)(i:Nat)(v:V0):(h.update a (Obj.mapFields λxs=>xs.setIfInBounds i v)).get? a=some {o with data:=.fields (vs.setIfInBounds i v)}:=by
 rw[<-yDt b (λxs=>xs.setIfInBounds i v)];exact tJ _ e (by rw[yDt b];rfl)
theorem qE(F:Fl φ s.heap x T C d a0 fl)(q:∀h',Fl φ h' x T C d a0 .none->Kp [] [T] s.heap h'->Q () {s with heap:=h'}):V8 M A (setFlight (.ref x) none) Q E s:=by
 ext yN F p t y ts m f;ext zS f u r j v i f;ext vB f k l n h c;unfold setFlight;refine mC (rN m j i ?_);rw[mP (by rfl)];let a:3<ts.size:=by
  obtain⟨z,_⟩:=pH.mp h;exact z
 refine sN l n a ?_;let w:=uM l n 3 .none;refine q _ {p,t,_,_,(mV _ _ k).trans m,u,r,j,v,i,k,w,O, ?_,c} ⟨λb o e _ g=>(mV _ _ λz=>g (by rw[z];exact mD)).trans e,λb o e g=>nomatch g⟩;show(ts.setIfInBounds 3 Value.none)[3]? =Y Value.none;rw[sV a]
theorem zOj{j:Obj}{vs:Array V0}{head:V0}{b:Bool}(m:A.frames=Y (env::outer))(n:s.heap.FunFrames base (env::outer))(hL:env.frame=Y L)(I:s.heap.get? x=Y j)(N:x∉frs (env::outer))(B:j.data= .fields vs)(e5:vs[0]? =Y a0)(D:1<vs.size)(r:∃l,vs[2]? =Y l/\φ l)
  (q:∀h' T',Fl φ h' x T' j.cls j.dict a0 (rawInt L)->Kp (frs (env::outer)) [x] s.heap h'->s.heap.get? T'=none->Q () {s with heap:=h'}):
  V8 M A (do
   let a <-PySem.frameOf env;let pl <-entryPlaceOf L b;let b <-EntryCells.newEntry head a .none (rawInt L) .none pl
   setField (.ref x) 1 b) Q E s:=by
 refine mC (wpAny_frameOf_fun m n hL λi so=>?_);refine mC (wpAny_entryPlaceOf λpl v=>?_);refine mC ?_;unfold EntryCells.newEntry newFields;let u:(([head,Value.ref L,Value.none,rawInt L,Value.none]++if pl.isEmpty=true then List.replicate 6 Value.none else pl).toArray).size<=V9+2:=by
  let:(if pl.isEmpty=true then List.replicate 6 Value.none else pl)...*<=6:=by
   rcases v with rfl |⟨a,b,c,d,c9,aa,_,rfl⟩<;>simp
  rw[mY,mM,mS];simp only[mW,rB]
  lia
 refine bP ?_ u;obtain⟨z1,w,H⟩:=so;let p:i.get? x=Y j:=by rw[w x N];exact I
 let t:x<i.objs.size:=mZ p;refine sN (mL _ p) B D ?_;let f:i.objs.size≠x:=rC t;let k:=uM (mL (o:={cls:=.type "traceback",data:=.fields ([head,Value.ref L,Value.none,rawInt L,Value.none]++if pl.isEmpty=true then List.replicate 6 Value.none else pl).toArray}) (h:=i) p) B 1 (.ref i.objs.size);refine q _ i.objs.size {_,_,_,_,k,O,O,O, ?_, ?_,f,(mV _ _ (Ne.symm f)).trans (nM _ O),O, ?_,r.imp λl z=>{(pU ∎).trans z.1,z.2}} ⟨λb o e y g=>?_,λb o e y g=>?_⟩ ?_
 ·rw[pU ∎];exact e5
 ·rw[sV D]
 ·simp
 ·refine(mV _ _ λz=>g (by rw[z];exact mD)).trans (mL _ ?_)
  rw[w b y];exact e
 ·obtain⟨sl,J⟩:=H b o e
  exact{sl,(mV _ _ λz=>g (by rw[z];exact mD)).trans (mL _ J)}
 ·rw[z1]
  exact rK (mE _)
theorem zLr{a:Obj}{vs:Array V0}(e:A.frames=Y (env::outer))(b:s.heap.FunFrames base (env::outer))(f:env.frame=Y L)(g:s.heap.get? x=Y a)(l:x∉frs (env::outer))(i:a.data= .fields vs)(j:vs[0]? =Y a0)(h:vs[1]? =some .none)(c:∃cx,vs[2]? =Y cx/\φ cx)
  (q:∀h' T',Fl φ h' x T' a.cls a.dict a0 (rawInt L)->Kp (frs (env::outer)) [x] s.heap h'->s.heap.get? T'=none->Q () {s with heap:=h'}):V8 M A (noteFrame (.ref x) env) Q E s:=by
 let k:1<vs.size:=by
  obtain⟨z,_⟩:=pH.mp h;exact z
 unfold noteFrame;rw[f];refine mC (rN g i h ?_);exact zOj e b f g l i j k c q
theorem zKy(p:A.frames=Y (env::outer))(w:s.heap.FunFrames base (env::outer))(H:env.frame=Y L)(hx:x∉frs (env::outer))(hT:T∉frs (env::outer))(F:Fl φ s.heap x T C d a0 .none)
  (q:∀g a,Fl φ g x a C d a0 (rawInt L)->Kp (frs (env::outer)) [x,T] s.heap g->s.heap.get? a=none->Q () {s with heap:=g}):V8 M A (noteFrame (.ref x) env) Q E s:=by
 ext yN F N vs oT ts B r;ext zS r e2 e3 J e5 I r;ext vB r e7 t v j y;let hs:1<vs.size:=by
  obtain⟨z,_⟩:=pH.mp I;exact z
 let u:3<ts.size:=by
  obtain⟨z,_⟩:=pH.mp j;exact z
 unfold noteFrame;rw[H];refine mC (rN B J I ?_);rw[mP (by rfl)];refine mC (rN t v j ?_);rw[mI (by intro z;cases (eq_of_beq z))];refine mC (sN t v u ?_);let l:Kp (frs (env::outer)) [T] s.heap (s.heap.update T (Obj.mapFields λx=>x.setIfInBounds 3 Value.none)):=⟨λb o e _ i=>(mV _ _ λz=>i (by rw[z];exact mD)).trans e,λb o e i m=>⟨o.slots,(mV _ _ λz=>m (by rw[z];exact mD)).trans e⟩⟩;let h:(s.heap.update T (Obj.mapFields λx=>x.setIfInBounds 3 Value.none)).FunFrames base (env::outer):=zHf l (λb i=>{i,λz=>hT (by rw[<-mH.mp z];exact i)}) w;let x2:(s.heap.update T (Obj.mapFields λx=>x.setIfInBounds 3 Value.none)).get? x=Y N:=(mV _ _ e7).trans B;let D:=zOj (E:=E) (M:=M) (A:=A) (head:=.ref T) (b:=true) (s:={s with heap:=s.heap.update T (Obj.mapFields λx=>x.setIfInBounds 3 Value.none)}) (Q:=Q) p h H x2 hx J e5 hs y;rw[e2,e3] at D;refine D λg a f k n=>q g a f (l.trans k λc hc=>?_) ?_
 ·rcases hc with z | z
  ·rw[mH.mp z];simp
  ·rw[mH.mp z.1];simp
 ·cases e:s.heap.get? a with
  |none=>rfl|some o=>
   by_cases z:a=T
   ·subst z
    rw[uM t v] at n;cases n
   ·let:=l.keep
    rw[(mV s.heap _ (Ne.symm z)).trans e] at n;cases n
end
section
variable{X:Cx}{pins:C7}{σ:St}{H H':Hp}{s s':V2}{φ:V0->Prop}
theorem i8{P:V3}{w:V4}{h:V5}{a:V1}{o:HO}(x:ObjOk P w H h a o):∃b,h.get? a=Y b:=by
 induction o with
 |lst j=>obtain⟨_,g,n,_,e⟩:=x;exact⟨_,e⟩
 |tup j=>obtain⟨_,g,_,b,e,_⟩:=x;exact⟨_,e⟩
 |dK c=>obtain⟨_,_,p,_,b,d,i,e,_⟩:=x;exact⟨_,e⟩
 |dT c=>obtain⟨_,_,j,_,b,d,i,e,_⟩:=x;exact⟨_,e⟩
 |set S n=>obtain⟨b,d,i,t,e,_⟩:=x;exact⟨_,e⟩
 |ins C r k=>obtain⟨_,_,_,e,_⟩:=x;exact⟨_,e⟩
 |own y=>exact x|xd k=>obtain⟨z,⟨m,d,i,e,_⟩,_⟩:=x;exact⟨_,e⟩
 |rng lo l=>obtain⟨t,u,v,e⟩:=x;exact⟨_,e⟩
 |frz b u q=>exact⟨_,x.1⟩|tbl A=>exact{_,(show h.get? a=Y _ from x)}|met f y=>exact{_,(show h.get? a=Y _ from x)}|ext φ=>exact x.2.1
theorem gL{B h:V5}:∀{l:List P0},h.FunFrames B l->∀b∈frs l,∃o,h.get? b=Y o/\∀vs:Array V0,o.data≠ .fields vs
 |[],_,b,a=>nomatch a|env::l,c,b,a=>by
  rw[Heap.FunFrames.eq_2] at c;obtain⟨_,⟨L,o,d,_,e,f⟩,r⟩:=c;unfold frs at a;rw[pW,d] at a;rcases mF.mp a with z | z
  ·rw[z];exact⟨o,e,f⟩
  ·exact gL r b z
def CXE(φ:V0->Prop)(P:V3)(w:V4):CXT:=λa H s E e s'=>∃(x T:V1)(C:V0)(d:Option V1)(b:V0)(H':Hp),e= .ref x/\s'.os=s.os/\AllBare s'.gens/\Un (frs a) [] H H' s.heap s'.heap/\HOk P w H' s'.heap/\
 s.heap.get? x=none/\s.heap.get? T=none/\H' x=none/\H' T=none/\Fl φ s'.heap x T C d b .none/\E C d H'
theorem zBq{d xs:B9}{p H':Hp}{f h h':V5}(u:Un d [] p H' f h)(k:Kp d xs h h')(g:∀b∈xs,f.get? b=none):Un d [] p H' f h' where
 keep b o e n a hx:=k.keep b o (u.keep b o e n a hx) a λz=>by rw[g b z] at e;cases e
 slot b o e n a hx:=by
  obtain⟨r,q⟩:=u.slot b o e n a hx;obtain⟨c,i⟩:=k.slot b _ q a λz=>by rw[g b z] at e;cases e
  exact⟨c,i⟩
 free b o e n hx:=u.free b o e n hx
 there b o e hx:=by
  obtain⟨m,l⟩:=u.there b o e hx;let j:b∉xs:=λz=>by rw[g b z] at e;cases e
  by_cases a:b∈d
  ·obtain⟨c,i⟩:=k.slot b _ l a j
   exact⟨_,i⟩
  ·exact{m,k.keep b m l a j}
 tups:=u.tups
 frzs:=u.frzs
 tbls:=u.tbls
theorem kU{P:V3}{w:V4}{H:Hp}{d xs:B9}{h h':V5}(x:HOk P w H h)(k:Kp d xs h h')(g:∀b∈d,H b=none)(i:∀b∈xs,H b=none):HOk P w H h':=λa o e=>
 (x a o e).stay (λb u f q=>by
  let c:H b≠none:=by
   rcases f with z | z
   ·rw[z,e];exact λz=>nomatch z
   ·rw[z];exact λz=>nomatch z
  exact k.keep b u q (λz=>c (g b z)) λz=>c (i b z)) (λ_ q=>q) λ_ _ q=>q
theorem vG{a fs' xs:B9}{h h':V5}(k:Kp a xs h h')(c:∀b,b∈a->b∈fs'\/b∈xs):Kp fs' xs h h' where
 keep b o e hf hx:=k.keep b o e (λz=>(c b z).elim hf hx) hx
 slot b o e hf hx:=by
  by_cases z:b∈a
  ·exact k.slot b o e z hx
  ·exact⟨o.slots,k.keep b o e z hx⟩
theorem yAf{E:XK}{e:V0}{EE:C9}(I:Inv X pins σ H s)(y:X.stack=X.env::X.outer)(hf:X.env.frame=Y X.env.locals)(hex:X.ex= [])(h:CXE φ X.prog X.w X.stack H s E e s'):
  V8 (S8 X.prog X.w) X.A (leaving X.env e) (λ_ s3=>CXE φ X.prog X.w X.outer X.H₀ X.s₀ E e s3) EE s':=by
 ext yA h x T C d a0 p;ext wG p H' J os w un p;ext zS p L D hT m N p;ext oA p fl q;subst J;let k:Inv X pins σ H' s':=I.call' os un L w (λb z=>absurd z (by simp));let l:∀b,s.heap.get? b=none->X.s₀.heap.get? b=none:=λb f=>by
  cases e:X.s₀.heap.get? b with
  |none=>rfl|some o=>
   obtain⟨o',t⟩:=I.base.there b o e (by rw[hex];exact λz=>nomatch z);rw[f] at t;cases t
 let A:frs X.stack=X.env.locals::X.fs:=by
  rw[y];unfold frs;rw[pW,hf];rfl
 let v:X.s₀.heap.get? X.env.locals=none:=rK I.ok.above;let n:=I.ok.frames;rw[y] at n;let u:∀b,s.heap.get? b=none->b∉frs X.stack:=λb f z=>by
  obtain⟨o,e,_⟩:=gL I.stack b z;rw[f] at e;cases e
 let nx:=u x D;let nT:=u T hT;let st:=k.stack;rw[y] at nx nT st;unfold leaving;refine mC (zKy n st hf nx nT fl λh1 g f1 Q n1=>?_);refine qE f1 λB f2 k2=>?_;rw[<-y] at Q;let a:=k.base;rw[hex] at a;let i:H' g=none:=by
  cases e:H' g with
  |none=>rfl|some o=>
   obtain⟨ob,r⟩:=i8 (k.hok g o e);rw[n1] at r;cases r
 let j:X.s₀.heap.get? g=none:=by
  cases e:X.s₀.heap.get? g with
  |none=>rfl|some o=>
   obtain⟨o',t⟩:=a.there g o e (λz=>nomatch z);rw[n1] at t;cases t
 let k3:Kp (frs X.stack) [x,T,g] s'.heap B:=Q.trans (vG k2 λb f=>nomatch f) λc M=>by
  rcases M with z | z
  ·rcases mF.mp z with z | z
   ·rw[z];simp
   ·rw[mH.mp z];simp
  ·rw[mH.mp z.1];simp
 let k4:Kp X.fs [x,T,g,X.env.locals] s'.heap B:=by
  let k5:Kp (frs X.stack) [x,T,g,X.env.locals] s'.heap B:=k3.trans Kp.refl (ys:=[]) λc M=>by
   rcases M with z | z
   ·rcases mF.mp z with z | z
    ·rw[z];simp
    ·rcases mF.mp z with z | z
     ·rw[z];simp
     ·rw[mH.mp z];simp
   ·exact nomatch z.1
  refine vG k5 λb f=>?_;rw[A] at f;rcases mF.mp f with z | z
  ·rw[z];exact .inr (by simp)
  ·exact .inl z
 refine{x,g,C,d,a0,H',O,k.os,k.bare,zBq a k4 λb f=>?_,kU k.hok k3 k.stkFree λb f=>?_,l x D,j,m,i,f2,q}
 ·rcases mF.mp f with z | z
  ·rw[z];exact l x D
  ·rcases mF.mp z with z | z
   ·rw[z];exact l T hT
   ·rcases mF.mp z with z | z
    ·rw[z];exact j
    ·rw[mH.mp z];exact v
 ·rcases mF.mp f with z | z
  ·rw[z];exact m
  ·rcases mF.mp z with z | z
   ·rw[z];exact N
   ·rw[mH.mp z];exact i
end
end L2
namespace L2
open PySem PySem.Spec PyProof.Rows PySem.W
def XObj(nm:Str)(C N:V1)(bm:B7)(o:Obj):Prop:=∃(q:Str)(e:B7)(a:Bool)(h:C1)(sub:B7)(c:Bool)(b:Option Bool)(d:Option V1)(f g k j i:Option V0),o=excClassObj nm q C N e bm a h sub c b d f g k j i "ValueError.__new__"
section
variable{M:Model}{A:Around}{E:C9}{s:V2}{env:P0}
theorem zFo{nm:Str}{C N:V1}{bm:B7}{x:Sem V0}{Q:Flow->V2->Prop}(u:bm.contains (.type "BaseException")=true)(w:A.handled=none)
  (h:V8 M A x (λv i=>∃(e:V1)(a l:Obj)(j:Array V0),v= .ref e/\i.heap.get? C=Y l/\XObj nm C N bm l/\i.heap.get? e=Y a/\a.cls= .ref C/\a.data= .fields j/\j[1]? =some .none/\E (.ref e) i) E s):
  V8 M A (raiseStmt env ↥x none) Q E s:=by
 unfold raiseStmt;refine mC (thn h λv i z_=>?_);obtain⟨e,a,l,j,r,m,y,g,b,n,t,q⟩:=z_;subst r;ext yA y q' B o I sub k;ext yA k J p dd D H k;ext zVj k k2 k3 L d;subst d;let f:∀c:ClassData,a.data≠ .cls c:=λc z=>by rw[n] at z;cases z
 refine mC (mT ?_);refine mC (pL ?_);unfold excFromValue isExcClass;refine mC (mC (aW g f ?_));rw[mI nD];refine mT ?_;rw[mI nD];unfold PySem.isInstance;refine mC (mC (rQ g ?_));rw[b];refine cO m ?_;rw[show(Value.ref C::bm).contains (Value.type "BaseException")=true by
  rw[sO,u,tU],mP O]
 refine mT ?_;refine mC (aW g f ?_);rw[mI nD];unfold raisedInstance;refine mC (mC (rQ g ?_));rw[b];refine mC (rQ m ?_);rw[mP (by rfl)];refine mT ?_;refine mC ?_;unfold setFlight;refine mC (rN g n t ?_);rw[mI (by intro z;cases z)];refine mT ?_;exact wpAny_raiseNew_none w q
end
end L2
namespace L2
open PySem PySem.Spec PyProof.Rows PySem.W
abbrev veMro:List V0:=[.type "ValueError", .type "Exception", .type "BaseException", .type "object"]
abbrev kR(C t:V1):Obj:={cls:=.ref C,data:=.fields #[.ref t, .none, .none, .none, .bool false, .none]}
theorem zUq(a:Args):(Code.builtin "type.__call__" a).quiet=true:=by
 unfold Code.quiet
 first | rfl | kernel_rfl | decide+kernel
theorem zUf(a:Args):(Code.builtin "ValueError.__new__" a).quiet=true:=by
 unfold Code.quiet
 first | rfl | kernel_rfl | decide+kernel
section
variable{prog:V3}{w:V4}{A:Around}{K:Frag}{C fI N:V1}{nm:Str}{bm:B7}{o:Obj}
theorem zVt{R:Result->V2->Prop}{rest:B7}{h:V5}{g:Array GenState}{d:Drawn}{t:Nat}{os:OsState}(p:K.In h)(lk:K.lookup C=Y o)(I:XObj nm C N bm o)(H:tailIn K veMro bm=true)(y:findIn K (.ref C) "__init__" =Y ↥(.ref fI))(E:typeIn K (.ref fI)=Y (.type "function"))(hz:rest...*<=100)
  (D:codeAny (S8 prog w) (A.under (.builtin "type.__call__" {.ref C::rest,[]})) (.call (.ref fI) {.ref (h.objs.size+1)::rest,[]}) (InitBack (h.objs.size+1) R) {(h.push {cls:=.type "tuple",data:=.seq rest.toArray}).push (kR C h.objs.size),g,d,t,os}):
  codeAny (S8 prog w) A (.call (.ref C) {rest,[]}) R ⟨h,g,d,t,os⟩:=by
 let a:h.get? C=Y o:=p _ _ lk;ext yA I q' J s Q sub l;ext yA l ab B dd L M l;ext zVj l k2 k3 k5 f;subst f;let q:=tail_of_in p H;refine codeAny_of_tree ?_;show V8 _ _ (callAny (.ref C) {rest,[]}) _ _ _;unfold callAny;refine mC (wpAny_load a ?_);show V8 _ _ (callAny.viaDunder (.ref C) {rest,[]}) _ _ _;unfold callAny.viaDunder specialOf;refine mC (mC (rQ a ?_));rw[tc_lookup];refine mT ?_;dsimp only;rw[tc_bind];refine mC (mT ?_);dsimp only;refine mC ?_;unfold callAny.plainCallee;refine mT ?_;rw[mP (by rfl)];refine mT {O, ?_};refine codeAny_call_builtin_at (zUq _) F.entry_type_call (wpAny_check_type_call_sub a ?_);show V8 _ _ (Builtin.«type.__call__» {.ref C::rest,[]}) _ _ _;unfold Builtin.«type.__call__»;dsimp only;rw[mI (by intro z;cases (eq_of_beq z))];refine mC (wpAny_mroOf_exc a ?_);rw[mI (by intro z;cases z)];refine mC (wpAny_madeBy_exc a ?_);dsimp only;refine mC (mT ?_);refine mC (pL (aB ?_));refine codeAny_call_builtin_code (zUf _) (wpAny_check_new_subT cJ q a ?_);refine codeAny_exc_new_subT cJ q a ?_ (by rw[mS];lia);let j:∀b k,h.get? b=Y k->((h.push {cls:=.type "tuple",data:=.seq rest.toArray}).push (kR C h.objs.size)).get? b=Y k:=λb k e=>mL _ (mL _ e);let m:(h.push {cls:=.type "tuple",data:=.seq rest.toArray}).objs.size=h.objs.size+1:=sZ ..;let u:((h.push {cls:=.type "tuple",data:=.seq rest.toArray}).push (kR C h.objs.size)).get? (h.objs.size+1)=Y (kR C h.objs.size):=by
  rw[<-m];exact nM _ O
 let i:K.In ((h.push {cls:=.type "tuple",data:=.seq rest.toArray}).push (kR C h.objs.size)):=p.keeps j;let n:=j _ _ a;unfold PySem.isInstance;refine mC (mC (rQ u ?_));refine cO n ?_;rw[show(Value.ref C::bm).contains (Value.ref C)=true by simp,mI ∎];refine mC (pL ?_);unfold callSpecial? specialOf;refine mC (mC (rQ u ?_));refine Looks.here (looks_findIn i y) ?_;dsimp only;refine pL (mC (Looks.here (bind_fn i _ E) ?_));dsimp only;refine mC (aB (rT D λr s' c=>?_))
 cases r with
 |error e=>exact c|ok x=>
  cases x with
  |ret v=>
   obtain⟨rfl,c⟩:=c;refine mT ?_;dsimp only;rw[mI (by intro z;cases z)];exact mT c
  |next=>exact c.elim|brk=>exact c.elim|cont=>exact c.elim
end
end L2
namespace L2
open PySem PySem.Spec PyProof.Rows PySem.W PySem.Builtin PySem.Builtin.ObjectAttr
section
variable{prog:V3}{w:V4}{A:Around}{K:Frag}{C B x:V1}{cd:ClassData}{ox:Obj}{name:Str}{v:V0}
theorem osa_x{R:Result->V2->Prop}{s:V2}{p:Tok}(L:K.In s.heap)(hc:clsIn K C=Y cd)(hm:cd.mro= .ref C:: .ref B::veMro)(hd:cd.hasDict=true)(n:s.heap.get? x=Y ox)(j:ox.cls= .ref C)(u:∀c,ox.data≠ .cls c)(M:ox.dict=none)
  (hn:findIn K (.ref C) name=Y none)
  (q:∀l t',l.get? x=some {ox with dict:=Y s⁻¹}->l.Ns1 s⁻¹ (λy=>if y=name then Y v else none)->(∀b o,b≠x->s.heap.get? b=Y o->l.get? b=Y o)->R (.ok (.ret .none)) {s with heap:=l,toks:=t'}):
  codeAny (S8 prog w) A (.call (.builtin "object.__setattr__") {[.ref x, .str name p,v],[]}) R s:=by
 let m:=PySem.F.store_ValueError;obtain⟨h,g,dr,t,os⟩:=s;dsimp only at L n q;let tp:Looks (S8 prog w) h (typeOf (.ref x)) (.ref C):=by
  intro A Q E s k q;refine rQ (k _ _ n) ?_;rw[j];exact q
 let sub:Looks (S8 prog w) h (isInstance (.ref x) (.type "object")) true:=tp.andThen (looks_mroIn L (by
  unfold mroIn;rw[hc,Option.bind_some,mI (by rw[hm];exact nD),hm,sO,sO,show veMro.contains (.type "object")=true by decide,tU,tU]))
 refine aT m.slot.plain m.entry (@check_slot (S8 prog w) _ _ ⟨h,g,dr,t,os⟩ "object.__setattr__" "object" "__setattr__" (.ref x) [.str name p,v] [] _ m.kind m.split sub (m.args (.ref x) (.str name p) v) ?_);let ab:Looks (S8 prog w) h (mroOf (.ref C)) cd.mro:=(looks_clsIn L hc).andThen .now;rw[osa_eq,refuse_eq];refine mC (mC (Looks.here tp (mC (Looks.here ab ?_))));rw[hm,refuseLoop_ref,refuseLoop_ref,m.passes];refine mT (mC (Looks.here tp (mC (Looks.here (looks_findIn L hn) (mC ?_)))));refine mT ?_;dsimp only;unfold storeInOwnDict;refine mC (mT ?_);rw[mI (by intro z;cases (eq_of_beq z))];refine mC ?_;show V8 _ _ (instanceDict x true) _ _ _;unfold instanceDict;refine mC (wpAny_loadPart n ?_);obtain⟨oc,ai,I,al⟩:=ox;dsimp only at j M u;subst j M;dsimp only;refine mC (Looks.here (looks_clsIn L hc) ?_);rw[hd];rw[mI (show¬((!true)=true) from nD),mI (by simp[typeHasDict])];let J:V8 (S8 prog w) A.in1 (do
     let d <-alloc {cls:=Value.type "dict",data:=Data.dict #[]}
     update x λo=>{cls:=o.cls,dict:=Y d,data:=o.data,slots:=o.slots}
     dictMade (Value.ref C) x d)
   (λa i=>
   V8 (S8 prog w) A.in1
    (match a with
    | some d=>storeInDict d (Value.str name p) name v|none=>noDictFor (Value.ref x) (Value.ref C) name (none:Option V0).isSome)
    (λae i=>
     match ae with
     | Fin.done f=>R (Except.ok f) i|Fin.again c'=>c'.quiet=true/\codeAny (S8 prog w) A c' R i)
    (λe i=>R (Except.error e) i) i)
  (λe i=>R (Except.error e) i) {heap:=h,gens:=g,drawn:=dr,toks:=t,os:=os}:=by
  let H:(h.push {cls:=.type "dict",data:=.dict #[]}).get? x=Y _:=mL _ n;let r:x≠h.objs.size:=nP (mZ n);refine mC (wpAny_alloc' ?_);refine mC (wpAny_update' H ?_);refine mT ?_;let ag:((h.push {cls:=.type "dict",data:=.dict #[]}).update x λo=>{cls:=o.cls,dict:=Y h.objs.size,data:=o.data,slots:=o.slots}).get? h.objs.size=some {cls:=.type "dict",data:=.dict #[]}:=
   (Heap.get?_update_ne _ _ _ _ r.symm).trans (Heap.get?_push_at O O)
  let N:((h.push {cls:=.type "dict",data:=.dict #[]}).update x λo=>{cls:=o.cls,dict:=Y h.objs.size,data:=o.data,slots:=o.slots}).Ns h.objs.size (λ_=>none):=
   {_,#[],_,ag,O,λe he=>absurd he (by simp),λ_=>O}
  show V8 _ _ (storeInDict h.objs.size (.str name p) name v) _ _ _;unfold storeInDict newKeyGuard;refine mC (mT (mC (wpAny_nsSet1 (Heap.Ns1.of_empty N) λl D hs=>?_)));refine zU (D.count (Within.cons name v Within.nil)) λoD aj ak aa af ah=>?_;refine mC (wpAny_lookBehind aa (by rw[af];exact pastItsLine_dict (nW ah (by rw[mW,rB,mS];lia))) ?_);refine mT ?_;let ac:=(Heap.get?_some_iff.mp n).2;refine q l _ ((hs.2 x r).trans (tJ _ H ?_)) D λb o hb e=>?_
  ·cases I<;>first | rfl | exact ac
  ·exact(hs.2 b (nP (mZ e))).trans ((Heap.get?_update_ne _ _ _ _ hb).trans (mL _ e))
 cases I with|cls c=>exact absurd O (u c)|_=>exact J
theorem yEc{E:C9}{Q:Unit->V2->Prop}{s:V2}(k:K.In s.heap)(z:clsIn K C=Y cd)(t:cd.mro= .ref C:: .ref B::veMro)(r:cd.hasDict=true)(l:s.heap.get? x=Y ox)(e:ox.cls= .ref C)(f:∀c,ox.data≠ .cls c)(g:ox.dict=none)
  (u:findIn K (.ref C) "__setattr__" =Y ↥(.builtin "object.__setattr__")) (p:findIn K (.ref C) name=Y none)
  (q:∀d j,d.get? x=some {ox with dict:=Y s⁻¹}->d.Ns1 s⁻¹ (λy=>if y=name then Y v else none)->(∀b o,b≠x->s.heap.get? b=Y o->d.get? b=Y o)->Q () {s with heap:=d,toks:=j}):
  V8 (S8 prog w) A (setAttr (.ref x) name v) Q E s:=by
 let i:notCls ox=true:=by
  unfold notCls;obtain⟨D,n,h,m⟩:=ox
  cases h with|cls c=>exact absurd O (f c)|_=>rfl
 refine set_plain (od:=none) k {l,e,i,by rw[g];trivial} u ?_;exact osa_x (s:={s with toks:=s.toks+1}) k z t r l e f g p λd j a b c=>q d j a b c
end
end L2
namespace L2
open PySem PySem.Spec PyProof.Rows PySem.W
structure zEb(K:Frag)(nm:Str)(C B fI:V1):Prop where
 obj:∃(N:V1)(o:Obj),K.lookup C=Y o/\XObj nm C N (.ref B::veMro) o
 cd:∃cd,clsIn K C=Y cd/\cd.mro= .ref C:: .ref B::veMro/\cd.hasDict=true
 tl:tailIn K veMro (.ref B::veMro)=true
 init:findIn K (.ref C) "__init__" =Y ↥(.ref fI)
 fn:typeIn K (.ref fI)=Y (.type "function")
 set:findIn K (.ref C) "__setattr__" =Y ↥(.builtin "object.__setattr__")
 at_:findIn K (.ref C) "at" =Y none
 kp:keepIn K (.ref C)=true
structure zSa(K:Frag)(B:V1):Prop where
 sp:specialIn K (.ref B) "__getattribute__" =Y ↥(.builtin "type.__getattribute__")
 rd:readsIn K B (.type "type")=true
 init:findCls K (.ref B) (.type "type") "__init__" =Y (.val (.builtin "ValueError.__init__"))
noncomputable def exO(x C:V1)(d:Option V1):HO:=.ext λh=>∃a:Array V0,h.get? x=some {cls:=.ref C,dict:=d,data:=.fields a}/\a.size=6/\a[1]? =some .none/\a[2]? =some .none
theorem zEg{P:V3}{w:V4}{H:Hp}{h:V5}{x C:V1}{d:Option V1}{vs:Array V0}(e:h.get? x=some {cls:=.ref C,dict:=d,data:=.fields vs})(c:vs.size=6)(f:vs[1]? =some .none)(g:vs[2]? =some .none):ObjOk P w H h x (exO x C d):=
 {⟨vs,e,c,f,g⟩,⟨_,e⟩,λ_ _ ⟨vs,e,a,b⟩ k=>{vs,k _ e,a,b}}
theorem yGi{H:Hp}{a:V1}{o:HO}(h:H a=Y o):upd H a o=H:=by
 funext b
 unfold upd;split
 ·rename_i e;rw[e,h]
 ·rfl
theorem Un.also{f g:B9}{H H1:Hp}{h h':V5}{a:V1}{o:HO}(u:Un f g H H1 h h')(i:h.objs.size<=a)(c:H a=none):Un f g H (upd H1 a o) h h' where
 keep:=u.keep
 slot:=u.slot
 free:=λb e q n k=>by rw[zM (nP (nN (mZ q) i))];exact u.free b e q n k
 there:=u.there
 tups:=λb d q=>by rw[zM (yM q c)];exact u.tups b d q
 frzs:=λb e d q=>by rw[zM (yM q c)];exact u.frzs b e d q
 tbls:=λb j q=>by rw[zM (yM q c)];exact u.tbls b j q
theorem HOk.also{P:V3}{w:V4}{H:Hp}{h:V5}{a:V1}{o:HO}(x:HOk P w H h)(f:H a=none)(d:ObjOk P w (upd H a o) h a o):HOk P w (upd H a o) h:=λb u e=>by
 by_cases g:b=a
 ·subst g;rw[zC] at e;cases e;exact d
 ·rw[zM g] at e
  exact(x b u e).stay (λc v _ q=>q) (λc q=>by rw[zM (yM q f)];exact q) λc i q=>by rw[zM (yM q f)];exact q
section
variable{X:Cx}{pins:C7}{σ:St}{H:Hp}{s:V2}{x C B fI:V1}{nm:Str}{d:Option V1}
theorem zBt(I:Inv X pins σ H s)(h:H x=Y (exO x C d)):∃vs:Array V0,s.heap.get? x=some {cls:=.ref C,dict:=d,data:=.fields vs}/\vs.size=6/\vs[1]? =some .none/\vs[2]? =some .none:=(I.hok x _ h).1
theorem zTx{Q:C9}{E:C9}{u:V0}(c:zEb X.K nm C B fI)(I:Inv X pins σ H s)(n:H x=Y (exO x C d))(q:∀s',Inv X pins σ H s'->Q .none s'):
  V8 (S8 X.prog X.w) X.A (call (.builtin "ValueError.__init__") [.ref x,u]) Q E s:=by
 refine yGh (c.obj) λN o lk q' bs k=>?_;ext yA k A sn sub ab L k;ext yA k dd k0 k1 k2 k3 k;ext oE k k5 l;subst l;refine jD (zBt I n) λw v h6 M h2=>?_;let y:=tail_of_in I.kIn c.tl;let z:=I.kIn _ _ lk;let J:=I;obtain⟨h,g,dr,t,os⟩:=s;dsimp only at v z y;let F:=cJ;obtain⟨r,D⟩:∃r,w[0]? =Y r:={_,pH.mpr {∅,O}};refine aB (aT F.init.plain F.initEntry (wpAny_check_init_subT F y z v O ?_));unfold Builtin.«BaseException.__init__»;dsimp only;rw[mI (by simp)];let m:0<w.size:=by lia
 let i:=mL (h:=h) {cls:=.type "tuple",data:=.seq [u].toArray} v;let j:=uM i O 0 (.ref h.objs.size);let p:Inv X pins σ H {(h.push {cls:=.type "tuple",data:=.seq [u].toArray}).update x (Obj.mapFields λxs=>xs.setIfInBounds 0 (.ref h.objs.size)),g,dr,t,os}:=by
  rw[<-yGi n];refine Inv.write (t':=t) J (e:=x) (by rw[n];exact mK) (.inl O) (λb ob hb e=>(mV _ _ (Ne.symm hb)).trans (mL _ e)) ⟨_,j⟩ (zEg j ?_ ?_ ?_)
  ·rw[sR];exact h6
  ·rw[pU ∎];exact M
  ·rw[pU ∎];exact h2
 refine mC (wpAny_newTuple ?_ (by rw[mS];simp));unfold Builtin.BaseException.bexcPut;refine mC (mC (rN i O D (mC (sN i O m ?_))));let f:=q _ p
 cases r with|ref a=>exact cS (mT f)|_=>exact mT (mT f)
end
end L2
namespace L2
open PySem PySem.Spec PyProof.Rows PySem.W
section
variable{X:Cx}{C B fI:V1}{nm:Str}
def yHv(C:V1)(t:TA):TE:=λσ H Q=>t σ H λb a=>∃x v,b= [.ref x,v]/\a x=Y (exO x C none)/\Q .non a
theorem zMp{j:Str}{p g d:Pos}{e:Expr}{i:C5}{t:TA}{pl:Sem Bool}(c:zEb X.K nm C B fI)(b:zSa X.K B)(L:Gl X j)(D:X.mg j=Y (.ref B))(E:PA X (e::i) t)(m:(j==("__debug__" :Str))=false:=by decide)
  (A:A5 (e::i) X.env=(false,eval e X.env)::A5 i X.env:=by rfl) (n:(S5 d (A5 i X.env)).any (·.1)=false:=by rfl)
  (ht:eval (.Call (.Attribute (.Name j p) "__init__" g) (e::i) [] d) X.env=(do
   let ov <-eval (.Name j p) X.env
   S3 g.atName
   let (f,first) <-holding [ov] (getMethod ov "__init__" pl)
   callWith d f first (S5 d (A5 (e::i) X.env)) (backToKw d (keywordEach [] X.env))):=by rfl):
  PE X (.Call (.Attribute (.Name j p) "__init__" g) (e::i) [] d) (yHv C t):=by
 intro k s σ H Q I h;refine methodCall_KW (pl:=pl) (qS I L D ?_ m) ht;refine method_cls I.kIn b.sp (cls_value I.kIn b.rd b.init (by decide+kernel) ?_);let z:=I.tok (s.toks+1);refine cF (thn (E d k _ σ H _ z h) λus s2 z_=>?_) A n;obtain⟨vs,N,J,r,x,v,y,u,q⟩:=z_;subst y;obtain⟨l,o,rfl,M⟩:∃l o,us= [l,o]/\RelV (.ref x) l:=by
  cases r with
  |cons a r=>
   cases r with|cons b r=>cases r;exact⟨_,_,O,a⟩
 obtain rfl:l=Value.ref x:=M;exact zTx c J u λs' w=>{.non,N,w,O,q}
def yDz(C:V1)(f:Str)(b ta:TE):TS:=λD σ H=>b σ H λv c=>ta σ c λo a=>∃x,o= .ref x/\a x=Y (exO x C none)/\∀d,a d=none->D.nx σ (upd (upd a x (exO x C ↥d)) d (.xd [(f,v)]))
theorem yAy{o b:Expr}{g k:Pos}{w ta:TE}(c:zEb X.K nm C B fI)(J:PE X b w)(ha:PE X o ta)(hs:S4 b ↥(.Attribute o "at" g) k.line X.env=pure false:=by rfl):PS X (.Assign [.Attribute o "at" g] b k) (yDz C "at" w ta):=by
 intro i s σ H D I h;refine cD (thn (J i s σ H _ I h) λu L ⟨y,H1,I1,ry,q⟩=>thn (ha i L σ H1 _ I1 q) λov j z_=>?_) hs;obtain⟨z,m,l,rx,x,ez,r,q2⟩:=z_;subst ez;obtain rfl:ov=Value.ref x:=rx;refine jD (zBt l r) λvs he h6 M h2=>?_;refine xC (c.cd) λcd hc hm hd=>?_;refine yEc l.kIn hc hm hd he O (λ_ z=>by cases z) O c.set c.at_ λv N t g2 A=>?_;let d:m j⁻¹=none:=l.fresh;let p:j⁻¹≠x:=λz=>by rw[z,r] at d;cases d
 let n:Mut (m x):=by rw[r];exact mK
 let Q:Un X.fs [] m (upd m x (exO x C ↥j⁻¹)) j.heap v:=Un.write (e:=x) n (.inl O) A ⟨_,t⟩;let E:HOk X.prog X.w (upd m x (exO x C ↥j⁻¹)) v:=l.hok.write (e:=x) n (.inl O) A ⟨_,t⟩ (zEg t h6 M h2);refine{σ,_,l.un (t':=N) (Q.also (a:=j⁻¹) (o:=.xd [("at",y)]) (mE _) d) (E.also (by rw[zM p];exact d) ?_),q2 _ d};refine{_,g2,λf=>?_};show RelO (List.lookup f [("at",y)]) _;rw[rX,List.lookup_nil]
 by_cases z:f= "at"
 ·subst z
  rw[mP O,dI];exact ry
 ·rw[mI z,show(f==("at" :Str))=false from rV.mpr z]
  trivial
def zFa(C:V1):Sp:=λb H Q _=>∃x a v,b= [.ref x,a,v]/\H x=Y (exO x C none)/\∀d,H d=none->Q .non (upd (upd H x (exO x C ↥d)) d (.xd [("at",v)]))
end
section
variable{X:Cx}{pins:C7}{σ:St}{H:Hp}{s:V2}{x C:V1}{d:Option V1}{φ:V0->Prop}
def drp(H:Hp)(x:V1):Hp:=λb=>if b=x then none else H b
theorem qL{b:V1}(h:b≠x):drp H x b=H b:=mI h
theorem zAl:drp H x x=none:=mP O
theorem zIc{E:XK}{EE:C9}(I:Inv X pins σ H s)(B:X.stack=X.env::X.outer)(hf:X.env.frame=Y X.env.locals)(hex:X.ex= [])(M:H x=Y (exO x C d))(j:X.s₀.heap.get? x=none)(hφ:φ .none)(q:E (.ref C) d (drp H x)):
  V8 (S8 X.prog X.w) X.A (leaving X.env (.ref x)) (λ_ s3=>CXE φ X.prog X.w X.outer X.H₀ X.s₀ E (.ref x) s3) EE s:=by
 refine jD (zBt I M) λvs he h6 h1 l=>?_;obtain⟨N,h0⟩:∃N,vs[0]? =Y N:={_,pH.mpr {∅,O}};let D:frs X.stack=X.env.locals::X.fs:=by
  rw[B];unfold frs;rw[pW,hf];rfl
 let v:X.s₀.heap.get? X.env.locals=none:=rK I.ok.above;let r:=I.ok.frames;rw[B] at r;let nx:x∉frs X.stack:=λz=>by
  let:=I.stkFree x z;rw[M] at this;cases this
 let st:=I.stack;let p:=nx;rw[B] at p st;unfold leaving;refine mC (zLr (φ:=φ) r st hf he p O h0 h1 ⟨_,l,hφ⟩ λh1 f f1 k1 n1=>?_);refine qE f1 λl f2 k2=>?_;rw[<-B] at k1;let a:=I.base;rw[hex] at a;let h:H f=none:=by
  cases e:H f with
  |none=>rfl|some o=>
   obtain⟨w,t⟩:=i8 (I.hok f o e);rw[n1] at t;cases t
 let i:X.s₀.heap.get? f=none:=by
  cases e:X.s₀.heap.get? f with
  |none=>rfl|some o=>
   obtain⟨o',e'⟩:=a.there f o e (λz=>nomatch z);rw[n1] at e';cases e'
 let k3:Kp (frs X.stack) [x,f] s.heap l:=k1.trans (vG k2 λb g=>nomatch g) λc Q=>by
  rcases Q with z | z
  ·rw[mH.mp z];simp
  ·rw[mH.mp z.1];simp
 let k4:Kp X.fs [x,f,X.env.locals] s.heap l:=by
  let k5:Kp (frs X.stack) [x,f,X.env.locals] s.heap l:=k3.trans Kp.refl (ys:=[]) λc Q=>by
   rcases Q with z | z
   ·rcases mF.mp z with z | z
    ·rw[z];simp
    ·rw[mH.mp z];simp
   ·exact nomatch z.1
  refine vG k5 λb g=>?_;rw[D] at g;rcases mF.mp g with z | z
  ·rw[z];exact .inr (by simp)
  ·exact .inl z
 let k:Un X.fs [] X.H₀ H X.s₀.heap l:=zBq a k4 λb g=>by
  rcases mF.mp g with z | z
  ·rw[z];exact j
  ·rcases mF.mp z with z | z
   ·rw[z];exact i
   ·rw[mH.mp z];exact v
 let u:∀b o,H b=Y o->(∀φ,o≠ .ext φ)->b≠x:=λb o e n z=>by
  subst z;rw[M] at e;exact n _ (mU e).symm
 let u2:Un X.fs [] X.H₀ (drp H x) X.s₀.heap l:={k.keep,k.slot,λb w e n hx=>by
   rw[qL (λz=>by subst z;rw[j] at e;cases e)];exact k.free b w e n hx,k.there,
  λb A e=>by let z:=k.tups b A e;rw[qL (u b _ z λ_ y=>nomatch y)];exact z,
  λb w A e=>by let z:=k.frzs b w A e;rw[qL (u b _ z λ_ y=>nomatch y)];exact z,
  λb ps e=>by obtain⟨m,z⟩:=k.tbls b ps e;exact{m,by rw[qL (u b _ z λ_ y=>nomatch y)];exact z}}
 let L:HOk X.prog X.w (drp H x) s.heap:=λb o e=>by
  by_cases z:b=x
  ·subst z;rw[zAl] at e;cases e
  ·rw[qL z] at e
   exact(I.hok b o e).stay (λ_ _ _ q=>q) (λc q=>by rw[qL (u c _ q λ_ y=>nomatch y)];exact q) λc A q=>by rw[qL (u c _ q λ_ y=>nomatch y)];exact q
 let J:∀b,H b=none->drp H x b=none:=λb e=>by
  unfold drp;split
  ·rfl
  ·exact e
 refine{x,f, .ref C,d,N,drp H x,O,I.os,I.bare,u2,kU L k3 (λb g=>J b (I.stkFree b g)) λb g=>?_,j,i,zAl,J _ h,f2,q};rcases mF.mp g with z | z
 ·rw[z];exact zAl
 ·rw[mH.mp z];exact J _ h
end
end L2
namespace L2
open PySem PySem.Spec PyProof.Rows PySem.W
theorem zUy{H:Hp}{x d:V1}{o u:HO}(a:H x=none)(c:d≠x):drp (upd (upd H x o) d u) x=upd H d u:=by
 funext b
 by_cases z:b=x
 ·subst z
  rw[zAl,zM (Ne.symm c),a]
 ·rw[qL z]
  by_cases y:b=d
  ·subst y;rw[zC,zC]
  ·rw[zM y,zM z,zM y]
section
variable{X:Cx}{C B fI:V1}{nm:Str}{k:Nat}{fd:V7}{ps:C1}
theorem zSi{j:C7}{σ:St}{H:Hp}{s:V2}{M:C9}{us:B7}{p v:V}(c:zEb X.K nm C B fI)(F:FnOk X.prog X.w X.K X.mg X.base CX0 k fI fd ps (zFa C))(hr:Room (k+1) X.A)(hb:Binds X.K fd ps [])(I:Inv X j σ H s)(r:Vals [p,v] us)
  (q:∀x d w,X.s₀.heap.get? x=none->H x=none->H d=none->d≠x->Inv X j σ (upd (upd H x (exO x C ↥d)) d (.xd [("at",v)])) w->M (.ref x) w):V8 (S8 X.prog X.w) X.A (call (.ref C) us) M X.xe s:=by
 refine wS (c.obj) λN o lk hX=>?_;let J:us...*<=100:=by rw[<-r...*];show(2:Nat)<=100;decide
 let A:X.s₀.heap.get? (s⁻¹+1)=none:=rK (nW I.sz (pP _));let y:H (s⁻¹+1)=none:=I.hok.fresh (pP _);let he:((s.heap.push {cls:=.type "tuple",data:=.seq us.toArray}).push (kR C s⁻¹)).get? (s⁻¹+1)=Y (kR C s⁻¹):=by
  rw[<-(sZ .. :(s.heap.push {cls:=.type "tuple",data:=.seq us.toArray}).objs.size=s⁻¹+1)];exact nM _ O
 let E:=I.laid (t':=s.toks) (a:=s⁻¹+1) (o:=exO (s⁻¹+1) C none) (h':=(s.heap.push {cls:=.type "tuple",data:=.seq us.toArray}).push (kR C s⁻¹)) (λb ob e=>mL _ (mL _ e)) (pP _) (zEg he O O O);let L:Vals [V.ref (s⁻¹+1),p,v] (Value.ref (s⁻¹+1)::us):=.cons O r;let n:zFa C [V.ref (s⁻¹+1),p,v] (upd H (s⁻¹+1) (exO (s⁻¹+1) C none)) (λu H2=>u= .non/\∃d,H d=none/\d≠s⁻¹+1/\H2=upd (upd H (s⁻¹+1) (exO (s⁻¹+1) C ↥d)) d (.xd [("at",v)])) E0:=by
  refine{_,p,v,O,zC,λd l=>{O,d, ?_}};let i:d≠s⁻¹+1:=λz=>by rw[z,zC] at l;cases l
  rw[zM i] at l;exact{l,i,by rw[zKu]}
 let hl:((Value.ref (s⁻¹+1)::us)++ [])...*=ps...*:=by
  rw[pJ,<-L...*];exact F.len _ _ _ _ n
 let m:=hb _ (Value.ref (s⁻¹+1)::us) E.kIn hl;rw[pJ] at m;let run:=F.run _ X.stack _ _ {Value.ref (s⁻¹+1)::us,[]} (Value.ref (s⁻¹+1)::us) _ _ E0 (hr.make C us []) (E.env0.make C us []) m L n;let I1:=I;obtain⟨h,g,dr,t,os⟩:=s;refine aB (zVt I1.kIn lk hX c.tl c.init c.fn J (rT run λr w f=>?_))
 cases r with
 |error e=>exact False.elim f|ok Q=>
  cases Q with
  |ret u=>
   refine zR (E.after f) λv' H' I3 rv ev z_=>?_;ext xC z_ d l i D;subst D;subst ev;exact{rv,q _ d w A y l i I3}
  |next=>exact False.elim f|brk=>exact False.elim f|cont=>exact False.elim f
def zEx(C:V1)(E:XK)(t:TA):TS:=λ_ σ H=>t σ H λc a=>∃b v,c= [b,v]/\∀d,a d=none->E (.ref C) ↥d (upd a d (.xd [("at",v)]))
structure Xr(P:V3)(w:V4)(K:Frag)(mg:C8)(base:V5)(k:Nat)(cn:Str)(C:V1):Prop where
 ex:∃(nm:Str)(B fI:V1)(fd:V7)(ps:C1),zEb K nm C B fI/\FnOk P w K mg base CX0 k fI fd ps (zFa C)/\Binds K fd ps []/\mg cn=Y (.ref C)
def Lvs(φ:V0->Prop)(X:Cx)(E:XK):Prop:=X.stack=X.env::X.outer/\X.env.frame=Y X.env.locals/\X.ex= []/\φ .none/\∀e b,V8 (S8 X.prog X.w) X.A (leaving X.env e) (λ_ a=>CXE φ X.prog X.w X.outer X.H₀ X.s₀ E e a) (λc a=>CXE φ X.prog X.w X.outer X.H₀ X.s₀ E c a) b->X.xe e b
theorem passE{φ:V0->Prop}{E:XK}(l:Lvs φ X E):zAd (CXE φ X.prog X.w) X E:=λ_ _ _ _ e a I h=>l.2.2.2.2 e a (yAf I l.1 l.2.1 l.2.2.1 h)
theorem zDw{φ:V0->Prop}{E:XK}{i:Str}{p a b:Pos}{e:Expr}{g:C5}{t:TA}{j:Nat}(R:Xr X.prog X.w X.K X.mg X.base k i C)(hr:Room j X.A)(hj:k+1<=j)(hg:Gl X i)(f:X.calm=true)(l:Lvs φ X E)(ha:PA X (e::g) t)(y:(i==("__debug__" :Str))=false:=by decide)
  (he:A5 (e::g) X.env=(false,eval e X.env)::A5 g X.env:=by rfl) (u:(S5 a (A5 g X.env)).any (·.1)=false:=by rfl):PS X (.Raise ↥(.Call (.Name i p) (e::g) [] a) none b) (zEx C E t):=by
 intro m s σ H D I h;refine yA (R.ex) λnm B fI fd ps Q=>?_;ext xA Q c F hb hm;ext vB l hs hf hex hφ z;rw[arm_exec_Raise];refine mC (rR ?_);show V8 _ _ (raiseStmt X.env ↥(do let v <-eval (.Call (.Name i p) (e::g) [] a) X.env;S3 b;pure v) none) _ _ _;refine wS (c.obj) λN o lk hX=>?_;refine zFo (nm:=nm) (C:=C) (N:=N) (bm:=.ref B::veMro) (by rw[sO,show veMro.contains (.type "BaseException")=true by decide,tU]) (I.ok.hd f) (mC ?_);refine rA (qS I hg hm ?_ y);refine callWith_K (h₀:=X.base) I.ok.mod.kin c.kp (thn (ha a m s σ H _ I h) λus s1 ⟨J,H1,M,r,v0,v,ev,q⟩=>⟨M.kIn, ?_⟩) he u;subst ev;refine zSi c F (hr.mono hj) hb M r λx d s2 w hx hd n A=>?_;refine mC (rR (mT ?_));let L:upd (upd H1 x (exO x C ↥d)) d (.xd [("at",v)]) x=Y (exO x C ↥d):=by rw[zM (Ne.symm n),zC]
 refine jD (zBt A L) λJ e1 h6 h1 h2=>?_;refine{x,_,_,J,O,A.kIn _ _ lk,hX,e1,O,O,h1,z _ _ (zIc A hs hf hex L w hφ ?_)};rw[zUy hx n];exact q d hd
end
structure Dx(φ:V0->Prop)(P:V3)(w:V4)(K:PySem.W.Frag)(mg:C8)(base:V5)(k:Nat)(x:Str)(ps:C1)(sp:Sp):Prop where
 ex:∃(f:V1)(fd:V7),FnOk P w K mg base (CXE φ P w) k f fd ps sp/\Binds K fd ps []/\PySem.W.keepIn K (.ref f)=true/\mg x=Y (.ref f)
section
variable{X:Cx}{k j:Nat}{x:Str}{ps:C1}{sp:Sp}{e:Expr}{es:C5}{t:TA}{p pos:Pos}{E:XK}
theorem zGg{φ:V0->Prop}(D:Dx φ X.prog X.w X.K X.mg X.base k x ps sp)(d:Room j X.A)(n:k<=j)(i:Gl X x)(l:Lvs φ X E)(c:PA X (e::es) t)(a:(x==("__debug__" :Str))=false:=by decide)
  (q:A5 (e::es) X.env=(false,eval e X.env)::A5 es X.env:=by rfl) (b:(S5 pos (A5 es X.env)).any (·.1)=false:=by rfl):PE X (.Call (.Name x p) (e::es) [] pos) (gY sp [] E t):=by
 refine zR (D.ex) λf r g m o h=>?_;exact zKa g (d.mono n) i h o m .nil (passE l) c a q b
end
section
variable{P:V3}{w:V4}{K:PySem.W.Frag}{mg:C8}{base:V5}{k:Nat}{f:V1}{fd:V7}{ps:C1}{sp sp':Sp}{CX:CXT}
theorem Fun.okx{φ:V0->Prop}{x b:Str}{st:V6}{N:C1}(F:Fun K x b st f fd)(S:wF N ps (yB st))(len:∀d H Q E,sp d H Q E->d...*=ps...*)
  (e:∀(c:V0)(A:Around)(a:List P0)(s:V2)(H:Hp)(d:B3)(Q:VK)(E:XK),Room k (A.deeper (envOfC b (yB st) s⁻¹ f c))->sp d H Q E->
   ∃t,PSs (zCl (CXE φ P w) P w K mg base N b (yB st) f c A a s H E) (xQ st) t/\t {nx:=λ_ H'=>Q .non H',rt:=Q} (jX N d) H):FnOk P w K mg base (CXE φ P w) (k+1) f fd ps sp:=by
 refine yA (F.ex) λu o kV m r j=>?_;ext yN j p c q l i j;ext oA j lk h;subst i;exact zQf lk h S len λA a s H d Q E n g=>e c A a s H d Q E n g
theorem lvs{φ:V0->Prop}{N:C1}{c:Str}{b:Scope}{e:V0}{A:Around}{a:List P0}{s:V2}{H:Hp}{E:XK}(d:φ .none:=by first | rfl | trivial):Lvs φ (zCl (CXE φ P w) P w K mg base N c b f e A a s H E) E:={O,O,O,d,λ_ _ h=>h}
end
end L2
namespace L2
open PySem PySem.Spec PyProof.Rows PySem.W PySem.Builtin PySem.Builtin.ObjectAttr
structure yAr(K:Frag)(C:V1):Prop where
 ga:findIn K (.ref C) "__getattribute__" =Y ↥(.builtin "BaseException.__getattribute__")
 gt:findIn K (.ref C) "__getattr__" =Y none
 bx:mroIn K C (.type "BaseException")=Y true
 ob:mroIn K C (.type "object")=Y true
 hd:hasDictIn K C=true
 cl:findIn K (.ref C) "__class__" =Y ↥(.builtin "object.__class__")
 cg:specialIn K (.builtin "object.__class__") "__get__" =Y ↥(.builtin "getset_descriptor.__get__")
 ct:takesIn K (.builtin "object.__class__")=Y true
section
variable{prog:V3}{w:V4}{A:Around}{K:Frag}{C x:V1}{ox od:Obj}{name:Str}{E:C9}{s:V2}
theorem yFl{c:Tok}{fill a:Bool}{Q:C9}(G:yAr K C)(d:K.In s.heap)(I:InstAt s.heap x ox C ↥od)
  (h:V8 (S8 prog w) A.in1 (Builtin.«object.__getattribute__» {[.ref x, .str name c],[]}) (λb g=>match b with | .done (.ret v)=>V8 (S8 prog w) A (handedOut v) Q E g | _=>False) (λ_ _=>False) s):
  V8 (S8 prog w) A (getAttrBy (.ref x) (.str name c) fill a) Q E s:=by
 let i:Looks (S8 prog w) s.heap (hookBefore (.ref C)) none:=looks_hook d (by rw[mP (by rfl)];exact G.gt);let f:=I.type (M:=S8 prog w);unfold getAttrBy;refine pL (mC (f _ _ _ _ (λ_ _ e=>e) (mC (looks_findIn d G.ga _ _ _ _ (λ_ _ e=>e) ?_))));dsimp only;rw[show(onTheHeap (Value.ref C)&& Value.builtin "BaseException.__getattribute__" ==Value.builtin "object.__getattribute__")=false from by rw[show(Value.builtin "BaseException.__getattribute__" ==Value.builtin "object.__getattribute__")=false from by decide+kernel,tR],mI ∎];unfold getAttrByItsOwn;refine mC (i _ _ _ _ (λ_ _ e=>e) (mC (wpAny_attempt (pL ?_))));unfold callGetattribute;rw[show(a && onTheHeap (Value.builtin "BaseException.__getattribute__"))=false from tR _,mI ∎];unfold boundAndCalled;let FB:=PySem.F.attr_ValueError;rw[FB.ga.bind];refine mC (mT ?_);show V8 _ _ (call (.builtin "BaseException.__getattribute__") [.ref x, .str name c]) _ _ _;refine aB ?_;refine aT FB.ga.plain PySem.F.entry_bexc_ga ?_;refine @check_slot (S8 prog w) _ _ s "BaseException.__getattribute__" "BaseException" "__getattribute__" (.ref x) [.str name c] [] _ (by decide+kernel) (by decide+kernel) (f.andThen (looks_mroIn d G.bx)) (PySem.F.args_bexc_ga (.ref x) (.str name c)) ?_;refine pC h (λb g z=>?_) λ_ _ z=>z.elim;rcases b with(_ | _ | _ | _)| _<;>first | exact z | exact z.elim
theorem zTz{v:V0}{a:Bool}{Q:C9}(G:yAr K C)(b:K.In s.heap)(I:InstAt s.heap x ox C ↥od)(i:findObj K C ↥od name=Y (.value v))(e:handedIn v=true)(h:Q v {s with toks:=s.toks+1}):
  V8 (S8 prog w) A (getAttr (.ref x) name a) Q E s:=by
 unfold getAttr;refine mC (wpAny_mkText (yFl (s:={s with toks:=s.toks+1}) G b I ?_));obtain⟨j,g,d,t,os⟩:=s;let f:=I.type (M:=S8 prog w);let c:=looks_find (M:=S8 prog w) b I i;unfold Builtin.«object.__getattribute__»;refine mC (mT (mC (mT (mC (f.at (mC (c.at ?_)))))));refine mT ?_;show V8 _ _ (handedOut v) _ _ _;rw[handedOut_of e];exact mT h
end
end L2
namespace L2
open PySem PySem.Spec PyProof.Rows PySem.W
noncomputable def exF(x C:V1)(d:Option V1):HO:=.ext λh=>∃(a:Obj)(b:Array V0),h.get? x=Y a/\a.cls= .ref C/\a.dict=d/\a.data= .fields b
theorem zXj{P:V3}{w:V4}{H:Hp}{h:V5}{x C:V1}{d:Option V1}{b:Obj}{vs:Array V0}(e:h.get? x=Y b)(c:b.cls= .ref C)(f:b.dict=d)(g:b.data= .fields vs):ObjOk P w H h x (exF x C d):=
 {⟨b,vs,e,c,f,g⟩,⟨_,e⟩,λ_ _ ⟨b,vs,e,a⟩ k=>{b,vs,k _ e,a}}
abbrev Cx.mark(X:Cx)(v:V0):Cx:={X with A:=X.A.mark ↥v,calm:=false,xe:=λ_ _=>False}
abbrev Cx.pend(X:Cx)(pins:C7)(W:C9):Cx:={X with pn:=X.pn++pins,xe:=W}
section
variable{X:Cx}{pins pins':C7}{σ:St}{H:Hp}{s:V2}{v:V0}{W:C9}
theorem Cx.Ok.mark(a:X.Ok):(X.mark v).Ok:=
 {a.mod,a.kind,a.glob,a.blt,a.above,a.inj,a.has,a.cab,(λz=>nomatch z),a.frames,a.stk,a.exf,a.bs,a.bsz,a.noex,a.exfs,a.funs,a.frf}
theorem Inv.mark(I:Inv X pins σ H s):Inv (X.mark v) pins σ H s:=⟨I.ok.mark,I.os,I.bare,I.base,I.loc,I.cell,I.free,I.freeC,I.pin,I.hok,I.len⟩
theorem Inv.unmark(a:X.Ok)(I:Inv (X.mark v) pins σ H s):Inv X pins σ H s:=⟨a,I.os,I.bare,I.base,I.loc,I.cell,I.free,I.freeC,I.pin,I.hok,I.len⟩
theorem Cx.Ok.pend(a:X.Ok):(X.pend pins W).Ok:=
 ⟨a.mod,a.kind,a.glob,a.blt,a.above,a.inj,a.has,a.cab,a.hd,a.frames,a.stk,a.exf,a.bs,a.bsz,a.noex,a.exfs,a.funs,a.frf⟩
theorem Inv.pend(I:Inv X pins σ H s):Inv (X.pend pins W) [] σ H s:={I.ok.pend,I.os,I.bare,I.base,I.loc,I.cell,I.free,I.freeC,λp a=>I.pin p (by rw[pJ] at a;exact a),I.hok,I.len}
theorem Inv.unpend(b:X.Ok)(I:Inv (X.pend pins W) pins' σ H s):Inv X pins σ H s:={b,I.os,I.bare,I.base,I.loc,I.cell,I.free,I.freeC,λp a=>I.pin p (nQ _ a),I.hok,I.len}
theorem Inv.track{x:V1}{o:HO}(I:Inv X pins σ H s)(d:H x=none)(j:X.s₀.heap.get? x=none)(k:x≠X.env.locals)(r:∀y c,X.env.cells.lookup y=Y c->c≠x)(l:∀p∈X.pn++pins,p.1≠x)
  (f:ObjOk X.prog X.w (upd H x o) s.heap x o):Inv X pins σ (upd H x o) s where
 ok:=I.ok
 os:=I.os
 bare:=I.bare
 base:={I.base.keep,I.base.slot,λb h e n i=>by rw[zM (λz=>by subst z;rw[j] at e;cases e)];exact I.base.free b h e n i,I.base.there,
  λb g e=>by let z:=I.base.tups b g e;rw[zM (yM z d)];exact z,λb h g e=>by let z:=I.base.frzs b h g e;rw[zM (yM z d)];exact z,
  λb t e=>by obtain⟨m,z⟩:=I.base.tbls b t e;exact{m,by rw[zM (yM z d)];exact z}}
 loc:=I.loc
 cell:=I.cell
 free:=by rw[zM (Ne.symm k)];exact I.free
 freeC:=λy c e=>by rw[zM (r y c e)];exact I.freeC y c e
 pin:=λp q=>let ⟨a,b,c⟩:=I.pin p q;{a,by rw[zM (l p q)];exact b,c}
 hok:=I.hok.also d f
 len:=I.len
theorem Inv.wiped{h':V5}{E:C8}{t':Nat}(I:Inv X pins σ H s)(m:h'.Ns X.env.locals E)(g:Heap.SameBut X.env.locals s.heap h'):Inv X pins (List.replicate X.N...* none) H {s with heap:=h',toks:=t'}:=by
 let f:∀b o,X.s₀.heap.get? b=Y o->b≠X.env.locals:=λb o e=>nP (nN (mZ e) I.ok.above);refine⟨I.ok,I.os,I.bare,⟨λb o e n l h=>?_,λb o e n l h=>?_,I.base.free,λb o e h=>?_,I.base.tups,I.base.frzs,I.base.tbls⟩,⟨_,m,λj y r i k J=>?_⟩,λy c e=>?_,I.free,I.freeC,λp w=>?_,λb t e=>?_,rJ⟩
 ·exact(g.2 b (f b o e)).trans (I.base.keep b o e n l h)
 ·obtain⟨B,i⟩:=I.base.slot b o e n l h
  exact{B,(g.2 b (f b o e)).trans i}
 ·obtain⟨x,i⟩:=I.base.there b o e h
  exact{x,(g.2 b (f b o e)).trans i}
 ·rw[tW] at k
  split at k<;>cases k
 ·refine wS (I.cell y c e) λr o u A=>?_
  exact{r,o,(g.2 c (I.cne y c e)).trans u,A}
 ·refine xA (I.pin p w) λa b c d=>?_
  exact{(g.2 _ c).trans a,b,c,d}
 ·refine(I.hok b t e).stay (λc L D q=>(g.2 c ?_).trans q) (λ_ q=>q) λ_ _ q=>q
  rintro rfl;rcases D with z | z
  ·rw[<-z,I.free] at e;cases e
  ·rw[I.free] at z;cases z
end
section
variable{X:Cx}{B:V1}{bn n:Str}{i:Nat}{body suite:List V6}{b₀:V6}{bp hp pos:Pos}{tb:XK->TS}{ts:TS}{φ:V0->Prop}
end
end L2
namespace L2
open PySem PySem.Spec PyProof.Rows PySem.W
section
variable{X:Cx}{C D:V1}{b:Bool}
theorem yFf{a:C7}{σ:St}{H:Hp}{s:V2}{x d:V1}{e:List (Str×V)}(I:Inv X a σ H s)(m:H x=Y (exF x C ↥d))(h:H d=Y (.xd e)):
  ∃c od,InstAt s.heap x c C ↥od/\∀name,∃u,lookIn name od=Y u/\RelO (e.lookup name) u:=by
 refine zR ((I.hok x _ m).1) λc o l i f g=>?_;obtain⟨p,n,r⟩:=I.hok d _ h;obtain⟨od,j,k⟩:=zIu n;refine{c,od,{l,i, ?_,by rw[f];exact j},λname=>{_,k name,r name}};unfold notCls;rw[g]
def tXAt(C:V1)(f:Str)(ta:TE):TE:=λσ H Q=>ta σ H λv a=>∃x d c n,v= .ref x/\a x=Y (exF x C ↥d)/\a d=Y (.xd c)/\c.lookup f=Y (.int n)/\Q (.int n) a
theorem yFy{e:Expr}{f:Str}{ta:TE}{c:Pos}(G:yAr X.K C)(w:findIn X.K (.ref C) f=Y none)(k:PE X e ta)(t:attributeBase e f X.env (eval e X.env)=eval e X.env:=by rfl):PE X (.Attribute e f c) (tXAt C f ta):=by
 intro a s σ H Q I h;refine yCe t (thn (k a s σ H _ I h) λu B z_=>?_);obtain⟨v,m,g,l,x,d,L,n,o,y,z,p,q⟩:=z_;subst o;obtain rfl:u=Value.ref x:=l;refine wS (yFf g y z) λE A J lk=>?_;obtain⟨u,r,i⟩:=lk f;rw[p] at i
 cases u with
 |none=>exact i.elim|some u=>
  obtain⟨j,rfl⟩:∃j,u=Value.int n j:=i;refine zTz G g.kIn J (findObj_own G.hd w O r) O {.int n,m,g.tok _,⟨_,O⟩,q}
end
section
variable{X:Cx}{k j:Nat}{x:Str}{ps:C1}{sp:Sp}{e:Expr}{es:C5}{t:TA}{p pos:Pos}{E:XK}
theorem yDv{φ:V0->Prop}(D:Dx φ X.prog X.w X.K X.mg X.base k x ps sp)(d:Room j X.A)(n:k<=j)(i:Gl X x)(l:zAd (CXE φ X.prog X.w) X E)(c:PA X (e::es) t)(a:(x==("__debug__" :Str))=false:=by decide)
  (q:A5 (e::es) X.env=(false,eval e X.env)::A5 es X.env:=by rfl) (b:(S5 pos (A5 es X.env)).any (·.1)=false:=by rfl):PE X (.Call (.Name x p) (e::es) [] pos) (gY sp [] E t):=by
 refine zR (D.ex) λf r g m o h=>?_;exact zKa g (d.mono n) i h o m .nil l c a q b
end
end L2
namespace L2
open PySem PySem.Spec PyProof.Rows PySem.W
structure RoomH(k:Nat)(A:Around):Prop where
 dp:A.depth+3*k+5<recursionLimit
 un:A.units+16*k+200<cLine
theorem Room.h{k:Nat}{A:Around}{v:Option V0}(r:Room k A):RoomH k (A.mark v):=⟨r.dp,r.un⟩
theorem RoomH.mono{j k:Nat}{A:Around}(r:RoomH k A)(h:j<=k):RoomH j A:={by let:=r.dp;lia,by let:=r.un;lia}
theorem RoomH.deeper{k:Nat}{A:Around}(r:RoomH (k+1) A)(a:P0):RoomH k (A.deeper a):=
 {by let:=r.dp;show A.depth+1+3*k+5<_;lia,by let:=r.un;show A.units+3+16*k+200<_;lia}
theorem RoomH.depth{k:Nat}{A:Around}(r:RoomH k A):A.depth<recursionLimit:=by let:=r.dp;lia
structure zNq(P:V3)(w:V4)(K:PySem.W.Frag)(mg:C8)(base:V5)(k:Nat)(f:V1)(fd:V7)(ps:C1)(sp:Sp):Prop where
 len:∀vs H Q E,sp vs H Q E->vs...*=ps...*
 run:∀(A:Around)(outer:List P0)(s:V2)(H:Hp)(args:Args)(us:B7)(vs:B3)(Q:VK)(E:XK),RoomH k A->Env0 P w K mg base A outer s H->BindsTo s fd args (ps.zip us)->Vals vs us->sp vs H Q E->
  codeAny (S8 P w) A (.call (.ref f) args) (CR CX0 outer P w H s Q E) s
abbrev cxH(P:V3)(w:V4)(K:PySem.W.Frag)(mg:C8)(base:V5)(N:C1)(qual:Str)(scope:Scope)(f:V1)(cd:V0)(A:Around)(outer:List P0)(s:V2)(H:Hp):Cx:=
 {zCl CX0 P w K mg base N qual scope f cd A outer s H E0 with calm:=false,xe:=λ_ _=>False}
structure Dh(P:V3)(w:V4)(K:PySem.W.Frag)(mg:C8)(base:V5)(k:Nat)(x:Str)(ps:C1)(sp:Sp):Prop where
 ex:∃(f:V1)(fd:V7),zNq P w K mg base k f fd ps sp/\Binds K fd ps []/\PySem.W.keepIn K (.ref f)=true/\mg x=Y (.ref f)
section
variable{X:Cx}{k j:Nat}{x:Str}{ps:C1}{sp:Sp}{e:Expr}{es:C5}{t:TA}{p pos:Pos}
end
end L2
namespace L2
open PySem PySem.Spec PyProof.Rows PySem.W
section
variable{M:Model}{A:Around}{E:C9}{s:V2}{env:P0}{outer:List P0}{x T L:V1}{C a0 fl:V0}{d:Option V1}{base:V5}{Q:Unit->V2->Prop}{φ:V0->Prop}
theorem zHy{o:Option V1}(F:Fl φ s.heap x T C d a0 fl)(q:∀h' fl',Fl φ h' x T C d a0 fl'->Kp [] [T] s.heap h'->(o=none->fl'= .none)->Q () {s with heap:=h'}):V8 M A (setFlight (.ref x) o) Q E s:=by
 ext yN F r u B ts n g;ext zS g v t k w j g;ext vB g l m p i c;unfold setFlight;refine mC (rN n k j ?_);rw[mP (by rfl)];let a:3<ts.size:=by
  obtain⟨z,_⟩:=pH.mp i;exact z
 refine sN m p a ?_;let y:=uM m p 3 (o.elim .none λf=>rawInt f);refine q _ (o.elim .none λf=>rawInt f) {r,u,_,_,(mV _ _ l).trans n,v,t,k,w,j,l,y,O, ?_,c} ⟨λb o e _ h=>(mV _ _ λz=>h (by rw[z];exact mD)).trans e,λb o e h=>nomatch h⟩ (λz=>by rw[z];rfl);show(ts.setIfInBounds 3 _)[3]? =Y _;rw[sV a]
theorem zZi{e:V0}{env a:P0}(h:a.frame=env.frame):noteFrame e a=noteFrame e env:=by
 unfold noteFrame PySem.frameOf;rw[h]
theorem zWe(t:A.frames=Y (env::outer))(y:s.heap.FunFrames base (env::outer))(B:env.frame=Y L)(hx:x∉frs (env::outer))(hT:T∉frs (env::outer))(F:Fl φ s.heap x T C d a0 fl)
  (q:∀h a fl',Fl φ h x a C d a0 fl'->Kp (frs (env::outer)) [x,T] s.heap h->(a=T\/s.heap.get? a=none)->Q () {s with heap:=h}):V8 M A (noteFrame (.ref x) env) Q E s:=by
 let F0:=F;ext yN F oe vs oT ts v u;ext zS u e2 e3 I e5 D u;ext vB u e7 l m g H
 by_cases p:(fl==rawInt L)=true
 ·unfold noteFrame
  rw[B];refine mC (rN v I D ?_);rw[mP (by rfl)];refine mC (rN l m g ?_);rw[mP p];exact mT (q s.heap T fl F0 Kp.refl (.inl O))
 let hs:1<vs.size:=by
  obtain⟨z,_⟩:=pH.mp D;exact z
 let w:3<ts.size:=by
  obtain⟨z,_⟩:=pH.mp g;exact z
 unfold noteFrame;rw[B];refine mC (rN v I D ?_);rw[mP (by rfl)];refine mC (rN l m g ?_);rw[mI p];refine mC (sN l m w ?_);let J:Kp (frs (env::outer)) [T] s.heap (s.heap.update T (Obj.mapFields λx=>x.setIfInBounds 3 Value.none)):=⟨λb o e _ j=>(mV _ _ λz=>j (by rw[z];exact mD)).trans e,λb o e j r=>⟨o.slots,(mV _ _ λz=>r (by rw[z];exact mD)).trans e⟩⟩;let i:(s.heap.update T (Obj.mapFields λx=>x.setIfInBounds 3 Value.none)).FunFrames base (env::outer):=zHf J (λb j=>{j,λz=>hT (by rw[<-mH.mp z];exact j)}) y;let x2:(s.heap.update T (Obj.mapFields λx=>x.setIfInBounds 3 Value.none)).get? x=Y oe:=(mV _ _ e7).trans v;let N:=zOj (E:=E) (M:=M) (A:=A) (head:=.ref T) (b:=true) (s:={s with heap:=s.heap.update T (Obj.mapFields λx=>x.setIfInBounds 3 Value.none)}) (Q:=Q) t i B x2 hx I e5 hs H;rw[e2,e3] at N;refine N λh a f k n=>q h a _ f (J.trans k λc p=>?_) (.inr ?_)
 ·rcases p with z | z
  ·rw[mH.mp z];simp
  ·rw[mH.mp z.1];simp
 ·cases e:s.heap.get? a with
  |none=>rfl|some o=>
   by_cases z:a=T
   ·subst z
    rw[uM l m] at n;cases n
   ·rw[(mV s.heap _ (Ne.symm z)).trans e] at n;cases n
end
def CXF(φ:V0->Prop)(X:Cx)(E:XK)(cs:B9)(e:V0)(s':V2):Prop:=∃(x T:V1)(C:V0)(d:Option V1)(g f:V0)(a:Hp),e= .ref x/\s'.os=X.s₀.os/\AllBare s'.gens/\Un X.fs [] X.H₀ a X.s₀.heap s'.heap/\HOk X.prog X.w a s'.heap/\
 X.s₀.heap.get? x=none/\X.s₀.heap.get? T=none/\a x=none/\a T=none/\Fl φ s'.heap x T C d g f/\E C d a/\s'.heap.FunFrames X.base X.stack/\(∀b∈frs X.stack,a b=none)/\x∉frs X.stack/\T∉frs X.stack/\
 ∀c∈cs,(∃m,s'.heap.Ns c m)/\X.s₀.heap.get? c=none/\a c=none/\c∉frs X.stack/\c≠x/\c≠T
section
variable{X:Cx}{E:XK}{EE:C9}{s:V2}{e:V0}{cs:B9}{φ:V0->Prop}
theorem CXF.step{x T:V1}{C:V0}{d:Option V1}{a0:V0}{g:Hp}{h':V5}{a:V1}{I:V0}(ok:X.Ok)(hs:X.stack=X.env::X.outer)(hf:X.env.frame=Y X.env.locals)(os:s.os=X.s₀.os)(w:AllBare s.gens)(M:Un X.fs [] X.H₀ g X.s₀.heap s.heap)(A:HOk X.prog X.w g s.heap)
  (t:X.s₀.heap.get? x=none) (l:X.s₀.heap.get? T=none) (p:g x=none) (B:g T=none) (q:E C d g) (Q:s.heap.FunFrames X.base X.stack) (J:∀b∈frs X.stack,g b=none) (nx:x∉frs X.stack) (L:T∉frs X.stack)
  (j:∀c∈cs,(∃m,s.heap.Ns c m)/\X.s₀.heap.get? c=none/\g c=none/\c∉frs X.stack/\c≠x/\c≠T)
  (F':Fl φ h' x a C d a0 I) (k:Kp (frs X.stack) [x,T] s.heap h') (n:a=T\/s.heap.get? a=none):CXF φ X E cs (.ref x) {s with heap:=h'}:=by
 let H:frs X.stack=X.env.locals::X.fs:=by
  rw[hs];unfold frs;rw[pW,hf];rfl
 let v:X.s₀.heap.get? X.env.locals=none:=rK ok.above;let k4:Kp X.fs [x,T,X.env.locals] s.heap h':=by
  let k5:Kp (frs X.stack) [x,T,X.env.locals] s.heap h':=k.trans Kp.refl (ys:=[]) λc i=>by
   rcases i with z | z
   ·rcases mF.mp z with z | z
    ·rw[z];simp
    ·rw[mH.mp z];simp
   ·exact nomatch z.1
  refine vG k5 λb f=>?_;rw[H] at f;rcases mF.mp f with z | z
  ·rw[z];exact .inr (by simp)
  ·exact .inl z
 let h:X.s₀.heap.get? a=none/\g a=none/\a∉frs X.stack/\(∀c∈cs,c≠a):=by
  rcases n with z | z
  ·rw[z];exact{l,B,L,λc i=>(j c i).2.2.2.2.2}
  ·refine{?_, ?_,λy=>?_,λc i y=>?_}
   ·cases e:X.s₀.heap.get? a with
    |none=>rfl|some o=>
     obtain⟨o',e'⟩:=M.there a o e (λz=>nomatch z);rw[z] at e';cases e'
   ·cases e:g a with
    |none=>rfl|some o=>
     obtain⟨ob,u⟩:=i8 (A a o e);rw[z] at u;cases u
   ·obtain⟨o,e,_⟩:=gL Q a y
    rw[z] at e;cases e
   ·obtain⟨⟨m,o,_,_,D,_⟩,_⟩:=j c i
    rw[y,z] at D;cases D
 refine{x,a,C,d,a0,I,g,O,os,w,zBq M k4 λb f=>?_,kU A k J λb f=>?_,t,h.1,p,h.2.1,F',q,zHf k (λb f=>{f,λz=>?_}) Q,J,nx,h.2.2.1,λc i=>?_}
 ·rcases mF.mp f with z | z
  ·rw[z];exact t
  ·rcases mF.mp z with z | z
   ·rw[z];exact l
   ·rw[mH.mp z];exact v
 ·rcases mF.mp f with z | z
  ·rw[z];exact p
  ·rw[mH.mp z];exact B
 ·rcases mF.mp z with z | z
  ·exact nx (by rw[<-z];exact f)
  ·exact L (by rw[<-mH.mp z];exact f)
 ·obtain⟨⟨m,o,es,ep,D,r⟩,c0,cH,cf,N,cT⟩:=j c i
  exact{{m,o,es,ep,k.keep c o D cf (λz=>by
   rcases mF.mp z with z | z
   ·exact N z
   ·exact cT (mH.mp z)),r},c0,cH,cf,N,h.2.2.2 c i}
theorem l7{a:P0}(A:X.Ok)(v:X.stack=X.env::X.outer)(D:X.env.frame=Y X.env.locals)(h:CXF φ X E cs e s)(M:a.frame=X.env.frame):V8 (S8 X.prog X.w) X.A (noteFrame e a) (λ_ s'=>CXF φ X E cs e s') EE s:=by
 ext yA h x T C d a0 b;ext zR b f H' m os l b;ext zS b J u r o p b;ext zS b w I q z H b;ext oAA b B y t;subst m;let c:=z;let g:=B;let j:=y;let i:=A.frames;rw[v] at c g j i;rw[zZi M];refine zWe i c D g j I λQ T' N L k n=>?_;rw[<-v] at k;exact CXF.step A v D os l J u r o p w q z H B y t L k n
theorem k8{o:Option V1}(D:X.Ok)(L:X.stack=X.env::X.outer)(N:X.env.frame=Y X.env.locals)(h:CXF φ X E cs e s):V8 (S8 X.prog X.w) X.A (setFlight e o) (λ_ s'=>CXF φ X E cs e s') EE s:=by
 ext yA h x T C d a0 a;ext zR a f H' i os g a;ext zS a A p m j l a;ext zS a r v q B u a;ext oAA a I w n;subst i;refine zHy v λy Q J k _=>?_;let t:Kp (frs X.stack) [x,T] s.heap y:=(vG k λb H=>nomatch H).trans Kp.refl (ys:=[]) λc M=>by
  rcases M with z | z
  ·rw[mH.mp z];simp
  ·exact nomatch z.1
 exact CXF.step D L N os g A p m j l r q B u I w n J t (.inl O)
theorem m6(I:X.Ok)(L:X.stack=X.env::X.outer)(M:X.env.frame=Y X.env.locals)(h:CXF φ X E [] e s):V8 (S8 X.prog X.w) X.A (leaving X.env e) (λ_ s'=>CXE φ X.prog X.w X.outer X.H₀ X.s₀ E e s') EE s:=by
 unfold leaving;refine mC (thn (l7 I L M h O) λ_ s1 h1=>?_);let h2:=h1;ext yA h2 x T C d a0 a;ext zR a f H' u os o a;ext zS a D p n g i a;ext zS a m N q fu A a;ext oAA a nx Q ae;subst u;refine zHy N λh' f' w k hn=>?_;let y:Kp (frs X.stack) [x,T] s1.heap h':=(vG k λb j=>nomatch j).trans Kp.refl (ys:=[]) λc t=>by
  rcases t with z | z
  ·rw[mH.mp z];simp
  ·exact nomatch z.1
 let r:=CXF.step (cs:=[]) I L M os o D p n g i m q fu A nx Q (λc t=>nomatch t) w y (.inl O);ext yA r x2 T2 C2 d2 a2 a;ext zR a f2 H2 e2 v l a;ext zS a ab B aa af J a;ext xA a H ac q2 _;cases e2;rw[hn O] at w;exact{x,T,C,d,a0,H',O,v,l,zBq D (vG (k.trans Kp.refl (ys:=[]) (zs:=[T]) λc t=>t.elim id λz=>nomatch z.1) λb j=>nomatch j) λb j=>by rw[mH.mp j];exact g,kU p y A λb j=>by
  rcases mF.mp j with z | z
  ·rw[z];exact i
  ·rw[mH.mp z];exact m,n,g,i,m,w,q}
end
end L2
namespace L2
open PySem PySem.Spec PyProof.Rows PySem.W
theorem zKw{prog:V3}{w:V4}{A:Around}{R:Result->V2->Prop}{s:V2}{i a iter:Expr}{g:C5}{d:Scope}{j:Pos}{it acc:V0}{b:P0}(I:Nat->V2->Prop)
  (l:∀n s,I n s->V8 (S8 prog w) A (pyNext it) (λr p=>match r with
   | none=>R (.ok .next) p|some v=>V8 (S8 prog w) A (letOwnedTupleGo a it v) (λ_ t=>V8 (S8 prog w) A (assign a b v) (λ_ z=>
     V8 (S8 prog w) A (forIn g true λc r=>if r=true then do let k <-isTrue c b (eval c b);pure (ForInStep.yield k) else pure (ForInStep.yield r)) (λk o=>
      if k=true then V8 (S8 prog w) A (eval i b) (λx y=>
       V8 (S8 prog w) A (call (.builtin "list.append") [acc,x]) (λ_ u=>∃m,m<n/\I m u) (λ_ _=>False) y) (notedBy (S8 prog w) A b λe s'=>R (.error e) s') o
      else∃m,m<n/\I m o) (λ_ _=>False) z) (λ_ _=>False) t) (λ_ _=>False) p) (λ_ _=>False) s)
  (n:Nat) (h:I n s):codeAny (S8 prog w) A (.compLoop (.ListComp i [{a,iter,g,0}] d j) 0 it acc b) R s:=by
 refine codeAny_loop O I (λn s H=>?_) n h;show V8 _ A ((compTurn (.ListComp i [{a,iter,g,0}] d j) 0 it acc b).onRaise (λx=>do noteFrame x b;theTreesLotGoes x)) _ _ s;refine wpAny_noted ?_;rw[compTurn_list];refine mC (rR (mC (pC (l n s H) (λr p q=>?_) λ_ _ f=>f.elim)))
 cases r with
 |none=>exact mT q|some v=>
  refine mC (pC q (λ_ t J=>mC (pC J (λ_ z L=>mC (pC L (λk o B=>?_) λ_ _ f=>f.elim)) λ_ _ f=>f.elim)) λ_ _ f=>f.elim)
  cases k with|false=>exact mT ⟨O,B⟩|true=>exact mC (mC (pC B (λx y E=>mC (pC E (λ_ u D=>mT (mT ⟨O,D⟩)) λ_ _ f=>f.elim)) λ_ _ f=>f))
def xUp(E:XK):XK:=λC d H=>∀a o,H a=none->E C d (upd H a o)
section
variable{X:Cx}{E:XK}
theorem CXF.same{e:V0}{c:V1}{s:V2}{h':V5}(h:CXF φ X E [c] e s)(t:Heap.SameBut c s.heap h'):CXF φ X E [] e {s with heap:=h'}:=by
 ext yA h x T C d a0 g;ext zR g f H' j os i g;ext zS g H r n l m g;ext zS g u A q L w g;ext oAA g nx B p;subst j;refine zS (p c mD) λ_ D I N M cT=>?_;let k:Kp [] [c] s.heap h':=⟨λb o e _ a=>(t.2 b λz=>a (by rw[z];exact mD)).trans e,λb o e a=>nomatch a⟩;ext yN A y J oT ts e1 g;ext zS g Q e3 e4 e5 e6 g;ext xA g e7 e8 e9 v;refine{x,T,C,d,a0,f,H',O,os,i,zBq H (vG k λb a=>nomatch a) (λb a=>by rw[mH.mp a];exact D),kU r k (λb a=>nomatch a) (λb a=>by rw[mH.mp a];exact I),n,l,m,u,
  {y,J,oT,ts,(t.2 x (Ne.symm M)).trans e1,Q,e3,e4,e5,e6,e7,(t.2 T (Ne.symm cT)).trans e8,e9,v},q,zHf (vG k (fs':=frs X.stack) λb a=>nomatch a) (λb a=>{a,λz=>N (by rw[<-mH.mp z];exact a)}) L,w,nx,B,λ_ z=>nomatch z}
theorem zYy{Q:C9}{acc:V0}{C:V1}{e:V0}{s':V2}(n:X.Ok)(l:Lvs φ X E)(h:CXF φ X E [C] e s'):compPost (S8 X.prog X.w) X.A X.xe none Q acc C (.error e) s':=by
 let u:=h;ext yA u x T C' d a0 a;ext zR a f H' i os t a;ext zS a un ab D w y a;ext zS a L fl q fu ff a;ext oAA a nx nT c;subst i;obtain⟨hm,_⟩:=c C mD;obtain⟨m,B⟩:=hm;refine{m,B,λh' j s _=>?_};let r:=h.same j;let h3:=r;ext yA h3 x2 T2 C2 d2 a2 a;ext zR a f2 H2 v aa g a;ext zS a N k A ac o a;ext xA a p b q2 _;cases v;ext yN b oe vs oT ts e1 a;ext zS a e2 e3 J e5 I a;ext xA a e7 e8 e9 M;unfold PySem.passOn;refine mC (rN e1 J I ?_);rw[mI (by intro z;cases (eq_of_beq z))];refine mC (thn (k8 n l.1 l.2.1 r) λ_ s3 H=>?_);exact wpAny_throw (l.2.2.2.2 _ _ (m6 n l.1 l.2.1 H))
end
section
variable{X:Cx}{scope:Scope}{own:C1}{F:D4}{elt tg iter:Expr}{ifs:C5}{pos:Pos}{wi:TI}{g:TG}{tt:TT}{te:TE}{E:XK}
theorem zTl{j:C7}{σ:St}{H:Hp}{s:V2}{Q:VK}{RR:V1->Result->V2->Prop}{it:V1}{fp:B9}{tn:Nat->V5->Prop}{J:It}(S:CompSc X scope own F)(hc:X.calm=true)
  (hg:∀C s₃ H₃ ex,PG (xD X own F scope C s₃ H₃ ex) tg g) (ht:∀C s₃ H₃ ex,PTs (xD X own F scope C s₃ H₃ ex) ifs tt) (he:∀C s₃ H₃ ex j W,zAd (CXE φ X.prog X.w) ((xD X own F scope C s₃ H₃ ex).pend j W) (xUp E)->PE ((xD X own F scope C s₃ H₃ ex).pend j W) elt te) (l:Lvs φ X E)
  (I:Inv X j σ H s) (T:zHt X.prog X.w X.K tg J fp it tn) (st:tn 0 s.heap) (hf:∀b∈fp,zDn X j H b)
  (h:wN own F g tt te σ Q J H)
  (hR:∀C s4 H4,s⁻¹<=C->C≠s⁻¹->Inv X j σ H4 s4->Q (.ref s⁻¹) H4->H4 C=none->(∃m,s4.heap.Ns C m)->RR C (.ok .next) s4) (hE:∀C e s',CXF φ X E [C] e s'->RR C (.error e) s'):
  V8 (S8 X.prog X.w) X.A (newList []) (λacc s₃=>V8 (S8 X.prog X.w) X.A (newFunctionEnv scope X.env.globals (clo X.env scope.names) [] X.env.qual none .none ↥X.env) (λaj s₄=>
   codeAny (S8 X.prog X.w) X.A (.compStart (.ListComp elt [{tg,iter,ifs,0}] scope pos) 0 (.ref it) acc {aj with scope:=relabel scope X.env}) (λr s'=>acc= .ref s⁻¹/\RR aj.locals r s') s₄) X.xe s₃) X.xe s:=by
 obtain⟨W,⟨m0,w0⟩,ap⟩:=h;let ak:∀b∈fp,b<s⁻¹:=λb f=>by
  obtain⟨o,e,_⟩:=T.obj _ _ st b f;exact mZ e
 refine bP (wpAny_newFunctionEnv S.nc (by intro y hy;simp at hy) (λh₁ ag ai=>?_) S.kind);dsimp only at ag ai⊢;let af:yF s={s with heap:=s.heap.push {cls:=.type "list",data:=.seq ([]:B7).toArray}}:=rfl;let bn:(yF s)⁻¹=s⁻¹+1:=sZ ..;let k3:∀b o,(yF s).heap.get? b=Y o->h₁.get? b=Y o:=λb o e=>ai.extBut b o (nP (mZ e)) (mL _ e);let k2:∀b o,s.heap.get? b=Y o->(yF s).heap.get? b=Y o:=λb o e=>mL _ e;let ba:h₁.Ns (yF s)⁻¹ (λ_=>none):=by simpa using ag
 let I0:Inv (xD X own F scope (yF s)⁻¹ (yF s) H (s⁻¹::fp)) [] (uA own F σ) H {yF s with heap:=h₁,toks:=(yF s).toks+([]:List (Str×V0))...*}:=zHd I S hf ak af ba k3;let am:h₁.get? s⁻¹=some {cls:=.type "list",data:=.seq ([]:B7).toArray 0}:=k3 _ _ (nM _ O);let ax:tn 0 h₁:=T.keep _ _ _ st λb _ o e=>k3 b o (k2 b o e);let av:codeAny (S8 X.prog X.w) X.A (.compLoop (.ListComp elt [{tg,iter,ifs,0}] scope pos) 0 (.ref it) (.ref s⁻¹) (compEnvC scope (clo X.env scope.names) (yF s)⁻¹ X.env)) (RR (yF s)⁻¹) {yF s with heap:=h₁,toks:=(yF s).toks+([]:List (Str×V0))...*}:=by
  refine zKw (λn s'=>∃i ys B a k,Inv (xD X own F scope (yF s)⁻¹ (yF s) H (s⁻¹::fp)) [] (uA own F σ) B s'/\tn i s'.heap/\(∀b∈fp,B b=none)/\B s⁻¹=none/\
   Vals ys a/\s'.heap.get? s⁻¹=some {cls:=.type "list",data:=.seq a.toArray k}/\ys...*<=i/\W i n ys B) ?_ m0 {0,[],H,[],0,I0,ax,λb f=>(hf b f).1,I.hok.fresh (mE _), .nil,am,mE _,w0}
  intro n s5 M;ext yA M i ys H5 a k M;ext zS M I5 t5 ar a' v5 M;ext oAA M o5 l5 w5;let az:Inv (xD X own F scope (yF s)⁻¹ (yF s) H (s⁻¹::fp)) [(s⁻¹,{cls:=.type "list",data:=.seq a.toArray k})] (uA own F σ) H5 s5:=I5.pins_of λp w=>by
   let z:p=(s⁻¹,{cls:=.type "list",data:=.seq a.toArray k}):=by simpa using w
   subst z;obtain⟨x1,x2⟩:=I0.ok.exf s⁻¹ mD;exact{o5,a',x1,I0.ok.exfs _ mD,λv z=>by cases z}
  let al:∀{B:Hp},(∀b∈fp,B b=none)->∀b∈fp,zDn (xD X own F scope (yF s)⁻¹ (yF s) H (s⁻¹::fp)) [(s⁻¹,{cls:=.type "list",data:=.seq a.toArray k})] B b:=λ{B} hn b f=>by
   obtain⟨x1,x2⟩:=I0.ok.exf b (mG _ f);refine{hn b f,x1,I0.ok.exfs b (mG _ f), .inl (mG _ f),x2,λp w=>?_};let z:p=(s⁻¹,{cls:=.type "list",data:=.seq a.toArray k}):=by
    let a9:p∈([]:C7)++ [(s⁻¹,{cls:=.type "list",data:=.seq a.toArray k})]:=w
    simpa using a9
   subst z;exact rC (ak b f)
  rcases ap i n ys H5 w5 l5 with⟨stop,hz,q⟩|⟨go,hz,N,hN,step⟩
  ·refine thn (T.done (xD X own F scope (yF s)⁻¹ (yF s) H (s⁻¹::fp)) O O O hc i _ s5 _ H5 (λ_ _=>False) az (al ar) t5 stop) λr s6 ⟨hr,I6⟩=>?_
   subst hr;obtain⟨a6,b6,_⟩:=I6.pin (s⁻¹,{cls:=.type "list",data:=.seq a.toArray k}) (mX _ (mH.mpr O));let J6:=I6.pins_of (pins':=[]) (λp w=>nomatch w);let I7:=zBg I hf af J6 (nW l5 hz) v5 a6 b6;let hC:H5 (yF s)⁻¹=none:=J6.free;refine hR _ s6 _ (show s⁻¹<=(yF s)⁻¹ by lia) (λz=>by let z':(yF s)⁻¹=s⁻¹:=z;lia) I7 (q _ b6) (by rw[zM (λz=>by let z':(yF s)⁻¹=s⁻¹:=z;lia)];exact hC) ?_;obtain⟨m,hn,_⟩:=J6.loc;exact⟨m,hn⟩
  ·refine thn (T.item (xD X own F scope (yF s)⁻¹ (yF s) H (s⁻¹::fp)) O O O hc i _ s5 _ H5 (λ_ _=>False) az (al ar) t5 go) λr s6 ⟨u,hr,h6⟩=>?_
   subst hr;refine thn h6 λ_ s7 z_=>?_;obtain⟨x,H7,I7,r7,y7,t7,bm⟩:=z_;let J7:=I7.pinned (al bm) (T.obj _ _ t7);refine thn (hg _ _ _ _ _ s7 _ H7 x u _ J7 r7 (step x H7 y7)) λ_ s8 z_=>?_;obtain⟨σ8,H8,I8,wk,q8⟩:=z_;refine thn (ht _ _ _ _ _ s8 σ8 H8 _ I8 q8) λok s9 ⟨H9,I9,q9⟩=>?_;let A:∀{σ':St}{B:Hp}{s':V2},Inv (xD X own F scope (yF s)⁻¹ (yF s) H (s⁻¹::fp)) ([(s⁻¹,{cls:=.type "list",data:=.seq a.toArray k})]++zAv fp s7.heap) σ' B s'->
     tn (i+1) s'.heap/\(∀b∈fp,B b=none)/\B s⁻¹=none/\s'.heap.get? s⁻¹=some {cls:=.type "list",data:=.seq a.toArray k}:=λ{σ' B s'} J=>by
    let pa:=J.pin (s⁻¹,{cls:=.type "list",data:=.seq a.toArray k}) (mX _ (nQ _ (mH.mpr O)));refine⟨T.keep _ _ _ t7 λb f o e=>(J.pin (b,o) (mX _ (mX _ (jQ f e)))).1,λb f=>?_,pa.2.1,pa.1⟩;obtain⟨o,e,d⟩:=T.obj _ _ t7 b f;exact(J.pin (b,o) (mX _ (mX _ (jQ f e)))).2.1
   cases ok with
   |false=>
    rw[mI nD] at q9⊢;obtain⟨m',hm,w9⟩:=hN _ _ q9;refine xA (A I9) λa1 a2 a3 a4=>?_;exact{m',hm,i+1,ys,H9,a,k,(I9.pins_of (pins':=[]) (λp w=>nomatch w)).weak wk.1 wk.2,a1,a2,a3,v5,a4,sT l5,w9}
   |true=>
    rw[mP O] at q9⊢;let hJ:=he _ _ _ _ ([(s⁻¹,{cls:=.type "list",data:=.seq a.toArray k})]++zAv fp s7.heap) (λe s'=>∃σ' H1 s1,Inv (xD X own F scope (yF s)⁻¹ (yF s) H (s⁻¹::fp)) ([(s⁻¹,{cls:=.type "list",data:=.seq a.toArray k})]++zAv fp s7.heap) σ' H1 s1/\CXE φ X.prog X.w X.stack H1 s1 (xUp E) e s')
     (λbj σ' H1 s1 e s' I1 hx=>{σ',H1,s1,I1.unpend I9.ok,hx}) [] s9 σ8 H9 _ I9.pend q9
    refine pC hJ (λu' ab ⟨y,bg,a5,bk,be⟩=>?_) λe ab ⟨σ',H1,s1,I1,hx⟩=>?_
    rotate_left
    ·refine thn (l7 (X:=X) (E:=E) (cs:=[(yF s)⁻¹]) I.ok l.1 l.2.1 ?_ O) λ_ s' bl=>hE _ e s' bl
     ext yA hx x T C d a0 M;ext wG M B bi os a8 un M;ext zS M bd ae ac bf bb M;ext oA M fl q;subst bi;let J1:=I1.call' os un bd a8 (λb z=>absurd z (by simp));refine xA (A J1) λa1 a2 a3 a4=>?_;refine xA (A I1) λb1 b2 b3 b4=>?_;let aw:ys...*<=V9:=nW l5 (tS hz);let D:=zBg I hf af (J1.pins_of (pins':=[]) (λp w=>nomatch w)) aw v5 a4 a3;let ao:=zBg I hf af (I1.pins_of (pins':=[]) (λp w=>nomatch w)) aw v5 b4 b3;let L:=D.base;rw[l.2.2.1] at L;let ay:∀b,s1.heap.get? b=none->X.s₀.heap.get? b=none:=λb f=>by
      cases e:X.s₀.heap.get? b with
      |none=>rfl|some o=>
       obtain⟨o',e'⟩:=ao.base.there b o e (by rw[l.2.2.1];exact λz=>nomatch z);rw[f] at e';cases e'
     let ah:∀b,s1.heap.get? b=none->b≠s⁻¹:=λb f z=>by rw[<-z,f] at b4;cases b4
     let aq:∀b,s1.heap.get? b=none->b∉frs X.stack:=λb f z=>by
      obtain⟨o,e,_⟩:=gL ao.stack b z;rw[f] at e;cases e
     let an:(yF s)⁻¹≠s⁻¹:=λz=>by lia
     refine{x,T,C,d,a0,_,_,O,D.os,D.bare,L,D.hok,ay x ae,ay T ac,by rw[zM (ah x ae)];exact bf,by rw[zM (ah T ac)];exact bb,fl,q _ _ a3,D.stack,D.stkFree,aq x ae,aq T ac,λc hc=>?_};rw[mH.mp hc];obtain⟨m,hm,_⟩:=J1.loc;obtain⟨m1,⟨o1,_,_,au,_⟩,_⟩:=I1.loc;refine{⟨m,hm⟩,rK (nW I.sz ∅),by rw[zM an];exact J1.free,λz=>?_,λz=>?_,λz=>?_}
     ·obtain⟨o,e,_⟩:=gL I.stack _ z
      let:(yF s)⁻¹<s⁻¹:=mZ e
      lia
     ·let t:s1.heap.get? (yF s)⁻¹=Y o1:=au
      rw[z,ae] at t;cases t
     ·let t:s1.heap.get? (yF s)⁻¹=Y o1:=au
      rw[z,ac] at t;cases t
    let a7:=a5.unpend I9.ok;obtain⟨m',hm,bc⟩:=hN _ _ be;refine xA (A a7) λa1 a2 a3 a4=>?_;let hl:=v5...*;refine sQ pK ⟨_,a4,O⟩ PySem.F.entry_list_append (PySem.F.args_list_append_2 _ _) (dC s⁻¹ a.toArray k u' (by rw[mY];lia)) {a4, ?_};let q:=PySem.IsL.update a4 (λxs:Array V0=>xs.push u');let eq:a.toArray.push u'=(a++ [u']).toArray:=by simp
    rw[eq] at q;obtain⟨x1,x2⟩:=I0.ok.exf s⁻¹ mD;let bh:=(a7.pins_of (pins':=[]) (λp w=>nomatch w)).turned (it:=s⁻¹) (t':=ab.toks) (h':=ab.heap.update s⁻¹ (Obj.mapSeq (λxs:Array V0=>xs.push u'))) (λb o f e=>(mV ab.heap _ (Ne.symm f)).trans e) a3 x1 (.inl mD) x2 (λp w=>absurd (show p∈([]:C7) from w) (by simp));refine{m',hm,i+1,ys++ [y],bg,a++ [u'],_,bh.weak wk.1 wk.2, ?_,a2,a3,v5.append (.cons bk .nil),q,by rw[mM,nL];lia,bc};exact T.keep _ _ _ a1 λb f o e=>(mV ab.heap _ (rC (ak b f))).trans e
 let aa:=rT av (R':=λr s'=>Value.ref s⁻¹= .ref s⁻¹/\RR (yF s)⁻¹ r s') λr s' z=>⟨O,z⟩;exact codeAny_compStart_list aa (T.self X.A 0 _ _ _ ax aa)
end
end L2
namespace L2
open PySem PySem.Spec PyProof.Rows PySem.W PySem.Builtin PySem.Builtin.ObjectAttr
structure Xp(K:Frag)(nm:Str)(C B:V1):Prop where
 obj:∃(N:V1)(o:Obj),K.lookup C=Y o/\XObj nm C N (.ref B::veMro) o/\nsOkIn K N=true/\nsIn K N "__init__" =Y none
 tl:tailIn K veMro (.ref B::veMro)=true
 kp:keepIn K (.ref C)=true
section
variable{X:Cx}{C B:V1}{nm:Str}
theorem zUe{a:C7}{σ:St}{H:Hp}{s:V2}{D:C9}{L:C9}{us:B7}(c:Xp X.K nm C B)(hex:X.ex= [])(I:Inv X a σ H s)(hl:us...*<=100)
  (q:∀x s',X.s₀.heap.get? x=none->H x=none->Inv X a σ (upd H x (exO x C none)) s'->D (.ref x) s'):V8 (S8 X.prog X.w) X.A (call (.ref C) us) D L s:=by
 obtain⟨N,o,lk,⟨q',bs,A,sn,sub,ab,J,dd,k0,k1,k2,k3,k5,rfl⟩,k,r⟩:=c.obj;let hT:=tail_of_in I.kIn c.tl;let hC:=I.kIn _ _ lk;let M:s.heap.Ns N (s.heap.nsMap N):=.of_isNs (isNs_of_in I.kIn k);let E:s.heap.nsMap N "__init__" =none:=nsMap_none_of_in I.kIn k r;let d:=I;obtain⟨h,g,dr,t,os⟩:=s;refine wpAny_call_exc_subT PySem.F.excBase_ValueError hT hC M E (λh' x l=>?_) (by rw[mS];lia);obtain⟨t',ht,_⟩:=l.there;let u:∀b o,h.get? b=Y o->b≠x:=λb o e z=>by rw[z,l.new] at e;cases e
 let f:H x=none:=by
  cases e:H x with
  |none=>rfl|some o=>
   obtain⟨ob,j⟩:=i8 (d.hok x o e);rw[l.new] at j;cases j
 let i:X.s₀.heap.get? x=none:=by
  cases e:X.s₀.heap.get? x with
  |none=>rfl|some o=>
   obtain⟨o',w⟩:=d.base.there x o e (by rw[hex];exact λz=>nomatch z);rw[l.new] at w;cases w
 refine q x _ i f ((d.kept (t':=t) l.keeps).track f i (λz=>?_) (λy c e z=>?_) (λp Q z=>?_) (zEg ht O O O))
 ·obtain⟨m,⟨o,_,_,n,_⟩,_⟩:=d.loc
  exact u _ _ n z.symm
 ·refine wS (d.cell y c e) λv o n _=>?_
  exact u _ _ n z
 ·exact u _ _ (d.pin p Q).1 z
theorem yCl{H:Hp}{x:V1}{o:HO}(a:H x=none):drp (upd H x o) x=H:=by
 funext b
 by_cases z:b=x
 ·subst z;rw[zAl,a]
 ·rw[qL z,zM z]
def zMm(C:V1)(E:XK)(t:TA):TS:=λ_ σ H=>t σ H λa b=>a...*<=100/\E (.ref C) none b
structure Xr0(K:Frag)(mg:C8)(cn:Str)(C:V1):Prop where
 ex:∃(nm:Str)(B:V1),Xp K nm C B/\mg cn=Y (.ref C)
theorem zTm{φ:V0->Prop}{E:XK}{g:Str}{p a b:Pos}{e:Expr}{f:C5}{t:TA}(R:Xr0 X.K X.mg g C)(hg:Gl X g)(d:X.calm=true)(l:Lvs φ X E)(ha:PA X (e::f) t)(k:(g==("__debug__" :Str))=false:=by decide)
  (he:A5 (e::f) X.env=(false,eval e X.env)::A5 f X.env:=by rfl) (w:(S5 a (A5 f X.env)).any (·.1)=false:=by rfl):PS X (.Raise ↥(.Call (.Name g p) (e::f) [] a) none b) (zMm C E t):=by
 intro i s σ H D I h;refine wS (R.ex) λnm B c hm=>?_;ext vB l hs hf hex L m;rw[arm_exec_Raise];refine mC (rR ?_);show V8 _ _ (raiseStmt X.env ↥(do let v <-eval (.Call (.Name g p) (e::f) [] a) X.env;S3 b;pure v) none) _ _ _;refine yL (c.obj) λN o lk hX _=>?_;refine zFo (nm:=nm) (C:=C) (N:=N) (bm:=.ref B::veMro) (by rw[sO,show veMro.contains (.type "BaseException")=true by decide,tU]) (I.ok.hd d) (mC ?_);refine rA (qS I hg hm ?_ k);refine callWith_K (h₀:=X.base) I.ok.mod.kin c.kp (thn (ha a i s σ H _ I h) λJ s1 ⟨vs,H1,z,r,A,q⟩=>⟨z.kIn, ?_⟩) he w;refine zUe c hex z (by show J...*<=100;rw[<-r...*];exact A) λx s2 j hx u=>?_;refine mC (rR (mT ?_));let y:upd H1 x (exO x C none) x=Y (exO x C none):=zC;refine jD (zBt u y) λn Q h6 M h2=>?_;refine{x,_,_,n,O,u.kIn _ _ lk,hX,Q,O,O,M,m _ _ (zIc u hs hf hex y j L ?_)};rw[yCl hx];exact q
end
section
variable{prog:V3}{w:V4}{A:Around}{K:Frag}{C x:V1}{ox:Obj}{od:Option Obj}{name:Str}{E:C9}{s:V2}
end
section
variable{X:Cx}{pins:C7}{σ:St}{H:Hp}{s:V2}{x C:V1}
end
section
variable{X:Cx}
end
end L2
namespace L2
open PySem PySem.Spec PyProof.Rows
def ItD(lo:Int)(n:Nat):It:={λi _=>i<n,λi H x a=>a=H/\x= .int (lo - i),λi _=>n<=i}
theorem zTr{P:V3}{w:V4}{K:PySem.W.Frag}{L:Expr}(it:V1)(lo:Int)(n:Nat):zHt P w K L (ItD lo n) [it] it (λi h=>IsRangeIter h it (lo+(i:Nat)*(-1)) ((n:Int)- (i:Nat)) (-1)) where
 mem:=by simp
 obj:=λi h st b c=>by
  let e:b=it:=by simpa using c
  subst e;exact{_,st,λv z=>by
   let M:Data.fields _=Data.cell v:=z;cases M}
 keep:=λi h f st k=>k it (by simp) _ st
 item:=by
  intro X r u A x i a s σ H E I g st y;subst r u A;refine zS (g it (by simp)) λj q N l p m=>?_;let W:=Walks.range (prog:=X.prog) (w:=X.w) (I.ok.hd x) it lo (-1) n;refine W.item i s _ _ y st λv f B J d D=>?_;obtain⟨t,rfl⟩:=J;let I1:Inv X a σ H {s with heap:=f,toks:=B}:=I.turned (λb o c e=>D b o (by simpa using c) e) j q l p m;refine{_,O,zLs (s:={s with heap:=f,toks:=B}) (n:="range_iterator") d O O ∎ {.int (lo - i),H,I1,{t, ?_},⟨O,O⟩,d,λb c=>(g b c).1}};let e:lo+((i:Nat):Int)*(-1)=lo - i:=by lia
  rw[e]
 done:=by
  intro X r u A x i a s σ H E I g st y;subst r u A;refine zS (g it (by simp)) λj q N l p m=>?_;exact wpAny_pyNext_range_end (I.ok.hd x) st (by let:n<=i:=y;lia) λf Q=>{O,I.turned (t':=s.toks) (λb o c e=>Q b o c e) j q l p m}
 self:=λ_ _ _ _ _ st h=>wpAny_pyIter_rangeiter st h
theorem zAr(lo:Int)(h: -1<=lo):S7 lo (-1) (-1)=lo+1:=by
 unfold S7;simp
 lia
theorem zOh{lo:Int}(a: -1<=lo)(b:lo<1000):Builtin.Range.small lo (-1) (-1)=true:=by
 unfold Builtin.Range.small;rw[zAr lo a];simp[Builtin.Range.rangeFitsLong]
 lia
section
variable{X:Cx}{tg:Expr}
def yEj(ta:TA):TI:=λσ H R=>ta σ H λa b=>∃i:Int,a= [.int i, .int (-1), .int (-1)]/\-1<=i/\i<1000/\R (ItD i (i+1).toNat) b
theorem yDa{a b c:Expr}{ta:TA}{p j:Pos}(M:Gl X "range")(E:X.mg "range" =none)(J:PA X [a,b,c] ta)(L:A5 [a,b,c] X.env= [(false,eval a X.env),(false,eval b X.env),(false,eval c X.env)]:=by rfl)(g:A5 [b,c] X.env= [(false,eval b X.env),(false,eval c X.env)]:=by rfl):
  PI X tg (.Call (.Name "range" p) [a,b,c] [] j) (yEj ta):=by
 intro d s σ H R I h;refine Call_ (zAb I M E boot_range (rP (thn (J j d s σ H _ I h) λus f z_=>?_) (by rw[L,g]) (by rw[g];rfl)));obtain⟨Q,u,D,N,B⟩:=z_;ext jD B i e n w q;subst e
 cases N with
 |cons r k=>
  cases k with
  |cons A k=>
   cases k with
   |cons z k=>
    cases k;obtain⟨t,rfl⟩:=r;obtain⟨l,rfl⟩:=A;obtain⟨t2,rfl⟩:=z;refine call_range_3 ∎ ?_ (nO (PyProof.noPylong_small ∅));refine wpAny_pyIter_range (IsRange.new ..) (zOh n w) ?_;let m:Inv X d σ u {f with heap:=f.heap.push {cls:=.type "range",data:=.fields #[.int i t, .int (-1) l, .int (-1) t2]},toks:=f.toks}:=D.kept λb o e=>mL _ e;refine⟨(f.heap.push {cls:=.type "range",data:=.fields #[.int i t, .int (-1) l, .int (-1) t2]}).objs.size,[(f.heap.push {cls:=.type "range",data:=.fields #[.int i t, .int (-1) l, .int (-1) t2]}).objs.size],_,_,u,rfl,
     m.kept (t':=f.toks) λb o e=>mL _ e,zTr _ i (i+1).toNat, ?_,λb y=>?_,q⟩
    ·let x:i+((0:Nat):Int)*(-1)=i:=by simp
     let v:((((i+1).toNat:Nat):Int))- ((0:Nat):Int)=S7 i (-1) (-1):=by rw[zAr i n];lia
     show IsRangeIter _ _ (i+((0:Nat):Int)*(-1)) ((((i+1).toNat:Nat):Int)- ((0:Nat):Int)) (-1);rw[x,v];exact nM _ O
    ·let e:b=(f.heap.push {cls:=.type "range",data:=.fields #[.int i t, .int (-1) l, .int (-1) t2]}).objs.size:=by simpa using y
     subst e;exact m.fpOk (mE _) (m.hok.fresh (mE _))
theorem zTd{lo:Int}{n:Nat}{g:TG}{tb:TS}{D:gG}{σ:St}{H:Hp}(Pv:Nat->St->Hp->Prop)(b:Pv 0 σ H)
  (h:∀i σ H,i<n->Pv i σ H->g (.int (lo - i)) σ H λσ2 H2=>tb {D with nx:=Pv (i+1),ct:=Pv (i+1),bk:=D.nx} σ2 H2) (f:∀σ H,Pv n σ H->D.nx σ H):yAb g tb D σ (ItD lo n) H:=by
 refine{λi m σ H=>m=n - i/\i<=n/\Pv i σ H,{n,by simp,nR _,b}, ?_};rintro i m σ H ⟨rfl,j,p⟩
 by_cases a:i<n
 ·refine .inr {a,Pv (i+1),λk c d=>{n - (i+1),∅,O,a,d},λx c y=>?_}
  obtain⟨e,y⟩:=y;subst e y;exact h i σ _ a p
 ·let e:i=n:=by lia
  subst e;exact .inl {mE _,f σ H p}
theorem zLn:wX X (.type "dict") (λxs H Q=>∃p kvs,xs= [.ref p]/\H p=Y (.dK kvs)/\∀l,H l=none->Q (.ref l) (upd H l (.dK kvs))):=by
 intro g s σ H xs y Q I r h;ext yL h p kvs c t q;subst c;obtain⟨u,rfl,n⟩:=jH r;cases n;obtain⟨z,m,j,a,v⟩:=I.hok p _ t;let x:=a...*;refine kt_call_dict m v ∅ λi d w=>?_;let f:(s⁻¹==A7)=false:=by
  let:=I.big;exact rV.mpr (rC this)
 refine{.ref s⁻¹,_,I.laid (t':=s.toks) (h':=i) (λb o e=>?_) (mE _) (o:=.dK kvs) ⟨z,f,j,a,d⟩,O,q _ (I.hok.fresh (mE _))};let k:b≠s⁻¹:=nP (mZ e);rw[w.2 b k];exact mL _ e
end
theorem FunD.okx{P:V3}{w:V4}{K:A9}{m:C8}{base:V5}{x b:Str}{st:V6}{f:V1}{l:V7}{N ps:C1}{k:Nat}{sp:Sp}(F:FunD K x b st f l)(S:wF N ps (yB st))(len:∀d H Q E,sp d H Q E->d...*=ps...*)
  (e:∀(c:V0)(A:Around)(a:List P0)(s:V2)(H:Hp)(d:B3)(Q:VK)(E:XK),Room k (A.deeper (envOfC b (yB st) s⁻¹ f c))->sp d H Q E->
   ∃t,PSs (zCl (CXE φ P w) P w K m base N b (yB st) f c A a s H E) (xQ st) t/\t {nx:=λ_ H'=>Q .non H',rt:=Q} (jX N d) H):FnOk P w K m base (CXE φ P w) (k+1) f l ps sp:=by
 refine yA (F.ex) λz r q kV o j=>?_;ext yA j y u c v n j;ext oAA j g lk i;subst g;exact zQf lk i S len λA a s H d Q E p h=>e c A a s H d Q E p h
structure Ddx(φ:V0->Prop)(P:V3)(w:V4)(K:A9)(mg:C8)(base:V5)(k:Nat)(x:Str)(ps:C1)(dvs:B3)(sp:Sp):Prop where
 ex:∃(f:V1)(fd:V7)(ds:B7),FnOk P w K mg base (CXE φ P w) k f fd ps sp/\Binds K fd ps ds/\Vals dvs ds/\S0 K (.ref f)=true/\mg x=Y (.ref f)
section
variable{X:Cx}{k j:Nat}{x:Str}{ps:C1}{dvs:B3}{sp:Sp}{e:Expr}{es:C5}{t:TA}{p pos:Pos}{E:XK}
end
theorem Reps.set{H:Hp}{v:V}{t:T}(b:Rep H v t):∀{xs:B3}{us:B0}(i:Nat),Reps H xs us->Reps H (xs.set i v) (us.set i t)
 |_,[],i,h=>by
  let e:_= []:=h;subst e;exact O
 |_,u::us,0,⟨x,r,e,c,a⟩=>by subst e;exact⟨v,r,O,b,a⟩|_,u::us,i+1,⟨x,r,e,c,a⟩=>by subst e;exact{x,_,O,c,Reps.set b i a}
section
variable{X:Cx}
def rIns:V->List V->Hp->VK->Prop:=λx b H Q=>∃l a i y,x= .ref l/\b= [.int i,y]/\H l=Y (.lst a)/\0<=i/\i<=(a...*:Int)/\a...*<V9/\a...*<=100000/\Q .non (upd H l (.lst (a.take i.toNat++y::a.drop i.toNat)))
theorem zTt:MtM X "list.insert" rIns:=by
 intro m s σ H x E v us Q I A p h;ext yN h l N i y f c;ext zS c d k D J M c;ext oA c L q;subst f d;cases A;refine yL (p.two) λu w g o j=>?_;subst g;obtain⟨t,rfl⟩:=o;obtain⟨z,a,n,r,hl,e⟩:=I.lstM k;let b:¬(!Builtin.List.listFitsIndex i)=true:=by
  rw[fitsIndex_both ∅ ∅];decide
 refine sQ F.slot_list_insert ⟨_,e,O⟩ F.entry_list_insert (F.args_list_insert_3 _ _ _) (AutoSeq1.list_insert_list_int_val_1 l a.toArray n i t w b (by rw[mY];lia)) {e, ?_};refine{.non,_,I.lset (its':=a.take i.toNat++w::a.drop i.toNat) k e ?_ ((r.take _).append (.cons j (r.drop _))) ?_,O,q}
 ·let B:(if i<0 then(i+(a.toArray.size:Int)).toNat else min i.toNat a.toArray.size)=i.toNat:=by
   rw[mI ∅,mY]
   lia
  show(a.toArray.extract 0 (if i<0 then(i+(a.toArray.size:Int)).toNat else min i.toNat a.toArray.size)).push w++a.toArray.extract (if i<0 then(i+(a.toArray.size:Int)).toNat else min i.toNat a.toArray.size)=_;rw[B];apply Array.ext';simp;exact rM (by rw[rD];exact mE _)
 ·rw[mM,mW,nZ,rD]
  lia
end
section
variable{X:Cx}{tg:Expr}
end
theorem yCc{X:Cx}{K:A9}(h:X.K=K):SlR X (yDn K):=by subst h;exact yBz
theorem yAa{X:Cx}{K:A9}(h:X.K=K):OpR X (binaryOp .Add) (yEd K):=by subst h;exact yCt
theorem vF{X:Cx}{K:A9}(h:X.K=K):wX X (.type "list") (λxs H Q=>∃p ys,xs= [.ref p]/\(SqL K H p ys\/SqT K H p ys)/\∀l,H l=none->Q (.ref l) (upd H l (.lst ys))):=by subst h;exact kF
theorem zSm{X:Cx}{K:A9}(h:X.K=K):wX X (.type "tuple") (λxs H Q=>∃p ys,xs= [.ref p]/\((SqL K H p ys/\∀l,H l=none->Q (.ref l) (upd H l (.tup ys)))\/(SqT K H p ys/\Q (.ref p) H))):=by subst h;exact zBs
theorem uZ{a b:TS}{D:gG}{σ:St}{H:Hp}(h:∀R:TS,R=b->jG a R D σ H):jG a b D σ H:=h b O
theorem cut2{a b c:TS}{D:gG}{σ:St}{H:Hp}(h:∀R:TS,R=c->jG a (jG b R) D σ H):jG a (jG b c) D σ H:=h c O
theorem cut3{a b c d:TS}{D:gG}{σ:St}{H:Hp}(h:∀R:TS,R=d->jG a (jG b (jG c R)) D σ H):jG a (jG b (jG c d)) D σ H:=h d O
theorem cut6{a b c d e f g:TS}{D:gG}{σ:St}{H:Hp}(h:∀R:TS,R=g->jG a (jG b (jG c (jG d (jG e (jG f R))))) D σ H):jG a (jG b (jG c (jG d (jG e (jG f g))))) D σ H:=h g O
end L2
namespace L2
open PySem PySem.Spec PyProof.Rows PySem.W
def PEat(X:Cx)(σ:St)(e:Expr)(t:TE):Prop:=
 ∀(a:C7)(s:V2)(H:Hp)(Q:VK),Inv X a σ H s->t σ H Q->V8 (S8 X.prog X.w) X.A (eval e X.env) (EP X a σ Q) X.xe s
def PSat(X:Cx)(σ:St)(st:List V6)(t:TS):Prop:=
 ∀(a:C7)(s:V2)(H:Hp)(D:gG),Inv X a σ H s->t D σ H->V8 (S8 X.prog X.w) X.A (execs st X.env) (SP X a D) X.xe s
def zGq(CX:CXT)(X:Cx)(σ:St)(E:XK):Prop:=∀(a:C7)(H:Hp)(s:V2)(e:V0)(b:V2),Inv X a σ H s->CX X.stack H s E e b->X.xe e b
section
variable{X:Cx}{CX:CXT}{k j:Nat}{f:V1}{fd:V7}{ps:C1}{sp:Sp}{dvs:B3}{ds:B7}{E:XK}{x:Str}{p pos:Pos}{e:Expr}{es:C5}{t:TA}{te:TE}{σ:St}
theorem zYr{a:C7}{H:Hp}{s:V2}{Q:VK}{us:B7}{vs:B3}(F:FnOk X.prog X.w X.K X.mg X.base CX k f fd ps sp)(i:Room k X.A)(l:Binds X.K fd ps ds)(o:Vals dvs ds)(n:zGq CX X σ E)
  (I:Inv X a σ H s) (r:Vals vs us) (h:sp (vs++dvs) H Q E):V8 (S8 X.prog X.w) X.A (call (.ref f) us) (EP X a σ Q) X.xe s:=by
 let c:Vals (vs++dvs) (us++ds):=r.append o;let d:(us++ds)...*=ps...*:=by rw[<-c...*];exact F.len _ _ _ _ h
 refine aB (rT (F.run X.A X.stack s H {us,[]} (us++ds) (vs++dvs) Q E i I.env0 (l s us I.kIn d) c h) λr m b=>?_)
 cases r with
 |error e=>exact n a H s e m I b|ok g=>
  cases g with|ret u=>exact I.after b|next=>exact False.elim b|brk=>exact False.elim b|cont=>exact False.elim b
theorem yFe{φ:V0->Prop}(D:Dx φ X.prog X.w X.K X.mg X.base k x ps sp)(o:Room j X.A)(y:k<=j)(v:Gl X x)(l:zGq (CXE φ X.prog X.w) X σ E)(n:PA X (e::es) t)(b:(x==("__debug__" :Str))=false:=by decide)
  (m:A5 (e::es) X.env=(false,eval e X.env)::A5 es X.env:=by rfl) (c:(S5 pos (A5 es X.env)).any (·.1)=false:=by rfl):PEat X σ (.Call (.Name x p) (e::es) [] pos) (gY sp [] E t):=by
 refine zR (D.ex) λf fd u w i g=>?_;intro a s H Q I h;refine rA (qS I v g ?_ b);refine PySem.W.callWith_K (h₀:=X.base) I.ok.mod.kin i (thn (n pos a s σ H _ I h) λJ z ⟨A,B,d,r,q⟩=>{d.kIn, ?_}) m c;exact zYr u (o.mono y) w .nil l d r q
theorem zXz(c:PEat X σ e te):PSat X σ [.Return ↥e pos] (zMs te):=by
 intro a s H D I h;exact bY (wpAny_Return_some (thn (c a s H _ I h) λv l ⟨x,i,b,g,d⟩=>⟨x,σ,i,b,g,d⟩))
end
section
variable{X:Cx}{B:V1}{bn:Str}{body suite:List V6}{b₀:V6}{bp hp pos:Pos}{tb:XK->TS}{ts:TS}{φ:V0->Prop}
end
end L2
namespace L2
open PySem PySem.Spec PyProof.Rows PySem.W
end L2
namespace L2
open PySem PySem.Spec PyProof.Rows PySem.W
theorem zHx:entryFor table "proto.unchain" =some Builtin.«proto.unchain»:=entryFor_of_fast (by kernel_rfl)
section
variable{prog:V3}{w:V4}{A:Around}{E:C9}{s:V2}{env:P0}{e h:V1}{oh oe:Obj}{vh ve:Array V0}
theorem zOa{α:Type}{Q:α->V2->Prop}(b:A.handled=Y (.ref h))(i:h≠e)(d:s.heap.get? h=Y oh)(f:oh.data= .fields vh)(g:vh[2]? =some .none)(c:s.heap.get? e=Y oe)(j:oe.data= .fields ve)(a:2<ve.size)
  (q:E (.ref e) {s with heap:=s.heap.update e (Obj.mapFields λxs=>xs.setIfInBounds 2 (.ref h))}):V8 (S8 prog w) A (raiseNew (.ref e):Sem α) Q E s:=by
 unfold raiseNew;refine mC (wpAny_handled ?_);rw[b];dsimp only;rw[mP (by
  refine bne_iff_ne.mpr λz=>i ?_;cases z;rfl)]
 refine mC (pL (runValue_entry zHx ?_));unfold Builtin.«proto.unchain»;dsimp only;refine mC (rN d f g ?_);rw[mP (by rfl)];refine mT {_,O, ?_};refine mC (sN c j a ?_);exact wpAny_throw q
theorem XObj.cls{nm:Str}{C N:V1}{bm:B7}{o:Obj}(h:XObj nm C N bm o):∃c,o.data= .cls c:=by
 ext yA h k g d l sub b;ext yA b m f n i j b;ext zVj b r q p a;subst a;exact⟨_,O⟩
theorem zNh{nm:Str}{C N:V1}{bm:B7}{m:String}{i:Obj}{Q:C9}(l:bm.contains (.type "BaseException")=true)(n:s.heap.get? C=Y i)(p:XObj nm C N bm i)(j:s.heap.get? e=Y oe)(b:oe.cls= .ref C)(o:oe.data= .fields ve)
  (q:Q (.ref e) s):V8 (S8 prog w) A (excFromValue (.ref e) m) Q E s:=by
 ext yA p v r g x sub d;ext yA d y k B t u d;ext zVj d I H D a;subst a;let f:∀c:ClassData,oe.data≠ .cls c:=λc z=>by rw[o] at z;cases z
 unfold excFromValue isExcClass;refine mC (mC (aW j f ?_));rw[mI nD];refine mT ?_;rw[mI nD];unfold PySem.isInstance;refine mC (mC (rQ j ?_));rw[b];refine cO n ?_;rw[show(Value.ref C::bm).contains (Value.type "BaseException")=true by
  rw[sO,l,tU],mP O]
 exact mT q
theorem zOd{nm nmb:Str}{C N B Nb:V1}{bm bmb:B7}{x c:Sem V0}{Q:Flow->V2->Prop}(d:bm.contains (.type "BaseException")=true)(I:bmb.contains (.type "BaseException")=true)(hh:A.handled=Y (.ref h))
  (H:V8 (S8 prog w) A x (λv s1=>V8 (S8 prog w) A c (λu a=>∃(e:V1)(oe L oh oB:Obj)(f vh:Array V0),v= .ref e/\u= .ref h/\a.heap.get? C=Y L/\XObj nm C N bm L/\a.heap.get? B=Y oB/\XObj nmb B Nb bmb oB/\a.heap.get? e=Y oe/\oe.cls= .ref C/\oe.data= .fields f/\f.size=6/\f[1]? =some .none/\
   h≠e/\a.heap.get? h=Y oh/\oh.cls= .ref B/\oh.data= .fields vh/\vh[2]? =some .none/\
   ∀h' vs',h'.get? e=some {oe with data:=.fields vs'}->(∀b,b≠e->h'.get? b=a.heap.get? b)->vs'.size=6->vs'[1]? =some .none->E (.ref e) {a with heap:=h'}) E s1) E s):
  V8 (S8 prog w) A (raiseStmt env ↥x ↥c) Q E s:=by
 unfold raiseStmt;refine mC (thn H λv s1 H1=>?_);refine mC (pL (thn H1 λu a z_=>?_));obtain⟨e,oe,L,oh,oB,f,vh,ev,eu,n,hX,hB,hY,p,j,o,h6,h1,ne,l,y,m,t,q⟩:=z_;subst ev eu;refine mC (mT ?_);refine mC (pL (zNh d n hX p j o ?_));dsimp only;rw[mI (by intro z;cases z)];refine mC (pL (zNh I hB hY l y m ?_));let nC:C≠e:=λz=>by
  obtain⟨c,hc⟩:=hX.cls;rw[z,p] at n;cases n;rw[o] at hc;cases hc
 let g3:=uM p o 3 (.ref h);let o3:∀b,b≠e->(a.heap.update e (Obj.mapFields λi=>i.setIfInBounds 3 (.ref h))).get? b=a.heap.get? b:=λb d=>mV _ _ (Ne.symm d);refine mC (sN p o ∅ ?_);generalize a.heap.update e (Obj.mapFields λi=>i.setIfInBounds 3 (.ref h))=k3 at g3 o3⊢;let g:=uM g3 O 4 (.bool true);let r:∀b,b≠e->(k3.update e (Obj.mapFields λi=>i.setIfInBounds 4 (.bool true))).get? b=a.heap.get? b:=λb d=>(mV _ _ (Ne.symm d)).trans (o3 b d);refine mC (sN g3 O (by rw[sR];lia) ?_);generalize k3.update e (Obj.mapFields λi=>i.setIfInBounds 4 (.bool true))=k4 at g r⊢;dsimp only at g⊢;let J:∀c:ClassData,({oe with data:=.fields ((f.setIfInBounds 3 (.ref h)).setIfInBounds 4 (.bool true))}:Obj).data≠ .cls c:=λc z=>nomatch z;refine mC (aW g J ?_);rw[mI nD];ext yA hX q' bs aa sn sub D;ext yA D ab ae dd k0 k1 D;ext zVj D k2 ac k5 k;subst k;let M:=(r C nC).trans n;unfold raisedInstance;refine mC (mC (rQ g ?_));rw[j];refine mC (rQ M ?_);rw[mP (by rfl)];refine mT ?_;let f1:((f.setIfInBounds 3 (.ref h)).setIfInBounds 4 (.bool true))[1]? =Y Value.none:=by
  rw[pU ∎,pU ∎];exact h1
 let fz:((f.setIfInBounds 3 (.ref h)).setIfInBounds 4 (.bool true)).size=6:=by
  rw[sR,sR];exact h6
 refine mC ?_;unfold setFlight;refine mC (rN g O f1 ?_);rw[mI (by intro z;cases z)];refine mT ?_;refine zOa hh ne ((r h ne).trans l) m t g O (by rw[fz];decide) ?_;refine q _ _ (uM g O 2 (.ref h)) (λb d=>(mV _ _ (Ne.symm d)).trans (r b d)) ?_ ?_
 ·rw[sR];exact fz
 ·rw[pU ∎];exact f1
end
end L2
namespace L2
open PySem PySem.Spec PyProof.Rows PySem.W
theorem RoomH.make{k:Nat}{A:Around}(r:RoomH (k+1) A)(C:V1)(us:B7)(a:List (Str×V0)):RoomH k (A.under (.builtin "type.__call__" {.ref C::us,a})):=
 {by let:=r.dp;rw[zHi];lia,by let:=r.un;rw[zHn];lia}
section
variable{X:Cx}{C B fI:V1}{nm f:Str}{k:Nat}{fd:V7}{ps:C1}
theorem zWj{o b:Expr}{i m:Pos}{J ta:TE}(c:zEb X.K nm C B fI)(t:findIn X.K (.ref C) f=Y none)(N:PE X b J)(ha:PE X o ta)(hs:S4 b ↥(.Attribute o f i) m.line X.env=pure false:=by rfl):PS X (.Assign [.Attribute o f i] b m) (yDz C f J ta):=by
 intro j s σ H D I h;refine cD (thn (N j s σ H _ I h) λu Q ⟨y,H1,I1,ry,q⟩=>thn (ha j Q σ H1 _ I1 q) λov l z_=>?_) hs;obtain⟨z,p,n,rx,x,ez,w,q2⟩:=z_;subst ez;obtain rfl:ov=Value.ref x:=rx;refine jD (zBt n w) λvs he h6 h1 h2=>?_;refine xC (c.cd) λcd hc hm hd=>?_;refine yEc n.kIn hc hm hd he O (λ_ z=>by cases z) O c.set t λE t' A g2 L=>?_;let d:p l⁻¹=none:=n.fresh;let v:l⁻¹≠x:=λz=>by rw[z,w] at d;cases d
 let r:Mut (p x):=by rw[w];exact mK
 let u1:Un X.fs [] p (upd p x (exO x C ↥l⁻¹)) l.heap E:=Un.write (e:=x) r (.inl O) L ⟨_,A⟩;let M:HOk X.prog X.w (upd p x (exO x C ↥l⁻¹)) E:=n.hok.write (e:=x) r (.inl O) L ⟨_,A⟩ (zEg A h6 h1 h2);refine{σ,_,n.un (t':=t') (u1.also (a:=l⁻¹) (o:=.xd [(f,y)]) (mE _) d) (M.also (by rw[zM v];exact d) ?_),q2 _ d};refine{_,g2,λg=>?_};show RelO (List.lookup g [(f,y)]) _;rw[rX,List.lookup_nil]
 by_cases z:g=f
 ·subst z
  rw[mP O,dI];exact ry
 ·rw[mI z,show(g==f)=false from rV.mpr z]
  trivial
def zRy(C:V1)(f:Str):Sp:=λb H Q _=>∃x a v,b= [.ref x,a,v]/\H x=Y (exO x C none)/\∀d,H d=none->Q .non (upd (upd H x (exO x C ↥d)) d (.xd [(f,v)]))
theorem zSz{l:C7}{σ:St}{H:Hp}{s:V2}{Qx:C9}{EE:C9}{us:B7}{w v:V}(c:zEb X.K nm C B fI)(F:zNq X.prog X.w X.K X.mg X.base k fI fd ps (zRy C f))(hr:RoomH (k+1) X.A)(hb:Binds X.K fd ps [])(I:Inv X l σ H s)(r:Vals [w,v] us)
  (q:∀x d y,X.s₀.heap.get? x=none->s.heap.get? x=none->H x=none->H d=none->d≠x->Inv X l σ (upd (upd H x (exO x C ↥d)) d (.xd [(f,v)])) y->Qx (.ref x) y):V8 (S8 X.prog X.w) X.A (call (.ref C) us) Qx EE s:=by
 refine wS (c.obj) λN o lk hX=>?_;let M:us...*<=100:=by rw[<-r...*];show(2:Nat)<=100;decide
 let E:X.s₀.heap.get? (s⁻¹+1)=none:=rK (nW I.sz (pP _));let D:s.heap.get? (s⁻¹+1)=none:=rK (pP _);let A:H (s⁻¹+1)=none:=I.hok.fresh (pP _);let he:((s.heap.push {cls:=.type "tuple",data:=.seq us.toArray}).push (kR C s⁻¹)).get? (s⁻¹+1)=Y (kR C s⁻¹):=by
  rw[<-(sZ .. :(s.heap.push {cls:=.type "tuple",data:=.seq us.toArray}).objs.size=s⁻¹+1)];exact nM _ O
 let L:=I.laid (t':=s.toks) (a:=s⁻¹+1) (o:=exO (s⁻¹+1) C none) (h':=(s.heap.push {cls:=.type "tuple",data:=.seq us.toArray}).push (kR C s⁻¹)) (λb ob e=>mL _ (mL _ e)) (pP _) (zEg he O O O);let Q:Vals [V.ref (s⁻¹+1),w,v] (Value.ref (s⁻¹+1)::us):=.cons O r;let p:zRy C f [V.ref (s⁻¹+1),w,v] (upd H (s⁻¹+1) (exO (s⁻¹+1) C none)) (λu H2=>u= .non/\∃d,H d=none/\d≠s⁻¹+1/\H2=upd (upd H (s⁻¹+1) (exO (s⁻¹+1) C ↥d)) d (.xd [(f,v)])) E0:=by
  refine{_,w,v,O,zC,λd m=>{O,d, ?_}};let j:d≠s⁻¹+1:=λz=>by rw[z,zC] at m;cases m
  rw[zM j] at m;exact{m,j,by rw[zKu]}
 let hl:((Value.ref (s⁻¹+1)::us)++ [])...*=ps...*:=by
  rw[pJ,<-Q...*];exact F.len _ _ _ _ p
 let n:=hb _ (Value.ref (s⁻¹+1)::us) L.kIn hl;rw[pJ] at n;let run:=F.run _ X.stack _ _ {Value.ref (s⁻¹+1)::us,[]} (Value.ref (s⁻¹+1)::us) _ _ E0 (hr.make C us []) (L.env0.make C us []) n Q p;let I1:=I;obtain⟨h,g,dr,t,os⟩:=s;refine aB (zVt I1.kIn lk hX c.tl c.init c.fn M (rT run λr y i=>?_))
 cases r with
 |error e=>exact False.elim i|ok fl=>
  cases fl with
  |ret u=>
   refine zR (L.after i) λv' H' I3 rv ev z_=>?_;ext xC z_ d m j J;subst J;subst ev;exact{rv,q _ d y E D A m j I3}
  |next=>exact False.elim i|brk=>exact False.elim i|cont=>exact False.elim i
end
end L2
namespace L2
open PySem PySem.Spec PyProof.Rows PySem.W
def nC(v:V0):Prop:=v= .none
def aC(_:V0):Prop:=True
section
variable{X:Cx}{pins:C7}{σ:St}{H:Hp}{s:V2}{x C:V1}{d:Option V1}{φ:V0->Prop}{vs:Array V0}{a0:V0}{ψ:V5->Prop}{EE:C9}
theorem yAt{Q:Unit->V2->Prop}(I:Inv X pins σ H s)(u:X.stack=X.env::X.outer)(h:X.env.frame=Y X.env.locals)(hex:X.ex= [])(D:H x=Y (.ext ψ))(ab:X.s₀.heap.get? x=none)(he:s.heap.get? x=some {cls:=.ref C,dict:=d,data:=.fields vs})(h0:vs[0]? =Y a0)(f:vs[1]? =some .none)(w:∃cx,vs[2]? =Y cx/\φ cx)
  (q:∀T f,Inv X pins σ (drp H x) {s with heap:=f}->Fl φ f x T (.ref C) d a0 (rawInt X.env.locals)->X.s₀.heap.get? T=none->drp H x T=none->x∉frs X.stack->T∉frs X.stack->Q () {s with heap:=f}):
  V8 (S8 X.prog X.w) X.A (noteFrame (.ref x) X.env) Q EE s:=by
 let aa:frs X.stack=X.env.locals::X.fs:=by
  rw[u];unfold frs;rw[pW,h];rfl
 let l:=I.ok.frames;rw[u] at l;let M:x∉frs X.stack:=λz=>by
  let:=I.stkFree x z;rw[D] at this;cases this
 let st:=I.stack;let k:=M;rw[u] at k st;refine zLr (φ:=φ) l st h he k O h0 f w λf g N i E=>?_;rw[<-u] at i;let a:=I.base;rw[hex] at a;let r:H g=none:=by
  cases e:H g with
  |none=>rfl|some o=>
   obtain⟨ob,m⟩:=i8 (I.hok g o e);rw[E] at m;cases m
 let t:X.s₀.heap.get? g=none:=by
  cases e:X.s₀.heap.get? g with
  |none=>rfl|some o=>
   obtain⟨o',J⟩:=a.there g o e (λz=>nomatch z);rw[E] at J;cases J
 let nT:g∉frs X.stack:=λz=>by
  obtain⟨o,e,_⟩:=gL I.stack g z;rw[E] at e;cases e
 let p:∀b o,H b=Y o->(∀φ,o≠ .ext φ)->b≠x:=λb o e n z=>by
  subst z;rw[D] at e;exact n _ (mU e).symm
 let v:∀b,H b=none->drp H x b=none:=λb e=>by
  unfold drp;split
  ·rfl
  ·exact e
 let j:∀b,H b=none->b∉ [x]:=λb n z=>by
  rw[mH.mp z,D] at n;cases n
 let B:HOk X.prog X.w (drp H x) s.heap:=λb o e=>by
  by_cases z:b=x
  ·subst z;rw[zAl] at e;cases e
  ·rw[qL z] at e
   exact(I.hok b o e).stay (λ_ _ _ q=>q) (λc q=>by rw[qL (p c _ q λ_ y=>nomatch y)];exact q) λc xs q=>by rw[qL (p c _ q λ_ y=>nomatch y)];exact q
 let un:Un (frs X.stack) [] H (drp H x) s.heap f:={λb o e n h _=>i.keep b o e h (j b n),λb o e n h _=>i.slot b o e h (j b n),λb o e n _=>v b n,λb o e _=>by
   by_cases z:b=x
   ·ext yN N oe _ _ _ e1 _
    rw[z];exact⟨oe,e1⟩
   ·let L:b∉ [x]:=λy=>z (mH.mp y)
    by_cases h:b∈frs X.stack
    ·obtain⟨sl,e2⟩:=i.slot b o e h L
     exact⟨_,e2⟩
    ·exact⟨o,i.keep b o e h L⟩,
  λb xs e=>by rw[qL (p b _ e λ_ y=>nomatch y)];exact e,
  λb ob xs e=>by rw[qL (p b _ e λ_ y=>nomatch y)];exact e,
  λb ps e=>{#[],by rw[Array.append_empty,qL (p b _ e λ_ y=>nomatch y)];exact e}}
 let I1:Inv X pins σ (drp H x) {s with heap:=f}:=I.call' (s':={s with heap:=f}) O un (kU B i (λb A=>v b (I.stkFree b A)) λb A=>by rw[mH.mp A];exact zAl) I.bare (λb z=>nomatch z);exact q g f I1 N t (v _ r) M nT
theorem CXF.of{E:XK}{T:V1}{g f:V0}(I:Inv X pins σ H s)(hex:X.ex= [])(F:Fl φ s.heap x T g d a0 f)(h:X.s₀.heap.get? x=none)(a:X.s₀.heap.get? T=none)(b:H x=none)(e:H T=none)(nx:x∉frs X.stack)(k:T∉frs X.stack)(q:E g d H):CXF φ X E [] (.ref x) s:=by
 let i:=I.base;rw[hex] at i;exact{x,T,g,d,a0,f,H,O,I.os,I.bare,i,I.hok,h,a,b,e,F,q,I.stack,I.stkFree,nx,k,λc j=>nomatch j}
theorem Fl.same{h h':V5}{T a:V1}{c f:V0}(F:Fl φ h x T c d a0 f)(t:x≠a)(p:T≠a)(k:Heap.SameBut a h h'):Fl φ h' x T c d a0 f:=by
 ext yN F g vs o ts j b;ext zS b u m q e l b;ext oAA b n i r;exact{g,vs,o,ts,(k.2 _ t).trans j,u,m,q,e,l,n,(k.2 _ p).trans i,r}
theorem CXF.has{E:XK}{cs:B9}{e:V0}(h:CXF φ X E cs e s):∃a c vs T,e= .ref a/\s.heap.get? a=Y c/\c.data= .fields vs/\vs[1]? =Y (.ref T):=by
 ext yA h x T C d a0 b;ext zR b f y g os i b;ext zS b v t m k l b;ext xA b u j q _;subst g;ext yN j c vs B ts n b;ext zS b w z p A o r;exact⟨x,c,vs,T,O,n,p,o⟩
theorem r6{E:XK}{e:V0}{W:C9}(n:X.Ok)(g:X.stack=X.env::X.outer)(l:X.env.frame=Y X.env.locals)(h:CXF φ X E [] e s)(q:∀b,CXF φ X E [] e b->W e b):cameBackBy (S8 X.prog X.w) X.A X.env W e s:=by
 refine yN (h.has) λa o vs T c f=>?_;ext oAA f j m k;subst c;show V8 _ _ _ _ _ _;refine mC (rN j m k ?_);rw[mI (by intro z;cases z)];exact thn (k8 n g l h) λ_ b i=>q b i
end
end L2
namespace L2
open PySem PySem.Spec PyProof.Rows PySem.W
noncomputable def exG(x C:V1)(d:Option V1):HO:=.ext λh=>∃(a:Obj)(b:Array V0),h.get? x=Y a/\a.cls= .ref C/\a.dict=d/\a.data= .fields b/\b[2]? =some .none
theorem yHa{P:V3}{w:V4}{H:Hp}{h:V5}{x C:V1}{d:Option V1}{b:Obj}{vs:Array V0}(e:h.get? x=Y b)(c:b.cls= .ref C)(g:b.dict=d)(i:b.data= .fields vs)(f:vs[2]? =some .none):ObjOk P w H h x (exG x C d):=
 {⟨b,vs,e,c,g,i,f⟩,⟨_,e⟩,λ_ _ ⟨b,vs,e,a⟩ k=>{b,vs,k _ e,a}}
noncomputable def exK(x C:V1)(d:Option V1):HO:=.ext λh=>∃a:Array V0,h.get? x=some {cls:=.ref C,dict:=d,data:=.fields a}/\a.size=6/\a[1]? =some .none
theorem yFm{P:V3}{w:V4}{H:Hp}{h:V5}{x C:V1}{d:Option V1}{vs:Array V0}(e:h.get? x=some {cls:=.ref C,dict:=d,data:=.fields vs})(c:vs.size=6)(b:vs[1]? =some .none):ObjOk P w H h x (exK x C d):=
 {⟨vs,e,c,b⟩,⟨_,e⟩,λ_ _ ⟨vs,e,a⟩ k=>{vs,k _ e,a}}
structure Xh(P:V3)(w:V4)(K:Frag)(mg:C8)(base:V5)(k:Nat)(cn:Str)(C:V1)(f:Str):Prop where
 ex:∃(nm:Str)(B fI:V1)(fd:V7)(ps:C1),zEb K nm C B fI/\zNq P w K mg base k fI fd ps (zRy C f)/\Binds K fd ps []/\mg cn=Y (.ref C)
structure Xb(K:Frag)(mg:C8)(bn:Str)(B:V1):Prop where
 ex:∃(nm:Str)(BB fB:V1),zEb K nm B BB fB/\mg bn=Y (.ref B)/\exmOne K (.ref B) (.ref B)=Y true
def zRb(B C:V1)(i:Nat)(f:Str)(ta:TA)(E:XK)(σ:St):XK:=λh d c=>h= .ref B/\∀x,c x=none->ta (σ.set i ↥(.ref x)) (upd c x (exG x B d)) λg a=>a x=Y (exG x B d)/\∃e v,g= [e,v]/\∀b,a b=none->E (.ref C) ↥b (upd a b (.xd [(f,v)]))
def zLx(B C:V1)(i:Nat)(f:Str)(ta:TA)(E:XK)(tb:XK->TS):TS:=λD σ H=>tb (zRb B C i f ta E σ) D σ H
section
variable{X:Cx}{B C:V1}{bn cn n f:Str}{i j k:Nat}{body:List V6}{bp hp pos p np cpos rpos:Pos}{e:Expr}{es:C5}{tb:XK->TS}{ta:TA}{E:XK}{φ:V0->Prop}
theorem zSv{H:Hp}{x d:V1}{o a u:HO}(c:H x=none)(g:d≠x):drp (upd (upd (upd H x o) d u) x a) x=upd H d u:=by
 funext b
 by_cases z:b=x
 ·subst z
  rw[zAl,zM (Ne.symm g),c]
 ·rw[qL z,zM z]
  by_cases y:b=d
  ·subst y;rw[zC,zC]
  ·rw[zM y,zM z,zM y]
theorem zOr(R:Xh X.prog X.w X.K X.mg X.base k cn C f)(RB:Xb X.K X.mg bn B)(hr:Room j X.A)(hj:k+1<=j)(bw:Gl X cn)(br:Gl X bn)(hN:X.N.Nodup)(hi:X.N[i]? =Y n)(hl:X.env.scope.names.lookup n=some .local)(hv:Vis X.env.scope n)(l:Lvs φ X E)(hφ:∀v,φ v)
  (t:∀a W E' σ,zGq (CXE nC X.prog X.w) (X.pend a W) σ E'->PSat (X.pend a W) σ body (tb E')) (ha:∀v,PA (X.mark v) (e::es) ta)
  (ci:(bn==("__debug__" :Str))=false:=by decide) (ck:(cn==("__debug__" :Str))=false:=by decide) (bk:(n==("__debug__" :Str))=false:=by decide) (cr:(n==("__classdict__" :Str))=false:=by decide)
  (he:A5 (e::es) X.env=(false,eval e X.env)::A5 es X.env:=by rfl) (bz:(S5 cpos (A5 es X.env)).any (·.1)=false:=by rfl):
  PS X (.Try body [.ExceptHandler ↥(.Name bn bp) ↥n [.Raise ↥(.Call (.Name cn p) (e::es) [] cpos) ↥(.Name n np) rpos] hp] [] [] pos) (zLx B C i f ta E tb):=by
 intro a s σ H D I h;ext vB l g hf hex ct bl;refine zU (RB.ex) λcl BB fB cB b6 bc=>?_;refine yA (R.ex) λnm BC fI fd ps A=>?_;ext xA A cC FI cp bx;refine wpAny_Try_except ?_;let J:=t a (λe s'=>∃H1 s1,Inv X a σ H1 s1/\CXE nC X.prog X.w X.stack H1 s1 (zRb B C i f ta E σ) e s') (zRb B C i f ta E σ) σ
  (λce L s1 e s' I1 hx=>{L,s1,I1.unpend I.ok,hx}) [] s H D I.pend h
 refine pC J (λf s1 q=>?_) λe s1 ⟨H0,s0,I0,hx⟩=>?_
 ·cases f with
  |next=>obtain⟨σ',L,I',q⟩:=q;exact tZ {σ',L,I'.unpend I.ok,q}
  |brk=>obtain⟨σ',L,I',q⟩:=q;exact{σ',L,I'.unpend I.ok,q}
  |cont=>obtain⟨σ',L,I',q⟩:=q;exact{σ',L,I'.unpend I.ok,q}
  |ret u=>obtain⟨v,σ',L,I',r,q⟩:=q;exact{v,σ',L,I'.unpend I.ok,r,q}
 ext yA hx x T Cv d a0 A;ext wG A L cc os af un A;ext zS A ak ac ap al bo A;ext oAA A fl ax q;subst cc ax;let I2:Inv X a σ L s1:=I0.call' os un ak af (λb z=>absurd z (by simp));let a4:∀b,s0.heap.get? b=none->b∉frs X.stack:=λb t z=>by
  obtain⟨o,e,_⟩:=gL I0.stack b z;rw[t] at e;cases e
 let ar:=I0.ok.frames;let nx:=a4 x ac;let nT:=a4 T ap;let st:=I2.stack;rw[g] at ar;let aq:=nx;let bf:=nT;rw[g] at aq bf st;refine zKy ar st hf aq bf fl λh1 T1 f1 k1 n1=>?_;refine qE f1 λh2 f2 k2=>?_;rw[<-g] at k1;let a6:L T1=none:=by
  cases e:L T1 with
  |none=>rfl|some o=>
   obtain⟨ob,a3⟩:=i8 (I2.hok T1 o e);rw[n1] at a3;cases a3
 let ay:s0.heap.get? T1=none:=by
  cases e:s0.heap.get? T1 with
  |none=>rfl|some o=>
   obtain⟨o',e'⟩:=un.there T1 o e (λz=>nomatch z);rw[n1] at e';cases e'
 let k3:Kp (frs X.stack) [x,T,T1] s1.heap h2:=k1.trans (vG k2 λb t=>nomatch t) λc hc=>by
  rcases hc with z | z
  ·rcases mF.mp z with z | z
   ·rw[z];simp
   ·rw[mH.mp z];simp
  ·rw[mH.mp z.1];simp
 let aa:∀b∈ [x,T,T1],s0.heap.get? b=none/\L b=none:=λb t=>by
  rcases mF.mp t with z | z
  ·rw[z];exact⟨ac,al⟩
  ·rcases mF.mp z with z | z
   ·rw[z];exact⟨ap,bo⟩
   ·rw[mH.mp z];exact⟨ay,a6⟩
 let I3:Inv X a σ L {s1 with heap:=h2}:=I0.call' (s':={s1 with heap:=h2}) os (zBq un k3 λb t=>(aa b t).1) (kU ak k3 I2.stkFree λb t=>(aa b t).2) af (λb z=>absurd z (by simp));let LT:Looks (S8 X.prog X.w) h2 (typeOf (.ref x)) (.ref B):=by
  ext yN f2 oe vs oT cf e1 A;ext oA A e2 _;exact e2▸(Looks.ld e1).andThen .now
 refine bB (aQ ?_) (by intro z;cases z);refine qS (X:=X.mark (.ref x)) (I3.mark) br b6 ?_ ci;refine exm_one (M:=S8 X.prog X.w) I3.kIn LT bc _ _ _ {s1 with heap:=h2} (λ_ _ e=>e) ?_;refine codeAny_handlers_suite_as ?_;refine qE f2 λh3 f3 k4=>?_;let k5:Kp (frs X.stack) [x,T,T1] s1.heap h3:=k3.trans (vG k4 λb t=>nomatch t) λc hc=>by
  rcases hc with z | z
  ·exact z
  ·rw[mH.mp z.1];simp
 let I4:Inv X a σ L {s1 with heap:=h3}:=I0.call' (s':={s1 with heap:=h3}) os (zBq un k5 λb t=>(aa b t).1) (kU ak k5 I2.stkFree λb t=>(aa b t).2) af (λb z=>absurd z (by simp));let b':X.s₀.heap.get? x=none:=by
  cases e:X.s₀.heap.get? x with
  |none=>rfl|some o=>
   obtain⟨o',e'⟩:=I0.base.there x o e (by rw[hex];exact λz=>nomatch z);rw[ac] at e';cases e'
 ext yN f3 oe vs oT cf e1 A;ext zS A e2 e3 e4 _ _ A;ext yGb A _ _ _ _ cx A;ext oA A bt bi;let I5:Inv X a σ (upd L x (exG x B d)) {s1 with heap:=h3}:=by
  refine I4.track al b' (λz=>?_) (λy c e z=>?_) (λp hp z=>?_) (yHa e1 e2 e3 e4 (bt.trans (by rw[show cx=Value.none from bi])))
  ·obtain⟨m,⟨o,_,_,ho,_⟩,_⟩:=I0.loc
   rw[<-z,ac] at ho;cases ho
  ·refine wS (I0.cell y c e) λv o ho _=>?_
   rw[z,ac] at ho;cases ho
  ·let ho:=(I0.pin p hp).1
   rw[z,ac] at ho;cases ho
 refine zAw (v:=.ref x) I5 hN hi (.inl hl) O (λs4 I7=>?_) (.inr hl);let hq:=q x al;refine bY ?_;rw[arm_exec_Raise];refine mC (rR ?_);show V8 _ _ (raiseStmt X.env ↥(do let v <-eval (.Call (.Name cn p) (e::es) [] cpos) X.env;S3 rpos;pure v) ↥(do let v <-eval (.Name n np) X.env;S3 rpos;pure v)) _ _ _;refine wS (cC.obj) λN o lk hX=>?_;refine wS (cB.obj) λNB oB bj ch=>?_;let ao:∀b:V0,(b::veMro).contains (Value.type "BaseException")=true:=λb=>by rw[sO,show veMro.contains (.type "BaseException")=true by decide,tU]
 refine zOd (h:=x) (nm:=nm) (C:=C) (N:=N) (bm:=.ref BC::veMro) (B:=B) (nmb:=cl) (Nb:=NB) (bmb:=.ref BB::veMro) (ao _) (ao _) O (mC ?_);refine rA (qS (X:=X.mark (.ref x)) I7.mark bw bx ?_ ck);refine callWith_K (h₀:=X.base) I7.ok.mod.kin cC.kp (pC (ha (.ref x) cpos a s4 _ _ _ I7.mark hq) (λus s5 ⟨cu,H5,I9,r5,am,v0,v,ev,q5⟩=>{I9.kIn, ?_}) λ_ _ z=>False.elim z) he bz;subst ev;refine zSz (X:=X.mark (.ref x)) cC FI ((hr.h (v:=Y (.ref x))).mono hj) cp I9 r5 λw Q s6 ag cs ab aj an cq=>?_;refine mC (rR (mT ?_));let a9:x≠w:=λz=>by rw[<-z,am] at ab;cases ab
 let ca:x≠Q:=λz=>by rw[<-z,am] at aj;cases aj
 let cd:i<σ...*:=by rw[I.len];exact(mJ.mp hi).1
 let av:jC i (σ.set i ↥(V.ref x)) (upd (upd H5 w (exO w C ↥Q)) Q (.xd [(f,v)])) λy be=>y= .ref x/\be=upd (upd H5 w (exO w C ↥Q)) Q (.xd [(f,v)]):=
  by unfold jC;rw[sH cd];exact⟨O,O⟩
 refine mC (pC (zWg (X:=X.mark (.ref x)) hi hv bk cr a s6 _ _ _ cq av) (λu s7 z_=>?_) λ_ _ z=>False.elim z);obtain⟨y,be,ae,ry,ey,eH⟩:=z_;subst ey eH;obtain rfl:u=Value.ref x:=ry;refine mC (rR (mT ?_));let bh:upd (upd H5 w (exO w C ↥Q)) Q (.xd [(f,v)]) w=Y (exO w C ↥Q):=by rw[zM (Ne.symm an),zC]
 let bd:upd (upd H5 w (exO w C ↥Q)) Q (.xd [(f,v)]) x=Y (exG x B d):=by rw[zM ca,zM a9];exact am
 refine jD (zBt ae bh) λve g0 h6 g1 g2=>?_;obtain⟨⟨ob,vh,b1,b2,b3,b4,b5⟩,_⟩:=ae.hok x _ bd;refine{w,_,o,ob,oB,ve,vh,O,O,ae.kIn _ _ lk,hX,ae.kIn _ _ bj,ch,g0,O,O,h6,g1,a9,b1,b2,b4,b5,λh' ba c1 c2 c3 c4=>?_};let bv:Inv (X.mark (.ref x)) a (σ.set i ↥(V.ref x)) (upd (upd (upd H5 w (exO w C ↥Q)) Q (.xd [(f,v)])) w (exK w C ↥Q)) {s7 with heap:=h'}:=
  Inv.write (t':=s7.toks) ae (e:=w) (by rw[bh];exact mK) (.inl O) (λb ob t e=>(c2 b t).trans e) ⟨_,c1⟩ (yFm c1 c3 c4)
 obtain⟨a1,h0⟩:∃a1,ba[0]? =Y a1:={_,pH.mpr {∅,O}};obtain⟨bq,bb⟩:∃a1,ba[2]? =Y a1:={_,pH.mpr {∅,O}};refine yAt (X:=X.mark (.ref x)) (φ:=φ) bv g hf hex (show _=Y (HO.ext _) from zC) ag c1 h0 c4 {bq,bb,hφ _} λT2 h4 ai b0 aw ah a7 az=>?_;rw[zSv ab an] at ai ah;let cg:frs X.stack=X.env.locals::X.fs:=by
  rw[g];unfold frs;rw[pW,hf];rfl
 let nl:∀b,b∉frs X.stack->b≠X.env.locals:=λb t z=>t (by rw[cg,z];exact mD);let au:(X.env.scope.kind== .class ||(X.env.scope.kind== .module && X.env.locals !=X.env.globals))=false:=by rw[I.ok.kind];rfl
 obtain⟨m,hn,_⟩:=ai.loc;refine bK hl hn au λh5 m' cb bg=>?_;let bu:=(ai.unmark I.ok).wiped (t':=s7.toks+1) cb bg;let a5:upd H5 Q (.xd [(f,v)]) w=none:=by rw[zM (Ne.symm an)];exact ab
 let cm:=b0.same (nl _ a7) (nl _ az) bg;let a8:CXF φ X E [] (.ref w) {s7 with heap:=h5,toks:=s7.toks+1}:=CXF.of bu hex cm ag aw a5 ah a7 az (q5 Q aj);unfold PySem.passOn;refine yN (a8.has) λa2 cv cy T3 ea A=>?_;ext oAA A y1 y2 y3;cases ea;refine mC (rN y1 y2 y3 ?_);rw[mI (by intro z;cases z)];let a':(X.mark (.ref x)).Ok:=I.ok.mark;refine mC (thn (k8 (X:=X.mark (.ref x)) a' g hf a8) λ_ s8 cj=>?_);refine wpAny_throw ?_;refine thn (l7 (X:=X.mark (.ref x)) a' g hf cj O) λ_ s9 co=>?_;exact r6 (X:=X) I.ok g hf co λcw bs=>bl _ _ (m6 I.ok g hf bs)
end
end L2
namespace L2
open PySem PySem.Spec PyProof.Rows PySem.W
theorem yGr{P:V3}{w:V4}{K:PySem.W.Frag}{M:C8}{base:V5}{k:Nat}{f:V1}{name d:Str}{i:Arguments}{m:List V6}{a:Scope}{dV kV aa pm h ct oc:V0}{an od:Option V1}
  {ag:Array (Option V0)} {N ps:C1} {sp:Sp} (lk:K.lookup f=Y {oc,od, .func (PySem.W.fnOf name d i m a dV kV aa pm an h ct),ag}) (ae:PySem.W.codeIn K h d=true) (S:wF N ps a)
  (len:∀p H Q E,sp p H Q E->p...*=ps...*)
  (D:∀(A:Around)(c:List P0)(s:V2)(H:Hp)(p:B3)(Q:VK)(E:XK),RoomH k (A.deeper (envOfC d a s⁻¹ f h))->sp p H Q E->
   ∃t,PSs (cxH P w K M base N d a f h A c s H) m t/\t {nx:=λ_ B=>Q .non B,rt:=Q} (jX N p) H):
  zNq P w K M base (k+1) f (PySem.W.fnOf name d i m a dV kV aa pm an h ct) ps sp:=by
 refine{len,λA c s H ai us p Q E hr j hb r ab=>?_};let hl:=len _ _ _ _ ab;let KX:K.In s.heap:=j.mod.kin.keeps λb o e=>(j.bs b o e).1;let ah:s.heap.NoLimit:=j.mod.nolimit.keeps λb o e=>(j.bs b o e).1;let L:∀y∈ps.zip us,a.names.lookup y.1=some .local\/(a.names.lookup y.1=some .cell/\((cellsFrom (s⁻¹+1) a.names []).lookup y.1).isSome=true):=fun⟨n,v⟩ hy=>by
  rcases S.par n (cE hy).1 with q | q
  ·exact .inl q
  ·exact .inr {q,PySem.W.cellsFrom_some _ _ _ (.inl q)}
 refine codeAny_call_function hr.depth (KX _ _ lk) O S.co S.gen O (PySem.W.codeRec_of KX ae) (hb _ _ _ _ ?_);refine wpAny_newFunctionEnv_cells S.kind L λaj he s1 x=>?_;subst he;refine{ah.keeps x.toInCall.keep,codeAny_func ?_};obtain⟨t,ht,hq⟩:=D A c s H p Q E (hr.deeper _) ab;let af:Env0 P w K M base {A with handled:=none} c s H:=⟨j.frames,j.mod,j.bs,j.bsz,j.funs,j.frf,j.hok,j.bare⟩;let l:Inv (zCl CX0 P w K M base N d a f h {A with handled:=none} c s H E0) [] (jX N p) H s1:=zIn S O af hl r x;let g:=l.ok;let I:Inv (cxH P w K M base N d a f h A c s H) [] (jX N p) H s1:=
  {{g.mod,g.kind,g.glob,g.blt,g.above,g.inj,g.has,g.cab,(λz=>nomatch z),g.frames,g.stk,g.exf,g.bs,g.bsz,g.noex,g.exfs,g.funs,g.frf},l.os,l.bare,l.base,l.loc,l.cell,l.free,l.freeC,l.pin,l.hok,l.len}
 refine pC (ht [] s1 (jX N p) H _ I hq) (λfl s' hs=>?_) λe s' hs=>False.elim hs;let ac:∀{σ':St}{B:Hp}{v:V}{u:V0},Inv (cxH P w K M base N d a f h A c s H) [] σ' B s'->RelV v u->Q v B->CE c P w H s Q u s':=
  λ{σ' B v u} J rv q=>⟨v,B,J.os,J.bare,J.base,J.hok,rv,q⟩
 cases fl with
 |ret u=>
  ext zU hs v σ' B J rv q;exact ac J rv q
 |next=>
  ext wS hs σ' B J q;exact ac (v:=V.non) (u:=Value.none) J O q
 |brk=>
  ext wS hs _ _ _ q;exact False.elim q
 |cont=>
  ext wS hs _ _ _ q;exact False.elim q
end L2
namespace L2
open PySem PySem.Spec PyProof.Rows PySem.W
section
variable{X:Cx}{B1 B2:V1}{bn1 bn2 n1 n2:Str}{i1 i2:Nat}{body su1 su2:List V6}{b1 b2:V6}{bp1 bp2 hp1 hp2 pos:Pos}{tb:XK->TS}{ts1 ts2:TS}{φ:V0->Prop}
def wipD(len:Nat)(D:gG):gG:={D with nx:=λ_ a=>D.nx (List.replicate len none) a,bk:=λ_ a=>D.bk (List.replicate len none) a,ct:=λ_ a=>D.ct (List.replicate len none) a}
end
end L2
namespace L2
open PySem PySem.Spec PyProof.Rows PySem.W
section
variable{X:Cx}{B1 B2:V1}{bn1 bn2 n1:Str}{i1:Nat}{body su1 su2:List V6}{b1 b2:V6}{bp1 bp2 hp1 hp2 pos:Pos}{tb:XK->TS}{ts1 ts2:TS}{φ:V0->Prop}
def zOs(K:Frag)(B1 B2:V1)(i1 len:Nat)(ts1 ts2:TS)(D:gG):XK:=λC d b=>∃a,C= .ref a/\
  ((exmOne K (.ref a) (.ref B1)=Y true/\∀x,b x=none->ts1 (wipD len D) ((List.replicate len none).set i1 ↥(.ref x)) (upd b x (exF x a d)))\/
   (exmOne K (.ref a) (.ref B1)=Y false/\exmOne K (.ref a) (.ref B2)=Y true/\∀x,b x=none->ts2 D (List.replicate len none) (upd b x (exF x a d))))
def zVc(K:Frag)(B1 B2:V1)(i1 len:Nat)(tb:XK->TS)(ts1 ts2:TS):TS:=λD σ H=>tb (zOs K B1 B2 i1 len ts1 ts2 D) D σ H
theorem zUs(bc:X.calm=true)(ax:Gl X bn1)(a1:X.mg bn1=Y (.ref B1))(a9:Gl X bn2)(bi:X.mg bn2=Y (.ref B2))(hN:X.N.Nodup)(be:X.N[i1]? =Y n1)(a7:X.env.scope.names.lookup n1=some .local)(ag:X.stack=X.env::X.outer)(hf:X.env.frame=Y X.env.locals)(hex:X.ex= [])
  (k:∀a W E,zAd (CXE φ X.prog X.w) (X.pend a W) E->PSs (X.pend a W) body (tb E)) (bb:∀v,PSs (X.mark v) (b1::su1) ts1) (bg:∀v,PSs (X.mark v) (b2::su2) ts2) (aw:(bn1==("__debug__" :Str))=false:=by decide) (a8:(bn2==("__debug__" :Str))=false:=by decide):
  PS X (.Try body [.ExceptHandler ↥(.Name bn1 bp1) ↥n1 (b1::su1) hp1, .ExceptHandler ↥(.Name bn2 bp2) none (b2::su2) hp2] [] [] pos) (zVc X.K B1 B2 i1 X.N...* tb ts1 ts2):=by
 intro a s σ H D I h;refine wpAny_Try_except ?_;let J:=k a (λe s'=>∃L H1 g,Inv X a L H1 g/\CXE φ X.prog X.w X.stack H1 g (zOs X.K B1 B2 i1 X.N...* ts1 ts2 D) e s') (zOs X.K B1 B2 i1 X.N...* ts1 ts2 D)
  (λbd L l g e s' I1 hx=>{L,l,g,I1.unpend I.ok,hx}) [] s σ H D I.pend h
 refine pC J (λf g q=>?_) λe g ⟨L,H0,s0,I0,hx⟩=>?_
 ·cases f with
  |next=>obtain⟨L,l,I',q⟩:=q;exact tZ {L,l,I'.unpend I.ok,q}
  |brk=>obtain⟨L,l,I',q⟩:=q;exact{L,l,I'.unpend I.ok,q}
  |cont=>obtain⟨L,l,I',q⟩:=q;exact{L,l,I'.unpend I.ok,q}
  |ret u=>obtain⟨v,L,l,I',r,q⟩:=q;exact{v,L,l,I'.unpend I.ok,r,q}
 ext yA hx x T C d a0 z_;ext wG z_ l ba os af un z_;ext zS z_ ai t am ah a4 z_;ext oAEA z_ fl Ca ap al;subst ba ap;let I2:Inv X a L l g:=I0.call' os un ai af (λb z=>absurd z (by simp));let au:∀b,s0.heap.get? b=none->b∉frs X.stack:=λb k z=>by
  obtain⟨o,e,_⟩:=gL I0.stack b z;rw[k] at e;cases e
 let ao:=I0.ok.frames;let nx:=au x t;let nT:=au T am;let st:=I2.stack;rw[ag] at ao;let an:=nx;let a2:=nT;rw[ag] at an a2 st;refine zKy ao st hf an a2 fl λh1 T1 f1 k1 n1=>?_;refine qE f1 λh2 f2 k2=>?_;rw[<-ag] at k1;let av:l T1=none:=by
  cases e:l T1 with
  |none=>rfl|some o=>
   obtain⟨ob,ar⟩:=i8 (I2.hok T1 o e);rw[n1] at ar;cases ar
 let aq:s0.heap.get? T1=none:=by
  cases e:s0.heap.get? T1 with
  |none=>rfl|some o=>
   obtain⟨o',e'⟩:=un.there T1 o e (λz=>nomatch z);rw[n1] at e';cases e'
 let k3:Kp (frs X.stack) [x,T,T1] g.heap h2:=k1.trans (vG k2 λb k=>nomatch k) λc hc=>by
  rcases hc with z | z
  ·rcases mF.mp z with z | z
   ·rw[z];simp
   ·rw[mH.mp z];simp
  ·rw[mH.mp z.1];simp
 let w:∀b∈ [x,T,T1],s0.heap.get? b=none/\l b=none:=λb k=>by
  rcases mF.mp k with z | z
  ·rw[z];exact⟨t,ah⟩
  ·rcases mF.mp z with z | z
   ·rw[z];exact⟨am,a4⟩
   ·rw[mH.mp z];exact⟨aq,av⟩
 let I3:Inv X a L l {g with heap:=h2}:=I0.call' (s':={g with heap:=h2}) os (zBq un k3 λb k=>(w b k).1) (kU ai k3 I2.stkFree λb k=>(w b k).2) af (λb z=>absurd z (by simp));let LT:Looks (S8 X.prog X.w) h2 (typeOf (.ref x)) (.ref Ca):=by
  ext yN f2 oe vs oT az e1 z_;ext oA z_ e2 _;exact e2▸(Looks.ld e1).andThen .now
 let bh:∀{bn n:Str}{B:V1}{i:Nat}{b₀:V6}{aa:List V6}{bp hp:Pos}{rest:List ExceptHandler}{ts:TS},Gl X bn->X.mg bn=Y (.ref B)->X.N[i]? =Y n->X.env.scope.names.lookup n=some .local->(∀v,PSs (X.mark v) (b₀::aa) ts)->(bn==("__debug__" :Str))=false->exmOne X.K (.ref Ca) (.ref B)=Y true->
   (∀x,l x=none->ts (wipD X.N...* D) ((List.replicate X.N...* none).set i ↥(.ref x)) (upd l x (exF x Ca d)))->
   V8 (S8 X.prog X.w) X.A (handleBy (.ref x) X.env (.ExceptHandler ↥(.Name bn bp) ↥n (b₀::aa) hp::rest)) (SP X a D) X.xe {g with heap:=h2}:=λ{bn n B i b₀ aa bp hp rest ts} a5 a' hi hl a6 bf ay q=>by
  refine bB (aQ ?_) (by intro z;cases z);refine qS (X:=X.mark (.ref x)) (I3.mark) a5 a' ?_ bf;refine exm_one (M:=S8 X.prog X.w) I3.kIn LT ay _ _ _ {g with heap:=h2} (λ_ _ e=>e) ?_;refine codeAny_handlers_suite_as ?_;refine qE f2 λh3 f3 k4=>?_;let k5:Kp (frs X.stack) [x,T,T1] g.heap h3:=k3.trans (vG k4 λb k=>nomatch k) λc hc=>by
   rcases hc with z | z
   ·exact z
   ·rw[mH.mp z.1];simp
  let I4:Inv X a L l {g with heap:=h3}:=I0.call' (s':={g with heap:=h3}) os (zBq un k5 λb k=>(w b k).1) (kU ai k5 I2.stkFree λb k=>(w b k).2) af (λb z=>absurd z (by simp));let ak:X.s₀.heap.get? x=none:=by
   cases e:X.s₀.heap.get? x with
   |none=>rfl|some o=>
    obtain⟨o',e'⟩:=I0.base.there x o e (by rw[hex];exact λz=>nomatch z);rw[t] at e';cases e'
  ext yN f3 oe vs oT az e1 z_;ext xA z_ e2 e3 e4 _;let I5:Inv X a L (upd l x (exF x Ca d)) {g with heap:=h3}:=by
   refine I4.track ah ak (λz=>?_) (λy c e z=>?_) (λp hp z=>?_) (zXj e1 e2 e3 e4)
   ·obtain⟨m,⟨o,_,_,N,_⟩,_⟩:=I0.loc
    rw[<-z,t] at N;cases N
   ·refine wS (I0.cell y c e) λv o N _=>?_
    rw[z,t] at N;cases N
   ·let N:=(I0.pin p hp).1
    rw[z,t] at N;cases N
  let I6:Inv X a (List.replicate X.N...* none) (upd l x (exF x Ca d)) {g with heap:=h3}:=I5.weak (by rw[rJ,I5.len]) λj v' e=>by
   rw[tW] at e;split at e<;>cases e
  refine zAw (v:=.ref x) I6 hN hi (.inl hl) O (λs4 I7=>?_) (.inr hl);refine pC (a6 (.ref x) a s4 _ _ _ I7.mark (q x ah)) (λf s5 z=>?_) λ_ _ z=>False.elim z;let ae:(X.env.scope.kind== .class ||(X.env.scope.kind== .module && X.env.locals !=X.env.globals))=false:=by rw[I.ok.kind];rfl
  cases f with
  |next=>
   ext wS z σ5 H5 A Q;obtain⟨m,hn,_⟩:=A.loc;exact bK hl hn ae λh' m' ab ac=>{_,H5,(A.unmark I.ok).wiped ab ac,Q}
  |brk=>
   ext wS z σ5 H5 A Q;obtain⟨m,hn,_⟩:=A.loc;exact bK hl hn ae λh' m' ab ac=>{_,H5,(A.unmark I.ok).wiped ab ac,Q}
  |cont=>
   ext wS z σ5 H5 A Q;obtain⟨m,hn,_⟩:=A.loc;exact bK hl hn ae λh' m' ab ac=>{_,H5,(A.unmark I.ok).wiped ab ac,Q}
  |ret u=>
   ext zU z v σ5 H5 A r5 Q;obtain⟨m,hn,_⟩:=A.loc;exact bK hl hn ae λh' m' ab ac=>{v,_,H5,(A.unmark I.ok).wiped ab ac,r5,Q}
 rcases al with⟨aj,q⟩|⟨aj,a3,q⟩
 ·exact bh ax a1 be a7 bb aw aj q
 ·refine bB (aQ ?_) (by intro z;cases z)
  refine qS (X:=X.mark (.ref x)) (I3.mark) ax a1 ?_ aw;refine exm_one (M:=S8 X.prog X.w) I3.kIn LT aj _ _ _ {g with heap:=h2} (λ_ _ e=>e) ?_;refine bB (aQ ?_) (by intro z;cases z);refine qS (X:=X.mark (.ref x)) (I3.mark) a9 bi ?_ a8;refine exm_one (M:=S8 X.prog X.w) I3.kIn LT a3 _ _ _ {g with heap:=h2} (λ_ _ e=>e) ?_;refine codeAny_handlers_suite ?_;refine qE f2 λh3 f3 k4=>?_;let k5:Kp (frs X.stack) [x,T,T1] g.heap h3:=k3.trans (vG k4 λb k=>nomatch k) λc hc=>by
   rcases hc with z | z
   ·exact z
   ·rw[mH.mp z.1];simp
  let I4:Inv X a L l {g with heap:=h3}:=I0.call' (s':={g with heap:=h3}) os (zBq un k5 λb k=>(w b k).1) (kU ai k5 I2.stkFree λb k=>(w b k).2) af (λb z=>absurd z (by simp));let ak:X.s₀.heap.get? x=none:=by
   cases e:X.s₀.heap.get? x with
   |none=>rfl|some o=>
    obtain⟨o',e'⟩:=I0.base.there x o e (by rw[hex];exact λz=>nomatch z);rw[t] at e';cases e'
  ext yN f3 oe vs oT az e1 z_;ext xA z_ e2 e3 e4 _;let I5:Inv X a L (upd l x (exF x Ca d)) {g with heap:=h3}:=by
   refine I4.track ah ak (λz=>?_) (λy c e z=>?_) (λp hp z=>?_) (zXj e1 e2 e3 e4)
   ·obtain⟨m,⟨o,_,_,N,_⟩,_⟩:=I0.loc
    rw[<-z,t] at N;cases N
   ·refine wS (I0.cell y c e) λv o N _=>?_
    rw[z,t] at N;cases N
   ·let N:=(I0.pin p hp).1
    rw[z,t] at N;cases N
  let I6:Inv X a (List.replicate X.N...* none) (upd l x (exF x Ca d)) {g with heap:=h3}:=I5.weak (by rw[rJ,I5.len]) λj v' e=>by
   rw[tW] at e;split at e<;>cases e
  refine pC (bg (.ref x) a _ _ _ D I6.mark (q x ah)) (λf s5 z=>?_) λ_ _ z=>False.elim z
  cases f with
  |next=>obtain⟨σ5,H5,A,Q⟩:=z;exact{_,H5,A.unmark I.ok,Q}
  |brk=>obtain⟨σ5,H5,A,Q⟩:=z;exact{_,H5,A.unmark I.ok,Q}
  |cont=>obtain⟨σ5,H5,A,Q⟩:=z;exact{_,H5,A.unmark I.ok,Q}
  |ret u=>obtain⟨v,σ5,H5,A,r5,Q⟩:=z;exact{v,_,H5,A.unmark I.ok,r5,Q}
end
end L2
namespace PySem.W
open PySem PySem.Calls PyProof.Rows PyProof.V PySem.Spec
theorem zPl:typeLookup (.type "list_reverseiterator") "__len__" =pure none:=by rw[typeLookup_type,builtinLookup_eq_fast];kernel_rfl
theorem zMd:typeLookup (.type "list_reverseiterator") "__length_hint__" =pure ↥(.builtin "list_reverseiterator.__length_hint__"):=by rw[typeLookup_type,builtinLookup_eq_fast];kernel_rfl
section
variable{prog:V3}{w:V4}{A:Around}{E:C9}{s:V2}{r l:V1}{items:Array V0}
theorem zZf{Q:Bool->V2->Prop}(d:s.TypeIs (.ref r) "list_reverseiterator")(h:Q false s):V8 (S8 prog w) A (Builtin.List.listLengthHint (.ref r)) Q E s:=by
 unfold Builtin.List.listLengthHint;refine wpAny_bind (wpAny_specialOf d zPl ?_);refine wpAny_ite_split (λa=>absurd a ∎) (λ_=>?_);refine wpAny_ite_split (λa=>absurd a ∎) (λ_=>?_);refine wpAny_bind (wpAny_specialOf d zMd ?_);generalize hid:("list_reverseiterator.__length_hint__" :String)=c
 wp_delta
 rw[show splitId c=Y ("list_reverseiterator","__length_hint__") from by subst hid;decide+kernel];subst hid;refine wpAny_bind (wpAny_isInstance (T:="list_reverseiterator") (b:=true) d (by rw[isSubtype_type];kernel_rfl) ?_);refine wpAny_ite_split (λa=>absurd a ∎) (λ_=>?_);refine wpAny_ite_split (λ_=>?_) (λa=>absurd (by decide+kernel) a);refine wpAny_ite_split (λa=>absurd a (by decide+kernel)) (λ_=>?_);exact wpAny_pure h
abbrev yAu(items:Array V0):Nat->V0->Prop:=λi v=>items[items.size - 1 - i]? =Y v
theorem zPe{R:Result->V2->Prop}(hh:A.handled=none)(q:s.heap.IsRevIter r l ((items.size:Int)- 1))(hl:s.heap.IsList l items)(N:l≠r)(S:V1)(d:S≠r)(m:S≠l)(c:V0)(c₀:Nat)(M:s.heap.get? S=some {cls:=.type "list",data:=.seq #[] c₀})
  (hR:∀h' t a i,(∀b o,b≠S->b≠r->s.heap.get? b=Y o->h'.get? b=Y o)->h'.get? S=some {cls:=.type "list",dict:=none,data:=.seq a i,slots:=#[]}->ItemsOf (yAu items) a items.size->R (.ok (.ret c)) {s with heap:=h',toks:=t}) (hn:items.size<=V9):
  V8 (S8 prog w) A.in1 (Builtin.List.listExtendWith (.ref S) (.ref r) c)
   (λD s'=>match D with | .done f=>R (.ok f) s' | .again i=>i.quiet=true/\codeAny (S8 prog w) A i R s') (λe s'=>R (.error e) s') s:=by
 let J:S∉ [r,l]:=by simp only[List.mem_cons,List.not_mem_nil,or_false,not_or];exact⟨d,m⟩
 let W:=Walks.listRev (prog:=prog) (w:=w) (A:=A.in1) hh r l N items;let L:∀h:V5,h.IsRevIter r l ((items.size:Int)- 1)->h.IsRevIter r l ((items.size:Int)- 1 - ((0:Nat):Int)):=λh z=>by
  let e:(items.size:Int)- 1 - ((0:Nat):Int)=(items.size:Int)- 1:=by lia
  rw[e];exact z
 let n:∀(h:V5)(I t:Nat),h.IsRevIter r l ((items.size:Int)- 1)->h.IsList l items->(∀b o,b≠S->s.heap.get? b=Y o->h.get? b=Y o)->
   h.get? S=some {cls:=.type "list",data:=.seq #[] I}->codeAny (S8 prog w) A (.builtin "list.extend.loop" {[.ref S, .ref r,c],[]}) R {s with heap:=h,toks:=t}:=by
  intro h I t B x hk y;refine codeAny_extend_loopS W.toS hn S J c items.size 0 _ #[] I O (Nat.zero_le _) {Nat.zero_le _,L _ B,x} y (ItemsOf.nil _) λs' a i Q u p=>?_;rw[Moved.eq_with Q];refine hR s'.heap s'.toks a i (λb o k v e=>Q.heap b o (λhmem=>?_) (hk b o k e)) u p;rcases List.mem_cons.mp hmem with e' | hmem
  ·exact k e'
  ·exact v (List.mem_singleton.mp hmem)
 unfold Builtin.List.listExtendWith;refine wpAny_bind (wpAny_typeOf (T:="list_reverseiterator") q.typeIs ?_);let h1:Builtin.List.listSameRef (.ref S) (.ref r)=false:=by simp[Builtin.List.listSameRef,d]
 let h2:(Value.type "list_reverseiterator" ==Value.type "list")=false:=by decide
 let h3:(Value.type "list_reverseiterator" ==Value.type "tuple")=false:=by decide
 simp only[h1,h2,h3,Bool.or_false,Bool.false_eq_true,if_false];refine wpAny_bind (wpAny_pyIter_revIter q ?_);refine wpAny_bind (wpAny_holding (zZf q.typeIs ?_));refine wpAny_ite_split (λ_=>?_) (λ_=>wpAny_pure {plainId_quiet PySem.F.plain_extend_loop _,n _ c₀ _ q hl (λb o _ e=>e) M});refine wpAny_bind (wpAny_rule ?_);refine wpAny_bind ?_;show V8 _ _ (updateSeq S (·.push .none)>>=λ_=>updateSeq S (·.pop)) _ _ _;refine wpAny_bind (wpAny_updateSeq M O ?_);let j:=Heap.get?_update_self (Obj.mapSeq (·.push Value.none)) M O;refine wpAny_updateSeq (hz:=by seq_fits) j O ?_;let H:=Heap.get?_update_self (Obj.mapSeq (·.pop)) j O;let g:∀b o,b≠S->s.heap.get? b=Y o->_:=λb o k e=>(Heap.get?_update_other _ (Obj.mapSeq (·.pop)) (Ne.symm k)).trans ((Heap.get?_update_other _ (Obj.mapSeq (·.push Value.none)) (Ne.symm k)).trans e);exact wpAny_pure ⟨plainId_quiet PySem.F.plain_extend_loop _,n _ _ _ (q.at λo e=>g r o (Ne.symm d) e) (hl.at λo e=>g l o (Ne.symm m) e) g H⟩
theorem zYv{R:Result->V2->Prop}(D:A.handled=none)(B:s.heap.IsRevIter r l ((items.size:Int)- 1))(z:s.heap.IsList l items)(u:l≠r)(S:V1)(h:S≠r)(g:S≠l)(v:s.heap.get? S=some {cls:=.type "list",data:=.seq #[]})
  (x:∀i m a d,(∀b o,b≠S->b≠r->s.heap.get? b=Y o->i.get? b=Y o)->i.get? S=some {cls:=.type "list",dict:=none,data:=.seq a d,slots:=#[]}->ItemsOf (yAu items) a items.size->R (.ok (.ret .none)) {s with heap:=i,toks:=m}) (y:items.size<=V9):
  V8 (S8 prog w) A.in1 (Builtin.«list.__init__» {[.ref S, .ref r],[]})
   (λn s'=>match n with | .done f=>R (.ok f) s' | .again d=>d.quiet=true/\codeAny (S8 prog w) A d R s') (λe s'=>R (.error e) s') s:=by
 show V8 _ _ (do let old <-Builtin.List.listItems (.ref S);Builtin.List.listUpdate (.ref S) (λ_=>#[]);letGo old.toList.reverse;Builtin.List.listExtendWith (.ref S) (.ref r) .none) _ _ s;refine wpAny_bind ?_;unfold Builtin.List.listItems;refine wpAny_bind (wpAny_seqItems v O (wpAny_pure ?_));show V8 _ _ (updateSeq S (λ_=>#[])>>=λ_=>letGo (#[]:Array V0).toList.reverse>>=λ_=>Builtin.List.listExtendWith (.ref S) (.ref r) .none) _ _ s;refine wpAny_bind (wpAny_updateSeq v O ?_);let t:=Heap.get?_update_self (Obj.mapSeq (λ_=>(#[]:Array V0))) v O;let c:∀b o,b≠S->s.heap.get? b=Y o->(s.heap.update S (Obj.mapSeq (λ_=>(#[]:Array V0)))).get? b=Y o:=
  λb o k e=>(Heap.get?_update_other _ _ (Ne.symm k)).trans e
 refine wpAny_bind (wpAny_letGo ?_);refine zPe D (B.at λo e=>c r o (Ne.symm h) e) (z.at λo e=>c l o (Ne.symm g) e) u S h g .none _ t (λi m a d H p j=>?_) y;exact x i m a d (λb o k q e=>H b o k q (c b o k e)) p j
theorem zVm{Q:C9}(z:A.handled=none)(n:s.heap.IsRevIter r l ((items.size:Int)- 1))(m:s.heap.IsList l items)(k:l≠r)(v:items.size<=V9)
  (y:∀c g a i,(∀b o,b≠r->s.heap.get? b=Y o->c.get? b=Y o)->c.get? s⁻¹=some {cls:=.type "list",dict:=none,data:=.seq a i,slots:=#[]}->ItemsOf (yAu items) a items.size->Q (.ref s⁻¹) {s with heap:=c,toks:=g}):
  V8 (S8 prog w) A (call (.type "list") [.ref r]) Q E s:=by
 refine callType_codes (Q₁:=λf p=>f= .ref s⁻¹/\p={s with heap:=s.heap.push {cls:=.type "list",data:=.seq #[]}}) PySem.F.called_list (PySem.F.typeCall_list_1 _) PySem.F.entry_list_init
  (code_list_new _ ⟨O,O⟩) λf p t=>?_
 obtain⟨rfl,rfl⟩:=t;let q:(s.heap.push {cls:=.type "list",data:=.seq #[]}).get? s⁻¹=some {cls:=.type "list",data:=.seq #[]}:=Heap.get?_push_size _ O;let x:r<s⁻¹:=by obtain⟨o,j,_⟩:=n;exact Heap.lt_size j
 let u:l<s⁻¹:=by obtain⟨o,j,_⟩:=m;exact Heap.lt_size j
 refine{⟨_,q,O⟩,PySem.F.args_list_init_2 _ _,zYv (A:=A.in1) z (n.at λo e=>Heap.get?_push_of_some _ e) (m.at λo e=>Heap.get?_push_of_some _ e) k _ (Nat.ne_of_gt x) (Nat.ne_of_gt u) q (λc g a i D h d=>?_) v};exact{O,y c g a i (λb o B e=>D b o (Nat.ne_of_lt (Heap.lt_size e)) B (Heap.get?_push_of_some _ e)) h d}
end
end PySem.W
namespace L2
open PySem PySem.Spec PyProof.Rows PySem.W
theorem zMn:A4 "reversed" =Y (.type "reversed"):=by decide+kernel
theorem zTc{us:B7}{acc:Array V0}(h:ItemsOf (yAu us.toArray) acc us.toArray.size):acc.toList=us.reverse:=by
 let c:acc.toList...*=us...*:=by rw[tV,h.1];simp
 refine List.ext_getElem? λi=>?_
 by_cases a:i<us...*
 ·let e:acc.toList[i]? =Y (acc.toList[i]'∅):=mQ ∅
  let z:=h.2 i _ (by rw[<-sL];exact e);rw[e,List.getElem?_reverse a];let b:us.toArray[us.toArray.size - 1 - i]? =Y _:=z
  simpa using b.symm
 ·rw[sM ∅,sM (by rw[cP];lia)]
def tLrev(K:PySem.W.Frag)(ta:TE):TE:=λσ H Q=>ta σ H λx a=>∃l b,x= .ref l/\SqL K a l b/\∀p,a p=none->Q (.ref p) (upd a p (.lst b.reverse))
theorem zPd{X:Cx}{a:Expr}{ta:TE}{p t r c:Pos}(hc:X.calm=true)(hg:Gl X "list")(hm:X.mg "list" =none)(B:Gl X "reversed")(A:X.mg "reversed" =none)(ha:PE X a ta)
  (E:A5 [a] X.env= [(false,eval a X.env)]:=by rfl) (i:A5 [.Call (.Name "reversed" t) [a] [] c] X.env= [(false,eval (.Call (.Name "reversed" t) [a] [] c) X.env)]:=by rfl):
  PE X (.Call (.Name "list" p) [.Call (.Name "reversed" t) [a] [] c] [] r) (tLrev X.K ta):=by
 intro d s σ H Q I h;refine rA (zAb I hg hm yQ ?_);refine rP ?_ i O;rw[i];refine bH (Q:=?_) ?_;refine rA (zAb I B A zMn ?_);refine rP ?_ E O;rw[E];refine bH (thn (ha d s σ H _ I h) λv f z_=>bN ?_);obtain⟨x,u,j,r1,l,N,e,hq,q⟩:=z_;subst e;cases r1;refine xC (j.list hq) λg D L hz=>?_;let w:=L.isList;refine call_reversed_list w (bN ?_);let aa:=D...*;let k:u f⁻¹=none:=j.hok.fresh (mE _);let ll:l<f⁻¹:=by obtain⟨o,ho,_⟩:=w;exact mZ ho
 let J:Inv X d σ u {f with heap:=f.heap.push (revObj l ((g.toArray.size:Int)- 1))}:=j.kept (t':=f.toks) λb o e=>mL _ e;let fp:=j.fpOk (mE _) k;refine zVm (items:=g.toArray) (l:=l) (I.ok.hd hc) {_,nM _ O,O,O} (w.at λo e=>mL _ e) (nP ll) (by rw[mY];lia) λh' M m c' hk y hi=>?_;refine{.ref _,upd u _ (.lst N.reverse),J.turnedNew (t':=M) (fp:=[f⁻¹]) (λb n=>?_) (λb o n e=>hk b o (λz=>n (by rw[z];exact mH.mpr rfl)) e) (mE _) {by rw[cP];exact hz,m.toList,c', ?_,by simpa using y},O,q _ (J.hok.fresh (mE _))}
 ·rw[mH.mp n];exact fp
 ·rw[zTc hi];exact D.reverse
end L2
namespace L2
open PySem PySem.Spec PyProof.Rows PySem.W
section
variable{X:Cx}{scope:Scope}{own:C1}{F:D4}{elt tg iter:Expr}{ifs:C5}{pos:Pos}{wi:TI}{g:TG}{tt:TT}{te:TE}{E:XK}{φ:V0->Prop}
theorem zXl{i:Nat}{x:Str}{c f:Pos}(N:X.N.Nodup)(p:X.N[i]? =Y x)(n:Loc X.env.scope x)(S:CompSc X scope own F)(hc:X.calm=true)(L:PI X tg iter wi)
  (hg:∀C s₃ H₃ ex,PG (xD X own F scope C s₃ H₃ ex) tg g) (ht:∀C s₃ H₃ ex,PTs (xD X own F scope C s₃ H₃ ex) ifs tt) (he:∀C s₃ H₃ ex b W,zAd (CXE φ X.prog X.w) ((xD X own F scope C s₃ H₃ ex).pend b W) (xUp E)->PE ((xD X own F scope C s₃ H₃ ex).pend b W) elt te) (l:Lvs φ X E)
  (k:S4 (.ListComp elt [{tg,iter,ifs,0}] scope pos) ↥(.Name x c) f.line X.env=pure true:=by rfl)
  (hs:∀x,foldedSetIterable iter X.env x=pure x:=by intro _;rfl) (hf:X.fn x=true\/X.env.scope.names.lookup x=some .local:=by first | exact .inl O | exact .inr O | assumption):
  PS X (.Assign [.Name x c] (.ListComp elt [{tg,iter,ifs,0}] scope pos) f) (zNl (zFv own F wi g tt te) (qQ i)):=by
 intro b s σ H D I h;rw[exec_Assign_Name_used x c _ _ k];refine mC (rR (mC ?_));refine mC ?_;refine pC (Q:=λ_ d=>SP X b D .next d) ?_ (λ_ d q=>mT (mT q)) λ_ _ z=>z;refine bI (use:=Y (assign (.Name x c) X.env)) O hs (kQ (I.freeCells S)) S.kind S.lc ?_;refine thn (L b s σ H _ I h) λv s1 h1=>thn h1 λaa t z_=>?_;obtain⟨it,fp,tn,J,H2,e,j,T,w,f2,q2⟩:=z_;subst e;refine thn (zTl (Q:=λx H1=>qQ i x σ H1 D.nx) (RR:=λC r d=>compPost (S8 X.prog X.w) X.A X.xe ↥(assign (.Name x c) X.env) (λ_ d=>SP X b D .next d) (.ref t⁻¹) C r d) S hc hg ht he l j T w f2 q2 (λC s4 H4 y c2 I4 q4 n4 hm=>?_) (λC e d n=>zYy (Q:=λ_ d=>SP X b D .next d) (acc:=.ref t⁻¹) I.ok l n)) λab s3 h3=>thn h3 λA s4 h4=>rT h4 λr d ⟨B,hr⟩=>?_
 ·obtain⟨m,hn⟩:=hm
  refine dB (zEd I4 N p n (v:=.ref t⁻¹) O (λs5 I5 ⟨a,M,ha⟩=>?_) hf);let aC:a≠C:=by
   rcases ha with z | z
   ·rw[z];exact nP (nN j.lt y)
   ·obtain⟨v,u⟩:=j.cell _ _ z
    exact nP (nN u.lt y)
  exact{m,hn.sameBut M (Ne.symm aC),λh' o=>{_,H4,zCb j y I5 n4 o,q4}}
 ·rw[B];exact hr
end
end L2
namespace L2
open PySem PySem.Spec PyProof.Rows
def rEqP:R2:=λx y H Q=>∃a b c,x= .ref a/\y= .ref b/\H a=Y (.tup c)/\H b=Y (.tup c)/\(∀v∈c,(∃i,v= .int i)\/∃z,v= .str z)/\Q (.bl true) H
theorem zHs{X:Cx}(hu:X.A.units+64<cLine):OpR X (A6 .Eq) rEqP:=by
 intro w s σ H x y v u Q I rx ry h;ext zU h a b o g k M;ext xA M ha hb hp q;subst g k;cases rx;cases ry;refine xC (I.tuple (SqT.of ha)) λB p N _=>?_;refine xC (I.tuple (SqT.of hb)) λr c pw _=>?_;let E:=p...*;let J:=c...*;let z:=SeqAt.RcAt.tuples (A:=X.A) (e:=λ_=>true) N pw ∅ λj h1 h2=>?_
 ·refine z X.prog X.w _ _ {.bl true,H,I, ?_,q}
  show Value.bool _=Value.bool true;simp[<-E,<-J]
 ·let l:j<B...*:=by simpa using h1
  let n:j<r...*:=by simpa using h2
  obtain⟨u1,e1,f⟩:=p.get (mQ (show j<o...* by lia));obtain⟨w1,L,d⟩:=c.get (mQ (show j<o...* by lia));let d1:B.toArray[j]=u1:=by simpa [l] using e1
  let D:r.toArray[j]=w1:=by simpa [n] using L
  rw[d1,D];rcases hp _ (sK (show j<o...* by lia)) with⟨i,e⟩|⟨t,e⟩
  ·rw[e] at f d
   obtain⟨m,rfl⟩:=f;obtain⟨t2,rfl⟩:=d;let:=SeqAt.EqAt.int_int i m i t2 (A:=X.A.in1) (s:=s)
   simpa using this
  ·rw[e] at f d
   obtain⟨m,rfl⟩:=f;obtain⟨t2,rfl⟩:=d;let:=cU t m t t2 (A:=X.A.in1) (s:=s)
   simpa using this
theorem pX{X:Cx}{a b:Expr}{ta tb:TE}{c:Pos}{r:R2}(f:IxR X r)(e:PE X a ta)(g:PE X b tb)(d:zQt b:=by intro _ _;rfl):PE X (.Subscript a b c) (tOp r ta tb):=pe_ix f e g d
theorem pE{X:Cx}{a b:Expr}{ta tb:TE}{d:Pos}{c:CmpOp}{r:R2}(e:OpR X (A6 c) r)(f:PE X a ta)(i:PE X b tb)(h:c≠ .In:=by decide)(g:c≠ .NotIn:=by decide):PE X (.Compare a [c] [b] d) (tOp r ta tb):=zFc e f i (zYa _ h g)
theorem pT{X:Cx}{a b:Expr}{ta tb:TE}{d:Pos}{c:CmpOp}{r:R2}(e:OpR X (A6 c) r)(f:PE X a ta)(i:PE X b tb)(h:c≠ .In:=by decide)(g:c≠ .NotIn:=by decide):PT X (.Compare a [c] [b] d) (zMa (tOp r ta tb)):=yCz e f i (zYa _ h g)
end L2
namespace L2
open PySem PySem.Spec PyProof.Rows
theorem pS{X:Cx}{b a:Pos}{x:Str}{e:Expr}{c:TE}(i:Nat)(g:X.N.Nodup)(k:PE X e c)(f:X.N[i]? =Y x:=by rfl)(j:Loc X.env.scope x:=by exact nO O)(d:S4 e ↥(.Name x a) b.line X.env=pure false:=by rfl)(h:X.fn x=true\/X.env.scope.names.lookup x=some .local:=by first | exact .inl O | exact .inr O | assumption):PS X (.Assign [.Name x a] e b) (zNl c (qQ i)):=uW g f j k d h
theorem pD{X:Cx}{k j:Nat}{x:Str}{ps:C1}{sp:Sp}{e:Expr}{a:C5}{t:TA}{p b:Pos}(D:Dn X.prog X.w X.K X.mg X.base k x ps sp)(g:Room j X.A)(f:PA X (e::a) t)(i:k<=j:=by first | decide | lia)(h:Gl X x:=by rfl)(c:(x==("__debug__" :Str))=false:=by decide)
  (l:A5 (e::a) X.env=(false,eval e X.env)::A5 a X.env:=by rfl) (d:(S5 b (A5 a X.env)).any (·.1)=false:=by rfl):PE X (.Call (.Name x p) (e::a) [] b) (gY sp [] E0 t):=pe_cd D g i h f c l d
theorem pI{X:Cx}{a x:Str}{T:String}{e:Expr}{h:TE}{p c b:Pos}(i:X.mg a=none)(j:A4 a=Y (.builtin "isinstance"))(n:X.mg x=none)(o:A4 x=Y (.type T))(m:PE X e h)(r:T∈tyL:=by decide)(s:Gl X a:=by rfl)(g2:Gl X x:=by rfl)(f:a≠ "__name__":=by decide)(d:(a==("__debug__" :Str))=false:=by decide)(k:x≠ "__name__":=by decide)(l:(x==("__debug__" :Str))=false:=by decide)
  (g:A5 [e, .Name x c] X.env=(false,eval e X.env)::A5 [.Name x c] X.env:=by rfl) (q:(S5 b (A5 [.Name x c] X.env)).any (·.1)=false:=by rfl):PE X (.Call (.Name a p) [e, .Name x c] [] b) (tCB (λxs H Q=>∃x t,xs= [x, .ty T]/\tyS H x=Y t/\Q (.bl (yC t T)) H) (vK h (vK (tC (.ty T)) zAh))):=
 zN (zHm r) s i j (zA m (zA (wA (v:=.ty T) g2 n o O k l) zB) g) f d g q
theorem len1{α:Type}{us:List α}(h:us...*=1):∃a,us= [a]:=
 match us,h with|[a],_=>⟨a,O⟩
theorem len2{α:Type}{us:List α}(h:us...*=2):∃a b,us= [a,b]:=
 match us,h with|[a,b],_=>⟨a,b,O⟩
theorem len3{α:Type}{us:List α}(h:us...*=3):∃a b c,us= [a,b,c]:=
 match us,h with|[a,b,c],_=>⟨a,b,c,O⟩
theorem len4{α:Type}{us:List α}(h:us...*=4):∃a b c d,us= [a,b,c,d]:=
 match us,h with|[a,b,c,d],_=>⟨a,b,c,d,O⟩
end L2
section
open PySem L2
local macro_rules | `(tactic| walk_at "b") => `(tactic| (intro _ F; refine F.binds ?_; intro _ _ _ _ _ _ us hl; first | (obtain ⟨_,e⟩ := len1 hl; subst e; rfl) | (obtain ⟨_,_,e⟩ := len2 hl; subst e; rfl) | (obtain ⟨_,_,_,e⟩ := len3 hl; subst e; rfl) | (obtain ⟨_,_,_,_,e⟩ := len4 hl; subst e; rfl) | (cases List.eq_nil_of_length_eq_zero hl; rfl)))
local macro_rules | `(tactic| walk_at "ln") => `(tactic| (intro vs H Q E h; repeat (first | (obtain ⟨e,_⟩ := h; subst e; rfl) | (obtain ⟨_,h⟩ := h))))
local macro_rules|`(tactic|walk_at "rd3")=>let a:Array Lean.Term:=(("zYe zMz yCx iZip tIsT zVb zGy yHy zWm zXo zXe zXw zLd zHa zWr zFv jG zWa zNl qQ zMs yEp yGw zZj tOp tUn jC tC gY vK zAh zMa tB yIc tOr yFw zZk yFv zXq tIf tCB tBM zFv zBa zZn zKh tSl zKc yFd zWf zZh zTe zRl zKv zPf rI0 rI rU rEq rNe zWb yHf zYh yFg yHd CMul yGz zUn List.getElem?_cons_zero List.getElem?_cons_succ List.set_cons_zero List.set_cons_succ List.map_cons List.map_nil List.length_cons List.length_nil Nat.reduceAdd Option.join_some Option.join_none".splitOn " ").map fun n=>⟨Lean.mkIdent n.toName⟩).toArray;`(tactic|first|(dsimp only [$[$a:term],*];try walk_at "rd3s")|walk_at "rd3s")
local macro_rules|`(tactic|walk_at "rd3s")=>let a:Array Lean.Term:=(("zYe zMz yCx iZip tIsT zVb zGy yHy zWm zXo zXe zXw zLd zHa zWr zFv yEs nox_K zXb jG zWa zNl qQ zMs yEp yGw zZj tOp tUn jC tC gY vK zAh zMa tB yIc tOr yFw zZk yFv zXq tIf tCB tBM zFv zBa zZn zKh tSl zKc yFd zWf zZh zTe yBa zRl zKv zPf rI0 rI rU rEq rNe zWb yHf zYh yFg yHd CMul yGz zUn List.append_nil List.getElem?_cons_zero List.getElem?_cons_succ List.set_cons_zero List.set_cons_succ List.map_cons List.map_nil List.length_cons List.length_nil sizeLine_eq Nat.reduceAdd Nat.reduceLeDiff Option.join_some Option.join_none Option.some.injEq V.int.injEq V.str.injEq V.bl.injEq V.ref.injEq V.ty.injEq List.cons.injEq and_true true_and and_self exists_eq_left' exists_eq_left exists_and_left exists_and_right decide_eq_true_eq Bool.not_eq_eq_eq_not Bool.not_true Bool.not_false decide_eq_false_iff_not Int.reduceLT Int.reduceLE Int.reduceNeg Int.reducePow Int.reduceAdd Int.reduceSub Int.reduceMul Int.reduceToNat zUt Nat.reduceLT Nat.reducePow or_true true_or if_true if_false Bool.false_eq_true ite_true ite_false reduceCtorEq".splitOn " ").map fun n=>⟨Lean.mkIdent n.toName⟩).toArray;`(tactic|simp only [$[$a:term],*])
local macro_rules | `(tactic| walk_at "sc") => `(tactic| exact ⟨rfl,rfl,rfl,by decide +kernel,rfl,by decide +kernel,by decide +kernel⟩)
local macro_rules | `(tactic| walk_at "st") => `(tactic| simp only [jX,List.map_cons,List.map_nil,List.length_cons,List.length_nil,Nat.reduceAdd,Nat.reduceSub,List.replicate_succ,List.replicate_zero,List.cons_append,List.nil_append])
local macro_rules | `(tactic| walk_at "wu") => `(tactic| with_unfolding_all rfl)
namespace K43
open PySem L2
section
variable{P:V3}{w:V4}{K:A9}{mg:C8}{base:V5}{x qual:Str}{st:V6}{f:V1}{fd:V7}{N ps:C1}{k:Nat}{sp:Sp}
theorem _root_.L2.Fun.okn(F:Fun K x qual st f fd)
  (j:∀(cdv:V0)(A:Around)(outer:List P0)(s:V2)(H:Hp)(vs:B3)(Q:VK)(E:XK),N.Nodup->Room k (A.deeper (PyProof.Rows.envOfC qual (yB st) s⁻¹ f cdv))->sp vs H Q E->
   ∃t,PSs (zCl CX0 P w K mg base N qual (yB st) f cdv A outer s H E).nox (xQ st) t/\t {nx:=λ_ H'=>Q .non H',rt:=Q} (jX N vs) H) (S:wF N ps (yB st):=by walk_at "sc") (len:∀vs H Q E,sp vs H Q E->vs...*=ps...*:=by walk_at "ln"):FnOk P w K mg base CX0 (k+1) f fd ps sp:=F.ok S len λa b c d e g h i=>j a b c d e g h i S.nd
theorem _root_.L2.Fun.okxn{φ:V0->Prop}(F:Fun K x qual st f fd)
  (j:∀(cdv:V0)(A:Around)(outer:List P0)(s:V2)(H:Hp)(vs:B3)(Q:VK)(E:XK),N.Nodup->Room k (A.deeper (PyProof.Rows.envOfC qual (yB st) s⁻¹ f cdv))->sp vs H Q E->
   ∃t,PSs (zCl (CXE φ P w) P w K mg base N qual (yB st) f cdv A outer s H E) (xQ st) t/\t {nx:=λ_ H'=>Q .non H',rt:=Q} (jX N vs) H) (S:wF N ps (yB st):=by walk_at "sc") (len:∀vs H Q E,sp vs H Q E->vs...*=ps...*:=by walk_at "ln"):FnOk P w K mg base (CXE φ P w) (k+1) f fd ps sp:=F.okx S len λa b c d e g h i=>j a b c d e g h i S.nd
end
seal L2.PSs L2.PS L2.PE L2.PT L2.PW L2.PA L2.PI L2.PG L2.PGs L2.PPs L2.PTs
def top(i:Nat):V6:=PySem.Challenge.pw_cabinet_k43_backs.main.body.getD i (.Pass {0,0,0,0})
abbrev yEi:V6:=top 53
abbrev sNum:V6:=top 57
noncomputable def qN(a:List Int)(k:Int):Int:=
 let m:=if a= [] then k*7919 else(k*7919+k / a...**104729+a.getD (k % a...*).toNat 0*48271)% 1000003
 (m*m / 11+13*m)% 1000003
theorem qB(a:List Int)(k:Int):0<=qN a k:=sF _ ∎
theorem jE(a:List Int)(k:Int):qN a k<1000003:=rY _ ∎
def kD(K:A9):Sp:=λd H Q _=>∃(a:V1)(b:List Int)(k:Int),d= [.ref a, .int k]/\SqL K H a (b.map V.int)/\b...*<=63/\0<=k/\k<1000000/\∀c,Same H c->Q (.int (qN b k)) c
theorem zGi{K:A9}{H:Hp}{Q:VK}{E:XK}{a:V1}{b:List Int}{k:Int}(e:SqL K H a (b.map V.int))(c:b...*<=63)(d:0<=k)(f:k<1000000)(q:∀H',Same H H'->Q (.int (qN b k)) H'):
  kD K [.ref a, .int k] H Q E:=⟨a,b,k,O,e,c,d,f,q⟩
section
variable{P:V3}{w:V4}{K:A9}{mg:C8}{base:V5}{f:V1}{fd:V7}
theorem yAm(F:Fun K "_law_cell" "_law_cell" yEi f fd)(B:Bl mg):FnOk P w K mg base CX0 1 f fd ["_law_script","_law_k"] (kD K):=by
 refine F.okn (N:=["_law_script","_law_k","_law_more"]) λx A t s H vs Q E l J h=>?_;ext zU h a b k j L y;ext xA y I M h1 q;subst j;let o:=J.units0;refine{_,(zD (pS 2 l (zJ gE (pv 1) zE))
  (zD (zT (pT (yBf o) (pv 0) (zZ zB)) (zD (pS 2 l (zJ xI (pv 2) (zJ gE (zJ yK (pv 1) (zN yE O B.len yS (zA (pv 0) zB))) zE)))
  (zG (pS 2 l (zJ yI (zJ xI (pv 2) (zJ gE (pX zP (pv 0) (zJ yI (pv 1) (zN yE O B.len yS (zA (pv 0) zB)))) zE)) zE)))) zK)
  (zG (zI (zJ yI (zJ xI (zJ yK (zJ gE (pv 2) (pv 2)) zE) (zJ gE zE (pv 2))) zE))))), ?_}
 walk_at "st";lk;intro p r;let c:=(zF r (.lst [])).seq L;refine yIe c (SqL.of zC) (zSx b) O {_,O, ?_};rw[zVq]
 by_cases g:b= []
 ·subst g
  refine zTp {.inl ∅, ?_};exact q _ (zF r _)
 ·let u:0<b...*:=List.length_pos_iff.mpr g
  let D:(b.map V.int).isEmpty=false:=by cases b with | nil=>exact absurd O g | cons _ _=>rfl
  rw[mP O,D];let i:(b.map V.int)...*=b...*:=mN _;let m:0<=k % (b...*:Int):=sF _ ∅;let n:k % (b...*:Int)<b...*:=rY _ ∅;refine zPo {b.map V.int,c,by rw[i];lia,b.map V.int,c,by rw[i];lia, ?_};rw[i];refine zY c (zWs (d:=.int 0) m (by rw[i];exact n)) {b.getD (k % b...*).toNat 0, ?_, .inl ?_, ?_}
  ·simp[List.getD,nH]
  ·generalize (k*7919+k / b...**104729+b.getD (k % b...*).toNat 0*48271)=z
   lia
  ·let e:qN b k=_:=rfl
   let v:qN b k=(((k*7919+k / b...**104729+b.getD (k % b...*).toNat 0*48271)% 1000003*((k*7919+k / b...**104729+b.getD (k % b...*).toNat 0*48271)% 1000003)/ 11+13*((k*7919+k / b...**104729+b.getD (k % b...*).toNat 0*48271)% 1000003))% 1000003):=by
    unfold qN;rw[mI g]
   rw[<-v];exact q _ (zF r _)
def zQe:Sp:=λb H Q _=>∃(m:Int),b= [.int m]/\0<=m/\m<2000000/\∀(i:Int),-(10 ^ 12)<=i->i<=10 ^ 12->∀a,Same H a->Q (.int i) a
theorem yGk(F:Fun K "_law_number_by" "_law_number_by" sNum f fd):FnOk P w K mg base CX0 1 f fd ["_law_more"] zQe:=by
 refine F.okn (N:=["_law_more"]) λe A b s H l Q E k n h=>?_;ext jD h m a j o q;subst a;refine{_,(zD (zT (pT xN (zJ yI (pv 0) zE) zE) (zG (zI (zJ vJ (zJ yI (zJ yK (pv 0) zE) zE) zE))) zK)
  (zD (zT (pT xN (zJ yI (pv 0) zE) zE) (zG (zI (zJ vJ (zJ yI (zJ zAn (pv 0) zE) (zJ xI (zJ gE zE (zJ zAn zE zE)) zE)) (zJ zAn zE zE)))) zK)
  (zG (zI (pX zP (zZ (zA (zJ zAn zE zE) (zA (wO xO (zJ zAn zE zE)) (zA (zJ vJ (zJ zAn zE zE) zE) (zA zE (zA zE (zA (wO xO zE) (zA (zJ zAn zE zE) (zA zE zB))))))))) (zJ yI (zJ yK (pv 0) zE) zE)))))), ?_}
 walk_at "st";lk;split
 ·exact q _ ∅ ∅ _ (Same.refl H)
 ·split
  ·refine{∅,q _ ?_ ?_ _ (Same.refl H)}
   ·let:=sF (m ^ 4) (show(2000000000001:Int)≠0 by decide)
    lia
   ·let:=rY (m ^ 4) (show(0:Int)<2000000000001 by decide)
    lia
  ·intro p g
   obtain⟨v,d,c⟩:=zBc (xs:=[V.int 1000000000000,V.int (-1000000000000),V.int 999999999999,V.int 0,V.int 1,V.int (-1),V.int 100000000000,V.int 999]) (i:=m / 3 % 8) ∅ (by simp only[mW,rB];lia);refine zY (SqL.of zC) d ?_;simp only[mF,rO,bJ] at c;rcases c with rfl | rfl | rfl | rfl | rfl | rfl | rfl | rfl<;>exact q _ ∎ ∎ _ (zF g _)
abbrev yEa:V6:=top 54
def zHe:Sp:=λb H Q _=>∃(m:Int),b= [.int m]/\0<=m/\m<2000000/\∀(x:List Nat),xF x=true->∀a,Same H a->Q (.str (tx x)) a
theorem yBv(F:Fun K "_law_name_by" "_law_name_by" yEa f fd)(B:Bl mg):FnOk P w K mg base CX0 1 f fd ["_law_more"] zHe:=by
 refine F.okn (N:=["_law_more","_law_letters","_law_size_here","_law_at","_law_word","_law_by","_law_signs_here"]) λaa A L s H vs Q E l hr h=>?_;ext jD h m x h0 h1 q;subst x;refine{_,(zD (uW (i:=1) l O (aL O) zL)
  (zD (pS 2 l (pX zP (zZ (zA zE (zA (zJ xI zE (zJ yI (zJ yK (pv 0) zE) zE)) (zA (zJ xI zE (zJ yI (zJ yK (pv 0) zE) zE)) zB)))) (zJ yI (pv 0) zE)))
  (zD (zT (pT xN (zJ yI (zJ yK (pv 0) zE) zE) zE) (zD (pS 3 l (zJ yI (zJ yK (pv 0) zE) (pv 2)))
  (zD (pS 4 l (zJ jO (zJ jO (zJ uN zL (pv 3)) (pX zDq (pv 1) (zJ yI (zJ yK (pv 0) zE) zE))) (zJ uN zL (zJ vJ (zJ vJ (pv 2) (pv 3)) zE))))
  (zG (zI (pv 4))))) zK)
  (zD (uW (i:=5) l O (aL O) (zJ xI zE (zJ yI (zJ yK (pv 0) zE) zE)))
  (zD (gJ (i:=6) l O (nO O) (own:=["_law_j"]) (F:=[("_law_letters",1),("_law_more",0),("_law_by",5)]) {O,tb_g%,tb_g%,tb_g%,(.cons O O O (.cons O O O (.cons O O O .nil)))} O (wE O B.range (zA (zJ vJ (pv 2) zE) zB)) (λ_ _ _ _=>yG (i:=0) (by show(xW ["_law_j"] [("_law_letters",1),("_law_more",0),("_law_by",5)]).Nodup;decide+kernel) O (nO O)) (λ_ _ _ _=>yT) (λ_ _ _ _=>(pX zDq (pv 1) (zJ yI (zJ xI (zJ yK (pv 2) zE) (zJ gE (pv 0) (pv 3))) zE))))
  (zG (zI (zJ jO (pX zDq (pv 1) (zJ yI (zJ yK (pv 0) zE) zE)) (jZ PySem.F.plainAttrs_str PySem.F.slot_str_join PySem.F.type_str_join zQs zL (zA (pv 6) zB)))))))))), ?_}
 walk_at "st";lk;intro p hp;obtain⟨v,hv,hm⟩:=zBc (xs:=[V.int 1,V.int (1+m / 3 % 4),V.int (1+m / 3 % 12)]) (i:=m % 3) ∅ (by simp only[mW,rB];lia);obtain⟨n,rfl,n1,ab⟩:∃n:Int,v= .int n/\1<=n/\n<=12:=by
  simp only[mF,rO,bJ] at hm;rcases hm with rfl | rfl | rfl<;>exact{_,O,∅,∅}
 refine zY (SqL.of zC) hv ?_;simp only[ts_a,zFl,zXs];split
 ·let a0:=sF (m / 72) (show n≠0 by lia)
  let a1:=rY (m / 72) (show 0<n by lia);refine oEA (zWi (i:=m / 864 % 26) ∅ ∅) λc u a=>?_;refine yIn n O ∅ ∎ ∅ (nA ∅ (zDm ∎ (by rw[zJv];exact u) {_,O, ?_,n,O,by decide,∅,∅, ?_, ?_}))
  ·rw[kZ,kZ];simp only[rJ,nL];lia
  ·rw[zHl,kZ,kZ];simp only[mM,rJ,nL];lia
  ·let e:tx (List.replicate (m / 72 % n).toNat 97)++tx [c]++tx (List.replicate (n - m / 72 % n - 1).toNat 97)=tx (List.replicate (m / 72 % n).toNat 97++ [c]++List.replicate (n - m / 72 % n - 1).toNat 97):=by rw[zHl,zHl]
   rw[e];refine q _ (zJd ?_ ?_ ?_) _ (zF hp _)
   ·simp only[mM,rJ,nL];lia
   ·cases e:(m / 72 % n).toNat with|zero=>exact⟨c,_,O,a⟩|succ k=>exact{97,_,O,zOz}
   ·intro d o
    simp only[nB,dA,mH] at o;rcases o with(⟨_,rfl⟩| rfl)|⟨_,rfl⟩
    ·exact zCx zOz
    ·exact zCx a
    ·exact zCx zOz
 ·refine zFx n O ∅ ∅ (uK (λi y I=>Same (upd H p (.lst [V.int 1,V.int (1+m / 3 % 4),V.int (1+m / 3 % 12)])) I/\∃b:List Nat,y=(b.map λc=>tx [c]).map V.str/\b...*=i/\∀c∈b,c∈letL++zGn) (by rw[mS];lia) {Same.refl _,[],O,O,λ_ h=>nomatch h} ?_ ?_)
  ·rintro i y I hi _ ⟨M,b,rfl,J,g⟩
   lk;refine oEA (yGf (i:=(m / 7+(0+(i:Int))*(1+m / 11 % 35))% 36) ∅ ∅) λc u a=>?_;refine{.inl ∅,zDm ∎ (by rw[zJv];exact u) {M,b++ [c],by simp,by simp[J], ?_}};intro d o;rcases nB.mp o with z | z
   ·exact g d z
   ·rw[mH.mp z];exact a
  ·rintro y I J ⟨M,b,rfl,t,g⟩ p' D
   refine oEA (zWi (i:=m / 72 % 26) ∅ ∅) λc u a=>?_;let j:((b.map λc=>tx [c]).map ts).flatten=b:=by
    clear t J g
    induction b with|nil=>rfl|cons d r ih=>simp only[nG,sD,ih,qZ];rfl
   refine zDm ∎ (by rw[zJv];exact u) {O,p',b.map λc=>tx [c],O,O,SqL.of zC,by rw[j];lia,_,O,_,O, ?_, ?_}
   ·rw[j,kZ,kZ,nL];lia
   ·rw[j,zHl]
    refine q _ (zJd ?_ ⟨c,b,O,a⟩ ?_) _ ((zF hp _).trans (M.trans (zF D _)))
    ·show(c::b)...*<=12
     rw[mW];lia
    ·intro d o
     rcases mF.mp o with z | z
     ·rw[z];exact zCx a
     ·exact g d z
abbrev zUk:V6:=top 55
abbrev yDg:V6:=top 56
def zRj:Sp:=λa H Q _=>a= []/\Q (.str (tx zDh)) H
theorem zVi(F:Fun K "_law_signs" "_law_signs" zUk f fd):FnOk P w K mg base CX0 1 f fd [] zRj:=by
 refine F.okn (N:=["_law_some"]) λb A a s H e Q E c d h=>?_;obtain⟨rfl,q⟩:=h;refine{_,(zD (pS 0 c zL)
  (zG (zI (zJ jO (pv 0) zL)))), ?_}
 walk_at "st";lk;refine{by decide, ?_};rw[yIo];exact q
def zKi:Sp:=λb H Q _=>∃(m:Int),b= [.int m]/\0<=m/\m<2000000/\∀(x:List Nat),zDs x=true->∀a,Same H a->Q (.str (tx x)) a
theorem yBp(F:Fun K "_law_text_by" "_law_text_by" yDg f fd)(B:Bl mg)(a:Dn P w K mg base 1 "_law_signs" [] zRj):FnOk P w K mg base CX0 2 f fd ["_law_more"] zKi:=by
 refine F.okn (N:=["_law_more","_law_signs_here","_law_size_here","_law_half","_law_sign","_law_by"]) λaa A u s H vs Q E j hr h=>?_;ext jD h m l h0 h1 q;subst l;refine{_,(zD (uW (i:=1) j O (aL O) (yFc a hr ∅ O))
  (zD (pS 2 j (pX zP (zZ (zA (zJ yI (zJ yK (pv 0) zE) zE) (zA (zJ yI (zJ yK (pv 0) zE) zE) (zA (zJ yI (zJ yK (pv 0) zE) zE) zB)))) (zJ yI (pv 0) zE)))
  (zD (zT (pT xN (zJ yI (zJ yK (pv 0) zE) zE) zE) (zD (pS 3 j (zJ yK (pv 2) zE))
  (zD (pS 4 j (pX zDq (pv 1) (zJ yI (zJ yK (pv 0) zE) zE)))
  (zG (zI (zJ jO (zJ uN zL (pv 3)) (zJ uN (pv 4) (zJ vJ (pv 2) (pv 3)))))))) zK)
  (zD (uW (i:=5) j O (aL O) (zJ xI zE (zJ yI (zJ yK (pv 0) zE) zE)))
  (zG (zI (jZ PySem.F.plainAttrs_str PySem.F.slot_str_join PySem.F.type_str_join zQs zL (zA (xS (own:=["_law_j"]) (F:=[("_law_signs_here",1),("_law_more",0),("_law_by",5)]) {O,tb_g%,tb_g%,tb_g%,(.cons O O O (.cons O O O (.cons O O O .nil)))} O (wE O B.range (zA (pv 2) zB)) (λ_ _ _ _=>yG (i:=0) (by show(xW ["_law_j"] [("_law_signs_here",1),("_law_more",0),("_law_by",5)]).Nodup;decide+kernel) O (nO O)) (λ_ _ _ _=>yT) (λ_ _ _ _=>(pX zDq (pv 1) (zJ yI (zJ xI (zJ yK (pv 2) zE) (zJ gE (pv 0) (pv 3))) zE)))) zB)))))))), ?_}
 walk_at "st";lk;refine{O,λp I=>?_};obtain⟨v,M,J⟩:=zBc (xs:=[V.int (m / 5 % 4),V.int (m / 5 % 9),V.int (m / 5 % 31)]) (i:=m % 3) ∅ (by simp only[mW,rB];lia);obtain⟨n,rfl,n0,ab⟩:∃n:Int,v= .int n/\0<=n/\n<=30:=by
  simp only[mF,rO,bJ] at J;rcases J with rfl | rfl | rfl<;>exact{_,O,∅,∅}
 refine zY (SqL.of zC) M ?_;simp only[ts_q,zFl,zXs];split
 ·refine oEA (zYf (i:=m / 465 % 94) ∅ ∅) λc y b=>?_
  refine nEA n O (zDm ∎ y {by decide,∅,∅,n,O,_,O,(show(1:Nat)<=1000 by decide),∅,∅, ?_, ?_})
  ·rw[qZ,zFl,kZ,kZ];simp only[rJ];lia
  ·rw[qZ,zFl,zHl]
   refine q _ (zIk ?_ ?_) _ (zF I _)
   ·simp only[mM,rJ];lia
   ·intro d k
    simp only[nB,dA] at k;rcases k with⟨_,rfl⟩|⟨_,rfl⟩
    ·exact yIr
    ·exact b
 ·refine uP O n O ∅ ∅ (uK (λi o t=>Same (upd H p (.lst [V.int (m / 5 % 4),V.int (m / 5 % 9),V.int (m / 5 % 31)])) t/\∃e:List Nat,o=(e.map λc=>tx [c]).map V.str/\e...*=i/\∀c∈e,c∈zDh) (by rw[mS];lia) {Same.refl _,[],O,O,λ_ h=>nomatch h} ?_ ?_)
  ·rintro i o t hi _ ⟨x,e,rfl,L,g⟩
   lk;refine oEA (zYf (i:=(m / 7+(0+(i:Int))*(1+m / 13 % 93))% 94) ∅ ∅) λc y b=>?_;refine{.inl ∅,zDm ∎ y {x,e++ [c],by simp,by simp[L], ?_}};intro d k;rcases nB.mp k with z | z
   ·exact g d z
   ·rw[mH.mp z];exact b
  ·rintro o t L ⟨x,e,rfl,D,g⟩ p' r
   refine{p',e.map λc=>tx [c],O,O,SqL.of zC,by rw[zLk];lia, ?_};rw[zLk];exact q _ (zIk ∅ g) _ ((zF I _).trans (x.trans (zF r _)))
abbrev zHb:V6:=top 58
def zBh(K:A9)(d:Nat):Sp:=λe H Q _=>∃(a:V1)(c:List Int)(k:Int),e= [.ref a, .int k, .int d]/\SqL K H a (c.map V.int)/\c...*<=63/\0<=k/\(k+2)*5 ^ d<=1000000/\
 ∀v b t,Same H b->Rep b v t->Nice d t->Q v b
theorem scThing:wF ["_law_script","_law_k","_law_deep","_law_more","_law_kind_here","_law_some","_law_result","_law_j"] ["_law_script","_law_k","_law_deep"] (yB zHb):=by walk_at "sc"
def DInv(e:Hp)(g:V1)(ts:B0)(i:Nat)(d:Hp):Prop:=∃(b:D0)(a:C6)(c:B0),d g=Y (.dK b)/\b.map (·.1)=a.map nK/\Reps e (b.map (·.2)) c/\a.Nodup/\(∀n∈a,xF n=true)/\(∀u∈c,u∈ts)/\a...*<=i
theorem yIh(e:Nat):(1:Int)<=5 ^ e:=by
 induction e with|zero=>decide|succ n a=>rw[Int.pow_succ];lia
theorem zTi(F:Fun K "_law_thing_by" "_law_thing_by" zHb f fd)(B:Bl mg)(e:Dn P w K mg base 1 "_law_cell" ["_law_script","_law_k"] (kD K))(b:Dn P w K mg base 1 "_law_number_by" ["_law_more"] zQe)
  (d:Dn P w K mg base 2 "_law_text_by" ["_law_more"] zKi):FnOk P w K mg base CX0 3 f fd ["_law_script","_law_k","_law_deep"] (zBh K 0):=by
 refine F.ok scThing (by walk_at "ln") λc A o s H vs Q E r h=>?_;ext zU h a m k l hS D;ext xA D n z h1 q;subst l;let t:=scThing.nd;refine{_,(zD (pS 3 t (pD e r (zA (pv 0) (zA (pv 1) zB))))
  (zD (pS 4 t (zJ yI (pv 3) (pX zP (zZ (zA zE (zA zE zB))) (yJ wK O B.int qW (zA (pE kS (pv 2) zE) zB)))))
  (zD (zT (pT xN (pv 4) zE) (zG (zI (pX zP (zZ (zA uU (zA vE (zA vE zB)))) (zJ yI (zJ yK (pv 3) zE) zE)))) zK)
  (zD (zT (pT jU (pv 4) zE) (zG (zI (pD b r (zA (zJ yK (pv 3) zE) zB)))) zK)
  (zD (zT (pT jU (pv 4) zE) (zG (zI (pD d r (zA (zJ yK (pv 3) zE) zB)))) zK)
  zEa))))), ?_}
 walk_at "st";lk;refine zGi hS n z ∅ λH1 g1 p I=>zY (SqL.of zC) (v:=.int 5) O {_,O,5,O,by decide, ?_};let c0:=qB m k;let c1:=jE m k;let j:=g1.trans (zF I (.lst [V.int 5,V.int 9]));split
 ·intro p2 g
  refine nEA _ O ?_;obtain⟨v,y,u⟩:=zBc (xs:=[V.non,V.bl true,V.bl false]) (i:=qN m k / 9 % 3) ∅ (by simp only[mW,rB];lia);refine zY (SqL.of zC) y ?_;simp only[mF,rO,bJ] at u;rcases u with rfl | rfl | rfl
  ·exact q _ _ .non (j.trans (zF g _)) O trivial
  ·exact q _ _ (.bl true) (j.trans (zF g _)) O trivial
  ·exact q _ _ (.bl false) (j.trans (zF g _)) O trivial
 ·split
  ·exact{_,O,_,O,∅,∅,λi L M N g2=>q _ _ (.int i) (j.trans g2) O ⟨L,M⟩}
  ·rw[mP ∅]
   exact{_,O,_,O,∅,∅,λx J N g2=>q _ _ (.str x) (j.trans g2) O J}
theorem zSu{e:Nat}(F:Fun K "_law_thing_by" "_law_thing_by" zHb f fd)(B:Bl mg)(g:Dn P w K mg base 1 "_law_cell" ["_law_script","_law_k"] (kD K))(d:Dn P w K mg base 1 "_law_number_by" ["_law_more"] zQe)
  (m:Dn P w K mg base 2 "_law_text_by" ["_law_more"] zKi) (l:Dn P w K mg base 1 "_law_name_by" ["_law_more"] zHe)
  (j:Dn P w K mg base (3+e) "_law_thing_by" ["_law_script","_law_k","_law_deep"] (zBh K e)):FnOk P w K mg base CX0 (3+e+1) f fd ["_law_script","_law_k","_law_deep"] (zBh K (e+1)):=by
 refine F.ok scThing (by walk_at "ln") λc A o s H vs Q E hr h=>?_;ext zU h a I k ak hS z_;ext xA z_ M h0 h1 q;subst ak;let nd:=scThing.nd;let hu:=wY hr;refine{_,(zD (pS 3 nd (pD g hr (zA (pv 0) (zA (pv 1) zB))))
  (zD (pS 4 nd (zJ yI (pv 3) (pX zP (zZ (zA zE (zA zE zB))) (yJ wK O B.int qW (zA (pE kS (pv 2) zE) zB)))))
  (zD (zT (pT xN (pv 4) zE) (zG (zI (pX zP (zZ (zA uU (zA vE (zA vE zB)))) (zJ yI (zJ yK (pv 3) zE) zE)))) zK)
  (zD (zT (pT jU (pv 4) zE) (zG (zI (pD d hr (zA (zJ yK (pv 3) zE) zB)))) zK)
  (zD (zT (pT jU (pv 4) zE) (zG (zI (pD m hr (zA (zJ yK (pv 3) zE) zB)))) zK)
  (zD (gJ (i:=5) nd O (nO O) (own:=["_law_j"]) (F:=[("_law_script",0),("_law_k",1),("_law_deep",2)]) {O,tb_g%,tb_g%,tb_g%,(.cons O O O (.cons O O O (.cons O O O .nil)))} O (wE O B.range (zA (zJ yI (zJ yK (pv 3) zE) zE) zB)) (λ_ _ _ _=>yG (i:=0) (by show(xW ["_law_j"] [("_law_script",0),("_law_k",1),("_law_deep",2)]).Nodup;decide+kernel) O (nO O)) (λ_ _ _ _=>yT) (λ_ _ _ _=>(pD j hr (zA (pv 1) (zA (zJ xI (zJ xI (zJ gE (pv 2) zE) zE) (pv 0)) (zA (zJ vJ (pv 3) zE) zB))))))
  (zD (zT (pT jU (pv 4) zE) (zG (zI (pv 5))) zK)
  (zD (pS 6 nd zGc)
  (zD (vX PassesOwn.never O (wE O B.range (zA (zN yE O B.len yS (zA (pv 5) zB)) zB)) (yG (i:=7) nd O (nO O)) (zG (zCh hu (pv 6) (pD l hr (zA (zJ xI (zJ yK (pD g hr (zA (pv 0) (zA (zJ xI (zJ xI (zJ gE (pv 1) zE) zE) (pv 7)) zB))) zE) (pv 7)) zB)) (pX zP (pv 5) (pv 7)) O)))
  (zG (zI (pv 6)))))))))))), ?_}
 walk_at "st";lk;let ae:(1:Int)<=5 ^ e:=yIh e;let ab:(5:Int)^ (e+1)=5 ^ e*5:=Int.pow_succ ..;let h2:(k+2)*5*5 ^ e<=1000000:=by rw[Int.mul_assoc,Int.mul_comm 5 (5 ^ e),<-ab];exact h1
 let h3:(k+2)*5<=1000000:=by
  let:(k+2)*5*1<=(k+2)*5*5 ^ e:=Int.mul_le_mul_of_nonneg_left ae ∅
  lia
 refine zGi hS M h0 ∅ λH1 g1 p hp=>zY (SqL.of zC) (v:=.int 9) ?_ {_,O,9,O,by decide, ?_}
 ·rw[mP ∅];rfl
 let c0:=qB I k;let c1:=jE I k;let gp:=g1.trans (zF hp (.lst [V.int 5,V.int 9]));split
 ·intro p2 y
  refine nEA _ O ?_;obtain⟨v,hv,hm⟩:=zBc (xs:=[V.non,V.bl true,V.bl false]) (i:=qN I k / 9 % 3) ∅ (by simp only[mW,rB];lia);refine zY (SqL.of zC) hv ?_;simp only[mF,rO,bJ] at hm;rcases hm with rfl | rfl | rfl
  ·exact q _ _ .non (gp.trans (zF y _)) O trivial
  ·exact q _ _ (.bl true) (gp.trans (zF y _)) O trivial
  ·exact q _ _ (.bl false) (gp.trans (zF y _)) O trivial
 ·split
  ·exact{_,O,_,O,∅,∅,λi i0 i1 N g2=>q _ _ (.int i) (gp.trans g2) O ⟨i0,i1⟩}
  ·split
   ·exact{_,O,_,O,∅,∅,λx hx N g2=>q _ _ (.str x) (gp.trans g2) O hx}
   ·refine zFx _ O ∅ ∅ (uK (λi r J=>Same (upd H1 p (.lst [V.int 5,V.int 9])) J/\∃ts,Reps J r ts/\ts...*=i/\NiceL e ts) (by rw[mS];lia) {Same.refl _,[],O,O,trivial} ?_ ?_)
    ·rintro i r J hi _ ⟨hs,ts,hR,hl,hN⟩
     lk;refine{a,I,k*5+1+(0+(i:Int)), ?_,hs.seq (gp.seq hS),M,∅, ?_,λv N t g2 hv hn=>{hs.trans g2,ts++ [t],Reps.snoc hv (Reps.same g2 _ _ hR),by simp[hl],NiceL.snoc hn hN}}
     ·rw[show((e+1:Nat):Int)- 1=(e:Int) by lia]
     ·let:(k*5+1+(0+(i:Int))+2)*5 ^ e<=(k+2)*5*5 ^ e:=Int.mul_le_mul_of_nonneg_right ∅ ∅
      lia
    ·rintro r J hl ⟨hs,ts,hR,ao,hN⟩ L af
     let gl:=gp.trans (hs.trans (zF af (.lst r)));let ag:Reps (upd J L (.lst r)) r ts:=Reps.same (zF af _) _ _ hR
     by_cases h7:qN I k % 9<7
     ·rw[mP h7]
      exact q _ _ (.lst ts) gl ⟨L,r,O,zC,ag⟩ {∅,∅,hN}
     rw[mI h7];intro p2 y;let gd:=zF y (.dK []);let aq:=hR...*;let ai:SqL K (upd (upd J L (.lst r)) p2 (.dK [])) L r:=SqL.of (gd _ _ zC);refine zDx L O r ai ∅ (nA ∅ ?_);rw[bS];refine jY (λi σ N=>(∃o,σ= [Y (V.ref a),Y (V.int k),Y (V.int ((e+1:Nat):Int)),Y (V.int (qN I k)),Y (V.int (qN I k % 9)),Y (V.ref L),Y (V.ref p2),o])/\Same (upd J L (.lst r)) N/\DInv (upd J L (.lst r)) p2 ts i N) {⟨_,O⟩,gd,[],[],[],zC,O,O,aO,λ_ h=>(nomatch h),λ_ h=>(nomatch h),mE _} ?_ ?_
     ·rintro i σ N hi ⟨⟨o,rfl⟩,g2,ps,ks,us,hd,hk,hU,aa,ac,D,ah⟩
      lk;obtain⟨v,hv⟩:∃v,r[i]? =Y v:={r[i],by simp[hi]};refine oEA (ag.get hv) λt ht aj=>?_;refine zY (SqL.of (g2 _ _ zC)) (by rw[Int.zero_add];exact zQ hv) (zGi (g2.seq (gl.seq hS)) M ∅ ∅ λH3 g3=>?_);let ar:=qB I (k*5+1+(0+(i:Int)));let ap:=jE I (k*5+1+(0+(i:Int)));refine{_,O,_,O,∅,∅,λx hx H4 g4=>{_,DPut.k (k:=nK x) (g4 _ _ (g3 _ _ hd)) ?_,⟨_,O⟩, ?_, ?_}}
      ·let:=congrArg List.length hk
       simp only[mN] at this;rw[mS];lia
      ·intro b o' hb
       let an:b≠p2:=λz=>by rw[z,y] at hb;cases hb
       rw[zM an];exact g4 _ _ (g3 _ _ (g2 _ _ hb))
      ·refine zR (yCb (n:=x) hk hU aa aj) λam al e1 e2 e3 z_=>?_
       ext oAA z_ e4 e5 e6;refine{_,am,al,zC,e1,e2,e3,λn hn=>?_,λu hu=>?_,∅}
       ·rcases e4 n hn with z | z
        ·exact ac n z
        ·rw[z];exact hx
       ·rcases e5 u hu with z | z
        ·exact D u z
        ·rw[z];exact mO ht
     ·rintro σ N ⟨⟨o,rfl⟩,g2,ps,ks,us,hd,hk,hU,aa,ac,D,ah⟩
      lk;let l1:=congrArg List.length hk;simp only[mN] at l1;let l2:=hU...*;simp only[mN] at l2;refine q _ _ (.dic ks us) (gl.trans g2) {p2,ps,O,hd,hk,Reps.same g2 _ _ hU} {∅,∅,∅,aa,ac,NiceL_iff.mpr λu hu=>NiceL_iff.mp hN u (D u hu)}
abbrev yDp:V6:=top 59
abbrev zRz:V6:=top 9
noncomputable def wM(t:String):V:=if t= "NoneType" then .str "nothing" else if t= "bool" then .str "truth" else if t= "int" then .str "number" else if t= "str" then .str "text" else if t= "list" then .str "row" else if t= "dict" then .str "record" else .non
def zGw:Sp:=λb H Q _=>∃(v:V)(t:String),b= [v]/\tyS H v=Y t/\∀a,Same H a->Q (wM t) a
theorem gI{H:Hp}{v:V}(h:tyS H v=some "NoneType"):v= .non:=by
 cases v with
 |non=>rfl|ref a=>
  let c:(match H a with | some (.lst _)=>some "list" | some (.tup _)=>some "tuple" | some (.dK _)=>some "dict" | _=>none)=some "NoneType":=h
  split at c<;>first | exact absurd (mU c) ∎| cases c
 |bl b=>exact absurd (mU h) ∎|int b=>exact absurd (mU h) ∎|str b=>exact absurd (mU h) ∎|byt b=>cases h|flt b=>cases h|ty b=>cases h
theorem yAd{H:Hp}{v:V}{t:String}{Q:VK}(a:tyS H v=Y t)(q:Q (wM t) H):
  if v=V.non then Q (V.str (A8 "nothing")) H else∃x,tyS H v=Y x/\if yC x "bool" =true then Q (V.str (A8 "truth")) H else
   ∃x,tyS H v=Y x/\if yC x "int" =true then Q (V.str (A8 "number")) H else∃x,tyS H v=Y x/\if yC x "str" =true then Q (V.str (A8 "text")) H else
   ∃x,tyS H v=Y x/\if yC x "list" =true then Q (V.str (A8 "row")) H else∃x,tyS H v=Y x/\if yC x "dict" =true then Q (V.str (A8 "record")) H else Q V.non H:=by
 let c:=qU a;simp only[a,Option.some.injEq,dR]
 by_cases b:v= .non
 ·subst b;cases a;rw[mP O];exact q
 ·rw[mI b]
  simp only[tyL,mF,rO,bJ] at c;rcases c with rfl | rfl | rfl | rfl | rfl | rfl | rfl
  ·exact absurd (gI a) b
  all_goals (simpa [yC,wM] using q)
theorem yAo(F:Fun K "_law_kind" "_law_kind" yDp f fd)(B:Bl mg):FnOk P w K mg base CX0 1 f fd ["_law_thing"] zGw:=by
 refine F.okn (N:=["_law_thing"]) λc A a s H g Q E e i h=>?_;ext yL h v t b d q;subst b;refine{_,(zD (zT (gR (zPn (pv 0))) (zG (zI zL)) zK)
  (zD (zT (yD (pI B.isinstance zH B.bool zSd (pv 0))) (zG (zI zL)) zK)
  (zD (zT (yD (pI B.isinstance zH B.int qW (pv 0))) (zG (zI zL)) zK)
  (zD (zT (yD (pI B.isinstance zH B.str jJ (pv 0))) (zG (zI zL)) zK)
  (zD (zT (yD (pI B.isinstance zH B.list yQ (pv 0))) (zG (zI zL)) zK)
  (zD (zT (yD (pI B.isinstance zH B.dict xJ (pv 0))) (zG (zI zL)) zK)
  (zG (zI uU)))))))), ?_}
 walk_at "st";lk;exact yAd d (q H (Same.refl H))
abbrev zQu:V6:=top 60
abbrev zZm:V6:=top 61
def zLy(n:Nat):Sp:=λc H Q _=>∃(v u:V)(t a:T),c= [v,u]/\Rep H v t/\Rep H u a/\T.few t/\T.few a/\m9 t<=n/\m9 a<=n/\∀b,Same H b->Q (.int (wC (zO t) (zO a))) b
def zVk(n:Nat):Sp:=λi H Q _=>∃(a b:V1)(h e:B3)(d c:B0),i= [.ref a, .ref b]/\H a=Y (.lst h)/\H b=Y (.lst e)/\Reps H h d/\Reps H e c/\i4 d/\i4 c/\d...*<=100000/\c...*<=100000/\j5 d<=n/\j5 c<=n/\∀g,Same H g->Q (.int (qK (xT d) (xT c))) g
theorem yAx{n:Nat}(F:Fun K "_law_rows_compare" "_law_rows_compare" zQu f fd)(B:Bl2 mg)(c:Dn P w K mg base (2+2*n) "_law_compare" ["_law_one","_law_other"] (zLy n)):
  FnOk P w K mg base CX0 (2+2*n+1) f fd ["_law_one","_law_other"] (zVk n):=by
 refine F.okn (N:=["_law_one","_law_other","_law_k","_law_result"]) λaf A ac s H vs Q E nd hr h=>?_;ext yA h a b j d l o;ext wG o k aa D x hx o;ext zS o hy fx fy lx ly o;ext oAA o wx wy q;subst aa;refine{_,(zD (vX PassesOwn.never O (wE O B.range (zA (zN (zEh O) O B.min zOe (zA (zN yE O B.len yS (zA (pv 0) zB)) (zA (zN yE O B.len yS (zA (pv 1) zB)) zB))) zB)) (yG (i:=2) nd O (nO O)) (zD (pS 3 nd (pD c hr (zA (pX zP (pv 0) (pv 2)) (zA (pX zP (pv 1) (pv 2)) zB))))
  (zG (zT (pT zEp (pv 3) zE) (zG (zI (pv 3))) zK))))
  (zG (zI (zJ vJ (yJ wK O B.int qW (zA (pE kS (zN yE O B.len yS (zA (pv 0) zB)) (zN yE O B.len yS (zA (pv 1) zB))) zB)) (yJ wK O B.int qW (zA (pE jU (zN yE O B.len yS (zA (pv 0) zB)) (zN yE O B.len yS (zA (pv 1) zB))) zB)))))), ?_}
 walk_at "st";lk;let ab:=hx...*;let ae:=hy...*;refine kB j (SqL.of D) d (SqL.of x) j...* (zFx d...* ⟨O,O⟩ (by split<;>lia) (by split<;>lia) ?_);let em:(if(d...*:Int)<j...* then(d...*:Int) else j...*).toNat=min (xT l)...* (xT k)...*:=by
  rw[qA,qA];split<;>lia
 rw[em];let M:min (xT l)...* (xT k)...*<=l...*/\min (xT l)...* (xT k)...*<=k...*:=by
  rw[qA,qA];exact{Nat.min_le_left _ _,Nat.min_le_right _ _}
 generalize hm:min (xT l)...* (xT k)...*=m at M⊢;refine jY (λi σ I=>(∃o2 o3,σ= [Y (V.ref a),Y (V.ref b),o2,o3])/\Same H I/\qK (xT l) (xT k)=qK ((xT l).drop i) ((xT k).drop i)) {⟨_,_,O⟩,Same.refl _,O} ?_ ?_
 ·rintro i σ I hi ⟨⟨o2,o3,rfl⟩,g,e⟩
  lk;let h1:i<j...*:=by lia
  let h2:i<d...*:=by lia
  refine oEA (hx.get (i:=i) (v:=j[i]) (by simp[h1])) λt1 r J=>?_;refine oEA (hy.get (i:=i) (v:=d[i]) (by simp[h2])) λt2 t L=>?_;let p:=mO r;let u:=mO t;let w1:=k9 p;let w2:=k9 u;let hd:=zOu (zAc r) (zAc t);refine{a,j,i,j[i],O,by simp,SqL.of (g _ _ D), ?_,b,d,i,d[i],O,by simp,SqL.of (g _ _ x), ?_,j[i],d[i],t1,t2,O,Rep.same g _ _ J,Rep.same g _ _ L,b9 fx p,b9 fy u,∅,∅,λH3 g3=>?_}
  ·exact zQ (by simp[h1])
  ·exact zQ (by simp[h2])
  ·rw[e,hd] at q
   by_cases y:wC (zO t1) (zO t2)=0
   ·exact zPi O false (by rw[y];rfl) (zTp {⟨_,O⟩,g.trans g3,by rw[e,hd,mP y]})
   ·rw[mI y] at q
    refine zPi O true ?_ (zPo (q _ (g.trans g3)));simp[y]
 ·rintro σ I ⟨⟨o2,o3,rfl⟩,g,e⟩
  lk;let he:=zSf (xs:=xT l) (ys:=xT k) hm.symm;rw[qA,qA] at he;let z:=q I g;rw[e,he,sgI,<-ab,<-ae] at z;exact kB j (SqL.of (g _ _ D)) d (SqL.of (g _ _ x)) j (zPi (SqL.of (g _ _ D)) d (SqL.of (g _ _ x)) z)
theorem iP{c A B:Prop} [Decidable c] (h:c) (a:A):if c then A else B:=by rw[mP h];exact a
theorem iN{c A B:Prop} [Decidable c] (h:¬c) (b:B):if c then A else B:=by rw[mI h];exact b
noncomputable def wordsS:List Str:=["nothing","truth","number","text","row","record"]
theorem zBe(t:T)(h:T.few t):∃k,wM (tyT t)= .str k/\wordsS[(zO t).ord]? =Y k/\∀i,i<(zO t).ord->wordsS[i]?≠Y k:=by
 cases t with|non=>exact{"nothing",by decide+kernel,O,λi h=>absurd h (pV i)}|bl b=>exact{"truth",by show wM "bool" =_;decide+kernel,O,by show∀i,i<1->_;decide+kernel}|int b=>exact{"number",by show wM "int" =_;decide+kernel,O,by show∀i,i<2->_;decide+kernel}|str b=>exact{"text",by show wM "str" =_;decide+kernel,O,by show∀i,i<3->_;decide+kernel}|lst b=>exact{"row",by show wM "list" =_;decide+kernel,O,by show∀i,i<4->_;decide+kernel}|dic a b=>exact{"record",by show wM "dict" =_;decide+kernel,O,by show∀i,i<5->_;decide+kernel}|tup b=>exact h.elim
theorem zHk{x n:Str}{j:Nat}{d l:V1}{ps:D0}{ks:C6}{us:B0}{c:C1}{σ:St}{Q:VK}{H1:Hp}(M:H1 d=Y (.dK ps))(hl:H1 l=none)(J:ks...*<64)(nk:ks.Nodup)
  (hk:ps.map (·.1)=ks.map λk=>(Sum.inr (tx k):Key)) (hs:Reps H1 (ps.map (·.2)) us) (o:c.Perm (ks.map tx)) (D:PyProof.Rows.sortedS c=true) (L:(σ[j]?).join=Y (.ref d))
  (q:∀p m a,Same H1 a->a p=Y (.lst m)->Reps a m (zAe ks us)->Q (.ref p) a):
  wN [x] [(n,j)] (qQ 0) zBa (zZh (vK (jC 0) (vK (zHa (jC 1) (jC 0)) zAh))) σ Q (Itl K l) (upd H1 l (.lst (c.map V.str))):=by
 let N:=zDb o D;let H:Same H1 (upd H1 l (.lst (c.map V.str))):=zF hl _;let u:upd H1 l (.lst (c.map V.str)) l=Y (.lst (c.map V.str)):=zC;let e:(c.map V.str)...*=ks...*:=by rw[mN,o.length_eq,mN]
 generalize upd H1 l (.lst (c.map V.str))=H2 at H u⊢;refine wJ (K:=K) (xs:=c.map V.str) (λi m a=>Same H2 a/\Reps a m ((zAe ks us).take i)) ?_ {Same.refl _,O} (λi m a _ h=>SqL.of (h.1 _ _ u)) ?_ ?_
 ·rw[mS,e];lia
 ·rintro i y m a z _ ⟨g,A⟩
  rw[N,sI,nH] at z
  cases b:(wT ks)[i]? with
  |none=>rw[b] at z;cases z|some k=>
   rw[b] at z;let ey:V.str (tx k)=y:=mU z;subst ey;let t:(zAe ks us)[i]? =Y (.lst [.str k,yH k ks us]):=by rw[zAe,nH,b];rfl
   let I:=H.trans g;obtain⟨v,B,E⟩:=i5 nk hk (Reps.same I _ _ hs) (mem_sortK.mp (mO b));lk;rw[L];refine qR d O v (.inl {ps,Sum.inr (tx k), .inl (I _ _ M),O,B.symm}) (λp o=>{g.trans (zF o _), ?_});rw[yO t];let s:Rep (upd a p (.lst [V.str (tx k),v])) (.ref p) (.lst [.str k,yH k ks us]):={p,_,O,zC,_,_,O,O,_,_,O,Rep.same (zF o _) _ _ E,O};exact Reps.snoc s (Reps.same (zF o _) _ _ A)
 ·rintro m a _ ⟨g,A⟩ p r
  rw[e,<-zGu ks us,pG] at A;exact q p m _ (H.trans (g.trans (zF r _))) zC (Reps.same (zF r _) _ _ A)
theorem scCmp:wF ["_law_one","_law_other","_law_words","_law_first","_law_second","_law_left","_law_right"] ["_law_one","_law_other"] (yB zZm):=by walk_at "sc"
theorem yBc{n:Nat}(F:Fun K "_law_compare" "_law_compare" zZm f fd)(B:Bl2 mg)(e:Dn P w K mg base 1 "_law_kind" ["_law_thing"] zGw)(d:Dn P w K mg base (2+2*n+1) "_law_rows_compare" ["_law_one","_law_other"] (zVk n)):
  FnOk P w K mg base CX0 (2+2*n+1+1) f fd ["_law_one","_law_other"] (zLy (n+1)):=by
 refine F.ok scCmp (by walk_at "ln") λc A o s H vs Q E hr h=>?_;ext yN h v u t x ae z_;ext zS z_ hv k f1 f2 w1 z_;ext oA z_ w2 q;subst ae;let nd:=scCmp.nd;let hu:=wY hr;refine{_,(zD (pS 2 nd (zZ (zA zL (zA zL (zA zL (zA zL (zA zL (zA zL zB))))))))
  (zD (pS 3 nd (jZ nY sX tX zCy (pv 2) (zA (pD e hr (zA (pv 0) zB)) zB)))
  (zD (pS 4 nd (jZ nY sX tX zCy (pv 2) (zA (pD e hr (zA (pv 1) zB)) zB)))
  (zD (zT (pT zEp (pv 3) (pv 4)) (zG (zI (zJ vJ (yJ wK O B.int qW (zA (pE kS (pv 3) (pv 4)) zB)) (yJ wK O B.int qW (zA (pE jU (pv 3) (pv 4)) zB))))) zK)
  (zD (zT (pT xN (pv 3) zE) (zG (zI zE)) zK)
  (zD (zT (pT jU (pv 3) zE) (zG (zI (zJ vJ (yJ wK O B.int qW (zA (pE zPv (pv 0) (pv 1)) zB)) (yJ wK O B.int qW (zA (pE zPs (pv 0) (pv 1)) zB))))) zK)
  (zD (zT (pT xN (pv 3) zE) (zG (zI (pD d hr (zA (pv 0) (zA (pv 1) zB))))) zK)
  (zD (gJ (i:=5) nd O (nO O) (own:=["_law_name"]) (F:=[("_law_one",0)]) {O,tb_g%,tb_g%,tb_g%,(.cons O O O .nil)} O (xG (zN (qO O) O B.sorted uC (zA (pv 0) zB))) (λ_ _ _ _=>yG (i:=0) (by show(xW ["_law_name"] [("_law_one",0)]).Nodup;decide+kernel) O (nO O)) (λ_ _ _ _=>yT) (λ_ _ _ _=>(zZ (zA (pv 0) (zA (jR hu (pv 1) (pv 0) (λ_ _=>O)) zB)))))
  (zD (gJ (i:=6) nd O (nO O) (own:=["_law_name"]) (F:=[("_law_other",1)]) {O,tb_g%,tb_g%,tb_g%,(.cons O O O .nil)} O (xG (zN (qO O) O B.sorted uC (zA (pv 1) zB))) (λ_ _ _ _=>yG (i:=0) (by show(xW ["_law_name"] [("_law_other",1)]).Nodup;decide+kernel) O (nO O)) (λ_ _ _ _=>yT) (λ_ _ _ _=>(zZ (zA (pv 0) (zA (jR hu (pv 1) (pv 0) (λ_ _=>O)) zB)))))
  (zG (zI (pD d hr (zA (pv 5) (zA (pv 6) zB)))))))))))))), ?_}
 walk_at "st";lk;intro p hp;refine xC (zBe t f1) λk1 e1 i1 n1=>?_;refine xC (zBe x f2) λk2 e2 i2 n2=>?_;let o1:(zO t).ord<1000000:=by cases (zO t)<;>simp[C.ord]
 let o2:(zO x).ord<1000000:=by cases (zO x)<;>simp[C.ord]
 let g0:Same H (upd H p (.lst (wordsS.map V.str))):=zF hp _;let r:upd H p (.lst (wordsS.map V.str)) p=Y (.lst (wordsS.map V.str)):=zC;rw[show[V.str (A8 "nothing"),V.str (A8 "truth"),V.str (A8 "number"),V.str (A8 "text"),V.str (A8 "row"),V.str (A8 "record")]=wordsS.map V.str from O];generalize upd H p (.lst (wordsS.map V.str))=H1 at g0 r⊢;refine{nO {O,_,SqL.of r},v,_,O,(Rep.same g0 _ _ hv).ty,λH2 g2=>?_};refine{p,wordsS,k1,_,O,by rw[e1],SqL.of (g2 _ _ r),i1,n1,o1,nO {O,_,SqL.of (g2 _ _ r)},u,_,O,(Rep.same (g0.trans g2) _ _ k).ty,λH3 g3=>?_};let j:=g0.trans (g2.trans g3);refine{p,wordsS,k2,_,O,by rw[e2],SqL.of (g3 _ _ (g2 _ _ r)),i2,n2,o2,O, ?_}
 by_cases y:(zO t).ord=(zO x).ord
 ·refine nEA false (by simp[y]) (zTp {O, ?_})
  let zq:=q
  cases t with
  |non=>
   cases x with|non=>exact iP (by simp[zO,C.ord]) (q _ j)|_=>exact absurd y (by simp[zO,C.ord])
  |bl b=>
   cases x with
   |bl m=>
    cases (show v=_ from hv);cases (show u=_ from k);refine iN (by simp[zO,C.ord]) {_,O,iP (by simp[zO,C.ord]) {_,O,_,O,_,O,_,O, ?_}};let z:=q _ j;rw[show wC (zO (.bl b)) (zO (.bl m))=(if(b && !m)=true then 1 else 0)- (if(m && !b)=true then 1 else 0) by cases b<;>cases m<;>rfl] at z;exact z
   |_=>exact absurd y (by simp[zO,C.ord])
  |int b=>
   cases x with
   |int m=>
    cases (show v=_ from hv);cases (show u=_ from k);refine iN (by simp[zO,C.ord]) {_,O,iP (by simp[zO,C.ord]) {_,O,_,O,_,O,_,O, ?_}};let z:=q _ j;rw[show wC (zO (.int b)) (zO (.int m))=(if m<b then 1 else 0)- (if b<m then 1 else 0) by rw[zO,zO,wC];rfl] at z
    simpa using z
   |_=>exact absurd y (by simp[zO,C.ord])
  |str b=>
   cases x with
   |str m=>
    cases (show v=_ from hv);cases (show u=_ from k);refine iN (by simp[zO,C.ord]) {_,O,iP (by simp[zO,C.ord]) {_,O,_,O,_,O,_,O, ?_}};let z:=q _ j;rw[show wC (zO (.str b)) (zO (.str m))=(if m<b then 1 else 0)- (if b<m then 1 else 0) by rw[zO,zO,wC];rfl] at z;simp only[qZ,pO];exact z
   |_=>exact absurd y (by simp[zO,C.ord])
  |lst us=>
   cases x with
   |lst ws=>
    ext yL hv a xs g ha hx;subst g;ext yL k b ys g hb hy;subst g;refine iN (by simp[zO,C.ord]) {_,O,iN (by simp[zO,C.ord]) {O,iP (by simp[zO,C.ord]) ?_}};let af:j5 us+1<=n+1:=w1;let am:j5 ws+1<=n+1:=w2;refine{a,b,xs,ys,us,ws,O,j _ _ ha,j _ _ hb,Reps.same j _ _ hx,Reps.same j _ _ hy,f1.2,f2.2,f1.1,f2.1,∅,∅,λH4 g4=>?_};let z:=q _ (j.trans g4);rw[zO,zO,wC] at z;exact z
   |_=>exact absurd y (by simp[zO,C.ord])
  |dic ks us=>
   cases x with
   |dic N ws=>
    ext zR hv a ps g ha hk hx;subst g;ext zR k b aj g hb ac hy;subst g;ext xA f1 nk ab aa fx;ext xA f2 ag J I fy;let af:j5 us+2<=n+1:=w1;let am:j5 ws+2<=n+1:=w2;let r1:=zRq aa;let r2:=zRq I;let l1:=zGu ks us;let l2:=zGu N ws;refine iN (by simp[zO,C.ord]) {_,O,iN (by simp[zO,C.ord]) {O,iN (by simp[zO,C.ord]) ?_}};refine kB a O ps (.inl (j _ _ ha)) (ks.map tx) (nAA (by rw[hk,sI];rfl) (by rw[mN];exact ab) (λl ss hl M L=>{{_,SqL.of zC},zHk (j _ _ ha) hl ab nk hk (Reps.same j _ _ hx) M L O λp1 ao H4 g4 ai ah=>?_}));let D:=j.trans g4;refine kB b O aj (.inl (D _ _ hb)) (N.map tx) (nAA (by rw[ac,sI];rfl) (by rw[mN];exact J) (λl ss hl M L=>{{_,SqL.of zC},zHk (D _ _ hb) hl J ag ac (Reps.same D _ _ hy) M L O λp2 al H5 g5 an ak=>?_}));refine{p1,p2,ao,al,zAe ks us,zAe N ws,O,g5 _ _ ai,an,Reps.same g5 _ _ ah,ak,zNb aa fx,zNb I fy,∅,∅,∅,∅,λH6 g6=>?_};let z:=q _ (D.trans (g5.trans g6));rw[zO,zO,wC,<-zGa,<-zGa] at z;exact z
   |_=>exact absurd y (by simp[zO,C.ord])
  |tup us=>exact f1.elim
 ·refine nEA true ?_ (zPo {_,O,_,O,_,O,_,O, ?_})
  ·simpa [Int.ofNat_inj] using y
  ·let z:=q H3 j
   rw[zCo _ _ y,sgI] at z;exact z
theorem yBm(F:Fun K "_law_compare" "_law_compare" zZm f fd)(B:Bl2 mg)(a:Dn P w K mg base 1 "_law_kind" ["_law_thing"] zGw):
  FnOk P w K mg base CX0 2 f fd ["_law_one","_law_other"] (zLy 0):=by
 refine F.ok scCmp (by walk_at "ln") λc A o s H vs Q E y h=>?_;ext yN h v u t i x r;ext zS r l g J f2 D r;ext oA r w2 q;subst x;let n:=scCmp.nd;let hu:=wY y;refine{_,(zD (pS 2 n (zZ (zA zL (zA zL (zA zL (zA zL (zA zL (zA zL zB))))))))
  (zD (pS 3 n (jZ nY sX tX zCy (pv 2) (zA (pD a y (zA (pv 0) zB)) zB)))
  (zD (pS 4 n (jZ nY sX tX zCy (pv 2) (zA (pD a y (zA (pv 1) zB)) zB)))
  (zD (zT (pT zEp (pv 3) (pv 4)) (zG (zI (zJ vJ (yJ wK O B.int qW (zA (pE kS (pv 3) (pv 4)) zB)) (yJ wK O B.int qW (zA (pE jU (pv 3) (pv 4)) zB))))) zK)
  (zD (zT (pT xN (pv 3) zE) (zG (zI zE)) zK)
  (zD (zT (pT jU (pv 3) zE) (zG (zI (zJ vJ (yJ wK O B.int qW (zA (pE zPv (pv 0) (pv 1)) zB)) (yJ wK O B.int qW (zA (pE zPs (pv 0) (pv 1)) zB))))) zK)
  zEa)))))), ?_}
 walk_at "st";lk;intro p hp;refine xC (zBe t J) λM e1 i1 n1=>?_;refine xC (zBe i f2) λk2 N i2 n2=>?_;let o1:(zO t).ord<1000000:=by cases (zO t)<;>simp[C.ord]
 let o2:(zO i).ord<1000000:=by cases (zO i)<;>simp[C.ord]
 let m:Same H (upd H p (.lst (wordsS.map V.str))):=zF hp _;let e:upd H p (.lst (wordsS.map V.str)) p=Y (.lst (wordsS.map V.str)):=zC;rw[show[V.str (A8 "nothing"),V.str (A8 "truth"),V.str (A8 "number"),V.str (A8 "text"),V.str (A8 "row"),V.str (A8 "record")]=wordsS.map V.str from O];generalize upd H p (.lst (wordsS.map V.str))=H1 at m e⊢;refine{nO {O,_,SqL.of e},v,_,O,(Rep.same m _ _ l).ty,λH2 g2=>?_};refine{p,wordsS,M,_,O,by rw[e1],SqL.of (g2 _ _ e),i1,n1,o1,nO {O,_,SqL.of (g2 _ _ e)},u,_,O,(Rep.same (m.trans g2) _ _ g).ty,λH3 I=>?_};let k:=m.trans (g2.trans I);refine{p,wordsS,k2,_,O,by rw[N],SqL.of (I _ _ (g2 _ _ e)),i2,n2,o2,O, ?_}
 by_cases j:(zO t).ord=(zO i).ord
 ·refine nEA false (by simp[j]) (zTp {O, ?_})
  let zq:=q
  cases t with
  |non=>
   cases i with|non=>exact iP (by simp[zO,C.ord]) (q _ k)|_=>exact absurd j (by simp[zO,C.ord])
  |bl b=>
   cases i with
   |bl d=>
    cases (show v=_ from l);cases (show u=_ from g);refine iN (by simp[zO,C.ord]) {_,O,iP (by simp[zO,C.ord]) {_,O,_,O,_,O,_,O, ?_}};let z:=q _ k;rw[show wC (zO (.bl b)) (zO (.bl d))=(if(b && !d)=true then 1 else 0)- (if(d && !b)=true then 1 else 0) by cases b<;>cases d<;>rfl] at z;exact z
   |_=>exact absurd j (by simp[zO,C.ord])
  |int b=>
   cases i with
   |int d=>
    cases (show v=_ from l);cases (show u=_ from g);refine iN (by simp[zO,C.ord]) {_,O,iP (by simp[zO,C.ord]) {_,O,_,O,_,O,_,O, ?_}};let z:=q _ k;rw[show wC (zO (.int b)) (zO (.int d))=(if d<b then 1 else 0)- (if b<d then 1 else 0) by rw[zO,zO,wC];rfl] at z
    simpa using z
   |_=>exact absurd j (by simp[zO,C.ord])
  |str b=>
   cases i with
   |str d=>
    cases (show v=_ from l);cases (show u=_ from g);refine iN (by simp[zO,C.ord]) {_,O,iP (by simp[zO,C.ord]) {_,O,_,O,_,O,_,O, ?_}};let z:=q _ k;rw[show wC (zO (.str b)) (zO (.str d))=(if d<b then 1 else 0)- (if b<d then 1 else 0) by rw[zO,zO,wC];rfl] at z;simp only[qZ,pO];exact z
   |_=>exact absurd j (by simp[zO,C.ord])
  |lst L=>exact absurd D (aV _)|dic ks L=>exact absurd D (aV _)|tup L=>exact J.elim
 ·refine nEA true ?_ (zPo {_,O,_,O,_,O,_,O, ?_})
  ·simpa [Int.ofNat_inj] using j
  ·let z:=q H3 k
   rw[zCo _ _ j,sgI] at z;exact z
theorem zRn{d:V1}{c:V7}(F:Fun K "_law_compare" "_law_compare" zZm f fd)(h:Fun K "_law_rows_compare" "_law_rows_compare" zQu d c)(B:Bl2 mg)(e:Dn P w K mg base 1 "_law_kind" ["_law_thing"] zGw)
  (b:Binds K fd ["_law_one","_law_other"] []) (g:S0 K (.ref f)=true) (m:mg "_law_compare" =Y (.ref f)) (j:Binds K c ["_law_one","_law_other"] []) (a:S0 K (.ref d)=true) (i:mg "_law_rows_compare" =Y (.ref d)):
  ∀n:Nat,FnOk P w K mg base CX0 (2+2*n) f fd ["_law_one","_law_other"] (zLy n)
 |0=>yBm F B e|n+1=>yBc F B e {_,_,yAx h B {_,_,zRn F h B e b g m j a i n,b,g,m},j,a,i}
abbrev yDf:V6:=top 62
def zPb(n:Nat):Sp:=λc H Q _=>∃(v u:V)(t a:T),c= [v,u]/\Rep H v t/\Rep H u a/\T.few t/\T.few a/\m9 t<=n/\m9 a<=n/\∀b,Same H b->Q (.bl (decide (wC (zO t) (zO a)=0))) b
theorem zUd:∀{t t':T},T.few t->T.few t'->wM (tyT t)≠wM (tyT t')->wC (zO t) (zO t')≠0:=by
 intro t t' h c b;let a:(zO t).ord≠(zO t').ord:=by
  intro e;apply b;cases t<;>cases t'<;>first | rfl | exact h.elim | exact c.elim | exact absurd e (by simp[zO,C.ord])
 rw[zCo _ _ a,sgI];split<;>split<;>lia
theorem yCu{n:Nat}(F:Fun K "_law_same" "_law_same" yDf f fd)(B:Bl2 mg)(a:Dn P w K mg base 1 "_law_kind" ["_law_thing"] zGw)(b:Dn P w K mg base (2+2*n) "_law_compare" ["_law_one","_law_other"] (zLy n)):
  FnOk P w K mg base CX0 (2+2*n+1) f fd ["_law_one","_law_other"] (zPb n):=by
 refine F.okn (N:=["_law_one","_law_other"]) λJ A p s H vs Q E nd e h=>?_;ext yN h v u t y j i;ext zS i g c m l M i;ext oA i I q;subst j;refine nEA _ (zG (zI (vQ (zOv (zFb (pD a e (zA (pv 0) zB)))) (vQ (pE xN (pD a e (zA (pv 0) zB)) (pD a e (zA (pv 1) zB))) (qC (pE xN (pD b e (zA (pv 0) (zA (pv 1) zB))) zE)))))) ?_;walk_at "st";lk;obtain⟨D,k,-,-⟩:=zBe t m;obtain⟨k2,x,-,-⟩:=zBe y l;refine{v,_,O,g.ty,λH1 r=>{true,by rw[k];rfl,zPo {v,_,O,(Rep.same r _ _ g).ty,λH2 g2=>{u,_,O,(Rep.same (r.trans g2) _ _ c).ty,λH3 g3=>?_}}}};let d:=r.trans (g2.trans g3);rw[k,x];refine{O, ?_}
 by_cases o:V.str D=V.str k2
 ·refine iP o {v,u,t,y,O,Rep.same d _ _ g,Rep.same d _ _ c,m,l,M,I,λH4 L=>{O, ?_}}
  let z:=q _ (d.trans L)
  simpa using z
 ·let z:=q _ d
  rw[nJ (zUd m l (by rw[k,x];exact o))] at z;exact iN o z
end
mutual
def o6:T->Prop
 |.str _=>True|.lst a=>m7 a|.tup a=>m7 a|.dic ks a=>ks.Nodup/\ks...*=a...*/\True/\m7 a|.non=>True|.bl _=>True|.int _=>True
def m7:List T->Prop
 |[]=>True|u::a=>o6 u/\m7 a
end
theorem k7{t:T}:∀{ts:B0},m7 ts->t∈ts->o6 t
 |[],_,h=>nomatch h|u::ts,h,a=>(mF.mp a).elim (λe=>e▸h.1) (k7 h.2)
abbrev zXv:V6:=top 63
abbrev zHg:V6:=top 64
abbrev zNi:V6:=top 65
abbrev zCt:V6:=top 66
mutual
noncomputable def vU:T->Nat
 |.lst a=>wD a+1|.dic _ a=>wD a+1|.tup _=>0|.non=>0|.bl _=>0|.int _=>0|.str _=>0
noncomputable def wD:List T->Nat
 |[]=>0|u::a=>max (vU u) (wD a)
end
mutual
noncomputable def lsz:T->Nat
 |.lst a=>vY a+1|.dic _ a=>vY a+1|.tup _=>1|.non=>1|.bl _=>1|.int _=>1|.str _=>1
noncomputable def vY:List T->Nat
 |[]=>0|u::a=>lsz u+vY a
end
mutual
noncomputable def lnar:T->Bool
 |.lst a=>decide (a...*<=60)&& xM a|.dic ks a=>decide (ks...*<=30)&& xM a|.tup _=>true|.non=>true|.bl _=>true|.int _=>true|.str _=>true
noncomputable def xM:List T->Bool
 |[]=>true|u::a=>lnar u && xM a
end
noncomputable def wW:T->List T
 |.lst a=>a|.dic _ a=>a|_=>[]
noncomputable def wV:T->Bool
 |.lst _=>true|.dic _ _=>true|_=>false
theorem zQr:∀(l:B0)(b:Nat),((l.map λt=>(vU t:Int)).foldl mxI (b:Int))=((max b (wD l):Nat):Int)
 |[],b=>by
  show(b:Int)=((max b 0:Nat):Int)
  lia
 |u::l,b=>by
  let e:mxI (b:Int) (vU u:Int)=((max b (vU u):Nat):Int):=by
   unfold mxI
   by_cases h:vU u>b
   ·rw[mP ∅,Nat.max_eq_right ∅]
   ·rw[mI ∅,Nat.max_eq_left ∅]
  rw[nG,tK,e,zQr l,Nat.max_assoc]
  rfl
theorem mx_l(us:B0):mxD 0 (us.map λt=>(vU t:Int))=(wD us:Int):=by
 cases us with|nil=>rfl|cons u us=>exact zQr us (vU u)
theorem yEe:∀us:List T,(us.map λt=>(lsz t:Int)).sum=(vY us:Int)
 |[]=>rfl|u::us=>by
  rw[nG,List.sum_cons,yEe us];show(lsz u:Int)+(vY us:Int)=((lsz u+vY us:Nat):Int)
  lia
theorem yDl:∀us:List T,(us.map lnar).all id=xM us
 |[]=>rfl|u::us=>by
  rw[nG,bW,yDl us];rfl
theorem zQh(t:T):(yC (tyT t) "list" || yC (tyT t) "dict")=wV t:=by
 cases t<;>(simp only[tyT,wV];decide+kernel)
theorem uT{t:T}(h:wV t=true):T.dep t=T.deps (wW t)+1/\T.sz t=T.szs (wW t)+1/\vU t=wD (wW t)+1/\lsz t=vY (wW t)+1:=by
 cases t<;>first | exact⟨O,O,O,O⟩| cases h
theorem zOc{t:T}(h:wV t=true)(g:o6 t):m7 (wW t):=by
 cases t with|lst a=>exact g|dic b a=>exact g.2.2.2|_=>cases h
theorem zPa{t:T}(h:wV t=false):vU t=0/\lsz t=1/\lnar t=true:=by
 cases t<;>first | exact⟨O,O,O⟩| cases h
section
variable{P:V3}{w:V4}{K:A9}{mg:C8}{base:V5}{f:V1}{fd:V7}
def gM:Sp:=λc H Q _=>∃(v:V)(t:T),c= [v]/\Rep H v t/\o6 t/\wV t=true/\T.sz t<=20000/\∀l b a,Same H a->a l=Y (.lst b)->Reps a b (wW t)->Q (.ref l) a
theorem zVa(F:Fun K "_law_inner" "_law_inner" zXv f fd)(B:Bl mg):FnOk P w K mg base CX0 1 f fd ["_law_thing"] gM:=by
 refine F.okn (N:=["_law_thing"]) λM A x s H vs Q E nd hr h=>?_;ext zR h v t b n hg z_;ext oAA z_ hh hz q;subst b;let L:=wY hr;refine{_,(zD (zT (yD (pI B.isinstance zH B.dict xJ (pv 0))) (zG (zI (zFh (xS (own:=["_law_name"]) (F:=[("_law_thing",0)]) {O,tb_g%,tb_g%,tb_g%,(.cons O O O .nil)} O (zJi (pv 0)) (λ_ _ _ _=>yG (i:=0) (by show(xW ["_law_name"] [("_law_thing",0)]).Nodup;decide+kernel) O (nO O)) (λ_ _ _ _=>yT) (λ_ _ _ _=>(jR L (pv 1) (pv 0) (λ_ _=>O))))))) zK)
  (zG (zI (pv 0)))), ?_}
 walk_at "st";lk;refine nEA _ n.ty ?_
 cases t with
 |lst l=>
  ext yL n a xs b ha hx;subst b;exact iN (show¬yC "list" "dict" =true by decide+kernel) (q a xs H (Same.refl _) ha hx)
 |dic ks l=>
  ext zR n d c b e J y;subst b;let aa:=d5 l;let ac:T.szs l+1<=20000:=hz;let ae:c...*=l...*:=by let:=y...*;rwa [mN] at this
  let u:(c.map (·.1)).Nodup:=by rw[J];exact uF hg.1
  refine iP (show yC "dict" "dict" =true by decide+kernel) ?_;refine zVw d O c (.inl {e,λo=>?_});let ab:Reps (upd H d (.frz o (.dK c))) (c.map (·.2)) l:=j6 e J y;refine zDz (λi m k=>Same (upd H d (.frz o (.dK c))) k/\m=(c.take i).map (·.2)) (by rw[mS];lia) {Same.refl _,O} (λi m k h=>h.1 _ _ zC) ?_ ?_
  ·rintro i D m k j _ ⟨g,rfl⟩
   lk;refine zAm D.2 (.inl {c,D.1, .inr {o,g _ _ zC},O,(zBd u j).symm}) g ?_;rw[yO j,nI];rfl
  ·rintro m k _ ⟨g,rfl⟩ p r
   rw[pG];let I:Same H (thaw H (upd k p (.lst (c.map (·.2))))):=uG (o:=o) e (g.trans (zF r _));exact q p _ _ I (vR zC (by intro o v z;cases z)) (Reps.same I _ _ y)
 |_=>cases hh
def zCv(n:Nat):Sp:=λb H Q _=>∃(v:V)(t:T),b= [v]/\Rep H v t/\o6 t/\T.dep t<n/\T.sz t<=20000/\∀a,Same H a->Q (.int (vU t)) a
theorem scDepth:wF ["_law_thing"] ["_law_thing"] (yB zHg):=by walk_at "sc"
theorem zSh{n:Nat}(F:Fun K "_law_depth" "_law_depth" zHg f fd)(B:Bl2 mg)(b:Dn P w K mg base 1 "_law_inner" ["_law_thing"] gM)(a:Dn P w K mg base (2+n) "_law_depth" ["_law_thing"] (zCv n)):FnOk P w K mg base CX0 (2+n+1) f fd ["_law_thing"] (zCv (n+1)):=by
 refine F.ok scDepth (by walk_at "ln") λc A o s H vs Q E hr h=>?_;ext zR h v t y L hg z_;ext oAA z_ hd hz q;subst y;let nd:=scDepth.nd;refine{_,(zD (zT (xL (yD (zN (jB (T:="list") (U:="dict") ∎ ∎) O B.isinstance zH (zA (pv 0) (zA (xH (zA (wA (v:=.ty "list") O B.list yQ O) (zA (wA (v:=.ty "dict") O B.dict xJ O) zB))) zB))))) (zG (zI zE)) zK)
  (zG (zI (zJ xI zE (yBx O O B.max (zA (xS (own:=["_law_one"]) (F:=[]) {O,tb_g%,tb_g%,tb_g%, .nil} O (xG (pD b hr (zA (pv 0) zB))) (λ_ _ _ _=>yG (i:=0) (by show(xW ["_law_one"] []).Nodup;decide+kernel) O (nO O)) (λ_ _ _ _=>yT) (λ_ _ _ _=>(pD a hr (zA (pv 0) zB)))) zB) zE))))), ?_}
 walk_at "st";lk;intro p hp;let j:=zF hp (.tup [V.ty "list",V.ty "dict"]);refine qX v _ p ⟨O,O⟩ zC (nA (zAq j L.ty) ?_);rw[zQh]
 by_cases d:wV t=true
 ·refine iN (by rw[d];decide) {v,t,O,Rep.same j _ _ L,hg,d,hz,λl ys H1 g1 N M=>?_}
  refine xA (uT d) λk1 k2 k3 k4=>?_;let D:=zOc d hg;let g:=M...*;let aa:=d5 (wW t);refine zAm l O {_,SqL.of N} (wJ (K:=K) (xs:=ys) (λi k m=>Same H1 m/\k=(((wW t).take i).map λt=>(vU t:Int)).map V.int) (by rw[mS];lia) {Same.refl _,O} (λi k m _ h=>SqL.of (h.1 _ _ N)) ?_ ?_)
  ·rintro i x k m hx _ ⟨g2,rfl⟩
   refine oEA (M.get hx) λu J z=>?_;let I:=mO J;let d1:=b7 I;let d2:=c7 I;lk;refine{x,u,O,Rep.same g2 _ _ z,k7 D I,∅,∅,λH3 g3=>{g2.trans g3, ?_}};rw[yO J,nI,nI];rfl
  ·rintro k m _ ⟨g2,rfl⟩ p' r
   rw[g,pG];refine qR p' O _ (SqL.of zC) ?_;rw[mx_l];rw[k3] at q;let e:(1:Int)+(wD (wW t):Int)=((wD (wW t)+1:Nat):Int):=by lia
   rw[e];exact q _ (j.trans (g1.trans (g2.trans (zF r _))))
 ·rw[cA] at d
  refine oAA (zPa d) λn1 n2 n3=>?_;refine iP d ?_;rw[n1] at q;exact q _ j
theorem zTu(F:Fun K "_law_depth" "_law_depth" zHg f fd):FnOk P w K mg base CX0 2 f fd ["_law_thing"] (zCv 0):=by
 refine F.ok scDepth (by walk_at "ln") λc A o s H g Q E i h=>?_;ext zR h v t a e j b;ext oA b d _;subst a;exact absurd d (pV _)
theorem zIm(F:Fun K "_law_depth" "_law_depth" zHg f fd)(B:Bl2 mg)(G:Dn P w K mg base 1 "_law_inner" ["_law_thing"] gM)(b:Binds K fd ["_law_thing"] [])(a:S0 K (.ref f)=true)(m:mg "_law_depth" =Y (.ref f)):
  ∀n:Nat,FnOk P w K mg base CX0 (2+n) f fd ["_law_thing"] (zCv n)
 |0=>zTu F|n+1=>zSh F B G {_,_,zIm F B G b a m n,b,a,m}
def zFt(n:Nat):Sp:=λb H Q _=>∃(v:V)(t:T),b= [v]/\Rep H v t/\o6 t/\T.dep t<n/\T.sz t<=20000/\∀a,Same H a->Q (.int (lsz t)) a
theorem scSize:wF ["_law_thing"] ["_law_thing"] (yB zNi):=by walk_at "sc"
theorem zWk{n:Nat}(F:Fun K "_law_size" "_law_size" zNi f fd)(B:Bl mg)(a:Dn P w K mg base 1 "_law_inner" ["_law_thing"] gM)(b:Dn P w K mg base (2+n) "_law_size" ["_law_thing"] (zFt n)):FnOk P w K mg base CX0 (2+n+1) f fd ["_law_thing"] (zFt (n+1)):=by
 refine F.ok scSize (by walk_at "ln") λc A o s H vs Q E hr h=>?_;ext zR h v t y L hg z_;ext oAA z_ hd hz q;subst y;let nd:=scSize.nd;refine{_,(zD (zT (xL (yD (zN (jB (T:="list") (U:="dict") ∎ ∎) O B.isinstance zH (zA (pv 0) (zA (xH (zA (wA (v:=.ty "list") O B.list yQ O) (zA (wA (v:=.ty "dict") O B.dict xJ O) zB))) zB))))) (zG (zI zE)) zK)
  (zG (zI (zJ xI zE (zN (zYl O) O B.sum yGa (zA (xS (own:=["_law_one"]) (F:=[]) {O,tb_g%,tb_g%,tb_g%, .nil} O (xG (pD a hr (zA (pv 0) zB))) (λ_ _ _ _=>yG (i:=0) (by show(xW ["_law_one"] []).Nodup;decide+kernel) O (nO O)) (λ_ _ _ _=>yT) (λ_ _ _ _=>(pD b hr (zA (pv 0) zB)))) zB)))))), ?_}
 walk_at "st";lk;intro p hp;let j:=zF hp (.tup [V.ty "list",V.ty "dict"]);refine qX v _ p ⟨O,O⟩ zC (nA (zAq j L.ty) ?_);rw[zQh]
 by_cases d:wV t=true
 ·refine iN (by rw[d];decide) {v,t,O,Rep.same j _ _ L,hg,d,hz,λl ys H1 g1 N M=>?_}
  refine xA (uT d) λk1 k2 k3 k4=>?_;let D:=zOc d hg;let g:=M...*;let aa:=d5 (wW t);refine zAm l O {_,SqL.of N} (wJ (K:=K) (xs:=ys) (λi k m=>Same H1 m/\k=(((wW t).take i).map λt=>(lsz t:Int)).map V.int) (by rw[mS];lia) {Same.refl _,O} (λi k m _ h=>SqL.of (h.1 _ _ N)) ?_ ?_)
  ·rintro i x k m hx _ ⟨g2,rfl⟩
   refine oEA (M.get hx) λu J z=>?_;let I:=mO J;let d1:=b7 I;let d2:=c7 I;lk;refine{x,u,O,Rep.same g2 _ _ z,k7 D I,∅,∅,λH3 g3=>{g2.trans g3, ?_}};rw[yO J,nI,nI];rfl
  ·rintro k m _ ⟨g2,rfl⟩ p' r
   rw[g,pG];refine qR p' O _ (SqL.of zC) ?_;rw[yEe];rw[k4] at q;let e:(1:Int)+(vY (wW t):Int)=((vY (wW t)+1:Nat):Int):=by lia
   rw[e];exact q _ (j.trans (g1.trans (g2.trans (zF r _))))
 ·rw[cA] at d
  refine oAA (zPa d) λn1 n2 n3=>?_;refine iP d ?_;rw[n2] at q;exact q _ j
theorem zWl(F:Fun K "_law_size" "_law_size" zNi f fd):FnOk P w K mg base CX0 2 f fd ["_law_thing"] (zFt 0):=by
 refine F.ok scSize (by walk_at "ln") λc A o s H g Q E i h=>?_;ext zR h v t a e j b;ext oA b d _;subst a;exact absurd d (pV _)
theorem zMk(F:Fun K "_law_size" "_law_size" zNi f fd)(B:Bl mg)(G:Dn P w K mg base 1 "_law_inner" ["_law_thing"] gM)(b:Binds K fd ["_law_thing"] [])(a:S0 K (.ref f)=true)(m:mg "_law_size" =Y (.ref f)):
  ∀n:Nat,FnOk P w K mg base CX0 (2+n) f fd ["_law_thing"] (zFt n)
 |0=>zWl F|n+1=>zWk F B G {_,_,zMk F B G b a m n,b,a,m}
def uH(n:Nat):Sp:=λb H Q _=>∃(v:V)(t:T),b= [v]/\Rep H v t/\o6 t/\T.dep t<n/\T.sz t<=20000/\∀a,Same H a->Q (.bl (lnar t)) a
theorem scNarrow:wF ["_law_thing"] ["_law_thing"] (yB zCt):=by walk_at "sc"
theorem zPp{n:Nat}(F:Fun K "_law_narrow" "_law_narrow" zCt f fd)(B:Bl mg)(d:Dn P w K mg base 1 "_law_inner" ["_law_thing"] gM)(b:Dn P w K mg base (2+n) "_law_narrow" ["_law_thing"] (uH n)):FnOk P w K mg base CX0 (2+n+1) f fd ["_law_thing"] (uH (n+1)):=by
 refine F.ok scNarrow (by walk_at "ln") λc A o s H vs Q E hr h=>?_;ext zR h v t k L hg z_;ext oAA z_ hd hz q;subst k;let nd:=scNarrow.nd;refine{_,(zD (zT (xL (yD (zN (jB (T:="list") (U:="dict") ∎ ∎) O B.isinstance zH (zA (pv 0) (zA (xH (zA (wA (v:=.ty "list") O B.list yQ O) (zA (wA (v:=.ty "dict") O B.dict xJ O) zB))) zB))))) (zG (zI vE)) zK)
  (zD (zT (pT kS (zN zAt O B.len yS (zA (pv 0) zB)) (pX zP (zZ (zA zE (zA zE zB))) (yJ wK O B.int qW (zA (pI B.isinstance zH B.dict xJ (pv 0)) zB)))) (zG (zI vE)) zK)
  (zG (zI (zN (gC O) O B.all zCa (zA (xS (own:=["_law_one"]) (F:=[]) {O,tb_g%,tb_g%,tb_g%, .nil} O (xG (pD d hr (zA (pv 0) zB))) (λ_ _ _ _=>yG (i:=0) (by show(xW ["_law_one"] []).Nodup;decide+kernel) O (nO O)) (λ_ _ _ _=>yT) (λ_ _ _ _=>(pD b hr (zA (pv 0) zB)))) zB)))))), ?_}
 walk_at "st";lk;intro p hp;let M:=zF hp (.tup [V.ty "list",V.ty "dict"]);refine qX v _ p ⟨O,O⟩ zC (nA (zAq M L.ty) ?_);rw[zQh]
 by_cases m:wV t=true
 ·refine iN (by rw[m];decide) ?_
  refine xA (uT m) λk1 k2 k3 k4=>?_;let ac:=zOc m hg;let ag:=d5 (wW t);let go:∀y,Same H y->lnar t=xM (wW t)->gM [v] y (λx z=>∃a,x=V.ref a/\(∃xs,SqL K z a xs)/\wN [A8 "_law_one"] [] (qQ 0) zBa (gY (uH n) [] E0 (vK (jC 0) zAh)) [Y v]
    (λx z=>∃p,x=V.ref p/\∃x,SqL K z p (List.map V.bl x)/\Q (V.bl (x.all id)) z) (Itl K a) z) E0:=by
   intro y g2 hq;refine{v,t,O,Rep.same g2 _ _ L,hg,m,hz,λl ys z g1 hl hR=>?_};let N:=hR...*;refine zAm l O {_,SqL.of hl} (wJ (K:=K) (xs:=ys) (λi zs y=>Same z y/\zs=(((wW t).take i).map lnar).map V.bl) (by rw[mS];lia) {Same.refl _,O} (λi zs y _ h=>SqL.of (h.1 _ _ hl)) ?_ ?_)
   ·rintro i x zs y hx _ ⟨g2,rfl⟩
    refine oEA (hR.get hx) λu hu ae=>?_;let hm:=mO hu;let d1:=b7 hm;let d2:=c7 hm;lk;refine{x,u,O,Rep.same g2 _ _ ae,k7 ac hm,∅,∅,λH3 g3=>{g2.trans g3, ?_}};rw[yO hu,nI,nI];rfl
   ·rintro zs H3 _ ⟨g3,rfl⟩ p' ab
    rw[N,pG];refine qR p' O _ (SqL.of zC) ?_;rw[yDl,<-hq];exact q _ (g2.trans (g1.trans (g3.trans (zF ab _))))
  cases t with
  |lst g=>
   let I:tyS H v=some "list":=L.ty;let J:=L;ext yL J a xs k ha hx;subst k;let aa:=hx...*;refine qR a O xs...* (.inl {xs,SqL.of (M _ _ ha),O}) (λp2 D=>?_);let r:=M.trans (zF D (.lst [V.int 60,V.int 30]));refine nEA _ (zAq r I) ?_;rw[mI (show¬yC "list" "dict" =true by decide+kernel)];refine zY (SqL.of zC) (zQ (j:=0) O) {60,O, ?_}
   by_cases c:60<g...*
   ·refine iP ∅ ?_
    let e:lnar (.lst g)=false:=by show(decide (g...*<=60)&& xM g)=false;rw[nJ ∅];rfl
    rw[<-e];exact q _ r
   ·refine iN ∅ (go _ r ?_)
    show(decide (g...*<=60)&& xM g)=xM g;rw[nF ∅];rfl
  |dic ks g=>
   let I:tyS H v=some "dict":=L.ty;let J:=L;ext zR J a ps k ha hk hx;subst k;let aa:=hx...*;rw[mN] at aa;let af:=hg.2.1;refine qR a O ps...* (.inr {ps,M _ _ ha,O}) (λp2 D=>?_);let r:=M.trans (zF D (.lst [V.int 60,V.int 30]));refine nEA _ (zAq r I) ?_;rw[mP (show yC "dict" "dict" =true by decide+kernel)];refine zY (SqL.of zC) (zQ (j:=1) O) {30,O, ?_}
   by_cases c:30<ks...*
   ·refine iP ∅ ?_
    let e:lnar (.dic ks g)=false:=by show(decide (ks...*<=30)&& xM g)=false;rw[nJ ∅];rfl
    rw[<-e];exact q _ r
   ·refine iN ∅ (go _ r ?_)
    show(decide (ks...*<=30)&& xM g)=xM g;rw[nF ∅];rfl
  |_=>cases m
 ·rw[cA] at m
  refine oAA (zPa m) λn1 n2 n3=>?_;refine iP m ?_;rw[n3] at q;exact q _ M
theorem zOp(F:Fun K "_law_narrow" "_law_narrow" zCt f fd):FnOk P w K mg base CX0 2 f fd ["_law_thing"] (uH 0):=by
 refine F.ok scNarrow (by walk_at "ln") λc A o s H g Q E i h=>?_;ext zR h v t a e j b;ext oA b d _;subst a;exact absurd d (pV _)
theorem zHq(F:Fun K "_law_narrow" "_law_narrow" zCt f fd)(B:Bl mg)(G:Dn P w K mg base 1 "_law_inner" ["_law_thing"] gM)(b:Binds K fd ["_law_thing"] [])(a:S0 K (.ref f)=true)(m:mg "_law_narrow" =Y (.ref f)):
  ∀n:Nat,FnOk P w K mg base CX0 (2+n) f fd ["_law_thing"] (uH n)
 |0=>zOp F|n+1=>zPp F B G {_,_,zHq F B G b a m n,b,a,m}
abbrev zUl:V6:=top 67
noncomputable def xU(t:T):Bool:=lnar t && decide (vU t<9)&& decide (lsz t<201)
def yGm:Sp:=λb H Q _=>∃(v:V)(t:T),b= [v]/\Rep H v t/\o6 t/\T.dep t<20/\T.sz t<=20000/\∀a,Same H a->Q (.bl (xU t)) a
theorem zYj(F:Fun K "_law_good" "_law_good" zUl f fd)(B:Bl mg)(a:Dn P w K mg base (2+20) "_law_narrow" ["_law_thing"] (uH 20))(b:Dn P w K mg base (2+20) "_law_depth" ["_law_thing"] (zCv 20))(c:Dn P w K mg base (2+20) "_law_size" ["_law_thing"] (zFt 20)):FnOk P w K mg base CX0 23 f fd ["_law_thing"] yGm:=by
 refine F.okn (N:=["_law_thing"]) λr A k s H D Q E z m h=>?_;ext zR h v t l i n u;ext oAA u o j q;subst l;refine nEA _ (zG (zI (vQ (pD a m (zA (pv 0) zB)) (vQ (pE jU (pD b m (zA (pv 0) zB)) zE) (qC (pE jU (pD c m (zA (pv 0) zB)) zE)))))) ?_;walk_at "st";lk;refine{v,t,O,i,n,o,j,λI g=>{lnar t,O, ?_}};unfold xU at q
 by_cases d:lnar t=true
 ·rw[d,tL] at q
  refine iP d {v,t,O,Rep.same g _ _ i,n,o,j,λJ g2=>{_,O, ?_}}
  by_cases p:vU t<9
  ·rw[nF p,tL] at q
   refine iP ∅ {v,t,O,Rep.same (g.trans g2) _ _ i,n,o,j,λy x=>{_,O, ?_}};let e:decide ((lsz t:Int)<201)=decide (lsz t<201):=aY.mpr ∅;rw[e];exact q _ (g.trans (g2.trans x))
  ·rw[nJ p,sY] at q
   exact iN ∅ (q _ (g.trans g2))
 ·rw[cA] at d
  rw[d,sY,sY] at q;exact iN (by rw[d];decide) (q _ g)
abbrev sCp:V6:=top 17
def zSr(n:Nat):Sp:=λd H Q _=>∃(v:V)(t:T),d= [v]/\Rep H v t/\T.pure t/\T.dep t<n/\T.sz t<=100000/\∀c a D,Same H a->Sp1 a c t D->(∀b∈D,H b=none)->Q c a
theorem scCp:wF ["thing"] ["thing"] (yB sCp):=by walk_at "sc"
theorem yGq{n:Nat}(F:Fun K "copied" "copied" sCp f fd)(B:Bl mg)(m:Dn P w K mg base (1+n) "copied" ["thing"] (zSr n)):FnOk P w K mg base CX0 (1+n+1) f fd ["thing"] (zSr (n+1)):=by
 refine F.ok scCp (by walk_at "ln") λc A o s H vs Q E hr h=>?_;ext zR h v t ac r hp z_;ext oAA z_ hd hz q;subst ac;let nd:=scCp.nd;let hu:=wY hr;refine{_,(zD (zT (yD (pI B.isinstance zH B.list yQ (pv 0))) (zG (zI (xS (own:=["part"]) (F:=[]) {O,tb_g%,tb_g%,tb_g%, .nil} O (xG (pv 0)) (λ_ _ _ _=>yG (i:=0) (by show(xW ["part"] []).Nodup;decide+kernel) O (nO O)) (λ_ _ _ _=>yT) (λ_ _ _ _=>(pD m hr (zA (pv 0) zB)))))) zK)
  (zD (zT (yD (pI B.isinstance zH B.dict xJ (pv 0))) (zG (zI (yJ (zEq O) O B.dict xJ (zA (zFh (xS (own:=["name","part"]) (F:=[]) {O,tb_g%,tb_g%,tb_g%, .nil} O (zUi (yHb bL PySem.F.slot_dict_items PySem.F.type_dict_items zZg (pv 0))) (λ_ _ _ _=>zRs (K:=K) (n:=2) O O (uL (yG (i:=0) (by show(xW ["name","part"] []).Nodup;decide+kernel) O (nO O)) (uL (yG (i:=1) (by show(xW ["name","part"] []).Nodup;decide+kernel) O (nO O)) zKx))) (λ_ _ _ _=>yT) (λ_ _ _ _=>(xH (zA (pv 0) (zA (pD m hr (zA (pv 1) zB)) zB)))))) zB)))) zK)
  (zD (zT (yD (pI B.isinstance zH B.tuple uD (pv 0))) (zG (zI (yJ zBs O B.tuple uD (zA (xS (own:=["part"]) (F:=[]) {O,tb_g%,tb_g%,tb_g%, .nil} O (xG (pv 0)) (λ_ _ _ _=>yG (i:=0) (by show(xW ["part"] []).Nodup;decide+kernel) O (nO O)) (λ_ _ _ _=>yT) (λ_ _ _ _=>(pD m hr (zA (pv 0) zB)))) zB)))) zK)
  (zG (zI (pv 0)))))), ?_}
 walk_at "st";lk
 cases t with
 |lst N=>
  ext yL r a xs ac ha hs;subst ac;let ao:=d5 N;let aw:T.szs N+1<=100000:=hz;let au:T.deps N+1<n+1:=hd;refine nEA ("list") (wQ ha) ?_;rw[mP ∎];refine zAm a O {xs,SqL.of ha} (wJ (K:=K) (xs:=xs) (λi J I=>Same H I/\∃D,Sps I J (N.take i) D/\∀b∈D,H b=none) ?_ {Same.refl _,[],⟨O,O⟩,λ_ h=>(nomatch h)} (λi J I _ h=>SqL.of (h.1 _ _ ha)) ?_ ?_)
  ·let:=hs...*
   rw[mS];lia
  ·rintro i u J I an _ ⟨g,D,hR,hD⟩
   refine oEA (hs.get an) λt' ab ag=>?_;let hm:=mO ab;let d1:=b7 hm;let d2:=c7 hm;lk;refine{u,t',O,Rep.same g u t' ag,i9 hp hm,∅,∅,λv' H4 D1 g4 af aa=>{g.trans g4,D++D1, ?_,λb y=>?_}}
   ·rw[yO ab]
    refine Sps.snoc af (hR.same g4) λb y z=>?_;obtain⟨o,ho⟩:=Sps.there _ _ _ hR y;rw[aa b z] at ho;cases ho
   ·rcases nB.mp y with z | z
    ·exact hD b z
    ·exact zW g (aa b z)
  ·rintro J I _ ⟨g,D,hR,hD⟩ p x
   rw[hs...*,pG] at hR;let ax:p∉D:=λz=>by
    obtain⟨o,ho⟩:=Sps.there _ _ _ hR z;rw[x] at ho;cases ho
   refine q (.ref p) _ (p::D) (g.trans (zF x _)) {p,J,D,O,zC,O,ax,hR.same (zF x _)} λb y=>?_;rcases mF.mp y with z | z
   ·rw[z];exact zW g x
   ·exact hD b z
 |dic ks N=>
  ext zR r d L ac M hk hs;subst ac;obtain⟨nk,hp⟩:=hp;let ao:=d5 N;let aw:T.szs N+1<=100000:=hz;let au:T.deps N+1<n+1:=hd;let a0:L...*=N...*:=by let:=hs...*;rwa [mN] at this
  let ay:(L.map (·.1)).Nodup:=by rw[hk];exact uF nk
  refine nEA ("dict") (qY M) ?_;rw[mI ∎];refine nEA ("dict") (qY M) ?_;rw[mP ∎];refine{.inr (.inr (.inl {O, .inl ⟨L,M⟩})),d,L,O,O, .inl M,λpv ap=>?_};let s1:=zF ap (zHu pv d);let ah:=s1 _ _ M;refine qX pv d L O zC (.inl {ah,λo=>?_});let gf:Same (upd H d (.frz o (.dK L))) (upd (upd H pv (zHu pv d)) d (.frz o (.dK L))):=λb u e=>by
   by_cases y:b=d
   ·subst y;rw[zC] at e⊢;exact e
   ·rw[zM y] at e⊢
    exact s1 _ _ e
  let gH:∀b,upd (upd H pv (zHu pv d)) d (.frz o (.dK L)) b=none->H b=none:=λb e=>by
   by_cases y:b=d
   ·subst y;rw[zC] at e;cases e
   ·rw[zM y] at e
    exact zW s1 e
  let ak:Reps (upd (upd H pv (zHu pv d)) d (.frz o (.dK L))) (L.map (·.2)) N:=j6 ah hk (Reps.same s1 _ _ hs);let aj:upd (upd H pv (zHu pv d)) d (.frz o (.dK L)) d=Y (.frz o (.dK L)):=zC;generalize upd (upd H pv (zHu pv d)) d (.frz o (.dK L))=Hf at gf gH ak aj⊢;refine zPm (K:=K) (λi J I=>Same Hf I/\∃(k:D0)(D:B9),k...*=J...*/\k.map (·.1)=(L.take i).map (·.1)/\Sps I (k.map (·.2)) (N.take i) D/\(∀b∈D,H b=none)/\∀(j:Nat) kv,k[j]? =Y kv->∃a,J[j]? =Y (.ref a)/\I a=Y (.tup [kV kv.1,kv.2])) ?_ {Same.refl _,[],[],O,O,⟨O,O⟩,λ_ h=>(nomatch h),by intro j kv h;simp at h} (λi J I h=>h.1 _ _ aj) ?_ ?_
  ·rw[mS];lia
  ·rintro i kv J I pt ai _ ⟨g,k,D,l1,l2,hR,hD,ht⟩ ar
   let s2:=zF ar (.tup [kV kv.1,kv.2]);let g2:=g.trans s2;lk;obtain⟨t',ab,ag⟩:=ak.get (i:=i) (v:=kv.2) (by rw[nH,ai];rfl);let hm:=mO ab;let d1:=b7 hm;let d2:=c7 hm;refine{kv.2,t',O,Rep.same g2 _ t' ag,i9 hp hm,∅,∅,λv' H1 D1 g1 af aa p ae=>{(g2.trans g1).trans (zF ae _),k++ [(kv.1,v')],by simp[l1], ?_,D++D1, ?_,λb y=>?_, ?_}}
   ·rw[yO ai,nI,nI,l2];rfl
   ·rw[yO ab,nI]
    refine Sps.snoc (af.same (zF ae _)) (hR.same (s2.trans (g1.trans (zF ae _)))) λb y z=>?_;obtain⟨ob,ho⟩:=Sps.there _ _ _ (hR.same s2) y;rw[aa b z] at ho;cases ho
   ·rcases nB.mp y with z | z
    ·exact hD b z
    ·exact gH b (zW g2 (aa b z))
   ·intro j aq hj
    by_cases av:j<k...*
    ·rw[pB av] at hj
     refine oEA (ht j aq hj) λa e1 e2=>?_;exact nEA a (by rw[pB ∅];exact e1) (zF ae _ _ _ (g1 _ _ (s2 _ _ e2)))
    ·rw[nS ∅] at hj
     let al:j - k...*=0:=by
      let:=(mJ.mp hj).1
      simpa using this
     rw[al] at hj;simp only[pY,Option.some.injEq] at hj;subst hj;exact nEA p (by rw[nS ∅,<-l1,al];rfl) zC
  ·rintro J I _ ⟨g,k,D,l1,l2,hR,hD,ht⟩ p x
   rw[a0,pG] at hR;rw[pG] at l2;let gs:Same H (thaw H (upd I p (.lst J))):=uG (o:=o) M (gf.trans (g.trans (zF x _)));let am:Sps (thaw H (upd I p (.lst J))) (k.map (·.2)) N D:=(hR.same (zF x _)).thaw;refine kB p O J (vR zC (by intro o v z;cases z)) k (nAA l1 (λj kv hj=>?_) (λl hl=>?_))
   ·refine oEA (ht j kv hj) λa e1 e2=>?_
    exact nEA a e1 (vR (zF x _ _ _ e2) (by intro o v z;cases z))
   ·let em:kC [] k=k:=kG k [] (by rw[aE,l2];exact ay)
    rw[em];let az:l∉D:=λz=>by
     obtain⟨ob,ho⟩:=Sps.there _ _ _ am z;rw[hl] at ho;cases ho
    refine q (.ref l) _ (l::D) (gs.trans (zF hl _)) {l,k,D,O,zC,l2.trans hk,O,az,am.same (zF hl _)} λb y=>?_;rcases mF.mp y with z | z
    ·rw[z];exact zW gs hl
    ·exact hD b z
 |tup N=>exact hp.elim|non=>exact{_,r.ty,by rw[mI (by simp[tyT,yC])];exact{_,r.ty,by rw[mI (by simp[tyT,yC])];exact{_,r.ty,by rw[mI (by simp[tyT,yC])];exact q _ _ [] (Same.refl _) ⟨O,r⟩ (λ_ h=>nomatch h)}}}|bl b=>exact{_,r.ty,by rw[mI (by simp[tyT,yC])];exact{_,r.ty,by rw[mI (by simp[tyT,yC])];exact{_,r.ty,by rw[mI (by simp[tyT,yC])];exact q _ _ [] (Same.refl _) ⟨O,r⟩ (λ_ h=>nomatch h)}}}|int b=>exact{_,r.ty,by rw[mI (by simp[tyT,yC])];exact{_,r.ty,by rw[mI (by simp[tyT,yC])];exact{_,r.ty,by rw[mI (by simp[tyT,yC])];exact q _ _ [] (Same.refl _) ⟨O,r⟩ (λ_ h=>nomatch h)}}}|str b=>exact{_,r.ty,by rw[mI (by simp[tyT,yC])];exact{_,r.ty,by rw[mI (by simp[tyT,yC])];exact{_,r.ty,by rw[mI (by simp[tyT,yC])];exact q _ _ [] (Same.refl _) ⟨O,r⟩ (λ_ h=>nomatch h)}}}
abbrev sCo:V6:=top 68
theorem scCo:wF ["_law_thing"] ["_law_thing"] (yB sCo):=by walk_at "sc"
def zGt(n:Nat):Sp:=λd H Q _=>∃(v:V)(t:T),d= [v]/\Rep H v t/\T.few t/\T.dep t<n/\∀c a D,Same H a->Sp1 a c t D->(∀b∈D,H b=none)->Q c a
theorem yIf{n:Nat}(F:Fun K "_law_held" "_law_held" sCo f fd)(B:Bl mg)(m:Dn P w K mg base (1+n) "_law_held" ["_law_thing"] (zGt n)):FnOk P w K mg base CX0 (1+n+1) f fd ["_law_thing"] (zGt (n+1)):=by
 refine F.ok scCo (by walk_at "ln") λc A o s H vs Q E hr h=>?_;ext zR h v t ac y hp z_;ext oA z_ hd q;subst ac;let nd:=scCo.nd;let hu:=wY hr;refine{_,(zD (zT (yD (pI B.isinstance zH B.list yQ (pv 0))) (zG (zI (xS (own:=["_law_one"]) (F:=[]) {O,tb_g%,tb_g%,tb_g%, .nil} O (xG (pv 0)) (λ_ _ _ _=>yG (i:=0) (by show(xW ["_law_one"] []).Nodup;decide+kernel) O (nO O)) (λ_ _ _ _=>yT) (λ_ _ _ _=>(pD m hr (zA (pv 0) zB)))))) zK)
  (zD (zT (yD (pI B.isinstance zH B.dict xJ (pv 0))) (zG (zI (yJ (zEq O) O B.dict xJ (zA (zFh (xS (own:=["_law_name"]) (F:=[("_law_thing",0)]) {O,tb_g%,tb_g%,tb_g%,(.cons O O O .nil)} O (zJi (pv 0)) (λ_ _ _ _=>yG (i:=0) (by show(xW ["_law_name"] [("_law_thing",0)]).Nodup;decide+kernel) O (nO O)) (λ_ _ _ _=>yT) (λ_ _ _ _=>(xH (zA (pv 0) (zA (pD m hr (zA (jR hu (pv 1) (pv 0) (λ_ _=>O)) zB)) zB)))))) zB)))) zK)
  (zG (zI (pv 0))))), ?_}
 walk_at "st";lk
 cases t with
 |lst us=>
  ext yL y a xs ac ha hs;subst ac;obtain⟨ap,hp⟩:=hp;let ar:T.deps us+1<n+1:=hd;refine nEA ("list") (wQ ha) ?_;rw[mP ∎];refine zAm a O {xs,SqL.of ha} (wJ (K:=K) (xs:=xs) (λi I x=>Same H x/\∃D,Sps x I (us.take i) D/\∀b∈D,H b=none) ?_ {Same.refl _,[],⟨O,O⟩,λ_ h=>(nomatch h)} (λi I x _ h=>SqL.of (h.1 _ _ ha)) ?_ ?_)
  ·let:=hs...*
   rw[mS];lia
  ·rintro i u I x ao _ ⟨g,D,M,hD⟩
   refine oEA (hs.get ao) λt' ab aj=>?_;let hm:=mO ab;let d1:=b7 hm;lk;refine{u,t',O,Rep.same g u t' aj,b9 hp hm,∅,λv' H4 D1 g4 ai aa=>{g.trans g4,D++D1, ?_,λb J=>?_}}
   ·rw[yO ab]
    refine Sps.snoc ai (M.same g4) λb J z=>?_;obtain⟨o,ho⟩:=Sps.there _ _ _ M J;rw[aa b z] at ho;cases ho
   ·rcases nB.mp J with z | z
    ·exact hD b z
    ·exact zW g (aa b z)
  ·rintro I x _ ⟨g,D,M,hD⟩ p r
   rw[hs...*,pG] at M;let av:p∉D:=λz=>by
    obtain⟨o,ho⟩:=Sps.there _ _ _ M z;rw[r] at ho;cases ho
   refine q (.ref p) _ (p::D) (g.trans (zF r _)) {p,I,D,O,zC,O,av,M.same (zF r _)} λb J=>?_;rcases mF.mp J with z | z
   ·rw[z];exact zW g r
   ·exact hD b z
 |dic ks us=>
  ext zR y d L ac ae hk hs;subst ac;ext xA hp nk ay ap hp;let ar:T.deps us+1<n+1:=hd;let ax:L...*=us...*:=by let:=hs...*;rwa [mN] at this
  let al:(L.map (·.1)).Nodup:=by rw[hk];exact uF nk
  refine nEA ("dict") (qY ae) ?_;rw[mI ∎];refine nEA ("dict") (qY ae) ?_;rw[mP ∎];refine zVw d O L (.inl {ae,λo=>?_});let gf:Same (upd H d (.frz o (.dK L))) (upd H d (.frz o (.dK L))):=Same.refl _;let gH:∀b,upd H d (.frz o (.dK L)) b=none->H b=none:=λb e=>by
   by_cases J:b=d
   ·subst J;rw[zC] at e;cases e
   ·rw[zM J] at e
    exact e
  let ak:Reps (upd H d (.frz o (.dK L))) (L.map (·.2)) us:=j6 ae hk hs;let ah:upd H d (.frz o (.dK L)) d=Y (.frz o (.dK L)):=zC;generalize hHf:upd H d (.frz o (.dK L))=Hf at gf gH ak ah⊢;refine zDz (λi I x=>Same Hf x/\∃(k:D0)(D:B9),k...*=I...*/\k.map (·.1)=(L.take i).map (·.1)/\Sps x (k.map (·.2)) (us.take i) D/\(∀b∈D,H b=none)/\∀(j:Nat) N,k[j]? =Y N->∃a,I[j]? =Y (.ref a)/\x a=Y (.tup [kV N.1,N.2])) ?_ {Same.refl _,[],[],O,O,⟨O,O⟩,λ_ h=>(nomatch h),by intro j N h;simp at h} (λi I x h=>h.1 _ _ ah) ?_ ?_
  ·rw[mS];lia
  ·rintro i N I x ag _ ⟨g,k,D,l1,l2,M,hD,ht⟩
   let s2:=Same.refl x;let g2:=g.trans s2;lk;obtain⟨t',ab,aj⟩:=ak.get (i:=i) (v:=N.2) (by rw[nH,ag];rfl);let hm:=mO ab;let d1:=b7 hm;refine{N.2, .inl {L,N.1, .inr {o,g _ _ ah},O,(zBd al ag).symm},N.2,t',O,Rep.same g2 _ t' aj,b9 hp hm,∅,λv' H1 D1 g1 ai aa p af=>{(g2.trans g1).trans (zF af _),k++ [(N.1,v')],by simp[l1], ?_,D++D1, ?_,λb J=>?_, ?_}}
   ·rw[yO ag,nI,nI,l2];rfl
   ·rw[yO ab,nI]
    refine Sps.snoc (ai.same (zF af _)) (M.same (s2.trans (g1.trans (zF af _)))) λb J z=>?_;obtain⟨ob,ho⟩:=Sps.there _ _ _ (M.same s2) J;rw[aa b z] at ho;cases ho
   ·rcases nB.mp J with z | z
    ·exact hD b z
    ·exact gH b (zW g2 (aa b z))
   ·intro j aq hj
    by_cases au:j<k...*
    ·rw[pB au] at hj
     refine oEA (ht j aq hj) λa e1 e2=>?_;exact nEA a (by rw[pB ∅];exact e1) (zF af _ _ _ (g1 _ _ (s2 _ _ e2)))
    ·rw[nS ∅] at hj
     let am:j - k...*=0:=by
      let:=(mJ.mp hj).1
      simpa using this
     rw[am] at hj;simp only[pY,Option.some.injEq] at hj;subst hj;exact nEA p (by rw[nS ∅,<-l1,am];rfl) zC
  ·rintro I x _ ⟨g,k,D,l1,l2,M,hD,ht⟩ p r
   rw[ax,pG] at M;rw[pG] at l2;let gs:Same H (thaw H (upd x p (.lst I))):=uG (o:=o) ae (by rw[hHf];exact g.trans (zF r _));let an:Sps (thaw H (upd x p (.lst I))) (k.map (·.2)) us D:=(M.same (zF r _)).thaw;refine kB p O I (vR zC (by intro o v z;cases z)) k (nAA l1 (λj N hj=>?_) (λl hl=>?_))
   ·refine oEA (ht j N hj) λa e1 e2=>?_
    exact nEA a e1 (vR (zF r _ _ _ e2) (by intro o v z;cases z))
   ·let em:kC [] k=k:=kG k [] (by rw[aE,l2];exact al)
    rw[em];let aw:l∉D:=λz=>by
     obtain⟨ob,ho⟩:=Sps.there _ _ _ an z;rw[hl] at ho;cases ho
    refine q (.ref l) _ (l::D) (gs.trans (zF hl _)) {l,k,D,O,zC,l2.trans hk,O,aw,an.same (zF hl _)} λb J=>?_;rcases mF.mp J with z | z
    ·rw[z];exact zW gs hl
    ·exact hD b z
 |tup us=>exact hp.elim|non=>exact{_,y.ty,by rw[mI (by simp[tyT,yC])];exact{_,y.ty,by rw[mI (by simp[tyT,yC])];exact q _ _ [] (Same.refl _) ⟨O,y⟩ (λ_ h=>nomatch h)}}|bl b=>exact{_,y.ty,by rw[mI (by simp[tyT,yC])];exact{_,y.ty,by rw[mI (by simp[tyT,yC])];exact q _ _ [] (Same.refl _) ⟨O,y⟩ (λ_ h=>nomatch h)}}|int b=>exact{_,y.ty,by rw[mI (by simp[tyT,yC])];exact{_,y.ty,by rw[mI (by simp[tyT,yC])];exact q _ _ [] (Same.refl _) ⟨O,y⟩ (λ_ h=>nomatch h)}}|str b=>exact{_,y.ty,by rw[mI (by simp[tyT,yC])];exact{_,y.ty,by rw[mI (by simp[tyT,yC])];exact q _ _ [] (Same.refl _) ⟨O,y⟩ (λ_ h=>nomatch h)}}
theorem yHx(F:Fun K "copied" "copied" sCp f fd):FnOk P w K mg base CX0 1 f fd ["thing"] (zSr 0):=by
 refine F.ok scCp (by walk_at "ln") λc A o s H g Q E i h=>?_;ext zR h v t a e j b;ext oA b d _;subst a;exact absurd d (pV _)
theorem yEz(F:Fun K "_law_held" "_law_held" sCo f fd):FnOk P w K mg base CX0 1 f fd ["_law_thing"] (zGt 0):=by
 refine F.ok scCo (by walk_at "ln") λc A o s H g Q E i h=>?_;ext zR h v t a e j b;ext oA b d _;subst a;exact absurd d (pV _)
theorem zYz(F:Fun K "copied" "copied" sCp f fd)(B:Bl mg)(b:Binds K fd ["thing"] [])(a:S0 K (.ref f)=true)(m:mg "copied" =Y (.ref f)):∀n:Nat,FnOk P w K mg base CX0 (1+n) f fd ["thing"] (zSr n)
 |0=>yHx F|n+1=>yGq F B {_,_,zYz F B b a m n,b,a,m}
theorem zXh(F:Fun K "_law_held" "_law_held" sCo f fd)(B:Bl mg)(b:Binds K fd ["_law_thing"] [])(a:S0 K (.ref f)=true)(m:mg "_law_held" =Y (.ref f)):∀n:Nat,FnOk P w K mg base CX0 (1+n) f fd ["_law_thing"] (zGt n)
 |0=>yEz F|n+1=>yIf F B {_,_,zXh F B b a m n,b,a,m}
end
mutual
def T.gk:T->Prop
 |.int i=>-(10 ^ 12)<=i/\i<=10 ^ 12|.str x=>x...*<=30/\∀c∈x,c∈zDh|.lst ts=>k6 ts|.dic ks ts=>(∀k∈ks,xF k=true)/\k6 ts|.tup _=>False|.non=>True|.bl _=>True
def k6:List T->Prop
 |[]=>True|t::ts=>T.gk t/\k6 ts
end
theorem d6{t:T}:∀{ts:B0},k6 ts->t∈ts->T.gk t
 |[],_,h=>nomatch h|u::ts,h,a=>(mF.mp a).elim (λe=>e▸h.1) (d6 h.2)
theorem j4{ts:B0}(h:∀t∈ts,T.gk t):k6 ts:=by
 induction ts with|nil=>exact mK|cons t ts b=>exact{h t mD,b λu a=>h u (mG _ a)}
structure Fig(d z:Nat)(t:T):Prop where
 few:T.few t
 gk:T.gk t
 dep:T.dep t<=d
 sz:T.sz t<=z
theorem Fig.row{d z:Nat}{us:B0}(h:∀u∈us,T.few u/\T.gk u/\T.dep u+1<=d)(c:1<=d)(hz:T.szs us+1<=z)(b:T.szs us<=100000):Fig d z (.lst us):=by
 refine{{nW (zQa us) b,zJj λu a=>(h u a).1},j4 λu a=>(h u a).2.1, ?_,hz};let:T.deps us<=d - 1:=d8 λu a=>by let:=(h u a).2.2;lia
 show T.deps us+1<=d
 lia
theorem o9{d z:Nat}{ks:C6}{us:B0}(e:∀k∈ks,xF k=true)(f:ks.Nodup)(b:ks...*<64)(c:ks...*=us...*)(h:∀u∈us,T.few u/\T.gk u/\T.dep u+1<=d)(g:1<=d)(hz:T.szs us+1<=z):Fig d z (.dic ks us):=by
 refine{{f,b,c,zJj λu a=>(h u a).1},{e,j4 λu a=>(h u a).2.1}, ?_,hz};let:T.deps us<=d - 1:=d8 λu a=>by let:=(h u a).2.2;lia
 show T.deps us+1<=d
 lia
theorem uJ:∀(d:Nat)(t:T),d<=4->Nice d t->Fig d (zAf d) t
 |d, .non,_,_=>{mK,mK,nR _,zBm d}|d, .bl _,_,_=>{mK,mK,nR _,zBm d}|d, .int _,_,h=>{mK,h,nR _,zBm d}|d, .str x,_,h=>by
  let c:zDs x=true:=h;unfold zDs at c;simp only[pA,pO,rF] at c;exact{mK,c,nR _,zBm d}
 |0, .lst ts,_,h=>absurd h.1 ∎|d+1, .lst ts,n,h=>by
  obtain⟨_,f,e⟩:=h;let k:∀t∈ts,Fig d (zAf d) t:=λt b=>uJ d t ∅ (NiceL_iff.mp e t b);let z:=zEf λt b=>(k t b).sz;let i:ts...**zAf d<=4*zAf d:=aU _ f;let o:=zWn d ∅;refine Fig.row (λu a=>{(k u a).few,(k u a).gk,rE (k u a).dep}) (rE (nR _)) ?_ ∅;show _<=4*zAf d+1
  lia
 |0, .dic l ts,_,h=>absurd h.1 ∎|d+1, .dic l ts,n,h=>by
  ext zS h _ f g m j e;let k:∀t∈ts,Fig d (zAf d) t:=λt b=>uJ d t ∅ (NiceL_iff.mp e t b);let z:=zEf λt b=>(k t b).sz;let i:ts...**zAf d<=4*zAf d:=aU _ f;refine o9 j m ∅ g (λu a=>{(k u a).few,(k u a).gk,rE (k u a).dep}) (rE (nR _)) ?_;show _<=4*zAf d+1
  lia
 |d, .tup ts,_,h=>by cases d<;>exact h.elim
theorem zXt:∀k∈([]:C6),xF k=true:=λ_ h=>nomatch h
abbrev sLo:V6:=top 31
noncomputable def zV:T->Key->Option T
 |.lst a, .inl i=>a[i.toNat]?|.dic ks a, .inr s=>if ts s∈ks then Y (yH (ts s) ks a) else none|_,_=>none
def okK:Key->Prop
 |.inl i=>0<=i/\i<=59|.inr _=>True
theorem zWc{H:Hp}{ps:D0}{ks:C6}{us:B0}(g:ks.Nodup)(c:ps.map (·.1)=ks.map nK)(d:Reps H (ps.map (·.2)) us)(s:Str):(kK ps (Sum.inr s)).isSome=decide (ts s∈ks):=by
 by_cases a:ts s∈ks
 ·obtain⟨v,b,_⟩:=i5 g c d a
  rw[qJ] at b;rw[b,nF a]
  rfl
 ·rw[nJ a,zDj (by
   rw[c];intro z;obtain⟨k,b,f⟩:=nV.mp z;let e:tx k=s:=Sum.inr.inj f;rw[<-e,qZ] at a;exact a b)]
  rfl
theorem zVs{K:A9}{H:Hp}{v:V}{t:T}{k:Key}{Q:VK}(h:Rep H v t)(m:T.pure t)(r:okK k)(q:Q (.bl (zV t k).isSome) H):∃x,tyS H (kV k)=Y x/\if yC x "str" =true then∃x,tyS H v=Y x/\if yC x "dict" =true then zUw (jC 1) (jC 0) [Y v,Y (kV k)] H Q else Q (V.bl false) H
  else∃x,tyS H v=Y x/\if yC x "list" =true then∃p,v=V.ref p/\∃ys,SqL K H p ys/\∃i,kV k=V.int i/\Q (V.bl (decide (i<(ys...*:Int)))) H else Q (V.bl false) H:=by
 cases k with
 |inl i=>
  let w:0<=i:=r.1;refine nEA ("int") O (iN ∎ {_,h.ty, ?_})
  cases t with
  |lst d=>
   ext yL h a o f l n;subst f;refine iP O {a,O,o,SqL.of l,i,O, ?_};let y:=n...*;let e:(zV (.lst d) (.inl i)).isSome=decide (i<(o...*:Int)):=by
    show(d[i.toNat]?).isSome=_
    by_cases c:i.toNat<d...*
    ·rw[mQ c,nF ∅]
     rfl
    ·rw[sM ∅,nJ ∅]
     rfl
   rw[<-e];exact q
  |non=>exact iN (by simp[tyT,yC]) q|bl b=>exact iN (by simp[tyT,yC]) q|int b=>exact iN (by simp[tyT,yC]) q|str b=>exact iN (by simp[tyT,yC]) q|dic g d=>exact iN (by simp[tyT,yC]) q|tup d=>exact m.elim
 |inr s=>
  refine nEA ("str") O (iP ∎ {_,h.ty, ?_})
  cases t with
  |dic g d=>
   ext zR h a u f l j n;subst f;refine iP O {a,_,O, .inl {u, .inr s, .inl l,O,O}, ?_};rw[zWc m.1 j n];let e:(zV (.dic g d) (.inr s)).isSome=decide (ts s∈g):=by
    show(if ts s∈g then Y (yH (ts s) g d) else none).isSome=_
    by_cases c:ts s∈g
    ·rw[mP c,nF c];rfl
    ·rw[mI c,nJ c];rfl
   rw[<-e];exact q
  |non=>exact iN (by simp[tyT,yC]) q|bl b=>exact iN (by simp[tyT,yC]) q|int b=>exact iN (by simp[tyT,yC]) q|str b=>exact iN (by simp[tyT,yC]) q|lst d=>exact iN (by simp[tyT,yC]) q|tup d=>exact m.elim
section
variable{P:V3}{w:V4}{K:A9}{mg:C8}{base:V5}{f:V1}{fd:V7}
def zTn:Sp:=λb H Q _=>∃(v:V)(t:T)(k:Key),b= [v,kV k]/\Rep H v t/\T.pure t/\T.sz t<=100000/\okK k/\∀a,Same H a->Q (.bl (zV t k).isSome) a
theorem ok_lo(F:Fun K "leads_on" "leads_on" sLo f fd)(B:Bl mg):FnOk P w K mg base CX0 1 f fd ["thing","step"] zTn:=by
 refine F.okn (N:=["thing","step"]) λe A b s H o Q E m i h=>?_;ext zU h v t k a d g;ext xA g j n l q;subst a;let c:=wY i;refine{_,(zD (zT (yD (pI B.isinstance zH B.str jJ (pv 1))) (zG (zI (vQ (pI B.isinstance zH B.dict xJ (pv 0)) (qC (zOv (zEe c (pv 1) (pv 0))))))) zK)
  (zG (zI (vQ (pI B.isinstance zH B.list yQ (pv 0)) (qC (pE jU (pv 1) (zN yE O B.len yS (zA (pv 0) zB)))))))), ?_}
 walk_at "st";lk;exact zVs d j l (q _ (Same.refl _))
noncomputable def goT:T->List Key->List T
 |t,[]=>[t]|t,k::a=>match zV t k with
  |none=>[t]|some u=>t::goT u a
theorem zKs{H:Hp}{c:V}{u n:T}{k:Key}(L:Rep H c u)(i:T.pure u)(p:T.sz u<=100000)(hk:okK k)(d:zV u k=Y n):
  ∃t,Rep H t n/\T.pure n/\T.sz n<=100000/\((∃b zs j,c= .ref b/\H b=Y (.lst zs)/\kV k= .int j/\atI zs j=Y t)\/(∃b y,c= .ref b/\H b=Y (.dK y)/\kK y k=Y t)):=by
 cases k with
 |inl j=>
  let hj:0<=j:=hk.1
  cases u with
  |lst m=>
   let a:m[j.toNat]? =Y n:=d;ext yL L b zs h A s;subst h;let l:=mO a;let aa:=s...*;let N:=(mJ.mp a).1;let q:j.toNat<zs...*:=by lia
   obtain⟨t',r,D⟩:=s.get (mQ q);rw[a] at r;cases r;let M:=c7 l;let E:T.szs m+1<=100000:=p;let I:atI zs j=some zs[j.toNat]:=by
    let z:=zQ (j:=j.toNat) (mQ q)
    rwa [show((j.toNat:Nat):Int)=j by lia] at z
   exact zFx _ D (i9 i l) ∅ (.inl ⟨b,zs,j,O,A,O,I⟩)
  |non=>cases d|bl b=>cases d|int b=>cases d|str b=>cases d|dic e g=>cases d|tup g=>cases d
 |inr z=>
  cases u with
  |dic e m=>
   let a:(if ts z∈e then Y (yH (ts z) e m) else none)=Y n:=d
   by_cases l:ts z∈e
   ·rw[mP l] at a
    cases a;ext zR L b y h A o x;subst h;obtain⟨t,J,h2⟩:=i5 i.1 o x l;rw[qJ] at J;let E:T.szs m+1<=100000:=p;let B:e...*=m...*:=by
     let e1:=congrArg List.length o;let Q:=x...*;rw[mN,mN] at e1;rw[mN] at Q
     lia
    let v:=xK l B;let M:=c7 v;exact zFx t h2 (i9 i.2 v) ∅ (.inr ⟨b,y,O,A,J⟩)
   ·rw[mI l] at a
    cases a
  |non=>cases d|bl b=>cases d|int b=>cases d|str b=>cases d|lst g=>cases d|tup g=>cases d
inductive Wd where
 |put | ins | tak
noncomputable def Wd.s:Wd->Str
 |.put=>A8 "put"|.ins=>A8 "insert"|.tak=>A8 "take"
noncomputable def xZ:Wd->T->Key->Bool
 |.tak,t,k=>(zV t k).isSome|.put, .dic _ _, .inr _=>true|.put, .lst us, .inl i=>decide (i<=(us...*:Int))|.ins, .lst us, .inl i=>decide (i<=(us...*:Int))|_,_,_=>false
noncomputable def xE(n:List Nat):List (List Nat)->List T->List T
 |k::a,u::b=>if k=n then xE n a b else u::xE n a b|_,_=>[]
noncomputable def xV(n:List Nat):List (List Nat)->List (List Nat)
 |k::a=>if k=n then xV n a else k::xV n a|[]=>[]
noncomputable def yP:Wd->T->Key->T->T
 |.put, .dic ks a, .inr s,n=>.dic (yY (ks,a) (ts s) n).1 (yY (ks,a) (ts s) n).2|.tak, .dic ks a, .inr s,_=>.dic (xV (ts s) ks) (xE (ts s) ks a)|.put, .lst a, .inl i,n=>.lst (a.take i.toNat++n::a.drop (i.toNat+1))|.ins, .lst a, .inl i,n=>.lst (a.take i.toNat++n::a.drop i.toNat)|.tak, .lst a, .inl i,_=>.lst (a.take i.toNat++a.drop (i.toNat+1))|_,t,_,_=>t
noncomputable def bld(st:B0)(ks:B8):Nat->T->T
 |0,r=>r|m+1,r=>bld st ks m (yP .put (st.getD m .non) (ks.getD m (.inl 0)) r)
noncomputable def chG(w:Wd)(a:T->Key->T)(t:T)(ks:B8)(n:T):Sum Nat T:=
 match ks.getLast? with
 |none=>match w with
  |.put=>.inr n|_=>.inl 0
 |some k=>if(goT t ks.dropLast)...*<ks...* then .inl ((goT t ks.dropLast)...* - 1) else
  match (goT t ks.dropLast).getLast? with|none=>.inl 0|some s=>if xZ w s k=true then .inr (bld (goT t ks.dropLast) ks (ks...* - 1) (a s k)) else .inl (ks...* - 1)
theorem dropN_mem{n k:List Nat}:∀{ks:C6},k∈xV n ks↔k∈ks/\k≠n
 |[]=>by simp[xV]|k'::ks=>by
  unfold xV;split
  ·rename_i e
   rw[dropN_mem (ks:=ks),e];constructor
   ·exact λh=>{mG _ h.1,h.2}
   ·rintro⟨h1,a⟩
    rcases mF.mp h1 with z | z
    ·exact absurd z a
    ·exact⟨z,a⟩
  ·rename_i e
   rw[mF,dropN_mem (ks:=ks),mF];constructor
   ·rintro(h | h)
    ·exact{.inl h,by rw[h];exact e}
    ·exact{.inr h.1,h.2}
   ·rintro⟨h1 | h1,a⟩
    ·exact .inl h1
    ·exact .inr ⟨h1,a⟩
theorem jV{n:List Nat}:∀{ks:C6},ks.Nodup->(xV n ks).Nodup
 |[],_=>by simp[xV]|k::ks,h=>by
  rw[nX] at h;unfold xV;split
  ·exact jV h.2
  ·rw[nX]
   exact{λz=>h.1 (dropN_mem.mp z).1,jV h.2}
theorem zGk{n:List Nat}:∀{ks:C6}{us:B0},ks...*=us...*->(xV n ks)...*=(xE n ks us)...*/\(xE n ks us)...*<=us...*
 |[],[],_=>{O,mE _}|[],_::_,h=>by simp at h|_::_,[],h=>by simp at h|k::ks,u::us,h=>by
  obtain⟨b,a⟩:=zGk (n:=n) (ks:=ks) (us:=us) (by simpa using h);unfold xV xE;split
  ·exact{b,sT a}
  ·exact{by rw[mW,mW,b],rE a}
theorem zBf{n:List Nat}{u:T}:∀{ks:C6}{us:B0},u∈xE n ks us->u∈us
 |[],us,h=>by cases us<;>simp[xE] at h|_::_,[],h=>by simp[xE] at h|k::ks,v::us,h=>by
  unfold xE at h;split at h
  ·exact mG _ (zBf h)
  ·rcases mF.mp h with z | z
   ·rw[z];exact mD
   ·exact mG _ (zBf z)
theorem zBk{n k:List Nat}(a:k≠n):∀{ks:C6}{us:B0},ks...*=us...*->yH k (xV n ks) (xE n ks us)=yH k ks us
 |[],[],_=>rfl|[],_::_,h=>by simp at h|_::_,[],h=>by simp at h|k'::ks,u::us,h=>by
  let b:=zBk a (ks:=ks) (us:=us) (by simpa using h);unfold xV xE;split
  ·rename_i e
   rw[b];show _=if k'=k then u else yH k ks us;rw[mI (by rw[e];exact Ne.symm a)]
  ·show(if k'=k then u else yH k (xV n ks) (xE n ks us))=if k'=k then u else yH k ks us
   rw[b]
theorem zAi{k n:List Nat}{t:T}:∀{ks:C6}{us:B0},ks...*=us...*->k∈ks->yH k (ks++ [n]) (us++ [t])=yH k ks us
 |[],_,_,h=>nomatch h|_::_,[],h,_=>by simp at h|k'::ks,u::us,a,h=>by
  show(if k'=k then u else yH k (ks++ [n]) (us++ [t]))=if k'=k then u else yH k ks us
  by_cases e:k'=k
  ·rw[mP e,mP e]
  ·rw[mI e,mI e]
   rcases mF.mp h with z | z
   ·exact absurd z.symm e
   ·exact zAi (by simpa using a) z
theorem uO{n:List Nat}{t:T}:∀{ks:C6}{us:B0},ks...*=us...*->n∉ks->yH n (ks++ [n]) (us++ [t])=t
 |[],[],_,_=>mP O|[],_::_,h,_=>by simp at h|_::_,[],h,_=>by simp at h|k'::ks,u::us,a,h=>by
  show(if k'=n then u else yH n (ks++ [n]) (us++ [t]))=t;rw[mI (λe=>h (by rw[e];exact mD))];exact uO (by simpa using a) λz=>h (mG _ z)
theorem gB{n k:List Nat}{t:T}:∀{ks:C6}{us:B0},ks...*=us...*->n∈ks->yH k ks (yR n t ks us)=if k=n then t else yH k ks us
 |[],_,_,h=>nomatch h|_::_,[],h,_=>by simp at h|k'::ks,u::us,g,h=>by
  show(if k'=k then(if k'=n then t else u) else yH k ks (yR n t ks us))=if k=n then t else if k'=k then u else yH k ks us
  by_cases e:k'=k
  ·rw[mP e,mP e,e]
  ·rw[mI e,mI e]
   by_cases c:n∈ks
   ·exact gB (by simpa using g) c
   ·let j:k'=n:=by
     rcases mF.mp h with z | z
     ·exact z.symm
     ·exact absurd z c
    rw[mI (by rw[<-j];exact Ne.symm e)];let:∀(ks:C6)(us:B0),n∉ks->yR n t ks us=us:=by
     intro ks
     induction ks with
     |nil=>intro us _;unfold yR;rfl|cons a ks i=>
      intro us d
      cases us with
      |nil=>rfl|cons b us=>
       show(if a=n then t else b)::yR n t ks us=b::us;rw[mI (λz=>d (by rw[z];exact mD)),i us λz=>d (mG _ z)]
    rw[this ks us c]
theorem zJa{n k:List Nat}{t:T}{ks:C6}{us:B0}(d:ks...*=us...*)(g:k∈ks\/k=n):k∈(yY (ks,us) n t).1/\yH k (yY (ks,us) n t).1 (yY (ks,us) n t).2=if k=n then t else yH k ks us:=by
 by_cases b:n∈ks
 ·let e:yY (ks,us) n t=(ks,yR n t ks us):=mP b
  rw[e];refine{?_,gB d b};rcases g with z | z
  ·exact z
  ·rw[z];exact b
 ·let e:yY (ks,us) n t=(ks++ [n],us++ [t]):=mI b
  rw[e]
  by_cases a:k=n
  ·rw[mP a,a]
   exact{by simp,uO d b}
  ·rw[mI a]
   let c:k∈ks:=g.resolve_right a;exact{nQ _ c,zAi d c}
theorem zId{n:List Nat}{t:T}:∀{ks:C6}{us:B0},ks.Nodup->ks...*=us...*->n∈ks->T.szs (yR n t ks us)=T.szs (xE n ks us)+T.sz t
 |[],_,_,_,h=>nomatch h|_::_,[],_,h,_=>by simp at h|k::ks,u::us,d,c,h=>by
  rw[nX] at d
  by_cases e:k=n
  ·let p:∀(ks:C6)(us:B0),ks...*=us...*->n∉ks->yR n t ks us=us/\xE n ks us=us:=by
    intro ks
    induction ks with
    |nil=>intro us c _;cases us with
     |nil=>exact⟨O,O⟩|cons _ _=>simp at c
    |cons a ks j=>
     intro us c l
     cases us with
     |nil=>simp at c|cons b us=>
      obtain⟨g,i⟩:=j us (by simpa using c) λz=>l (mG _ z);let m:¬a=n:=λz=>l (by rw[z];exact mD);refine{?_, ?_}
      ·show(if a=n then t else b)::yR n t ks us=b::us
       rw[mI m,g]
      ·show(if a=n then xE n ks us else b::xE n ks us)=b::us
       rw[mI m,i]
   obtain⟨g,i⟩:=p ks us (by simpa using c) (by rw[<-e];exact d.1);show T.szs ((if k=n then t else u)::yR n t ks us)=T.szs (if k=n then xE n ks us else u::xE n ks us)+T.sz t;rw[mP e,mP e,g,i];show T.sz t+T.szs us=_
   lia
  ·let o:n∈ks:=by
    rcases mF.mp h with z | z
    ·exact absurd z.symm e
    ·exact z
   let j:=zId (t:=t) d.2 (by simpa using c) o (us:=us);show T.szs ((if k=n then t else u)::yR n t ks us)=T.szs (if k=n then xE n ks us else u::xE n ks us)+T.sz t;rw[mI e,mI e];show T.sz u+T.szs (yR n t ks us)=T.sz u+T.szs (xE n ks us)+T.sz t
   lia
theorem zEj{n:List Nat}:∀{ks:C6}{us:B0},T.szs (xE n ks us)<=T.szs us
 |[],us=>by
  let e:xE n [] us= []:=by cases us<;>rfl
  rw[e];exact nR _
 |_::_,[]=>mE _|k::ks,u::us=>by
  let a:=zEj (n:=n) (ks:=ks) (us:=us);show T.szs (if k=n then xE n ks us else u::xE n ks us)<=T.sz u+T.szs us;split
  ·lia
  ·show T.sz u+_<=_;lia
theorem zIi{n:List Nat}:∀{ks:C6}{us:B0},ks...*=us...*->n∉ks->xE n ks us=us/\xV n ks=ks
 |[],[],_,_=>⟨O,O⟩|[],_::_,h,_=>by simp at h|_::_,[],h,_=>by simp at h|k::ks,u::us,c,b=>by
  obtain⟨d,e⟩:=zIi (n:=n) (ks:=ks) (us:=us) (by simpa using c) λz=>b (mG _ z);let a:¬k=n:=λz=>b (by rw[z];exact mD);refine{?_, ?_}
  ·show(if k=n then xE n ks us else u::xE n ks us)=_
   rw[mI a,d]
  ·show(if k=n then xV n ks else k::xV n ks)=_
   rw[mI a,e]
theorem zNc{n:List Nat}{t:T}{ks:C6}{us:B0}(c:ks.Nodup)(b:ks...*=us...*):T.szs (yY (ks,us) n t).2=T.szs (xE n ks us)+T.sz t:=by
 by_cases a:n∈ks
 ·let e:yY (ks,us) n t=(ks,yR n t ks us):=mP a
  rw[e];exact zId c b a
 ·let e:yY (ks,us) n t=(ks++ [n],us++ [t]):=mI a
  rw[e,(zIi b a).1];show T.szs (us++ [t])=_;rw[d9];rfl
theorem m8{H:Hp}:∀{us:B0}{vs:B3}{D:B9}{i:Nat}{t:T},Sps H vs us D->us[i]? =Y t->∃v c,vs[i]? =Y v/\Sp1 H v t c/\(∀b∈c,b∈D)/\
  ∀d g t',(∀b∈D,d b=none)->Rep (zAk d g) v t'->Keep c H g->Reps (zAk d g) vs (us.set i t')
 |[],_,_,i,t,_,h=>by simp at h|u::us,_,_,0,t,⟨v,r,c,x,rfl,rfl,l,m,n⟩,h=>by
  let e:u=t:=by simpa using h
  subst e;refine zBv v c O l (λb a=>nQ _ a) (λd g t' j p k=>{v,r,O,p, ?_});exact Sps.rep _ _ _ (Sps.keep _ _ _ (λb a o _ e=>by
   rw[wZ (j b (mX _ a))];exact k b o (λz=>n b z a) e) m)
 |u::us,_,_,i+1,t,⟨v,r,c,x,rfl,rfl,l,m,n⟩,h=>by
  refine zR (m8 (i:=i) m (by simpa using h)) λw y A g2 q s=>?_;refine zBv w y (by simpa using A) g2 (λb a=>mX _ (q b a)) (λd g t' j p k=>{v,r,O, ?_,s d g t' (λb a=>j b (mX _ a)) p k});exact Sp1.rep _ _ _ (Sp1.keep _ _ _ (λb a o _ e=>by
   rw[wZ (j b (nQ _ a))];exact k b o (λz=>n b a (q b z)) e) l)
theorem zIs{n:List Nat}{t:T}:∀(ks:C6)(us:B0),ks.Nodup->ks...*=us...*->n∈ks->yR n t ks us=us.set (ks.idxOf n) t
 |[],_,_,_,h=>nomatch h|_::_,[],_,h,_=>by simp at h|k::ks,u::us,g,o,p=>by
  rw[nX] at g;let e:yR n t (k::ks) (u::us)=(if k=n then t else u)::yR n t ks us:=rfl;rw[e]
  by_cases h:k=n
  ·subst h
   let c:∀(b:C6)(a:B0),k∉b->yR k t b a=a:=by
    intro b
    induction b with
    |nil=>intro a _;unfold yR;rfl|cons l b j=>
     intro a i
     cases a with
     |nil=>unfold yR;rfl|cons w a=>
      let m:yR k t (l::b) (w::a)=(if l=k then t else w)::yR k t b a:=rfl;rw[m,mI (λz=>i (by rw[z];exact mD)),j a λz=>i (mG _ z)]
   rw[mP O,c ks us g.1,List.idxOf_cons_self]
   rfl
  ·let d:(k::ks).idxOf n=ks.idxOf n+1:=by rw[List.idxOf_cons,show(k==n)=false from rV.mpr h];rfl
   rw[mI h,d,zIs ks us g.2 (by simpa using o) ((mF.mp p).resolve_left (Ne.symm h))]
   rfl
theorem zFn{α:Type}{us:List α}{i:Nat}{r:α}(h:i<us...*):us.set i r=us.take i++r::us.drop (i+1):=bV.trans (mP h)
theorem vM{H a:Hp}{d:V1}{o:HO}(g:Same H a)(c:H d=none):Same H (upd a d o):=λb u e=>by
 let h:b≠d:=λz=>by subst z;rw[c] at e;cases e
 rw[zM h];exact g _ _ e
theorem yAw(ks:B8)(k:Key):ks.map kV++ [kV k]=(ks++ [k]).map kV:=by rw[nI];rfl
theorem yCj{H:Hp}{a:V1}{ps:D0}{ks:C6}{us:B0}(l:ks.Nodup)(i:ps.map (·.1)=ks.map λk=>(Sum.inr (tx k):Key))(e:Reps H (ps.map (·.2)) us)(d:H a=Y (.dK ps)){k:List Nat}(c:k∈ks):∃v,(∀b,Same H b->zMg b a (.str (tx k)) ↥v)/\Rep H v (yH k ks us):=by
 obtain⟨v,h,j⟩:=i5 l i e c;exact nEA v (λb g=>.inl {ps,Sum.inr (tx k), .inl (g _ _ d),O,h.symm}) j
theorem zFq{H:Hp}{a:V1}{ps:D0}{ks:C6}(b:ps.map (·.1)=ks.map λk=>(Sum.inr (tx k):Key))(e:H a=Y (.dK ps)){k:List Nat}(d:k∉ks):zMg H a (.str (tx k)) none:=by
 refine .inl {ps,Sum.inr (tx k), .inl e,O,(zDj λz=>d ?_).symm};rw[b] at z;obtain⟨h,g,c⟩:=nV.mp z;rw[<-zAx c];exact g
noncomputable def doT(w:Wd)(n:T):List Key->T->Option T
 |[],_=>match w with
  |.put=>Y n|_=>none
 |[k],t=>if xZ w t k=true then Y (yP w t k n) else none|k::a::b,t=>match zV t k with
  |some s=>(doT w n (a::b) s).map λr=>yP .put t k r|none=>none
structure Cx2(H0 H:Hp)(v:V)(up:T->T)(x:V)(s:T)(D:B9):Prop where
 sp:Sp1 H x s D
 new:∀b∈D,H0 b=none
 few:T.few s
 cls:∀H' s',Rep (zAk H0 H') x s'->Keep D H H'->Rep (zAk H0 H') v (up s')
theorem Cx2.refl{a H:Hp}{v:V}{t:T}{D:B9}(h:Sp1 H v t D)(d:∀b∈D,a b=none)(c:T.few t):Cx2 a H v (λr=>r) v t D:={h,d,c,λ_ _ r _=>r}
theorem Cx2.row{h H:Hp}{v:V}{q:T->T}{a:V1}{us:B0}{D:B9}(C:Cx2 h H v q (.ref a) (.lst us) D){i:Int}(N:0<=i){u:T}(d:us[i.toNat]? =Y u):∃xs y E,H a=Y (.lst xs)/\xs...*=us...*/\xs[i.toNat]? =Y y/\Cx2 h H v (λr=>q (yP .put (.lst us) (.inl i) r)) y u E:=by
 refine zU (C.sp) λa' xs Q e s A=>?_;ext oAA A l J t;subst l;cases e;refine zR (m8 t d) λy n I M g x=>?_;let B:=mO d;let L:=C.few;refine{xs,y,n,s,t...*,I,M,λb c=>C.new b (mG _ (g b c)),b9 L.2 B,λo p r k=>?_};let m:a∉n:=λz=>J (g a z);let j:=(mJ.mp d).1;refine C.cls o (.lst (us.take i.toNat++p::us.drop (i.toNat+1))) {a,xs,O, ?_, ?_} (k.mono λb c=>mG _ (g b c))
 ·rw[wZ (C.new a mD)];exact k a _ m s
 ·rw[<-zFn j]
  exact x h o p (λb c=>C.new b (mG _ c)) r k
theorem Cx2.rcd{m H:Hp}{v:V}{t:T->T}{a:V1}{ks:C6}{us:B0}{D:B9}(C:Cx2 m H v t (.ref a) (.dic ks us) D){z:Str}(k:ts z∈ks):∃ps y L,H a=Y (.dK ps)/\ps.map (·.1)=ks.map nK/\kK ps (nK (ts z))=Y y/\Cx2 m H v (λr=>t (yP .put (.dic ks us) (.inr z) r)) y (yH (ts z) ks us) L:=by
 refine zU (C.sp) λa' ps D1 e E J=>?_;ext xA J c o na hs;subst o;cases e;let g:=C.few;let s:=zFi k;let B:ks.idxOf (ts z)<us...*:=by rw[<-g.2.2.1];exact tH k
 let q:us[ks.idxOf (ts z)]? =Y (yH (ts z) ks us):=by
  rw[mQ B];exact congrArg some (zFz g.1 s (mQ B)).symm
 refine zR (m8 hs q) λy x u N p Q=>?_;let hm:=mO q;let I:kK ps (nK (ts z))=Y y:=by
  rw[nH] at u;obtain⟨kv,h,rfl⟩:=rL.mp u;refine zBd (i:=ks.idxOf (ts z)) (by rw[c];exact uF g.1) ?_;let:(ps.map (·.1))[ks.idxOf (ts z)]? =Y (nK (ts z)):=by rw[c,nH,s];rfl
  rw[nH,h] at this;rw[h,<-mU this]
 refine{ps,y,x,E,c,I,N,λb j=>C.new b (mG _ (p b j)),b9 g.2.2.2 hm,λA d r l=>?_};let n:a∉x:=λz=>na (p a z);let M:yY (ks,us) (ts z) d=(ks,us.set (ks.idxOf (ts z)) d):=by
  let:yY (ks,us) (ts z) d=(ks,yR (ts z) d ks us):=mP k;rw[this,zIs ks us g.1 g.2.2.1 k]
 refine C.cls A (.dic (yY (ks,us) (ts z) d).1 (yY (ks,us) (ts z) d).2) ?_ (l.mono λb j=>mG _ (p b j));rw[M];refine{a,ps,O, ?_,c,Q m A d (λb j=>C.new b (mG _ j)) r l};rw[wZ (C.new a mD)];exact l a _ n E
theorem Reps.dropK{H:Hp}{n:List Nat}:∀{ps:D0}{ks:C6}{us:B0},ps.map (·.1)=ks.map nK->Reps H (ps.map (·.2)) us->(L2.dropK ps (nK n)).map (·.1)=(xV n ks).map nK/\Reps H ((L2.dropK ps (nK n)).map (·.2)) (xE n ks us)
 |[],[],us,_,h=>by
  let e:us= []:=by
   cases us with
   |nil=>rfl|cons _ _=>obtain⟨v,r,e,_⟩:=h;cases e
  subst e;exact⟨O,O⟩
 |[],_::_,_,e,_=>by simp at e|_::_,[],_,e,_=>by simp at e|p::ps,k::ks,[],_,h=>by
  let i:(p::ps).map (·.2)= []:=h;cases i
 |p::ps,k::ks,u::us,e,⟨g,r,l,q,t⟩=>by
  let x:p.2::ps.map (·.2)=g::r:=l;injection x with s m;subst s m;let j:p.1::ps.map (·.1)=nK k::ks.map nK:=e;injection j with b o;obtain⟨c,d⟩:=Reps.dropK (n:=n) o t;unfold L2.dropK at c d⊢;rw[dE];unfold xV xE
  by_cases a:k=n
  ·rw[mI (by simp[b,a]),mP a,mP a]
   exact⟨c,d⟩
  ·rw[mP (by rw[b];exact nF λz=>a (zAx z)),mI a,mI a]
   exact{by rw[nG,nG,b,c],_,_,O,q,d}
abbrev sPi:V6:=top 69
theorem zAs{d H H1:Hp}{a:V1}{o:HO}{xs:B3}{us:B0}{D:B9}(i:Sps H xs us D)(j:a∉D)(h:∀b∈D,d b=none)(g:Same H H1):Reps (zAk d (upd H1 a o)) xs us:=
 Sps.rep _ _ _ (Sps.keep _ _ _ (λb c u _ e=>by
  rw[wZ (h b c),zM λz=>j (by rw[<-z];exact c)];exact g _ _ e) i)
theorem zKz{h H H1:Hp}{a:V1}{o j:HO}{v:V}{u:T}{D:B9}(i:Sp1 H1 v u D)(g:∀b∈D,H b=none)(k:Same h H)(d:H a=Y j):Rep (zAk h (upd H1 a o)) v u:=
 Sp1.rep _ _ _ (Sp1.keep _ _ _ (λb c u _ e=>by
  rw[wZ (zW k (g b c)),zM λz=>by rw[z] at c;rw[g a c] at d;cases d];exact e) i)
def spPi:Sp:=λg H Q _=>∃(d:Hp)(x e:V)(a:Wd)(k:Key)(s u:T)(D:B9),g= [x, .str a.s,kV k,e]/\Same d H/\Sp1 H x s D/\(∀b∈D,d b=none)/\T.few s/\okK k/\Rep H e u/\T.few u/\T.dep u<20/\T.sz s<=100000/\(xZ a s k=true->∀c,Keep D H c->Rep (zAk d c) x (yP a s k u)->Q (.bl true) c)/\(xZ a s k=false->Q (.bl false) H)
theorem ok_pi{k:Nat}(F:Fun K "_law_put_in" "_law_put_in" sPi f fd)(B:Bl mg)(c:Dn P w K mg base k "_law_held" ["_law_thing"] (zGt 20)):FnOk P w K mg base CX0 (k+1) f fd ["_law_thing","_law_word","_law_step","_law_new"] spPi:=by
 refine F.okn (N:=["_law_thing","_law_word","_law_step","_law_new"]) λaw A av s H vs Q E nd hr h=>?_;ext yA h H0 x vn L ky M;ext zU M t u D ao g0 M;ext zS M ai e hf hk ae M;ext vB M ah af am q qn;subst ao;let hu:=wY hr;refine{_,(zD (zT (i6 (vH (yD (pI B.isinstance zH B.dict xJ (pv 0))) (qH (yD (pI B.isinstance zH B.str jJ (pv 2)))))) (zD (zT (pT xN (pv 1) zL) (zG (zCh hu (pv 0) (pv 2) (pD c hr (zA (pv 3) zB)) O)) zK)
  (zD (zT (i6 (vH (pT xN (pv 1) zL) (qH (gR (zEe hu (pv 2) (pv 0)))))) (zD (wP (zMc (pv 0) (pv 2) ⟨O,O,O,O⟩))
  (zG (zI vE))) zK)
  (zG (zI (pE xN (pv 1) zL))))) zK)
  (zD (zT (i6 (jI (xL (yD (pI B.isinstance zH B.list yQ (pv 0)))) (jP (yD (pI B.isinstance zH B.str jJ (pv 2)))))) (zG (zI vE)) zK)
  (zD (zT (i6 (jI (i6 (vH (pT xN (pv 1) zL) (qH (pT uE (pv 2) (zN yE O B.len yS (zA (pv 0) zB)))))) (jP (i6 (vH (pT xN (pv 1) zL) (qH (pT xN (pv 2) (zN yE O B.len yS (zA (pv 0) zB))))))))) (zD (wP (jZ nY PySem.F.slot_list_insert PySem.F.type_list_insert zTt (pv 0) (zA (pv 2) (zA (pD c hr (zA (pv 3) zB)) zB))))
  (zG (zI vE))) zK)
  (zD (zT (pT op_ge (pv 2) (zN yE O B.len yS (zA (pv 0) zB))) (zG (zI vE)) zK)
  (zD (zT (pT xN (pv 1) zL) (zG (wP (jZ nY PySem.F.slot_list_pop PySem.F.type_list_pop zYu (pv 0) (zA (pv 2) zB)))) zK)
  (zD (zT (pT xN (pv 1) zL) (zG (yFa (pD c hr (zA (pv 3) zB)) (yIg (pv 0) (pv 2) zWx))) zK)
  (zG (zI vE)))))))), ?_}
 walk_at "st";unfold zUw zZr gSub;lk;let n1:(A8 "put" =A8 "take")=False:=dL (by decide+kernel);let n2:(A8 "put" =A8 "insert")=False:=dL (by decide+kernel);let n3:(A8 "insert" =A8 "take")=False:=dL (by decide+kernel);let n4:(A8 "insert" =A8 "put")=False:=dL (by decide+kernel);let n5:(A8 "take" =A8 "put")=False:=dL (by decide+kernel);let n6:(A8 "take" =A8 "insert")=False:=dL (by decide+kernel);let aa:=(Sp1.rep _ _ _ ai).ty;refine nEA _ aa ?_;let l:xZ L t ky=false->yC (tyT t) "dict" =false->yC (tyT t) "list" =false->∀{R1 R2:Prop},(if yC (tyT t) "dict" =true then R1 else∃al,tyS H x=Y al/\if yC al "list" =false then Q (V.bl false) H else R2):=λau h1 h2=>iN (by rw[h1];decide) {_,aa,iP h2 (qn au)}
 cases t with
 |dic ks d=>
  refine iP (by simp only[tyT];decide+kernel) ?_;ext zU ai a ps D1 ag j M;ext xA M J an na hs;subst ag an;let m:∀b∈D1,H0 b=none:=λb hb=>e b (mG _ hb);let ab:=hs...*;let ar:=d5 d;let ap:T.szs d+1<=100000:=am;rw[mN] at ab
  cases ky with
  |inl i=>exact{"int",O,iN ∎ {_,aa,iP (by simp only[tyT];decide+kernel) (qn (by cases L<;>rfl))}}|inr z=>
   refine nEA ("str") O (iP ∎ ?_);let ex:(Sum.inr z:Key)=nK (ts z):=by show(Sum.inr z:Key)=Sum.inr (tx (ts z));rw[qJ]
   cases L with
   |put=>
    refine iP O {vn,u,O,ae,ah,af,λv' H1 D2 y r I=>?_};refine qR a O _ (DPut.k (k:=Sum.inr z) (y _ _ j) (by rw[mS];lia)) (iN (by show¬(A8 "put" =_);rw[n1];exact id) ?_);rw[ex];obtain⟨p1,p2⟩:=zDd (H:=zAk H0 (upd H1 a (.dK (qG ps (nK (ts z)) v')))) (p:=(ks,d)) (n:=ts z) (v:=v') (t:=u) J (zAs hs na m y) (zKz r I g0 j);exact q O _ ((Keep.of y).put _ mD) {a,_,O,by rw[wZ (e a mD)];exact zC,p1,p2}
   |ins=>
    exact iN (by show¬(A8 "insert" =_);rw[n4];exact id) (iN (by show¬(A8 "insert" =_);rw[n3];exact id) (qn O))
   |tak=>
    refine iN (by show¬(A8 "take" =_);rw[n5];exact id) (iP O ?_)
    by_cases hz:ts z∈ks
    ·refine oEA (i5 hf.1 J (Sps.rep _ _ _ hs) hz) λxv ak _=>?_
     refine qR a O ↥xv (.inl {ps,Sum.inr z, .inl j,O,by rw[ex];exact ak.symm}) (iP O {a,O, .inl {ps, .inl j},ps,j,Sum.inr z,O,{xv,by rw[ex];exact ak}, ?_});rw[ex];obtain⟨p1,p2⟩:=Reps.dropK (n:=ts z) J (zAs (H1:=H) (a:=a) (o:=.dK (dropK ps (nK (ts z)))) hs na m (Same.refl _));refine q ?_ _ (Keep.refl.put _ mD) {a,_,O,by rw[wZ (e a mD)];exact zC,p1,p2};show(if ts z∈ks then Y (yH (ts z) ks d) else none).isSome=true;rw[mP hz];rfl
    ·refine qR a O _ (by let:=zFq J j hz;rw[qJ] at this;exact this) (iN ∎ (qn ?_))
     show(if ts z∈ks then Y (yH (ts z) ks d) else none).isSome=false;rw[mI hz];rfl
 |lst d=>
  refine iN (by simp only[tyT];decide+kernel) {_,aa,iN (by simp only[tyT];decide+kernel) ?_};ext zU ai a g D1 ag j M;ext oAA M aq na hs;subst ag aq
  cases ky with
  |inr z=>exact{"str",O,iP ∎ (qn (by cases L<;>rfl))}|inl i=>
   refine nEA ("int") O (iN ∎ ?_);let aj:0<=i:=hk.1;let m:∀b∈D1,H0 b=none:=λb hb=>e b (mG _ hb);let ab:=hs...*;let ar:=d5 d;let ap:T.szs d+1<=100000:=am;let tv:tyV K "list" (V.ref a) H:=.inl {O,g,SqL.of j};let ac:(∀H',Keep (a::D1) H H'->Rep (zAk H0 H') (.ref a) (.lst (d.take i.toNat++u::d.drop i.toNat))->Q (.bl true) H')->i<=(g...*:Int)->zGt 20 [vn] H (λx H1=>rIns (V.ref a) [kV (Sum.inl i),x] H1 λx H1=>Q (V.bl true) H1) E0:=λqq hi=>by
    refine{vn,u,O,ae,ah,af,λv' H1 D2 y r I=>?_};refine{a,g,i,v',O,O,y _ _ j,aj,hi,by rw[mS];lia,∅, ?_};let r1:=zAs (H1:=H1) (a:=a) (o:=.lst (g.take i.toNat++v'::g.drop i.toNat)) hs na m y;exact qq _ ((Keep.of y).put _ mD) {a,_,O,by rw[wZ (e a mD)];exact zC,Reps.append (vs:=u::d.drop i.toNat) (show Reps _ (v'::g.drop i.toNat) (u::d.drop i.toNat) from{v',_,O,zKz r I g0 j,Reps.drop _ r1}) (Reps.take _ r1)}
   cases L with
   |put=>
    refine iN (by show¬(A8 "put" =_);rw[n2];exact id) (iP O {a,O,g,SqL.of j,O, ?_});let hc:xZ .put (.lst d) (.inl i)=decide (i<=(d...*:Int)):=rfl
    by_cases hi:i=(g...*:Int)
    ·refine iP (by rw[hi];rfl) {tv,ac (λH' k' r'=>q (by rw[hc];exact nF ∅) H' k' ?_) ∅}
     show Rep _ _ (.lst (d.take i.toNat++u::d.drop (i.toNat+1)));rw[pQ (show d...*<=i.toNat by lia)] at r';rw[pQ ∅];exact r'
    ·refine iN (λz=>hi (V.int.inj z)) {a,O,g,SqL.of j,i,O, ?_}
     by_cases hj:(g...*:Int)<=i
     ·exact iP hj (qn (by rw[hc];exact nJ ∅))
     ·refine iN hj (iN (by show¬(A8 "put" =_);rw[n1];exact id) (iP O ?_))
      refine{vn,u,O,ae,ah,af,λv' H1 D2 y r I=>?_};refine{a,g,i,i.toNat,O,O,y _ _ j,by unfold ixN;rw[mP aj,mP ∅], ?_};let r1:=zAs (H1:=H1) (a:=a) (o:=.lst (g.set i.toNat v')) hs na m y;refine q (by rw[hc];exact nF ∅) _ ((Keep.of y).put _ mD) ?_;show Rep _ _ (.lst (d.take i.toNat++u::d.drop (i.toNat+1)));rw[<-zFn ∅];exact{a,_,O,by rw[wZ (e a mD)];exact zC,Reps.set (zKz r I g0 j) _ r1}
   |ins=>
    let hc:xZ .ins (.lst d) (.inl i)=decide (i<=(d...*:Int)):=rfl;refine iP O {a,O,g,SqL.of j,i,O, ?_}
    by_cases hi:i<=(g...*:Int)
    ·exact iP hi {tv,ac (q (by rw[hc];exact nF ∅)) hi}
    ·exact iN hi (iN (by show¬(A8 "insert" =_);rw[n4];exact id) {a,O,g,SqL.of j,i,O,iP ∅ (qn (by rw[hc];exact nJ ∅))})
   |tak=>
    let hc:xZ .tak (.lst d) (.inl i)=(d[i.toNat]?).isSome:=rfl;refine iN (by show¬(A8 "take" =_);rw[n6];exact id) (iN (by show¬(A8 "take" =_);rw[n5];exact id) {a,O,g,SqL.of j,i,O, ?_})
    by_cases hj:(g...*:Int)<=i
    ·exact iP hj (qn (by rw[hc,sM ∅];rfl))
    ·refine iN hj (iP O ?_)
     refine{tv,a,g,i,i.toNat,_,O,O,j,∅,∅,(zJx (by unfold ixN;rw[mP aj,mP ∅])).1,mQ ∅, ?_};refine iN (by show¬(A8 "take" =_);rw[n5];exact id) ?_;let r1:=zAs (H1:=H) (a:=a) (o:=.lst (g.eraseIdx i.toNat)) hs na m (Same.refl _);refine q (by rw[hc,mQ ∅];rfl) _ (Keep.refl.put _ mD) {a,_,O,by rw[wZ (e a mD)];exact zC, ?_};rw[List.eraseIdx_eq_take_drop_succ] at r1⊢;exact Reps.append (Reps.drop _ r1) (Reps.take _ r1)
 |tup d=>exact hf.elim|non=>exact l (by cases L<;>rfl) (by simp only[tyT];decide+kernel) (by simp only[tyT];decide+kernel)|bl _=>exact l (by cases L<;>rfl) (by simp only[tyT];decide+kernel) (by simp only[tyT];decide+kernel)|int _=>exact l (by cases L<;>rfl) (by simp only[tyT];decide+kernel) (by simp only[tyT];decide+kernel)|str _=>exact l (by cases L<;>rfl) (by simp only[tyT];decide+kernel) (by simp only[tyT];decide+kernel)
abbrev sDo:V6:=top 70
def yDm(H:Hp)(d:V1)(c:Wd)(ks:B8)(u:T):Prop:=∃a r b,H d=Y (.tup (.str c.s:: .ref a::r))/\H a=Y (.lst (ks.map kV))/\(.str c.s:: .ref a::r:B3).getLast? =Y b/\r...*<=1/\Rep H b u
structure yEo(ks:B8)(u:T):Prop where
 l:ks...*<=100
 s:∀k∈ks,okK k
 f:T.few u
 d:T.dep u<20
theorem kP{w:Wd}{n:T}{k:Key}{ks:B8}{t:T}(h:ks≠ []):doT w n (k::ks) t=match zV t k with
  |some s=>(doT w n ks s).map λr=>yP .put t k r|none=>none:=by
 cases ks with|nil=>exact absurd O h|cons a ks=>rfl
def yGs:Sp:=λe H Q _=>∃(v:V)(d:V1)(c:Wd)(b:B8)(t u:T),e= [v, .ref d]/\Rep H v t/\T.few t/\T.dep t<20/\T.sz t<=100000/\yDm H d c b u/\yEo b u/\(∀r,doT c u b t=Y r->∀l x a,Same H a->a l=Y (.lst [.bl true,x])->Rep (zAk H a) x r->Q (.ref l) a)/\(doT c u b t=none->∀l x a,Same H a->a l=Y (.lst [.bl false,x])->Q (.ref l) a)
theorem ok_do{k:Nat}(F:Fun K "_law_deed_on" "_law_deed_on" sDo f fd)(B:Bl mg)(n:Dn P w K mg base k "_law_held" ["_law_thing"] (zGt 20))(I:Dn P w K mg base k "_law_put_in" ["_law_thing","_law_word","_law_step","_law_new"] spPi):FnOk P w K mg base CX0 (k+1) f fd ["_law_thing","_law_deed_here"] yGs:=by
 refine F.okn (N:=["_law_thing","_law_deed_here","_law_new","_law_whole","_law_there_here","_law_step"]) λbg A bb s H vs Q E nd hr h=>?_;obtain⟨v,d,wd,ks,t,u,rfl,hv,hf,hd,hz,⟨pd,r,vn,ba,ao,ae,aw,ap⟩,hI,q,qn⟩:=h;let hu:=wY hr;let a8:=hr.units0;refine{_,(zD (pS 2 nd (pX vP (pv 1) (wO xO zE)))
  (zD (zT (pT (zQi a8) (pX vP (pv 1) zE) (zZ zB)) (zG (zI (zZ (zA (pE xN (pX vP (pv 1) zE) zL) (zA (pD n hr (zA (pv 2) zB)) zB))))) zK)
  (zD (pS 3 nd (pD n hr (zA (pv 0) zB)))
  (zD (pS 4 nd (pv 3))
  (zD (vX PassesOwn.never O (xG (kA uS (pX vP (pv 1) zE) gO (gP (wO xO zE)))) (yG (i:=5) nd O (nO O)) (zG (zT (i6 (vH (yD (pI B.isinstance zH B.dict xJ (pv 4))) (vH (yD (pI B.isinstance zH B.str jJ (pv 5))) (qH (gR (zEe hu (pv 5) (pv 4))))))) (zG (pS 4 nd (jR hu (pv 4) (pv 5) (λ_ _=>O)))) (zG (zT (i6 (vH (yD (pI B.isinstance zH B.list yQ (pv 4))) (vH (xL (yD (pI B.isinstance zH B.str jJ (pv 5)))) (qH (pT jU (pv 5) (zN yE O B.len yS (zA (pv 4) zB))))))) (zG (pS 4 nd (pX zP (pv 4) (pv 5)))) (zG (zI (zZ (zA vE (zA uU zB))))))))))
  (zG (zI (zZ (zA (pD I hr (zA (pv 4) (zA (pX vP (pv 1) zE) (zA (pX zP (pX vP (pv 1) zE) (wO xO zE)) (zA (pv 2) zB))))) (zA (pv 3) zB)))))))))), ?_}
 walk_at "st";lk;let M:∀{H':Hp},Same H H'->SqT K H' d (.str wd.s:: .ref pd::r):=λg=>SqT.of (g _ _ ba);let bd:atI (.str wd.s:: .ref pd::r:B3) (-1)=Y vn:=by
  rcases r with _ |⟨y,_ |⟨z,r⟩⟩
  ·simpa [atI,ixN] using ae
  ·simpa [atI,ixN] using ae
  ·exact absurd aw (by simp)
 let au:=Same.refl H;refine wR (M au) bd (wR (M au) (zQ (j:=1) O) λp hp=>?_);let s1:=zF hp (.lst []);refine{pd,p,ks.map kV,O,O,SqL.of (s1 _ _ ao),SqL.of zC,_,O, ?_};generalize upd H p (.lst [])=H1 at s1⊢
 by_cases aj:ks= []
 ·subst aj
  refine iP O (wR (M s1) (zQ (j:=0) O) {O,vn,u,O,Rep.same s1 _ _ ap,hI.f,hI.d,λx H2 D2 g2 ah am l hl=>?_});let s3:=zF hl (.lst [V.bl (decide (V.str wd.s=V.str (A8 "put"))),x]);let a0:=Sp1.new (ah.same s3) λb hb=>zW s1 (am b hb)
  cases wd with|put=>exact q u O l x _ (s1.trans (g2.trans s3)) (by rw[zC,nF (show V.str (Wd.put).s=V.str (A8 "put") from O)]) a0|ins=>exact qn O l x _ (s1.trans (g2.trans s3)) (by rw[zC,nJ (show¬V.str (Wd.ins).s=V.str (A8 "put") from λz=>absurd (V.str.inj z) (by decide+kernel))])|tak=>exact qn O l x _ (s1.trans (g2.trans s3)) (by rw[zC,nJ (show¬V.str (Wd.tak).s=V.str (A8 "put") from λz=>absurd (V.str.inj z) (by decide+kernel))])
 ·refine iN (by cases ks<;>simp_all) {v,t,O,Rep.same s1 _ _ hv,hf,hd,λx H2 D2 g2 ah am=>?_}
  let an:=s1.trans g2;refine wR (M an) (zQ (j:=1) O) {pd,_,O,SqL.of (an _ _ ao),λpc a2=>{pc,O,{_,SqL.of zC}, ?_}};rw[zLq];obtain⟨m,L,rfl⟩:∃m L,ks=m++ [L]:={ks.dropLast,ks.getLast aj,(aR aj).symm};let ek:List.take (((m++ [L]).map kV)...* - 1) ((m++ [L]).map kV)=m.map kV:=by
   rw[nI,mM,mN];exact cK (by simp)
  rw[ek] at*;let s3:=zF a2 (.lst (m.map kV));let e3:=zC (H:=H2) (a:=pc) (o:=.lst (m.map kV));generalize upd H2 pc (.lst (m.map kV))=H3 at s3 e3⊢;let J:=an.trans s3;let C0:Cx2 H H3 x (λr=>r) x t D2:=Cx2.refl (ah.same s3) (λb hb=>zW s1 (am b hb)) hf;let aa:doT wd u (m++ [L]) t=none->∀(l:V1),H3 l=none->Q (V.ref l) (upd H3 l (.lst [V.bl false,V.non])):=λhn l hl=>qn hn l .non _ (J.trans (zF hl _)) zC;refine jN (K:=K) (a:=pc) (xs:=m.map kV) (λi σ H'=>H'=H3/\∃(y:V)(s:T)(D:B9)(up:T->T)(o:Option V),σ= [Y v,Y (V.ref d),Y vn,Y x,Y y,o]/\Cx2 H H3 x up y s D/\T.sz s<=100000/\doT wd u (m++ [L]) t=(doT wd u (m.drop i++ [L]) s).map up) {O,_,_,_,_,_,O,C0,hz,by simp} (λi σ H' _ h=>by rw[h.1];exact SqL.of e3) ?_ ?_
  ·rintro i kv σ H' aq ⟨rfl,y,s,D,up,o,rfl,C,ag,c⟩
   rw[nH] at aq;refine oEA (rL.mp aq) λk hk a7=>?_;subst a7;let bc:=hI.s k (nQ _ (mO hk));let a3:m.drop i++ [L]=k::(m.drop (i+1)++ [L]):=by
    obtain⟨a1,e⟩:=mJ.mp hk;rw[nU a1,e];rfl
   rw[a3,kP (by simp)] at c;let af:=(Sp1.rep _ _ _ C.sp).ty;unfold zUw zHa;lk;refine nEA _ af ?_
   cases s with
   |dic hs us=>
    refine iP (by simp only[tyT];decide+kernel) ?_
    cases k with
    |inl i=>exact{"int",O,iN ∎ {_,af,iN (by simp only[tyT];decide+kernel) (aa c)}}|inr z=>
     refine nEA ("str") O (iP ∎ ?_);let ex:(Sum.inr z:Key)=nK (ts z):=by show(Sum.inr z:Key)=Sum.inr (tx (ts z));rw[qJ]
     refine zU (C.sp) λa ps D1 al ha z_=>?_;ext xA z_ a5 _ _ _;subst al;let ac:zV (.dic hs us) (.inr z)=if ts z∈hs then Y (yH (ts z) hs us) else none:=rfl;rw[ac] at c
     by_cases hz:ts z∈hs
     ·refine zU (C.rcd hz) λav y' D' ab be z_=>?_
      ext oA z_ ak C';rw[<-ex] at ak;rw[mP hz] at c;let a4:=C.few;let a6:=c7 (xK hz a4.2.2.1);let az:T.szs us+1<=100000:=ag;exact qR a O _ (.inl {av,Sum.inr z, .inl ab,O,ak.symm}) (iP O {a,O,_, .inl {av,Sum.inr z, .inl ab,O,ak.symm},y',⟨O,_,O⟩,_,_,_,C',∅,by rw[c,Option.map_map];rfl})
     ·rw[mI hz] at c
      exact qR a O none (by let:=zFq a5 ha hz;rw[qJ] at this;exact this) (iN ∎ {_,af,iN (by simp only[tyT];decide+kernel) (aa c)})
   |lst us=>
    refine iN (by simp only[tyT];decide+kernel) {_,af,iP (by simp only[tyT];decide+kernel) ?_}
    cases k with
    |inr z=>exact{"str",O,iN ∎ (aa c)}|inl i=>
     let a':0<=i:=bc.1;refine nEA ("int") O (iP ∎ ?_);refine zU (C.sp) λa xs D1 al ha z_=>?_;ext oAA z_ _ _ hs;subst al;let hl:=hs...*;refine kB a O xs (SqL.of ha) i (nA O ?_)
     by_cases hi:i<(xs...*:Int)
     ·obtain⟨w0,ai⟩:∃w0,us[i.toNat]? =Y w0:={us[i.toNat]'∅,mQ _}
      refine zU (C.row a' ai) λbh y' D' ab bf z_=>?_;ext oA z_ ay C';let ac:zV (.lst us) (.inl i)=us[i.toNat]?:=rfl;rw[ac,ai] at c;let a6:=c7 (mO ai);let az:T.szs us+1<=100000:=ag;rw[ha] at ab;cases ab;let ey:atI xs i=Y y':=by rw[show i=((i.toNat:Nat):Int) by lia];exact zQ ay
      exact iP hi (zY (SqL.of ha) ey {O,y',⟨O,_,O⟩,_,_,_,C',∅,by rw[c,Option.map_map];rfl})
     ·let ac:zV (.lst us) (.inl i)=us[i.toNat]?:=rfl
      rw[ac,sM ∅] at c;exact iN hi (aa c)
   |tup _=>exact C.few.elim|_=>exact iN (by simp only[tyT];decide+kernel) {_,af,iN (by simp only[tyT];decide+kernel) (aa c)}
  ·rintro σ H' ⟨rfl,y,s,D,up,o,rfl,C,ag,c⟩
   let ar:=hI.s L (mX _ mD);rw[mN,tF] at c;let ax:doT wd u ([]++ [L]) s=if xZ wd s L=true then Y (yP wd s L u) else none:=rfl;rw[ax] at c;lk;let el:atI ((m++ [L]).map kV) (-1)=Y (kV L):=by
    rw[nI];exact xY _ _
   refine wR (M J) (zQ (j:=0) O) (wR (M J) (zQ (j:=1) O) (zY (SqL.of (J _ _ ao)) el ?_));refine{H,y,vn,wd,L,s,u,D,O,J,C.sp,C.new,C.few,ar,Rep.same J _ _ ap,hI.f,hI.d,ag,λhc H4 hk a9 l hl=>?_,λhc l hl=>?_}
   ·rw[mP hc] at c
    let s5:=zF hl (.lst [V.bl true,x]);exact q _ c l x _ ((hk.old J C.new).trans s5) zC (Rep.same (zSy s5) _ _ (C.cls H4 _ a9 hk))
   ·rw[mI (by rw[hc];decide)] at c
    exact qn c l x _ (J.trans (zF hl _)) zC
theorem yHk{us:B0}:us...*<=T.szs us:=d5 us
theorem zSw{m:Nat}{a b:B0}(h:i3 m b)(s:∀t∈a,t∈b):i3 m a:=d7 λt c=>c8 h (s t c)
theorem zSb{us:B0}{i j:Nat}(h:i<=j):T.szs (us.take i)+T.szs (us.drop j)<=T.szs us:=by
 let e:us=us.take i++us.drop i:=(aS i us).symm;let c:T.szs us=T.szs (us.take i)+T.szs (us.drop i):=by conv=>lhs;rw[e,d9]
 let a:us.drop i=(us.drop i).take (j - i)++us.drop j:=by
  let:=(aS (j - i) (us.drop i)).symm;rw[List.drop_drop,show i+(j - i)=j by lia] at this;exact this
 let b:T.szs (us.drop i)=T.szs ((us.drop i).take (j - i))+T.szs (us.drop j):=by conv=>lhs;rw[a,d9]
 lia
theorem zVe{a b:B0}{d:Nat}(h:T.deps b<=d)(s:∀t∈a,t∈b):T.deps a<=d:=d8 λt c=>nW (b7 (s t c)) h
theorem yHp{m:Nat}{us:B0}{n:T}{i j:Nat}(b:i<=j)(e:T.fewm m (.lst us))(g:T.fewm m n)(hz:T.sz (.lst us)<=50000):
  T.fewm m (.lst (us.take i++n::us.drop j))/\T.dep (.lst (us.take i++n::us.drop j))<=max (T.dep (.lst us)) (T.dep n+1)/\T.sz (.lst (us.take i++n::us.drop j))<=T.sz (.lst us)+T.sz n:=by
 let d:T.szs us+1<=50000:=hz;let h:=yHk (us:=us);let k:=zSb (us:=us) b;let c:∀t∈us.take i++n::us.drop j,t∈us\/t=n:=λt a=>by
  rcases nB.mp a with z | z
  ·exact .inl (tP z)
  ·rcases mF.mp z with z | z
   ·exact .inr z
   ·exact .inl (aZ z)
 refine nAA {?_,d7 λt a=>?_} ?_ ?_
 ·rw[mM,mW,nZ,rD];lia
 ·rcases c t a with z | z
  ·exact c8 e.2 z
  ·rw[z];exact g
 ·show T.deps (us.take i++n::us.drop j)+1<=max (T.deps us+1) (T.dep n+1)
  let:T.deps (us.take i++n::us.drop j)<=max (T.deps us) (T.dep n):=d8 λt a=>by
   rcases c t a with z | z
   ·let:=b7 z;lia
   ·rw[z];lia
  lia
 ·show T.szs (us.take i++n::us.drop j)+1<=T.szs us+1+T.sz n
  rw[d9];show T.szs (us.take i)+(T.sz n+T.szs (us.drop j))+1<=_
  lia
theorem zYw{m:Nat}{ks a:C6}{us vs:B0}{n:T}(j:T.fewm m (.dic ks us))(k:T.fewm m n)(h:a.Nodup)(g:a...*=vs...*)(c:vs...*<=us...*+1)(d:∀t∈vs,t∈us\/t=n)(hz:T.szs vs<=T.szs us+T.sz n):
  T.fewm (m+1) (.dic a vs)/\T.dep (.dic a vs)<=max (T.dep (.dic ks us)) (T.dep n+1)/\T.sz (.dic a vs)<=T.sz (.dic ks us)+T.sz n:=by
 ext xA j o l i e;refine nAA {h,∅,g,d7 λt b=>?_} ?_ ?_
 ·rcases d t b with z | z
  ·exact b8 (pP m) _ (c8 e z)
  ·rw[z];exact b8 (pP m) _ k
 ·show T.deps vs+1<=max (T.deps us+1) (T.dep n+1)
  let:T.deps vs<=max (T.deps us) (T.dep n):=d8 λt b=>by
   rcases d t b with z | z
   ·let:=b7 z;lia
   ·rw[z];lia
  lia
 ·show T.szs vs+1<=T.szs us+1+T.sz n
  lia
theorem uX{m:Nat}{t n:T}(a:T.fewm m t):T.fewm (m+1) t/\T.dep t<=max (T.dep t) (T.dep n+1)/\T.sz t<=T.sz t+T.sz n:={b8 (pP m) _ a,dP _ _,dH _ _}
theorem zRp{m:Nat}{us:B0}{n:T}{i j:Nat}(a:i<=j)(b:T.fewm m (.lst us))(g:T.fewm m n)(hz:T.sz (.lst us)<=50000):
  T.fewm (m+1) (.lst (us.take i++n::us.drop j))/\T.dep (.lst (us.take i++n::us.drop j))<=max (T.dep (.lst us)) (T.dep n+1)/\T.sz (.lst (us.take i++n::us.drop j))<=T.sz (.lst us)+T.sz n:=by
 obtain⟨e,c,d⟩:=yHp a b g hz;exact nAA (b8 (pP m) _ e) c d
theorem yAk{m:Nat}{us:B0}{n:T}{i:Nat}(a:T.fewm m (.lst us)):
  T.fewm (m+1) (.lst (us.take i++us.drop (i+1)))/\T.dep (.lst (us.take i++us.drop (i+1)))<=max (T.dep (.lst us)) (T.dep n+1)/\T.sz (.lst (us.take i++us.drop (i+1)))<=T.sz (.lst us)+T.sz n:=by
 let d:=zSb (us:=us) (i:=i) (j:=i+1) ∅;let b:∀t∈us.take i++us.drop (i+1),t∈us:=λt c=>(nB.mp c).elim tP aZ;refine nAA {?_,i7 (pP m) _ (zSw a.2 b)} ?_ ?_
 ·let:=a.1
  rw[mM,nZ,rD];lia
 ·show T.deps (us.take i++us.drop (i+1))+1<=max (T.deps us+1) (T.dep n+1)
  let:=zVe (mE (T.deps us)) b
  lia
 ·show T.szs (us.take i++us.drop (i+1))+1<=T.szs us+1+T.sz n
  rw[d9];lia
theorem zYn{m:Nat}{ks:C6}{us:B0}{n:T}{x:List Nat}(a:T.fewm m (.dic ks us))(d:T.fewm m n):
  T.fewm (m+1) (.dic (xV x ks) (xE x ks us))/\T.dep (.dic (xV x ks) (xE x ks us))<=max (T.dep (.dic ks us)) (T.dep n+1)/\T.sz (.dic (xV x ks) (xE x ks us))<=T.sz (.dic ks us)+T.sz n:=by
 obtain⟨c,e⟩:=zGk (n:=x) a.2.2.1;let:=zEj (n:=x) (ks:=ks) (us:=us);exact zYw a d (jV a.1) c ∅ (λt b=>.inl (zBf b)) ∅
theorem zVp{m:Nat}{w:Wd}{t n:T}{k:Key}(a:T.fewm m t)(c:T.fewm m n)(hz:T.sz t<=50000):T.fewm (m+1) (yP w t k n)/\T.dep (yP w t k n)<=max (T.dep t) (T.dep n+1)/\T.sz (yP w t k n)<=T.sz t+T.sz n:=by
 cases t with
 |dic e d=>
  cases k with
  |inr x=>
   cases w with
   |put=>
    obtain⟨j,l⟩:=uI (ks:=e) (us:=d) (n:=ts x) (t:=n) a.2.2.1;let:=zEj (n:=ts x) (ks:=e) (us:=d);let h:=zNc (n:=ts x) (t:=n) a.1 a.2.2.1;exact zYw a c (gD a.1) j l (λt g=>zCn g) ∅
   |ins=>exact uX a|tak=>exact zYn a c
  |inl i=>cases w<;>exact uX a
 |lst d=>
  cases k with
  |inl i=>
   cases w with|put=>exact zRp (pP _) a c hz|ins=>exact zRp (mE _) a c hz|tak=>exact yAk a
  |inr x=>cases w<;>exact uX a
 |tup d=>exact a.elim|non=>cases w<;>exact uX a|bl b=>cases w<;>exact uX a|int b=>cases w<;>exact uX a|str b=>cases w<;>exact uX a
theorem zCw:∀(t:T)(ks:B8),1<=(goT t ks)...*/\(goT t ks)...*<=ks...*+1
 |t,[]=>{mE _,mE _}|t,k::ks=>by
  show 1<=(match zV t k with | none=>[t] | some u=>t::goT u ks)...*/\(match zV t k with | none=>[t] | some u=>t::goT u ks)...*<=ks...*+1+1
  cases zV t k with
  |none=>exact{mE _,by show 1<=_;lia}|some u=>
   let:=zCw u ks;exact{by show 1<=(goT u ks)...*+1;lia,by show(goT u ks)...*+1<=_;lia}
theorem zRd{r:T}:∀{us:B0}{i:Nat}{u:T},us[i]? =Y u->T.szs (us.set i r)+T.sz u=T.szs us+T.sz r
 |[],_,_,h=>by simp at h|v::us,0,u,h=>by
  let e:v=u:=by simpa using h
  subst e;show T.sz r+T.szs us+T.sz v=T.sz v+T.szs us+T.sz r
  lia
 |v::us,i+1,u,h=>by
  let a:=zRd (r:=r) (us:=us) (i:=i) (u:=u) (by simpa using h);show T.sz v+T.szs (us.set i r)+T.sz u=T.sz v+T.szs us+T.sz r
  lia
theorem zLe{n:List Nat}{r:T}:∀{ks:C6}{us:B0},ks.Nodup->ks...*=us...*->n∈ks->T.szs (yR n r ks us)+T.sz (yH n ks us)=T.szs us+T.sz r
 |[],_,_,_,h=>nomatch h|_::_,[],_,h,_=>by simp at h|k::ks,u::us,c,g,h=>by
  rw[nX] at c;show T.szs ((if k=n then r else u)::yR n r ks us)+T.sz (if k=n then u else yH n ks us)=T.sz u+T.szs us+T.sz r
  by_cases e:k=n
  ·rw[mP e,mP e]
   let l:yR n r ks us=us:=by
    let z:=zNc (n:=n) (t:=r) c.2 (by simpa using g) (us:=us);let d:n∉ks:=by rw[<-e];exact c.1
    let:∀(ks:C6)(us:B0),n∉ks->yR n r ks us=us:=by
     intro ks
     induction ks with
     |nil=>intro us _;unfold yR;rfl|cons a ks i=>
      intro us d
      cases us with
      |nil=>rfl|cons b us=>
       show(if a=n then r else b)::yR n r ks us=b::us;rw[mI (λz=>d (by rw[z];exact mD)),i us λz=>d (mG _ z)]
    exact this ks us d
   rw[l];show T.sz r+T.szs us+T.sz u=_
   lia
  ·rw[mI e,mI e]
   let j:n∈ks:=by
    rcases mF.mp h with z | z
    ·exact absurd z.symm e
    ·exact z
   let i:=zLe (r:=r) c.2 (by simpa using g) j (us:=us);show T.sz u+T.szs (yR n r ks us)+T.sz (yH n ks us)=_
   lia
theorem gU{t u:T}{k:Key}(a:zV t k=Y u):(∃us i,t= .lst us/\k= .inl i/\us[i.toNat]? =Y u/\∀r,yP .put t k r= .lst (us.set i.toNat r))\/(∃ks us x,t= .dic ks us/\k= .inr x/\ts x∈ks/\u=yH (ts x) ks us/\∀r,yP .put t k r= .dic ks (yR (ts x) r ks us)):=by
 cases t with
 |lst us=>
  cases k with
  |inl i=>
   let h:us[i.toNat]? =Y u:=a;refine .inl {us,i,O,O,h,λr=>?_};show T.lst (us.take i.toNat++r::us.drop (i.toNat+1))=_;let g:=(mJ.mp h).1;rw[bV,mP g]
  |inr x=>cases a
 |dic ks us=>
  cases k with
  |inl i=>cases a|inr x=>
   let d:(if ts x∈ks then Y (yH (ts x) ks us) else none)=Y u:=a
   by_cases c:ts x∈ks
   ·rw[mP c] at d
    refine .inr {ks,us,x,O,O,c,(mU d).symm,λr=>?_};let e:yY (ks,us) (ts x) r=(ks,yR (ts x) r ks us):=mP c;show T.dic (yY (ks,us) (ts x) r).1 (yY (ks,us) (ts x) r).2=_;rw[e]
   ·rw[mI c] at d;cases d
 |non=>cases a|bl b=>cases a|int b=>cases a|str b=>cases a|tup us=>cases a
theorem yFp{m:Nat}{t u r:T}{k:Key}(b:T.fewm m t)(d:zV t k=Y u):T.sz (yP .put t k r)+T.sz u=T.sz t+T.sz r:=by
 rcases gU d with⟨a,i,rfl,rfl,h,e⟩|⟨g,a,x,rfl,rfl,c,rfl,e⟩
 ·rw[e]
  let:=zRd (r:=r) h;show T.szs _+1+_=T.szs a+1+_
  lia
 ·rw[e]
  let:=zLe (r:=r) b.1 b.2.2.1 c;show T.szs _+1+_=T.szs a+1+_
  lia
theorem yEu{m:Nat}{t u r:T}{k:Key}(d:T.fewm m t)(l:zV t k=Y u)(g:T.fewm m r):T.fewm m (yP .put t k r)/\T.dep (yP .put t k r)<=max (T.dep t) (T.dep r+1):=by
 rcases gU l with⟨b,i,rfl,rfl,h,e⟩|⟨j,b,x,rfl,rfl,n,rfl,e⟩
 ·rw[e]
  let c:∀t∈b.set i.toNat r,t∈b\/t=r:=λt a=>List.mem_or_eq_of_mem_set a;refine{{by rw[aD];exact d.1,d7 λt a=>?_}, ?_}
  ·rcases c t a with z | z
   ·exact c8 d.2 z
   ·rw[z];exact g
  ·show T.deps _+1<=max (T.deps b+1) (T.dep r+1)
   let:T.deps (b.set i.toNat r)<=max (T.deps b) (T.dep r):=d8 λt a=>by
    rcases c t a with z | z
    ·let:=b7 z;lia
    ·rw[z];lia
   lia
 ·rw[e]
  refine{{d.1,d.2.1,by rw[gZ];exact d.2.2.1,d7 λt a=>?_}, ?_}
  ·rcases zBn _ _ _ _ _ a with z | z
   ·exact c8 d.2.2.2 z
   ·rw[z];exact g
  ·show T.deps _+1<=max (T.deps b+1) (T.dep r+1)
   let:T.deps (yR (ts x) r j b)<=max (T.deps b) (T.dep r):=d8 λt a=>by
    rcases zBn _ _ _ _ _ a with z | z
    ·let:=b7 z;lia
    ·rw[z];lia
   lia
theorem zJb{m:Nat}{t u:T}{k:Key}(c:T.fewm m t)(g:zV t k=Y u):T.fewm m u/\T.dep u+1<=T.dep t/\T.sz u<=T.sz t:=by
 rcases gU g with⟨b,i,rfl,rfl,h,e⟩|⟨j,b,x,rfl,rfl,d,rfl,e⟩
 ·let a:=mO h
  let:=b7 a;let:=c7 a;exact nAA (c8 c.2 a) (show _<=T.deps b+1 by lia) (show _<=T.szs b+1 by lia)
 ·let a:=xK d c.2.2.1
  let:=b7 a;let:=c7 a;exact nAA (c8 c.2.2.2 a) (show _<=T.deps b+1 by lia) (show _<=T.szs b+1 by lia)
theorem zLa:∀(ks:B8)(t:T)(i:Nat),i+1<(goT t ks)...*->∃k u v,ks[i]? =Y k/\(goT t ks)[i]? =Y u/\(goT t ks)[i+1]? =Y v/\zV u k=Y v
 |[],t,i,h=>by
  let n:i+1<1:=h
  lia
 |k::ks,t,i,h=>by
  let e:goT t (k::ks)=(match zV t k with | none=>[t] | some u=>t::goT u ks):=rfl
  cases g:zV t k with
  |none=>
   rw[g] at e;rw[e] at h;let n:i+1<1:=h
   lia
  |some u=>
   rw[g] at e;let s:goT t (k::ks)=t::goT u ks:=e;rw[s] at h⊢
   cases i with
   |zero=>
    let y:=(zCw u ks).1;obtain⟨v,a⟩:∃v,(goT u ks)[0]? =Y v:={(goT u ks)[0],by simp};let c:v=u:=by
     cases ks with
     |nil=>let:(goT u [])[0]? =Y u:=rfl;rw[this] at a;exact(mU a).symm|cons j ks=>
      let:goT u (j::ks)=(match zV u j with | none=>[u] | some d=>u::goT d ks):=rfl
      rw[this] at a
      cases b:zV u j with|none=>rw[b] at a;exact(mU a).symm|some _=>rw[b] at a;exact(mU a).symm
    refine qX k t u O O (nA ?_ g);show(goT u ks)[0]? =Y u;rw[a,c]
   |succ i=>
    refine zU (zLa ks u i (by simpa using h)) λl d m r x q=>?_;ext oA q p o;exact qX l d m (by simpa using r) (by simpa using x) (nA (by simpa using p) o)
theorem zFy{m:Nat}:∀(ks:B8)(t:T)(i:Nat)(u:T),T.fewm m t->(goT t ks)[i]? =Y u->T.fewm m u/\T.dep u+i<=T.dep t/\T.sz u<=T.sz t
 |[],t,i,u,a,h=>by
  let d: [t][i]? =Y u:=h
  cases i with|zero=>rw[<-mU d];exact{a,mE _,mE _}|succ i=>cases d
 |k::ks,t,i,u,a,h=>by
  let e:goT t (k::ks)=(match zV t k with | none=>[t] | some u=>t::goT u ks):=rfl
  cases b:zV t k with
  |none=>
   rw[b] at e;let c:goT t (k::ks)= [t]:=e;rw[c] at h
   cases i with|zero=>rw[<-mU h];exact{a,mE _,mE _}|succ i=>cases h
  |some v=>
   rw[b] at e;let c:goT t (k::ks)=t::goT v ks:=e;rw[c] at h
   cases i with
   |zero=>rw[<-mU h];exact{a,mE _,mE _}|succ i=>
    obtain⟨g,p,o⟩:=zJb a b;obtain⟨j,l,n⟩:=zFy ks v i u g (by simpa using h);exact nAA j ∅ ∅
def okS:Key->Prop
 |.inl i=>0<=i/\i<=59|.inr s=>xF (ts s)=true
theorem okS.k{k:Key}(h:okS k):okK k:=by
 cases k with|inl i=>exact h|inr s=>exact mK
theorem putT_in{ks:C6}{us:B0}{n k:List Nat}{t:T}:k∈(yY (ks,us) n t).1↔k∈ks\/k=n:=by
 unfold yY;split
 ·rename_i h
  exact{.inl,λz=>z.elim id λe=>by rw[e];exact h}
 ·show k∈ks++ [n]↔_
  rw[nB,mH]
theorem zVg{us:B0}{n:T}{i j:Nat}(a:k6 us)(c:T.gk n):k6 (us.take i++n::us.drop j):=j4 λu b=>by
 rcases nB.mp b with z | z
 ·exact d6 a (tP z)
 ·rcases mF.mp z with z | z
  ·rw[z];exact c
  ·exact d6 a (aZ z)
theorem zRa{w:Wd}{t n:T}{k:Key}(d:T.gk t)(h:T.gk n)(l:okS k):T.gk (yP w t k n):=by
 cases t with
 |lst g=>
  let a:k6 g:=d
  cases k with
  |inr s=>cases w<;>exact a|inl i=>
   cases w with|put=>exact zVg a h|ins=>exact zVg a h|tak=>exact j4 λu c=>(nB.mp c).elim (λz=>d6 a (tP z)) λz=>d6 a (aZ z)
 |dic j g=>
  let a:(∀k∈j,xF k=true)/\k6 g:=d
  cases k with
  |inl i=>cases w<;>exact a|inr s=>
   cases w with|put=>exact{λk b=>(putT_in.mp b).elim (a.1 k) λe=>by rw[e];exact l,j4 λu c=>(zCn c).elim (d6 a.2) λe=>by rw[e];exact h}|ins=>exact a|tak=>exact{λk b=>a.1 k (dropN_mem.mp b).1,j4 λu c=>d6 a.2 (zBf c)}
 |tup g=>exact d.elim|_=>cases k<;>cases w<;>exact d
theorem zRf{t u:T}{k:Key}(d:T.few t)(a:T.gk t)(c:zV t k=Y u):T.gk u:=by
 rcases gU c with⟨e,i,rfl,_,h,_⟩|⟨g,e,x,rfl,_,b,rfl,_⟩
 ·exact d6 a (mO h)
 ·exact d6 a.2 (xK b d.2.2.1)
theorem zFd{m:Nat}{w:Wd}{n:T}(H:m<63)(l:T.fewm m n)(i:T.gk n):∀(ks:B8)(t r:T),doT w n ks t=Y r->T.fewm m t->T.gk t->(∀k∈ks,okS k)->T.sz t<=50000->T.fewm (m+1) r/\T.gk r/\T.dep r<=max (T.dep t) (ks...*+T.dep n)/\T.sz r<=T.sz t+T.sz n
 |[],t,r,h,a,c,_,_=>by
  cases w with
  |put=>
   let e:n=r:=mU h;subst e;exact zZc (b8 (pP m) _ l) i (by show T.dep n<=max (T.dep t) (0+T.dep n);lia) ∅
  |ins=>cases h|tak=>cases h
 |[k],t,r,h,a,c,g,p=>by
  let d:(if xZ w t k=true then Y (yP w t k n) else none)=Y r:=h
  by_cases u:xZ w t k=true
  ·rw[mP u] at d
   let e:=mU d;subst e;obtain⟨x,L,A⟩:=zVp (w:=w) (k:=k) a l p;exact zZc x (zRa c i (g k mD)) (by show _<=max (T.dep t) (1+T.dep n);lia) A
  ·rw[mI u] at d;cases d
 |k::v::ks,t,r,h,a,c,g,p=>by
  rw[kP (by simp)] at h
  cases b:zV t k with
  |none=>rw[b] at h;cases h|some s=>
   rw[b] at h;obtain⟨o,j,e⟩:=rL.mp h;subst e;obtain⟨y,M,Q⟩:=zJb a b;refine xA (zFd H l i (v::ks) s o j y (zRf (c6 ∅ _ a) c b) (λq E=>g q (mG _ E)) ∅) λB z D b4=>?_;obtain⟨I,N⟩:=yEu (b8 (pP m) _ a) b B;let J:=yFp (r:=o) a b;refine zZc I (zRa c z (g k mD)) ?_ ∅;rw[mW] at D⊢;rw[mW];let:1<=T.dep t:=by lia
   lia
theorem zJu{n a:T}:∀(ks:B8)(t:T),doT .tak n ks t=doT .tak a ks t
 |[],_=>rfl|[k],t=>by
  show(if xZ .tak t k=true then Y (yP .tak t k n) else none)=if xZ .tak t k=true then Y (yP .tak t k a) else none;let e:yP .tak t k n=yP .tak t k a:=by cases t<;>cases k<;>rfl
  rw[e]
 |k::b::ks,t=>by
  rw[kP (by simp),kP (by simp)]
  cases zV t k with|none=>rfl|some s=>dsimp only;rw[zJu (b::ks) s]
abbrev Dd:=Wd×List Key×T
noncomputable def kJ:List Dd->T->Option T
 |[],t=>Y t|d::a,t=>(doT d.1 d.2.2 d.2.1 t).bind (kJ a)
abbrev _root_.C4:=List Dd
theorem zPx:∀(a b:C4)(t:T),kJ (a++b) t=(kJ a t).bind (kJ b)
 |[],b,t=>rfl|d::a,b,t=>by
  show(doT d.1 d.2.2 d.2.1 t).bind (kJ (a++b))=((doT d.1 d.2.2 d.2.1 t).bind (kJ a)).bind (kJ b)
  cases doT d.1 d.2.2 d.2.1 t with|none=>rfl|some r=>exact zPx a b r
theorem zEu{d:Dd}{ds:C4}{t r:T}(h:doT d.1 d.2.2 d.2.1 t=Y r):kJ (d::ds) t=kJ ds r:=by
 show(doT d.1 d.2.2 d.2.1 t).bind (kJ ds)=_;rw[h];rfl
theorem zVh{ds:C4}{d:Dd}{t r:T}(h:kJ ds t=Y r):kJ (ds++ [d]) t=doT d.1 d.2.2 d.2.1 r:=by
 rw[zPx,h];show(doT d.1 d.2.2 d.2.1 r).bind (kJ [])=_;cases doT d.1 d.2.2 d.2.1 r<;>rfl
theorem yFb:∀t:T,1<=T.sz t
 |.lst a=>by show 1<=T.szs a+1;lia|.dic _ a=>by show 1<=T.szs a+1;lia|.tup a=>by show 1<=T.szs a+1;lia|.non=>mE _|.bl _=>mE _|.int _=>mE _|.str _=>mE _
noncomputable def zEn:V->Bool
 |.str x=>xF (ts x)|_=>false
def zPh:Sp:=λb H Q _=>∃(v:V)(t:String),b= [v]/\tyS H v=Y t/\(∀x,v= .str x->x...*<=1000)/\∀a,Same H a->Q (.bl (zEn v)) a
theorem yBn{H:Hp}{v:V}{t:String}(a:tyS H v=Y t)(h:yC t "str" =false):zEn v=false:=by
 cases v with|str x=>cases a;exact absurd h ∎|_=>rfl
theorem yIs{H:Hp}{v:V}{t:String}(c:tyS H v=Y t)(h:¬yC t "str" =false):∃x,v= .str x:=by
 cases v with
 |str x=>exact⟨x,O⟩|ref a=>
  let d:(match H a with | some (.lst _)=>some "list" | some (.tup _)=>some "tuple" | some (.dK _)=>some "dict" | _=>none)=Y t:=c
  split at d<;>first |(cases d;exact absurd ∎ h)| cases d
 |non=>cases c;exact absurd ∎ h|bl b=>cases c;exact absurd ∎ h|int b=>cases c;exact absurd ∎ h|byt b=>cases c|flt b=>cases c|ty b=>cases c
structure Ms(mg:C8):Prop where
 LETTERS:∃t,mg "LETTERS" =Y (.str (A8 "abcdefghijklmnopqrstuvwxyz") t)
 NAME_SIGNS:∃t,mg "NAME_SIGNS" =Y (.str (A8 "abcdefghijklmnopqrstuvwxyz0123456789") t)
 MOST_IN_NAME:∃t,mg "MOST_IN_NAME" =Y (.int 12 t)
 MOST_IN_TEXT:∃t,mg "MOST_IN_TEXT" =Y (.int 30 t)
 MOST_IN_ROW:∃t,mg "MOST_IN_ROW" =Y (.int 60 t)
 MOST_IN_RECORD:∃t,mg "MOST_IN_RECORD" =Y (.int 30 t)
 MOST_DEPTH:∃t,mg "MOST_DEPTH" =Y (.int 8 t)
 MOST_SIZE:∃t,mg "MOST_SIZE" =Y (.int 200 t)
 MOST_STEPS:∃t,mg "MOST_STEPS" =Y (.int 8 t)
 MOST_DEEDS:∃t,mg "MOST_DEEDS" =Y (.int 400 t)
abbrev zQq:V6:=top 10
theorem zOn(F:Fun K "is_name" "is_name" zQq f fd)(B:Bl mg)(M:Ms mg):FnOk P w K mg base CX0 1 f fd ["thing"] zPh:=by
 refine F.okn (N:=["thing"]) λL A o s H vs Q E nd hr h=>?_;ext zR h v t m u hl q;subst m;refine{_,(zD (zT (i6 (jI (xL (yD (pI B.isinstance zH B.str jJ (pv 0)))) (jP (xL (zMw uE uE zE (zN zDa O B.len yS (zA (pv 0) zB)) (zCj O M.MOST_IN_NAME)))))) (zG (zI vE)) zK)
  (zG (zI (vQ (zFc zRt (pX zDq (pv 0) zE) (yEb O M.LETTERS) (by with_unfolding_all rfl)) (qC (zN (gC O) O B.all zCa (zA (xS (own:=["sign"]) (F:=[]) {O,tb_g%,tb_g%,tb_g%, .nil} O (zYb (pv 0)) (λ_ _ _ _=>yG (i:=0) (by show(xW ["sign"] []).Nodup;decide+kernel) O (nO O)) (λ_ _ _ _=>yT) (λ_ _ _ _=>(zFc zRt (pv 0) (yEb O M.NAME_SIGNS) (by with_unfolding_all rfl)))) zB))))))), ?_}
 walk_at "st";lk;refine nEA t u ?_
 by_cases k:yC t "str" =false
 ·rw[mP k]
  let e:zEn v=false:=yBn u k;rw[<-e];exact q H (Same.refl H)
 ·rw[mI k]
  obtain⟨x,rfl⟩:=yIs u k;let hx:=hl x O;let b:=zPc x;refine zAm x O ∅ ?_
  by_cases z:(1:Int)<=(x...*:Int)
  ·rw[mP z]
   by_cases g:¬(x...*:Int)<=12
   ·rw[mP g]
    let e:zEn (.str x)=false:=by
     show xF (ts x)=false;unfold xF;rw[show decide ((ts x)...*<=12)=false from nJ ∅];simp
    rw[<-e];exact q H (Same.refl H)
   rw[mI g];obtain⟨c,r,I⟩:∃c r,ts x=c::r:=by
    cases e:ts x with|nil=>rw[e] at b;simp at b;lia|cons c r=>exact⟨c,r,O⟩
   refine zDm (by rw[mS];lia) (c:=c) (by rw[I];exact zQ (j:=0) O) {c,O, ?_};let D:zEn (.str x)=(decide (c∈letL)&& (ts x).all λc=>decide (c∈letL++zGn)):=by
    show xF (ts x)=_;unfold xF;rw[show decide ((ts x)...*<=12)=true from nF ∅,show decide (1<=(ts x)...*)=true from nF ∅,I];simp
   simp only[yId]
   by_cases a:c∈letL
   ·rw[mP a]
    refine nEA x O (zMo (λi l n=>Same H n/\l=(((ts x).take i).map λc=>decide (c∈letL++zGn)).map V.bl) (by rw[mS];lia) {Same.refl _,O} ?_ ?_)
    ·rintro i d l n hd _ ⟨y,rfl⟩
     lk;refine zAm d O y ?_;let e:(ts x).take (i+1)=(ts x).take i++ [d]:=by rw[List.take_add_one,hd];rfl
     rw[e,zJv];simp only[nI,nG,sP]
    ·rintro l n J ⟨y,rfl⟩ p hp
     refine qR p O _ (SqL.of zC) ?_;let e:zEn (.str x)=((((ts x).take (ts x)...*).map λc=>decide (c∈letL++zGn)).all id):=by
      rw[D,nF a,tL,pG,cI];rfl
     rw[<-e];exact q _ (y.trans (zF hp _))
   ·rw[mI a]
    let e:zEn (.str x)=false:=by rw[D,nJ a];rfl
    rw[<-e];exact q H (Same.refl H)
  ·rw[mI z]
   let e:zEn (.str x)=false:=by
    let:ts x= []:=aJ ∅;show xF (ts x)=false;rw[this];rfl
   rw[<-e];exact q H (Same.refl H)
def zJq:Sp:=λb H Q _=>∃(v:V)(t:String),b= [v]/\tyR H v=Y t/\∀a,Same H a->Q (wM t) a
theorem yAq{H:Hp}{v:V}(h:tyR H v=some "NoneType"):v= .non:=by
 cases v with
 |ref a=>
  let c:(match H a with | some (.frz _ (.dK _))=>some "dict" | _=>tyS H (.ref a))=some "NoneType":=h
  split at c
  ·exact absurd (mU c) ∎
  ·exact gI c
 |non=>rfl|bl b=>exact gI (H:=H) (show tyS H (.bl b)=_ from h)|int b=>exact gI (H:=H) (show tyS H (.int b)=_ from h)|str b=>exact gI (H:=H) (show tyS H (.str b)=_ from h)|byt b=>exact gI (H:=H) (show tyS H (.byt b)=_ from h)|flt b=>exact gI (H:=H) (show tyS H (.flt b)=_ from h)|ty b=>exact gI (H:=H) (show tyS H (.ty b)=_ from h)
theorem zGm(F:Fun K "kind_of" "kind_of" zRz f fd)(B:Bl mg):FnOk P w K mg base CX0 1 f fd ["thing"] zJq:=by
 refine F.okn (N:=["thing"]) λg A c s H j Q E i k h=>?_;ext yL h v t d a q;subst d;refine{_,(zD (zT (gR (zPn (pv 0))) (zG (zI zL)) zK)
  (zD (zT (yD (zN (kL (T:="bool") ∎) O B.isinstance zH (zA (pv 0) (zA (wA (v:=.ty "bool") O B.bool zSd O) zB)))) (zG (zI zL)) zK)
  (zD (zT (yD (zN (kL (T:="int") ∎) O B.isinstance zH (zA (pv 0) (zA (wA (v:=.ty "int") O B.int qW O) zB)))) (zG (zI zL)) zK)
  (zD (zT (yD (zN (kL (T:="str") ∎) O B.isinstance zH (zA (pv 0) (zA (wA (v:=.ty "str") O B.str jJ O) zB)))) (zG (zI zL)) zK)
  (zD (zT (yD (zN (kL (T:="list") ∎) O B.isinstance zH (zA (pv 0) (zA (wA (v:=.ty "list") O B.list yQ O) zB)))) (zG (zI zL)) zK)
  (zD (zT (yD (zN (kL (T:="dict") ∎) O B.isinstance zH (zA (pv 0) (zA (wA (v:=.ty "dict") O B.dict xJ O) zB)))) (zG (zI zL)) zK)
  (zG (zI uU)))))))), ?_}
 walk_at "st";lk;let q:=q H (Same.refl H);let e:=yCk a;simp only[a,Option.some.injEq,dR]
 by_cases b:v= .non
 ·subst b;cases a;rw[mP O];exact q
 ·rw[mI b]
  simp only[tyL,mF,rO,bJ] at e;rcases e with rfl | rfl | rfl | rfl | rfl | rfl | rfl
  ·exact absurd (yAq a) b
  all_goals (simpa [yC,wM] using q)
abbrev zUm:V6:=top 26
def zQg:Sp:=λb H Q _=>∃(v:V)(t:T),b= [v]/\Rep H v t/\∀a,Same H a->Q (wM (tyT t)) a
theorem yHj{k:Nat}{ps:C1}(h:FnOk P w K mg base CX0 k f fd ps zJq):FnOk P w K mg base CX0 k f fd ps zQg:=
 h.imp λb H Q E ⟨v,t,e,a,q⟩=>{v,tyT t,e,(Rep.rp _ _ a).ty,q}
noncomputable def zAj:T->Bool
 |.int i=>decide (0<=i/\i<60)|_=>false
def zCp:Sp:=λb H Q _=>∃(v:V)(t:T),b= [v]/\Rep H v t/\∀a,Same H a->Q (.bl (zAj t)) a
theorem zXf(F:Fun K "is_place" "is_place" zUm f fd)(B:Bl mg)(M:Ms mg)(a:Dn P w K mg base 1 "kind_of" ["thing"] zQg):FnOk P w K mg base CX0 2 f fd ["thing"] zCp:=by
 refine F.okn (N:=["thing"]) λm A g s H r Q E p n h=>?_;ext yL h v t j k q;subst j;refine nEA _ (zG (zI (vQ (pE xN (pD a n (zA (pv 0) zB)) zL) (qC (zMv uE jU zE (pv 0) (zCj O M.MOST_IN_ROW)))))) ?_;walk_at "st";lk;refine{v,t,O,k,λl o=>?_};let q:=q l o
 cases t with
 |int i=>
  cases (show v=_ from k);refine{O,iP (show wM "int" =V.str (A8 "number") by decide+kernel) {i,O, ?_}}
  by_cases d:0<=i
  ·refine iP d {i,O, ?_}
   let e:zAj (.int i)=decide (i<60):=by simp[zAj,d]
   rw[<-e];exact q
  ·refine iN d ?_
   let e:zAj (.int i)=false:=by simp[zAj,d]
   rw[<-e];exact q
 |non=>exact{O,iN (show¬wM "NoneType" =V.str (A8 "number") by decide+kernel) q}|bl b=>exact{O,iN (show¬wM "bool" =V.str (A8 "number") by decide+kernel) q}|str b=>exact{O,iN (show¬wM "str" =V.str (A8 "number") by decide+kernel) q}|lst b=>exact{O,iN (show¬wM "list" =V.str (A8 "number") by decide+kernel) q}|dic b c=>exact{O,iN (show¬wM "dict" =V.str (A8 "number") by decide+kernel) q}|tup b=>exact{O,iN (show¬wM "tuple" =V.str (A8 "number") by decide+kernel) q}
abbrev sLw:V6:=top 37
abbrev sCc:V6:=top 38
abbrev sRec:V6:=top 40
abbrev sRow:V6:=top 41
abbrev yDu:V6:=top 39
theorem zNa{k:Key}(h:okK k)(i:Int)(e:k= .inl i):zAj (.int i)=true:=by
 subst e;let a:0<=i/\i<=59:=h;simp only[zAj,pO]
 lia
theorem cutTo(xs:B3){i:Int}(h:0<=i):uQ xs none ↥i=xs.take i.toNat:=by
 obtain⟨n,rfl⟩:=sW h;unfold uQ;rw[HT.sIx_nat,HT.sIx_none,aN,Nat.sub_zero,bS]
 by_cases c:n<=xs...*
 ·rw[dQ c]
 ·rw[dJ ∅,rM (mE _),rM ∅]
theorem zKm(xs:B3){i:Int}(h:0<=i):uQ xs ↥i none=xs.drop i.toNat:=by
 obtain⟨n,rfl⟩:=sW h;unfold uQ;rw[HT.sIx_nat,HT.sIx_none,bS]
 by_cases c:n<=xs...*
 ·rw[dQ c,rM (by rw[rD];exact mE _)]
 ·rw[dJ ∅,pQ (mE _),pQ ∅,List.take_nil]
theorem ok_lw(F:Fun K "leads_within" "leads_within" sLw f fd)(B:Bl mg)(a:Dn P w K mg base 1 "leads_on" ["thing","step"] zTn)(b:Dn P w K mg base 2 "is_place" ["thing"] zCp):FnOk P w K mg base CX0 3 f fd ["thing","step"] zTn:=by
 refine F.okn (N:=["thing","step"]) λu A e s H J Q E I l h=>?_;ext zU h v t k d o y;ext xA y z p m q;subst d;refine nEA _ (zG (zI (vQ (pD a l (zA (pv 0) (zA (pv 1) zB))) (qC (yEr (pI B.isinstance zH B.str jJ (pv 1)) (qC (pD b l (zA (pv 1) zB)))))))) ?_;walk_at "st";lk;refine{v,t,k,O,o,z,p,m,λr n=>{_,O, ?_}};let c:=q r n
 cases g:(zV t k).isSome with
 |false=>rw[g] at c;exact iN ∎ c|true=>
  refine iP O ?_
  cases k with
  |inr x=>rw[g] at c;exact{"str",O,iP ∎ c}|inl i=>
   refine nEA ("int") O (iN ∎ {_, .int i,O,O,λD g2=>?_});rw[zNa m i O];let j:=q D (n.trans g2);rw[g] at j;exact j
def spCc:Sp:=λb H Q _=>∃(v:V)(t:T)(w:Wd)(k:Key),b= [v, .str w.s,kV k]/\Rep H v t/\T.pure t/\T.sz t<=100000/\okK k/\∀a,Same H a->Q (.bl (xZ w t k)) a
theorem ok_cc(F:Fun K "can_change" "can_change" sCc f fd)(B:Bl mg)(a:Dn P w K mg base 3 "leads_within" ["thing","step"] zTn)(g:Dn P w K mg base 2 "is_place" ["thing"] zCp):FnOk P w K mg base CX0 4 f fd ["holder","word","step"] spCc:=by
 refine F.okn (N:=["holder","word","step"]) λaa A J s H vs Q E nd hr h=>?_;ext yN h v t l k y z_;ext vB z_ j hp hz hk q;subst y;refine{_,(zD (zT (pT xN (pv 1) zL) (zG (zI (pD a hr (zA (pv 0) (zA (pv 2) zB))))) zK)
  (zD (zT (yD (pI B.isinstance zH B.str jJ (pv 2))) (zG (zI (vQ (pE xN (pv 1) zL) (qC (pI B.isinstance zH B.dict xJ (pv 0)))))) zK)
  (zG (zI (vQ (pI B.isinstance zH B.list yQ (pv 0)) (vQ (pD g hr (zA (pv 2) zB)) (qC (pE uE (pv 2) (zN yE O B.len yS (zA (pv 0) zB)))))))))), ?_}
 walk_at "st";lk;let L:=q H (Same.refl H);let u:¬Wd.put.s=A8 "take":=by decide+kernel
 let m:¬Wd.ins.s=A8 "take":=by decide+kernel
 let o:¬Wd.ins.s=A8 "put":=by decide+kernel
 let n:∀(l:Wd)(i:Int),k= .inl i->(∀d,t= .lst d->xZ l t k=decide (i<=(d...*:Int)))->((∀d,t≠ .lst d)->xZ l t k=false)->(∀H',Same H H'->Q (.bl (xZ l t k)) H')->∃x,tyS H v=Y x/\if yC x "list" =true then zCp [kV k] H (λx I=>∃c,x=V.bl c/\if c=true then∃p,v=V.ref p/\∃ys,SqL K I p ys/\∃i,kV k=V.int i/\Q (V.bl (decide (i<=(ys...*:Int)))) I else Q (V.bl false) I) E0 else Q (V.bl false) H:=by
  intro l i ek h1 h2 q;subst ek;let r:(∀d,t≠ .lst d)->Q (.bl false) H:=λM=>by let:=q H (Same.refl H);rw[h2 M] at this;exact this
  cases t with
  |lst d=>
   ext yL j b xs D hb hx;subst D;refine nEA ("list") (wQ hb) (iP ∎ {_, .int i,O,O,λH2 g2=>{_,O, ?_}});rw[zNa hk i O];refine iP O {b,O,xs,SqL.of (g2 _ _ hb),i,O, ?_};let q2:=q H2 g2;rw[h1 d O] at q2;rw[hx...*];exact q2
  |dic ks d=>exact{_,j.ty,iN (by simp[tyT,yC]) (r (by intro d z;cases z))}|tup d=>exact hp.elim|non=>exact{_,j.ty,iN (by simp[tyT,yC]) (r (by intro d z;cases z))}|bl b=>exact{_,j.ty,iN (by simp[tyT,yC]) (r (by intro d z;cases z))}|int b=>exact{_,j.ty,iN (by simp[tyT,yC]) (r (by intro d z;cases z))}|str b=>exact{_,j.ty,iN (by simp[tyT,yC]) (r (by intro d z;cases z))}
 cases l with
 |tak=>exact iP O ⟨v,t,k,O,j,hp,hz,hk,q⟩|put=>
  refine iN u ?_
  cases k with
  |inr x=>
   refine nEA ("str") O (iP ∎ (iP O {_,j.ty, ?_}));let e:yC (tyT t) "dict" =xZ .put t (.inr x):=by cases t<;>first | rfl |(simp[tyT,yC,xZ])
   rw[e];exact L
  |inl i=>exact{"int",O,iN ∎ (n .put i O (λd e=>by subst e;rfl) (λh=>by cases t<;>first | rfl | exact absurd O (h _)) q)}
 |ins=>
  refine iN m ?_
  cases k with
  |inr x=>
   refine nEA ("str") O (iP ∎ (iN o ?_));let e:xZ .ins t (.inr x)=false:=by cases t<;>rfl
   rw[e] at L;exact L
  |inl i=>exact{"int",O,iN ∎ (n .ins i O (λd e=>by subst e;rfl) (λh=>by cases t<;>first | rfl | exact absurd O (h _)) q)}
def yEq:Sp:=λh H Q _=>∃(a:V1)(e:D0)(b:C6)(c:B0)(w:Wd)(x:Str)(g:V)(n:T),h= [.ref a, .str w.s, .str x,g]/\H a=Y (.dK e)/\e.map (·.1)=b.map nK/\Reps H (e.map (·.2)) c/\b.Nodup/\b...*=c...*/\c...*<=1000/\(w= .put\/w= .tak/\ts x∈b)/\Rep H g n/\∀p d,Same H d->Rep d (.ref p) (yP w (.dic b c) (.inr x) n)->Q (.ref p) d
theorem yEx(F:Fun K "record_changed" "record_changed" sRec f fd)(B:Bl mg):FnOk P w K mg base CX0 1 f fd ["record","word","name","new"] yEq:=by
 refine F.okn (N:=["record","word","name","new","changed"]) λM A u s H vs Q E J hr h=>?_;ext yA h a e ks D wd g;ext zU g x vn n r ha g;ext zS g c i nk ab aa g;ext oAA g hw L q;subst r;let I:=wY hr;refine{_,(zD (pS 4 J (yJ zLn O B.dict xJ (zA (pv 0) zB)))
  (zD (zT (pT xN (pv 1) zL) (zG (wP (zMc (pv 4) (pv 2) ⟨O,O,O,O⟩))) (zG (zCh I (pv 4) (pv 2) (pv 3) O)))
  (zG (zI (pv 4))))), ?_}
 walk_at "st";lk;refine nEA e ha (λl z=>?_);let s1:=zF z (.dK e);let d:=zC (H:=H) (a:=l) (o:=.dK e);let b:∀o,Same H (upd (upd H l (.dK e)) l o):=λo=>by rw[zKu];exact zF z o
 let ac:e...*=D...*:=by let:=i...*;rwa [mN] at this
 let y:(Sum.inr x:Key)=nK (ts x):=by show(Sum.inr x:Key)=Sum.inr (tx (ts x));rw[qJ]
 rcases hw with rfl |⟨rfl,hx⟩
 ·refine iN (by decide+kernel) {_,DPut.k (k:=Sum.inr x) d (by rw[mS];lia), ?_}
  refine q l _ (b _) ?_;rw[y];obtain⟨v,m⟩:=zDd (p:=(ks,D)) (n:=ts x) (t:=n) c i L;exact{l,_,O,zC,v,Reps.same (b _) _ _ m}
 ·refine iP O ?_
  refine oEA (i5 nk c i hx) λxv j _=>?_;refine{l,O, .inl {e, .inl d},e,nK (ts x),xv,d,by rw[<-y];rfl,j, ?_};obtain⟨v,m⟩:=Reps.dropK (n:=ts x) c i;refine q l _ (b _) {l,_,O,zC,v,Reps.same (b _) _ _ m}
def yDx:Sp:=λg H Q _=>∃(a:V1)(e:B3)(c:B0)(w:Wd)(i:Int)(d:V)(n:T),g= [.ref a, .str w.s, .int i,d]/\H a=Y (.lst e)/\Reps H e c/\c...*<=100000/\0<=i/\Rep H d n/\∀p b,Same H b->Rep b (.ref p) (yP w (.lst c) (.inl i) n)->Q (.ref p) b
theorem yHh(F:Fun K "row_changed" "row_changed" sRow f fd)(B:Bl mg):FnOk P w K mg base CX0 1 f fd ["row","word","place","new"] yDx:=by
 refine F.okn (N:=["row","word","place","new","ahead","behind"]) λae A ab s H vs Q E nd hr h=>?_;ext yA h a b I wd i z_;ext zR z_ e n J z D z_;ext xA z_ af hi hn q;subst J;refine{_,(zD (pS 4 nd (kA uS (pv 0) gO (gP (pv 2))))
  (zD (pS 5 nd (zNp (pT xN (pv 1) zL) (kA uS (pv 0) (gP (pv 2)) gO) (kA uS (pv 0) (gP (zJ xI (pv 2) zE)) gO)))
  (zD (zT (pT xN (pv 1) zL) (zG (zI (zJ zBb (pv 4) (pv 5)))) zK)
  (zG (zI (zJ zBb (zJ zBb (pv 4) (zZ (zA (pv 3) zB))) (pv 5))))))), ?_}
 walk_at "st";lk;let ag:=D...*;refine{a,b,O,SqL.of z,λv aa=>?_};rw[cutTo b hi];let m:=zF aa (.lst (b.take i.toNat));let e1:=zC (H:=H) (a:=v) (o:=.lst (b.take i.toNat));generalize upd H v (.lst (b.take i.toNat))=g at m e1⊢;let hT:Reps H (b.take i.toNat) (I.take i.toNat):=Reps.take _ D;let u:∀(j:Nat)(c:V1),g c=none->(∀p H',Same H H'->Rep H' (.ref p) (.lst (I.take i.toNat++n::I.drop j))->Q (.ref p) H')->∀(p:V1),upd g c (.lst (b.drop j)) p=none->zZo (V.ref v) (V.ref p) (upd (upd g c (.lst (b.drop j))) p (HO.lst [e])) λx g=>zZo x (V.ref c) g Q:=λj c d q r k=>by
  let l:=zF d (.lst (b.drop j));let t:=zC (H:=g) (a:=c) (o:=.lst (b.drop j));generalize upd g c (.lst (b.drop j))=H2 at l t k⊢;let y:=zF k (.lst [e]);let e3:=zC (H:=H2) (a:=r) (o:=.lst [e]);generalize upd H2 r (.lst [e])=H3 at y e3⊢;refine{v,r,_,_,O,O,y _ _ (l _ _ e1),e3,by rw[mS,nZ,nL];lia,λL M=>?_};let s4:=zF M (.lst (b.take i.toNat++ [e]));let e4:=zC (H:=H3) (a:=L) (o:=.lst (b.take i.toNat++ [e]));generalize upd H3 L (.lst (b.take i.toNat++ [e]))=H4 at s4 e4⊢;refine{L,c,_,_,O,O,e4,s4 _ _ (y _ _ t),by rw[mS,mM,nZ,rD,nL];lia,λp5 ac=>?_};let G:=m.trans (l.trans (y.trans (s4.trans (zF ac (.lst (b.take i.toNat++ [e]++b.drop j))))));refine q p5 _ G {p5,_,O,zC,Reps.same G _ _ ?_};rw[sE];exact Reps.append (show Reps H ([e]++b.drop j) (n::I.drop j) from{e,_,O,hn,Reps.drop _ D}) hT
 let i1:(i+1).toNat=i.toNat+1:=by lia
 cases wd with
 |put=>
  refine iN (by decide+kernel) {a,b,O,SqL.of (m _ _ z),λc d=>iN (by decide+kernel) ?_};rw[zKm b ∅,i1] at*;exact u _ c d q
 |ins=>
  refine iP O {a,b,O,SqL.of (m _ _ z),λc d=>iN (by decide+kernel) ?_};rw[zKm b hi] at*;exact u _ c d q
 |tak=>
  refine iN (by decide+kernel) {a,b,O,SqL.of (m _ _ z),λc d=>iP O ?_};rw[zKm b ∅,i1] at*;let l:=zF d (.lst (b.drop (i.toNat+1)));let t:=zC (H:=g) (a:=c) (o:=.lst (b.drop (i.toNat+1)));generalize upd g c (.lst (b.drop (i.toNat+1)))=H2 at l t⊢;refine{v,c,_,_,O,O,l _ _ e1,t,by rw[mS,nZ,rD];lia,λr k=>?_};let G:=m.trans (l.trans (zF k (.lst (b.take i.toNat++b.drop (i.toNat+1)))));exact q r _ G {r,_,O,zC,Reps.same G _ _ (Reps.append (Reps.drop _ D) hT)}
def zYo:Sp:=λd H Q _=>∃(v:V)(t:T)(w:Wd)(k:Key)(c:V)(n:T)(m:Nat),d= [v, .str w.s,kV k,c]/\Rep H v t/\T.fewm m t/\m<=63/\T.sz t<=50000/\okK k/\xZ w t k=true/\Rep H c n/\∀b a,Same H a->Rep a b (yP w t k n)->Q b a
theorem yCs(F:Fun K "part_changed" "part_changed" yDu f fd)(B:Bl mg)(c:Dn P w K mg base 1 "record_changed" ["record","word","name","new"] yEq)(d:Dn P w K mg base 1 "row_changed" ["row","word","place","new"] yDx):FnOk P w K mg base CX0 2 f fd ["holder","word","step","new"] zYo:=by
 refine F.okn (N:=["holder","word","step","new"]) λab A aa s H vs Q E nd hr h=>?_;ext yA h v t e k vn J;ext zR J n m D hv u J;ext zS J hm hz hk j hn q;subst D;refine{_,(zD (zT (yD (pI B.isinstance zH B.dict xJ (pv 0))) (zG (zI (pD c hr (zA (pv 0) (zA (pv 1) (zA (pv 2) (zA (pv 3) zB))))))) zK)
  (zG (zI (pD d hr (zA (pv 0) (zA (pv 1) (zA (pv 2) (zA (pv 3) zB)))))))), ?_}
 walk_at "st";lk
 cases t with
 |dic z y=>
  ext zR hv a ps l r I hs;subst l;let M:=u.2.2.1;let ac:=u.2.1;refine nEA ("dict") (qY r) (iP ∎ ?_)
  cases k with
  |inl i=>cases e<;>cases j|inr x=>
   refine{a,ps,z,y,e,x,vn,n,O,r,I,hs,u.1,M,∅, ?_,hn,λp L g h=>q _ L g h}
   cases e with
   |put=>exact .inl O|ins=>cases j|tak=>
    refine .inr {O, ?_};let o:(if ts x∈z then Y (yH (ts x) z y) else none).isSome=true:=j
    by_cases h:ts x∈z
    ·exact h
    ·rw[mI h] at o;cases o
 |lst y=>
  ext yL hv a xs l r hs;subst l;refine nEA ("list") (wQ r) (iN ∎ ?_)
  cases k with|inl i=>exact{a,xs,y,e,i,vn,n,O,r,hs,u.1,hk.1,hn,λp L g h=>q _ L g h}|inr x=>cases e<;>cases j
 |tup y=>exact u.elim|non=>cases e<;>cases k<;>cases j|bl b=>cases e<;>cases k<;>cases j|int b=>cases e<;>cases k<;>cases j|str b=>cases e<;>cases k<;>cases j
end
end K43
namespace K43
open PySem L2 PySem.W
seal L2.PSs L2.PS L2.PE L2.PT L2.PW L2.PA L2.PI L2.PG L2.PGs L2.PPs L2.PTs
def yDd(s:V6):V6:=match s with|.ClassDef _ _ _ (f::_) _ _ _ _ _ _ _=>f|_=>s
abbrev jK:V6:=yDd (top 21)
theorem yAl:wF ["self","text","at"] ["self","text","at"] (yB jK):=by walk_at "sc"
section
variable{P:V3}{w:V4}{K:PySem.W.Frag}{mg:C8}{base:V5}{C B fI dT:V1}{nm:Str}{oc kV doc pm cdv ct:V0}{od an:Option V1}{osl:Array (Option V0)}
theorem zVn(lk:K.lookup fI=Y {oc,od, .func (fnOf "__init__" "NoPlace.__init__" (wH jK) (xQ jK) (yB jK) (.ref dT) kV doc pm an cdv ct),osl})(e:codeIn K cdv "NoPlace.__init__" =true)(c:zEb K nm C B fI)(b:zSa K B)(f:mg "CabinetError" =Y (.ref B)):
  FnOk P w K mg base CX0 1 fI (fnOf "__init__" "NoPlace.__init__" (wH jK) (xQ jK) (yB jK) (.ref dT) kV doc pm an cdv ct) ["self","text","at"] (zFa C):=by
 refine zQf (k:=0) lk e yAl (λl H Q E h=>?_) λA g s H l Q E n h=>?_
 ·ext zEo h x i v a _
  subst a
  rfl
 ext zU h x i v a j q;subst a;refine nEA _ (zD (wP (zMp c b O f (zA (pv 0) (zA (pv 1) zB)))) (zG (yAy c (pv 2) (pv 0)))) ?_;refine{x,i,O,j,x,O,j,λd m=>q d m}
theorem zLb{o:Obj}{items:Array V0}{n:Nat}(h:K.lookup dT=Y o)(e:o.data= .seq items n)(f:items.size=1):Binds K (fnOf "__init__" "NoPlace.__init__" (wH jK) (xQ jK) (yB jK) (.ref dT) kV doc pm an cdv ct) ["self","text","at"] []:=λs i g d=>by
 rw[pJ] at d⊢;obtain⟨l⟩:=items
 obtain⟨_,z⟩:=len1 (us:=l) f;obtain⟨_,_,_,y⟩:=len3 d;subst z y;exact binds_K g O h e O O
end
def XAt(C:V1)(n:Int)(H:Hp)(E:XK):Prop:=∀d a,Same H a->a d=Y (.xd [("at", .int n)])->E (.ref C) ↥d a
theorem XAt.of{C:V1}{n:Int}{H H1:Hp}{E:XK}{d:V1}(h:XAt C n H E)(g:Same H H1)(a:H1 d=none):E (.ref C) ↥d (upd H1 d (.xd [("at", .int n)])):=h d _ (g.trans (zF a _)) zC
theorem kY(t:T)(ks:B8):∃u,(goT t ks).getLast? =Y u/\u∈goT t ks:=by
 let h:=(zCw t ks).1
 cases e:(goT t ks).getLast? with|none=>rw[bF.mp e] at h;exact absurd h ∎|some u=>exact{u,O,List.mem_of_getLast? e}
theorem zCg{α:Type}{xs:List α}{v:α}(h:xs.getLast? =Y v):atI xs (-1)=Y v:=by
 rcases List.eq_nil_or_concat xs with e |⟨a,y,e⟩
 ·rw[e] at h;cases h
 ·rw[List.concat_eq_append] at e
  subst e;rw[List.getLast?_concat] at h;cases h;exact xY _ _
theorem m4{H:Hp}{vs:B3}{us:B0}{u:T}(h:Reps H vs us)(b:us.getLast? =Y u):∃v,vs.getLast? =Y v/\Rep H v u:=by
 let d:=h...*;rw[bG] at b;let f:=(mJ.mp b).1;let a:us...* - 1<vs...*:=by lia
 obtain⟨t,c,e⟩:=h.get (mQ a);rw[b] at c;cases c;refine nEA _ ?_ e;rw[bG,d];exact mQ a
abbrev sWc:V6:=top 35
abbrev sSl:V6:=top 36
abbrev sCs:V6:=top 34
theorem yAz(ks:B8):uQ (ks.map kV) none ↥(-1)=ks.dropLast.map kV:=by
 let e:HT.sIx (ks.map kV)...* (ks.map kV)...* ↥(-1)=ks...* - 1:=by
  show(if(-1:Int)<0 then((-1:Int)+((ks.map kV)...*:Int)).toNat else min (-1:Int).toNat (ks.map kV)...*)=_;rw[mP ∎,mN]
  lia
 unfold uQ;rw[e,HT.sIx_none,aN,Nat.sub_zero,List.dropLast_eq_take,List.map_take]
structure Tq(m:Nat)(H:Hp)(v:V)(t:T)(pa:V1)(ks:B8):Prop where
 v:Rep H v t
 few:T.fewm m t
 m:m<62
 sz:T.sz t<=50000
 pa:H pa=Y (.lst (ks.map kV))
 ok:∀k∈ks,okK k
 l8:ks...*<=8
theorem Tq.pure{m:Nat}{H:Hp}{v:V}{t:T}{a:V1}{ks:B8}(h:Tq m H v t a ks):T.pure t:=kO _ t (mE _) (c6 (by let:=h.m;lia) _ h.few)
theorem yAi{t u:T}{k:Key}(b:okK k)(a:zV t k=Y u):xZ .put t k=true:=by
 rcases gU a with⟨c,i,rfl,rfl,h,_⟩|⟨e,c,x,rfl,rfl,d,rfl,_⟩
 ·let g:=(mJ.mp h).1
  let f:0<=i/\i<=59:=b;exact nF ∅
 ·rfl
section
variable{P:V3}{w:V4}{K:PySem.W.Frag}{mg:C8}{base:V5}{f:V1}{fd:V7}{C:V1}
def spWc(C:V1):Sp:=λd H Q E=>∃(a:Wd)(b:V),d= [.str a.s,b]/\(a= .put->∀c,Same H c->Q b c)/\(a≠ .put->XAt C 0 H E)
theorem ok_wc(F:Fun K "whole_changed" "whole_changed" sWc f fd)(B:Bl mg)(a:Xr P w K mg base 1 "NoPlace" C):FnOk P w K mg base (CXE nC P w) 3 f fd ["word","new"] (spWc C):=by
 refine F.okxn (N:=["word","new"]) λi A c s H o Q E n j h=>?_;ext yL h g m e q k;subst e;refine{_,(zD (zT (pT zEp (pv 0) zL) (zG (zDw a j ∅ O O lvs (zA zL (zA zE zB)))) zK)
  (zG (zI (pv 1)))), ?_}
 walk_at "st";unfold zEx;lk;let b:g≠ .put->∀d,H d=none->E (Value.ref C) ↥d (upd H d (HO.xd [(A8 "at",V.int 0)])):=λh d l=>(k h).of (Same.refl _) l
 cases g with|put=>exact{false,by decide+kernel,iN ∎ (q O H (Same.refl _))}|ins=>exact{true,by decide+kernel,iP O {_,_,⟨O,O⟩,b (by intro z;cases z)}}|tak=>exact{true,by decide+kernel,iP O {_,_,⟨O,O⟩,b (by intro z;cases z)}}
def spSl(C:V1):Sp:=λe H Q E=>∃(v:V)(t:T)(c:V1)(a:B8)(m:Nat),e= [v, .ref c]/\Tq m H v t c a/\(a...*<=(goT t a.dropLast)...*->∀p d b,Same H b->b p=Y (.lst d)->Reps b d (goT t a.dropLast)->Q (.ref p) b)/\((goT t a.dropLast)...*<a...*->XAt C (((goT t a.dropLast)...*:Int)- 1) H E)
theorem ok_sl(F:Fun K "stops_to_last" "stops_to_last" sSl f fd)(B:Bl mg)(l:Dn P w K mg base 3 "leads_within" ["thing","step"] zTn)(r:Xr P w K mg base 1 "NoPlace" C):FnOk P w K mg base (CXE nC P w) 4 f fd ["thing","path"] (spSl C):=by
 refine F.okxn (N:=["thing","path","stops","step"]) λav A au s H vs Q E nd hr h=>?_;ext yA h v t pa ks m p;ext xA p D hT q qx;subst D;let hu:=wY hr;refine{_,(zD (pS 2 nd (zZ (zA (pv 0) zB)))
  (zD (vX PassesOwn.leaving O (xG (kA uS (pv 1) gO (gP (wO xO zE)))) (yG (i:=3) nd O (nO O)) (zD (zT (xL (yD (pD l hr (zA (pX zP (pv 2) (wO xO zE)) (zA (pv 3) zB))))) (zG (zDw r hr ∅ O O lvs (zA zL (zA (zJ vJ (zN yE O B.len yS (zA (pv 2) zB)) zE) zB)))) zK)
  (zG (wP (jZ nY pK rG jA (pv 2) (zA (zEc (pX zP (pX zP (pv 2) (wO xO zE)) (pv 3)) (jR hu (pX zP (pv 2) (wO xO zE)) (pv 3) (λ_ _=>O))) zB))))))
  (zG (zI (pv 2))))), ?_}
 walk_at "st";unfold zEx;lk;intro M al;let s1:=zF al (.lst [v]);let e1:=zC (H:=H) (a:=M) (o:=.lst [v]);let hz:=hT.sz;let h8:=hT.l8;generalize hH1:upd H M (.lst [v])=H1 at s1 e1⊢;refine{pa,_,O,SqL.of (s1 _ _ hT.pa),λpl aj=>{pl,O,{_,SqL.of zC}, ?_}};rw[yAz];let s2:=zF aj (.lst (ks.dropLast.map kV));let e2:=zC (H:=H1) (a:=pl) (o:=.lst (ks.dropLast.map kV));generalize upd H1 pl (.lst (ks.dropLast.map kV))=H2 at s2 e2⊢;let am:ks.dropLast...*=ks...* - 1:=List.length_dropLast;let ag:∀k∈ks.dropLast,okK k:=λk hk=>hT.ok k (List.dropLast_subset ks hk);let ae:pl≠M:=λz=>by rw[z,e1] at aj;cases aj
 generalize ks.dropLast=n at am ag e2 q qx⊢;let aw:=zCw t n;refine jN (K:=K) (a:=pl) (xs:=n.map kV) (λi σ' H'=>∃o us u ys c,σ'= [Y v,Y (.ref pa),Y (.ref M),o]/\Same H H'/\H' pl=Y (.lst (n.map kV))/\H' M=Y (.lst (ys++ [c]))/\Reps H ys us/\Rep H c u/\us...*=i/\goT t n=us++goT u (n.drop i)/\T.pure u/\T.sz u<=100000)
  {none,[],t,[],v,O,s1.trans s2,e2,s2 _ _ e1,O,hT.v,O,O,hT.pure,∅} (λi σ' H' _ h=>by
   ext yA h o us u ys c p;ext xA p _ g h _;exact SqL.of h) ?_ ?_
 ·intro i x σ' H' hx p
  ext yA p o us u ys c p;ext zS p D g ab hS hR p;ext vB p hc hl L ai af;subst D;lk;let ao:=hR...*;rw[nH] at hx
  cases y:n[i]? with
  |none=>rw[y] at hx;cases hx|some k=>
   rw[y] at hx;let ex:kV k=x:=mU hx;subst ex;let ap:=(mJ.mp y).1;let aq:n.drop i=k::n.drop (i+1):=by
    rw[nU ap,(mJ.mp y).2]
   rw[aq] at L;refine zY (SqL.of hS) (xY _ _) {c,u,k,O,Rep.same g _ _ hc,ai,af,ag _ (mO y),λH2 g2=>{_,O, ?_}};let I:=g2 _ _ hS;let gg:=g.trans g2
   cases hs:zV u k with
   |none=>
    let e:goT u (k::n.drop (i+1))= [u]:=by show(match zV u k with | none=>[u] | some J=>u::goT J (n.drop (i+1)))=_;rw[hs]
    rw[e] at L;let aa:(goT t n)...*=i+1:=by rw[L,mM,hl];rfl
    refine iP O {_,SqL.of I,_,_,⟨O,O⟩,λd hd=>?_};let qq:=(qx ∅).of gg hd;rw[aa] at qq;rw[mM,ao,hl,nL];exact qq
   |some J=>
    let e:goT u (k::n.drop (i+1))=u::goT J (n.drop (i+1)):=by show(match zV u k with | none=>[u] | some J=>u::goT J (n.drop (i+1)))=_;rw[hs]
    rw[e] at L;refine iN (by simp) {nO {O,_,SqL.of I}, ?_};let ac:∀c',Rep H c' J->T.pure J->T.sz J<=100000->zJz (V.ref M) [c'] H2 (λ_ H1=>Same H H1/\H1 pl=Y (.lst (n.map kV))/\∃ah u1 ak c1,H1 M=Y (.lst (ak++ [c1]))/\Reps H ak ah/\Rep H c1 u1/\ah...*=i+1/\goT t n=ah++goT u1 (n.drop (i+1))/\T.pure u1/\T.sz u1<=100000):=λc' h1 h2 h3=>
     {M,ys++ [c],c',O,O,I,by rw[mS,mM];show ys...*+1<_;lia,gg.put al _,by rw[zM ae];exact g2 _ _ ab,us++ [u],J,ys++ [c],c',zC,Reps.snoc hc hR,h1,by rw[mM,hl];rfl,by rw[L,sE];rfl,h2,h3}
    obtain⟨c',h1,h2,h3,⟨b,zs,j,rfl,hb,ej,an⟩|⟨b,qs,rfl,hb,ar⟩⟩:=zKs hc ai af (ag _ (mO y)) hs
    ·refine .inl ?_
     lk;refine zY (SqL.of I) (xY _ _) ?_;rw[ej];exact zY (SqL.of (gg _ _ hb)) an (ac _ h1 h2 h3)
    ·refine .inr ?_
     lk;exact zY (SqL.of I) (xY _ _) {b,O,c', .inl {qs,k, .inl (gg _ _ hb),O,ar.symm},ac _ h1 h2 h3}
 ·intro σ' H' p
  ext yA p o us u ys c p;ext zS p D g ab hS hR p;ext vB p hc hl L ai af;subst D;lk;rw[mN,tF] at L;rw[mN] at hl;let aa:(goT t n)...*=n...*+1:=by rw[L,mM,hl];rfl
  refine q ∅ M _ _ g hS ?_;rw[L];exact Reps.snoc (Rep.same g _ _ hc) (Reps.same g _ _ hR)
def yBg(C:V1):Sp:=λh H Q E=>∃(v:V)(t:T)(a:Wd)(g:V1)(c:B8)(e:V)(n:T)(m:Nat),h= [v, .str a.s, .ref g,e]/\Tq m H v t g c/\Rep H e n/\(∀r,chG a (λs k=>yP a s k n) t c n= .inr r->∀d b,Same H b->Rep b d r->Q d b)/\(∀j:Nat,chG a (λs k=>yP a s k n) t c n= .inl j->XAt C (j:Int) H E)
theorem scCs:wF ["thing","word","path","new","stops","changed","place"] ["thing","word","path","new"] (yB sCs):=by walk_at "sc"
theorem ok_cs(F:FunD K "change_shared" "change_shared" sCs f fd)(B:Bl mg)(l:Dx nC P w K mg base 3 "whole_changed" ["word","new"] (spWc C))(u:Dx nC P w K mg base 4 "stops_to_last" ["thing","path"] (spSl C))(x:Dn P w K mg base 4 "can_change" ["holder","word","step"] spCc)(b:Dn P w K mg base 2 "part_changed" ["holder","word","step","new"] zYo)(I:Xr P w K mg base 1 "NoPlace" C):FnOk P w K mg base (CXE nC P w) 5 f fd ["thing","word","path","new"] (yBg C):=by
 refine F.okx scCs (by walk_at "ln") λc A o s H vs Q E hr h=>?_;ext yA h v t J pa a D;ext zU D vn n m a0 y D;ext oAA D hn q L;subst a0;let nd:=scCs.nd;refine{_,(zD (zT (xL (zLi (pv 2) (λ_=>O))) (zG (zI (zGg l hr ∅ O lvs (zA (pv 1) (zA (pv 3) zB))))) zK)
  (zD (pS 4 nd (zGg u hr ∅ O lvs (zA (pv 0) (zA (pv 2) zB))))
  (zD (zT (xL (yD (pD x hr (zA (pX zP (pv 4) (wO xO zE)) (zA (pv 1) (zA (pX zP (pv 2) (wO xO zE)) zB)))))) (zG (zDw I hr ∅ O O lvs (zA zL (zA (zJ vJ (zN yE O B.len yS (zA (pv 2) zB)) zE) zB)))) zK)
  (zD (pS 5 nd (pD b hr (zA (pX zP (pv 4) (wO xO zE)) (zA (pv 1) (zA (pX zP (pv 2) (wO xO zE)) (zA (pv 3) zB))))))
  (zD (vX PassesOwn.leaving O (yDa O B.range (zA (zJ vJ (zN yE O B.len yS (zA (pv 2) zB)) zE) (zA (wO xO zE) (zA (wO xO zE) zB)))) (yG (i:=6) nd O (nO O)) (zG (pS 5 nd (pD b hr (zA (pX zP (pv 4) (pv 6)) (zA zL (zA (pX zP (pv 2) (pv 6)) (zA (pv 5) zB))))))))
  (zG (zI (pv 5)))))))), ?_}
 walk_at "st";unfold zEx yEj;lk;refine nEA _ (.inl {_,SqL.of y.pa,O}) ?_;let hz:=y.sz;let h8:=y.l8;let hm:=y.m
 cases hk:a.getLast? with
 |none=>
  let e0:a= []:=bF.mp hk;subst e0;refine iP O {J,vn,O,λe H' g=>?_,λe=>?_}
  ·subst e
   exact q n O vn H' g (Rep.same g _ _ hn)
  ·refine L 0 ?_
   cases J with|put=>exact absurd O e|ins=>rfl|tak=>rfl
 |some k=>
  let ao:a≠ []:=λz=>by rw[z] at hk;cases hk
  let a':0<a...*:=List.length_pos_iff.mpr ao;let a6:(a.map kV).isEmpty=false:=by cases a with | nil=>exact absurd O ao | cons _ _=>rfl
  let ax:∀pt:T->Key->T,chG J pt t a n=if(goT t a.dropLast)...*<a...* then .inl ((goT t a.dropLast)...* - 1) else
    match (goT t a.dropLast).getLast? with|none=>.inl 0|some s=>if xZ J s k=true then .inr (bld (goT t a.dropLast) a (a...* - 1) (pt s k)) else .inl (a...* - 1):=λpt=>by unfold chG;rw[hk]<;>rfl
  rw[ax] at q L;let be:=zCw t a.dropLast;let ba:a.dropLast...*=a...* - 1:=List.length_dropLast;refine iN (by rw[a6];decide) {v,t,pa,a,m,O,y,λbd p xs H1 g1 af hR=>?_,λaz=>?_}
  ·let aq:¬(goT t a.dropLast)...*<a...*:=by lia
   rw[mI aq] at q L;let ai:(goT t a.dropLast)...*=a...*:=by lia
   refine oEA (kY t a.dropLast) λs hs bb=>?_;rw[hs] at q L;refine oEA (m4 hR hs) λxv ak am=>?_;let a4:(goT t a.dropLast)[a...* - 1]? =Y s:=by rw[bG,ai] at hs;exact hs
   refine oAA (zFy a.dropLast t _ s y.few a4) λs1 s2 s3=>?_;let ar:k∈a:=List.mem_of_getLast? hk;let an:atI (a.map kV) (-1)=Y (kV k):=zCg (by rw[List.getLast?_map,hk];rfl);let sp:T.pure s:=kO _ s (mE _) (c6 ∅ _ s1);refine zY (SqL.of af) (zCg ak) (zY (SqL.of (g1 _ _ y.pa)) an {xv,s,J,k,O,am,sp,∅,y.ok k ar,λH2 g2=>{_,O, ?_}});let N:=g1.trans g2
   by_cases hc:xZ J s k=true
   ·let q:=q _ (mP hc)
    refine iN (by rw[hc];decide) (zY (SqL.of (g2 _ _ af)) (zCg ak) (zY (SqL.of (N _ _ y.pa)) an {xv,s,J,k,vn,n,m,O,Rep.same g2 _ _ am,s1,∅,∅,y.ok k ar,hc,Rep.same N _ _ hn,λv' H3 g3 aw=>?_}));let aj:=N.trans g3;let a5:=g3 _ _ (g2 _ _ af);let ac:=aj _ _ y.pa;let ay:=Reps.same (g2.trans g3) _ _ hR;let bc:=hR...*;refine nEA _ (SqL.of ac) ?_;rw[mN];refine nAA ∅ ∅ ?_;rw[show((a...*:Int)- 2+1).toNat=a...* - 1 by lia];refine zTd (λi σ' H'=>∃o c r,σ'= [Y v,Y (.str J.s),Y (.ref pa),Y vn,Y (.ref p),Y c,o]/\Same H3 H'/\Rep H' c r/\i<=a...* - 1/\bld (goT t a.dropLast) a (a...* - 1 - i) r=bld (goT t a.dropLast) a (a...* - 1) (yP J s k n)) {_,v',_,O,Same.refl _,aw,nR _,O} ?_ ?_
    ·intro i σ' H' hi D
     ext zU D o c r ae g D;ext oAA D ab av hb;subst ae;lk;obtain⟨M,hM⟩:∃M,a...* - 1 - i=M+1:={a...* - 2 - i,∅};let a9:(a...*:Int)- 2 - (i:Int)=(M:Int):=by lia
     rw[a9];refine zU (zLa a.dropLast t M ∅) λk' u' u2 h1 h2 D=>?_;ext oA D h3 h4;let ag:a[M]? =Y k':=by
      rw[List.getElem?_dropLast,mP ∅] at h1;exact h1
     refine oAA (zFy a.dropLast t M u' y.few h2) λa1 a2 a3=>?_;let ah:M<xs...*:=by lia
     refine oEA (ay.get (i:=M) (v:=xs[M]) (mQ ah)) λu1 al au=>?_;rw[h2] at al;cases al;let ap:=y.ok k' (mO ag);refine zY (SqL.of (g _ _ a5)) (zQ (mQ ah)) (zY (SqL.of (g _ _ ac)) (zQ (j:=M) (by rw[nH,ag];rfl)) {_,u', .put,k',c,r,m,O,Rep.same g _ _ au,a1,∅,∅,ap,yAi ap h4,ab,λv4 H4 g4 a7=>{_,v4,⟨O,O⟩,g.trans g4,_,a7,∅, ?_}});let e1:(goT t a.dropLast).getD M .non=u':=by rw[sJ,h2];rfl
     let e2:a.getD M (.inl 0)=k':=by rw[sJ,ag];rfl
     rw[hM] at hb;let aa:bld (goT t a.dropLast) a M (yP .put ((goT t a.dropLast).getD M .non) (a.getD M (.inl 0)) r)=_:=hb;rw[e1,e2] at aa;rw[show a...* - 1 - (i+1)=M by lia];exact aa
    ·intro σ' H' D
     ext zU D o c r ae g D;ext oAA D ab av hb;subst ae;lk;rw[show a...* - 1 - (a...* - 1)=0 by lia] at hb;let aa:r=_:=hb;rw[aa] at ab;exact q c H' (aj.trans g) ab
   ·let a8:xZ J s k=false:=by cases hq:xZ J s k with | true=>exact absurd hq hc | false=>rfl
    let L:=L _ (mI hc);refine iP a8 {_,SqL.of (N _ _ y.pa),_,_,⟨O,O⟩,λd hd=>?_};let qq:=L.of N hd;rw[show(((a...* - 1:Nat)):Int)=((a.map kV)...*:Int)- 1 by rw[mN];lia] at qq;exact qq
  ·let L:=L _ (mP az)
   rw[show((((goT t a.dropLast)...* - 1:Nat)):Int)=((goT t a.dropLast)...*:Int)- 1 by lia] at L;exact L
end
theorem zNk{t:T}{k:Key}{st:B0}{ks:B8}:∀(m:Nat)(r:T),bld (t::st) (k::ks) (m+1) r=yP .put t k (bld st ks m r)
 |0,r=>rfl|m+1,r=>by
  show bld (t::st) (k::ks) (m+1) (yP .put (st.getD m .non) (ks.getD m (.inl 0)) r)=_;rw[zNk m]
  rfl
theorem zNv{w:Wd}{n:T}:∀(ks:B8)(t r:T),doT w n ks t=Y r->chG w (λs k=>yP w s k n) t ks n= .inr r
 |[],t,r,h=>by
  cases w with|put=>exact congrArg Sum.inr (mU h)|ins=>cases h|tak=>cases h
 |[k],t,r,h=>by
  let p:(if xZ w t k=true then Y (yP w t k n) else none)=Y r:=h
  by_cases i:xZ w t k=true
  ·rw[mP i] at p
   let e:=mU p;subst e;show(if 1<1 then Sum.inl 0 else(if xZ w t k=true then Sum.inr (yP w t k n) else Sum.inl 0:Sum Nat T))=_;rw[mI ∎,mP i]
  ·rw[mI i] at p;cases p
 |k::d::ks,t,r,h=>by
  rw[kP (by simp)] at h
  cases x:zV t k with
  |none=>rw[x] at h;cases h|some s=>
   rw[x] at h;obtain⟨B,q,e⟩:=rL.mp h;subst e;let f:=zNv (d::ks) s B q;let v:goT t (k::(d::ks).dropLast)=t::goT s (d::ks).dropLast:=by
    show(match zV t k with | none=>[t] | some u=>t::goT u (d::ks).dropLast)=_
    rw[x]
   unfold chG at f⊢;obtain⟨o,l⟩:∃o,(d::ks).getLast? =Y o:={_,cN (dM _ _)};let j:(k::d::ks).getLast? =Y o:=by rw[tY];exact l
   rw[l] at f;rw[j];let y:(k::d::ks).dropLast=k::(d::ks).dropLast:=rfl;dsimp only at f⊢;rw[y,v]
   by_cases c:(goT s (d::ks).dropLast)...*<(d::ks)...*
   ·rw[mP c] at f;cases f
   rw[mI c] at f;rw[mW,mW (as:=d::ks),mI ∅];obtain⟨z,g,_⟩:=kY s (d::ks).dropLast;let m:(t::goT s (d::ks).dropLast).getLast? =Y z:=by
    cases A:goT s (d::ks).dropLast with|nil=>rw[A] at g;cases g|cons a b=>rw[tY,<-A];exact g
   rw[g] at f;rw[m];dsimp only at f⊢
   by_cases i:xZ w z o=true
   ·rw[mP i] at f⊢
    let e:=Sum.inr.inj f;rw[show(d::ks)...*+1 - 1=((d::ks)...* - 1)+1 by rw[mW];lia,zNk,e]
   ·rw[mI i] at f;cases f
end K43
namespace K43
open PySem L2 PySem.W
seal L2.PSs L2.PS L2.PE L2.PT L2.PW L2.PA L2.PI L2.PG L2.PGs L2.PPs L2.PTs
theorem zXa{w:Wd}{n:T}:∀(ks:B8)(t:T),doT w n ks t=none->∃j:Nat,chG w (λs k=>yP w s k n) t ks n= .inl j
 |[],t,h=>by
  cases w with|put=>cases h|ins=>exact{0,O}|tak=>exact{0,O}
 |[k],t,h=>by
  let x:(if xZ w t k=true then Y (yP w t k n) else none)=none:=h
  by_cases o:xZ w t k=true
  ·rw[mP o] at x;cases x
  ·refine{0, ?_}
   show(if 1<1 then Sum.inl 0 else(if xZ w t k=true then Sum.inr (yP w t k n) else Sum.inl 0:Sum Nat T))=_;rw[mI ∎,mI o]
 |k::d::ks,t,h=>by
  rw[kP (by simp)] at h;obtain⟨v,m⟩:∃v,(d::ks).getLast? =Y v:={_,cN (dM _ _)};let g:(k::d::ks).getLast? =Y v:=by rw[tY];exact m
  let q:(k::d::ks).dropLast=k::(d::ks).dropLast:=rfl
  cases y:zV t k with
  |none=>
   let l:goT t (k::(d::ks).dropLast)= [t]:=by
    show(match zV t k with | none=>[t] | some u=>t::goT u (d::ks).dropLast)=_
    rw[y]
   refine{0, ?_};unfold chG;rw[g];dsimp only;rw[q,l,mP (by simp only[mW,rB];lia)]
   rfl
  |some s=>
   rw[y] at h;let x:doT w n (d::ks) s=none:=by
    cases e:doT w n (d::ks) s with
    |none=>rfl|some r=>
     let B:(doT w n (d::ks) s).map (λr=>yP .put t k r)=none:=h;rw[e] at B;cases B
   obtain⟨j,i⟩:=zXa (d::ks) s x;let l:goT t (k::(d::ks).dropLast)=t::goT s (d::ks).dropLast:=by
    show(match zV t k with | none=>[t] | some u=>t::goT u (d::ks).dropLast)=_
    rw[y]
   unfold chG at i⊢;rw[m] at i;rw[g];dsimp only at i⊢;rw[q,l]
   by_cases c:(goT s (d::ks).dropLast)...*<(d::ks)...*
   ·rw[mP (by rw[mW,mW (as:=d::ks)];lia)]
    exact⟨_,O⟩
   rw[mI c] at i;rw[mW,mW (as:=d::ks),mI ∅];obtain⟨z,f,_⟩:=kY s (d::ks).dropLast;let p:(t::goT s (d::ks).dropLast).getLast? =Y z:=by
    cases A:goT s (d::ks).dropLast with|nil=>rw[A] at f;cases f|cons a b=>rw[tY,<-A];exact f
   rw[f] at i;rw[p];dsimp only at i⊢
   by_cases o:xZ w z v=true
   ·rw[mP o] at i;cases i
   ·rw[mI o]
    exact⟨_,O⟩
abbrev sAd:V6:=top 48
abbrev jM:V6:=yDd (top 22)
theorem yCv:wF ["self","text","number"] ["self","text","number"] (yB jM):=by walk_at "sc"
section
variable{P:V3}{w:V4}{K:PySem.W.Frag}{mg:C8}{base:V5}{C B fI dT:V1}{nm:Str}{oc kV doc pm cdv ct:V0}{od an:Option V1}{osl:Array (Option V0)}
theorem zZe(lk:K.lookup fI=Y {oc,od, .func (fnOf "__init__" "NoDeed.__init__" (wH jM) (xQ jM) (yB jM) (.ref dT) kV doc pm an cdv ct),osl})(f:codeIn K cdv "NoDeed.__init__" =true)(c:zEb K nm C B fI)(e:findIn K (.ref C) "number" =Y none)(b:zSa K B)(g:mg "CabinetError" =Y (.ref B)):
  zNq P w K mg base 1 fI (fnOf "__init__" "NoDeed.__init__" (wH jM) (xQ jM) (yB jM) (.ref dT) kV doc pm an cdv ct) ["self","text","number"] (zRy C "number"):=by
 refine yGr (k:=0) lk f yCv (λm H Q E h=>?_) λA i s H m Q E o h=>?_
 ·ext zEo h x j v a _
  subst a
  rfl
 ext zU h x j v a l q;subst a;refine nEA _ (zD (wP (zMp c b O g (zA (pv 0) (zA (pv 1) zB)))) (zG (zWj c e (pv 2) (pv 0)))) ?_;refine{x,j,O,l,x,O,l,λd n=>q d n}
theorem zMr{o:Obj}{items:Array V0}{n:Nat}(h:K.lookup dT=Y o)(e:o.data= .seq items n)(f:items.size=1):Binds K (fnOf "__init__" "NoDeed.__init__" (wH jM) (xQ jM) (yB jM) (.ref dT) kV doc pm an cdv ct) ["self","text","number"] []:=λs i g d=>by
 rw[pJ] at d⊢;obtain⟨l⟩:=items
 obtain⟨_,z⟩:=len1 (us:=l) f;obtain⟨_,_,_,y⟩:=len3 d;subst z y;exact binds_K g O h e O O
end
def XNo(C:V1)(j:Int)(H:Hp)(E:XK):Prop:=∀d a,Same H a->a d=Y (.xd [("number", .int j)])->E (.ref C) ↥d a
theorem XNo.of{C:V1}{n:Int}{H H1:Hp}{E:XK}{d:V1}(h:XNo C n H E)(g:Same H H1)(a:H1 d=none):E (.ref C) ↥d (upd H1 d (.xd [("number", .int n)])):=h d _ (g.trans (zF a _)) zC
def Dlay(H:Hp)(v:V)(d:Dd):Prop:=∃b a r,v= .ref b/\H b=Y (.tup (.str d.1.s:: .ref a::r))/\H a=Y (.lst (d.2.1.map kV))/\((d.1= .tak/\r= [])\/(d.1≠ .tak/\∃x,r= [x]/\Rep H x d.2.2))
theorem Dlay.same{H e:Hp}{v:V}{d:Dd}(g:Same H e)(h:Dlay H v d):Dlay e v d:=by
 ext zU h k i r j m f;ext oA f n l;exact{k,i,r,j,g _ _ m,g _ _ n,l.imp id fun⟨a,x,b,c⟩=>{a,x,b,Rep.same g _ _ c}}
section
variable{P:V3}{w:V4}{K:PySem.W.Frag}{mg:C8}{base:V5}{f:V1}{fd:V7}{C C2:V1}
def spAd(C2:V1):Sp:=λc H Q E=>∃(v x:V)(j:Int)(s:T)(d:Dd)(m:Nat),c= [v,x, .int j]/\Rep H v s/\T.fewm m s/\m<62/\T.sz s<=50000/\Dlay H x d/\(∀k∈d.2.1,okS k)/\d.2.1...*<=8/\(∀r,doT d.1 d.2.2 d.2.1 s=Y r->∀b a,Same H a->Rep a b r->Q b a)/\(doT d.1 d.2.2 d.2.1 s=none->XNo C2 j H E)
theorem ok_ad(F:Fun K "after_deed" "after_deed" sAd f fd)(B:Bl mg)(Gx:Dx nC P w K mg base 5 "change_shared" ["thing","word","path","new"] (yBg C))(a:Xh P w K mg base 1 "NoDeed" C2 "number")(RB:Xb K mg "NoPlace" C):FnOk P w K mg base (CXE aC P w) 6 f fd ["thing","deed","number"] (spAd C2):=by
 refine F.okxn (N:=["thing","deed","number","new","refusal"]) λac A L s H vs Q E nd hr h=>?_;obtain⟨v,x,j,s,d,m,rfl,hv,hf,hm,hz,⟨tp,J,rr,rfl,c,I,D⟩,M,aa,q,qx⟩:=h;refine{_,(zD (pS 3 nd (zNp (pT kS (zN kI O B.len yS (zA (pv 1) zB)) zE) (pX vP (pv 1) zE) uU))
  (zG (zOr (tb:=λE'=>zMs (gY (yBg C) [] E' (vK (jC 0) (vK (tOp (zUu K) (jC 1) (tC (.int 0))) (vK (tOp (zUu K) (jC 1) (tC (.int 1))) (vK (jC 3) zAh)))))) (ta:=vK (tC (.str "a deed whose path doesn't lead as it wants it")) (vK (jC 2) zAh)) (φ:=aC) (E:=E) (i:=4) (f:="number") a RB hr ∅ O O nd O O (nO O) lvs (λ_=>mK) (λab W E' σ l=>zXz (yFe Gx hr ∅ O l (zA (pv 0) (zA (pX vP (pv 1) zE) (zA (pX vP (pv 1) zE) (zA (pv 3) zB)))))) (λ_=>zA zL (zA (pv 2) zB))))), ?_}
 walk_at "st";unfold zLx;lk;let hT:Tq m H v s J d.2.1:={hv,hf,hm,hz,I,λk hk=>(M k hk).k,aa};let fx:∀(y:V)(n:T),doT d.1 n d.2.1 s=doT d.1 d.2.2 d.2.1 s->∀i:Nat,chG d.1 (λs k=>yP d.1 s k n) s d.2.1 n= .inl i->XAt C (i:Int) H (zRb C C2 4 (A8 "number") (vK (tC (V.str (A8 "a deed whose path doesn't lead as it wants it"))) (vK (jC 2) zAh)) E [Y v,Y (V.ref tp),Y (V.int j),Y y,none]):=λy n o i b=>by
  let t:doT d.1 d.2.2 d.2.1 s=none:=by
   cases e:doT d.1 n d.2.1 s with|none=>rw[<-o];exact e|some r=>rw[zNv _ _ _ e] at b;cases b
  exact λdx p g _=>{O,λx hx=>{zC,_,_,O,λd2 z=>(qx t).of (g.trans (zF hx _)) z}}
 let fr:∀(n r:T),doT d.1 n d.2.1 s=doT d.1 d.2.2 d.2.1 s->chG d.1 (λs k=>yP d.1 s k n) s d.2.1 n= .inr r->∀v' p,Same H p->Rep p v' r->Q v' p:=λn r o b=>by
  cases e:doT d.1 n d.2.1 s with
  |none=>obtain⟨i,u⟩:=zXa _ _ e;rw[u] at b;cases b
  |some r'=>
   rw[zNv _ _ _ e] at b;let e2:=Sum.inr.inj b;rw[e2] at e;exact q r (by rw[<-o];exact e)
 rcases D with⟨hw,rfl⟩|⟨hw,y,rfl,hy⟩
 ·let o:doT d.1 .non d.2.1 s=doT d.1 d.2.2 d.2.1 s:=by rw[hw];exact zJu _ _
  exact nEA _ (.inr (SqT.of c)) (iN (by show¬(2:Int)<((2:Nat):Int);decide) (wR (SqT.of c) (zQ (j:=0) O) (wR (SqT.of c) (zQ (j:=1) O) {v,s,d.1,J,d.2.1, .non, .non,m,O,hT,O,λr h=>fr _ r o h,fx _ _ o})))
 ·exact nEA _ (.inr (SqT.of c)) (iP (by show(2:Int)<((3:Nat):Int);decide) (wR (SqT.of c) (zQ (j:=2) O) (wR (SqT.of c) (zQ (j:=0) O) (wR (SqT.of c) (zQ (j:=1) O) {v,s,d.1,J,d.2.1,y,d.2.2,m,O,hT,hy,λr h=>fr _ r O h,fx _ _ O}))))
end
end K43
namespace K43
open PySem L2
seal L2.PSs L2.PS L2.PE L2.PT L2.PW L2.PA L2.PI L2.PG L2.PGs L2.PPs L2.PTs
abbrev sSgn:V6:=top 11
abbrev sSnd:V6:=top 13
abbrev sHp:V6:=top 14
abbrev sPo:V6:=top 15
abbrev sPz:V6:=top 16
abbrev sTh:V6:=top 12
noncomputable def vZ(us:B0):List T:=(us.map wW).flatten
theorem zPg(us:B0)(u:T):vZ (us++ [u])=vZ us++wW u:=by simp[vZ]
theorem zNj:∀us:List T,T.szs (us.filter wV)<=T.szs us
 |[]=>mE _|u::us=>by
  let b:=zNj us;show _<=T.sz u+T.szs us
  cases a:wV u with
  |true=>
   rw[sB a];show T.sz u+_<=_
   lia
  |false=>
   rw[sC (by rw[a];decide)]
   lia
theorem zRk:∀us:List T,T.szs (vZ (us.filter wV))+us...*<=T.szs us
 |[]=>mE _|u::us=>by
  let b:=zRk us;show _<=T.sz u+T.szs us;rw[mW]
  cases a:wV u with
  |true=>
   rw[sB a];let e:vZ (u::us.filter wV)=wW u++vZ (us.filter wV):=rfl;rw[e,d9];let:=(uT a).2.1
   lia
  |false=>
   rw[sC (by rw[a];decide)];let:=yFb u
   lia
theorem zNr(a:B0)(i:Nat):T.szs (a.take i)<=T.szs a:=by
 let:=szs_append (a.take i) (a.drop i);rw[aS] at this
 lia
noncomputable def zBu:T->Bool
 |.lst us=>decide (us...*<=60)|.dic ks _=>decide (ks...*<=30)|_=>true
noncomputable def thL:Nat->Nat->List T->Bool
 |0,_,_=>false|n+1,z,a=>decide (z+a...*<=200)&& (a.all zBu && ((a.filter wV).isEmpty || thL n (z+a...*) (vZ (a.filter wV))))
theorem zJf:∀us a:List T,xM (us++a)=(xM us && xM a)
 |[],_=>rfl|u::us,a=>by
  show(lnar u && xM (us++a))=((lnar u && xM us)&& xM a);rw[zJf us a,Bool.and_assoc]
theorem zLg:∀us a:List T,vY (us++a)=vY us+vY a
 |[],a=>by show vY a=0+vY a;lia|u::us,a=>by
  show lsz u+vY (us++a)=(lsz u+vY us)+vY a;rw[zLg us a];lia
theorem zIt:∀us a:List T,wD (us++a)=max (wD us) (wD a)
 |[],a=>by show wD a=max 0 (wD a);lia|u::us,a=>by
  show max (vU u) (wD (us++a))=max (max (vU u) (wD us)) (wD a);rw[zIt us a];lia
theorem zEz{u:T}(h:wV u=false):vU u=0/\lsz u=1/\lnar u=true/\zBu u=true:=by
 cases u with|lst a=>cases h|dic b a=>cases h|_=>exact⟨O,O,O,O⟩
theorem zZp{u:T}(h:wV u=true):lnar u=(zBu u && xM (wW u)):=by
 cases u with|lst a=>rfl|dic b a=>rfl|_=>cases h
theorem zDp(u:T)(us:B0):vZ (u::us)=wW u++vZ us:=rfl
theorem zMf:∀us:List T,xM us=(us.all zBu && xM (vZ (us.filter wV)))
 |[]=>rfl|u::us=>by
  let b:=zMf us;show(lnar u && xM us)=_;rw[bW,b]
  cases a:wV u with
  |true=>
   rw[sB a,zDp,zJf,zZp a];cases zBu u<;>cases us.all zBu<;>cases xM (wW u)<;>rfl
  |false=>
   rw[sC (by rw[a];decide),(zEz a).2.2.1,(zEz a).2.2.2,tL,tL]
theorem zQz:∀us:List T,vY us=us...*+vY (vZ (us.filter wV))
 |[]=>rfl|u::us=>by
  let b:=zQz us;show lsz u+vY us=_;rw[mW]
  cases a:wV u with
  |true=>
   rw[sB a,zDp,zLg,(uT a).2.2.2]
   lia
  |false=>
   rw[sC (by rw[a];decide),(zEz a).2.1]
   lia
theorem zQm(n:Nat):∀us:List T,wD us<n+1↔((us.filter wV)= []\/wD (vZ (us.filter wV))<n)
 |[]=>{λ_=>.inl O,λ_=>Nat.succ_pos n}|u::us=>by
  let b:=zQm n us;let e:wD (u::us)=max (vU u) (wD us):=rfl;rw[e]
  cases a:wV u with
  |true=>
   let k:=(uT a).2.2.1;rw[sB a,zDp,zIt];constructor
   ·intro h
    let c:=b.mp ∅;refine .inr ?_;rcases c with z | z
    ·rw[z]
     let d:wD (vZ [])=0:=rfl;rw[d];lia
    ·lia
   ·intro h
    rcases h with z | z
    ·cases z
    ·let:=b.mpr (.inr ∅)
     lia
  |false=>
   let k:=(zEz a).1;rw[sC (by rw[a];decide)];constructor
   ·exact λh=>b.mp ∅
   ·intro h
    let:=b.mpr h
    lia
theorem zMx:∀(n z:Nat)(us:B0),thL n z us=(xM us && (decide (wD us<n)&& decide (z+vY us<=200)))
 |0,z,us=>by
  rw[show decide (wD us<0)=false from nJ ∅,sY,tR]
  rfl
 |n+1,z,us=>by
  let e:thL (n+1) z us=(decide (z+us...*<=200)&& (us.all zBu && ((us.filter wV).isEmpty || thL n (z+us...*) (vZ (us.filter wV))))):=rfl
  rw[e,zMx n,zMf us,zQz us,aA];let c:=zQm n us;simp only[pA,Bool.or_eq_true,decide_eq_true_iff,List.isEmpty_iff];constructor
  ·rintro⟨d,a,b⟩
   rcases b with z' |⟨f,h,i⟩
   ·rw[z']
    let g:vY (vZ [])=0:=rfl;exact nAA ⟨a,O⟩ (c.mpr (.inl z')) (by rw[g];lia)
   ·exact nAA ⟨a,f⟩ (c.mpr (.inr h)) ∅
  ·rintro⟨⟨d,a⟩,b,f⟩
   refine nAA ∅ d ?_;rcases c.mp b with z' | z'
   ·exact .inl z'
   ·exact .inr {a,z',∅}
theorem yBt(t:T):thL 9 0 [t]=xU t:=by
 rw[zMx];let b:xM [t]=(lnar t && true):=rfl;let c:wD [t]=max (vU t) 0:=rfl;let a:vY [t]=lsz t+0:=rfl;rw[b,c,a,Bool.and_true];unfold xU;rw[Bool.and_assoc]
 congr 1
 congr 1
 ·exact aY.mpr ∅
 ·exact aY.mpr ∅
theorem yFk{t u:T}(h:T.gk t)(a:u∈wW t):T.gk u:=by
 cases t with|lst b=>exact d6 (show k6 b from h) a|dic c b=>exact d6 (show(∀k∈c,xF k=true)/\k6 b from h).2 a|_=>cases a
theorem zRi{t u:T}(h:T.few t)(a:u∈wW t):T.few u:=by
 cases t with|lst b=>exact b9 h.2 a|dic c b=>exact b9 h.2.2.2 a|_=>cases a
section
variable{P:V3}{w:V4}{K:A9}{mg:C8}{base:V5}{f:V1}{fd:V7}
def yEn:Sp:=λb H Q _=>∃c:Nat,b= [.str (tx [c])]/\∀a,Same H a->Q (.bl (decide (c∈zDh))) a
theorem zJn(c:Nat):c∈zDh↔32<=c/\c<=126/\c≠37:=by
 unfold zDh;rw[bC,nV];constructor
 ·rintro⟨⟨i,a,rfl⟩,h⟩
  let:=tQ.mp a;simp at h
  lia
 ·rintro⟨e,d,b⟩
  exact{{c - 32,tQ.mpr ∅,∅},by simp[b]}
theorem yFn(F:Fun K "is_text_sign" "is_text_sign" sSgn f fd)(B:Bl5 mg):FnOk P w K mg base CX0 1 f fd ["sign"] yEn:=by
 refine F.okn (N:=["sign"]) λo A i s H t Q E r u h=>?_;ext oEA h c g q;subst g;refine nEA _ (zG (zI (vQ (zMv zIf zIf zL (pv 0) zL) (qC (pE zEp (zN zVx O B.ord yGo (zA (pv 0) zB)) zE))))) ?_;walk_at "st";lk;let p:ts (A8 " ")= [32]:=by decide+kernel
 let n:ts (A8 "~")= [126]:=by decide+kernel
 let l:ts (tx [c])= [c]:=rfl;let m:(↑((#[c]:Array Nat).getD 0 0):Int)=(c:Int):=rfl;let d:∀a b:Nat,([a]:List Nat)< [b]↔a<b:=λa b=>by
  constructor
  ·intro h
   cases h with|rel h=>exact h|cons h=>cases h
  ·exact λh=>.rel h
 let z:=q H (Same.refl H);rw[p,n,l,m]
 by_cases k:c<32
 ·refine nEA false (by rw[nF ((d _ _).mpr k)];rfl) (zTp ?_)
  rw[nJ (λh=>by let:=(zJn c).mp h;lia)] at z;exact z
 ·refine nEA true (by rw[nJ (λh=>k ((d _ _).mp h))];rfl) (zPo ?_)
  by_cases j:126<c
  ·refine nEA false (by rw[nF ((d _ _).mpr j)];rfl) (zTp ?_)
   rw[nJ (λh=>by let:=(zJn c).mp h;lia)] at z;exact z
  ·refine nEA true (by rw[nJ (λh=>j ((d _ _).mp h))];rfl) (zPo {O, ?_})
   let e:decide (c∈zDh)= !decide ((c:Int)=37):=by
    rw[aA,decide_eq_true_iff,zJn];simp
    lia
   rw[e] at z;exact z
theorem zCs(n:Nat):(List.replicate n true).all id=true:=by simp
theorem zDe(i:Nat):(List.replicate i true).map V.bl++ [V.bl true]=(List.replicate (i+1) true).map V.bl:=by rw[List.replicate_succ',nI];rfl
def yDo:Sp:=λb H Q _=>∃(v:V)(t:T),b= [v]/\Rep H v t/\T.gk t/\T.few t/\T.sz t<=5000/\∀a,Same H a->Q (.bl (zBu t)) a
theorem yIm(F:Fun K "is_sound_outside" "is_sound_outside" sSnd f fd)(B:Bl5 mg)(M:Ms mg)(l:Dn P w K mg base 1 "kind_of" ["thing"] zJq)(j:Dn P w K mg base 1 "is_text_sign" ["sign"] yEn)(m:Dn P w K mg base 1 "is_name" ["thing"] zPh):FnOk P w K mg base CX0 2 f fd ["thing"] yDo:=by
 refine F.okn (N:=["thing","kind"]) λak A ag s H vs Q E nd hr h=>?_;ext zR h v u n r y z_;ext oAA z_ ai am q;subst n;refine{_,(zD (pS 1 nd (pD l hr (zA (pv 0) zB)))
  (zD (zT (pT xN (pv 1) zL) (zG (zI (pE uE (zN zVr O B.abs yIq (zA (pv 0) zB)) (zJ zAn zE zE)))) zK)
  (zD (zT (pT xN (pv 1) zL) (zG (zI (vQ (pE uE (zN zDa O B.len yS (zA (pv 0) zB)) (zCj O M.MOST_IN_TEXT)) (qC (zN (gC O) O B.all zCa (zA (xS (own:=["sign"]) (F:=[]) {O,tb_g%,tb_g%,tb_g%, .nil} O (zYb (pv 0)) (λ_ _ _ _=>yG (i:=0) (by show(xW ["sign"] []).Nodup;decide+kernel) O (nO O)) (λ_ _ _ _=>yT) (λ_ _ _ _=>(pD j hr (zA (pv 0) zB)))) zB)))))) zK)
  (zD (zT (pT xN (pv 1) zL) (zG (zI (pE uE (zN yE O B.len yS (zA (pv 0) zB)) (zCj O M.MOST_IN_ROW)))) zK)
  (zD (zT (pT xN (pv 1) zL) (zG (zI (vQ (pE uE (zN zTf O B.len yS (zA (pv 0) zB)) (zCj O M.MOST_IN_RECORD)) (qC (zN (gC O) O B.all zCa (zA (zFh (xS (own:=["name"]) (F:=[]) {O,tb_g%,tb_g%,tb_g%, .nil} O (zJi (pv 0)) (λ_ _ _ _=>yG (i:=0) (by show(xW ["name"] []).Nodup;decide+kernel) O (nO O)) (λ_ _ _ _=>yT) (λ_ _ _ _=>(pD m hr (zA (pv 0) zB))))) zB)))))) zK)
  (zG (zI (zOv (zFb (pv 1)))))))))), ?_}
 walk_at "st";lk;refine{v,_,O,(Rep.rp _ _ r).ty,λH1 g1=>?_};let r:=Rep.same g1 _ _ r;let z:=q _ g1
 cases u with
 |lst J=>
  rw[show wM (tyT (T.lst J))= .str "row" from by show wM "list" =_;decide+kernel];ext yL r a vs n ha hs;subst n;let hl:=hs...*;refine{O,iN (by decide+kernel) {O,iN (by decide+kernel) {O,iP O {a,O,vs,SqL.of ha, ?_}}}};rw[show decide ((vs...*:Int)<=60)=decide (J...*<=60) from aY.mpr ∅];exact z
 |dic t J=>
  rw[show wM (tyT (T.dic t J))= .str "record" from by show wM "dict" =_;decide+kernel];ext zR r a ps n ha hk hs;subst n;let af:∀k∈t,xF k=true:=(show(∀k∈t,xF k=true)/\k6 J from y).1;let ac:ps...*=t...*:=by let:=congrArg List.length hk;simpa using this
  refine{O,iN (by decide+kernel) {O,iN (by decide+kernel) {O,iN (by decide+kernel) {O,iP O {a,O,ps, .inl ha, ?_}}}}};let z0:Q (.bl (decide (t...*<=30))) H1:=z
  by_cases al:30<t...*
  ·rw[mI (by rw[ac];lia)]
   rw[nJ ∅] at z0;exact z0
  let ab:t...*<=30:=by lia
  rw[mP (by rw[ac];lia)];refine zVw a O ps (.inl {ha,λo=>?_});refine zDz (λi zs I=>Same (upd H1 a (.frz o (.dK ps))) I/\zs=(List.replicate i true).map V.bl) (by rw[mS];lia) {Same.refl _,O} (λi zs I h=>h.1 _ _ zC) ?_ ?_
  ·rintro i kv zs I ae _ ⟨g,rfl⟩
   let D:(t.map nK)[i]? =Y kv.1:=by rw[<-hk,nH,ae];rfl
   rw[nH] at D;refine oEA (rL.mp D) λk D e=>?_;let aa:=af k (mO D);let L:=zFu aa;rw[<-e];lk;refine{_,"str",O,O,λx e=>?_,λH3 g3=>{g.trans g3, ?_}}
   ·let e':tx k=x:=V.str.inj e
    rw[<-e',kZ];lia
   ·show _++ [V.bl (xF (ts (tx k)))]=_
    rw[qZ,aa];exact zDe i
  ·rintro zs I _ ⟨g,rfl⟩ p hp
   let g2:=g.trans (zF hp (.lst ((List.replicate ps...* true).map V.bl)));refine qR p O _ (SqL.of (vR zC (by intro o v z;cases z))) ?_;rw[zCs];let q2:Q (.bl (decide (t...*<=30))) _:=q _ (g1.trans (uG (o:=o) ha g2));rw[nF ab] at q2;exact q2
 |non=>
  cases (show v=_ from r);exact{by decide+kernel,iN (by decide+kernel) {by decide+kernel,iN (by decide+kernel) {by decide+kernel,iN (by decide+kernel) {by decide+kernel,iN (by decide+kernel) z}}}}
 |bl b=>
  cases (show v=_ from r);rw[show wM (tyT (T.bl b))= .str "truth" from by show wM "bool" =_;decide+kernel];exact{O,iN (by decide+kernel) {O,iN (by decide+kernel) {O,iN (by decide+kernel) {O,iN (by decide+kernel) z}}}}
 |int i=>
  cases (show v=_ from r);obtain⟨c1,c2⟩:=(show -(10 ^ 12)<=i/\i<=10 ^ 12 from y);rw[show wM (tyT (T.int i))= .str "number" from by show wM "int" =_;decide+kernel];refine{O,iP O {i,O, ?_}};rw[show decide ((if i<0 then -i else i)<=1000000000000)=true from nF (by split<;>lia)];exact z
 |str b=>
  cases (show v=_ from r);obtain⟨ab,ah⟩:=(show b...*<=30/\∀c∈b,c∈zDh from y);rw[show wM (tyT (T.str b))= .str "text" from by show wM "str" =_;decide+kernel];let L:=kZ b;refine{O,iN (by decide+kernel) {O,iP O {tx b,O,∅, ?_}}};rw[mP ∅];refine nEA (tx b) O (zMo (λi ys I=>Same H1 I/\ys=(List.replicate i true).map V.bl) (by rw[mS,qZ];lia) {Same.refl _,O} ?_ ?_)
  ·rintro i d ys I hd _ ⟨hS,rfl⟩
   lk;refine{d,O,λH3 g3=>{hS.trans g3, ?_}};rw[qZ] at hd;rw[nF (ah d (mO hd))];exact zDe i
  ·rintro ys I aj ⟨hS,rfl⟩ p hp
   refine qR p O _ (SqL.of zC) ?_;rw[zCs];exact q _ (g1.trans (hS.trans (zF hp _)))
 |tup J=>exact(show False from y).elim
def spHp:Sp:=λb H Q _=>∃(v:V)(t:T),b= [v]/\Rep H v t/\∀a,Same H a->Q (.bl (wV t)) a
theorem ok_hp(F:Fun K "holds_parts" "holds_parts" sHp f fd)(B:Bl mg):FnOk P w K mg base CX0 1 f fd ["thing"] spHp:=by
 refine F.okn (N:=["thing"]) λd A a s H j Q E i k h=>?_;ext yL h v u b c q;subst b;refine nEA _ (zG (zI (zN (zNy (T:="list") (W:="dict") ∎ ∎) O B.isinstance zH (zA (pv 0) (zA (xH (zA (wA (v:=.ty "list") O B.list yQ O) (zA (wA (v:=.ty "dict") O B.dict xJ O) zB))) zB))))) ?_;walk_at "st";lk;intro p e;let g:=zF e (.tup [V.ty "list",V.ty "dict"]);refine qX v (tyT u) p ⟨O,O⟩ zC (nA ((Rep.rp _ _ (Rep.same g _ _ c)).ty) ?_);let z:=q _ g;rw[<-zQh] at z;exact z
def spPo:Sp:=λd H Q _=>∃(b:Hp)(v:V)(t:T),d= [v]/\Same b H/\Rep b v t/\wV t=true/\∀l c a,Same H a->a l=Y (.lst c)->Reps b c (wW t)->Q (.ref l) a
theorem ok_po(F:Fun K "parts_of" "parts_of" sPo f fd)(B:Bl mg):FnOk P w K mg base CX0 1 f fd ["thing"] spPo:=by
 refine F.okn (N:=["thing"]) λt A n s H J Q E I hr h=>?_;ext zU h L v u e k x;ext oAA x i z q;subst e;refine{_,(zD (zT (yD (zN (kL (T:="dict") ∎) O B.isinstance zH (zA (pv 0) (zA (wA (v:=.ty "dict") O B.dict xJ O) zB)))) (zG (zI (yJ (zMj O) O B.list yQ (zA (yHr bL PySem.F.slot_dict_values PySem.F.type_dict_values zUh (pv 0)) zB)))) zK)
  (zG (zI (yJ kF O B.list yQ (zA (pv 0) zB))))), ?_}
 walk_at "st";lk;let d:=(Rep.rp _ _ (Rep.same k _ _ i)).ty
 cases u with
 |lst D=>
  ext yL i a r b c o;subst b;exact nEA ("list") d (iN (by decide+kernel) {a,O,r, .inl (SqL.of (k _ _ c)),λl m=>q l r _ (zF m _) zC o})
 |dic M D=>
  ext zR i a j b c hk o;subst b;refine nEA ("dict") d (iP (by decide+kernel) ?_);let c:=k _ _ c;refine{{a,j,O, .inl c},a,j,O,O, .inl c,λp y=>?_};let g:=zF y (zLv p a);exact kB p O a zC j (nA (.inl (g _ _ c)) (λl m=>q l _ _ (g.trans (zF m _)) zC o))
 |_=>cases z
def spPz:Sp:=λg H Q _=>∃(a:V1)(e:B3)(c:B0),g= [.ref a]/\H a=Y (.lst e)/\Reps H e c/\(∀u∈c,wV u=true)/\T.szs c<=10000/\∀l d b,Same H b->b l=Y (.lst d)->Reps b d (vZ c)->Q (.ref l) b
theorem zLp:∀us:List T,(∀u∈us,wV u=true)->(vZ us)...*<=T.szs us
 |[],_=>mE _|u::us,h=>by
  let:=zLp us λx a=>h x (mG _ a);let e:vZ (u::us)=wW u++vZ us:=rfl;rw[e,mM];show _<=T.sz u+T.szs us;let b:=d5 (wW u);let c:=(uT (h u mD)).2.1
  lia
theorem yFr(F:Fun K "parts_of_all" "parts_of_all" sPz f fd)(B:Bl mg)(b:Dn P w K mg base 1 "parts_of" ["thing"] spPo):FnOk P w K mg base CX0 2 f fd ["holders"] spPz:=by
 refine F.okn (N:=["holders","parts","holder"]) λaa A y s H vs Q E D hr h=>?_;ext zU h a xs m n L z_;ext xA z_ hs hh hz q;subst n;refine{_,(zD (pS 1 D (zZ zB))
  (zD (vX PassesOwn.never O (xG (pv 0)) (yG (i:=2) D O (nO O)) (zG (wP (jZ nY PySem.F.slot_list_extend PySem.F.type_list_extend zTv (pv 1) (zA (pD b hr (zA (pv 2) zB)) zB)))))
  (zG (zI (pv 1))))), ?_}
 walk_at "st";lk;intro p I;let J:=zF I (.lst []);refine{{_,SqL.of (J _ _ L)}, ?_};refine jN (K:=K) (a:=a) (xs:=xs) (λi σ j=>(∃o,σ= [Y (V.ref a),Y (V.ref p),o])/\Same H j/\∃d,j p=Y (.lst d)/\Reps H d (vZ (m.take i))) {⟨_,O⟩,J,[],zC,O} (λi σ j _ h=>SqL.of (h.2.1 _ _ L)) ?_ ?_
 ·rintro i x σ j r ⟨⟨o,rfl⟩,g,d,c,k⟩
  refine oEA (hs.get r) λu z t=>?_;let hm:=mO z;lk;refine{nO {O,_,SqL.of c},H,x,u,O,g,t,hh u hm,λl M H3 g3 v hZ=>?_};let h1:=k...*;let h2:=hZ...*;let h3:=zLp (m.take (i+1)) λx r=>hh x (tP r);let h4:=zNr m (i+1);let e:=zPg (m.take i) u;rw[<-yO z] at e;let h5:=congrArg List.length e;rw[mM] at h5;refine{p,l,d,M,O,O,g3 _ _ c,v,by rw[mS];lia,⟨_,O⟩,(g.trans g3).put I _,d++M,zC, ?_};rw[e];exact Reps.append hZ k
 ·rintro σ j ⟨⟨o,rfl⟩,g,d,c,k⟩
  lk;let v:=hs...*;rw[v,pG] at k;exact q p d j g c (Reps.same g _ _ k)
def zXu:Sp:=λb H Q _=>∃(v:V)(t:T),b= [v]/\Rep H v t/\T.gk t/\T.few t/\T.sz t<=5000/\∀a,Same H a->Q (.bl (xU t)) a
theorem ok_th(F:Fun K "is_thing" "is_thing" sTh f fd)(B:Bl mg)(M:Ms mg)(c:Dn P w K mg base 2 "is_sound_outside" ["thing"] yDo)(r:Dn P w K mg base 1 "holds_parts" ["thing"] spHp)(d:Dn P w K mg base 2 "parts_of_all" ["holders"] spPz):FnOk P w K mg base CX0 3 f fd ["thing"] zXu:=by
 refine F.okn (N:=["thing","level","size","depth","holders"]) λa8 A a2 s H vs Q E nd hr h=>?_;ext zR h v u aj hv a1 I;ext oAA I ar bc q;subst aj;refine{_,(zD (pS 1 nd (zZ (zA (pv 0) zB)))
  (zD (pS 2 nd zE)
  (zD (pS 3 nd zE)
  (zD (zXn PassesOwn.never (pT uE (pv 3) (zCj O M.MOST_DEPTH)) (zD (zZb (i:=2) nd O (nO O) (zN yE O B.len yS (zA (pv 1) zB)) zWo)
  (zD (zT (i6 (jI (pT kS (pv 2) (zCj O M.MOST_SIZE)) (jP (xL (yD (zN (gC O) O B.all zCa (zA (xS (own:=["part"]) (F:=[]) {O,tb_g%,tb_g%,tb_g%, .nil} O (xG (pv 1)) (λ_ _ _ _=>yG (i:=0) (by show(xW ["part"] []).Nodup;decide+kernel) O (nO O)) (λ_ _ _ _=>yT) (λ_ _ _ _=>(pD c hr (zA (pv 0) zB)))) zB))))))) (zG (zI vE)) zK)
  (zD (gJ (i:=4) nd O (nO O) (own:=["part"]) (F:=[]) {O,tb_g%,tb_g%,tb_g%, .nil} O (xG (pv 1)) (λ_ _ _ _=>yG (i:=0) (by show(xW ["part"] []).Nodup;decide+kernel) O (nO O)) (λ_ _ _ _=>(yBu (yD (pD r hr (zA (pv 0) zB))))) (λ_ _ _ _=>(pv 0)))
  (zD (zT (xL (zLi (pv 4) (λ_=>O))) (zG (zI vE)) zK)
  (zD (pS 1 nd (pD d hr (zA (pv 4) zB)))
  (zG (zZb (i:=3) nd O (nO O) zE zWo))))))))
  (zG (zI vE)))))), ?_}
 walk_at "st";lk;intro p hp;let g0:=zF hp (.lst [v]);rw[<-yBt] at q;refine{λm σ H2=>∃(i z:Nat)(a:V1)(xs:B3)(b:B0)(o:Option V),m=9 - i/\i<=9/\σ= [Y v,Y (V.ref a),Y (V.int z),Y (V.int i),o]/\Same H H2/\H2 a=Y (.lst xs)/\Reps H2 xs b/\(∀t∈b,T.gk t/\T.few t)/\T.szs b<=5000/\z<=200/\thL (9 - i) z b=thL 9 0 [u], ?_};refine{{9,0,0,p,[v],[u],none,O,by decide,O,g0,zC,{v,[],O,Rep.same g0 _ _ hv,O},λt ht=>by rw[mH.mp ht];exact⟨a1,ar⟩, ?_,by decide,O}, ?_}
 ·show T.sz u+0<=5000
  lia
 intro m σ H2 I;ext yA I i z a xs b I;ext wG I o au hi av g I;ext zS I ha hs ab a9 bb hb;subst au av;let aa:=hs...*;let ba:=d5 b;lk
 by_cases h9:i=9
 ·subst h9
  rw[mI ∅];let e:thL (9 - 9) z b=false:=rfl;rw[e] at hb;rw[<-hb] at q;exact q _ g
 obtain⟨n,hn⟩:∃n,9 - i=n+1:={8 - i,∅};let k:(decide (z+b...*<=200)&& (b.all zBu && ((b.filter wV).isEmpty || thL n (z+b...*) (vZ (b.filter wV)))))=thL 9 0 [u]:=by rw[hn] at hb;exact hb
 rw[mP ∅];refine{λσ' D=>∃(a':V1)(ac:B3)(J:B0)(o':Option V),σ'= [Y v,Y (V.ref a'),Y (V.int ((z+b...*:Nat):Int)),Y (V.int ((i+1:Nat):Int)),o']/\Same H D/\D a'=Y (.lst ac)/\Reps D ac J/\(∀t∈J,T.gk t/\T.few t)/\T.szs J<=5000/\z+b...*<=200/\thL n (z+b...*) J=thL 9 0 [u], ?_, ?_}
 ·intro σ' D I
  ext yN I a' ac J o' ap I;ext zS I g' ax az h1 h2 I;ext oA I h3 h4;subst ap;exact zDx (9 - (i+1)) ∅ (i+1) O ∅ (yGt (z+b...*) a' ⟨o',O⟩ g' ac (uP ax J az h1 h2 (nA h3 (by rw[show 9 - (i+1)=n by lia];exact h4))))
 ·lk
  simp only[tAug,ipI];lk;refine nEA xs (SqL.of ha) ?_
  by_cases a5:200<z+b...*
  ·rw[mP (by rw[aa];lia)]
   rw[nJ ∅,sY] at k;rw[<-k] at q;exact q _ g
  let ag:z+b...*<=200:=by lia
  rw[nF ag,tL] at k;rw[mI (by rw[aa];lia)];refine{{xs,SqL.of ha},wJ (K:=K) (xs:=xs) (λj y D=>Same H2 D/\y=((b.take j).map zBu).map V.bl) (by rw[mS];lia) {Same.refl _,O} (λj y D _ h=>SqL.of (h.1 _ _ ha)) ?_ ?_}
  ·rintro j x y D hx _ ⟨g3,rfl⟩
   refine oEA (hs.get hx) λu' hu ae=>?_;let hm:=mO hu;lk;refine{x,u',O,Rep.same g3 _ _ ae,(ab _ hm).1,(ab _ hm).2,by let:=c7 hm;lia,λH4 g4=>{g3.trans g4, ?_}};rw[yO hu,nI,nI]
   rfl
  ·rintro y D _ ⟨g3,rfl⟩ p1 a0
   rw[show b.take xs...*=b by rw[aa,pG]];let g4:=g3.trans (zF a0 (.lst ((b.map zBu).map V.bl)));refine qR p1 O _ (SqL.of zC) ?_;generalize upd D p1 (.lst ((b.map zBu).map V.bl))=H3 at g4⊢;let ak:(b.map zBu).all id=b.all zBu:=by rw[cI];rfl
   rw[ak]
   cases af:b.all zBu with
   |false=>
    rw[af,sY] at k;rw[<-k] at q;rw[mP O];exact q _ (g.trans g4)
   |true=>
   rw[af,tL] at k;rw[mI ∎];let al:=g4 _ _ ha;let aq:=Reps.same g4 _ _ hs;refine{{xs,SqL.of al},wJ (K:=K) (xs:=xs) (λj y D=>Same H3 D/\Reps H3 y ((b.take j).filter wV)) (by rw[mS];lia) {Same.refl _,O} (λj y D _ h=>SqL.of (h.1 _ _ al)) ?_ ?_}
   ·rintro j x y D hx _ ⟨g5,L⟩
    refine oEA (aq.get hx) λu' hu ae=>?_;lk;refine{x,u',O,Rep.same g5 _ _ ae,λH4 g6=>{wV u',O, ?_}};rw[yO hu,List.filter_append]
    cases hh:wV u' with
    |true=>
     rw[mP O,sB hh];exact{g5.trans g6,Reps.snoc ae L}
    |false=>
     rw[mI ∎,sC (by rw[hh];decide),List.filter_nil,pJ];exact{g5.trans g6,L}
   ·rintro y D _ ⟨g5,L⟩ p2 a3
    rw[aa,pG] at L;let g6:=g5.trans (zF a3 (.lst y));let ai:=L...*;refine nEA (!y.isEmpty) (.inl {y,SqL.of zC,O}) ?_;let ah:upd D p2 (.lst y) p2=Y (.lst y):=zC;generalize upd D p2 (.lst y)=H4 at g6 ah⊢
    cases y with
    |nil=>
     let e0:b.filter wV= []:=List.length_eq_zero_iff.mp ai.symm;rw[e0] at k;let ao:true=thL 9 0 [u]:=k;rw[<-ao] at q;exact iP O (q _ (g.trans (g4.trans g6)))
    |cons y0 y=>
     refine iN (by simp) ?_;let a4:(b.filter wV).isEmpty=false:=by
      cases hf:b.filter wV with|nil=>rw[hf] at ai;cases ai|cons h0 _=>rfl
     rw[a4,Bool.false_or] at k;let a6:=zRk b;let a7:=zNj b;refine{p2,y0::y,b.filter wV,O,ah,Reps.same g6 _ _ L,λu' an=>(bC.mp an).2,∅,λl zs H5 g7 hl aw=>?_};let hk:∀t∈vZ (b.filter wV),T.gk t/\T.few t:=λt ht=>by
      refine oEA (List.mem_flatten.mp ht) λl' ay hm=>?_;refine oEA (nV.mp ay) λx hx aj=>?_;subst aj;let am:=(bC.mp hx).1;exact{yFk (ab x am).1 hm,zRi (ab x am).2 hm}
     refine{_,O,_,_,O,O,l,{Y (V.ref p2), ?_},g.trans (g4.trans (g6.trans g7)),zs,hl,vZ (b.filter wV),aw,hk,∅,ag,k};simp only[cY,cZ,aa,Int.natCast_add,Int.cast_ofNat_Int]
end
end K43
namespace K43
open PySem L2 PySem.W
seal L2.PSs L2.PS L2.PE L2.PT L2.PW L2.PA L2.PI L2.PG L2.PGs L2.PPs L2.PTs
abbrev sSou:V6:=top 33
abbrev sSo:V6:=top 47
abbrev yDr:V6:=top 46
theorem zSl{K:PySem.W.Frag}{l:V1}{xs:B3}{g:TG}{tb:TS}{D:gG}{σ:St}{H:Hp}(Pv:Nat->St->Hp->Prop)(h:Pv 0 σ H)(r:∀i σ H,Pv i σ H->SqL K H l xs)
  (s:∀i x σ H p,xs[i]? =Y x->Pv i σ H->H p=none->g (.ref p) σ (upd H p (.tup [.int i,x])) λσ2 H2=>tb {D with nx:=Pv (i+1),ct:=Pv (i+1),bk:=D.nx} σ2 H2)
  (m:∀σ H,Pv xs...* σ H->D.nx σ H):yAb g tb D σ (Ite K l) H:=by
 refine{λi k σ H=>k=xs...* - i/\i<=xs...*/\Pv i σ H,{_,O,nR _,h}, ?_};rintro i k σ H ⟨rfl,w,p⟩;let c:=r i σ H p
 by_cases f:i<xs...*
 ·refine .inr {{xs,xs[i],c,by simp[f]},Pv (i+1),λu j q=>{_,∅,O,f,q}, ?_}
  intro v j n;ext zR n a x o b t d;subst b d;exact s i x σ H a (t xs c) p o
 ·let e:i=xs...*:=by lia
  subst e;exact .inl {{xs,c,mE _},m σ H p}
noncomputable def wL:Nat->List Dd->T->Sum Nat T
 |_,[],t=>.inr t|i,d::a,t=>match doT d.1 d.2.2 d.2.1 t with
  |none=>.inl i|some r=>wL (i+1) a r
noncomputable def stands:List Dd->T->List T
 | [],t=>[t]|d::a,t=>t::(match doT d.1 d.2.2 d.2.1 t with
  | some r=>stands a r|none=>[])
theorem qF{d:Dd}{ds:C4}{t r:T}(h:doT d.1 d.2.2 d.2.1 t=Y r):stands (d::ds) t=t::stands ds r:=by
 show t::(match doT d.1 d.2.2 d.2.1 t with
  | some r=>stands ds r|none=>[])=_
 rw[h]
theorem jT{i:Nat}{d:Dd}{ds:C4}{t:T}(h:doT d.1 d.2.2 d.2.1 t=none):wL i (d::ds) t= .inl i:=by
 show(match doT d.1 d.2.2 d.2.1 t with | none=>Sum.inl i | some r=>wL (i+1) ds r)=_
 rw[h]
theorem qV{i:Nat}{d:Dd}{ds:C4}{t r:T}(h:doT d.1 d.2.2 d.2.1 t=Y r):wL i (d::ds) t=wL (i+1) ds r:=by
 show(match doT d.1 d.2.2 d.2.1 t with | none=>Sum.inl i | some r=>wL (i+1) ds r)=_
 rw[h]
structure Od(d:Dd):Prop where
 s:∀k∈d.2.1,okS k
 l:d.2.1...*<=8
 f:T.fewm 31 d.2.2
 g:T.gk d.2.2
 dd:d.2.1...*+T.dep d.2.2<=15
 z:T.sz d.2.2<=200
structure RJ(m:Nat)(ds:C4)(s:T):Prop where
 f:T.fewm m s
 m0:31<=m
 m1:m+ds...*<61
 g:T.gk s
 d:T.dep s<=15
 z:T.sz s+200*ds...*<=5000
 o:∀d∈ds,Od d
theorem RJ.few{m:Nat}{ds:C4}{s:T}(h:RJ m ds s):T.few s:=c6 (by let:=h.m1;lia) _ h.f
theorem RJ.step{m:Nat}{d:Dd}{ds:C4}{s r:T}(h:RJ m (d::ds) s)(l:doT d.1 d.2.2 d.2.1 s=Y r):RJ (m+1) ds r:=by
 let o:=h.o d mD;let n:=h.m0;let i:=h.m1;let k:=h.z;let g:=h.d;let q:=o.z;let p:=o.dd;rw[mW] at i k;refine xA (zFd ∅ (b8 h.m0 _ o.f) o.g _ _ _ l h.f h.g o.s ∅) λa b c e=>?_;exact{a,∅,∅,b,∅,∅,λj f=>h.o j (mG _ f)}
def Dlays(H:Hp)(xs:B3)(ds:C4):Prop:=xs...*=ds...*/\∀(i:Nat) v d,xs[i]? =Y v->ds[i]? =Y d->Dlay H v d
theorem Dlays.same{H a:Hp}{xs:B3}{ds:C4}(g:Same H a)(h:Dlays H xs ds):Dlays a xs ds:={h.1,λi v d b c=>(h.2 i v d b c).same g}
theorem zBx{H a:Hp}{d:V1}{o:Obj}{xs:B3}(f:H d=Y (.lst xs))(g:Same (upd H d (.frz o (.lst xs))) a):Same H (L2.thaw H a):=zIr λb u e=>by
 by_cases c:b=d
 ·subst c
  rw[f] at e;cases e;exact .inr {{o,g _ _ zC},λ_ _ z=>by cases z}
 ·exact .inl (g _ _ (by rw[zM c];exact e))
section
variable{P:V3}{w:V4}{K:PySem.W.Frag}{mg:C8}{base:V5}{f:V1}{fd:V7}{C2 C3:V1}
def zZz(C3:V1):Sp:=λb H Q E=>∃(v:V)(t:T),b= [v]/\Rep H v t/\T.gk t/\T.few t/\T.sz t<=5000/\(xU t=true->∀a,Same H a->Q v a)/\(xU t=false->∀a,Same H a->E (.ref C3) none a)
theorem zWy(F:Fun K "sound" "sound" sSou f fd)(a:Dn P w K mg base 3 "is_thing" ["thing"] zXu)(b:Xr0 K mg "TooGreat" C3):FnOk P w K mg base (CXE aC P w) 4 f fd ["thing"] (zZz C3):=by
 refine F.okxn (N:=["thing"]) λk A c s H u Q E r m h=>?_;ext zR h v t d i o l;ext xA l p j q n;subst d;refine{_,(zD (zT (xL (yD (pD a m (zA (pv 0) zB)))) (zG (zTm b O O lvs (zA zL zB))) zK)
  (zG (zI (pv 0)))), ?_}
 walk_at "st";unfold zMm;lk;refine{v,t,O,i,o,p,j,λx g=>?_}
 cases e:xU t with|false=>exact{false,O,iP O (n e _ g)}|true=>exact{true,O,iN ∎ (q e _ g)}
def yGx(C2 C3:V1):Sp:=λg H Q E=>∃(v:V)(e:V1)(d:B3)(t:T)(b:C4)(m:Nat),g= [v, .ref e]/\Rep H v t/\H e=Y (.lst d)/\Dlays H d b/\RJ m b t/\
 (∀r,wL 0 b t= .inr r->xU r=true->∀l c y a,Same H a->a l=Y (.lst (c++ [y]))->Rep a y r->T.few r->T.dep r<=15->T.sz r<=5000->Reps a (c++ [y]) (stands b t)->Q (.ref l) a)/\
 (∀r,wL 0 b t= .inr r->xU r=false->∀a,Same H a->E (.ref C3) none a)/\(∀i:Nat,wL 0 b t= .inl i->XNo C2 (i:Int) H E)
theorem ok_so(F:Fun K "stands_of" "stands_of" sSo f fd)(B:Bl4 mg)(j:Dx aC P w K mg base 6 "after_deed" ["thing","deed","number"] (spAd C2))(aa:Dx aC P w K mg base 6 "sound" ["thing"] (zZz C3)):FnOk P w K mg base (CXE aC P w) 7 f fd ["thing","paper"] (yGx C2 C3):=by
 refine F.okxn (N:=["thing","paper","stands","number","deed"]) λa0 A av s H vs Q E nd hr h=>?_;ext yA h v pa xs t M D;ext wG D m I hv al hD D;ext xA D hI q qx qn;subst I;let hu:=wY hr;refine{_,(zD (pS 2 nd (zZ (zA (pv 0) zB)))
  (zD (vX PassesOwn.leaving O (zQx O B.enumerate (zA (pv 1) zB)) (zYk (n:=2) O (uL (yG (i:=3) nd O (nO O)) (uL (yG (i:=4) nd O (nO O)) zKx))) (zG (wP (jZ nY pK rG jA (pv 2) (zA (zFf (zGg j hr ∅ O lvs (zA (pX zP (pv 2) (wO xO zE)) (zA (pv 4) (zA (pv 3) zB))))) zB)))))
  (zD (wP (zGg aa hr ∅ O lvs (zA (pX zP (pv 2) (wO xO zE)) zB)))
  (zG (zI (pv 2)))))), ?_}
 walk_at "st";unfold zUx;lk;intro r ab;let s1:=zF ab (.lst [v]);let e1:=zC (H:=H) (a:=r) (o:=.lst [v]);let aj:Rep (wB (upd H r (.lst [v])) r) v t:=Rep.same (λb o e=>by
  let hb:b≠r:=λz=>by subst z;rw[ab] at e;cases e
  rw[xX hb,zM hb];exact e) _ _ hv
 generalize upd H r (.lst [v])=H1 at s1 e1 aj⊢;let ap:=hD.1;let ay:M...*<61:=by let:=hI.m1;lia
 refine{{_,SqL.of (s1 _ _ al)}, ?_};refine zSl (K:=K) (l:=pa) (xs:=xs) (λi σ H'=>∃(o1 o2:Option V)(ys:B3)(y:V)(s:T)(m':Nat),σ= [Y v,Y (.ref pa),Y (.ref r),o1,o2]/\Same H H'/\H' r=Y (.lst (ys++ [y]))/\ys...*=i/\Rep (wB H' r) y s/\RJ m' (M.drop i) s/\wL i (M.drop i) s=wL 0 M t/\∃us,Reps (wB H' r) ys us/\us++stands (M.drop i) s=stands M t) {_,_,[],v,t,m,O,s1,e1,O,aj,hI,O,[],O,O} (λi σ H' h=>?_) ?_ ?_
 ·ext yA h o1 o2 ys y s D
  ext xC D m' I g _;subst I;exact SqL.of (g _ _ al)
 ·intro i x σ H2 p hx D
  ext yA D o1 o2 ys y s D;ext wG D m' I g2 J aq D;ext zJw D hy c k us ah L;subst I;intro hp;lk;let s3:=zF hp (.tup [V.int (i:Int),x]);let e3:=zC (H:=H2) (a:=p) (o:=.tup [V.int (i:Int),x]);let g3:=g2.trans s3;let u:=s3 _ _ J;let af:=Rep.same (yU (d:=r) s3) _ _ hy;let ae:=Reps.same (yU (d:=r) s3) _ _ ah;generalize upd H2 p (.tup [V.int (i:Int),x])=H3 at s3 e3 g3 u af ae⊢;let ax:=(mJ.mp hx).1;let aw:M[i]? =some M[i]:=mQ ∅;let ar:M.drop i=M[i]::M.drop (i+1):=nU ∅;rw[ar] at c k L;let hz:=c.z;let au:=c.m1;let od:=c.o _ mD;refine yFq _ (SqT.of e3) O _ _ (yIi O _ _ O O (nA (nO {O,_,SqL.of u}) ?_));unfold zKt zRm;refine{r, .inr {_,u,λo=>?_}};let gf:Same H (upd H3 r (.frz o (.lst (ys++ [y])))):=vM g3 ab;lk;refine zY (.inl (.inr ⟨o,zC⟩)) (xY _ _) {y,x,_,s,M[i],m',O,Rep.same zDf _ _ af,c.f,∅,∅,(hD.2 i x _ hx aw).same gf,od.s,od.l,λr' ai v' Hc gc ao=>?_,λan=>?_}
  ·let gt:=zBx u gc
   let am:Rep (wB (L2.thaw H3 Hc) r) v' r':=Rep.off (gc _ _ zC) ao;rw[qV ai] at k;rw[qF ai] at L;let ak:=Rep.same (yU (d:=r) gt) _ _ af;let ac:=Reps.same (yU (d:=r) gt) _ _ ae;dsimp only;generalize L2.thaw H3 Hc=H6 at gt am ak ac⊢;refine{r,ys++ [y],v',O,O,gt _ _ u,by rw[mS,mM,nL];lia, ?_};exact yAe ⟨_,O⟩ (vM (g3.trans gt) ab) (ys++ [y]) v' zC (uP (by rw[mM,nL];lia) r' (by rw[qM];exact am) {m'+1,c.step ai} k (nEA (us++ [s]) (by rw[qM];exact Reps.snoc ak ac) (by rw[sE];exact L)))
  ·rw[jT an] at k
   exact λd H' g hd=>qn i k.symm d H' (gf.trans g) hd
 ·intro σ H2 D
  ext yA D o1 o2 ys y s D;ext wG D m' I g2 J aq D;ext zJw D hy c k us ah L;subst I;lk;rw[ap,tF] at k c L;let hz:=c.z;let az:=c.d;let au:=c.m1;refine zY (SqL.of J) (xY _ _) {y,s,O,Rep.same xP _ _ hy,c.g,c.few,∅,λag H3 g3=>?_,λag H3 g3=>qx s k.symm ag H3 (g2.trans g3)};exact q s k.symm ag r ys y H3 (g2.trans g3) (g3 _ _ J) (Rep.same g3 _ _ (Rep.same xP _ _ hy)) c.few ∅ ∅ (by rw[<-L];exact Reps.snoc (Rep.same g3 _ _ (Rep.same xP _ _ hy)) (Reps.same g3 _ _ (Reps.same xP _ _ ah)))
def zOw(C2 C3:V1):Sp:=λg H Q E=>∃(v:V)(e:V1)(d:B3)(t:T)(c:C4)(m:Nat),g= [v, .ref e]/\Rep H v t/\H e=Y (.lst d)/\Dlays H d c/\RJ m c t/\
 (∀r,wL 0 c t= .inr r->xU r=true->∀y a D,Same H a->Sp1 a y r D->(∀b∈D,H b=none)->Q y a)/\
 (∀r,wL 0 c t= .inr r->xU r=false->∀a,Same H a->E (.ref C3) none a)/\(∀i:Nat,wL 0 c t= .inl i->XNo C2 (i:Int) H E)
theorem zRh(F:Fun K "done" "done" yDr f fd)(a:Dx aC P w K mg base 25 "stands_of" ["thing","paper"] (yGx C2 C3))(c:Dn P w K mg base 25 "copied" ["thing"] (zSr 20)):FnOk P w K mg base (CXE aC P w) 26 f fd ["thing","paper"] (zOw C2 C3):=by
 refine F.okxn (N:=["thing","paper"]) λz A k s H vs Q E nd o h=>?_;ext yA h v B xs t x d;ext wG d m i u n hD d;ext xA d hI q I L;subst i;refine nEA _ (zG (zI (pD c o (zA (pX zP (zGg a o ∅ O lvs (zA (pv 0) (zA (pv 1) zB))) (wO xO zE)) zB)))) ?_;walk_at "st";lk;refine{v,B,xs,t,x,m,O,u,n,hD,hI,λr j hg l ys y H1 p hl hy g hd hz _=>zY (SqL.of hl) (xY _ _) {y,r,O,hy,kO _ r (mE _) g,∅,∅,λM H2 D g2 sp e=>q r j hg M H2 D (p.trans g2) sp λb J=>zW p (e b J)},I,L}
end
end K43
namespace K43
open PySem L2
section
variable{P:V3}{w:V4}{K:A9}{mg:C8}{base:V5}{f:V1}{fd:V7}
theorem zJc(F:Fun K "_law_thing_by" "_law_thing_by" zHb f fd)(B:Bl mg)(e:Dn P w K mg base 1 "_law_cell" ["_law_script","_law_k"] (kD K))(c:Dn P w K mg base 1 "_law_number_by" ["_law_more"] zQe)
  (a:Dn P w K mg base 2 "_law_text_by" ["_law_more"] zKi) (h:Dn P w K mg base 1 "_law_name_by" ["_law_more"] zHe) (b:Binds K fd ["_law_script","_law_k","_law_deep"] []) (g:S0 K (.ref f)=true) (m:mg "_law_thing_by" =Y (.ref f)):
  ∀d:Nat,FnOk P w K mg base CX0 (3+d) f fd ["_law_script","_law_k","_law_deep"] (zBh K d)
 |0=>zTi F B e c a|d+1=>zSu F B e c a h {_,_,zJc F B e c a h b g m d,b,g,m}
def zBy(K:A9)(n:Nat):Sp:=λa H Q E=>∃d,d<=n/\zBh K d a H Q E
theorem zSq{n:Nat}(h:∀d:Nat,FnOk P w K mg base CX0 (3+d) f fd ["_law_script","_law_k","_law_deep"] (zBh K d)):FnOk P w K mg base CX0 (3+n) f fd ["_law_script","_law_k","_law_deep"] (zBy K n):=
 {λc H Q E ⟨d,_,q⟩=>(h d).len c H Q E q,λA a s H b l c Q E i g k e ⟨d,m,j⟩=>(h d).run A a s H b l c Q E (i.mono ∅) g k e j}
end
noncomputable def kT:Key->T
 |.inl i=>.int i|.inr s=>.str (ts s)
theorem zZl{H:Hp}:∀ks:List Key,Sps H (ks.map kV) (ks.map kT) []
 |[]=>⟨O,O⟩|k::ks=>{kV k,ks.map kV,[],[],O,O,by
   cases k with
   |inl i=>exact⟨O,O⟩|inr s=>exact{O,by show V.str s=V.str (tx (ts s));rw[qJ]},zZl ks,λ_ h=>nomatch h}
theorem zRc{H:Hp}{a:V1}{ks:B8}(h:H a=Y (.lst (ks.map kV))):Sp1 H (.ref a) (.lst (ks.map kT)) [a]:={a,ks.map kV,[],O,h,O,by simp,zZl ks}
noncomputable def ddT:Dd->T
 |(.tak,a,_)=>.tup [.str (ts Wd.tak.s), .lst (a.map kT)]|(w,a,n)=>.tup [.str (ts w.s), .lst (a.map kT),n]
theorem zUo{H:Hp}(z:Str):Sp1 H (.str z) (.str (ts z)) []:={O,by rw[qJ]}
theorem zYi{H:Hp}{b a:V1}{ks:B8}{n:T}(h:H b=Y (.tup [.str Wd.tak.s, .ref a]))(c:H a=Y (.lst (ks.map kV))):Sp1 H (.ref b) (ddT (.tak,ks,n)) [b,a]:=by
 let d:b≠a:=λz=>by subst z;rw[h] at c;cases c
 refine{b,_,[a],O,h,O,λz=>d (mH.mp z),{_,_,[],[a],O,O,zUo _,{_,_,[a],[],O,O,zRc c,⟨O,O⟩,λ_ _ z=>nomatch z},λ_ z=>nomatch z}}
theorem zVl{H:Hp}{c a:V1}{ks:B8}{w:Wd}{n:T}{x:V}{D:B9}(k:w≠ .tak)(h:H c=Y (.tup [.str w.s, .ref a,x]))(d:H a=Y (.lst (ks.map kV)))(l:Sp1 H x n D)(g:c∉D)(j:a∉D):Sp1 H (.ref c) (ddT (w,ks,n)) (c::a::D):=by
 let f:c≠a:=λz=>by subst z;rw[h] at d;cases d
 let e:ddT (w,ks,n)= .tup [.str (ts w.s), .lst (ks.map kT),n]:=by
  cases w with|tak=>exact absurd O k|_=>rfl
 rw[e];refine{c,_,a::D,O,h,O,λz=>(mF.mp z).elim f g,{_,_,[],a::D,O,O,zUo _,{_,_,[a],D,O,O,zRc d,{_,_,D,[],O,by simp,l,⟨O,O⟩,λ_ _ z=>nomatch z},λb i=>by rw[mH.mp i];exact j},λ_ z=>nomatch z}}
theorem Sps.one{H:Hp}{v:V}{t:T}{D:B9}(h:Sp1 H v t D):Sps H [v] [t] D:={v,[],D,[],O,by simp,h,⟨O,O⟩,λ_ _ z=>nomatch z}
theorem zQk{H:Hp}:∀{ks:B8}{xs:B3},Reps H xs (ks.map kT)->xs=ks.map kV
 |[],xs,h=>h|k::ks,xs,h=>by
  ext yL h v r a b c;subst a;rw[zQk c]
  cases k with
  |inl i=>exact congrArg (· ::ks.map kV) (show v=V.int i from b)|inr s=>
   let e:v=V.str (tx (ts s)):=b;rw[qJ] at e;exact congrArg (· ::ks.map kV) e
theorem zXg{H:Hp}{v:V}{d:Dd}(h:Rep H v (ddT d)):Dlay H v d:=by
 obtain⟨w,s,n⟩:=d;let f:∀r,Rep H v (.tup (.str (ts w.s):: .lst (s.map kT)::r))->∃b a c,v= .ref b/\H b=Y (.tup (.str w.s:: .ref a::c))/\H a=Y (.lst (s.map kV))/\Reps H c r:=λr h=>by
  obtain⟨b,c,rfl,A,u,E,rfl,m,D,B,rfl,⟨a,I,rfl,j,o⟩,y⟩:=h;let m:u=V.str (tx (ts w.s)):=m;rw[qJ] at m;rw[zQk o] at j;subst m;exact qX b a B O A (nA j y)
 cases w with
 |tak=>
  refine zU (f [] h) λb a c k l t=>?_;ext oA t i g;let e:c= []:=g;subst e;exact{b,a,[],k,l,i, .inl ⟨O,O⟩}
 |put=>
  obtain⟨b,a,c,k,l,i,x,r,e,g,q⟩:=f [n] h;let p:r= []:=q;subst e p;exact{b,a,[x],k,l,i,aL {(by intro z;cases z),x,O,g}}
 |ins=>
  obtain⟨b,a,c,k,l,i,x,r,e,g,q⟩:=f [n] h;let p:r= []:=q;subst e p;exact{b,a,[x],k,l,i,aL {(by intro z;cases z),x,O,g}}
theorem Dlays.of{H:Hp}{xs:B3}{ds:C4}(h:Reps H xs (ds.map ddT)):Dlays H xs ds:=by
 let a:=h...*;rw[mN] at a;refine{a,λi v d e f=>?_};obtain⟨t,c,b⟩:=h.get e;rw[nH,f] at c;rw[<-mU c] at b;exact zXg b
seal L2.PSs L2.PS L2.PE L2.PT L2.PW L2.PA L2.PI L2.PG L2.PGs L2.PPs L2.PTs
abbrev sSa:V6:=top 73
section
variable{P:V3}{w:V4}{K:A9}{mg:C8}{base:V5}{f:V1}{fd:V7}
def yHl:Sp:=λb H Q _=>∃(v:V)(t:T)(m:Int),b= [v, .int m]/\Rep H v t/\T.few t/\T.gk t/\0<=m/\m<2000000/\∀k a,Same H a->okS k->Q (kV k) a
theorem ok_sa(F:Fun K "_law_step_at" "_law_step_at" sSa f fd)(B:Bl2 mg)(c:Dn P w K mg base 1 "_law_name_by" ["_law_more"] zHe):FnOk P w K mg base CX0 2 f fd ["_law_there_here","_law_more"] yHl:=by
 refine F.okn (N:=["_law_there_here","_law_more"]) λaa A I s H vs Q E nd hr h=>?_;ext zU h v t m r e z_;ext vB z_ hf D h0 h1 q;subst r;let hu:=wY hr;refine{_,(zD (zT (yD (pI B.isinstance zH B.list yQ (pv 0))) (zG (zI (zN (zEh O) O B.min zOe (zA zE (zA (zJ yI (pv 1) (zJ xI (zN yE O B.len yS (zA (pv 0) zB)) zE)) zB))))) zK)
  (zD (zT (i6 (vH (yD (pI B.isinstance zH B.dict xJ (pv 0))) (vH (pT kS (zN zDl O B.len yS (zA (pv 0) zB)) zE) (qH (pT kS (zJ yI (pv 1) zE) zE))))) (zG (zI (pX zP (zN (qO O) O B.sorted uC (zA (pv 0) zB)) (zJ yI (zJ yK (pv 1) zE) (zN zDl O B.len yS (zA (pv 0) zB)))))) zK)
  (zG (zI (pD c hr (zA (zJ yK (pv 1) zE) zB)))))), ?_}
 walk_at "st";lk;let j:zHe [V.int (m / 3)] H Q E0:={_,O,∅,∅,λx y H' g=>q (.inr (tx x)) H' g (by show xF (ts (tx x))=true;rw[qZ];exact y)}
 cases t with
 |lst us=>
  ext yL e a xs d i y;subst d;refine nEA ("list") (wQ i) ?_;rw[mP ∎];refine zDx a O xs (SqL.of i) ∅ (nEEA _ _ ⟨O,O⟩ (q (.inl _) H (Same.refl _) ?_));let e1:=sF m (show(xs...*:Int)+1≠0 by lia);show 0<=_/\_<=(59:Int);split<;>lia
 |dic ks us=>
  ext zR e a u d i hk y;subst d;refine nEA ("dict") (qY i) ?_;rw[mI ∎];refine nEA ("dict") (qY i) ?_;rw[mP ∎];refine qR a O u i ?_;split
  ·rename_i hp
   split
   ·refine kB a O u (.inl i) (ks.map tx) (nAA (by rw[hk,sI];rfl) (by rw[mN];exact hf.2.1) (λl ss hl n ab=>?_))
    let p:=congrArg List.length hk;rw[mN,mN] at p;let o:=n.length_eq;rw[mN] at o;refine zDx a O u (zF hl _ _ _ i) hp (zCi zC (sF _ ∅) (by rw[mN,o,<-p];exact rY _ hp) λx L=>?_);refine oEA (nV.mp L) λz hz d=>?_;subst d;let J:=n.mem_iff.mp hz;refine oEA (nV.mp J) λk M d=>?_;subst d;exact q (.inr (tx k)) _ (zF hl _) (by show xF (ts (tx k))=true;rw[qZ];exact D.1 k M)
   ·exact j
  ·exact j
 |non=>exact{_,e.ty,by rw[mI (by simp[tyT,yC])];exact{_,e.ty,by rw[mI (by simp[tyT,yC])];exact j}}|bl b=>exact{_,e.ty,by rw[mI (by simp[tyT,yC])];exact{_,e.ty,by rw[mI (by simp[tyT,yC])];exact j}}|int b=>exact{_,e.ty,by rw[mI (by simp[tyT,yC])];exact{_,e.ty,by rw[mI (by simp[tyT,yC])];exact j}}|str b=>exact{_,e.ty,by rw[mI (by simp[tyT,yC])];exact{_,e.ty,by rw[mI (by simp[tyT,yC])];exact j}}|tup us=>exact hf.elim
abbrev sWk:V6:=top 72
def spWk(K:A9):Sp:=λe H Q _=>∃(a:V1)(d:List Int)(k:Int)(v:V)(t:T),e= [.ref a, .int k,v]/\SqL K H a (d.map V.int)/\d...*<=63/\0<=k/\k<100000/\Rep H v t/\T.few t/\T.gk t/\∀(l p:V1)(c:B8)(x:V)(s:T)(b:Hp),Same H b->b l=Y (.lst [.ref p,x])->b p=Y (.lst (c.map kV))->c...*<=7->(∀k∈c,okS k)->Rep H x s->T.few s->T.gk s->Q (.ref l) b
theorem ok_wk(F:Fun K "_law_walk" "_law_walk" sWk f fd)(B:Bl2 mg)(e:Dn P w K mg base 1 "_law_cell" ["_law_script","_law_k"] (kD K)):FnOk P w K mg base CX0 2 f fd ["_law_script","_law_k","_law_thing"] (spWk K):=by
 refine F.okn (N:=["_law_script","_law_k","_law_thing","_law_path","_law_j","_law_more","_law_step"]) λa4 A ax s H vs Q E nd hr h=>?_;ext yA h a ns k v t m;ext zS m au ha ap az a1 m;ext xA m hv hf aq q;subst au;let hu:=wY hr;refine{_,(zD (pS 3 nd (zZ zB))
  (zD (vX PassesOwn.never O (wE O B.range (zA zE zB)) (yG (i:=4) nd O (nO O)) (zD (pS 5 nd (pD e hr (zA (pv 0) (zA (zJ xI (pv 1) (pv 4)) zB))))
  (zD (zT (i6 (jI (pT xN (zJ yI (pv 5) zE) zE) (jI (xL (yD (zN (jB (T:="list") (U:="dict") ∎ ∎) O B.isinstance zH (zA (pv 2) (zA (xH (zA (wA (v:=.ty "list") O B.list yQ O) (zA (wA (v:=.ty "dict") O B.dict xJ O) zB))) zB))))) (jP (pT xN (zN zAt O B.len yS (zA (pv 2) zB)) zE))))) (zG (zI (zZ (zA (pv 3) (zA (pv 2) zB))))) zK)
  (zD (pS 6 nd (zN (zEh O) O B.min zOe (zA zE (zA (zJ yI (zJ yK (pv 5) zE) (zN zAt O B.len yS (zA (pv 2) zB))) zB))))
  (zD (zT (yD (pI B.isinstance zH B.dict xJ (pv 2))) (zG (pS 6 nd (pX zP (zN (qO O) O B.sorted uC (zA (pv 2) zB)) (pv 6)))) zK)
  (zD (wP (jZ nY pK rG jA (pv 3) (zA (pv 6) zB)))
  (zG (pS 2 nd (zEc (pX zP (pv 2) (pv 6)) (jR hu (pv 2) (pv 6) (λ_ _=>O)))))))))))
  (zG (zI (zZ (zA (pv 3) (zA (pv 2) zB))))))), ?_}
 walk_at "st";lk;intro p hp;let s1:=zF hp (.lst []);refine jY (λi σ H'=>∃(y:V)(s:T)(D:B8)(o1 o2 o3:Option V),σ= [Y (V.ref a),Y (V.int k),Y y,Y (V.ref p),o1,o2,o3]/\Same H H'/\Rep H y s/\T.few s/\T.gk s/\H' p=Y (.lst (D.map kV))/\D...*=i/\(∀k∈D,okS k)) {_,t,[],_,_,_,O,s1,hv,hf,aq,zC,O,λ_ h=>nomatch h} ?_ ?_
 ·intro i σ H2 hi m
  ext yA m y s D o1 o2 m;ext wG m o3 af g2 hy d m;ext xA m u ab hl J;subst af;lk;obtain⟨c,hc,a6,a5⟩:∃c:Int,qN ns (k+(0+(i:Int)))=c/\0<=c/\c<1000003:={_,O,qB _ _,jE _ _};refine{a,ns,_,O,g2.seq ha,ap,∅,∅,λH3 g3=>{c,by rw[hc], ?_}};rw[hc];let g4:=g2.trans g3;let ret:∀{H':Hp},Same H3 H'->∀l,H' l=none->Q (V.ref l) (upd H' l (.lst [V.ref p,y])):=λ{H'} g l ag=>by
   let s3:=zF ag (.lst [V.ref p,y]);exact q l p D y s _ (g4.trans (g.trans s3)) zC (s3 _ _ (g _ _ (g3 _ _ ab))) ∅ J hy d u
  by_cases h5:c % 5=0
  ·exact iP h5 (ret (Same.refl _))
  refine iN h5 λp1 aa=>?_;let s5:=zF aa (.tup [V.ty "list",V.ty "dict"]);refine qX y _ p1 ⟨O,O⟩ zC (nA ((Rep.same (g4.trans s5) _ _ hy).ty) ?_);let ae:=s5 _ _ (g3 _ _ ab);let o:=ret s5;let L:=g4.trans s5;generalize upd H3 p1 (.tup [V.ty "list",V.ty "dict"])=H5 at s5 o ae L⊢;let an:H p=none:=hp
  cases s with
  |lst us=>
   refine iN (by simp only[tyT];decide+kernel) ?_;let ak:=hy;ext yL hy b r n hb hx;subst n;let a3:=hx...*;refine qR b O r...* (.inl {r,SqL.of (L _ _ hb),O}) ?_
   by_cases h0:(r...*:Int)=0
   ·exact iP h0 o
   refine iN h0 {c,O,b,O,r...*, .inl {r,SqL.of (L _ _ hb),O},∅,_,_,⟨O,O⟩,_,(Rep.same L _ _ ak).ty,iN (by simp only[tyT];decide+kernel) ?_};let e1:=sF (c / 5) h0;let e2:=rY (c / 5) (show(0:Int)<r...* by lia);obtain⟨j,hj,M,a0⟩:∃j:Nat,(if c / 5 % (r...*:Int)<59 then c / 5 % (r...*:Int) else 59)=(j:Int)/\j<r...*/\j<=59:={(if c / 5 % (r...*:Int)<59 then c / 5 % (r...*:Int) else 59).toNat,by split<;>lia,by split<;>lia,by split<;>lia};rw[hj];refine oEA (hx.get (i:=j) (v:=r[j]) (by simp[M])) λt' am aw=>?_;refine{.inl {O,_,SqL.of ae},p,_,_,O,O,ae,by rw[mN,mS];lia, .inl ?_};let g6:Same H (upd H5 p (.lst (D.map kV++ [V.int (j:Int)]))):=vM L an;lk;refine zY (SqL.of (g6 _ _ hb)) (zQ (j:=j) (v:=r[j]) (by simp[M])) {r[j],⟨O,_,O⟩,g6,t',aw,b9 d.2 (mO am),d6 u (mO am),D++ [.inl (j:Int)], ?_,by rw[mM,nL,hl], ?_}
   ·rw[zC];exact congrArg (λz=>Y (HO.lst z)) (yAw D (.inl (j:Int)))
   ·intro k' aj
    rcases nB.mp aj with z | z
    ·exact J _ z
    ·rw[mH.mp z];exact{∅,∅}
  |dic hs us=>
   refine iN (by simp only[tyT];decide+kernel) ?_;let ak:=hy;ext zR hy b I n hb ah hx;subst n;let a7:I...*=hs...*:=by let:=congrArg List.length ah;simpa using this
   refine qR b O I...* (.inr {I,L _ _ hb,O}) ?_
   by_cases h0:(I...*:Int)=0
   ·exact iP h0 o
   refine iN h0 {c,O,b,O,I...*, .inr {I,L _ _ hb,O},∅,_,_,⟨O,O⟩,_,(Rep.same L _ _ ak).ty,iP (by simp only[tyT];decide+kernel) ?_};let e1:=sF (c / 5) h0;let e2:=rY (c / 5) (show(0:Int)<I...* by lia);obtain⟨j,hj,M⟩:∃j:Int,(if c / 5 % (I...*:Int)<59 then c / 5 % (I...*:Int) else 59)=j/\0<=j/\j<I...*:={_,O,by split<;>lia,by split<;>lia};rw[hj];refine kB b O I (.inl (L _ _ hb)) (hs.map tx) (nAA (by rw[ah,sI];rfl) (by rw[mN];exact d.2.1) (λl ss ar aa a2=>?_));let s6:=zF ar (.lst (ss.map V.str));let al:=aa.length_eq;rw[mN] at al;refine zCi zC M.1 (by rw[mN,al];lia) λx ay=>?_;refine oEA (nV.mp ay) λz hz n=>?_;subst n;refine oEA (nV.mp (aa.mem_iff.mp hz)) λkk ac n=>?_;subst n;let ai:=s6 _ _ ae;let g6:=L.trans s6;generalize upd H5 l (.lst (ss.map V.str))=H6 at ai g6⊢;refine{.inl {O,_,SqL.of ai},p,_,_,O,O,ai,by rw[mN,mS];lia, .inr ?_};let g7:Same H (upd H6 p (.lst (D.map kV++ [V.str (tx kk)]))):=vM g6 an;refine oEA (yCj d.1 ah hx hb ac) λy' ao av=>?_;unfold zHa;lk;refine zDx y' (ao _ g7) y' ⟨O,_,O⟩ g7 (yHe _ av (b9 d.2.2.2 (xK ac d.2.2.1)) (d6 u.2 (xK ac d.2.2.1)) (D++ [nK kk]) (nAA ?_ (by rw[mM,nL,hl]) ?_))
   ·rw[zC];exact congrArg (λz=>Y (HO.lst z)) (yAw D (nK kk))
   ·intro k' aj
    rcases nB.mp aj with z | z
    ·exact J _ z
    ·rw[mH.mp z];show xF (ts (tx kk))=true;rw[qZ];exact u.1 kk ac
  |tup us=>exact d.elim|_=>exact iP (by simp only[tyT];decide+kernel) o
 ·intro σ H2 m
  ext yA m y s D o1 o2 m;ext wG m o3 af g2 hy d m;ext xA m u ab hl J;subst af;lk;intro l ag;let s3:=zF ag (.lst [V.ref p,y]);exact q l p D y s _ (g2.trans s3) zC (s3 _ _ ab) ∅ J hy d u
end
abbrev sDe:V6:=top 74
mutual
theorem Nice.fewm{d:Nat}:∀(t:T),Nice d t->T.fewm 30 t
 |.lst a,h=>{by let:=h.2.1;lia,NiceL.fewm a h.2.2}|.dic ks a,h=>{h.2.2.2.1,by let:=h.2.1;let:=h.2.2.1;lia,h.2.2.1,NiceL.fewm a h.2.2.2.2.2}|.tup _,h=>h.elim|.non,_=>mK|.bl _,_=>mK|.int _,_=>mK|.str _,_=>mK
theorem NiceL.fewm{d:Nat}:∀(us:B0),NiceL d us->i3 30 us
 |[],_=>mK|t::us,h=>{Nice.fewm t h.1,NiceL.fewm us h.2}
end
theorem yHg{H:Hp}(k:Key):Rep H (kV k) (kT k):=by
 cases k with|inl i=>exact O|inr s=>show V.str s=V.str (tx (ts s));rw[qJ]
theorem zFj{H:Hp}:∀ks:List Key,Reps H (ks.map kV) (ks.map kT)
 |[]=>rfl|k::ks=>{kV k,_,O,yHg k,zFj ks}
theorem zKq:∀ks:List Key,i3 30 (ks.map kT)/\T.deps (ks.map kT)=0/\T.szs (ks.map kT)=ks...*
 |[]=>⟨mK,O,O⟩|k::ks=>by
  obtain⟨c,a,b⟩:=zKq ks;let e:T.fewm 30 (kT k)/\T.dep (kT k)=0/\T.sz (kT k)=1:=by cases k<;>exact⟨mK,O,O⟩
  refine nAA ⟨e.1,c⟩ ?_ ?_
  ·show max (T.dep (kT k)) (T.deps (ks.map kT))=0
   rw[e.2.1,a];rfl
  ·show T.sz (kT k)+T.szs (ks.map kT)=ks...*+1
   rw[e.2.2,b];lia
structure DrI(ks:B8)(u:T):Prop where
 l:ks...*<=8
 s:∀k∈ks,okS k
 f:T.fewm 30 u
 g:T.gk u
 d:T.dep u<=2
 z:T.sz u<=30
theorem DrI.od{w:Wd}{ks:B8}{u:T}(h:DrI ks u):Od (w,ks,u):=
 {h.s,h.l,b8 ∎ _ h.f,h.g,by let:=h.l;let:=h.d;show ks...*+T.dep u<=15;lia,by let:=h.z;show T.sz u<=200;lia}
theorem Dlay.dr{H:Hp}{v:V}{d:Dd}(h:Dlay H v d)(o:Od d):∃p u,v= .ref p/\yDm H p d.1 d.2.1 u/\yEo d.2.1 u/\∀t,doT d.1 u d.2.1 t=doT d.1 d.2.2 d.2.1 t:=by
 ext zU h i a r c g n;ext oA n e j;subst c;let z:=o.l;let l:=o.dd;let b:∀k∈d.2.1,okK k:=λk b=>(o.s k b).k;rcases j with⟨f,rfl⟩|⟨f,x,rfl,s⟩
 ·obtain⟨q,y,w⟩:=zKq d.2.1
  refine zBv i (.lst (d.2.1.map kT)) O {a,[],V.ref a,g,e,O,by decide,{a,_,O,e,zFj _}} {∅,b,c6 (m:=30) ∎ _ {by rw[mN];lia,q}, ?_} (λt=>?_)
  ·show T.deps (d.2.1.map kT)+1<20
   lia
  ·rw[f];exact zJu _ _
 ·exact zBv i d.2.2 O {a,[x],x,g,e,O,mE _,s} {∅,b,c6 ∎ _ o.f,∅} (λ_=>O)
section
variable{P:V3}{w:V4}{K:A9}{mg:C8}{base:V5}{f:V1}{fd:V7}
def spDe(K:A9):Sp:=λg H Q _=>∃(a:V1)(c:List Int)(k:Int)(v:V)(t:T),g= [.ref a, .int k,v]/\SqL K H a (c.map V.int)/\c...*<=63/\0<=k/\k<10000/\Rep H v t/\T.few t/\T.gk t/\∀(d:V1)(h:Wd)(e:B8)(u:T)(b:Hp),Same H b->Dlay b (.ref d) (h,e,u)->DrI e u->Q (.ref d) b
theorem ok_de{kk:Nat}(F:Fun K "_law_deed" "_law_deed" sDe f fd)(B:Bl2 mg)(y:Dn P w K mg base kk "_law_cell" ["_law_script","_law_k"] (kD K))(ab:Dn P w K mg base kk "_law_walk" ["_law_script","_law_k","_law_thing"] (spWk K))(J:Dn P w K mg base kk "_law_step_at" ["_law_there_here","_law_more"] yHl)(D:Dn P w K mg base kk "_law_thing_by" ["_law_script","_law_k","_law_deep"] (zBy K 3)):FnOk P w K mg base CX0 (kk+1) f fd ["_law_script","_law_k","_law_thing"] (spDe K):=by
 refine F.okn (N:=["_law_script","_law_k","_law_thing","_law_pair","_law_path","_law_there_here","_law_more","_law_word"]) λbg A a3 s H vs Q E nd hr h=>?_;ext yA h a ns k v t M;ext zS M a9 ha ag a5 bf M;ext xA M hv hf a1 q;subst a9;let hu:=wY hr;let a':=hr.units0;refine{_,(zD (pS 3 nd (pD ab hr (zA (pv 0) (zA (pv 1) (zA (pv 2) zB)))))
  (zD (pS 4 nd (pX zP (pv 3) zE))
  (zD (pS 5 nd (pX zP (pv 3) zE))
  (zD (pS 6 nd (pD y hr (zA (pv 0) (zA (zJ xI (pv 1) zE) zB))))
  (zD (pS 7 nd (pX zP (zZ (zA zL (zA zL (zA zL (zA zL zB))))) (zJ yI (pv 6) zE)))
  (zD (zFs (zT (i6 (jI (yD (zN (jB (T:="list") (U:="dict") ∎ ∎) O B.isinstance zH (zA (pv 5) (zA (xH (zA (wA (v:=.ty "list") O B.list yQ O) (zA (wA (v:=.ty "dict") O B.dict xJ O) zB))) zB)))) (jI (pT (zQi a') (pv 4) (zZ zB)) (jP (pT xN (zJ yI (zJ yK (pv 6) zE) zE) zE))))) (zG (pS 4 nd (zJ zBb (pv 4) (zZ (zA (pD J hr (zA (pv 5) (zA (pD y hr (zA (pv 0) (zA (zJ xI (pv 1) zE) zB))) zB))) zB))))) zK))
  (zD (zFs (zT (i6 (vH (pT xN (pv 7) zL) (vH (yD (pI B.isinstance zH B.str jJ (pX zP (pv 4) (wO xO zE)))) (qH (pT kS (zJ yI (zJ yK (pv 6) zE) zE) zE))))) (zG (pS 7 nd zL)) zK))
  (zD (zFs (zT (pT xN (zJ yI (zJ yK (pv 6) zE) zE) zE) (zG (pS 4 nd (zJ zBb (kA uS (pv 4) gO (gP (wO xO zE))) (zZ (zA (pX zP (zZ (zA zL (zA zE (zA zL (zA zE zB))))) (zJ yI (zJ yK (pv 6) zE) zE)) zB))))) zK))
  (zD (zFs (zT (pT xN (zJ yI (zJ yK (pv 6) zE) zE) zE) (zG (pS 4 nd (zZ zB))) zK))
  (zD (zT (pT xN (pv 7) zL) (zG (zI (xH (zA (pv 7) (zA (pv 4) zB))))) zK)
  (zG (zI (xH (zA (pv 7) (zA (pv 4) (zA (pD D hr (zA (pv 0) (zA (zJ xI (pv 1) zE) (zA (zJ yI (zJ yK (pv 6) zE) zE) zB)))) zB)))))))))))))))), ?_}
 walk_at "st";refine cut6 λR hR=>?_;lk;unfold zSk;lk;refine{a,ns,k,v,t,O,ha,ag,a5,∅,hv,hf,a1,λl p0 e x s H1 g1 au ao g ai hx bb az=>?_};refine zY (SqL.of au) (zQ (j:=0) O) (zY (SqL.of au) (zQ (j:=1) O) ?_);obtain⟨c,hc,bh,be⟩:∃c:Int,qN ns (k+8)=c/\0<=c/\c<1000003:={_,O,qB _ _,jE _ _};refine{a,ns,_,O,g1.seq ha,ag,∅,∅,λH2 g2 pw a0=>{c,by rw[hc], ?_}};rw[hc];refine zCi zC ∅ (by show _<((4:Nat):Int);lia) λwv ae=>?_;obtain⟨I,rfl⟩:∃I:Wd,wv=V.str I.s:=by
  simp only[mF,rO,bJ] at ae;rcases ae with rfl | rfl | rfl | rfl
  ·exact{.put,O}
  ·exact{.put,O}
  ·exact{.ins,O}
  ·exact{.tak,O}
 let g3:=g2.trans (zF a0 (.lst [V.str (A8 "put"),V.str (A8 "put"),V.str (A8 "insert"),V.str (A8 "take")]));generalize upd H2 pw (.lst [V.str (A8 "put"),V.str (A8 "put"),V.str (A8 "insert"),V.str (A8 "take")])=H3 at g3⊢;let ay:=g1.trans g3;refine{λσ' H'=>∃(m:V1)(b:B8)(I:Wd),σ'= [Y (V.ref a),Y (V.int k),Y v,Y (V.ref l),Y (V.ref m),Y x,Y (V.int c),Y (V.str I.s)]/\Same H H'/\H' m=Y (.lst (b.map kV))/\b...*<=8/\(∀k∈b,okS k)/\b≠ [], ?_, ?_}
 ·intro p hp
  let s4:=zF hp (.tup [V.ty "list",V.ty "dict"]);refine qX x _ p ⟨O,O⟩ zC (nA ((Rep.same (ay.trans s4) _ _ hx).ty) ?_);generalize upd H3 p (.tup [V.ty "list",V.ty "dict"])=H4 at s4⊢;let ah:=ay.trans s4;let ext:∀H5,Same H4 H5->kD K [V.ref a,V.int (k+9)] H5 (λa6 H1=>yHl [x,a6] H1 (λa8 H1=>∀(p:V1),H1 p=none->zZo (V.ref p0) (V.ref p) (upd H1 p (HO.lst [a8])) λa2 H1=>∃(m:V1)(b:B8)(af:Wd),[Y (V.ref a),Y (V.int k),Y v,Y (V.ref l),Y a2,Y x,Y (V.int c),Y (V.str I.s)]= [Y (V.ref a),Y (V.int k),Y v,Y (V.ref l),Y (V.ref m),Y x,Y (V.int c),Y (V.str af.s)]/\Same H H1/\H1 m=Y (.lst (b.map kV))/\b...*<=8/\(∀k∈b,okS k)/\b≠ []) E0) E0:=λH5 g5=>by
   let n:=ah.trans g5;let c0:=qB ns (k+9);let c1:=jE ns (k+9);refine{a,ns,_,O,n.seq ha,ag,∅,∅,λH6 g6=>{x,s,_,O,Rep.same (n.trans g6) _ _ hx,bb,az,c0,∅,λkk H7 g7 ak p7 aj=>?_}};let av:=(g3.trans (s4.trans (g5.trans (g6.trans g7))));let s8:=zF aj (.lst [kV kk]);refine{p0,p7,_,_,O,O,s8 _ _ (av _ _ ao),zC,by rw[mN,nL,mS];lia,λm r=>?_};let s9:=zF r (.lst (e.map kV++ [kV kk]));refine qX m (e++ [kk]) I O (g1.trans (av.trans (s8.trans s9))) (zZc ?_ (by rw[mM,nL];lia) (λk' al=>?_) (by simp))
   ·rw[zC];exact congrArg (λz=>Y (HO.lst z)) (yAw e kk)
   ·rcases nB.mp al with z | z
    ·exact ai _ z
    ·rw[mH.mp z];exact ak
  by_cases hh:(yC (tyT s) "list" || yC (tyT s) "dict")=true
  ·exact iP hh (ext _ (Same.refl _))
  refine iN hh λp2 a4=>?_;let s5:=zF a4 (.lst []);refine{p0,p2,_,O,O,SqL.of ((g3.trans (s4.trans s5)) _ _ ao),SqL.of zC,_,O, ?_}
  by_cases h0:e= []
  ·exact iP (by rw[h0];rfl) (ext _ s5)
  refine iN (by cases e with | nil=>exact absurd O h0 | cons _ _=>simp) {c,O, ?_}
  by_cases h9:c / 4 % 9=1
  ·exact iP h9 (ext _ s5)
  ·exact iN h9 {p0,e,I,O,ah.trans s5,(g3.trans (s4.trans s5)) _ _ ao,∅,ai,h0}
 ·intro σ4 H4 M
  ext zU M m b I am ah M;ext xA M r g L ac;subst am;subst hR;refine uZ λR hR=>?_;lk;unfold zSk;lk;refine{λσ' H'=>∃(m:V1)(b:B8)(I:Wd),σ'= [Y (V.ref a),Y (V.int k),Y v,Y (V.ref l),Y (V.ref m),Y x,Y (V.int c),Y (V.str I.s)]/\Same H H'/\H' m=Y (.lst (b.map kV))/\b...*<=8/\(∀k∈b,okS k)/\b≠ [], ?_, ?_}
  ·let aa:∀(af:Wd),∃(aq:V1)(b:B8)(ap:Wd),[Y (V.ref a),Y (V.int k),Y v,Y (V.ref l),Y (V.ref m),Y x,Y (V.int c),Y (V.str af.s)]= [Y (V.ref a),Y (V.int k),Y v,Y (V.ref l),Y (V.ref aq),Y x,Y (V.int c),Y (V.str ap.s)]/\Same H H4/\H4 aq=Y (.lst (b.map kV))/\b...*<=8/\(∀k∈b,okS k)/\b≠ []:=λaf=>⟨m,b,af,O,ah,r,g,L,ac⟩
   by_cases hi:I.s=A8 "insert"
   ·refine iP hi ?_
    obtain⟨e,kl,rfl⟩:∃e kl,b=e++ [kl]:={b.dropLast,b.getLast ac,(aR ac).symm};refine zY (SqL.of r) (v:=kV kl) (by rw[nI];exact xY _ _) ?_
    cases kl with
    |inl i=>exact{"int",O,iN ∎ (aa I)}|inr z=>
     refine nEA ("str") O (iP ∎ ?_)
     by_cases h5:0<c / 36 % 5
     ·exact iP h5 (aa .put)
     ·exact iN h5 (aa I)
   ·exact iN hi (aa I)
  ·intro σ5 H5 M
   ext zU M m b I am n M;ext xA M r g L ac;subst am;subst hR;refine uZ λR hR=>?_;lk;unfold zSk;lk;refine{λσ' H'=>∃(m:V1)(b:B8),σ'= [Y (V.ref a),Y (V.int k),Y v,Y (V.ref l),Y (V.ref m),Y x,Y (V.int c),Y (V.str I.s)]/\Same H H'/\H' m=Y (.lst (b.map kV))/\b...*<=8/\(∀k∈b,okS k), ?_, ?_}
   ·by_cases ax:c / 180 % 17=1
    ·refine iP ax {m,_,O,SqL.of r,λpc a7=>?_}
     obtain⟨e,kl,rfl⟩:∃e kl,b=e++ [kl]:={b.dropLast,b.getLast ac,(aR ac).symm};let ek:List.take (((e++ [kl]).map kV)...* - 1) ((e++ [kl]).map kV)=e.map kV:=by
      rw[nI,mM,mN];exact cK (by simp)
     rw[zLq,ek];let s6:=zF a7 (.lst (e.map kV));let e6:=zC (H:=H5) (a:=pc) (o:=.lst (e.map kV));generalize upd H5 pc (.lst (e.map kV))=H6 at s6 e6⊢;intro p7 aj;let s7:=zF aj (.lst [V.str (A8 "a"),V.int 59,V.str (A8 "zz9"),V.int 0]);refine zCi zC ∅ (by show _<((4:Nat):Int);lia) λwv ae p8 ar=>?_;obtain⟨kk,rfl,ak⟩:∃kk,wv=kV kk/\okS kk:=by
      simp only[mF,rO,bJ] at ae;rcases ae with rfl | rfl | rfl | rfl
      ·exact nEA (.inr _) O (by show xF (ts (A8 "a"))=true;decide+kernel)
      ·exact nEA (.inl 59) O (by show(0:Int)<=59/\(59:Int)<=59;decide)
      ·exact nEA (.inr _) O (by show xF (ts (A8 "zz9"))=true;decide+kernel)
      ·exact nEA (.inl 0) O (by show(0:Int)<=0/\(0:Int)<=59;decide)
     generalize upd H6 p7 (.lst [V.str (A8 "a"),V.int 59,V.str (A8 "zz9"),V.int 0])=H7 at s7 ar⊢;let s8:=zF ar (.lst [kV kk]);rw[mM,nL] at g;refine{pc,p8,_,_,O,O,s8 _ _ (s7 _ _ e6),zC,by rw[mN,nL,mS];lia,λpe bc=>?_};let s9:=zF bc (.lst (e.map kV++ [kV kk]));refine zBv pe (e++ [kk]) O (n.trans (s6.trans (s7.trans (s8.trans s9)))) ?_ (nA (by rw[mM,nL];lia) (λk' al=>?_))
     ·rw[zC];exact congrArg (λz=>Y (HO.lst z)) (yAw e kk)
     ·rcases nB.mp al with z | z
      ·exact L _ (nQ _ z)
      ·rw[mH.mp z];exact ak
    ·exact iN ax ⟨m,b,O,n,r,g,L⟩
   ·clear r g L ac n H5 b m
    intro σ5 H5 M;ext zR M m b an n r M;ext oA M g L;subst an;subst hR;refine uZ λR hR=>?_;lk;unfold zSk;lk;refine{λσ' H'=>∃(m:V1)(b:B8),σ'= [Y (V.ref a),Y (V.int k),Y v,Y (V.ref l),Y (V.ref m),Y x,Y (V.int c),Y (V.str I.s)]/\Same H H'/\H' m=Y (.lst (b.map kV))/\b...*<=8/\(∀k∈b,okS k), ?_, ?_}
    ·by_cases aw:c / 180 % 29=2
     ·exact iP aw λp hp=>{p,[],O,n.trans (zF hp _),zC,by decide,λ_ h=>nomatch h}
     ·exact iN aw ⟨m,b,O,n,r,g,L⟩
    ·clear r g L n H5 b m
     intro σ5 H5 M;ext zR M m b an n r M;ext oA M g L;subst an;subst hR;lk
     by_cases ht:I.s=A8 "take"
     ·refine iP ht λd hd=>?_
      let s6:=zF hd (.tup [V.str I.s,V.ref m]);let hw:I= .tak:=by
       cases I with|tak=>rfl|put=>exact absurd ht ∎|ins=>exact absurd ht ∎
      exact q d I b .non _ (n.trans s6) {d,m,[],O,zC,s6 _ _ r, .inl ⟨hw,O⟩} {∅,L,mK,mK,nR _,by decide}
     ·obtain⟨dd,ba,bd⟩:∃dd:Nat,c / 7 % 3=(dd:Int)/\dd<=2:={(c / 7 % 3).toNat,∅,∅}
      rw[ba];let p5:(5:Int)^ dd<=25:=by
       rcases(show dd=0\/dd=1\/dd=2 by lia) with z | z | z<;>subst z<;>decide
      let p0:=yIh dd;refine iN ht {dd,∅,a,ns,_,O,n.seq ha,ag,∅, ?_,λx H6 u g6 hx hn d hd=>?_}
      ·let:=Int.mul_le_mul (show k+10+2<=10020 by lia) p5 ∅ ∎
       lia
      ·let s6:=g6.trans (zF hd (.tup [V.str I.s,V.ref m,x]))
       let z1:=Nice.sz u hn;let z2:=Nice.dep u hn;let p25:5 ^ dd<=25:=by
        rcases(show dd=0\/dd=1\/dd=2 by lia) with z | z | z<;>subst z<;>decide
       exact q d I b u _ (n.trans s6) {d,m,[x],O,zC,s6 _ _ r, .inr {λz=>ht (by let z':I= .tak:=z;rw[z'];rfl),x,O,Rep.same (zF hd _) _ _ hx}} {∅,L,Nice.fewm u hn,(uJ dd u ∅ hn).gk,∅,∅}
end
abbrev sBa:V6:=top 71
theorem yAp{b:Int}(c: -(10 ^ 12)<=b)(a:b<=10 ^ 12):b.natAbs.log2<1920:=by
 by_cases h:b.natAbs=0
 ·rw[h];decide
 ·refine(Nat.log2_lt h).mpr (cW (show b.natAbs<=10 ^ 12 by lia) (nN (show 10 ^ 12<2 ^ 40 by decide) (Nat.pow_le_pow_right ∎ ∎)))
structure BaseI(t:T):Prop where
 f:T.fewm 30 t
 c:T.gk t
 d:T.dep t<=8
 z:T.sz t<=200
 n:lnar t=true
mutual
theorem Nice.lnar{d:Nat}:∀(t:T),Nice d t->lnar t=true
 |.lst a,h=>by
  show(decide (a...*<=60)&& xM a)=true;rw[nF (by let:=h.2.1;lia),NiceL.lnar a h.2.2];rfl
 |.dic ks a,h=>by
  show(decide (ks...*<=30)&& xM a)=true;rw[nF (by let:=h.2.1;let:=h.2.2.1;lia),NiceL.lnar a h.2.2.2.2.2];rfl
 |.tup _,h=>h.elim|.non,_=>rfl|.bl _,_=>rfl|.int _,_=>rfl|.str _,_=>rfl
theorem NiceL.lnar{d:Nat}:∀(us:B0),NiceL d us->xM us=true
 |[],_=>rfl|t::us,h=>by
  show(K43.lnar t && xM us)=true;rw[Nice.lnar t h.1,NiceL.lnar us h.2];rfl
end
theorem zTs{d:Nat}{t:T}(a:d<=3)(h:Nice d t):BaseI t:=by
 let f:=uJ d t ∅ h;let z:=Nice.sz t h;let e:=Nice.dep t h;let p:5 ^ d<=125:=by
  rcases(show d=0\/d=1\/d=2\/d=3 by lia) with z | z | z | z<;>subst z<;>decide
 exact{Nice.fewm t h,f.gk,∅,∅,Nice.lnar t h}
theorem nam61:∀m:Fin 61,xF (ts (A8 "n" ++A8 (toString ((m.val:Nat):Int))))=true:=by decide+kernel
theorem nam60{j:Int}(a:0<=j)(b:j<=60):xF (ts (A8 "n" ++A8 (toString j)))=true:=by
 let:=nam61 {j.toNat,∅}
 rwa [show((j.toNat:Nat):Int)=j by lia] at this
theorem len61:∀m:Fin 61,(A8 (toString ((m.val:Nat):Int)))...*<=10:=by decide+kernel
theorem len60{j:Int}(a:0<=j)(b:j<=60):(A8 (toString j))...*<=10:=by
 let:=len61 {j.toNat,∅}
 rwa [show((j.toNat:Nat):Int)=j by lia] at this
theorem m3{α:Type}{H:Hp}{f:α->V}{g:α->T}(h:∀x,Rep H (f x) (g x)):∀l:List α,Reps H (l.map f) (l.map g)
 |[]=>rfl|x::l=>{_,_,O,h x,m3 h l}
theorem zMe{us:B0}(h:∀u∈us,∃j:Int,u= .int j/\0<=j/\j<=60):i3 30 us/\k6 us/\T.deps us<=0/\T.szs us<=us...*/\xM us=true:=by
 refine yDb (d7 λt a=>?_) (j4 λt a=>?_) (d8 λt a=>?_) ?_ ?_
 ·obtain⟨j,rfl,_⟩:=h t a
  exact mK
 ·refine xC (h t a) λj b e f=>?_
  subst b;show _/\_
  lia
 ·obtain⟨j,rfl,_⟩:=h t a
  exact mE _
 ·skip
  induction us with
  |nil=>exact mE _|cons u us d=>
   obtain⟨j,rfl,_⟩:=h u mD;let:=d λv c=>h v (mG _ c);show 1+T.szs us<=us...*+1
   lia
 ·skip
  induction us with
  |nil=>rfl|cons u us d=>
   obtain⟨j,rfl,_⟩:=h u mD;exact d λv c=>h v (mG _ c)
section
variable{P:V3}{w:V4}{K:A9}{mg:C8}{base:V5}{f:V1}{fd:V7}
def spBa(K:A9):Sp:=λd H Q _=>∃(a:V1)(c:List Int)(k:Int),d= [.ref a, .int k]/\SqL K H a (c.map V.int)/\c...*<=63/\0<=k/\k<7000/\∀(v:V)(t:T)(b:Hp),Same H b->Rep b v t->BaseI t->Q v b
theorem ok_ba{kk:Nat}(F:Fun K "_law_base" "_law_base" sBa f fd)(B:Bl2 mg)(r:Dn P w K mg base kk "_law_cell" ["_law_script","_law_k"] (kD K))(d:Dn P w K mg base kk "_law_thing_by" ["_law_script","_law_k","_law_deep"] (zBy K 3)):FnOk P w K mg base CX0 (kk+1) f fd ["_law_script","_law_k"] (spBa K):=by
 refine F.okn (N:=["_law_script","_law_k","_law_more","_law_deep","_law_j","_law_names","_law_row"]) λbh A a3 s H vs Q E nd hr h=>?_;ext zU h a ns k M ha m;ext xA m aa bd bf q;subst M;let hu:=wY hr;let bi:=hr.units0;refine{_,(zD (pS 2 nd (pD r hr (zA (pv 0) (zA (pv 1) zB))))
  (zD (zT (pT jU (zJ yI (pv 2) zE) zE) (zG (zI (pD d hr (zA (pv 0) (zA (zJ xI (pv 1) zE) (zA zE zB)))))) zK)
  (zD (zT (pT xN (zJ yI (pv 2) zE) zE) (zG (zI (xS (own:=["_law_j"]) (F:=[("_law_script",0),("_law_k",1)]) {O,tb_g%,tb_g%,tb_g%,(.cons O O O (.cons O O O .nil))} O (wE O B.range (zA (zJ yI (zJ yK (pv 2) zE) zE) zB)) (λ_ _ _ _=>yG (i:=0) (by show(xW ["_law_j"] [("_law_script",0),("_law_k",1)]).Nodup;decide+kernel) O (nO O)) (λ_ _ _ _=>yT) (λ_ _ _ _=>(pD d hr (zA (pv 1) (zA (zJ xI (zJ xI (pv 2) zE) (pv 0)) (zA (zJ yI (pv 0) zE) zB)))))))) zK)
  (zD (pS 3 nd (zJ yI (zJ yK (pv 2) zE) zE))
  (zD (vX PassesOwn.never O (wE O B.range (zA zE zB)) (yG (i:=4) nd O (nO O)) (zG (pS 3 nd (zZ (zA (pv 3) zB)))))
  (zD (pS 5 nd zGc)
  (zD (vX PassesOwn.never O (wE O B.range (zA (zJ vJ zE (zJ yI (zJ yK (pv 2) zE) zE)) zB)) (yG (i:=4) nd O (nO O)) (zG (zCh hu (pv 5) (zJ jO zL (yJ zKp O B.str jJ (zA (pv 4) zB))) (pv 4) O)))
  (zD (gJ (i:=6) nd O (nO O) (own:=["_law_j"]) (F:=[]) {O,tb_g%,tb_g%,tb_g%, .nil} O (wE O B.range (zA (zJ vJ zE (zJ yI (zJ yK (pv 2) zE) zE)) zB)) (λ_ _ _ _=>yG (i:=0) (by show(xW ["_law_j"] []).Nodup;decide+kernel) O (nO O)) (λ_ _ _ _=>yT) (λ_ _ _ _=>(pv 0)))
  (zG (zI (yAv (zCm zL (pv 6) (zCm zL (pv 3) (zCm zL (pv 5) (zCm zL (zFf (pD d hr (zA (pv 0) (zA (zJ xI (pv 1) zE) (zA zE zB))))) yCa)))) (by rfl) (by rfl) (dM _ _) ∎))))))))))), ?_}
 walk_at "st";lk;obtain⟨c,hc,bj,ba⟩:∃c:Int,qN ns k=c/\0<=c/\c<1000003:={_,O,qB _ _,jE _ _};refine{a,ns,_,O,ha,aa,∅,∅,λH1 g1=>?_};rw[hc];refine nEA c O ?_;let p3:(k+1+2)*5 ^ 3<=1000000:=by
  rw[show(5:Int)^ 3=125 from O];lia
 by_cases h2:c % 5<2
 ·exact iP h2 {3,mE _,a,ns,_,O,g1.seq ha,aa,∅,p3,λv H2 t g2 hv J=>q v t _ (g1.trans g2) hv (zTs (mE _) J)}
 refine iN h2 {c,O, ?_}
 by_cases h3:c % 5=2
 ·refine iP h3 {c,O,∅,∅, ?_}
  let a5:(c / 5 % 31).toNat<=30:=by lia
  refine uK (λi I L=>Same H L/\∃l,Reps L I l/\l...*=i/\∀t∈l,Nice 1 t) (by rw[mS];lia) {g1,[],O,O,λ_ h=>nomatch h} ?_ ?_
  ·rintro i I H2 hi _ ⟨g2,l,hR,hl,hN⟩
   lk;obtain⟨dd,a8,bc⟩:∃dd:Nat,(0+(i:Int))% 2=(dd:Int)/\dd<=1:={((0+(i:Int))% 2).toNat,∅,∅};rw[a8];refine{dd,∅,a,ns,_,O,g2.seq ha,aa,∅, ?_,λv H3 t g3 hv J=>{g2.trans g3,l++ [t],Reps.snoc hv (Reps.same g3 _ _ hR),by rw[mM,nL,hl],λu hu=>?_}}
   ·let p5:(5:Int)^ dd<=5:=by
     rcases(show dd=0\/dd=1 by lia) with z | z<;>subst z<;>decide
    let:=Int.mul_le_mul (show k+1+(0+(i:Int))+2<=8000 by lia) p5 (by let:=yIh dd;lia) ∎
    lia
   ·rcases nB.mp hu with z | z
    ·exact hN u z
    ·rw[mH.mp z]
     rcases(show dd=0\/dd=1 by lia) with z | z
     ·subst z
      cases t with|lst _=>exact absurd J.1 ∎|dic _ _=>exact absurd J.1 ∎|tup _=>exact J.elim|_=>exact J
     ·subst z;exact J
  ·rintro I H2 _ ⟨g2,l,hR,hl,hN⟩ p hp
   let s3:=zF hp (.lst I);let bg:T.deps l<=1:=d8 λt ht=>Nice.dep t (hN t ht);let a':=NiceL.sz l (NiceL_iff.mpr hN);refine q _ (.lst l) _ (g2.trans s3) {p,I,O,zC,Reps.same s3 _ _ hR} {{∅,d7 λt ht=>Nice.fewm t (hN t ht)},j4 λt ht=>(uJ 1 t ∎ (hN t ht)).gk, ?_, ?_, ?_}
   ·show T.deps l+1<=8
    lia
   ·show T.szs l+1<=200
    let:l...**5 ^ 1<=30*5:=Nat.mul_le_mul ∅ ∎
    lia
   ·show(decide (l...*<=60)&& xM l)=true
    rw[nF ∅,NiceL.lnar l (NiceL_iff.mpr hN)];rfl
 refine iN h3 {c,O, ?_};refine jY (λi σ L=>∃(y:V)(t:T)(o:Option V),σ= [Y (V.ref a),Y (V.int k),Y (V.int c),Y y,o,none,none]/\Same H L/\Rep L y t/\T.fewm 30 t/\T.gk t/\T.dep t<=i/\T.sz t<=i+1/\lnar t=true) {_, .int _,_,O,g1,O,mK,by show _/\_;lia,nR _,mE _,O} ?_ ?_
 ·intro i σ H2 hi m
  ext zU m y t o M g2 m;ext zS m hy hf ae hd hz ah;subst M;lk;intro p hp;let s3:=zF hp (.lst [y]);refine yFs _ ⟨O,_,O⟩ (g2.trans s3) (.lst [t]) {p,_,O,zC,{y,[],O,Rep.same s3 _ _ hy,O}} (yDb {by simp,hf,mK} ⟨ae,mK⟩ ?_ ?_ ?_)
  ·show max (T.dep t) 0+1<=i+1
   lia
  ·show T.sz t+0+1<=i+1+1
   lia
  ·show(decide (1<=60)&& (lnar t && true))=true
   rw[ah];rfl
 ·intro σ H2 m
  ext zU m yd td o M g2 m;ext zS m hy hf ae hd hz ah;subst M;lk;intro D ab;let s3:=zF ab (.dK []);let e3:=zC (H:=H2) (a:=D) (o:=.dK []);let a4:=Rep.same s3 _ _ hy;let g3:=g2.trans s3;let ax:Rep (wB (upd H2 D (.dK [])) D) yd td:=by
   rw[qM];exact Rep.same (λb o e=>by rw[xX λz=>by subst z;rw[ab] at e;cases e];exact e) _ _ hy
  generalize upd H2 D (.dK [])=H3 at s3 e3 a4 g3 ax⊢;let a1:H D=none:=zW g2 ab;refine nAA ∅ ∅ ?_;let a5:(30 - c / 36 % 3).toNat<=30:=by lia
  refine jY (λi σ L=>∃(o:Option V)(ps:D0)(ks:C6)(l:B0),σ= [Y (V.ref a),Y (V.int k),Y (V.int c),Y yd,o,Y (V.ref D),none]/\Same H L/\Rep (wB L D) yd td/\L D=Y (.dK ps)/\ps.map (·.1)=ks.map nK/\Reps H (ps.map (·.2)) l/\ks.Nodup/\ks...*=l...*/\(∀k∈ks,xF k=true)/\l...*<=i/\∀u∈l,∃j:Int,u= .int j/\0<=j/\j<=60) {_,[],[],[],O,g3,ax,e3,O,O,aO,O,zXt,mE _,λ_ h=>nomatch h} ?_ ?_
  ·intro i σ H5 hi m
   ext yN m o5 ps ks l ac m;ext zS m g5 ai ak af hs m;ext vB m aj am ag a7 al;subst ac;unfold zRl;lk;let bb:ps...*=l...*:=by let:=hs...*;rwa [mN] at this
   obtain⟨j,hj,ao,an⟩:∃j:Int,0+(i:Int)=j/\0<=j/\j<=60:={_,O,∅,∅};rw[hj];refine{yAp ∅ ∅, ?_};let l1:=len60 ao an;let l0:(A8 "n")...*=1:=by decide+kernel
   let az:=nam60 ao an;generalize A8 "n" ++A8 (toString j)=z at az⊢;let ex:(Sum.inr z:Key)=nK (ts z):=by show(Sum.inr z:Key)=Sum.inr (tx (ts z));rw[qJ]
   refine uP ∅ _ (DPut.k (k:=Sum.inr z) ak (by rw[mS];lia)) (vM g5 a1) (by rw[qM];exact ai) (nEA _ zC ?_);rw[ex];obtain⟨p1,p2⟩:=zDd (H:=H) (p:=(ks,l)) (n:=ts z) (v:=.int j) (t:=.int j) af hs O;obtain⟨q1,q2⟩:=uI (ks:=ks) (us:=l) (n:=ts z) (t:=.int j) am;exact zDx _ p1 _ p2 (gD aj) (zZc q1 (λk hk=>(putT_in.mp hk).elim (ag k) λe=>by rw[e];exact az) ∅ (λu hu=>(zCn hu).elim (al u) λe=>⟨j,e,ao,an⟩))
  ·intro σ H5 m
   ext yN m o5 ps ks l ac m;ext zS m g5 ai ak af hs m;ext vB m aj am ag a7 al;subst ac;lk;refine nAA ∅ ∅ ?_;let au:(60 - c / 108 % 3).toNat<=60:=by lia
   refine uK (λi I L=>L=H5/\I=(List.range i).map λj=>V.int (j:Nat)) (by rw[mS];lia) ⟨O,O⟩ ?_ ?_
   ·rintro i I H6 hi _ ⟨rfl,rfl⟩
    lk;rw[List.range_succ,nI];simp
   ·rintro I H6 _ ⟨rfl,ay⟩ pw a2
    generalize (60 - c / 108 % 3).toNat=n6 at au ay;let s7:=zF a2 (.lst I);let e7:=zC (H:=H6) (a:=pw) (o:=.lst I);let g7:=g5.trans s7;let aq:=s7 _ _ ak;let av:Rep (upd H6 pw (.lst I)) yd td:=Rep.same (λb o e=>s7 _ _ (xP _ _ e)) _ _ ai;generalize upd H6 pw (.lst I)=H7 at s7 e7 g7 aq av⊢;intro p hp;let s8:=zF hp (.dK []);let e8:=zC (H:=H7) (a:=p) (o:=.dK []);unfold zKt zRm;refine{p, .inl {[],e8,λo=>?_}};let gf:Same H7 (upd (upd H7 p (.dK [])) p (.frz o (.dK []))):=vM s8 hp;lk;refine{2,by decide,a,ns,_,O,(g7.trans gf).seq ha,aa,∅,by rw[show(5:Int)^ 2=25 from O];lia,λv Hc t gc hv J=>?_};let gt:=uG e8 gc;let e9:=zSj e8 (by intro o v z;cases z) gc;let ar:Rep (wB (L2.thaw (upd H7 p (.dK [])) Hc) p) v t:=Rep.off (gc _ _ zC) hv;dsimp only;generalize L2.thaw (upd H7 p (.dK [])) Hc=H9 at gt e9 ar⊢;refine nAEAA e9 ([(Sum.inr (A8 "r"),V.ref pw),(Sum.inr (A8 "d"),yd),(Sum.inr (A8 "n"),V.ref D),(Sum.inr (A8 "z"),v)]) O (by simp) ?_;rw[kG _ [] (by show([Sum.inr (A8 "r"),Sum.inr (A8 "d"),Sum.inr (A8 "n"),Sum.inr (A8 "z")]:B8).Nodup;decide+kernel),aE];let gF:Same H7 (upd H9 p (.dK [(Sum.inr (A8 "r"),V.ref pw),(Sum.inr (A8 "d"),yd),(Sum.inr (A8 "n"),V.ref D),(Sum.inr (A8 "z"),v)])):=vM (s8.trans gt) hp;let aw:Rep (upd H9 p (.dK [(Sum.inr (A8 "r"),V.ref pw),(Sum.inr (A8 "d"),yd),(Sum.inr (A8 "n"),V.ref D),(Sum.inr (A8 "z"),v)])) v t:=Rep.same zDf _ _ ar;let ap:=zC (H:=H9) (a:=p) (o:=.dK [(Sum.inr (A8 "r"),V.ref pw),(Sum.inr (A8 "d"),yd),(Sum.inr (A8 "n"),V.ref D),(Sum.inr (A8 "z"),v)]);generalize upd H9 p (.dK [(Sum.inr (A8 "r"),V.ref pw),(Sum.inr (A8 "d"),yd),(Sum.inr (A8 "n"),V.ref D),(Sum.inr (A8 "z"),v)])=HF at gF aw ap⊢;let a0:∀u∈(List.range n6).map (λj=>T.int ((j:Nat):Int)),∃j:Int,u= .int j/\0<=j/\j<=60:=λu hu=>by
     refine oEA (nV.mp hu) λj hj a6=>?_;subst a6;let:=tQ.mp hj;exact zAm _ O ∅ ∅
    refine vB (zMe a0) λr1 r2 r3 r4 r5=>?_;refine vB (zMe al) λn1 n2 n3 n4 n5=>?_;rw[mN,bU] at r4;let tz:=Nice.sz t J;let a9:=Nice.dep t J;let be:T.sz t<=25:=tz;refine q _ (.dic [ts (A8 "r"),ts (A8 "d"),ts (A8 "n"),ts (A8 "z")] [.lst ((List.range n6).map λj=>T.int ((j:Nat):Int)),td, .dic ks l,t]) HF (g7.trans gF) {p,_,O,ap, ?_, ?_} ?_
    ·simp only[nG,sP,qJ]
    ·refine{_,_,O,{pw,I,O,gF _ _ e7, ?_},_,_,O,Rep.same gF _ _ av,_,_,O,{D,ps,O,gF _ _ aq,af,Reps.same (g7.trans gF) _ _ hs},_,_,O,aw,O}
     rw[ay];exact m3 (f:=λj:Nat=>V.int (j:Int)) (g:=λj:Nat=>T.int (j:Int)) (λx=>show V.int _=V.int _ from O) _
    ·refine{{by decide+kernel,by decide,O,{by rw[mN,bU];lia,r1},hf,{aj,∅,am,n1},Nice.fewm t J,mK},{by decide+kernel,r2,ae,⟨ag,n2⟩,(uJ 2 t ∎ J).gk,mK}, ?_, ?_, ?_}
     ·show max (T.deps _+1) (max (T.dep td) (max (T.deps l+1) (max (T.dep t) 0)))+1<=8
      lia
     ·show(T.szs _+1)+(T.sz td+((T.szs l+1)+(T.sz t+0)))+1<=200
      lia
     ·show(decide (4<=30)&& ((decide (((List.range n6).map λj=>T.int ((j:Nat):Int))...*<=60)&& xM ((List.range n6).map λj=>T.int ((j:Nat):Int)))&& (lnar td && ((decide (ks...*<=30)&& xM l)&& (lnar t && true)))))=true
      rw[r5,n5,ah,Nice.lnar t J,nF (show ks...*<=30 by lia),mN,bU,nF au];rfl
abbrev sDs:V6:=top 75
theorem Dlay.off{H j:Hp}{p:V1}{o:Obj}{w:HO}{v:V}{d:Dd}(i:j p=Y (.frz o w))(h:Dlay j v d):Dlay (wB (L2.thaw H j) p) v d:=by
 ext zU h n m r e g l;ext oA l k q;subst e;refine{n,m,r,O, ?_, ?_,q.imp id fun⟨a,x,b,c⟩=>{a,x,b,Rep.off i c}}
 ·rw[xX λz=>by rw[z,i] at g;cases g]
  exact vR g λ_ _ z=>by cases z
 ·rw[xX λz=>by rw[z,i] at k;cases k]
  exact vR k λ_ _ z=>by cases z
theorem zTg{H a:Hp}{q:V1}:L2.thaw H (wB a q)=wB (L2.thaw H a) q:=by
 funext b
 by_cases z:b=q
 ·subst z;rw[gN,zJe gN]
 ·rw[xX z]
  unfold L2.thaw;rw[xX z]
theorem uB{H:Hp}{p q:V1}:wB (wB H p) q=wB (wB H q) p:=by
 funext b
 unfold wB
 by_cases z:b=q<;>by_cases y:b=p<;>simp[z,y]
theorem n9{H a:Hp}{p q:V1}{o:Obj}{w:HO}{v:V}{d:Dd}(c:a p=Y (.frz o w))(b:p≠q)(h:Dlay (wB a q) v d):Dlay (wB (wB (L2.thaw H a) p) q) v d:=by
 let z:=Dlay.off (H:=H) (show wB a q p=Y (.frz o w) by rw[xX b];exact c) h;rw[zTg,uB] at z;exact z
theorem Dlays.snoc{H:Hp}{xs:B3}{ds:C4}{v:V}{d:Dd}(h:Dlays H xs ds)(m:Dlay H v d):Dlays H (xs++ [v]) (ds++ [d]):=by
 obtain⟨j,h⟩:=h;refine{by rw[mM,mM,j];rfl,λi k l b a=>?_}
 by_cases c:i<xs...*
 ·rw[pB c] at b
  rw[pB ∅] at a;exact h i k l b a
 ·rw[nS ∅] at b
  rw[nS ∅,<-j] at a;let g:=(mJ.mp b).1;rw[nL] at g;let e:i - xs...*=0:=by lia
  rw[e] at b a;cases b;cases a;exact m
theorem zDy{d:Dd}:∀(ds:C4)(i:Nat)(t u:T),wL i ds t= .inr u->wL i (ds++ [d]) t=match doT d.1 d.2.2 d.2.1 u with
  |none=>.inl (i+ds...*)|some r=>.inr r
 |[],i,t,u,h=>by
  let e:t=u:=Sum.inr.inj h;subst e;show(match doT d.1 d.2.2 d.2.1 t with | none=>Sum.inl i | some r=>wL (i+1) [] r)=_
  cases doT d.1 d.2.2 d.2.1 t<;>rfl
 |d0::ds,i,t,u,h=>by
  rw[aX]
  cases e:doT d0.1 d0.2.2 d0.2.1 t with
  |none=>rw[jT e] at h;cases h|some r=>
   rw[qV e] at h⊢;rw[zDy ds (i+1) r u h,mW,show i+1+ds...*=i+(ds...*+1) by lia]
theorem zIh{d:Dd}{j:Nat}:∀(ds:C4)(i:Nat)(t:T),wL i ds t= .inl j->wL i (ds++ [d]) t= .inl j
 |[],i,t,h=>by cases h|d0::ds,i,t,h=>by
  rw[aX]
  cases e:doT d0.1 d0.2.2 d0.2.1 t with
  |none=>rw[jT e] at h⊢;exact h|some r=>
   rw[qV e] at h⊢;exact zIh ds (i+1) r h
theorem zEk{d:Dd}{ds:C4}{t:T}(h:doT d.1 d.2.2 d.2.1 t=none):stands (d::ds) t= [t]:=by
 show t::(match doT d.1 d.2.2 d.2.1 t with
  | some r=>stands ds r|none=>[])=_
 rw[h]
theorem zAo{d:Dd}:∀(ds:C4)(i:Nat)(t u:T),wL i ds t= .inr u->stands (ds++ [d]) t=stands ds t++(match doT d.1 d.2.2 d.2.1 u with
  | none=>[]|some r=>[r])
 |[],i,t,u,h=>by
  let e:t=u:=Sum.inr.inj h;subst e;show t::(match doT d.1 d.2.2 d.2.1 t with
  | some r=>stands [] r|none=>[])=_
  cases doT d.1 d.2.2 d.2.1 t<;>rfl
 |d0::ds,i,t,u,h=>by
  rw[aX]
  cases e:doT d0.1 d0.2.2 d0.2.1 t with
  |none=>rw[jT e] at h;cases h|some r=>
   rw[qV e] at h;rw[qF e,qF e,zAo ds (i+1) r u h];rfl
theorem zEs{d:Dd}{j:Nat}:∀(ds:C4)(i:Nat)(t:T),wL i ds t= .inl j->stands (ds++ [d]) t=stands ds t
 |[],i,t,h=>by cases h|d0::ds,i,t,h=>by
  rw[aX]
  cases e:doT d0.1 d0.2.2 d0.2.1 t with
  |none=>rw[zEk e,zEk e]|some r=>
   rw[qV e] at h;rw[qF e,qF e,zEs ds (i+1) r h]
def TrR(ds:C4)(t:T)(o:V)(u:T):Prop:=(o= .non/\wL 0 ds t= .inr u)\/∃j:Nat,o= .int j/\wL 0 ds t= .inl j
theorem t0{ds:C4}{t u r:T}{d:Dd}(h:wL 0 ds t= .inr u)(a:doT d.1 d.2.2 d.2.1 u=Y r):TrR (ds++ [d]) t .non r:=.inl {O,by rw[zDy ds 0 t u h,a]}
theorem t8{ds:C4}{t u b:T}{d:Dd}(h:wL 0 ds t= .inr u)(a:doT d.1 d.2.2 d.2.1 u=none):TrR (ds++ [d]) t (.int (ds...*:Nat)) b:=.inr {ds...*,O,by rw[zDy ds 0 t u h,a,Nat.zero_add]}
theorem r9{ds:C4}{t a:T}{d:Dd}{j:Nat}(h:wL 0 ds t= .inl j):TrR (ds++ [d]) t (.int j) a:=.inr {j,O,zIh ds 0 t h}
def yHn(K:A9):Sp:=λp H Q _=>∃(a:V1)(g:List Int)(k:Int)(v:V)(n:Int)(t:T),p= [.ref a, .int k,v, .int n]/\SqL K H a (g.map V.int)/\g...*<=63/\0<=k/\k<1000/\0<=n/\n<=12/\Rep H v t/\T.fewm 30 t/\T.gk t/\T.dep t<=9/\T.sz t<=300/\∀(l i j:V1)(o:V)(m h:B3)(x:V)(e:C4)(c:T)(b:Hp),Same H b->b l=Y (.lst [.ref i, .ref j,o])->b i=Y (.lst m)->Dlays b m e->(∀d∈e,Od d)->e...*<=12->b j=Y (.lst (h++ [x]))->Rep b x c->Reps b (h++ [x]) (stands e t)->TrR e t o c->T.fewm 42 c->T.gk c->T.dep c<=10->T.sz c<=700->Q (.ref l) b
theorem ok_ds{kk:Nat}(F:Fun K "_law_deeds" "_law_deeds" sDs f fd)(B:Bl2 mg)(ae:Dn P w K mg base kk "_law_held" ["_law_thing"] (zGt 20))(ab:Dn P w K mg base kk "_law_deed" ["_law_script","_law_k","_law_thing"] (spDe K))(L:Dn P w K mg base kk "_law_deed_on" ["_law_thing","_law_deed_here"] yGs):FnOk P w K mg base CX0 (kk+1) f fd ["_law_script","_law_k","_law_thing","_law_many"] (yHn K):=by
 refine F.okn (N:=["_law_script","_law_k","_law_thing","_law_many","_law_paper","_law_rows","_law_stopped","_law_j","_law_pair"]) λbz A bk s H vs Q E nd hr h=>?_;ext yA h a ns k v n I;ext wG I t bm ha bg bw I;ext zS I bx bq bv hv hf I;ext xA I bj hd hz q;subst bm;let hu:=wY hr;let b0:=hr.units0;refine{_,(zD (pS 4 nd (zZ zB))
  (zD (pS 5 nd (zZ (zA (pD ae hr (zA (pv 2) zB)) zB)))
  (zD (pS 6 nd uU)
  (zD (vX PassesOwn.never O (wE O B.range (zA (pv 3) zB)) (yG (i:=7) nd O (nO O)) (zD (wP (jZ nY pK rG jA (pv 4) (zA (zFf (zFf (pD ab hr (zA (pv 0) (zA (zJ xI (pv 1) (zJ gE zE (pv 7))) (zA (pX zP (pv 5) (wO xO zE)) zB)))))) zB)))
  (zG (zT (gR (zPn (pv 6))) (zD (pS 8 nd (pD L hr (zA (pX zP (pv 5) (wO xO zE)) (zA (pX zP (pv 4) (wO xO zE)) zB))))
  (zG (zT (yD (pX zP (pv 8) zE)) (zG (wP (jZ nY pK rG jA (pv 5) (zA (pX zP (pv 8) zE) zB)))) (zG (pS 6 nd (pv 7)))))) zK))))
  (zG (zI (zZ (zA (pv 4) (zA (pv 5) (zA (pv 6) zB)))))))))), ?_}
 walk_at "st";lk;intro c a4;let s1:=zF a4 (.lst []);let e1:=zC (H:=H) (a:=c) (o:=.lst []);generalize upd H c (.lst [])=H1 at s1 e1⊢;refine{v,t,O,Rep.same s1 _ _ hv,c6 ∎ _ hf,∅,λx H2 D g2 sp hD g an=>?_};let s3:=zF an (.lst [x]);let e3:=zC (H:=H2) (a:=g) (o:=.lst [x]);let a1:Rep (wB (wB (upd H2 g (.lst [x])) c) g) x t:=by
  refine Sp1.rep _ _ _ (Sp1.keep _ _ _ (λb hb o _ e=>?_) (sp.same s3));rw[xX,xX]
  ·exact e
  ·intro z;subst z;rw[hD b hb] at e1;cases e1
  ·intro z;subst z
   obtain⟨o',bc⟩:=Sp1.there _ _ _ sp hb;rw[an] at bc;cases bc
 let ao:g≠c:=λz=>by subst z;rw[g2 _ _ e1] at an;cases an
 let bb:=s1.trans (g2.trans s3);let ax:=s3 _ _ (g2 _ _ e1);let av:=zW (s1.trans g2) an;generalize upd H2 g (.lst [x])=H3 at s3 e3 a1 bb ax⊢;refine nAA ∅ ∅ ?_;let br:n.toNat<=12:=by lia
 refine jY (λi σ H'=>∃(p rs:B3)(x:V)(t':T)(st:V)(o1 o2:Option V)(ds:C4),σ= [Y (V.ref a),Y (V.int k),Y v,Y (V.int n),Y (V.ref c),Y (V.ref g),Y st,o1,o2]/\TrR ds t st t'/\Same H H'/\H' c=Y (.lst p)/\H' g=Y (.lst (rs++ [x]))/\Rep (wB (wB H' c) g) x t'/\Dlays (wB (wB H' c) g) p ds/\(∀d∈ds,Od d)/\ds...*=i/\T.fewm (30+i) t'/\T.gk t'/\T.dep t'<=10/\T.sz t'<=300+30*i/\rs...*<=i/\Reps (wB (wB H' c) g) (rs++ [x]) (stands ds t)) {[],[],x,t, .non,_,_,[],O, .inl ⟨O,O⟩,bb,ax,e3,a1,{O,λi v d h=>by cases h},(λd h=>nomatch h),O,hf,bj,∅,∅,mE _,⟨_,_,O,a1,O⟩} ?_ ?_
 ·intro i σ H5 hi I
  ext yA I p rs y u st I;ext zU I o1 o2 ds a3 a0 I;ext zS I g5 ai au hy ap I;ext zS I a2 az af aj bh I;ext oAA I bf bn a5;subst a3;let bt:p...*<=i:=by rw[ap.1];lia
  lk;refine{.inl {O,_,SqL.of ai}, ?_};unfold zKt zRm;refine{c, .inr {p,ai,λo=>?_}};let a7:upd H5 c (.frz o (.lst p)) g=Y (.lst (rs++ [y])):=by rw[zM ao];exact au
  refine{g, .inr {_,a7,λo'=>?_}};let a9:∀{w w':HO},Same (wB (wB H5 c) g) (upd (upd H5 c w) g w'):=λb u e=>by
   let n2:b≠g:=λz=>by subst z;rw[gN] at e;cases e
   rw[xX n2] at e;rw[zM n2];exact zDf _ _ e
  let gf:Same H (upd (upd H5 c (.frz o (.lst p))) g (.frz o' (.lst (rs++ [y])))):=vM (vM g5 a4) av;lk;refine zY (.inl (.inr ⟨o',zC⟩)) (xY _ _) {a,ns,_,y,u,O,gf.seq ha,bg,∅,∅,Rep.same a9 _ _ hy,c6 ∅ _ af,aj,λd wd ks z Hc gc bo hI=>?_};let gi:Same (upd H5 c (.frz o (.lst p))) (L2.thaw (upd H5 c (.frz o (.lst p))) Hc):=zBx a7 gc;let a8:Dlay (wB (L2.thaw (upd H5 c (.frz o (.lst p))) Hc) g) (.ref d) (wd,ks,z):=Dlay.off (gc _ _ zC) bo;let a6:=gi _ _ (zC (H:=H5) (a:=c) (o:=.frz o (.lst p)));dsimp only;generalize L2.thaw (upd H5 c (.frz o (.lst p))) Hc=Hi at gi a8 a6⊢;let gt:=zBx ai gi;let ak:Dlay (wB (wB (L2.thaw H5 Hi) c) g) (.ref d) (wd,ks,z):=n9 a6 ao.symm a8;let ba:Dlay (wB (L2.thaw H5 Hi) c) (.ref d) (wd,ks,z):=ak.same xP;generalize L2.thaw H5 Hi=H6 at gt ba ak⊢;refine{c,p,_,O,O,gt _ _ ai,by rw[mS];lia, ?_};let aq:Rep (wB (wB (upd H6 c (.lst (p++ [V.ref d]))) c) g) y u:=by
   rw[qM];exact Rep.same (yU (yU gt)) _ _ hy
  let ah:Reps (wB (wB (upd H6 c (.lst (p++ [V.ref d]))) c) g) (rs++ [y]) (stands ds t):=by
   rw[qM];exact Reps.same (yU (yU gt)) _ _ a5
  let bd:Od (wd,ks,z):=hI.od;let a':Dlay (upd H6 c (.lst (p++ [V.ref d]))) (.ref d) (wd,ks,z):=ba.same zDf;let ag:Dlays (wB (wB (upd H6 c (.lst (p++ [V.ref d]))) c) g) (p++ [V.ref d]) (ds++ [(wd,ks,z)]):=by
   rw[qM];exact(ap.same (yU (yU gt))).snoc ak
  let g7:Same H (upd H6 c (.lst (p++ [V.ref d]))):=vM (g5.trans gt) a4;let aa:upd H6 c (.lst (p++ [V.ref d])) c=_:=zC;let M:upd H6 c (.lst (p++ [V.ref d])) g=Y (.lst (rs++ [y])):=by rw[zM ao];exact gt _ _ au
  generalize upd H6 c (.lst (p++ [V.ref d]))=H7 at aq ah a' ag g7 aa M⊢;let al:∀d'∈ds++ [(wd,ks,z)],Od d':=λd' h=>(nB.mp h).elim (a2 d') λy=>by rw[mH.mp y];exact bd
  let am:(ds++ [((wd,ks,z):Dd)])...*=i+1:=by rw[mM,az];rfl
  refine zR (a'.dr bd) λp' u' ep bi bl aw=>?_;cases ep;dsimp only;let bp:=hI.l;let bu:=hI.d;let bs:=hI.z;rcases a0 with⟨rfl,J⟩|⟨j,rfl,J⟩
  ·refine iP O (zY (SqL.of M) (xY _ _) (zY (SqL.of aa) (xY _ _) ?_))
   refine{y,d,wd,ks,u,u',O,Rep.same (λb o e=>xP _ _ (xP _ _ e)) _ _ aq,c6 ∅ _ af,∅,∅,bi,bl,λr ac l x2 H8 g8 ar be=>?_,λac l x2 H8 g8 ar=>?_}
   ·let ay:=g7.trans g8
    rw[aw u] at ac;refine xA (zFd (m:=30+i) ∅ (b8 ∅ _ hI.f) hI.g ks u r ac af aj hI.s ∅) λb1 b2 b3 b4=>?_;refine zY (SqL.of ar) (zQ (j:=0) O) {true,O, ?_};refine iP O {.inl {O,_,SqL.of (g8 _ _ M)},zY (SqL.of ar) (zQ (j:=1) O) {g,_,_,O,O,g8 _ _ M,by rw[mS,mM,nL];lia, ?_}};refine zOq (p++ [V.ref d]) (rs++ [y]) x2 r .non (uP ⟨O,_,O⟩ (ds++ [(wd,ks,z)]) (t0 J ac) (vM ay av) (by rw[zM ao.symm];exact g8 _ _ aa) (zDk zC (Rep.same (λb o e=>?_) _ _ be) (by rw[uB,qM,uB];exact ag.same (yU (yU g8))) al am (zDk b1 b2 ∅ ∅ (by rw[mM,nL];lia) ?_)))
    rotate_left
    ·rw[zAo ds 0 t u J]
     dsimp only;rw[ac];refine Reps.snoc (Rep.same (λb o e=>?_) _ _ be) (by rw[uB,qM,uB];exact Reps.same (yU (yU g8)) _ _ ah);let hb:=zDg e;let n1:b≠c:=λz=>by subst z;rw[hb] at aa;cases aa
     let n2:b≠g:=λz=>by subst z;rw[hb] at M;cases M
     rw[xX n2,xX n1,zM n2];rw[wZ hb] at e;exact e
    let hb:=zDg e;let n1:b≠c:=λz=>by subst z;rw[hb] at aa;cases aa
    let n2:b≠g:=λz=>by subst z;rw[hb] at M;cases M
    rw[xX n2,xX n1,zM n2];rw[wZ hb] at e;exact e
   ·let ay:=g7.trans g8
    rw[aw u] at ac;refine zY (SqL.of ar) (zQ (j:=0) O) {false,O, ?_};refine iN ∎ ?_;exact zOq (p++ [V.ref d]) rs y u _ (uP ⟨O,_,O⟩ (ds++ [(wd,ks,z)]) (by rw[Int.zero_add,<-az];exact t8 J ac) ay (g8 _ _ aa) (zDk (g8 _ _ M) (Rep.same (yU (yU g8)) _ _ aq) (ag.same (yU (yU g8))) al am (zDk (b8 ∅ _ af) aj ∅ ∅ ∅ (by rw[zAo ds 0 t u J];dsimp only;rw[ac,pJ];exact Reps.same (yU (yU g8)) _ _ ah))))
  ·refine iN (by intro z;cases z) ?_
   exact zOq (p++ [V.ref d]) rs y u _ (uP ⟨O,_,O⟩ (ds++ [(wd,ks,z)]) (r9 J) g7 aa (zDk M aq ag al am (zDk (b8 ∅ _ af) aj ∅ ∅ ∅ (by rw[zEs ds 0 t J];exact ah))))
 ·intro σ H5 I
  ext yA I p rs y u st I;ext zU I o1 o2 ds a3 a0 I;ext zS I g5 ai au hy ap I;ext zS I a2 az af aj bh I;ext oAA I bf bn a5;subst a3;lk;intro l hl;let s6:=zF hl (.lst [V.ref c,V.ref g,st]);let gg:Same (wB (wB H5 c) g) (upd H5 l (.lst [V.ref c,V.ref g,st])):=λb o e=>s6 _ _ (xP _ _ (xP _ _ e));exact q l c g st p rs y ds u _ (g5.trans s6) zC (s6 _ _ ai) (ap.same gg) a2 ∅ (s6 _ _ au) (Rep.same gg _ _ hy) (Reps.same gg _ _ a5) a0 (b8 ∅ _ af) aj ∅ ∅
abbrev sMk:V6:=top 80
theorem yCo{α:Type}{l:List α}{i:Nat}{a:α}(h:l[i]? =Y a):l.drop i=a::l.drop (i+1):=by
 obtain⟨b,e⟩:=mJ.mp h;rw[nU b,e]
theorem yCf{us:B0}{i:Nat}{t:T}(h:us[i]? =Y t):us.getD i .non=t:=by rw[sJ,h];rfl
noncomputable def mkN:List Nat:=ts (A8 "mark")
noncomputable def omD(ks:C6)(r:List T×Int):T×Int:=(.dic (yY (ks,r.1) mkN (.int r.2)).1 (yY (ks,r.1) mkN (.int r.2)).2,r.2+1)
noncomputable def omT:Nat->T->Int->T×Int
 |0,t,c=>(t,c)|n+1, .lst a,c=>yCr (zAg (omT n) (List.range a...*) a c)|n+1, .dic b a,c=>omD b (zAg (omT n) (ixs b) a c)|n+1, .tup a,c=>mrkU (zAg (omT n) (List.range a...*) a c)|_+1,t,c=>(t,c+1)
theorem mk_nK:(Sum.inr (A8 "mark"):Key)=nK mkN:=by
 show(Sum.inr _:Key)=Sum.inr (tx (ts _));rw[qJ]
theorem zPj{m:Nat}:∀(n:Nat)(t:T)(c:Int),T.fewm m t/\T.sz t<=90000->T.dep t<n->T.fewm (m+1) (omT n t c).1/\T.dep (omT n t c).1<n
 |0,_,_,_,h=>absurd h (pV _)|n+1, .lst a,c,e,d=>by
  let s:T.szs a+1<=90000:=e.2;let q:T.deps a+1<n+1:=d;obtain⟨o,p⟩:=zGf (f:=omT n) (A:=λt=>(T.fewm m t/\T.sz t<=90000)/\T.dep t<n) (B:=λt=>T.fewm (m+1) t/\T.dep t<n) (λt c h=>zPj n t c h.1 h.2) (List.range a...*) a c List.nodup_range (λi j=>tQ.mp j) λi t j=>by
   refine{λ_=>?_,λz=>absurd (tQ.mpr (mJ.mp j).1) z};let l:=mO j;let:=b7 l;let:=c7 l;exact{{c8 e.1.2 l,∅},∅}
  show T.fewm (m+1) (yCr (zAg (omT n) (List.range a...*) a c)).1/\T.dep (yCr (zAg (omT n) (List.range a...*) a c)).1<n+1;generalize zAg (omT n) (List.range a...*) a c=r at o p⊢;let b:∀t∈r.1++ [T.int r.2],T.fewm (m+1) t/\T.dep t<n:=λt g=>by
   rcases nB.mp g with z | z
   ·exact o t z
   ·rw[mH.mp z];exact{mK,show 0<n by lia}
  refine{{?_,d7 λt g=>(b t g).1}, ?_}
  ·rw[mM,p]
   let:=d5 a;show a...*+1<=_
   lia
  ·show T.deps (r.1++ [T.int r.2])+1<n+1
   let:=l9 (n:=n) ∅ λt g=>(b t g).2
   lia
 |n+1, .dic k a,c,e,d=>by
  obtain⟨⟨u,x,D,e⟩,v⟩:=e;let s:T.szs a+1<=90000:=v;let q:T.deps a+1<n+1:=d;obtain⟨o,p⟩:=zGf (f:=omT n) (A:=λt=>(T.fewm m t/\T.sz t<=90000)/\T.dep t<n) (B:=λt=>T.fewm (m+1) t/\T.dep t<n) (λt c h=>zPj n t c h.1 h.2) (ixs k) a c (zIw u) (λi j=>by let:=yGp j;lia) λi t j=>by
   refine{λ_=>?_,λz=>absurd (yCi u (by let:=(mJ.mp j).1;lia)) z};let l:=mO j;let:=b7 l;let:=c7 l;exact{{c8 e l,∅},∅}
  show T.fewm (m+1) (omD k (zAg (omT n) (ixs k) a c)).1/\T.dep (omD k (zAg (omT n) (ixs k) a c)).1<n+1;generalize zAg (omT n) (ixs k) a c=r at o p⊢;let b:∀t∈(yY (k,r.1) mkN (.int r.2)).2,T.fewm (m+1) t/\T.dep t<n:=λt g=>by
   rcases zCn g with z | z
   ·exact o t z
   ·rw[z];exact{mK,show 0<n by lia}
  obtain⟨y,E⟩:=uI (ks:=k) (us:=r.1) (n:=mkN) (t:=.int r.2) (by rw[p];exact D);refine{{gD u,∅,y,d7 λt g=>(b t g).1}, ?_};show T.deps (yY (k,r.1) mkN (.int r.2)).2+1<n+1;let:=l9 (n:=n) ∅ λt g=>(b t g).2
  lia
 |n+1, .tup a,c,e,d=>e.1.elim|n+1, .non,c,e,d=>⟨mK,d⟩|n+1, .bl _,c,e,d=>⟨mK,d⟩|n+1, .int _,c,e,d=>⟨mK,d⟩|n+1, .str _,c,e,d=>⟨mK,d⟩
def zXr(n:Nat):Sp:=λe H Q _=>∃(v:V)(t:T)(D:B9)(c:Int),e= [v, .int c]/\Sp1 H v t D/\T.few t/\T.dep t<n/\∀a d,Keep D H a->Sp1 a v (omT n t c).1 d->(∀b∈d,b∈D)->Q (.int (omT n t c).2) a
theorem scMk:wF ["_law_thing","_law_number","_law_one","_law_name"] ["_law_thing","_law_number"] (yB sMk):=by walk_at "sc"
def MkW(n:Nat)(H:Hp)(a:V1)(g:B9)(l:HO)(xs:B3)(us:B0)(is:List Nat)(c:Int)(i:Nat)(k:Int)(e:Hp):Prop:=
 ∃(d:B0)(h:B9),Keep (a::g) H e/\e a=Y l/\Sps e xs d h/\(∀b∈h,b∈g)/\d...*=us...*/\zAg (omT n) (is.drop i) d k=zAg (omT n) is us c/\∀j∈is.drop i,d[j]? =us[j]?
theorem MkW.next{n:Nat}{H:Hp}{a:V1}{y:B9}{N:HO}{xs:B3}{us:B0}{is:List Nat}{c:Int}{i j:Nat}{r:Int}{E:Hp}(h:MkW n H a y N xs us is c i r E)(D:a∉y)(Q:is.Nodup)(hj:is[i]? =Y j){t:T}(ht:us[j]? =Y t):
  ∃v l,xs[j]? =Y v/\Sp1 E v t l/\(∀b∈l,b∈y)/\∀q g,Keep l E q->Sp1 q v (omT n t r).1 g->(∀b∈g,b∈l)->MkW n H a y N xs us is c (i+1) (omT n t r).2 q:=by
 ext zR h k Di k2 A hS z_;ext xA z_ e hl B d;let x:=yCo hj;let s:k[j]? =Y t:=by rw[d j (by rw[x];exact mD)];exact ht
 refine zR (hS.at s) λv l g1 g2 L g4=>?_;refine zBv v l g1 g2 (λb p=>e b (L b p)) (λq g I hs u=>?_);obtain⟨D2,e1,e2⟩:=g4 q _ g hs u I;refine{_,D2,k2.trans (I.mono λb p=>mG _ (e b (L b p))),I _ _ (λz=>D (e a (L a z))) A,e1,λb p=>e b (e2 b p),by rw[aD];exact hl, ?_,λM o=>?_}
 ·rw[<-B,x]
  show _=zAg (omT n) (is.drop (i+1)) (k.set j (omT n (k.getD j .non) r).1) (omT n (k.getD j .non) r).2;rw[yCf s]
 ·let J:M≠j:=λz=>by
   let m:(is.drop i).Nodup:=Q.sublist (List.drop_sublist i is);rw[x,nX] at m;exact m.1 (z▸o)
  rw[rZ (Ne.symm J)];exact d M (by rw[x];exact mG _ o)
theorem MkW.fin{n:Nat}{H:Hp}{a:V1}{m:B9}{p:HO}{xs:B3}{us:B0}{is:List Nat}{c:Int}{i:Nat}{o:Int}{j:Hp}(h:MkW n H a m p xs us is c i o j)(s:is...*<=i):
  ∃(d:B0)(g:B9),Keep (a::m) H j/\j a=Y p/\Sps j xs d g/\(∀b∈g,b∈m)/\d...*=us...*/\zAg (omT n) is us c=(d,o):=by
 ext zR h d g u l t q;ext xA q k r e _;rw[pQ s] at e;exact zBv d g u l t (nAA k r e.symm)
theorem yFh{n:Nat}(F:Fun K "_law_own_marks" "_law_own_marks" sMk f fd)(B:Bl2 mg)(d:Dn P w K mg base (1+n) "_law_own_marks" ["_law_thing","_law_number"] (zXr n)):FnOk P w K mg base CX0 (1+n+1) f fd ["_law_thing","_law_number"] (zXr (n+1)):=by
 refine F.ok scMk (by walk_at "ln") λc A o s H vs Q E hr h=>?_;ext yN h v t D c ay M;ext xA M hv hf hd q;subst ay;let nd:=scMk.nd;let hu:=wY hr;refine{_,(zD (zT (yD (zN (jB (T:="list") (U:="tuple") ∎ ∎) O B.isinstance zH (zA (pv 0) (zA (xH (zA (wA (v:=.ty "list") O B.list yQ O) (zA (wA (v:=.ty "tuple") O B.tuple uD O) zB))) zB)))) (zG (vX PassesOwn.never O (xG (yJ kF O B.list yQ (zA (pv 0) zB))) (yG (i:=2) nd O (nO O)) (zG (pS 1 nd (pD d hr (zA (pv 2) (zA (pv 1) zB))))))) zK)
  (zD (zT (yD (pI B.isinstance zH B.dict xJ (pv 0))) (zD (vX PassesOwn.never O (xG (zN (qO O) O B.sorted uC (zA (pv 0) zB))) (yG (i:=3) nd O (nO O)) (zG (pS 1 nd (pD d hr (zA (jR hu (pv 0) (pv 3) (λ_ _=>O)) (zA (pv 1) zB))))))
  (zG (zCh hu (pv 0) zL (pv 1) O))) zK)
  (zD (zT (yD (pI B.isinstance zH B.list yQ (pv 0))) (zG (wP (jZ nY pK rG jA (pv 0) (zA (pv 1) zB)))) zK)
  (zG (zI (zJ xI (pv 1) zE)))))), ?_}
 walk_at "st";lk
 cases t with
 |lst r=>
  ext zU hv a xs D' al ha M;ext oAA M a5 ae hs;subst al a5;intro p hp;let s1:=zF hp (.tup [V.ty "list",V.ty "tuple"]);let e1:=zC (H:=H) (a:=p) (o:=.tup [V.ty "list",V.ty "tuple"]);generalize upd H p (.tup [V.ty "list",V.ty "tuple"])=H1 at s1 e1⊢;let N:=s1 _ _ ha;let bb:=hf.1;let aq:=hs...*;let a3:T.deps r+1<n+1:=hd;refine qX _ ("list") p ⟨O,O⟩ e1 (nA (wQ N) (iP ∎ {a,O,xs, .inl (SqL.of N),λl hl=>{{_,SqL.of zC}, ?_}}));let s2:=zF hl (.lst xs);let e2:=zC (H:=H1) (a:=l) (o:=.lst xs);let y:=zW s1 hl;generalize upd H1 l (.lst xs)=H2 at s2 e2⊢;let g2:=s1.trans s2;let ak:l∉a::D':=λz=>by
   rcases mF.mp z with z | z
   ·rw[z,ha] at y;cases y
   ·obtain⟨o,ho⟩:=Sps.there _ _ _ hs z
    rw[y] at ho;cases ho
  refine jN (K:=K) (a:=l) (xs:=xs) (λi σ H2=>∃o g,σ= [Y (V.ref a),Y (.int g),o,none]/\H2 l=Y (.lst xs)/\MkW n H a D' (.lst xs) xs r (List.range r...*) c i g H2) {_,_,O,e2,r,D',Keep.of g2,g2 _ _ ha,hs.same g2,λ_ h=>h,O,O,λ_ _=>O} (λi σ H2 _ h=>by
   ext yL h o g _ h _;exact SqL.of h) ?_ ?_
  ·intro i x σ H3 hx M
   ext yL M o g J ab hW;subst J;let hi:i<r...*:=by let:=(mJ.mp hx).1;lia
   let hm:=sK hi;let d1:=b7 hm;refine zR (hW.next ae List.nodup_range (j:=i) (by simp[hi]) (mQ hi)) λv' D1 g1 g2 g3 g4=>?_;rw[hx] at g1;cases g1;lk;exact{x,r[i],D1,g,O,g2,b9 hf.2 hm,∅,λH4 an k4 am af=>{_,_,⟨O,O⟩,k4 _ _ (λz=>ak (mG _ (g3 l z))) ab,g4 H4 an k4 am af}}
  ·intro σ H3 M
   ext yL M o g J ab hW;subst J;obtain⟨ac,Di,k3,u,hS,aa,a9,aj⟩:=hW.fin (by rw[bU];lia);lk;refine nEA ("list") (wQ u) (iN ∎ {"list",wQ u,iP ∎ {.inl {O,_,SqL.of u},a,xs, .int g,O,O,u,by rw[mS];lia, ?_}});let e:omT (n+1) (.lst r) c=(.lst (ac++ [.int g]),g+1):=by
    show yCr (zAg (omT n) (List.range r...*) r c)=_;rw[aj];rfl
   let ag:a∉Di:=λz=>ae (aa a z);let:=q (upd H3 a (.lst (xs++ [.int g]))) (a::Di) (k3.put _ mD);rw[e] at this;refine this {a,_,Di,O,zC,O,ag, ?_} λb hb=>?_
   ·let:=Sps.snoc (show Sp1 (upd H3 a (.lst (xs++ [.int g]))) (.int g) (.int g) [] from⟨O,O⟩) (Sps.keep _ _ _ (λb hb o _ e=>by rw[zM (show b≠a from λz=>ag (z▸hb))];exact e) hS) (λ_ _ z=>nomatch z)
    rw[pJ] at this;exact this
   ·rcases mF.mp hb with z | z
    ·rw[z];exact mD
    ·exact mG _ (aa b z)
 |dic m r=>
  ext zU hv a L D' al ha M;ext xA M hk a1 ae hs;subst al a1;ext xA hf nk a4 ba hf;let aq:=hs...*;rw[mN] at aq;let a3:T.deps r+1<n+1:=hd;let a6:(L.map (·.1)).Nodup:=by rw[hk];exact uF nk
  intro p hp;let s1:=zF hp (.tup [V.ty "list",V.ty "tuple"]);let e1:=zC (H:=H) (a:=p) (o:=.tup [V.ty "list",V.ty "tuple"]);generalize upd H p (.tup [V.ty "list",V.ty "tuple"])=H1 at s1 e1⊢;let N:=s1 _ _ ha;refine qX _ ("dict") p ⟨O,O⟩ e1 (nA (qY N) (iN ∎ {"dict",qY N,iP ∎ {a,O,L, .inl N,m.map tx,by rw[hk,sI];rfl,by rw[mN];exact a4,λl ss hl a8 a2=>{{_,SqL.of zC}, ?_}}}));let es:=zDb a8 a2;subst es;let av:=zF hl (.lst (((wT m).map tx).map V.str));let e2:=zC (H:=H1) (a:=l) (o:=.lst (((wT m).map tx).map V.str));let y:=zW s1 hl;generalize upd H1 l (.lst (((wT m).map tx).map V.str))=H2 at av e2⊢;let s2:=s1.trans av;let ak:l∉a::D':=λz=>by
   rcases mF.mp z with z | z
   ·rw[z,ha] at y;cases y
   ·obtain⟨o,ho⟩:=Sps.there _ _ _ hs z
    rw[y] at ho;cases ho
  refine jN (K:=K) (a:=l) (xs:=((wT m).map tx).map V.str) (λi σ H2=>∃o g,σ= [Y (V.ref a),Y (.int g),none,o]/\H2 l=Y (.lst (((wT m).map tx).map V.str))/\MkW n H a D' (.dK L) (L.map (·.2)) r (ixs m) c i g H2) {_,_,O,e2,r,D',Keep.of s2,s2 _ _ ha,hs.same s2,λ_ h=>h,O,O,λ_ _=>O} (λi σ H2 _ h=>by
   ext yL h o g _ h _;exact SqL.of h) ?_ ?_
  ·intro i x σ H3 hx M
   ext yL M o g J ab hW;subst J;obtain⟨k,ap,rfl⟩:∃k,(wT m)[i]? =Y k/\x= .str (tx k):=by
    rw[nH,nH] at hx
    cases hc:(wT m)[i]? with|none=>rw[hc] at hx;cases hx|some k=>rw[hc] at hx;exact{k,O,(mU hx).symm}
   let aw:k∈m:=mem_sortK.mp (mO ap);let a7:=zFi aw;let hj:m.idxOf k<r...*:=by let:=tH aw;lia
   let hm:=sK hj;let d1:=b7 hm;obtain⟨v',D1,g1,g2,g3,g4⟩:=hW.next ae (zIw nk) (j:=m.idxOf k) (by unfold ixs;rw[nH,ap];rfl) (mQ hj);obtain⟨kv,ao,rfl⟩:∃kv,L[m.idxOf k]? =Y kv/\kv.2=v':=by
    rw[nH] at g1
    cases hc:L[m.idxOf k]? with|none=>rw[hc] at g1;cases g1|some kv=>rw[hc] at g1;exact{kv,O,mU g1}
   let a0:kv.1=nK k:=by
    let h1:(L.map (·.1))[m.idxOf k]? =Y kv.1:=by rw[nH,ao];rfl
    rw[hk,nH,a7] at h1;exact(mU h1).symm
   let a':kK L (nK k)=Y kv.2:=zBd a6 (by rw[ao,<-a0]);let u:H3 a=Y (.dK L):=by obtain⟨_,_,_,h,_⟩:=hW;exact h
   lk;exact{kv.2, .inl {L,nK k, .inl u,O,a'.symm},kv.2,r[m.idxOf k],D1,g,O,g2,b9 hf hm,∅,λH4 an k4 am af=>{_,_,⟨O,O⟩,k4 _ _ (λz=>ak (mG _ (g3 l z))) ab,g4 H4 an k4 am af}}
  ·intro σ H3 M
   ext yL M o g J ab hW;subst J;obtain⟨ac,Di,k3,u,hS,aa,a9,aj⟩:=hW.fin (by rw[mN,mN];unfold ixs;rw[mN];exact mE _);lk;refine nEA _ (DPut.k (k:=Sum.inr (A8 "mark")) u (by rw[mS];lia)) ?_;rw[mk_nK];obtain⟨az,D5,ax,ar⟩:=Sps.put (n:=mkN) (c:=g) hk hS;let ah:a∉D5:=λz=>ae (aa a (ar a z));let k4:=k3.put (.dK (qG L (nK mkN) (.int g))) (a:=a) mD;let ai:=zC (H:=H3) (a:=a) (o:=.dK (qG L (nK mkN) (.int g)));let au:Sps (upd H3 a (.dK (qG L (nK mkN) (.int g)))) ((qG L (nK mkN) (.int g)).map (·.2)) (yY (m,ac) mkN (.int g)).2 D5:=Sps.keep _ _ _ (λb hb o _ e=>by rw[zM (show b≠a from λz=>ah (z▸hb))];exact e) ax;generalize upd H3 a (.dK (qG L (nK mkN) (.int g)))=H4 at k4 ai au⊢;refine nEA ("dict") (qY ai) (iN ∎ ?_);let e:omT (n+1) (.dic m r) c=(.dic (yY (m,ac) mkN (.int g)).1 (yY (m,ac) mkN (.int g)).2,g+1):=by
    show omD m (zAg (omT n) (ixs m) r c)=_;rw[aj];rfl
   let:=q H4 (a::D5) k4;rw[e] at this;refine this ⟨a,_,D5,O,ai,az,O,ah,au⟩ λb hb=>?_;rcases mF.mp hb with z | z
   ·rw[z];exact mD
   ·exact mG _ (aa b (ar b z))
 |tup r=>exact hf.elim|non=>
  let I:v= .non:=hv.2;subst I;refine λp hp=>{_,_,p,⟨O,O⟩,zC,O,iN ∎ {_,O,iN ∎ {_,O,iN ∎ ?_}}};exact q _ [] (Keep.of (zF hp _)) ⟨O,O⟩ (λ_ h=>nomatch h)
 |bl b=>
  let I:v= .bl b:=hv.2;subst I;refine λp hp=>{_,_,p,⟨O,O⟩,zC,O,iN ∎ {_,O,iN ∎ {_,O,iN ∎ ?_}}};exact q _ [] (Keep.of (zF hp _)) ⟨O,O⟩ (λ_ h=>nomatch h)
 |int b=>
  let I:v= .int b:=hv.2;subst I;refine λp hp=>{_,_,p,⟨O,O⟩,zC,O,iN ∎ {_,O,iN ∎ {_,O,iN ∎ ?_}}};exact q _ [] (Keep.of (zF hp _)) ⟨O,O⟩ (λ_ h=>nomatch h)
 |str b=>
  let I:v= .str (tx b):=hv.2;subst I;refine λp hp=>{_,_,p,⟨O,O⟩,zC,O,iN ∎ {_,O,iN ∎ {_,O,iN ∎ ?_}}};exact q _ [] (Keep.of (zF hp _)) ⟨O,O⟩ (λ_ h=>nomatch h)
theorem yIj(F:Fun K "_law_own_marks" "_law_own_marks" sMk f fd):FnOk P w K mg base CX0 1 f fd ["_law_thing","_law_number"] (zXr 0):=by
 refine F.ok scMk (by walk_at "ln") λc A o s H g Q E i h=>?_;ext yN h v t D c a b;ext xA b e j d _;subst a;exact absurd d (pV _)
theorem zVd(F:Fun K "_law_own_marks" "_law_own_marks" sMk f fd)(B:Bl2 mg)(b:Binds K fd ["_law_thing","_law_number"] [])(a:S0 K (.ref f)=true)(m:mg "_law_own_marks" =Y (.ref f)):∀n:Nat,FnOk P w K mg base CX0 (1+n) f fd ["_law_thing","_law_number"] (zXr n)
 |0=>yIj F|n+1=>yFh F B {_,_,zVd F B b a m n,b,a,m}
abbrev sPc:V6:=top 79
abbrev sRo:V6:=top 77
def spPc:Sp:=λi H Q _=>∃(a:V1)(h:B3)(e:C4),i= [.ref a]/\H a=Y (.lst h)/\Dlays H h e/\e...*<=400/\(∀d∈e,Od d)/\∀l g D c,Same H c->H l=none->c l=Y (.lst g)->Sps c g (e.map ddT) D->(∀b∈D,H b=none/\b≠l)->Q (.ref l) c
theorem ok_pc{k:Nat}(F:Fun K "_law_paper_copy" "_law_paper_copy" sPc f fd)(B:Bl6 mg)(c:Dn P w K mg base k "_law_held" ["_law_thing"] (zGt 20)):FnOk P w K mg base CX0 (k+1) f fd ["_law_paper"] spPc:=by
 refine F.okn (N:=["_law_paper"]) λa6 A a0 s H vs Q E nd hr h=>?_;ext zU h a xs ds g ha z_;ext xA z_ hD a5 a1 q;subst g;let hu:=wY hr;refine nEA _ (zG (zI (xS (own:=["_law_deed_here"]) (F:=[]) {O,tb_g%,tb_g%,tb_g%, .nil} O (xG (pv 0)) (λ_ _ _ _=>yG (i:=0) (by show(xW ["_law_deed_here"] []).Nodup;decide+kernel) O (nO O)) (λ_ _ _ _=>yT) (λ_ _ _ _=>(zJ (yAa (K:=K) O) (xH (zA (pX (zQv (K:=K) O) (pv 0) zE) (zA (yJ (vF (K:=K) O) O B.list yQ (zA (pX (zQv (K:=K) O) (pv 0) zE) zB)) zB))) (yJ (zSm (K:=K) O) O B.tuple uD (zA (pD c hr (zA (yJ (vF (K:=K) O) O B.list yQ (zA (kA (yCc (K:=K) O) (pv 0) (gP zE) gO) zB)) zB)) zB))))))) ?_;walk_at "st";lk;let aq:=hD.1;refine{{_,SqL.of ha},wJ (K:=K) (xs:=xs) (λi ys H'=>Same H H'/\∃D,Sps H' ys ((ds.take i).map ddT) D/\∀b∈D,H b=none) (by rw[mS];lia) {Same.refl _,[],⟨O,O⟩,λ_ h=>nomatch h} (λi ys H' _ h=>SqL.of (h.1 _ _ ha)) ?_ ?_}
 ·rintro i v ys H2 hv _ ⟨g2,D,hS,ac⟩
  lk;let a4:=(mJ.mp hv).1;let u:ds[i]? =some ds[i]:=mQ ∅;refine zU ((hD.2 i v _ hv u).same g2) λtp pd r g hp z_=>?_;ext oA z_ ap am;subst g;let t:=a1 _ (mO u);generalize ds[i]=d at u hp ap am t;let ak:∀z J D1,Same H2 J->Sp1 J z (ddT d) D1->(∀b∈D1,H2 b=none)->Same H J/\∃D,Sps J (ys++ [z]) ((ds.take (i+1)).map ddT) D/\∀b∈D,H b=none:=λz J D1 I hz hn=>by
   refine zPi (g2.trans I) (D++D1) ?_ (λb m=>(nB.mp m).elim (ac b) λh=>zW g2 (hn b h));rw[yO u,nI];refine Sps.snoc hz (hS.same I) λb m az=>?_;obtain⟨o,y⟩:=Sps.there _ _ _ hS m;rw[hn b az] at y;cases y
  refine wR (SqT.of hp) (zQ (j:=0) O) (wR (SqT.of hp) (zQ (j:=1) O) {pd,O,_, .inl (SqL.of ap),λl hl p ai=>?_});let s3:=zF hl (.lst (d.2.1.map kV));let e3:=zC (H:=H2) (a:=l) (o:=.lst (d.2.1.map kV));generalize upd H2 l (.lst (d.2.1.map kV))=H3 at s3 e3 ai⊢;let s4:=zF ai (.tup [V.str d.1.s,V.ref l]);let e4:=zC (H:=H3) (a:=p) (o:=.tup [V.str d.1.s,V.ref l]);let el:=s4 _ _ e3;generalize upd H3 p (.tup [V.str d.1.s,V.ref l])=J at s4 e4 el⊢;let I:=s3.trans s4;refine{tp,_,O,SqT.of (I _ _ hp), .inr {λz=>?_,λp3 au=>?_}}
  ·let z1:=z.1
   rw[show(2:Int)=((2:Nat):Int) from O,HT.sIx_nat,mW,mW] at z1
   lia
  rw[show uQ (V.str d.1.s::V.ref pd::r) ↥2 none=r from zYt _ 2];let s5:=zF au (.tup r);let e5:=zC (H:=J) (a:=p3) (o:=.tup r);generalize upd J p3 (.tup r)=H5 at s5 e5⊢;refine qR p3 O r (.inr (SqT.of e5)) (λl2 av=>?_);let s6:=zF av (.lst r);let e6:=zC (H:=H5) (a:=l2) (o:=.lst r);generalize upd H5 l2 (.lst r)=H6 at s6 e6⊢;let ao:=I.trans (s5.trans s6);let l8:=t.l;let a3:=t.dd;rcases am with⟨hw,rfl⟩|⟨hw,x,rfl,hx⟩
  ·refine{.ref l2, .lst [],O,{l2,[],O,e6,O},{by decide,mK},by decide,λv' H7 D' g7 ah aj=>?_}
   ext zU ah p7 ws D7 g af z_;ext oAA z_ ag aw ab;subst g ag;let ew:ws= []:=ab.1;subst ew;refine zVw p7 O ([]) (.inl {SqL.of af,λp8 ae=>?_});let s8:=zF ae (.tup []);let e:=(s5.trans s6).trans (g7.trans s8);refine{p,p8,_,[],O,O,SqT.of (e _ _ e4),SqT.of zC,by simp,by rw[mS];show 2<=_;decide,λ_=>?_,λh=>absurd O h};obtain⟨w',ks,n⟩:=d;let ar:w'= .tak:=hw;subst ar;refine ak _ _ [p,l] (I.trans e) (zYi (e _ _ e4) (e _ _ el)) λb m=>?_;rcases mF.mp m with z | z
   ·rw[z];exact zW s3 ai
   ·rw[mH.mp z];exact hl
  ·let ay:=Rep.same ao _ _ hx
   let a2:T.dep d.2.2+1<20:=by lia
   refine{.ref l2, .lst [d.2.2],O,{l2,[x],O,e6,x,[],O,ay,O},{by show 1<=100000;decide,(c6 ∎ _ t.f),mK},by show max (T.dep d.2.2) 0+1<20;lia,λv' H7 D' g7 ah aj=>?_};ext zU ah p7 ws D7 g af z_;ext oAA z_ ag aw ab;subst g ag;obtain⟨L,r',E1,E2,ew,eD,an,⟨e1,e2⟩,_⟩:=ab;subst e1 e2;subst ew eD;refine zVw p7 O ([L]) (.inl {SqL.of af,λp8 ae=>?_});let s8:=zF ae (.tup [L]);let e8:=zC (H:=H7) (a:=p8) (o:=.tup [L]);generalize upd H7 p8 (.tup [L])=H8 at s8 e8⊢;let e:=(s5.trans s6).trans (g7.trans s8);refine{p,p8,_,[L],O,O,SqT.of (e _ _ e4),SqT.of e8,by simp,by rw[mS];show 3<=_;decide,(λh=>by cases h),λ_ p9 aa=>?_};let s9:=zF aa (.tup ([V.str d.1.s,V.ref l]++ [L]));let e9:=zC (H:=H8) (a:=p9) (o:=.tup ([V.str d.1.s,V.ref l]++ [L]));generalize upd H8 p9 (.tup ([V.str d.1.s,V.ref l]++ [L]))=H9 at s9 e9⊢;let al:=e.trans s9;let ax:=(an.same s8).same s9;obtain⟨w',ks,n⟩:=d;let M:∀b∈E1,H6 b=none:=λb m=>aj b (mG _ (nQ _ m));refine ak _ _ _ (I.trans al) (zVl hw e9 (al _ _ el) ax (λz=>?_) (λz=>?_)) λb m=>?_
   ·obtain⟨o,y⟩:=Sp1.there _ _ _ (an.same s8) z
    rw[aa] at y;cases y
   ·let:=M l z
    rw[(s5.trans s6) _ _ el] at this;cases this
   ·rcases mF.mp m with z | z
    ·rw[z];exact zW (I.trans e) aa
    ·rcases mF.mp z with z | z
     ·rw[z];exact hl
     ·exact zW ao (M b z)
 ·rintro ys H2 _ ⟨g2,D,hS,ac⟩ l hl
  let s3:=zF hl (.lst ys);rw[aq,pG] at hS;refine q l ys D _ (g2.trans s3) (zW g2 hl) zC (hS.same s3) λb m=>{ac b m,λz=>?_};obtain⟨o,y⟩:=Sps.there _ _ _ hS m;rw[z,hl] at y;cases y
def yEw:Sp:=λh H Q _=>∃(v:V)(c:V1)(e:B3)(t:T)(b:C4)(m:Nat),h= [v, .ref c]/\Rep H v t/\H c=Y (.lst e)/\Dlays H e b/\RJ m b t/\∀l g d x st u i a,Same H a->a l=Y (.lst [.ref c, .ref g,st])->a g=Y (.lst (d++ [x]))->Rep a x u->Reps a (d++ [x]) (stands b t)->TrR b t st u->RJ i [] u->Q (.ref l) a
theorem RJ.less{m:Nat}{d:Dd}{ds:C4}{s:T}(h:RJ m (d::ds) s):RJ m ds s:={h.f,h.m0,by let:=h.m1;rw[mW] at this;lia,h.g,h.d,by let:=h.z;rw[mW] at this;lia,λb a=>h.o b (mG _ a)}
theorem RJ.nil{m:Nat}:∀{ds:C4}{s:T},RJ m ds s->RJ m [] s
 |[],_,h=>h|_::_,_,h=>RJ.nil h.less
theorem ok_ro{k:Nat}(F:Fun K "_law_rows_of" "_law_rows_of" sRo f fd)(B:Bl2 mg)(g:Dn P w K mg base k "_law_held" ["_law_thing"] (zGt 20))(d:Dn P w K mg base k "_law_deed_on" ["_law_thing","_law_deed_here"] yGs):FnOk P w K mg base CX0 (k+1) f fd ["_law_thing","_law_paper"] yEw:=by
 refine F.okn (N:=["_law_thing","_law_paper","_law_rows","_law_j","_law_pair"]) λay A ar s H vs Q E nd hr h=>?_;ext yA h v pa xs t L I;ext wG I m M hv aj hD I;ext oA I hI q;subst M;let hu:=wY hr;refine{_,(zD (pS 2 nd (zZ (zA (pD g hr (zA (pv 0) zB)) zB)))
  (zD (vX PassesOwn.never O (wE O B.range (zA (zN yE O B.len yS (zA (pv 1) zB)) zB)) (yG (i:=3) nd O (nO O)) (zD (pS 4 nd (pD d hr (zA (pX zP (pv 2) (wO xO zE)) (zA (pX zP (pv 1) (pv 3)) zB))))
  (zD (zT (xL (yD (pX zP (pv 4) zE))) (zG (zI (zZ (zA (pv 1) (zA (pv 2) (zA (pv 3) zB)))))) zK)
  (zG (wP (jZ nY pK rG jA (pv 2) (zA (pX zP (pv 4) zE) zB)))))))
  (zG (zI (zZ (zA (pv 1) (zA (pv 2) (zA uU zB)))))))), ?_}
 walk_at "st";lk;let a0:=hI.d;let az:=hI.m1;refine{v,t,O,hv,hI.few,∅,λx H1 D g1 sp aw J ae=>?_};let s2:=zF ae (.lst [x]);let e2:=zC (H:=H1) (a:=J) (o:=.lst [x]);let ah:=zW g1 ae;let af:Rep (wB (upd H1 J (.lst [x])) J) x t:=Rep.same (λb o e=>by
  let hb:b≠J:=λz=>by subst z;rw[ae] at e;cases e
  rw[xX hb,zM hb];exact e) _ _ (Sp1.rep _ _ _ sp)
 let g2:=g1.trans s2;generalize upd H1 J (.lst [x])=H2 at s2 e2 af g2⊢;let ax:=hD.1;refine zFx xs (SqL.of (g2 _ _ aj)) ∅ ∅ ?_;refine jY (λi σ H'=>∃(rs:B3)(y:V)(s:T)(o1 o2:Option V)(m':Nat),σ= [Y v,Y (V.ref pa),Y (V.ref J),o1,o2]/\Same H H'/\H' J=Y (.lst (rs++ [y]))/\rs...*<=i/\Rep (wB H' J) y s/\RJ m' (L.drop i) s/\wL i (L.drop i) s=wL 0 L t/\∃us,Reps (wB H' J) rs us/\us++stands (L.drop i) s=stands L t) {[],x,t,_,_,m,O,g2,e2,mE _,af,hI,O,[],O,O} ?_ ?_
 ·intro i σ H5 hi I
  ext yA I rs y s o1 o2 I;ext wG I m' M g5 n am I;ext zJw I hy c r us ab p;subst M;lk;let ak:i<xs...*:=by lia
  let ai:xs[i]? =some xs[i]:=mQ ak;let av:L[i]? =some L[i]:=mQ ∅;let ap:L.drop i=L[i]::L.drop (i+1):=nU ∅;rw[ap] at c r p;let hz:=c.z;let hd:=c.d;let hm:=c.m1;refine zR (((hD.2 i _ _ ai av).same g5).dr (c.o _ mD)) λtp u aq al an ag=>?_;rw[show(0:Int)+(i:Int)=(i:Int) by lia];refine zY (SqL.of n) (xY _ _) (zY (SqL.of (g5 _ _ aj)) (zQ ai) ?_);rw[aq];refine{y,tp,L[i].1,L[i].2.1,s,u,O,Rep.same xP _ _ hy,c.few,∅,∅,al,an,λr' ac l x2 H8 g8 aa au=>?_,λhn l x2 H8 g8 aa=>?_}
  ·rw[ag s] at ac
   rw[qV ac] at r;rw[qF ac] at p;refine zY (SqL.of aa) (zQ (j:=0) O) {true,O,iN ∎ {.inl {O,_,SqL.of (g8 _ _ n)},zY (SqL.of aa) (zQ (j:=1) O) {J,_,_,O,O,g8 _ _ n,by rw[mS,mM,nL];lia, ?_}}};refine yAe ⟨_,O⟩ (vM (g5.trans g8) ah) (rs++ [y]) x2 zC (uP (by rw[mM,nL];lia) r' (Rep.same (λb o e=>?_) _ _ au) {_,c.step ac} r (nEA (us++ [s]) (by rw[qM];exact Reps.snoc (Rep.same (yU g8) _ _ hy) (Reps.same (yU g8) _ _ ab)) (by rw[sE];exact p)));let hb:=zDg e;let n2:b≠J:=λz=>by subst z;rw[hb] at n;cases n
   rw[xX n2,zM n2];rw[wZ hb] at e;exact e
  ·rw[ag s] at hn
   rw[jT hn] at r;rw[zEk hn] at p;refine zY (SqL.of aa) (zQ (j:=0) O) {false,O,iP O λl3 ao=>?_};let s9:=zF ao (.lst [V.ref pa,V.ref J,V.int (i:Int)]);let g9:=g8.trans s9;exact q l3 J rs y _ s m' _ (g5.trans g9) zC (g9 _ _ n) (Rep.same g9 _ _ (Rep.same xP _ _ hy)) (by rw[<-p];exact Reps.snoc (Rep.same g9 _ _ (Rep.same xP _ _ hy)) (Reps.same g9 _ _ (Reps.same xP _ _ ab))) (.inr ⟨i,O,r.symm⟩) c.nil
 ·intro σ H5 I
  ext yA I rs y s o1 o2 I;ext wG I m' M g5 n am I;ext zJw I hy c r us ab p;subst M;lk;rw[show(xs...*:Int).toNat=L...* by lia,tF] at r c p;intro l hl;let s6:=zF hl (.lst [V.ref pa,V.ref J,V.non]);exact q l J rs y _ s m' _ (g5.trans s6) zC (s6 _ _ n) (Rep.same s6 _ _ (Rep.same xP _ _ hy)) (by rw[<-p];exact Reps.snoc (Rep.same s6 _ _ (Rep.same xP _ _ hy)) (Reps.same s6 _ _ (Reps.same xP _ _ ab))) (.inl ⟨O,r.symm⟩) c
end
abbrev sPu:V6:=top 76
theorem Dlays.app{H:Hp}{ys:B3}:∀{e:C4}{xs:B3}{ds:C4},Dlays H ys e->Dlays H xs ds->Dlays H (xs++ys) (ds++e):=λ{e xs ds} l j=>by
 obtain⟨f,h⟩:=j;obtain⟨g,k⟩:=l;refine{by rw[mM,mM];lia,λi v d a b=>?_}
 by_cases c:i<xs...*
 ·rw[pB c] at a
  rw[pB ∅] at b;exact h i v d a b
 ·rw[nS ∅] at a
  rw[nS ∅,<-f] at b;exact k _ v d a b
theorem Dlays.nil{H:Hp}:Dlays H [] []:={O,λi v d h=>by cases h}
theorem cutD(m:Int)(h:m=0\/m=1\/m=2):∃ks:List Key,uQ [V.str (A8 "d"),V.int 0,V.int 0,V.int 0,V.int 0,V.int 0,V.int 0] none ↥(7 - m)=ks.map kV/\(∀k∈ks,okS k)/\ks...*<=7:=by
 let a:∀n:Nat,∀k∈(.inr (A8 "d")::List.replicate n (.inl 0):B8),okS k:=λn k b=>by
  rcases mF.mp b with z | z
  ·rw[z];show xF (ts (A8 "d"))=true;decide+kernel
  ·rw[(dA.mp z).2];exact{by decide,by decide}
 rcases h with rfl | rfl | rfl
 ·exact zAm (.inr (A8 "d")::List.replicate 6 (.inl 0)) O (a 6) ∎
 ·exact zAm (.inr (A8 "d")::List.replicate 5 (.inl 0)) O (a 5) ∎
 ·exact zAm (.inr (A8 "d")::List.replicate 4 (.inl 0)) O (a 4) ∎
theorem nb{a b:Nat}(h:Nat.ble a b=true):a<=b:=Nat.le_of_ble_eq_true h
theorem rep0{H:Hp}:∀n:Nat,Reps H (List.replicate n [V.int 0]).flatten (List.replicate n (.int 0))
 |0=>rfl|n+1=>{V.int 0,_,O,O,rep0 n}
theorem few0:∀n:Nat,i3 31 (List.replicate n (.int 0))
 |0=>mK|n+1=>{mK,few0 n}
theorem gk0:∀n:Nat,k6 (List.replicate n (.int 0))
 |0=>mK|n+1=>{{by decide,by decide},gk0 n}
abbrev A1(c:Int):List Dd:=[(.ins,[.inr (A8 "r"), .inl (c % 40)], .int c),(.ins,[.inr (A8 "r"), .inl 0], .lst [.int c]),(.put,[.inr (A8 "n"), .inr (A8 "x")], .int 1)]
abbrev A2(c:Int)(ks:B8):List Dd:=[(.put,[.inr (A8 "n"), .inr (A8 "y")], .lst []),(.put,ks, .lst [.lst [.lst [.int c]]]),(.put,[.inr (A8 "d")], .int c),(.tak,[.inr (A8 "r"), .inl (c % 40)], .non)]
abbrev A3:List Dd:=[(.tak,[.inr (A8 "n"), .inr (A8 "n3")], .non),(.put,[.inr (A8 "z")], .lst (List.replicate 59 (.int 0)))]
def zBp(c:Hp)(b:TE)(t:T)(σ:St):Prop:=∀H Q,Same c H->(∀v a,Same H a->Rep a v t->Q v a)->b σ H Q
def zMi(c:Hp)(ta:TA)(us:B0)(σ:St):Prop:=∀H Q,Same c H->(∀b a,Same H a->Reps a b us->Q b a)->ta σ H Q
section
variable{H0:Hp}{te tf:TE}{ta:TA}{t:T}{us ws:B0}{σ:St}
theorem vN:zMi H0 zAh [] σ:=λH _ _ q=>q [] H (Same.refl _) O
theorem vC(c:zBp H0 te t σ)(f:zMi H0 ta us σ):zMi H0 (vK te ta) (t::us) σ:=λH _ g q=>c H _ g λv i b d=>f i _ (g.trans b) λa e g2 h=>q (v::a) e (b.trans g2) {v,a,O,Rep.same g2 _ _ d,h}
theorem vL(h:zMi H0 ta us σ)(e:us...*<=100):zBp H0 (zZh ta) (.lst us) σ:=λH _ g q=>h H _ g λc f d b=>{by let:=b...*;rw[mS];lia,λp a=>q (.ref p) _ (d.trans (zF a _)) {p,c,O,zC,Reps.same (zF a _) _ _ b}}
theorem vT(h:zMi H0 ta us σ)(e:us...*<=100):zBp H0 (zTe ta) (.tup us) σ:=λH _ g q=>h H _ g λc f d b=>{by let:=b...*;rw[mS];lia,λp a=>q (.ref p) _ (d.trans (zF a _)) {p,c,O,zC,Reps.same (zF a _) _ _ b}}
theorem vS{z:Str}:zBp H0 (tC (.str z)) (.str (ts z)) σ:=λH _ _ q=>q _ H (Same.refl _) (by show V.str z=V.str (tx (ts z));rw[qJ])
theorem vI{i:Int}:zBp H0 (tC (.int i)) (.int i) σ:=λH _ _ q=>q _ H (Same.refl _) O
theorem vV{i:Nat}{v:V}(h:σ[i]? =Y ↥v)(r:Rep H0 v t):zBp H0 (jC i) t σ:=λH _ g q=>by
 unfold jC
 first
 |exact⟨v,h,q v H (Same.refl _) (Rep.same g _ _ r)⟩
 |(rw[h];exact q v H (Same.refl _) (Rep.same g _ _ r))
theorem vW{i:Nat}{n:Int}(h:σ[i]? =Y ↥(.int n)):zBp H0 (jC i) (.int n) σ:=vV h O
theorem vD:zBp H0 zKv (.dic [] []) σ:=λH _ _ q p a=>q (.ref p) _ (zF a _) {p,[],O,zC,O,O}
theorem vO{r:R2}{i j k:Int}(c:zBp H0 te (.int i) σ)(e:zBp H0 tf (.int j) σ)(h:∀H (Q:VK),Q (.int k) H->r (.int i) (.int j) H Q):zBp H0 (tOp r te tf) (.int k) σ:=λH _ g q=>c H _ g λv f b d=>e f _ (g.trans b) λu a g2 l=>by
 cases (show v=V.int i from d);cases (show u=V.int j from l);exact h a _ (q _ a (b.trans g2) O)
theorem vA(o:zBp H0 te (.lst us) σ)(r:zBp H0 tf (.lst ws) σ)(x:us...*+ws...*<=100):zBp H0 (tOp zZo te tf) (.lst (us++ws)) σ:=λH _ g q=>o H _ g λv k f ⟨a,j,m,i,d⟩=>r k _ (g.trans f) λu y g2 ⟨b,h,l,n,e⟩=>by
 subst m l;let s:=d...*;let w:=e...*;exact{a,b,j,h,O,O,g2 _ _ i,n,by rw[mS];lia,λp c=>q (.ref p) _ ((f.trans g2).trans (zF c _)) {p,_,O,zC,Reps.same (zF c _) _ _ (Reps.append e (Reps.same g2 _ _ d))}}
theorem vAs{i:Nat}{R:TS}{D:gG}{H:Hp}(h:zBp H te t σ)(k:∀v H',Same H H'->Rep H' v t->R D (σ.set i ↥v) H'):jG (zNl te (qQ i)) R D σ H:=h H _ (Same.refl _) k
end
theorem Od.of{w:Wd}{ks:B8}{n:T}(a:∀k∈ks,okS k)(b:ks...*<=7)(c:T.fewm 31 n)(d:T.gk n)(e:T.dep n<=8)(f:T.sz n<=200):Od (w,ks,n):={a,sT b,c,d,by show ks...*+T.dep n<=15;lia,f}
theorem okc{k:Key}{ks:B8}(h:okS k)(h':∀q∈ks,okS q):∀q∈k::ks,okS q:=cL.mpr ⟨h,h'⟩
theorem okn:∀q∈([]:B8),okS q:=λ_ h=>nomatch h
theorem alc{d:Dd}{ds:C4}(h:Od d)(h':∀q∈ds,Od q):∀q∈d::ds,Od q:=cL.mpr ⟨h,h'⟩
theorem aln:∀q∈([]:C4),Od q:=λ_ h=>nomatch h
section
variable{P:V3}{w:V4}{K:A9}{mg:C8}{base:V5}{f:V1}{fd:V7}
def spPu(K:A9):Sp:=λh H Q _=>∃(a:V1)(e:List Int)(k:Int)(v:V),h= [.ref a, .int k,v]/\SqL K H a (e.map V.int)/\e...*<=63/\0<=k/\k<1000/\∀(l:V1)(g:B3)(c:C4)(b:Hp),Same H b->b l=Y (.lst g)->Dlays b g c->(∀d∈c,Od d)->c...*<=11->Q (.ref l) b
theorem ok_pu{kk:Nat}(F:Fun K "_law_pushing" "_law_pushing" sPu f fd)(B:Bl2 mg)(b:Dn P w K mg base kk "_law_cell" ["_law_script","_law_k"] (kD K)):FnOk P w K mg base CX0 (kk+1) f fd ["_law_script","_law_k","_law_thing"] (spPu K):=by
 refine F.okn (N:=["_law_script","_law_k","_law_thing","_law_more","_law_deep","_law_some","_law_cures"]) λa2 A ak s H vs Q E D hr h=>?_;ext yN h a r k v af z_;ext vB z_ ha L an a1 q;subst af;let hu:=wY hr;let a3:=hr.units0;refine{_,(zD (pS 3 D (pD b hr (zA (pv 0) (zA (pv 1) zB))))
  (zD (pS 4 D (xH (zA zL (zA (kA uS (zZ (zA zL (zA zE (zA zE (zA zE (zA zE (zA zE (zA zE zB)))))))) gO (gP (zJ vJ zE (zJ yI (zJ yK (pv 3) zE) zE)))) (zA (zZ (zA (zZ (zA (zZ (zA (pv 3) zB)) zB)) zB)) zB)))))
  (zD (uW (i:=5) D O (aL O) (zZ (zA (xH (zA zL (zA (zZ (zA zL (zA (zJ yI (pv 3) zE) zB))) (zA (pv 3) zB)))) (zA (xH (zA zL (zA (zZ (zA zL (zA zE zB))) (zA (zZ (zA (pv 3) zB)) zB)))) (zA (xH (zA zL (zA (zZ (zA zL (zA zL zB))) (zA zE zB)))) zB)))))
  (zD (uW (i:=5) D O (aL O) (zJ zBb (pv 5) (zZ (zA (xH (zA zL (zA (zZ (zA zL (zA zL zB))) (zA (zZ zB) zB)))) (zA (pv 4) (zA (xH (zA zL (zA (zZ (zA zL zB)) (zA (pv 3) zB)))) (zA (xH (zA zL (zA (zZ (zA zL (zA (zJ yI (pv 3) zE) zB))) zB))) zB)))))))
  (zD (uW (i:=5) D O (aL O) (zJ zBb (pv 5) (zZ (zA (xH (zA zL (zA (zZ (zA zL (zA zL zB))) zB))) (zA (xH (zA zL (zA (zZ (zA zL zB)) (zA (zJ zWp (zZ (zA zE zB)) zE) zB)))) zB)))))
  (zD (pS 6 D (zZ (zA (xH (zA zL (zA (zZ (zA zL zB)) (zA (zZ zB) zB)))) (zA (xH (zA zL (zA (zZ (zA zL zB)) (zA zGc zB)))) (zA (xH (zA zL (zA (zZ (zA zL zB)) (zA zE zB)))) (zA (xH (zA zL (zA (zZ (zA zL zB)) (zA zE zB)))) zB))))))
  (zG (zI (zJ zBb (xS (own:=["_law_j"]) (F:=[("_law_some",5),("_law_script",0),("_law_k",1)]) {O,tb_g%,tb_g%,tb_g%,(.cons O O O (.cons O O O (.cons O O O .nil)))} O (wE O B.range (zA (zJ xI zE (zJ yI (zJ yK (pv 3) zE) zE)) zB)) (λ_ _ _ _=>yG (i:=0) (by show(xW ["_law_j"] [("_law_some",5),("_law_script",0),("_law_k",1)]).Nodup;decide+kernel) O (nO O)) (λ_ _ _ _=>yT) (λ_ _ _ _=>(pX (zLm (K:=K) O) (pv 1) (zJ yI (pD b hr (zA (pv 2) (zA (zJ xI (zJ xI (pv 3) zE) (pv 0)) zB))) zE)))) (zJ zWp (pv 6) (zJ yI (zJ yK (pv 3) zE) zE))))))))))), ?_}
 walk_at "st";refine uZ λR hR=>?_;lk;refine{a,r,k,O,ha,L,an,∅,λH1 g1=>?_};let ax:=qB r k;let am:=jE r k;dsimp only;generalize qN r k=c at ax am⊢;subst hR;refine xC (cutD (c / 9 % 3) ∅) λg ao ai ah=>?_;let n:∀{z:Str},xF (ts z)=true->okS (.inr z):=λh=>h;let ae:okS (.inl (c % 40)):={∅,∅};let gc:T.gk (.int c):={∅,∅};let ac:∀{H0:Hp}{σ:St},σ[3]? =Y ↥(.int c)->zBp H0 (tOp (rI (λ_ j=>0<j) λi j=>.int (i % j)) (jC 3) (tC (.int 40))) (.int (c % 40)) σ:=λh=>vO (vW h) vI λH Q q=>{_,_,O,O,(by decide:(0:Int)<40),q};refine vAs (t:=ddT (.put,g, .lst [.lst [.lst [.int c]]])) (vT (vC vS (vC (λHx Qx gx qx=>?_) (vC (vL (vC (vL (vC (vL (vC (vW O) vN) (nb O)) vN) (nb O)) vN) (nb O)) vN))) (nb O)) λdv H2 g2 aw=>?_
 ·lk
  intro p hp;refine{p,_,O,SqL.of zC,λpl m=>?_};rw[ao];exact qx (.ref pl) _ ((zF hp _).trans (zF m _)) {pl,_,O,zC,zFj g}
 refine vAs (t:=.lst ((A1 c).map ddT)) (vL (vC (vT (vC vS (vC (vL (vC vS (vC (ac O) vN)) (nb O)) (vC (vW O) vN))) (nb O)) (vC (vT (vC vS (vC (vL (vC vS (vC vI vN)) (nb O)) (vC (vL (vC (vW O) vN) (nb O)) vN))) (nb O)) (vC (vT (vC vS (vC (vL (vC vS (vC vS vN)) (nb O)) (vC vI vN))) (nb O)) vN))) (nb O)) λs1 H3 g3 ap=>?_;refine vAs (t:=.lst ((A1 c).map ddT++(A2 c g).map ddT)) (vA (vV O ap) (vL (vC (vT (vC vS (vC (vL (vC vS (vC vS vN)) (nb O)) (vC (vL vN (nb O)) vN))) (nb O)) (vC (vV O (Rep.same g3 _ _ aw)) (vC (vT (vC vS (vC (vL (vC vS vN) (nb O)) (vC (vW O) vN))) (nb O)) (vC (vT (vC vS (vC (vL (vC vS (vC (ac O) vN)) (nb O)) vN)) (nb O)) vN)))) (nb O)) (nb O)) λs2 H4 g4 av=>?_;refine vAs (t:=.lst ((A1 c).map ddT++(A2 c g).map ddT++A3.map ddT)) (vA (vV O av) (vL (vC (vT (vC vS (vC (vL (vC vS (vC vS vN)) (nb O)) vN)) (nb O)) (vC (vT (vC vS (vC (vL (vC vS vN) (nb O)) (vC (λHx Qx gx qx=>?_) vN))) (nb O)) vN)) (nb O)) (nb O)) λs3 H5 g5 ag=>?_
 ·lk
  intro p hp;refine{p,59,_,O,O,zC,by decide,by decide,by rw[mS];decide,λpl m=>?_};exact qx (.ref pl) _ ((zF hp _).trans (zF m _)) {pl,_,O,zC,rep0 59}
 refine vAs (t:=.lst ([(.put,[.inr (A8 "r")], .lst []),(.put,[.inr (A8 "n")], .dic [] []),(.put,[.inr (A8 "d")], .int 1),(.put,[.inr (A8 "z")], .int 2)].map ddT)) (vL (vC (vT (vC vS (vC (vL (vC vS vN) (nb O)) (vC (vL vN (nb O)) vN))) (nb O)) (vC (vT (vC vS (vC (vL (vC vS vN) (nb O)) (vC vD vN))) (nb O)) (vC (vT (vC vS (vC (vL (vC vS vN) (nb O)) (vC vI vN))) (nb O)) (vC (vT (vC vS (vC (vL (vC vS vN) (nb O)) (vC vI vN))) (nb O)) vN)))) (nb O)) λcv H6 g6 ar=>?_;lk;refine yL (Rep.same g6 _ _ ag) λl1 xs u x1 hx=>?_;subst u;ext yL ar lc e u y1 hy;subst u;let x2:Dlays H6 xs (A1 c++A2 c g++A3):=Dlays.of (by rw[nI,nI];exact hx);let y2:=Dlays.of hy;let aa:=g1.trans (g2.trans (g3.trans (g4.trans (g5.trans g6))));let i1:T.gk (.int 1):={by decide,by decide};let kr:=n (z:=A8 "r") (by decide+kernel);let kn:=n (z:=A8 "n") (by decide+kernel);let kd:=n (z:=A8 "d") (by decide+kernel);let kz:=n (z:=A8 "z") (by decide+kernel);let x3:∀d∈A1 c++A2 c g++A3,Od d:=alc (.of (okc kr (okc ae okn)) (nb O) mK gc (nb O) (nb O)) (alc (.of (okc kr (okc {by decide,by decide} okn)) (nb O) {nb O,mK,mK} ⟨gc,mK⟩ (nb O) (nb O)) (alc (.of (okc kn (okc (n (by decide+kernel)) okn)) (nb O) mK i1 (nb O) (nb O)) (alc (.of (okc kn (okc (n (by decide+kernel)) okn)) (nb O) {nb O,mK} mK (nb O) (nb O)) (alc (.of ai ah {nb O,{nb O,{nb O,mK,mK},mK},mK} {{⟨gc,mK⟩,mK},mK} (nb O) (nb O)) (alc (.of (okc kd okn) (nb O) mK gc (nb O) (nb O)) (alc (.of (okc kr (okc ae okn)) (nb O) mK mK (nb O) (nb O)) (alc (.of (okc kn (okc (n (by decide+kernel)) okn)) (nb O) mK mK (nb O) (nb O)) (alc (.of (okc kz okn) (nb O) {nb O,few0 59} (gk0 59) (nb O) (nb O)) aln))))))));let y3:=alc (d:=(.put,[.inr (A8 "r")], .lst [])) (.of (okc kr okn) (nb O) {nb O,mK} mK (nb O) (nb O)) (alc (d:=(.put,[.inr (A8 "n")], .dic [] [])) (.of (okc kn okn) (nb O) {aO,nb O,O,mK} {(λ_ h=>nomatch h),mK} (nb O) (nb O)) (alc (d:=(.put,[.inr (A8 "d")], .int 1)) (.of (okc kd okn) (nb O) mK i1 (nb O) (nb O)) (alc (d:=(.put,[.inr (A8 "z")], .int 2)) (.of (okc kz okn) (nb O) mK {by decide,by decide} (nb O) (nb O)) aln)));let x4:(A1 c++A2 c g++A3)...*=9:=rfl;generalize A1 c++A2 c g++A3=ds at x2 x3 x4;let y4:=y2.1;obtain⟨cs,J⟩:∃cs,cs= [((.put,[.inr (A8 "r")], .lst []):Dd),(.put,[.inr (A8 "n")], .dic [] []),(.put,[.inr (A8 "d")], .int 1),(.put,[.inr (A8 "z")], .int 2)]:=⟨_,O⟩;rw[<-J] at y2 y3;clear J hx hy;let a4:=x2.1;let a6:e...*=4:=y4;let a0:=y2.1;refine nAA ∅ ∅ (uK (λi l H'=>Same H6 H'/\∃x,Dlays H6 l x/\(∀d∈x,Od d)/\x...*=i) (by rw[mS];lia) {Same.refl _,[],Dlays.nil,(λd h=>nomatch h),O} ?_ ?_)
 ·intro i l H' hi _ z_
  ext yEl z_ g7 x d1 d2 d3;lk;refine{a,r,_,O,(aa.trans g7).seq ha,L,∅,∅,λH8 y=>?_};let aj:=qB r (k+1+(0+(i:Int)));generalize qN r (k+1+(0+(i:Int)))=c2 at aj⊢;obtain⟨j,hj,a5⟩:∃j:Nat,c2 % 9=(j:Int)/\j<9:={(c2 % 9).toNat,∅,∅};refine nEA c2 O ?_;rw[hj];let ab:xs[j]? =some xs[j]:=mQ ∅;let I:ds[j]? =some ds[j]:=mQ ∅;refine zY (SqL.of ((g7.trans y) _ _ x1)) (zQ ab) {g7.trans y,x++ [ds[j]],d1.snoc (x2.2 j _ _ ab I),λd hd=>?_,by rw[mM,d3];rfl};rcases nB.mp hd with z | z
  ·exact d2 d z
  ·rw[mH.mp z];exact x3 _ (mO I)
 ·intro l H' _ z_
  ext yEl z_ g7 x d1 d2 d3;intro p hp;let s8:=zF hp (.lst l);let e8:=zC (H:=H') (a:=p) (o:=.lst l);let y:=g7.trans s8;generalize upd H' p (.lst l)=H8 at s8 e8 y⊢;obtain⟨fs,f1,f2,f3⟩:∃fs,Dlays H6 (List.replicate (c / 189 % 2).toNat e).flatten fs/\(∀d∈fs,Od d)/\fs...*<=4:=by
   rcases(show c / 189 % 2=0\/c / 189 % 2=1 by lia) with z | z
   ·rw[z];exact{[],Dlays.nil,(λd h=>nomatch h),by decide}
   ·rw[z]
    refine zAm cs ?_ y3 ∅;show Dlays H6 (e++ []) cs;rw[pJ];exact y2
  let ay:=f1.1;let az:=d1.1;refine{lc,_,_,O,O,y _ _ y1,∅,∅, ?_,λp2 al=>?_}
  ·rw[mS]
   rcases(show c / 189 % 2=0\/c / 189 % 2=1 by lia) with z | z<;>rw[z]<;>simp<;>lia
  let s9:=zF al (.lst (List.replicate (c / 189 % 2).toNat e).flatten);let e9:=zC (H:=H8) (a:=p2) (o:=.lst (List.replicate (c / 189 % 2).toNat e).flatten);generalize upd H8 p2 (.lst (List.replicate (c / 189 % 2).toNat e).flatten)=H9 at s9 e9⊢;refine{p,p2,_,_,O,O,s9 _ _ e8,e9,by rw[mS];lia,λp3 au=>?_};let aq:=zF au (.lst (l++(List.replicate (c / 189 % 2).toNat e).flatten));let M:=y.trans (s9.trans aq);refine q p3 _ (x++fs) _ (aa.trans M) zC (Dlays.same M (Dlays.app f1 d1)) (λd hd=>(nB.mp hd).elim (d2 d) (f2 d)) (by rw[mM];lia)
abbrev sDr:V6:=top 78
def Tri(H:Hp)(g:V1)(t:T)(ds:C4)(o:V)(u:T):Prop:=∃(b e:V1)(c a:B3)(x:V),H g=Y (.lst [.ref b, .ref e,o])/\H b=Y (.lst c)/\Dlays H c ds/\H e=Y (.lst (a++ [x]))/\Rep H x u/\Reps H (a++ [x]) (stands ds t)/\TrR ds t o u/\(∀d∈ds,Od d)/\ds...*<=12/\T.gk u/\T.fewm 60 u/\T.dep u<=15/\T.sz u<=5000
theorem Tri.same{H j:Hp}{k:V1}{t u:T}{ds:C4}{o:V}(g:Same H j)(h:Tri H k t ds o u):Tri j k t ds o u:=by
 ext yA h n q p l x i;ext zS i a b c d e i;ext oA i m r;exact{n,q,p,l,x,g _ _ a,g _ _ b,c.same g,g _ _ d,Rep.same g _ _ e,Reps.same g _ _ m,r}
theorem BaseI.rj{t:T}{ds:C4}(h:BaseI t)(a:∀d∈ds,Od d)(b:ds...*<=12):RJ 31 ds t:=
 {b8 ∎ _ h.f,mE _,∅,h.c,by let:=h.d;lia,by let:=h.z;lia,a}
def spDr(K:A9):Sp:=λe H Q _=>∃(a:V1)(c:List Int),e= [.ref a, .int 12]/\SqL K H a (c.map V.int)/\c...*<=63/\∀(l d:V1)(v o:V)(t u:T)(g:C4)(b:Hp),Same H b->b l=Y (.lst [v, .ref d])->Rep b v t->BaseI t->Tri b d t g o u->Q (.ref l) b
theorem ok_dr{kk:Nat}(F:Fun K "_law_drawn" "_law_drawn" sDr f fd)(B:Bl2 mg)(d:Dn P w K mg base kk "_law_cell" ["_law_script","_law_k"] (kD K))(m:Dn P w K mg base kk "_law_base" ["_law_script","_law_k"] (spBa K))(e:Dn P w K mg base kk "_law_rows_of" ["_law_thing","_law_paper"] yEw)(g:Dn P w K mg base kk "_law_pushing" ["_law_script","_law_k","_law_thing"] (spPu K))(j:Dn P w K mg base kk "_law_deeds" ["_law_script","_law_k","_law_thing","_law_many"] (yHn K)):FnOk P w K mg base CX0 (kk+1) f fd ["_law_script","_law_many"] (spDr K):=by
 refine F.okn (N:=["_law_script","_law_many","_law_thing"]) λai A ag s H vs Q E nd D h=>?_;ext zR h a L M ha n q;subst M;let hu:=wY D;refine{_,(zD (pS 2 nd (pD m D (zA (pv 0) (zA zE zB))))
  (zD (zT (i6 (vH (yD (pI B.isinstance zH B.dict xJ (pv 2))) (vH (gR (zEe hu zL (pv 2))) (vH (gR (zEe hu zL (pv 2))) (qH (pT kS (zJ yI (pD d D (zA (pv 0) (zA zE zB))) zE) zE)))))) (zG (zI (zZ (zA (pv 2) (zA (pD e D (zA (pv 2) (zA (pD g D (zA (pv 0) (zA zE (zA (pv 2) zB)))) zB))) zB))))) zK)
  (zG (zI (zZ (zA (pv 2) (zA (pD j D (zA (pv 0) (zA zE (zA (pv 2) (zA (zJ yI (pD d D (zA (pv 0) (zA zE zB))) (zJ xI (pv 1) zE)) zB))))) zB))))))), ?_}
 walk_at "st";lk;refine{a,L,0,O,ha,n,by decide,by decide,λv t H1 g1 hv I=>?_};lk;let y:=g1.seq ha
 -- the deeds are drawn
 let drawn:∀H2,Same H1 H2->kD K [V.ref a,V.int 5] H2 (λx H3=>∃i,x=V.int i/\yHn K [V.ref a,V.int 600,v,V.int (i % 13)] H3 (λx H4=>∀p,H4 p=none->Q (V.ref p) (upd H4 p (HO.lst [v,x]))) E0) E0:=λH2 g2=>by
  refine{a,L,5,O,g2.seq y,n,by decide,by decide,λH3 g3=>{_,O, ?_}};let ah:=qB L 5;generalize qN L 5=c at ah⊢;let k:=g2.trans g3;refine⟨a,L,600,v,_,t,O,k.seq y,n,by decide,by decide,∅,∅,Rep.same k _ _ hv,I.f,I.c,by let:=I.d;lia,by let:=I.z;lia,λl pp pr o ps rs x ds u H4 g4 hl hp hD hO hn D hx J hT ae ac d4 z4 p r=>?_⟩;let g5:=g4.trans (zF r (.lst [v, .ref l]));exact q p l v o t u ds _ (g1.trans (k.trans g5)) zC (Rep.same (k.trans g5) _ _ hv) I (Tri.same (zF r _) ⟨pp,pr,ps,rs,x,hl,hp,hD,D,hx,J,hT,hO,hn,ac,b8 ∎ _ ae,∅,∅⟩)
 let d0:=drawn H1 (Same.refl _);refine nEA _ (Rep.ty hv) ?_
 cases t with
 |dic ks us=>
  refine iP O ?_;let aa:=hv;ext zR hv b ps M hb hk hs;subst M;refine{b,_,O, .inl {ps, .inr (A8 "r"), .inl hb,O,O},_,O, ?_};split
  ·refine{b,_,O, .inl {ps, .inr (A8 "d"), .inl hb,O,O},_,O, ?_}
   split
   ·refine{a,L,3,O,y,n,by decide,by decide,λH2 g2=>{_,O, ?_}}
    split
    ·refine{a,L,500, .ref b,O,g2.seq y,n,by decide,by decide,λl xs ds H3 g3 hl hD hO hn=>?_}
     let k:=g2.trans g3;refine{.ref b,l,xs,_,ds,31,O,Rep.same k _ _ aa,hl,hD,I.rj hO ∅,λl2 pr rs x st u m' H4 g4 ab af hx J hT hJ p r=>?_};let g5:=g4.trans (zF r (.lst [.ref b, .ref l2]));let j1:=hJ.m1;let j2:=hJ.z;let j3:=hJ.d;exact q p l2 (.ref b) st _ u ds _ (g1.trans (k.trans g5)) zC (Rep.same (k.trans g5) _ _ aa) I (Tri.same (zF r _) {l,pr,xs,rs,x,ab,g4 _ _ hl,hD.same g4,af,hx,J,hT,hO,∅,hJ.g,b8 ∅ _ hJ.f,∅,∅})
    ·exact drawn H2 g2
   ·exact d0
  ·exact d0
 |_=>exact iN (by intro z;cases z) d0
abbrev sSt:V6:=top 30
abbrev sHas:V6:=top 29
def yFi:Sp:=λe H Q _=>∃(v:V)(t:T)(c:V1)(a:B8),e= [v, .ref c]/\Rep H v t/\T.pure t/\T.sz t<=100000/\H c=Y (.lst (a.map kV))/\(∀k∈a,okK k)/\a...*<=8/\∀p d b,Same H b->b p=Y (.lst d)->Reps b d (goT t a)->Q (.ref p) b
theorem ok_st(F:Fun K "stops_on" "stops_on" sSt f fd)(B:Bl mg)(l:Dn P w K mg base 1 "leads_on" ["thing","step"] zTn):FnOk P w K mg base CX0 2 f fd ["thing","path"] yFi:=by
 refine F.okn (N:=["thing","path","stops","step"]) λan A al s H vs Q E nd hr h=>?_;ext yN h v t pa m ag d;ext zS d hv hp hz y af d;ext oA d h8 q;subst ag;let hu:=wY hr;refine{_,(zD (pS 2 nd (zZ (zA (pv 0) zB)))
  (zD (vX PassesOwn.never O (xG (pv 1)) (yG (i:=3) nd O (nO O)) (zD (zT (xL (yD (pD l hr (zA (pX zP (pv 2) (wO xO zE)) (zA (pv 3) zB))))) (zG (zI (pv 2))) zK)
  (zG (wP (jZ nY pK rG jA (pv 2) (zA (zEc (pX zP (pX zP (pv 2) (wO xO zE)) (pv 3)) (jR hu (pX zP (pv 2) (wO xO zE)) (pv 3) (λ_ _=>O))) zB))))))
  (zG (zI (pv 2))))), ?_}
 walk_at "st";lk;intro J D;let ao:pa≠J:=λz=>by rw[z,D] at y;cases y
 refine{{_,SqL.of (zF D _ _ _ y)},jN (K:=K) (a:=pa) (xs:=m.map kV) (λi σ' H'=>∃o us u I c,σ'= [Y v,Y (.ref pa),Y (.ref J),o]/\Same H H'/\H' J=Y (.lst (I++ [c]))/\Reps H I us/\Rep H c u/\us...*=i/\goT t m=us++goT u (m.drop i)/\T.pure u/\T.sz u<=100000)
  {none,[],t,[],v,O,zF D _,zC,O,hv,O,O,hp,hz} (λi σ' H' _ h=>by
   ext yA h o us u I c d;ext oAA d _ g _;exact SqL.of (g _ _ y)) ?_ ?_}
 ·intro i x σ' H' hx d
  ext yA d o us u I c d;ext zS d ab g hS hR hc d;ext xA d hl hg ac M;subst ab;lk;let am:=hR...*;rw[nH] at hx
  cases n:m[i]? with
  |none=>rw[n] at hx;cases hx|some k=>
   rw[n] at hx;let ex:kV k=x:=mU hx;subst ex;let ai:=(mJ.mp n).1;let aj:m.drop i=k::m.drop (i+1):=by
    rw[nU ai,(mJ.mp n).2]
   rw[aj] at hg;refine zY (SqL.of hS) (xY _ _) {c,u,k,O,Rep.same g _ _ hc,ac,M,af _ (mO n),λH2 g2=>{_,O, ?_}};let p:=g2 _ _ hS;let gg:=g.trans g2
   cases hs:zV u k with
   |none=>
    refine iP O (q J _ _ gg p ?_);let e:goT u (k::m.drop (i+1))= [u]:=by show(match zV u k with | none=>[u] | some r=>u::goT r (m.drop (i+1)))=_;rw[hs]
    rw[hg,e];exact Reps.snoc (Rep.same gg _ _ hc) (Reps.same gg _ _ hR)
   |some r=>
    let e:goT u (k::m.drop (i+1))=u::goT r (m.drop (i+1)):=by show(match zV u k with | none=>[u] | some r=>u::goT r (m.drop (i+1)))=_;rw[hs]
    rw[e] at hg;refine iN (by simp) {nO {O,_,SqL.of p}, ?_};let L:∀c',Rep H c' r->T.pure r->T.sz r<=100000->zJz (V.ref J) [c'] H2 (λ_ H1=>Same H H1/\∃aa u1 ae c1,H1 J=Y (.lst (ae++ [c1]))/\Reps H ae aa/\Rep H c1 u1/\aa...*=i+1/\goT t m=aa++goT u1 (m.drop (i+1))/\T.pure u1/\T.sz u1<=100000):=λc' h1 h2 h3=>
     {J,I++ [c],c',O,O,p,by rw[mS,mM];show I...*+1<_;lia,gg.put D _,us++ [u],r,I++ [c],c',zC,Reps.snoc hc hR,h1,by rw[mM,hl];rfl,by rw[hg,sE];rfl,h2,h3}
    obtain⟨c',h1,h2,h3,⟨b,zs,j,rfl,hb,ej,ah⟩|⟨b,qs,rfl,hb,ak⟩⟩:=zKs hc ac M (af _ (mO n)) hs
    ·refine .inl ?_
     lk;refine zY (SqL.of p) (xY _ _) ?_;rw[ej];exact zY (SqL.of (gg _ _ hb)) ah (L _ h1 h2 h3)
    ·refine .inr ?_
     lk;exact zY (SqL.of p) (xY _ _) {b,O,c', .inl {qs,k, .inl (gg _ _ hb),O,ak.symm},L _ h1 h2 h3}
 ·intro σ' H' d
  ext yA d o us u I c d;ext zS d ab g hS hR hc d;ext xA d hl hg ac M;subst ab;lk;rw[mN,tF] at hg;refine q J _ _ g hS ?_;rw[hg];exact Reps.snoc (Rep.same g _ _ hc) (Reps.same g _ _ hR)
def yDs:Sp:=λd H Q _=>∃(v:V)(t:T)(b:V1)(a:B8),d= [v, .ref b]/\Rep H v t/\T.pure t/\T.sz t<=100000/\H b=Y (.lst (a.map kV))/\(∀k∈a,okK k)/\a...*<=8/\∀c,Same H c->Q (.bl (decide (a...*<(goT t a)...*))) c
theorem yEt(F:Fun K "has" "has" sHas f fd)(B:Bl mg)(a:Dn P w K mg base 2 "stops_on" ["thing","path"] yFi):FnOk P w K mg base CX0 3 f fd ["thing","path"] yDs:=by
 refine F.okn (N:=["thing","path"]) λu A k s H L Q E J m h=>?_;ext yN h v t y c i g;ext zS g o x z b d g;ext oA g D q;subst i;let I:=wY m;refine nEA _ (zG (zI (pE kS (zN yE O B.len yS (zA (pD a m (zA (pv 0) (zA (pv 1) zB))) zB)) (zN yE O B.len yS (zA (pv 1) zB))))) ?_;walk_at "st";lk;refine{v,t,y,c,O,o,x,z,b,d,D,λp l M n j r=>?_};refine kB p O l (SqL.of j) _ (nA (SqL.of (n _ _ b)) ?_);let e:decide (((c.map kV)...*:Int)<(l...*:Int))=decide (c...*<(goT t c)...*):=by
  rw[mN,r...*];exact aY.mpr ∅
 rw[e];exact q _ n
end
end K43
namespace K43
open PySem L2 PySem.W
seal L2.PSs L2.PS L2.PE L2.PT L2.PW L2.PA L2.PI L2.PG L2.PGs L2.PPs L2.PTs
theorem zXp{t u:T}{k:Key}(f:T.few t)(h:zV t k=Y u):T.few u/\T.dep u<=T.dep t/\T.sz u<=T.sz t:=by
 let d:∀a:List T,i4 a->u∈a->T.few u/\T.dep u<=T.deps a+1/\T.sz u<=T.szs a+1:=λa f c=>by
  let l:=b7 c;let j:=c7 c;exact nAA (b9 f c) ∅ ∅
 cases t with
 |lst a=>
  cases k with
  |inl i=>
   let e:a[i.toNat]? =Y u:=h;exact d a f.2 (mO e)
  |inr x=>cases h
 |dic g a=>
  cases k with
  |inl i=>cases h|inr x=>
   let e:(if ts x∈g then Y (yH (ts x) g a) else none)=Y u:=h
   by_cases c:ts x∈g
   ·rw[mP c] at e
    rw[<-mU e] at d⊢;exact d a f.2.2.2 (xK c f.2.2.1)
   ·rw[mI c] at e;cases e
 |non=>cases h|bl b=>cases h|int b=>cases h|str b=>cases h|tup a=>cases h
theorem zKk:∀(ks:B8)(t u:T),T.few t->u∈goT t ks->T.few u/\T.dep u<=T.dep t/\T.sz u<=T.sz t
 |[],t,u,a,h=>by
  let e:u=t:=mH.mp h;rw[e];exact{a,mE _,mE _}
 |k::ks,t,u,a,h=>by
  let b:u∈(match zV t k with | none=>[t] | some u=>t::goT u ks):=h
  cases c:zV t k with
  |none=>
   rw[c] at b;let e:u=t:=mH.mp b;rw[e];exact{a,mE _,mE _}
  |some g=>
   rw[c] at b;rcases mF.mp b with z | z
   ·rw[z];exact{a,mE _,mE _}
   ·obtain⟨d,m,l⟩:=zXp a c
    obtain⟨f,i,j⟩:=zKk ks g u d z;exact nAA f ∅ ∅
abbrev sTa:V6:=top 28
section
variable{P:V3}{w:V4}{K:PySem.W.Frag}{mg:C8}{base:V5}{f:V1}{fd:V7}{C:V1}
structure Tp(H:Hp)(v:V)(t:T)(pa:V1)(ks:B8):Prop where
 v:Rep H v t
 few:T.few t
 dep:T.dep t<=16
 sz:T.sz t<=5000
 pa:H pa=Y (.lst (ks.map kV))
 ok:∀k∈ks,okK k
 l8:ks...*<=8
theorem Tp.pure{H:Hp}{v:V}{t:T}{a:V1}{ks:B8}(h:Tp H v t a ks):T.pure t:=kO 16 t h.dep h.few
def lds(t:T)(ks:B8):Prop:=ks...*<(goT t ks)...*
noncomputable instance (t:T) (ks:B8):Decidable (lds t ks):=inferInstanceAs (Decidable (_<_))
def spTa:Sp:=λg H Q _=>∃(v:V)(t:T)(e:V1)(a:B8),g= [v, .ref e]/\Tp H v t e a/\lds t a/\∀u d c D,(goT t a).getLast? =Y u->Same H c->Sp1 c d u D->(∀b∈D,H b=none)->Q d c
theorem ok_ta(F:Fun K "thing_at" "thing_at" sTa f fd)(B:Bl mg)(a:Dn P w K mg base 2 "stops_on" ["thing","path"] yFi)(c:Dn P w K mg base (1+20) "copied" ["thing"] (zSr 20)):FnOk P w K mg base CX0 22 f fd ["thing","path"] spTa:=by
 refine F.okn (N:=["thing","path","stops"]) λL A l s H vs Q E I z h=>?_;ext yN h v t pa e i M;ext oAA M d y q;subst i;let y:e...*<(goT t e)...*:=y;refine{_,(zD (pS 2 I (pD a z (zA (pv 0) (zA (pv 1) zB))))
  (zD (zT (pT uE (zN yE O B.len yS (zA (pv 2) zB)) (zN yE O B.len yS (zA (pv 1) zB))) zEa zK)
  (zG (zI (pD c z (zA (pX zP (pv 2) (wO xO zE)) zB)))))), ?_}
 walk_at "st";lk;let hz:=d.sz;refine{v,t,pa,e,O,d.v,d.pure,∅,d.pa,d.ok,d.l8,λp xs H1 n g r=>?_};let aa:=r...*;refine oEA (kY t e) λu o j=>?_;refine oAA (zKk e t u d.few j) λJ du zu=>?_;refine oEA (m4 r o) λx hx m=>?_;let hd:=d.dep;refine kB p O xs (SqL.of g) _ (nA (SqL.of (n _ _ d.pa)) (iN (by rw[mN];lia) (zY (SqL.of g) (zCg hx) {x,u,O,m,kO 16 u ∅ J,∅,∅,λv' H2 D g2 k hD=>q u v' H2 D o (n.trans g2) k λb hb=>zW n (hD b hb)})))
end
end K43
namespace K43
open PySem L2
theorem zCu:∀(n:Nat)(t:T),T.few t->T.dep t<n->wC (zO t) (zO t)=0
 |0,_,_,h=>absurd h (pV _)|n+1,t,d,g=>by
  cases t with
  |non=>decide+kernel|bl b=>cases b<;>decide+kernel|int i=>show wC (.int i) (.int i)=0;rw[wC];unfold sgI;rw[mI ∅];rfl|str x=>show wC (.str x) (.str x)=0;rw[zJo,zBl]|lst a=>
   let e:T.deps a+1<n+1:=g;refine(zJl a a).mpr {O,λi t q j m=>?_};rw[j] at m;cases m;let c:=mO j;let:=b7 c;exact zCu n t (b9 d.2 c) ∅
  |dic p a=>
   let e:T.deps a+1<n+1:=g;ext xA d o _ f d;refine(qI o).mpr {O,λk l=>{l, ?_}};let c:=xK l f;let:=b7 c;exact zCu n _ (b9 d c) ∅
  |tup a=>exact d.elim
def Eqc(t u:T):Prop:=wC (zO t) (zO u)=0
theorem Eqc.refl{t:T}(h:T.few t):Eqc t t:=zCu (T.dep t+1) t h (tE _)
noncomputable def atT:List Key->T->Option T
 |[],t=>Y t|k::a,t=>(zV t k).bind (atT a)
noncomputable def bkD(s:T)(d:Dd):Dd:=match atT d.2.1 s with
 |none=>(.tak,d.2.1, .non)|some g=>match d.1 with
  |.ins=>(.tak,d.2.1, .non)|.put=>(.put,d.2.1,g)|.tak=>match d.2.1.getLast? with
   |some (.inl _)=>(.ins,d.2.1,g)|_=>(.put,d.2.1,g)
theorem kH{us:B0}{i:Nat}{t:T}(h:i4 us)(a:us[i]? =Y t):T.few t:=b9 h (mO a)
theorem zNw{us a:B0}(h:us=a)(f:T.few (.lst a)):Eqc (.lst us) (.lst a):=by rw[h];exact Eqc.refl f
theorem zZa{s u r:T}{k:Key}(h:T.few s)(d:zV s k=Y u):zV (yP .put s k r) k=Y r:=by
 cases s with
 |lst c=>
  cases k with
  |inl i=>
   let g:c[i.toNat]? =Y u:=d;let j:=(mJ.mp g).1;show(c.take i.toNat++r::c.drop (i.toNat+1))[i.toNat]? =Y r;rw[nS (by rw[nZ];lia),nZ,show i.toNat - min i.toNat c...*=0 by lia]
   rfl
  |inr z=>cases d
 |dic a c=>
  cases k with
  |inl i=>cases d|inr z=>
   let g:(if ts z∈a then Y (yH (ts z) a c) else none)=Y u:=d
   by_cases f:ts z∈a
   ·let e:yY (a,c) (ts z) r=(a,yR (ts z) r a c):=mP f
    show(if ts z∈(yY (a,c) (ts z) r).1 then Y (yH (ts z) (yY (a,c) (ts z) r).1 (yY (a,c) (ts z) r).2) else none)=Y r;rw[e];show(if ts z∈a then Y (yH (ts z) a (yR (ts z) r a c)) else none)=Y r;rw[mP f,gB h.2.2.1 f,mP O]
   ·rw[mI f] at g;cases g
 |non=>cases d|bl b=>cases d|int b=>cases d|str b=>cases d|tup b=>cases d
theorem qD{k:List Nat}{ks:C6}{us:B0}(b:ks...*=us...*)(a:k∈ks)(h:i4 us):T.few (yH k ks us):=b9 h (xK a b)
theorem yHm{us:B0}{i:Nat}{u d:T}(h:i4 us)(f:us[i]? =Y u)(e:Eqc d u):Eqc (.lst (us.take i++d::us.drop (i+1))) (.lst us):=by
 let c:=(mJ.mp f).1;rw[<-zFn c];refine(zJl _ _).mpr {aD,λj t g a b=>?_}
 by_cases z:i=j
 ·subst z
  rw[sH c] at a;rw[f] at b;cases a;cases b;exact e
 ·rw[rZ z,b] at a
  cases a;exact Eqc.refl (kH h b)
theorem zJy{s u f r:T}{k:Key}(l:T.few s)(d:zV s k=Y u)(e:Eqc f u):Eqc (yP .put (yP .put s k r) k f) s:=by
 cases s with
 |lst c=>
  cases k with
  |inl i=>
   let g:c[i.toNat]? =Y u:=d;let j:=(mJ.mp g).1;show Eqc (.lst ((c.take i.toNat++r::c.drop (i.toNat+1)).take i.toNat++f::(c.take i.toNat++r::c.drop (i.toNat+1)).drop (i.toNat+1))) _;rw[cK (by rw[nZ];lia),List.drop_append,nZ,show i.toNat+1 - min i.toNat c...*=1 by lia,aI (by rw[nZ];lia)];exact yHm l.2 g e
  |inr z=>cases d
 |dic a c=>
  cases k with
  |inl i=>cases d|inr z=>
   let g:(if ts z∈a then Y (yH (ts z) a c) else none)=Y u:=d
   by_cases h:ts z∈a
   ·let o:∀(p:B0)(r:T),yY (a,p) (ts z) r=(a,yR (ts z) r a p):=λ_ _=>mP h
    rw[mP h] at g;cases g;show Eqc (.dic (yY ((yY (a,c) (ts z) r).1,(yY (a,c) (ts z) r).2) (ts z) f).1 (yY ((yY (a,c) (ts z) r).1,(yY (a,c) (ts z) r).2) (ts z) f).2) _;rw[o c r];show Eqc (.dic (yY (a,yR (ts z) r a c) (ts z) f).1 (yY (a,yR (ts z) r a c) (ts z) f).2) _;rw[o];let j:=l.2.2.1;let m:a...*=(yR (ts z) r a c)...*:=by rw[gZ];exact j
    refine(qI l.1).mpr {O,λq n=>{n, ?_}};show wC (zO (yH q a (yR (ts z) f a (yR (ts z) r a c)))) _=0;rw[gB m h,gB j h]
    by_cases w:q=ts z
    ·subst w;rw[mP O];exact e
    ·rw[mI w,mI w];exact Eqc.refl (qD j n l.2.2.2)
   ·rw[mI h] at g;cases g
 |non=>cases d|bl b=>cases d|int b=>cases d|str b=>cases d|tup b=>cases d
theorem zLj{n:List Nat}{t:T}:∀{ks:C6}{us:B0},ks...*=us...*->n∉ks->xV n (ks++ [n])=ks/\xE n (ks++ [n]) (us++ [t])=us
 |[],[],_,_=>by
  constructor
  ·show(if n=n then[] else[n])= []
   rw[mP O]
  ·show(if n=n then xE n [] [] else[t])= []
   rw[mP O];rfl
 |k::ks,u::us,c,h=>by
  let d:k≠n:=λe=>h (e▸mD);obtain⟨a,b⟩:=zLj (t:=t) (ks:=ks) (us:=us) (Nat.succ.inj c) λz=>h (mG _ z);constructor
  ·show(if k=n then _ else k::xV n (ks++ [n]))=_
   rw[mI d,a]
  ·show(if k=n then _ else u::xE n (ks++ [n]) (us++ [t]))=_
   rw[mI d,b]
 |[],_::_,c,_=>nomatch c|_::_,[],c,_=>nomatch c
theorem zIv{n:List Nat}:∀{ks:C6},n∉ks->xV n ks=ks
 |[],_=>rfl|k::ks,h=>by
  show(if k=n then _ else k::xV n ks)=_;rw[mI (λe:k=n=>h (e▸mD)),zIv λz=>h (mG _ z)]
theorem zBo{n:List Nat}:∀{ks:C6},ks.Nodup->n∈ks->(xV n ks)...*+1=ks...*
 |k::ks,c,h=>by
  obtain⟨a,b⟩:=nX.mp c;show(if k=n then xV n ks else k::xV n ks)...*+1=_
  by_cases e:k=n
  ·rw[mP e,zIv (e▸a)];rfl
  ·rw[mI e,mW,zBo b ((mF.mp h).resolve_left (Ne.symm e))];rfl
theorem kM{s u:T}{k:Key}(f:T.few s)(a:zV s k=Y u):T.few u:=by
 cases s with
 |lst g=>
  cases k with|inl i=>exact kH (i:=i.toNat) f.2 a|inr z=>cases a
 |dic e g=>
  cases k with
  |inl i=>cases a|inr z=>
   let c:(if ts z∈e then Y (yH (ts z) e g) else none)=Y u:=a
   by_cases d:ts z∈e
   ·rw[mP d] at c;cases c;exact qD f.2.2.1 d f.2.2.2
   ·rw[mI d] at c;cases c
 |non=>cases a|bl b=>cases a|int b=>cases a|str b=>cases a|tup b=>cases a
theorem zAp{w:Wd}{n s:T}{k:Key}(h:xZ w s k=true):doT w n [k] s=Y (yP w s k n):=mP h
theorem zGo{α:Type}{us a:List α}{i:Nat}(h:i<=us...*):(us.take i++a).take i=us.take i:=cK (by rw[nZ];lia)
theorem zLw{α:Type}{us a:List α}{i:Nat}(h:i<=us...*):(us.take i++a).drop i=a:=List.drop_left' (by rw[nZ];lia)
theorem zIb{α:Type}{us a:List α}{x:α}{i:Nat}(h:i<=us...*):(us.take i++x::a).drop (i+1)=a:=by
 rw[<-List.drop_drop,zLw h];rfl
theorem zPt{α:Type}{us a:List α}{x:α}{i:Nat}(h:i<=us...*):(us.take i++x::a)[i]? =Y x:=by
 rw[nS (by rw[nZ];lia),nZ,show i - min i us...*=0 by lia];rfl
theorem zCr{s g:T}{w:Wd}{n:T}{k:Key}(h:zV s k=Y g):bkD s (w,[k],n)=match w with
  |.ins=>(.tak,[k], .non)|.put=>(.put,[k],g)|.tak=>match k with
   |.inl _=>(.ins,[k],g)|.inr _=>(.put,[k],g):=by
 unfold bkD;show(match (zV s k).bind (atT []) with | none=>_ | some g=>_)=_
 rw[h];cases w<;>cases k<;>rfl
theorem zKb{s:T}{w:Wd}{n:T}{k:Key}(h:zV s k=none):bkD s (w,[k],n)=(.tak,[k], .non):=by
 unfold bkD;show(match (zV s k).bind (atT []) with | none=>_ | some g=>_)=_
 rw[h];rfl
theorem zZq{us:B0}{w:Wd}{n r:T}{i:Int}(c:T.few (.lst us))(l:0<=i)(d:xZ w (.lst us) (.inl i)=true)(h:r=yP w (.lst us) (.inl i) n):∃s',doT (bkD (.lst us) (w,[.inl i],n)).1 (bkD (.lst us) (w,[.inl i],n)).2.2 [.inl i] r=Y s'/\Eqc s' (.lst us):=by
 subst h
 cases w with
 |ins=>
  let k:i<=(us...*:Int):=sS d;let e:bkD (.lst us) (.ins,[.inl i],n)=(.tak,[.inl i], .non):=by
   cases a:zV (.lst us) (.inl i) with|none=>exact zKb a|some g=>exact zCr a
  rw[e];refine nEA _ (zAp (by show((us.take i.toNat++n::us.drop i.toNat)[i.toNat]?).isSome=true;rw[zPt ∅];rfl)) (zNw ?_ c);show(us.take i.toNat++n::us.drop i.toNat).take i.toNat++(us.take i.toNat++n::us.drop i.toNat).drop (i.toNat+1)=us;rw[zGo ∅,zIb ∅,aS]
 |put=>
  let k:i<=(us...*:Int):=sS d
  cases a:zV (.lst us) (.inl i) with
  |some g=>
   rw[zCr a];let b:=(mJ.mp (show us[i.toNat]? =Y g from a)).1;refine nEA _ (zAp ?_) (zJy c a (Eqc.refl (kM c a)));show decide (i<=((us.take i.toNat++n::us.drop (i.toNat+1))...*:Int))=true;refine nF ?_;rw[mM,nZ,mW]
   lia
  |none=>
   rw[zKb a];let b:=List.getElem?_eq_none_iff.mp (show us[i.toNat]? =none from a);refine nEA _ (zAp (by show((us.take i.toNat++n::us.drop (i.toNat+1))[i.toNat]?).isSome=true;rw[zPt ∅];rfl)) (zNw ?_ c);show(us.take i.toNat++n::us.drop (i.toNat+1)).take i.toNat++(us.take i.toNat++n::us.drop (i.toNat+1)).drop (i.toNat+1)=us;rw[zGo ∅,zIb ∅,rM b,aI ∅,pJ]
 |tak=>
  cases a:zV (.lst us) (.inl i) with
  |none=>rw[show xZ .tak (.lst us) (.inl i)=(zV (.lst us) (.inl i)).isSome from O,a] at d;cases d|some g=>
   rw[zCr a];let f:us[i.toNat]? =Y g:=a;let b:=(mJ.mp f).1;refine nEA _ (zAp ?_) (zNw ?_ c)
   ·show decide (i<=((us.take i.toNat++us.drop (i.toNat+1))...*:Int))=true
    refine nF ?_;rw[mM,nZ,rD]
    lia
   ·show(us.take i.toNat++us.drop (i.toNat+1)).take i.toNat++g::(us.take i.toNat++us.drop (i.toNat+1)).drop i.toNat=us
    rw[zGo ∅,zLw ∅,<-zFn b];refine List.ext_getElem? λj=>?_
    by_cases z:i.toNat=j
    ·subst z;rw[sH b,f]
    ·rw[rZ z]
theorem zXd{ks:C6}{us:B0}{w:Wd}{n r:T}{z:Str}(d:T.few (.dic ks us))(k:xZ w (.dic ks us) (.inr z)=true)(s:r=yP w (.dic ks us) (.inr z) n):∃s',doT (bkD (.dic ks us) (w,[.inr z],n)).1 (bkD (.dic ks us) (w,[.inr z],n)).2.2 [.inr z] r=Y s'/\Eqc s' (.dic ks us):=by
 subst s;let i:=d.2.2.1
 cases w with
 |ins=>cases k|put=>
  by_cases c:ts z∈ks
  ·let g:zV (.dic ks us) (.inr z)=Y (yH (ts z) ks us):=mP c
   rw[zCr g];exact nEA _ (zAp O) (zJy d g (Eqc.refl (kM d g)))
  ·let g:zV (.dic ks us) (.inr z)=none:=mI c
   rw[zKb g];let e:yY (ks,us) (ts z) n=(ks++ [ts z],us++ [n]):=mI c;obtain⟨a,b⟩:=zLj (t:=n) i c;refine nEA _ (zAp ?_) ?_
   ·show(if ts z∈(yY (ks,us) (ts z) n).1 then Y (yH (ts z) (yY (ks,us) (ts z) n).1 (yY (ks,us) (ts z) n).2) else none).isSome=true
    rw[e,mP (by simp)];rfl
   ·show Eqc (.dic (xV (ts z) (yY (ks,us) (ts z) n).1) (xE (ts z) (yY (ks,us) (ts z) n).1 (yY (ks,us) (ts z) n).2)) _
    rw[e];show Eqc (.dic (xV (ts z) (ks++ [ts z])) (xE (ts z) (ks++ [ts z]) (us++ [n]))) _;rw[a,b];exact Eqc.refl d
 |tak=>
  by_cases c:ts z∈ks
  ·let g:zV (.dic ks us) (.inr z)=Y (yH (ts z) ks us):=mP c
   rw[zCr g];refine nEA _ (zAp O) ?_;let f:ts z∉xV (ts z) ks:=λh=>(dropN_mem.mp h).2 O;show Eqc (.dic (yY (xV (ts z) ks,xE (ts z) ks us) (ts z) (yH (ts z) ks us)).1 (yY (xV (ts z) ks,xE (ts z) ks us) (ts z) (yH (ts z) ks us)).2) _;rw[show yY (xV (ts z) ks,xE (ts z) ks us) (ts z) (yH (ts z) ks us)=(xV (ts z) ks++ [ts z],xE (ts z) ks us++ [yH (ts z) ks us]) from mI f];let j:=(zGk (n:=ts z) i).1;refine(qI ?_).mpr {?_,λq o=>?_}
   ·refine bQ.mpr {jV d.1,nX.mpr ⟨rO,aO⟩,λa p b u e=>?_}
    rw[mH.mp u] at e;exact f (e▸p)
   ·rw[mM];exact zBo d.1 c
   ·rcases nB.mp o with h1 | h1
    ·obtain⟨l,m⟩:=dropN_mem.mp h1
     refine{l, ?_};rw[zAi j h1,zBk m i];exact Eqc.refl (qD i l d.2.2.2)
    ·rw[mH.mp h1]
     refine{c, ?_};rw[uO j f];exact Eqc.refl (qD i c d.2.2.2)
  ·rw[show xZ .tak (.dic ks us) (.inr z)=(zV (.dic ks us) (.inr z)).isSome from O,show zV (.dic ks us) (.inr z)=none from mI c] at k;cases k
theorem zUv{w:Wd}{n s r:T}{k:Key}(d:T.few s)(f:okK k)(h:doT w n [k] s=Y r):∃s',doT (bkD s (w,[k],n)).1 (bkD s (w,[k],n)).2.2 [k] r=Y s'/\Eqc s' s:=by
 let c:(if xZ w s k=true then Y (yP w s k n) else none)=Y r:=h
 by_cases a:xZ w s k=true
 ·rw[mP a] at c
  let e:=(mU c).symm
  cases s with
  |lst g=>
   cases k with|inl i=>exact zZq d f.1 a e|inr z=>cases w<;>cases a
  |dic j g=>
   cases k with|inl i=>cases w<;>cases a|inr z=>exact zXd d a e
  |non=>cases w<;>cases a|bl b=>cases w<;>cases a|int b=>cases w<;>cases a|str b=>cases w<;>cases a|tup b=>exact d.elim
 ·rw[mI a] at c;cases c
theorem yBb{s u:T}{w:Wd}{n:T}{k k':Key}{ks:B8}(h:zV s k=Y u):(bkD s (w,k::k'::ks,n)).1=(bkD u (w,k'::ks,n)).1/\(bkD s (w,k::k'::ks,n)).2.2=(bkD u (w,k'::ks,n)).2.2:=by
 let a:atT (k::k'::ks) s=atT (k'::ks) u:=by show(zV s k).bind (atT (k'::ks))=_;rw[h];rfl
 let b:(k::k'::ks).getLast? =(k'::ks).getLast?:=rfl;unfold bkD;simp only[a,b]
 cases atT (k'::ks) u with
 |none=>exact⟨O,O⟩|some g=>
  cases w with
  |ins=>exact⟨O,O⟩|put=>exact⟨O,O⟩|tak=>
   cases (k'::ks).getLast? with|none=>exact⟨O,O⟩|some q=>cases q<;>exact⟨O,O⟩
theorem zQj{w:Wd}{n:T}:∀(ks:B8)(s r:T),T.few s->(∀k∈ks,okK k)->doT w n ks s=Y r->∃s',doT (bkD s (w,ks,n)).1 (bkD s (w,ks,n)).2.2 ks r=Y s'/\Eqc s' s
 |[],s,r,b,_,h=>by
  cases w with|put=>exact{s,O,Eqc.refl b}|ins=>cases h|tak=>cases h
 |[k],s,r,b,e,h=>zUv b (e k mD) h|k::a::ks,s,r,b,e,h=>by
  cases c:zV s k with
  |none=>
   rw[show doT w n (k::a::ks) s=match zV s k with
    |some u=>(doT w n (a::ks) u).map λr=>yP .put s k r|none=>none from O,c] at h
   cases h
  |some u=>
   let d:(doT w n (a::ks) u).map (λr=>yP .put s k r)=Y r:=by
    rw[<-h];show _=(match zV s k with
    | some u=>(doT w n (a::ks) u).map λr=>yP .put s k r|none=>none)
    rw[c]
   cases f:doT w n (a::ks) u with
   |none=>rw[f] at d;cases d|some i=>
    rw[f] at d;let g:=mU d;obtain⟨m,o,t⟩:=zQj (a::ks) u i (kM b c) (λq j=>e q (mG _ j)) f;obtain⟨p,l⟩:=yBb (w:=w) (n:=n) (k':=a) (ks:=ks) c;rw[p,l];refine nEA (yP .put r k m) ?_ ?_
    ·show(match zV r k with
     | some u=>(doT _ _ (a::ks) u).map λx=>yP .put r k x|none=>none)=_
     rw[<-g,zZa b c];show(doT _ _ (a::ks) i).map _=_;rw[o];rfl
    ·rw[<-g]
     exact zJy b c t
theorem yW{t u:T}(h:Eqc t u):(zO t).ord=(zO u).ord:=by
 refine Decidable.byContradiction λa=>?_;let z:wC (zO t) (zO u)≠0:=by
  rw[zCo _ _ a,sgI];split<;>split<;>lia
 exact z h
theorem gK{us:B0}{t:T}(h:Eqc (.lst us) t)(c:T.few t):∃a,t= .lst a:=by
 cases t with|lst a=>exact⟨a,O⟩|tup a=>exact c.elim|non=>exact absurd (yW h) (by simp[zO,C.ord])|bl b=>exact absurd (yW h) (by simp[zO,C.ord])|int b=>exact absurd (yW h) (by simp[zO,C.ord])|str b=>exact absurd (yW h) (by simp[zO,C.ord])|dic d a=>exact absurd (yW h) (by simp[zO,C.ord])
theorem zAa{ks:C6}{us:B0}{t:T}(h:Eqc (.dic ks us) t)(d:T.few t):∃a c,t= .dic a c:=by
 cases t with|dic a c=>exact⟨a,c,O⟩|tup c=>exact d.elim|non=>exact absurd (yW h) (by simp[zO,C.ord])|bl b=>exact absurd (yW h) (by simp[zO,C.ord])|int b=>exact absurd (yW h) (by simp[zO,C.ord])|str b=>exact absurd (yW h) (by simp[zO,C.ord])|lst c=>exact absurd (yW h) (by simp[zO,C.ord])
def Eqs(us b:B0):Prop:=us...*=b...*/\∀(i:Nat) t a,us[i]? =Y t->b[i]? =Y a->Eqc t a
theorem eqs_iff{us a:B0}:Eqc (.lst us) (.lst a)↔Eqs us a:=zJl us a
theorem Eqs.app{us f b a:B0}(h:Eqs us f)(h':Eqs b a):Eqs (us++b) (f++a):=by
 refine{by rw[mM,mM,h.1,h'.1],λi t e c d=>?_}
 by_cases z:i<us...*
 ·rw[pB z] at c
  rw[pB (h.1▸z)] at d;exact h.2 i t e c d
 ·rw[nS ∅] at c
  rw[nS (by let:=h.1;lia),<-h.1] at d;exact h'.2 _ t e c d
theorem Eqs.take{us c:B0}(n:Nat)(h:Eqs us c):Eqs (us.take n) (c.take n):=by
 refine{by rw[nZ,nZ,h.1],λi t d a b=>?_};rw[List.getElem?_take] at a b
 by_cases z:i<n
 ·rw[mP z] at a b;exact h.2 i t d a b
 ·rw[mI z] at a;cases a
theorem Eqs.drop{us b:B0}(n:Nat)(h:Eqs us b):Eqs (us.drop n) (b.drop n):=by
 refine{by rw[rD,rD,h.1],λi t d c a=>?_};rw[List.getElem?_drop] at c a;exact h.2 _ t d c a
theorem Eqs.cons{us b:B0}{t t':T}(e:Eqc t t')(h:Eqs us b):Eqs (t::us) (t'::b):=by
 refine{by rw[mW,mW,h.1],λi x d c a=>?_}
 cases i with|zero=>cases c;cases a;exact e|succ i=>exact h.2 i x d c a
theorem zLz{t t' u:T}{k:Key}(p:T.few t)(e:T.few t')(h:Eqc t t')(c:zV t k=Y u):∃m,zV t' k=Y m/\Eqc u m:=by
 cases t with
 |lst l=>
  obtain⟨j,rfl⟩:=gK h e
  cases k with
  |inl i=>
   let d:l[i.toNat]? =Y u:=c;let o:=(mJ.mp d).1;let z:=eqs_iff.mp h;let n:j[i.toNat]? =Y (j[i.toNat]'(z.1▸o)):=mQ _;exact nEA _ n (z.2 _ _ _ d n)
  |inr z=>cases c
 |dic g l=>
  obtain⟨q,j,rfl⟩:=zAa h e
  cases k with
  |inl i=>cases c|inr z=>
   let d:(if ts z∈g then Y (yH (ts z) g l) else none)=Y u:=c
   by_cases f:ts z∈g
   ·rw[mP f] at d
    cases d;obtain⟨a,b⟩:=((qI p.1).mp h).2 _ f;exact nEA _ (mP a) b
   ·rw[mI f] at d;cases d
 |non=>cases c|bl b=>cases c|int b=>cases c|str b=>cases c|tup b=>cases c
theorem yAj{t t':T}{w:Wd}{k:Key}(m:T.few t)(c:T.few t')(h:Eqc t t')(a:xZ w t k=true):xZ w t' k=true:=by
 cases w with
 |tak=>
  cases f:zV t k with
  |none=>rw[show xZ .tak t k=(zV t k).isSome from O,f] at a;cases a|some u=>
   obtain⟨o,l,_⟩:=zLz m c h f;show(zV t' k).isSome=true;rw[l];rfl
 |put=>
  cases t with
  |lst e=>
   obtain⟨g,rfl⟩:=gK h c
   cases k with
   |inl i=>
    let d:i<=(e...*:Int):=sS a;rw[(eqs_iff.mp h).1] at d;exact nF d
   |inr z=>cases a
  |dic j e=>
   obtain⟨n,g,rfl⟩:=zAa h c
   cases k with|inl i=>cases a|inr z=>rfl
  |non=>cases k<;>cases a|bl b=>cases k<;>cases a|int b=>cases k<;>cases a|str b=>cases k<;>cases a|tup b=>cases k<;>cases a
 |ins=>
  cases t with
  |lst e=>
   obtain⟨g,rfl⟩:=gK h c
   cases k with
   |inl i=>
    let d:i<=(e...*:Int):=sS a;rw[(eqs_iff.mp h).1] at d;exact nF d
   |inr z=>cases a
  |dic j e=>cases k<;>cases a|non=>cases k<;>cases a|bl b=>cases k<;>cases a|int b=>cases k<;>cases a|str b=>cases k<;>cases a|tup b=>cases k<;>cases a
theorem gD{ks:C6}{us:B0}{n:List Nat}{t:T}(h:ks.Nodup):(yY (ks,us) n t).1.Nodup:=by
 by_cases c:n∈ks
 ·rw[show yY (ks,us) n t=(ks,yR n t ks us) from mP c];exact h
 ·rw[show yY (ks,us) n t=(ks++ [n],us++ [t]) from mI c]
  refine bQ.mpr {h,nX.mpr ⟨rO,aO⟩,λa d b f e=>?_};rw[mH.mp f] at e;exact c (e▸d)
theorem uI{ks:C6}{us:B0}{n:List Nat}{t:T}:(yY (ks,us) n t).1...*=if n∈ks then ks...* else ks...*+1:=by
 by_cases a:n∈ks
 ·rw[show yY (ks,us) n t=(ks,yR n t ks us) from mP a,mP a]
 ·rw[show yY (ks,us) n t=(ks++ [n],us++ [t]) from mI a,mI a,mM];rfl
theorem zWz{t u:T}{k:Key}(a:zV t k=Y u):xZ .put t k=true:=by
 cases t with
 |lst c=>
  cases k with
  |inl i=>
   let d:=(mJ.mp (show c[i.toNat]? =Y u from a)).1;exact nF ∅
  |inr z=>cases a
 |dic e c=>
  cases k with|inl i=>cases a|inr z=>rfl
 |non=>cases a|bl b=>cases a|int b=>cases a|str b=>cases a|tup b=>cases a
theorem zLt{t t' n r:T}{w:Wd}{k:Key}(p:T.few t)(j:T.few t')(h:Eqc t t')(g:xZ w t k=true)(e:Eqc n r):Eqc (yP w t k n) (yP w t' k r):=by
 cases t with
 |lst o=>
  obtain⟨v,rfl⟩:=gK h j;let z:=eqs_iff.mp h
  cases k with
  |inl i=>
   cases w with|put=>exact eqs_iff.mpr ((z.take i.toNat).app (Eqs.cons e (z.drop (i.toNat+1))))|ins=>exact eqs_iff.mpr ((z.take i.toNat).app (Eqs.cons e (z.drop i.toNat)))|tak=>exact eqs_iff.mpr ((z.take i.toNat).app (z.drop (i.toNat+1)))
  |inr z=>cases w<;>cases g
 |dic f o=>
  obtain⟨d,v,rfl⟩:=zAa h j;let P:=(qI p.1).mp h;let u:f.Perm d:=jW p.1 (λk J=>(P.2 k J).1) P.1.symm;let E:=p.2.2.1;let s:=j.2.2.1
  cases k with
  |inl i=>cases w<;>cases g|inr z=>
   cases w with
   |ins=>cases g|put=>
    show Eqc (.dic (yY (f,o) (ts z) n).1 (yY (f,o) (ts z) n).2) (.dic (yY (d,v) (ts z) r).1 (yY (d,v) (ts z) r).2);refine(qI (gD p.1)).mpr {?_,λq B=>?_}
    ·rw[uI,uI,P.1]
     by_cases l:ts z∈f
     ·rw[mP l,mP (u.mem_iff.mp l)]
     ·rw[mI l,mI λx=>l (u.mem_iff.mpr x)]
    ·let m:=putT_in.mp B
     let D:q∈d\/q=ts z:=m.imp u.mem_iff.mp id;obtain⟨a,b⟩:=zJa (t:=r) s D;refine{a, ?_};rw[b,(zJa (t:=n) E m).2]
     by_cases y:q=ts z
     ·rw[mP y,mP y];exact e
     ·rw[mI y,mI y];exact(P.2 q (m.resolve_right y)).2
   |tak=>
    by_cases l:ts z∈f
    ·show Eqc (.dic (xV (ts z) f) (xE (ts z) f o)) (.dic (xV (ts z) d) (xE (ts z) d v))
     refine(qI (jV p.1)).mpr {?_,λq B=>?_}
     ·let a:=zBo p.1 l
      let b:=zBo j.1 (u.mem_iff.mp l);let c:=P.1
      lia
     ·obtain⟨L,A⟩:=dropN_mem.mp B
      obtain⟨I,H⟩:=P.2 q L;refine{dropN_mem.mpr ⟨I,A⟩, ?_};rw[zBk A E,zBk A s];exact H
    ·rw[show xZ .tak (.dic f o) (.inr z)=(zV (.dic f o) (.inr z)).isSome from O,show zV (.dic f o) (.inr z)=none from mI l] at g;cases g
 |non=>cases w<;>cases g|bl b=>cases w<;>cases g|int b=>cases w<;>cases g|str b=>cases w<;>cases g|tup b=>exact p.elim
theorem zWq{w:Wd}{n l:T}(e:Eqc n l):∀(ks:B8)(t t' r:T),T.few t->T.few t'->Eqc t t'->doT w n ks t=Y r->∃o,doT w l ks t'=Y o/\Eqc r o
 |[],t,t',r,_,_,_,h=>by
  cases w with|put=>cases h;exact⟨l,O,e⟩|ins=>cases h|tak=>cases h
 |[k],t,t',r,d,a,q,h=>by
  let b:(if xZ w t k=true then Y (yP w t k n) else none)=Y r:=h
  by_cases i:xZ w t k=true
  ·rw[mP i] at b
   cases b;exact nEA _ (zAp (yAj d a q i)) (zLt d a q i e)
  ·rw[mI i] at b;cases b
 |k::c::ks,t,t',r,d,a,q,h=>by
  cases g:zV t k with
  |none=>
   rw[show doT w n (k::c::ks) t=match zV t k with
    |some u=>(doT w n (c::ks) u).map λr=>yP .put t k r|none=>none from O,g] at h
   cases h
  |some u=>
   let b:(doT w n (c::ks) u).map (λr=>yP .put t k r)=Y r:=by
    rw[<-h];show _=(match zV t k with
    | some u=>(doT w n (c::ks) u).map λr=>yP .put t k r|none=>none)
    rw[g]
   cases m:doT w n (c::ks) u with
   |none=>rw[m] at b;cases b|some A=>
    rw[m] at b;let s:=mU b;obtain⟨p,f,v⟩:=zLz d a q g;obtain⟨j,y,z⟩:=zWq e (c::ks) u p A (kM d g) (kM a f) v m;refine nEA (yP .put t' k j) ?_ (s▸zLt d a q (zWz g) z);show(match zV t' k with
     | some u=>(doT _ _ (c::ks) u).map λx=>yP .put t' k x|none=>none)=_
    rw[f];show(doT _ _ (c::ks) p).map _=_;rw[y];rfl
theorem zGb{i:Int}{u:T}(a:T.few u)(h:Eqc (.int i) u):u= .int i:=by
 cases u with
 |int j=>
  let z:wC (.int i) (.int j)=0:=h;rw[wC] at z;let e:j=i:=by
   unfold sgI at z;split at z<;>split at z<;>lia
  rw[e]
 |tup c=>exact a.elim|non=>exact absurd (yW h) (by simp[zO,C.ord])|bl b=>exact absurd (yW h) (by simp[zO,C.ord])|lst b=>exact absurd (yW h) (by simp[zO,C.ord])|str b=>exact absurd (yW h) (by simp[zO,C.ord])|dic d c=>exact absurd (yW h) (by simp[zO,C.ord])
theorem zGp{x:List Nat}{u:T}(a:T.few u)(h:Eqc (.str x) u):u= .str x:=by
 cases u with
 |str y=>
  let z:wC (.str x) (.str y)=0:=h;rw[zJo] at z;rw[(zBl _ _).mp z]
 |tup c=>exact a.elim|non=>exact absurd (yW h) (by simp[zO,C.ord])|bl b=>exact absurd (yW h) (by simp[zO,C.ord])|lst b=>exact absurd (yW h) (by simp[zO,C.ord])|int b=>exact absurd (yW h) (by simp[zO,C.ord])|dic d c=>exact absurd (yW h) (by simp[zO,C.ord])
theorem zGr{u:T}(a:T.few u)(h:Eqc .non u):u= .non:=by
 cases u with|non=>rfl|tup c=>exact a.elim|str y=>exact absurd (yW h) (by simp[zO,C.ord])|bl b=>exact absurd (yW h) (by simp[zO,C.ord])|lst b=>exact absurd (yW h) (by simp[zO,C.ord])|int b=>exact absurd (yW h) (by simp[zO,C.ord])|dic d c=>exact absurd (yW h) (by simp[zO,C.ord])
theorem zKn{b:Bool}{u:T}(a:T.few u)(h:Eqc (.bl b) u):u= .bl b:=by
 cases u with
 |bl c=>
  let z:wC (.bl b) (.bl c)=0:=h
  revert z
  cases b<;>cases c<;>first |(intro _;rfl)|(intro z;exact absurd z (by decide+kernel))
 |tup d=>exact a.elim|str y=>exact absurd (yW h) (by simp[zO,C.ord])|non=>exact absurd (yW h) (by simp[zO,C.ord])|lst b=>exact absurd (yW h) (by simp[zO,C.ord])|int b=>exact absurd (yW h) (by simp[zO,C.ord])|dic e d=>exact absurd (yW h) (by simp[zO,C.ord])
theorem zHj:∀(n:Nat)(t u:T),T.few t->T.few u->T.dep t<n->Eqc t u->Eqc u t
 |0,_,_,_,_,f,_=>absurd f (pV _)|n+1,t,u,d,c,f,h=>by
  cases t with
  |non=>rw[zGr c h];exact Eqc.refl d|bl b=>rw[zKn c h];exact Eqc.refl d|int i=>rw[zGb c h];exact Eqc.refl d|str x=>rw[zGp c h];exact Eqc.refl d|tup g=>exact d.elim|lst g=>
   obtain⟨w,rfl⟩:=gK h c;let z:=eqs_iff.mp h;let j:T.deps g+1<n+1:=f;refine eqs_iff.mpr {z.1.symm,λi a b p m=>?_};let:=b7 (mO m);exact zHj n b a (kH d.2 m) (kH c.2 p) ∅ (z.2 i b a m p)
  |dic s g=>
   obtain⟨l,w,rfl⟩:=zAa h c;let j:T.deps g+1<n+1:=f;let P:=(qI d.1).mp h;let r:s.Perm l:=jW d.1 (λk v=>(P.2 k v).1) P.1.symm;refine(qI c.1).mpr {P.1.symm,λq o=>?_};let e:=r.mem_iff.mpr o;let:=b7 (xK e d.2.2.1);exact{e,zHj n _ _ (qD d.2.2.1 e d.2.2.2) (qD c.2.2.1 o c.2.2.2) ∅ (P.2 q e).2}
theorem zDv:∀(n:Nat)(t u v:T),T.few t->T.few u->T.few v->T.dep t<n->Eqc t u->Eqc u v->Eqc t v
 |0,_,_,_,_,_,_,l,_,_=>absurd l (pV _)|n+1,t,u,v,j,e,g,l,h,f=>by
  cases t with
  |non=>rw[zGr e h] at f;exact f|bl b=>rw[zKn e h] at f;exact f|int i=>rw[zGb e h] at f;exact f|str x=>rw[zGp e h] at f;exact f|tup m=>exact j.elim|lst m=>
   obtain⟨o,rfl⟩:=gK h e;obtain⟨D,rfl⟩:=gK f g;let z:=eqs_iff.mp h;let w:=eqs_iff.mp f;let r:T.deps m+1<n+1:=l;refine eqs_iff.mpr {z.1.trans w.1,λi a c k A=>?_};let:=b7 (mO k);let H:=(mJ.mp k).1;let p:o[i]? =Y (o[i]'(z.1▸H)):=mQ _;exact zDv n a _ c (kH j.2 k) (kH e.2 p) (kH g.2 A) ∅ (z.2 i _ _ k p) (w.2 i _ _ p A)
  |dic I m=>
   obtain⟨E,o,rfl⟩:=zAa h e;obtain⟨B,D,rfl⟩:=zAa f g;let r:T.deps m+1<n+1:=l;let P:=(qI j.1).mp h;let y:=(qI e.1).mp f;refine(qI j.1).mpr {P.1.trans y.1,λq s=>?_};obtain⟨a,b⟩:=P.2 q s;obtain⟨c,d⟩:=y.2 q a;let:=b7 (xK s j.2.2.1);exact{c,zDv n _ _ _ (qD j.2.2.1 s j.2.2.2) (qD e.2.2.1 a e.2.2.2) (qD g.2.2.1 c g.2.2.2) ∅ b d}
theorem Eqc.symm{t u:T}(b:T.few t)(a:T.few u)(h:Eqc t u):Eqc u t:=zHj (T.dep t+1) t u b a (tE _) h
theorem Eqc.trans{t u v:T}(c:T.few t)(b:T.few u)(a:T.few v)(h:Eqc t u)(d:Eqc u v):Eqc t v:=zDv (T.dep t+1) t u v c b a (tE _) h d
noncomputable def qP:List Dd->T->List Dd
 |[],_=>[]|d::a,t=>match doT d.1 d.2.2 d.2.1 t with
  |some r=>qP a r++ [bkD t d]|none=>[]
theorem zCf{d:Dd}{ds:C4}{t r:T}(h:doT d.1 d.2.2 d.2.1 t=Y r):qP (d::ds) t=qP ds r++ [bkD t d]:=by
 show(match doT d.1 d.2.2 d.2.1 t with
  | some r=>qP ds r++ [bkD t d]|none=>[])=_
 rw[h]
theorem yBr{s:T}{d:Dd}:(bkD s d).2.1=d.2.1:=by
 obtain⟨w,a,n⟩:=d;unfold bkD;simp only
 cases atT a s with
 |none=>rfl|some g=>
  cases w with
  |ins=>rfl|put=>rfl|tak=>
   cases a.getLast? with|none=>rfl|some q=>cases q<;>rfl
theorem RJ.pre{m:Nat}{a b:C4}{s:T}(h:RJ m (a++b) s):RJ m a s:=by
 let e:=h.m1;let c:=h.z;rw[mM] at e c;exact{h.f,h.m0,∅,h.g,h.d,∅,λd f=>h.o d (nQ _ f)}
theorem RJ.run:∀{a b:C4}{m:Nat}{s r:T},RJ m (a++b) s->kJ a s=Y r->RJ (m+a...*) b r
 |[],b,m,s,r,h,e=>by cases e;exact h|d::a,b,m,s,r,h,e=>by
  cases c:doT d.1 d.2.2 d.2.1 s with
  |none=>
   rw[show kJ (d::a) s=(doT d.1 d.2.2 d.2.1 s).bind (kJ a) from O,c] at e;cases e
  |some q=>
   rw[zEu c] at e;let z:=RJ.run (RJ.step (ds:=a++b) h c) e;rw[show m+(d::a)...*=m+1+a...* by rw[mW];lia];exact z
theorem zIe:∀(ds:C4)(m l:Nat)(t u a:T),RJ m ds t->kJ ds t=Y u->RJ l (qP ds t) a->Eqc u a->∃t',kJ (qP ds t) a=Y t'/\Eqc t t'
 |[],m,l,t,u,a,_,h,_,e=>by
  cases h;exact nEA a O e
 |d::ds,m,l,t,u,a,J,h,s,e=>by
  cases j:doT d.1 d.2.2 d.2.1 t with
  |none=>
   rw[show kJ (d::ds) t=(doT d.1 d.2.2 d.2.1 t).bind (kJ ds) from O,j] at h;cases h
  |some r=>
   rw[zEu j] at h;rw[zCf j] at s⊢;let b:=J.step j;obtain⟨z,x,D⟩:=zIe ds (m+1) l r u a b h s.pre e;let q:=s.run x;let o:=q.o _ mD;let A:=J.o d mD;let c:=J.few;let n:=b.few;let g:=q.few;obtain⟨w,y,B⟩:=zQj d.2.1 t r c (λk L=>(A.s k L).k) j;let Q:=b.m1;let N:=b.m0;let M:=b.z;obtain⟨E,-⟩:=zFd (m:=m+1) ∅ (b8 ∅ _ o.f) o.g _ _ _ y b.f b.g A.s ∅;let f:T.few w:=c6 ∅ _ E;obtain⟨p,I,H⟩:=zWq (Eqc.refl (c6 ∅ _ o.f)) d.2.1 r z w n g D y;let i:doT (bkD t d).1 (bkD t d).2.2 (bkD t d).2.1 z=Y p:=by rw[yBr];exact I
   let v:T.few p:=(q.step i).few;exact nEA p (by rw[zVh x];exact i) (Eqc.trans c f v (Eqc.symm f c B) H)
theorem zDc{k q:List Nat}{ks:C6}{u:T}{us:B0}(h:k≠q):yH q (k::ks) (u::us)=yH q ks us:=mI h
theorem zCk{k:List Nat}{ks:C6}{u:T}{us:B0}:yH k (k::ks) (u::us)=u:=mP O
theorem zMb{w:T}:∀{ks:C6}{d:B0},ks.Nodup->ks...*=d...*->w∈d->∃q∈ks,yH q ks d=w
 |[],[],_,_,h=>nomatch h|k::ks,u::i,g,c,h=>by
  obtain⟨a,b⟩:=nX.mp g;rcases mF.mp h with z | z
  ·exact nEA k mD (by rw[zCk,z])
  ·obtain⟨q,f,e⟩:=zMb b (Nat.succ.inj c) z
   exact nEA q (mG _ f) (by rw[zDc (λz:k=q=>a (z▸f))];exact e)
 |[],_::_,_,c,_=>nomatch c|_::_,[],_,c,_=>nomatch c
theorem zEi:∀{ks:C6}{us:B0},ks.Nodup->ks...*=us...*->vY us=(ks.map λk=>lsz (yH k ks us)).sum
 |[],[],_,_=>rfl|k::ks,u::us,d,c=>by
  obtain⟨a,b⟩:=nX.mp d;show lsz u+vY us=lsz (yH k (k::ks) (u::us))+(ks.map λq=>lsz (yH q (k::ks) (u::us))).sum;rw[zCk,zEi b (Nat.succ.inj c)]
  congr 2
  refine sG λq e=>?_;rw[zDc (λz:k=q=>a (z▸e))]
 |[],_::_,_,c=>nomatch c|_::_,[],_,c=>nomatch c
theorem zKd{u:T}:∀{us:B0},u∈us->vU u<=wD us
 |t::us,h=>by
  show vU u<=max (vU t) (wD us);rcases mF.mp h with z | z
  ·rw[z];lia
  ·let:=zKd z;lia
theorem zGh{d:Nat}:∀{us:B0},(∀u∈us,vU u<=d)->wD us<=d
 |[],_=>nR _|t::us,h=>by
  let a:=h t mD;let b:=zGh λu c=>h u (mG _ c);show max (vU t) (wD us)<=d
  lia
theorem lnars_iff:∀{us:B0},xM us=true↔∀u∈us,lnar u=true
 |[]=>{λ_ _ h=>(nomatch h),λ_=>O}|t::us=>by
  show(lnar t && xM us)=true↔_;rw[pA,lnars_iff (us:=us),cL]
theorem zNd:∀{us b:B0},us...*=b...*->(∀(i:Nat) t t',us[i]? =Y t->b[i]? =Y t'->lsz t=lsz t')->vY us=vY b
 |[],[],_,_=>rfl|u::us,w::b,a,h=>by
  show lsz u+vY us=lsz w+vY b;rw[h 0 u w O O,zNd (Nat.succ.inj a) λi t t' c d=>h (i+1) t t' c d]
 |[],_::_,a,_=>nomatch a|_::_,[],a,_=>nomatch a
theorem zWt:∀(n:Nat)(t u:T),T.few t->T.few u->T.dep t<n->Eqc t u->lsz t=lsz u/\vU u<=vU t/\(lnar t=true->lnar u=true)
 |0,_,_,_,_,D,_=>absurd D (pV _)|n+1,t,u,p,c,D,h=>by
  cases t with
  |non=>rw[zGr c h];exact{O,mE _,id}|bl b=>rw[zKn c h];exact{O,mE _,id}|int i=>rw[zGb c h];exact{O,mE _,id}|str x=>rw[zGp c h];exact{O,mE _,id}|tup d=>exact p.elim|lst d=>
   obtain⟨g,rfl⟩:=gK h c;let z:=eqs_iff.mp h;let H:T.deps d+1<n+1:=D;let j:∀(i:Nat) a b,d[i]? =Y a->g[i]? =Y b->lsz a=lsz b/\vU b<=vU a/\(lnar a=true->lnar b=true):=λi a b y B=>by
    let:=b7 (mO y);exact zWt n a b (kH p.2 y) (kH c.2 B) ∅ (z.2 i a b y B)
   let o:∀w∈g,∃a∈d,lsz a=lsz w/\vU w<=vU a/\(lnar a=true->lnar w=true):=λw l=>by
    obtain⟨i,J⟩:=aP.mp l;let Q:=(mJ.mp J).1;let N:d[i]? =Y (d[i]'(z.1▸Q)):=mQ _;exact nEA _ (mO N) (j i _ w N J)
   refine nAA ?_ ?_ (λE=>?_)
   ·show vY d+1=vY g+1
    rw[zNd z.1 λi a b y B=>(j i a b y B).1]
   ·show wD g+1<=wD d+1
    refine rE (zGh λw l=>?_);refine jD (o w l) λa s _ e _=>?_;exact nW e (zKd s)
   ·let f:(decide (d...*<=60)&& xM d)=true:=E
    rw[pA] at f;show(decide (g...*<=60)&& xM g)=true;rw[pA,<-z.1];refine{f.1,lnars_iff.mpr λw l=>?_};refine jD (o w l) λa s _ _ e=>?_;exact e (lnars_iff.mp f.2 a s)
  |dic v d=>
   obtain⟨m,g,rfl⟩:=zAa h c;let H:T.deps d+1<n+1:=D;let P:=(qI p.1).mp h;let I:v.Perm m:=jW p.1 (λk hk=>(P.2 k hk).1) P.1.symm;let j:∀q∈v,lsz (yH q v d)=lsz (yH q m g)/\vU (yH q m g)<=vU (yH q v d)/\(lnar (yH q v d)=true->lnar (yH q m g)=true):=λq r=>by
    let:=b7 (xK r p.2.2.1);exact zWt n _ _ (qD p.2.2.1 r p.2.2.2) (qD c.2.2.1 (I.mem_iff.mp r) c.2.2.2) ∅ (P.2 q r).2
   let o:∀w∈g,∃a∈d,vU w<=vU a/\(lnar a=true->lnar w=true):=λw l=>by
    obtain⟨q,r,e⟩:=zMb c.1 c.2.2.1 l;let A:=I.mem_iff.mpr r;obtain⟨_,M,L⟩:=j q A;rw[e] at M L;exact zAm _ (xK A p.2.2.1) M L
   refine nAA ?_ ?_ (λE=>?_)
   ·show vY d+1=vY g+1
    rw[zEi p.1 p.2.2.1,zEi c.1 c.2.2.1,sG λq r=>(j q r).1,(I.map _).sum_nat]
   ·show wD g+1<=wD d+1
    refine rE (zGh λw l=>?_);refine xC (o w l) λa s e _=>?_;exact nW e (zKd s)
   ·let f:(decide (v...*<=30)&& xM d)=true:=E
    rw[pA] at f;show(decide (m...*<=30)&& xM g)=true;rw[pA,<-P.1];refine{f.1,lnars_iff.mpr λw l=>?_};refine xC (o w l) λa s _ e=>?_;exact e (lnars_iff.mp f.2 a s)
theorem Eqc.good{t u:T}(f:T.few t)(e:T.few u)(h:Eqc t u)(d:xU t=true):xU u=true:=by
 obtain⟨a,b,c⟩:=zWt (T.dep t+1) t u f e (tE _) h;unfold xU at d⊢;rw[pA,pA,pO,pO] at d⊢;exact{{c d.1.1,cW b d.1.2},a▸d.2}
theorem zQp{t u:T}{k:Key}{ks:B8}(h:zV t k=Y u):goT t (k::ks)=t::goT u ks:=by
 show(match zV t k with | none=>[t] | some u=>t::goT u ks)=_
 rw[h]
theorem yBl{t:T}{k:Key}{ks:B8}(h:zV t k=none):goT t (k::ks)= [t]:=by
 show(match zV t k with | none=>[t] | some u=>t::goT u ks)=_
 rw[h]
theorem zVu:∀(ks:B8)(t:T),lds t ks->atT ks t=(goT t ks).getLast?
 |[],t,_=>rfl|k::ks,t,h=>by
  let a:(k::ks)...*<(goT t (k::ks))...*:=h;show(zV t k).bind (atT ks)=_
  cases b:zV t k with
  |none=>rw[yBl b] at a;exact absurd a (by simp)|some u=>
   rw[zQp b] at a⊢;let c:lds u ks:=Nat.lt_of_succ_lt_succ a;show atT ks u=_;rw[zVu ks u c,List.getLast?_cons];obtain⟨x,d,_⟩:=kY u ks;rw[d];rfl
theorem zRu:∀(ks:B8)(t:T),¬lds t ks->atT ks t=none
 |[],t,h=>absurd (show[]...*< [t]...* from Nat.zero_lt_one) h|k::ks,t,h=>by
  show(zV t k).bind (atT ks)=_
  cases b:zV t k with
  |none=>rfl|some u=>
   refine zRu ks u λa=>h ?_;show(k::ks)...*<(goT t (k::ks))...*;rw[zQp b];exact Nat.succ_lt_succ a
end K43
namespace K43
open PySem L2 PySem.W
seal L2.PSs L2.PS L2.PE L2.PT L2.PW L2.PA L2.PI L2.PG L2.PGs L2.PPs L2.PTs
abbrev sBk1:V6:=top 51
theorem zZu:∀(ks:B8)(s u:T),T.few s->T.gk s->atT ks s=Y u->T.gk u
 |[],s,u,_,c,h=>by cases h;exact c|k::ks,s,u,d,c,h=>by
  let b:(zV s k).bind (atT ks)=Y u:=h
  cases a:zV s k with|none=>rw[a] at b;cases b|some t=>rw[a] at b;exact zZu ks t u (kM d a) (zRf d c a) b
section
variable{P:V3}{w:V4}{K:PySem.W.Frag}{mg:C8}{base:V5}{f:V1}{fd:V7}{C3:V1}
def yEf(C3:V1):Sp:=λe H Q E=>∃(v x:V)(s r:T)(d:Dd),e= [v,x]/\Rep H v s/\T.few s/\T.gk s/\T.dep s<=16/\T.sz s<=5000/\Dlay H x d/\(∀k∈d.2.1,okS k)/\d.2.1...*<=8/\doT d.1 d.2.2 d.2.1 s=Y r/\
 ((∀g,atT d.2.1 s=Y g->d.1≠ .ins->xU g=true)->∀c D a,Same H a->Sp1 a c (ddT (bkD s d)) D->(∀b∈D,H b=none)->Q c a)/\
 (∀g,atT d.2.1 s=Y g->d.1≠ .ins->xU g=false->∀a,Same H a->E (.ref C3) none a)
theorem yIb(F:Fun K "deed_back" "deed_back" sBk1 f fd)(B:Bl mg)(ac:Dn P w K mg base 22 "has" ["thing","path"] yDs)(m:Dn P w K mg base 22 "thing_at" ["thing","path"] spTa)(I:Dx aC P w K mg base 22 "sound" ["thing"] (zZz C3)):FnOk P w K mg base (CXE aC P w) 23 f fd ["stand","deed"] (yEf C3):=by
 refine F.okxn (N:=["stand","deed","word","path","gone"]) λaq A ao s H vs Q E nd hr h=>?_;obtain⟨v,x,s,r,d,rfl,hv,hf,hg,hd,hz,⟨tp,pd,rr,rfl,hp,an,ap⟩,ag,ae,am,q,qx⟩:=h;refine{_,(zD (pS 2 nd (pX vP (pv 1) zE))
  (zD (pS 3 nd (yJ kF O B.list yQ (zA (pX vP (pv 1) zE) zB)))
  (zD (zT (i6 (jI (pT xN (pv 2) zL) (jP (xL (yD (pD ac hr (zA (pv 0) (zA (pv 3) zB)))))))) (zG (zI (xH (zA zL (zA (pv 3) zB))))) zK)
  (zD (pS 4 nd (zGg I hr ∅ O lvs (zA (pD m hr (zA (pv 0) (zA (pv 3) zB))) zB)))
  (zD (zT (i6 (vH (pT xN (pv 2) zL) (qH (xL (yD (pI B.isinstance zH B.str jJ (pX zP (pv 3) (wO xO zE)))))))) (zG (zI (xH (zA zL (zA (pv 3) (zA (pv 4) zB)))))) zK)
  (zG (zI (xH (zA zL (zA (pv 3) (zA (pv 4) zB))))))))))), ?_}
 walk_at "st";lk;obtain⟨M,a,n⟩:=d;refine wR (SqT.of hp) (zQ (j:=0) O) (wR (SqT.of hp) (zQ (j:=1) O) {pd,O,_, .inl (SqL.of an),λl hl=>{O, ?_}});show(if V.str M.s=V.str (A8 "insert") then _ else _);let L:Same H (upd H l (.lst (a.map kV))):=zF hl _;let ah:∀{J:Hp}{p:V1},Same (upd H l (.lst (a.map kV))) J->J p=none->l≠p:=λg h z=>by rw[<-z,g _ _ zC] at h;cases h
 let af:bkD s (M,a,n)=(.tak,a, .non)->(∀g,atT a s=Y g->M≠ .ins->xU g=true)->∀J,Same (upd H l (.lst (a.map kV))) J->∀p,J p=none->Q (.ref p) (upd J p (.tup [.str (A8 "take"), .ref l])):=λeb pr J g2 p t=>by
  refine q pr _ [p,l] _ ((L.trans g2).trans (zF t _)) ?_ λb hb=>?_
  ·rw[eb];exact zYi zC (by rw[zM (ah g2 t)];exact g2 _ _ zC)
  ·rcases mF.mp hb with z | z
   ·rw[z];exact zW (L.trans g2) t
   ·rw[mH.mp z];exact hl
 by_cases hw:M= .ins
 ·subst hw
  refine iP O λp t=>af ?_ (λ_ _ z=>absurd O z) _ (Same.refl _) p t;unfold bkD;simp only;cases atT a s<;>rfl
 ·refine iN (λz=>hw ?_) ?_
  ·cases M with|ins=>rfl|put=>exact absurd z ∎|tak=>exact absurd z ∎
  ·refine{v,s,l,a,O,Rep.same L _ _ hv,kO 16 s hd hf,∅,zC,λk hk=>(ag k hk).k,ae,λJ g2=>{_,O, ?_}}
   by_cases hL:lds s a
   ·rw[nF (show a...*<(goT s a)...* from hL)]
    refine iN ∎ ?_;refine oEA (kY s a) λu hu al=>?_;refine oAA (zKk a s u hf al) λfu du zu=>?_;let ha:atT a s=Y u:=(zVu a s hL).trans hu;refine{v,s,l,a,O,{Rep.same (L.trans g2) _ _ hv,hf,hd,hz,g2 _ _ zC,λk hk=>(ag k hk).k,ae},hL,λu' y H3 D e3 g3 hy hD=>?_};obtain rfl:u=u':=mU (hu.symm.trans e3);refine{y,u,O,Sp1.rep _ _ _ hy,zZu a s u hf hg ha,fu,∅,λab H4 g4=>{O, ?_},λai H4 g4=>qx u ha hw ai H4 (((L.trans g2).trans g3).trans g4)};let aa:∀w':Wd,w'≠ .tak->bkD s (M,a,n)=(w',a,u)->∀H5,Same H4 H5->∀p,H5 p=none->Q (.ref p) (upd H5 p (.tup [.str w'.s, .ref l,y])):=λw' ak eb H5 g5 p c=>by
     let gA:Same (upd H l (.lst (a.map kV))) H5:=(g2.trans g3).trans (g4.trans g5);let g9:=zF c (HO.tup [V.str w'.s,V.ref l,y]);refine q (λg e _=>by rw[ha] at e;cases e;exact ab) _ (p::l::D) _ ((L.trans gA).trans g9) ?_ λb hb=>?_
     ·rw[eb]
      refine zVl ak zC (g9 _ _ (gA _ _ zC)) ((hy.same (g4.trans g5)).same g9) (λz=>?_) λz=>?_
      ·obtain⟨o,ho⟩:=Sp1.there _ _ _ (hy.same (g4.trans g5)) z
       rw[c] at ho;cases ho
      ·let e:=hD l z
       rw[g2 _ _ zC] at e;cases e
     ·rcases mF.mp hb with z | z
      ·rw[z];exact zW (L.trans gA) c
      ·rcases mF.mp z with z | z
       ·rw[z];exact hl
       ·exact zW (L.trans g2) (hD b z)
    show(if V.str M.s=V.str (A8 "take") then _ else _)
    cases M with
    |ins=>exact absurd O hw|put=>
     refine iN ∎ λp c=>aa .put (by intro z;cases z) ?_ _ (Same.refl _) p c;unfold bkD;simp only[ha]
    |tak=>
     refine iP O ?_
     cases hk:a.getLast? with
     |none=>
      let e:a= []:=bF.mp hk;subst e;cases am
     |some k=>
      let aj:(a.map kV).getLast? =Y (kV k):=by rw[List.getLast?_map,hk];rfl
      refine zY (SqL.of (g4 _ _ (g3 _ _ (g2 _ _ zC)))) (zCg aj) ?_
      cases k with
      |inl i=>
       refine nEA _ O (iP ∎ λp c=>aa .ins (by intro z;cases z) ?_ _ (Same.refl _) p c);unfold bkD;simp only[ha,hk]
      |inr z=>
       refine nEA _ O (iN ∎ λp c=>aa .put (by intro z;cases z) ?_ _ (Same.refl _) p c);unfold bkD;simp only[ha,hk]
   ·rw[nJ (show¬a...*<(goT s a)...* from hL)]
    refine iP O λp t=>af ?_ (λg e=>by rw[zRu a s hL] at e;cases e) _ g2 p t;unfold bkD;simp only[zRu a s hL]
end
end K43
namespace K43
open PySem L2
seal L2.PSs L2.PS L2.PE L2.PT L2.PW L2.PA L2.PI L2.PG L2.PGs L2.PPs L2.PTs
abbrev zRg:V6:=top 25
abbrev yDe:V6:=top 45
abbrev yDw:V6:=top 44
structure Og(d:Dd):Prop where
 o:Od d
 g:d.1≠ .tak->xU d.2.2=true
section
variable{P:V3}{w:V4}{K:A9}{mg:C8}{base:V5}{f:V1}{fd:V7}
def zNs:Sp:=λd H Q _=>∃(b:V1)(a:B8),d= [.ref b]/\H b=Y (.lst (a.map kV))/\a...*<=8/\(∀k∈a,okS k)/\∀c,Same H c->Q (.bl true) c
theorem zOl(F:Fun K "is_path" "is_path" zRg f fd)(B:Bl mg)(M:Ms mg)(b:Dn P w K mg base 1 "is_name" ["thing"] zPh)(a:Dn P w K mg base 2 "is_place" ["thing"] zCp):FnOk P w K mg base CX0 3 f fd ["thing"] zNs:=by
 refine F.okn (N:=["thing"]) λaa A u s H vs Q E nd hr h=>?_;ext zR h pd ks c o h8 z_;ext oA z_ y q;subst c;refine{_,(zD (zT (i6 (jI (xL (yD (pI B.isinstance zH B.list yQ (pv 0)))) (jP (pT kS (zN yE O B.len yS (zA (pv 0) zB)) (zCj O M.MOST_STEPS))))) (zG (zI vE)) zK)
  (zG (zI (zN (gC O) O B.all zCa (zA (xS (own:=["step"]) (F:=[]) {O,tb_g%,tb_g%,tb_g%, .nil} O (xG (pv 0)) (λ_ _ _ _=>yG (i:=0) (by show(xW ["step"] []).Nodup;decide+kernel) O (nO O)) (λ_ _ _ _=>yT) (λ_ _ _ _=>(yEr (pD b hr (zA (pv 0) zB)) (qC (pD a hr (zA (pv 0) zB)))))) zB))))), ?_}
 walk_at "st";lk;refine nEA ("list") (wQ o) (iN ∎ {_,SqL.of o, ?_});rw[mN];refine iN ∅ {{_,SqL.of o}, ?_};refine wJ (K:=K) (xs:=ks.map kV) (λi p n=>Same H n/\p=(List.replicate i true).map V.bl) (by rw[mS,mN];lia) {Same.refl _,O} (λi p n _ h=>SqL.of (h.1 _ _ o)) ?_ ?_
 ·rintro i v p n I _ ⟨g,rfl⟩
  rw[nH] at I;refine oEA (rL.mp I) λk hk c=>?_;subst c;let hs:=y k (mO hk);let m:∀d,Same n d->Same H d/\(List.replicate i true).map V.bl++ [V.bl true]=(List.replicate (i+1) true).map V.bl:=λd t=>{g.trans t,zDe i};lk
  cases k with
  |inl j=>
   refine{_,"int",O,O,(λx e=>by cases e),λJ D=>{false,O,iN ∎ {_, .int j,O,O,λd t=>?_}}};let hj:0<=j/\j<=59:=hs;let e:zAj (.int j)=true:=nF {hj.1,∅};rw[e];exact m d (D.trans t)
  |inr z=>
   let L:xF (ts z)=true:=hs;refine{_,"str",O,O,λx e=>by
    cases e;let:=zFu L;rw[<-qJ z,kZ]
    lia,λJ D=>{true, ?_,iP O (m J D)}}
   show V.bl (xF (ts z))=_;rw[L]
 ·rintro p n _ ⟨g,rfl⟩ l r
  refine qR l O _ (SqL.of zC) ?_;rw[zCs];exact q _ (g.trans (zF r _))
def zXx:Sp:=λb H Q _=>∃(v:V)(d:Dd),b= [v]/\Dlay H v d/\Og d/\∀a,Same H a->Q (.bl true) a
theorem yBq(F:Fun K "is_deed" "is_deed" yDe f fd)(B:Bl mg)(c:Dn P w K mg base 3 "is_path" ["thing"] zNs)(a:Dn P w K mg base 3 "is_thing" ["thing"] zXu):FnOk P w K mg base CX0 4 f fd ["thing"] zXx:=by
 refine F.okn (N:=["thing"]) λy A n s H vs Q E nd o h=>?_;obtain⟨v,d,rfl,⟨tp,u,r,rfl,g,k,m⟩,b,q⟩:=h;let t:=wY o;refine{_,(zD (zT (i6 (jI (xL (yD (pI B.isinstance zH B.tuple uD (pv 0)))) (jI (xL (zMw uE uE zE (zN kI O B.len yS (zA (pv 0) zB)) zE)) (jP (xL (yD (pD c o (zA (pX vP (pv 0) zE) zB)))))))) (zG (zI vE)) zK)
  (zD (zT (pT xN (zN kI O B.len yS (zA (pv 0) zB)) zE) (zG (zI (pE (yAn t) (pX vP (pv 0) zE) zL))) zK)
  (zG (zI (vQ (zFc (yBo t) (pX vP (pv 0) zE) (xH (zA zL (zA zL zB))) (by with_unfolding_all rfl)) (qC (pD a o (zA (pX vP (pv 0) zE) zB)))))))), ?_}
 walk_at "st";lk;let L:=b.o.l;refine nEA ("tuple") (zEy g) (iN ∎ {_, .inr (SqT.of g), ?_});rcases m with⟨l,rfl⟩|⟨l,x,rfl,z⟩
 ·refine iP (by show(2:Int)<=((2:Nat):Int);decide) (iN (by show¬¬((2:Nat):Int)<=3;decide) (wR (SqT.of g) (zQ (j:=1) O) {u,_,O,k,∅,b.o.s,λJ i=>{true,O,iN ∎ {_, .inr (SqT.of (i _ _ g)),iP (by rfl) (wR (SqT.of (i _ _ g)) (zQ (j:=0) O) ?_)}}}))
  refine{_,O, .inl {O, ?_}};rw[l,nF (show V.str Wd.tak.s=V.str (A8 "take") from O)];exact q _ i
 ·refine iP (by show(2:Int)<=((3:Nat):Int);decide) (iN (by show¬¬((3:Nat):Int)<=3;decide) (wR (SqT.of g) (zQ (j:=1) O) {u,_,O,k,∅,b.o.s,λJ i=>{true,O,iN ∎ {_, .inr (SqT.of (i _ _ g)),iN (by show¬((3:Nat):Int)=2;decide) (wR (SqT.of (i _ _ g)) (zQ (j:=0) O) λI p=>?_)}}}))
  let g2:=i.trans (zF p (.tup [V.str (A8 "put"),V.str (A8 "insert")]));refine{I,[A8 "put",A8 "insert"],O,zC, .inl {O, ?_}};let e:inV (V.str d.1.s) ([A8 "put",A8 "insert"].map V.str)=true:=by
   cases D:d.1 with|put=>decide+kernel|ins=>decide+kernel|tak=>exact absurd D l
  rw[e];refine nEA true O (iP O (wR (SqT.of (g2 _ _ g)) (zQ (j:=2) O) {x,_,O,Rep.same g2 _ _ z,b.o.g,c6 ∅ _ b.o.f,nW b.o.z ∎,λH3 M=>by rw[b.g l];exact q _ (g2.trans M)}))
def zYp:Sp:=λg H Q _=>∃(a:V1)(b:B3)(c:C4),g= [.ref a]/\H a=Y (.lst b)/\b...*=c...*/\c...*<=400/\(∀(i:Nat) v d,b[i]? =Y v->c[i]? =Y d->Dlay H v d/\Og d)/\∀e,Same H e->Q (.bl true) e
theorem yCn(F:Fun K "is_paper" "is_paper" yDw f fd)(B:Bl mg)(M:Ms mg)(b:Dn P w K mg base 4 "is_deed" ["thing"] zXx):FnOk P w K mg base CX0 5 f fd ["thing"] zYp:=by
 refine F.okn (N:=["thing"]) λt A m s H vs Q E L D h=>?_;ext zU h a z p j c u;ext xA u hl h4 y q;subst j;refine{_,(zD (zT (i6 (jI (xL (yD (pI B.isinstance zH B.list yQ (pv 0)))) (jP (pT kS (zN yE O B.len yS (zA (pv 0) zB)) (zCj O M.MOST_DEEDS))))) (zG (zI vE)) zK)
  (zG (zI (zN (gC O) O B.all zCa (zA (xS (own:=["part"]) (F:=[]) {O,tb_g%,tb_g%,tb_g%, .nil} O (xG (pv 0)) (λ_ _ _ _=>yG (i:=0) (by show(xW ["part"] []).Nodup;decide+kernel) O (nO O)) (λ_ _ _ _=>yT) (λ_ _ _ _=>(pD b D (zA (pv 0) zB)))) zB))))), ?_}
 walk_at "st";lk;refine nEA ("list") (wQ c) (iN ∎ {_,SqL.of c,iN ∅ {{_,SqL.of c}, ?_}});refine wJ (K:=K) (xs:=z) (λi d e=>Same H e/\d=(List.replicate i true).map V.bl) (by rw[mS];lia) {Same.refl _,O} (λi d e _ h=>SqL.of (h.1 _ _ c)) ?_ ?_
 ·rintro i v d e o _ ⟨g,rfl⟩
  let J:=(mJ.mp o).1;let n:p[i]? =some p[i]:=mQ ∅;obtain⟨x,r⟩:=y i v _ o n;lk;exact{v,_,O,x.same g,r,λH3 I=>{g.trans I,zDe i}}
 ·rintro d e _ ⟨g,rfl⟩ l k
  refine qR l O _ (SqL.of zC) ?_;rw[zCs];exact q _ (g.trans (zF k _))
end
end K43
namespace K43
open PySem L2 PySem.W
seal L2.PSs L2.PS L2.PE L2.PT L2.PW L2.PA L2.PI L2.PG L2.PGs L2.PPs L2.PTs
abbrev yEh:V6:=top 50
noncomputable def gn1(s:T)(d:Dd):Bool:=match atT d.2.1 s with
 |none=>true|some g=>match d.1 with
  |.ins=>true|_=>xU g
theorem gn1_all{s:T}{d:Dd}:gn1 s d=true↔∀g,atT d.2.1 s=Y g->d.1≠ .ins->xU g=true:=by
 unfold gn1
 cases atT d.2.1 s with
 |none=>exact{λ_ g e=>(nomatch e),λ_=>O}|some u=>
  cases a:d.1 with|ins=>exact{λ_ g _ z=>absurd O z,λ_=>O}|put=>exact{λh g e _=>by cases e;exact h,λh=>h u O (by intro z;cases z)}|tak=>exact{λh g e _=>by cases e;exact h,λh=>h u O (by intro z;cases z)}
noncomputable def gns:List Dd->T->Bool
 | [],_=>true|d::a,t=>gn1 t d && (match doT d.1 d.2.2 d.2.1 t with
  | some r=>gns a r|none=>true)
theorem zOi{d:Dd}{ds:C4}{t r:T}(h:doT d.1 d.2.2 d.2.1 t=Y r):gns (d::ds) t=(gn1 t d && gns ds r):=by
 show(gn1 t d && (match doT d.1 d.2.2 d.2.1 t with
  | some r=>gns ds r|none=>true))=_
 rw[h]
theorem zDu:∀(ds:C4)(k m:Nat)(t r:T),wL k ds t= .inr r->RJ m ds t->(stands ds t)...*=ds...*+1/\(qP ds t)...*=ds...*/\
  ∀(i:Nat) d,ds[i]? =Y d->∃s q g,(stands ds t)[i]? =Y s/\doT d.1 d.2.2 d.2.1 s=Y q/\RJ g (d::ds.drop (i+1)) s/\(qP ds t).reverse[i]? =Y (bkD s d)/\(gn1 s d=false->gns ds t=false)
 |[],k,m,t,r,h,J=>{O,O,λi d e=>by cases e}|d0::ds,k,m,t,r,h,J=>by
  cases f:doT d0.1 d0.2.2 d0.2.1 t with
  |none=>rw[jT f] at h;cases h|some q=>
   rw[qV f] at h;obtain⟨a,b,c⟩:=zDu ds (k+1) (m+1) q r h (J.step f);rw[qF f,zCf f,zOi f];refine nAA (by rw[mW,a];rfl) (by rw[mM,b];rfl) (λi d e=>?_);rw[List.reverse_append]
   cases i with
   |zero=>
    cases e;exact qX t q m O f (nAA J O (λz=>by rw[z];rfl))
   |succ i=>
    refine zU (c i d e) λs j g u n o=>?_;ext oAA o v l p;exact qX s j g u n (nAA v l (λz=>by rw[p z,tR]))
theorem zJp:∀(ds:C4)(k:Nat)(t r:T),wL k ds t= .inr r->(∀(i:Nat) d s,ds[i]? =Y d->(stands ds t)[i]? =Y s->gn1 s d=true)->gns ds t=true
 |[],k,t,r,h,_=>rfl|d0::ds,k,t,r,h,z=>by
  cases a:doT d0.1 d0.2.2 d0.2.1 t with
  |none=>rw[jT a] at h;cases h|some q=>
   rw[qV a] at h;rw[zOi a,z 0 d0 t O (by rw[qF a];rfl),zJp ds (k+1) q r h λi d s b c=>z (i+1) d s b (by rw[qF a];exact c)]
   rfl
theorem n8{H:Hp}:∀{vs:B3}{ts:B0}{D:B9},Sps H vs ts D->∃a,Sps H vs.reverse ts.reverse a/\∀b∈a,b∈D
 |vs,[],D,e=>by
  obtain⟨d,c⟩:=e;subst d c;exact nEA ([]) ⟨O,O⟩ (λ_ z=>z)
 |vs,t::ts,D,⟨v,r,h,l,d,c,j,k,n⟩=>by
  subst d c;obtain⟨a,i,g⟩:=n8 k;rw[bO,bO];refine nEA (a++h) (Sps.snoc j i λb f z=>n b z (g b f)) (λb f=>(nB.mp f).elim (λz=>mX _ (g b z)) λz=>nQ _ z)
section
variable{P:V3}{w:V4}{K:PySem.W.Frag}{mg:C8}{base:V5}{f:V1}{fd:V7}{C2 C3:V1}
def zGv(C2 C3:V1):Sp:=λh H Q E=>∃(v:V)(g:V1)(e:B3)(t:T)(a:C4)(m:Nat),h= [v, .ref g]/\Rep H v t/\H g=Y (.lst e)/\Dlays H e a/\RJ m a t/\
 (∀r,wL 0 a t= .inr r->xU r=true->gns a t=true->∀l d D c,Same H c->H l=none->c l=Y (.lst d)->Sps c d ((qP a t).map ddT) D->(∀b∈D,H b=none/\b≠l)->Q (.ref l) c)/\
 (∀r,wL 0 a t= .inr r->(xU r && gns a t)=false->∀c,Same H c->E (.ref C3) none c)/\(∀i:Nat,wL 0 a t= .inl i->XNo C2 (i:Int) H E)
theorem zRv(F:Fun K "back" "back" yEh f fd)(B:Bl4 mg)(ai:mg "reversed" =none)(e:Dx aC P w K mg base 25 "stands_of" ["thing","paper"] (yGx C2 C3))(k:Dx aC P w K mg base 25 "deed_back" ["stand","deed"] (yEf C3)):FnOk P w K mg base (CXE aC P w) 26 f fd ["thing","paper"] (zGv C2 C3):=by
 refine F.okxn (N:=["thing","paper","stands","deeds"]) λa5 A ar s H vs Q E nd hr h=>?_;ext yA h v pa xs t I J;ext wG J m am hv ac hD J;ext xA J hI q qx qn;subst am;refine{_,(zD (uW (i:=2) nd O (aL O) (zGg e hr ∅ O lvs (zA (pv 0) (zA (pv 1) zB))))
  (zD (zXl (i:=3) nd O (nO O) (own:=["number","deed"]) (F:=[("stands",2)]) {O,tb_g%,tb_g%,tb_g%,(.cons O O O .nil)} O (zQx O B.enumerate (zA (pv 1) zB)) (λ_ _ _ _=>zRs (K:=K) (n:=2) O O (uL (yG (i:=0) (by show(xW ["number","deed"] [("stands",2)]).Nodup;decide+kernel) O (nO O)) (uL (yG (i:=1) (by show(xW ["number","deed"] [("stands",2)]).Nodup;decide+kernel) O (nO O)) zKx))) (λ_ _ _ _=>yT) (λ_ _ _ _ _ _ hp=>(yDv k hr ∅ O hp (zA (pX (zLm (K:=K) O) (pv 2) (pv 0)) (zA (pv 1) zB)))) lvs)
  (zG (zI (zPd O O B.list O ai (pv 3)))))), ?_}
 walk_at "st";unfold zUx;lk;refine{v,pa,xs,t,I,m,O,hv,ac,hD,hI,λr c hg l ys y H1 g1 hl hy aw az hz hR=>?_,λr c hg=>qx r c (by rw[hg];rfl),qn};refine oAA (zDu I 0 m t r c hI) λa1 a2 a3=>?_;let ay:=hD.1;let a6:=hI.m1;let a0:=hR...*;refine{{_,SqL.of (g1 _ _ ac)}, ?_};refine zUg (K:=K) (xs:=xs) (λi zs H'=>Same H1 H'/\(∀(j:Nat) d s,j<i->I[j]? =Y d->(stands I t)[j]? =Y s->gn1 s d=true)/\∃D,Sps H' zs (((qP I t).reverse.take i).map ddT) D/\∀b∈D,H1 b=none) (by rw[mS];lia) {Same.refl _,(λj d s h=>absurd h (pV _)),[],⟨O,O⟩,λ_ h=>nomatch h} (λi zs H' _ h=>SqL.of (h.1 _ _ (g1 _ _ ac))) ?_ ?_
 ·intro i x zs H2 p hx _ J
  ext yDi J g2 ab D hS aa;intro hp;let av:=(mJ.mp hx).1;let ah:I[i]? =some I[i]:=mQ ∅;refine zU (a3 i _ ah) λs q' m' b1 b2 J=>?_;ext oAA J b3 b4 b5;let L:=zF hp (.tup [V.int (i:Int),x]);let g3:=g2.trans L;let af:=hS.same L;generalize upd H2 p (.tup [V.int (i:Int),x])=H3 at L g3 af⊢;let ae:(ys++ [y])[i]? =Y ((ys++ [y])[i]'∅):=mQ _;generalize (ys++ [y])[i]'∅=sv at ae;refine oEA (hR.get ae) λs' aq ak=>?_;obtain rfl:s=s':=mU (b1.symm.trans aq);let a4:=b3.z;let ax:=b3.d;let od:=b3.o _ mD;lk;refine zY (SqL.of (g3 _ _ hl)) (zQ ae) ⟨sv,x,s,q',I[i],O,Rep.same g3 _ _ ak,b3.few,b3.g,∅,∅,((hD.2 i x _ hx ah).same g1).same g3,od.s,od.l,b2,λao v' D' H4 g4 au aj=>?_,λg e1 e2 e3 H4 g4 a o ha=>?_⟩
  ·let an:gn1 s I[i]=true:=gn1_all.mpr ao
   refine nAAEA (g3.trans g4) (λj d u hj h1 h2=>?_) (D++D') ?_ (λb hb=>(nB.mp hb).elim (aa b) λz=>zW g3 (aj b z))
   ·rcases(show j<i\/j=i by lia) with z | z
    ·exact ab j d u z h1 h2
    ·subst z
     rw[ah] at h1;rw[b1] at h2;cases h1;cases h2;exact an
   ·rw[yO b4,nI]
    refine Sps.snoc au (af.same g4) λb hb z=>?_;obtain⟨o,ho⟩:=Sps.there _ _ _ af hb;rw[aj b z] at ho;cases ho
  ·let al:gn1 s I[i]=false:=by
    cases hc:gn1 s I[i] with|false=>rfl|true=>rw[gn1_all.mp hc g e1 e2] at e3;cases e3
   exact qx r c (by rw[b5 al,tR]) _ (g1.trans (g3.trans (g4.trans (zF ha o))))
 ·intro zs H2 _ J
  ext yDi J g2 ab D hS aa;intro p hp;rw[rM (by rw[cP];lia)] at hS;refine oEA (n8 hS) λD' M ap=>?_;rw[<-List.map_reverse,List.reverse_reverse] at M;let L:=zF hp (.lst zs);refine{p,zs,O,SqL.of zC,λp2 ag=>?_};let s4:=zF ag (.lst zs.reverse);refine q r c hg (zJp I 0 t r c λj d u h1 h2=>ab j d u (by let:=(mJ.mp h1).1;lia) h1 h2) p2 _ D' _ (g1.trans (g2.trans (L.trans s4))) (zW (g1.trans (g2.trans L)) ag) zC ((M.same L).same s4) λb hb=>{zW g1 (aa b (ap b hb)),λz=>?_};obtain⟨o,ho⟩:=Sps.there _ _ _ (M.same L) hb;rw[z,ag] at ho;cases ho
end
end K43
namespace K43
open PySem L2
seal L2.PSs L2.PS L2.PE L2.PT L2.PW L2.PA L2.PI L2.PG L2.PGs L2.PPs L2.PTs
abbrev sTh2:V6:=top 82
abbrev sCv:V6:=top 83
mutual
theorem zOt:∀t:T,T.few t->o6 t
 |.lst a,h=>zFr a h.2|.dic ks a,h=>by
  let z:=zFr a h.2.2.2;exact⟨h.1,h.2.2.1,mK,z⟩
 |.tup _,h=>h.elim|.non,_=>mK|.bl _,_=>mK|.int _,_=>mK|.str _,_=>mK
theorem zFr:∀us:List T,i4 us->m7 us
 |[],_=>mK|t::us,h=>{zOt t h.1,zFr us h.2}
end
def zYx:List Key->T->Prop
 |[],_=>True|k::b,t=>((∃a i,t= .lst a/\k= .inl i)\/∃c a z,t= .dic c a/\k= .inr z)/\∀u,zV t k=Y u->zYx b u
theorem zJg{t u:T}{k:Key}(h:zV t k=Y u):(∃us i,t= .lst us/\k= .inl i)\/∃a us z,t= .dic a us/\k= .inr z:=by
 cases t with
 |lst us=>
  cases k with|inl i=>exact .inl ⟨us,i,O,O⟩|inr z=>cases h
 |dic a us=>
  cases k with|inl i=>cases h|inr z=>exact .inr ⟨a,us,z,O,O⟩
 |_=>cases k<;>cases h
theorem zZs{w:Wd}{t:T}{k:Key}(h:xZ w t k=true):(∃us i,t= .lst us/\k= .inl i)\/∃a us z,t= .dic a us/\k= .inr z:=by
 cases t with
 |lst us=>
  cases k with|inl i=>exact .inl ⟨us,i,O,O⟩|inr z=>cases w<;>simp[xZ,zV] at h
 |dic a us=>
  cases k with|inl i=>cases w<;>simp[xZ,zV] at h|inr z=>exact .inr ⟨a,us,z,O,O⟩
 |_=>cases k<;>cases w<;>simp[xZ,zV] at h
theorem zRx{w:Wd}{n:T}:∀(ks:B8)(t r:T),doT w n ks t=Y r->zYx ks t
 |[],_,_,_=>mK|[k],t,r,h=>by
  refine{zZs (w:=w) (k:=k) ?_,λ_ _=>mK}
  cases f:xZ w t k with
  |true=>rfl|false=>
   let d:(if xZ w t k=true then Y (yP w t k n) else none)=Y r:=h;rw[f] at d;cases d
 |k::c::ks,t,r,h=>by
  rw[kP (by simp)] at h
  cases b:zV t k with
  |none=>rw[b] at h;cases h|some u=>
   rw[b] at h;refine{zJg b,λg a=>?_};rw[b] at a;cases a
   cases e:doT w n (c::ks) u with|none=>simp only[e] at h;cases h|some q=>exact zRx (c::ks) u q e
theorem yCy{s:T}{d:Dd}(h:d.1≠ .ins):gn1 s d=xU ((atT d.2.1 s).getD .non):=by
 unfold gn1
 cases atT d.2.1 s with
 |none=>exact(by decide:true=xU .non)|some g=>
  cases a:d.1 with|ins=>exact absurd a h|_=>rfl
theorem yDq{ks:B8}{s:T}(d:T.few s):T.few ((atT ks s).getD .non)/\T.dep ((atT ks s).getD .non)<=T.dep s/\T.sz ((atT ks s).getD .non)<=max 1 (T.sz s):=by
 by_cases b:lds s ks
 ·obtain⟨u,c,a⟩:=kY s ks
  obtain⟨e,g,f⟩:=zKk ks s u d a;rw[zVu ks s b,c];exact nAA e (by show T.dep u<=_;lia) (by show T.sz u<=_;lia)
 ·rw[zRu ks s b]
  exact nAA mK (nR _) (by show 1<=_;lia)
section
variable{P:V3}{w:V4}{K:A9}{mg:C8}{base:V5}{f:V1}{fd:V7}
def yEm:Sp:=λc H Q _=>∃(v:V)(b:V1)(a:B8)(t:T),c= [v, .ref b]/\Rep H v t/\T.pure t/\T.sz t<=100000/\H b=Y (.lst (a.map kV))/\(∀k∈a,okK k)/\a...*<=8/\zYx a t/\∀y,Rep H y ((atT a t).getD .non)->Q y H
theorem yGj{k:Nat}(F:Fun K "_law_there" "_law_there" sTh2 f fd)(B:Bl mg):FnOk P w K mg base CX0 (k+1) f fd ["_law_thing","_law_path"] yEm:=by
 refine F.okn (N:=["_law_thing","_law_path","_law_step"]) λaq A ao s H vs Q E nd hr h=>?_;ext yN h v pa n t g m;ext zS m hv hp hz af ah m;ext oAA m h8 ap q;subst g;let hu:=wY hr;refine{_,(zD (vX PassesOwn.never O (xG (pv 1)) (yG (i:=2) nd O (nO O)) (zG (zT (i6 (vH (yD (pI B.isinstance zH B.dict xJ (pv 0))) (qH (gR (zEe hu (pv 2) (pv 0)))))) (zG (pS 0 nd (jR hu (pv 0) (pv 2) (λ_ _=>O)))) (zG (zT (i6 (vH (yD (pI B.isinstance zH B.list yQ (pv 0))) (qH (pT jU (pv 2) (zN yE O B.len yS (zA (pv 0) zB)))))) (zG (pS 0 nd (pX zP (pv 0) (pv 2)))) (zG (zI uU)))))))
  (zG (zI (pv 0)))), ?_}
 walk_at "st";lk;refine{{_,SqL.of af},jN (K:=K) (a:=pa) (xs:=n.map kV) (λi σ' J=>J=H/\∃o y u,σ'= [Y y,Y (.ref pa),o]/\Rep H y u/\T.pure u/\T.sz u<=100000/\zYx (n.drop i) u/\atT n t=atT (n.drop i) u) ⟨O,none,v,t,O,hv,hp,hz,ap,O⟩ (λi σ' J _ h=>by rw[h.1];exact SqL.of af) ?_ ?_}
 ·intro i x σ' J hx m
  ext zWd m aa o y u g m;ext vB m hy ag ac d l;subst aa g;rw[nH] at hx;refine oEA (rL.mp hx) λk hk p=>?_;subst p;let L:=ah k (mO hk);let ak:n.drop i=k::n.drop (i+1):=by
   obtain⟨ai,e⟩:=mJ.mp hk;rw[nU ai,e]
  rw[ak] at d l;let c:atT n t=(zV u k).bind (atT (n.drop (i+1))):=l;obtain⟨M,aj⟩:=d;unfold zUw zHa;lk
  cases hs:zV u k with
  |some u'=>
   rw[hs] at c;let ae:∀D,Rep J D u'->T.pure u'->T.sz u'<=100000->∃o y,(D=y/\Y (kV k)=o)/\∃x,Rep J y x/\T.pure x/\T.sz x<=100000/\zYx (n.drop (i+1)) x/\atT n t=atT (n.drop (i+1)) x:=λD h1 h2 h3=>{_,D,⟨O,O⟩,u',h1,h2,h3,aj u' hs,c};obtain⟨D,h1,h2,h3,⟨b,zs,j,rfl,hb,ej,I⟩|⟨b,qs,rfl,hb,an⟩⟩:=zKs hy ag ac L hs
   ·refine wG (zEw I) λ_ _ _ _ _ am=>?_
    exact nEA ("list") (wQ hb) (iN ∎ {"list",wQ hb,iP ∎ {b,O,zs,SqL.of hb,j,ej,iP am (by rw[ej];exact zY (SqL.of hb) I {O,by rw[<-ej];exact ae D h1 h2 h3})}})
   ·let hg:zMg J b (kV k) ↥D:=.inl {qs,k, .inl hb,O,an.symm}
    exact nEA ("dict") (qY hb) (iP ∎ {b,O,_,hg,iP O {b,O,D,hg,ae D h1 h2 h3}})
  |none=>
   rw[hs] at c;let hq:Q V.non J:=q .non (by rw[c];exact O);rcases M with⟨us,j,rfl,rfl⟩|⟨ab,us,z,rfl,rfl⟩
   ·ext yL hy a zs p ha hR
    subst p;let r:us[j.toNat]? =none:=hs;let hl:=hR...*;let hj:=List.getElem?_eq_none_iff.mp r;let ar:0<=j:=L.1;exact nEA ("list") (wQ ha) (iN ∎ {"list",wQ ha,iP ∎ {a,O,zs,SqL.of ha,j,O,iN ∅ hq}})
   ·ext zR hy a ps p ha al hR
    subst p;let hz:ts z∉ab:=λhz=>by
     let r:(if ts z∈ab then Y (yH (ts z) ab us) else none)=none:=hs;rw[mP hz] at r;cases r
    exact nEA ("dict") (qY ha) (iP ∎ {a,O,none,by let:=zFq al ha hz;rw[qJ] at this;exact this,iN ∎ {"dict",qY ha,iN ∎ hq}})
 ·intro σ' J m
  ext zWd m aa o y u g m;ext vB m hy ag ac d l;subst aa g;lk;rw[mN,tF] at l;exact q y (by rw[l];exact hy)
def spCv:Sp:=λd H Q _=>∃(c:V1)(t u:T)(a:C4)(o:V)(m:Nat),d= [.ref c]/\Tri H c t a o u/\wL 0 a t= .inr u/\RJ m a t/\∀b,Same H b->Q (.bl (gns a t)) b
theorem ok_cv{k:Nat}(F:Fun K "_law_covers_good" "_law_covers_good" sCv f fd)(B:Bl mg)(a:Dn P w K mg base k "_law_there" ["_law_thing","_law_path"] yEm)(b:Dn P w K mg base k "_law_good" ["_law_thing"] yGm):FnOk P w K mg base CX0 (k+1) f fd ["_law_drawn_here"] spCv:=by
 refine F.okn (N:=["_law_drawn_here","_law_j","_law_deed_here"]) λal A ag s H vs Q E nd hr h=>?_;obtain⟨tr,t,u,c,o,m,rfl,⟨pp,pr,xs,rs,x,t1,t2,t3,t4,t5,t6,tT,tO,tl,tg,tf,td,tz⟩,g,hI,q⟩:=h;let hu:=wY hr;refine oAA (zDu c 0 m t u g hI) λa1 a2 a3=>?_;let ai:=t3.1;let aj:=t6...*;refine{_,(zD (vX PassesOwn.never O (wE O B.range (zA (zN yE O B.len yS (zA (pX zP (pv 0) zE) zB)) zB)) (yG (i:=1) nd O (nO O)) (zD (pS 2 nd (pX zP (pX zP (pv 0) zE) (pv 1)))
  (zG (zT (i6 (vH (pT zEp (pX vP (pv 2) zE) zL) (qH (xL (yD (pD b hr (zA (pD a hr (zA (pX zP (pX zP (pv 0) zE) (pv 1)) (zA (pX vP (pv 2) zE) zB))) zB))))))) (zG (zI vE)) zK))))
  (zG (zI vE))), ?_}
 walk_at "st";lk;refine zY (SqL.of t1) (zQ (j:=0) O) {pp,O,xs,SqL.of t2,∅,∅, ?_};refine jY (λi σ H'=>∃(o1 o2:Option V),σ= [Y (V.ref tr),o1,o2]/\Same H H'/\∀(j:Nat) d s,j<i->c[j]? =Y d->(stands c t)[j]? =Y s->gn1 s d=true) {_,_,O,Same.refl _,λj d s h=>absurd h (pV _)} ?_ ?_
 ·intro i σ H5 hi p
  ext yL p o1 o2 v e l;subst v;lk;let ac:i<xs...*:=by lia
  let L:xs[i]? =some xs[i]:=mQ ac;let D:c[i]? =some c[i]:=mQ ∅;refine zU (a3 i _ D) λs q' m' b1 b2 p=>?_;ext oAA p J b4 b5;let n:(rs++ [x])[i]? =Y ((rs++ [x])[i]'∅):=mQ _;generalize (rs++ [x])[i]'∅=sv at n;refine oEA (t6.get n) λs' af ab=>?_;obtain rfl:s=s':=mU (b1.symm.trans af);let ak:=J.z;let ah:=J.d;let od:=J.o _ mD;refine zU (t3.2 i _ _ L D) λtp pd r ae k1 p=>?_;ext oA p k2 k3;rw[show(0:Int)+(i:Int)=(i:Int) by lia];let aa:gn1 s c[i]=true->∀H6,Same H5 H6->Same H H6/\∀(j:Nat) d s,j<i+1->c[j]? =Y d->(stands c t)[j]? =Y s->gn1 s d=true:=λhg H6 g6=>{e.trans g6,λj d u' hj I M=>by
   rcases(show j<i\/j=i by lia) with z | z
   ·exact l j d u' z I M
   ·subst z
    rw[D] at I;rw[b1] at M;cases I;cases M;exact hg}
  refine zY (SqL.of (e _ _ t1)) (zQ (j:=0) O) (zY (SqL.of (e _ _ t2)) (zQ L) ?_);rw[ae];refine wR (SqT.of (e _ _ k1)) (zQ (j:=0) O) ?_
  by_cases hw:c[i].1= .ins
  ·refine zPi O false (by rw[hw];exact nF O) (iN ∎ {⟨_,O⟩,aa ?_ H5 (Same.refl _)})
   exact gn1_all.mpr λ_ _ z=>absurd hw z
  ·refine zPi O true (nJ (λz=>hw ?_)) (iP O ?_)
   ·let z':=V.str.inj z
    cases hc:c[i].1 with|ins=>rfl|put=>rw[hc] at z';exact absurd z' (by decide+kernel)|tak=>rw[hc] at z';exact absurd z' (by decide+kernel)
   refine oAA (yDq (ks:=c[i].2.1) J.few) λf1 f2 f3=>?_;refine zY (SqL.of (e _ _ t1)) (zQ (j:=1) O) (zY (SqL.of (e _ _ t4)) (zQ n) (wR (SqT.of (e _ _ k1)) (zQ (j:=1) O) {sv,pd,_,s,O,Rep.same e _ _ ab,kO 16 s ∅ J.few,∅,e _ _ k2,λk hk=>(od.s k hk).k,od.l,zRx _ s q' b2,λy hy=>{y,_,O,hy,zOt _ f1,∅,∅,λH6 g6=>{_,O, ?_}}}));rw[<-yCy hw]
   cases hg:gn1 s c[i] with|false=>exact iP O (by rw[<-b5 hg];exact q _ (e.trans g6))|true=>exact iN ∎ {⟨_,O⟩,aa hg H6 g6}
 ·intro σ H5 p
  ext yL p o1 o2 v e l;subst v;lk;rw[zJp c 0 t u g λj d u' I M=>l j d u' (by let:=(mJ.mp I).1;lia) I M] at q;exact q _ e
end
end K43
namespace K43
open PySem L2 PySem.W
seal L2.PSs L2.PS L2.PE L2.PT L2.PW L2.PA L2.PI L2.PG L2.PGs L2.PPs L2.PTs
abbrev sTo:V6:=top 81
structure Tf(K:Frag)(mg:C8)(C2 C3:V1):Prop where
 m5:mg "NoDeed" =Y (.ref C2)
 m2:mg "TooGreat" =Y (.ref C3)
 e55:exmOne K (.ref C2) (.ref C2)=Y true
 e25:exmOne K (.ref C3) (.ref C2)=Y false
 e22:exmOne K (.ref C3) (.ref C3)=Y true
 G5:yAr K C2
 fn:findIn K (.ref C2) "number" =Y none
abbrev tNo(C2:V1):TS:=zMs (zTe (vK (tC (.str (A8 "NoDeed"))) (vK (tXAt C2 (A8 "number") (jC 2)) zAh)))
abbrev tGr:TS:=zMs (zTe (vK (tC (.str (A8 "TooGreat"))) zAh))
section
variable{P:V3}{w:V4}{K:PySem.W.Frag}{mg:C8}{base:V5}{f:V1}{fd:V7}{C2 C3:V1}
def spTo:Sp:=λh H Q _=>∃(v:V)(g:V1)(e:B3)(t:T)(c:C4)(m:Nat),h= [v, .ref g]/\Rep H v t/\H g=Y (.lst e)/\Dlays H e c/\RJ m c t/\
 (∀r,wL 0 c t= .inr r->xU r=true->gns c t=true->∀l d D a,Same H a->H l=none->a l=Y (.lst d)->Sps a d ((qP c t).map ddT) D->(∀b∈D,H b=none/\b≠l)->Q (.ref l) a)/\
 (∀r,wL 0 c t= .inr r->(xU r && gns c t)=false->∀p a,Same H a->a p=Y (.tup [.str (A8 "TooGreat")])->Q (.ref p) a)/\
 (∀i:Nat,wL 0 c t= .inl i->∀p a,Same H a->a p=Y (.tup [.str (A8 "NoDeed"), .int (i:Int)])->Q (.ref p) a)
theorem ok_to(F:Fun K "_law_told" "_law_told" sTo f fd)(W:Tf K mg C2 C3)(Gd:Dx aC P w K mg base 26 "back" ["thing","paper"] (zGv C2 C3)):FnOk P w K mg base CX0 27 f fd ["_law_thing","_law_paper"] spTo:=by
 refine F.okn (N:=["_law_thing","_law_paper","e"]) λaa A o s H vs Q E L hr h=>?_;ext yA h v pa xs t M k;ext wG k m l I u hD k;ext xA k hI q qx qn;subst l;refine{_,(zG (zUs (φ:=aC) (ts1:=tNo C2) (ts2:=tGr) (tb:=λE=>zMs (gY (zGv C2 C3) [] E (vK (jC 0) (vK (jC 1) zAh)))) O O W.m5 O W.m2 L (i1:=2) O O O O O
    (λD W' E d=>zG (zI (yDv Gd hr ∅ O d (zA (pv 0) (zA (pv 1) zB)))))
    (λv=>zG (zI (xH (zA zL (zA (yFy W.G5 W.fn (pv 2)) zB)))))
    (λv=>zG (zI (xH (zA zL zB)))))), ?_}
 walk_at "st";unfold zVc;lk;refine{v,pa,xs,t,M,m,O,I,u,hD,hI,q,λr n hg j B=>{C3,O, .inr {W.e25,W.e22,λx g=>?_}},λi J a j B b=>{C2,O, .inl {W.e55,λx g=>?_}}}
 ·refine{by rw[mS];show 1<=_;decide,λp d=>?_}
  exact qx r n hg p _ (B.trans ((zF g _).trans (zF d _))) zC
 ·let y:a≠x:=λz=>by rw[z,g] at b;cases b
  let g2:=B.trans (zF g (exF x C2 ↥a));let c:upd j x (exF x C2 ↥a) x=Y (exF x C2 ↥a):=zC;let e:upd j x (exF x C2 ↥a) a=Y (.xd [("number", .int (i:Int))]):=by rw[zM y];exact b
  generalize upd j x (exF x C2 ↥a)=H2 at g2 c e⊢;refine{x,a,_,(i:Int),O,c,e,O, ?_};refine{by rw[mS];show 2<=_;decide,λp d=>?_};exact qn i J p _ (g2.trans (zF d _)) zC
def yEv:Sp:=λh H Q _=>∃(v:V)(g:V1)(e:B3)(t r:T)(a:C4)(m:Nat),h= [v, .ref g]/\Rep H v t/\H g=Y (.lst e)/\Dlays H e a/\RJ m a t/\wL 0 a t= .inr r/\xU r=true/\gns a t=true/\∀l d D c,Same H c->H l=none->c l=Y (.lst d)->Sps c d ((qP a t).map ddT) D->(∀b∈D,H b=none/\b≠l)->Q (.ref l) c
theorem bn_of{k:Nat}{ps:C1}(F:FnOk P w K mg base (CXE aC P w) k f fd ps (zGv C2 C3)):FnOk P w K mg base CX0 k f fd ps yEv:=by
 let g:∀a H Q E,yEv a H Q E->zGv C2 C3 a H Q E0:=λa H Q E z=>by obtain⟨v,I,xs,t,r,B,m,e,D,L,h3,h4,o,h6,N,q⟩:=z;exact {v,I,xs,t,B,m,e,D,L,h3,h4,(λM j _ _=>q),(λM j p=>by rw[o] at j;rw[<-Sum.inr.inj j,h6,N] at p;cases p),(λi n=>by rw[o] at n;cases n)}
 refine{λa H Q E h=>F.len a H Q E0 (g _ _ _ _ h),λA b s H l us a Q E j he J u hs=>rT (F.run A b s H l us a Q E0 j he J u (g _ _ _ _ hs)) λr s' h=>?_}
 cases r with
 |error e=>
  ext yA h x T C d a0 c;ext wG c H' _ _ _ _ c;ext zS c _ _ _ _ _ c;ext oA c _ z;exact z.elim
 |ok y=>cases y<;>exact h
end
end K43
namespace K43
open PySem L2
mutual
theorem zJt:∀t:T,T.few t->lsz t=T.sz t/\vU t=T.dep t
 |.lst c,h=>by
  obtain⟨a,b⟩:=zHr c h.2;exact{congrArg (· +1) a,congrArg (· +1) b}
 |.dic ks c,h=>by
  obtain⟨a,b⟩:=zHr c h.2.2.2;exact{congrArg (· +1) a,congrArg (· +1) b}
 |.tup _,h=>h.elim|.non,_=>⟨O,O⟩|.bl _,_=>⟨O,O⟩|.int _,_=>⟨O,O⟩|.str _,_=>⟨O,O⟩
theorem zHr:∀us:List T,i4 us->vY us=T.szs us/\wD us=T.deps us
 |[],_=>⟨O,O⟩|t::us,h=>by
  obtain⟨a,b⟩:=zJt t h.1;obtain⟨c,d⟩:=zHr us h.2;exact{by show lsz t+vY us=T.sz t+T.szs us;rw[a,c],by show max (vU t) (wD us)=max (T.dep t) (T.deps us);rw[b,d]}
end
mutual
theorem zIa:∀t:T,T.few t->lnar t=true->T.fewm 30 t
 |.lst b,h,n=>by
  let a:(decide (b...*<=60)&& xM b)=true:=n;rw[pA] at a;exact{h.1,zAu b h.2 a.2}
 |.dic ks b,h,n=>by
  let a:(decide (ks...*<=30)&& xM b)=true:=n;rw[pA,pO] at a;exact{h.1,a.1,h.2.2.1,zAu b h.2.2.2 a.2}
 |.tup _,h,_=>h.elim|.non,_,_=>mK|.bl _,_,_=>mK|.int _,_,_=>mK|.str _,_,_=>mK
theorem zAu:∀us:List T,i4 us->xM us=true->i3 30 us
 |[],_,_=>mK|t::us,h,n=>by
  let a:(lnar t && xM us)=true:=n;rw[pA] at a;exact{zIa t h.1 a.1,zAu us h.2 a.2}
end
theorem zFg{t:T}(c:T.few t)(h:xU t=true):T.fewm 30 t/\T.dep t<=8/\T.sz t<=200:=by
 unfold xU at h;rw[pA,pA,pO,pO] at h;obtain⟨a,b⟩:=zJt t c;exact nAA (zIa t c h.1.1) ∅ ∅
theorem BaseI.good{t:T}(h:BaseI t):xU t=true:=by
 obtain⟨a,b⟩:=zJt t (c6 ∎ _ h.f);let d:=h.d;let z:=h.z;unfold xU;rw[h.n,nF (show vU t<9 by lia),nF (show lsz t<201 by lia)]
 rfl
theorem yDc:∀(ds:C4)(k:Nat)(t u:T),wL k ds t= .inr u->kJ ds t=Y u
 |[],k,t,u,h=>by cases h;rfl|d::ds,k,t,u,h=>by
  cases a:doT d.1 d.2.2 d.2.1 t with|none=>rw[jT a] at h;cases h|some q=>rw[qV a] at h;rw[zEu a];exact yDc ds (k+1) q u h
theorem yDj:∀(ds:C4)(k:Nat)(t u:T),kJ ds t=Y u->wL k ds t= .inr u
 |[],k,t,u,h=>by cases h;rfl|d::ds,k,t,u,h=>by
  cases a:doT d.1 d.2.2 d.2.1 t with
  |none=>
   rw[show kJ (d::ds) t=(doT d.1 d.2.2 d.2.1 t).bind (kJ ds) from O,a] at h;cases h
  |some q=>rw[zEu a] at h;rw[qV a];exact yDj ds (k+1) q u h
theorem zXc{s g:T}{k:Key}(e:T.few s)(h:zV s k=Y g):1+T.dep g<=T.dep s:=by
 rcases zJg h with⟨b,i,rfl,rfl⟩|⟨d,b,z,rfl,rfl⟩
 ·let a:b[i.toNat]? =Y g:=h
  let:=b7 (mO a);show 1+T.dep g<=T.deps b+1
  lia
 ·let a:(if ts z∈d then Y (yH (ts z) d b) else none)=Y g:=h
  by_cases c:ts z∈d
  ·rw[mP c] at a
   cases a;let:=b7 (xK c e.2.2.1);show 1+T.dep _<=T.deps b+1
   lia
  ·rw[mI c] at a;cases a
theorem zZw:∀(ks:B8)(s g:T),T.few s->atT ks s=Y g->ks...*+T.dep g<=T.dep s
 |[],s,g,_,h=>by cases h;simp|k::ks,s,g,e,h=>by
  let d:(zV s k).bind (atT ks)=Y g:=h
  cases c:zV s k with
  |none=>rw[c] at d;cases d|some u=>
   rw[c] at d;let a:=zXc e c;let b:=zZw ks u g (kM e c) d;rw[mW]
   lia
theorem bk_og{s:T}{d:Dd}(l:T.few s)(r:T.gk s)(u:T.dep s<=15)(o:Od d)(h:gn1 s d=true):Og (bkD s d):=by
 let p:=gn1_all.mp h;let t:=o.l;let tak:Og (.tak,d.2.1, .non):={{o.s,o.l,mK,mK,by show d.2.1...*+0<=15;lia,by show 1<=200;decide},λz=>absurd O z};let f:∀g w,atT d.2.1 s=Y g->xU g=true->Og (w,d.2.1,g):=λg w e i=>by
  obtain⟨m,_⟩:=yDq (ks:=d.2.1) l;rw[e] at m;obtain⟨a,b,c⟩:=zFg m i;let:=zZw _ s g l e;exact{{o.s,o.l,b8 ∎ _ a,zZu _ s g l r e,by show d.2.1...*+T.dep g<=15;lia,c},λ_=>i}
 unfold bkD
 cases k:atT d.2.1 s with
 |none=>exact tak|some g=>
  let j:=p g k
  cases n:d.1 with
  |ins=>exact tak|put=>exact f g _ k (j (by rw[n];intro z;cases z))|tak=>
   let z:=j (by rw[n];intro z;cases z)
   cases d.2.1.getLast? with|none=>exact f g _ k z|some q=>cases q<;>exact f g _ k z
theorem zFw:∀(ds:C4)(k m:Nat)(t r:T),wL k ds t= .inr r->RJ m ds t->gns ds t=true->∀d'∈qP ds t,Og d'
 |[],k,m,t,r,_,_,_,d',h=>nomatch h|d::ds,k,m,t,r,h,J,c,d',a=>by
  cases b:doT d.1 d.2.2 d.2.1 t with
  |none=>rw[jT b] at h;cases h|some q=>
   rw[qV b] at h;rw[zOi b,pA] at c;rw[zCf b] at a;rcases nB.mp a with z | z
   ·exact zFw ds (k+1) (m+1) q r h (J.step b) c.2 d' z
   ·rw[mH.mp z]
    exact bk_og J.few J.g J.d (J.o d mD) c.1
theorem zDo:∀(ds:C4)(k:Nat)(t r:T),wL k ds t= .inr r->(qP ds t)...*=ds...*
 |[],k,t,r,_=>rfl|d::ds,k,t,r,h=>by
  cases a:doT d.1 d.2.2 d.2.1 t with
  |none=>rw[jT a] at h;cases h|some q=>
   rw[qV a] at h;rw[zCf a,mM,zDo ds (k+1) q r h]
   rfl
theorem zYd{ds:C4}{m:Nat}{t u:T}(J:RJ m ds t)(r:ds...*<=20)(o:xU t=true)(g:wL 0 ds t= .inr u)(q:T.gk u)(j:T.few u)(f:xU u=true)(i:gns ds t=true):RJ 31 (qP ds t) u/\∃t',wL 0 (qP ds t) u= .inr t'/\xU t'=true/\Eqc t' t/\T.few t':=by
 obtain⟨a,b,c⟩:=zFg j f;let s:=zDo ds 0 t u g;let p:=zFw ds 0 m t u g J i;let e:RJ 31 (qP ds t) u:={b8 ∎ _ a,mE _,∅,q,∅,∅,λd n=>(p d n).o};obtain⟨t',k,l⟩:=zIe ds m 31 t u u J (yDc _ _ _ _ g) e (Eqc.refl j);let h:RJ (31+(qP ds t)...*) [] t':=RJ.run (a:=qP ds t) (b:=[]) (by rw[pJ];exact e) k;exact uP e t' (yDj _ _ _ _ k) (Eqc.good J.few h.few l o) (Eqc.symm J.few h.few l) h.few
noncomputable def alk(t t':T):Bool:=decide (wC (zO t) (zO t')=0)
theorem zGx{t:T}(h:T.few t):alk t t=true:=nF (zCu (T.dep t+1) t h (tE _))
noncomputable def dlT(d:Dd):T:=match ddT d with|.tup us=>.lst us|t=>t
theorem yGv(d:Dd):∃us,ddT d= .tup us/\dlT d= .lst us:=by
 obtain⟨w,a,n⟩:=d;cases w<;>exact⟨_,O,O⟩
theorem Od.row{d:Dd}(h:Od d):T.fewm 31 (dlT d)/\T.dep (dlT d)<=17/\T.sz (dlT d)<=220:=by
 obtain⟨w,a,n⟩:=d;let f:T.fewm 31 n:=h.f;let i:a...*<=8:=h.l;let ld:a...*+T.dep n<=15:=h.dd;let g:T.sz n<=200:=h.z;obtain⟨e,k,j⟩:=zKq a;let c:T.fewm 31 (.lst (a.map kT)):={by rw[mN];lia,i7 ∎ _ e};let b:∀z:Str,T.fewm 31 (.lst [.str (ts z), .lst (a.map kT),n])/\T.dep (.lst [.str (ts z), .lst (a.map kT),n])<=17/\T.sz (.lst [.str (ts z), .lst (a.map kT),n])<=220:=λz=>by
  refine nAA {by show 3<=100000;decide,mK,c,f,mK} ?_ ?_
  ·show max 0 (max (T.deps (a.map kT)+1) (max (T.dep n) 0))+1<=17
   lia
  ·show 1+((T.szs (a.map kT)+1)+(T.sz n+0))+1<=220
   lia
 cases w with
 |put=>exact b _|ins=>exact b _|tak=>
  refine nAA {by show 2<=100000;decide,mK,c,mK} ?_ ?_
  ·show max 0 (max (T.deps (a.map kT)+1) 0)+1<=17
   lia
  ·show 1+((T.szs (a.map kT)+1)+0)+1<=220
   lia
theorem zQl{ds:C4}(h:∀d∈ds,Od d)(i:ds...*<=12):T.fewm 31 (.lst (ds.map dlT))/\T.dep (.lst (ds.map dlT))<=18/\T.sz (.lst (ds.map dlT))<=5000:=by
 refine nAA {by rw[mN];lia,d7 λt b=>?_} ?_ ?_
 ·obtain⟨d,c,rfl⟩:=nV.mp b
  exact(h d c).row.1
 ·let:T.deps (ds.map dlT)<=17:=d8 λt b=>by
   obtain⟨d,c,rfl⟩:=nV.mp b;exact(h d c).row.2.1
  show T.deps (ds.map dlT)+1<=18
  lia
 ·let a:∀ds:List Dd,(∀d∈ds,Od d)->T.szs (ds.map dlT)<=220*ds...*:=λds=>by
   induction ds with
   |nil=>exact λ_=>nR _|cons d ds g=>
    intro h;let:=g λf e=>h f (mG _ e);let:=(h d mD).row.2.2;show T.sz (dlT d)+T.szs (ds.map dlT)<=220*(ds...*+1)
    lia
  let:=a ds h;show T.szs (ds.map dlT)+1<=5000
  lia
theorem Dlay.lst{H:Hp}{v:V}{d:Dd}(h:Dlay H v d):∃p us,v= .ref p/\H p=Y (.tup us)/\∀l b,Same H b->b l=Y (.lst us)->Rep b (.ref l) (dlT d):=by
 ext zU h u m r f t s;ext oA s y q;subst f;refine yDy u _ O t (λl b g k=>?_);obtain⟨w,c,n⟩:=d;let o:V.str w.s=V.str (tx (ts w.s)):=by rw[qJ]
 let a:Rep b (.ref m) (.lst (c.map kT)):={m,_,O,g _ _ y,zFj c};rcases q with⟨i,rfl⟩|⟨i,x,rfl,z⟩
 ·let j:w= .tak:=i
  subst j;exact{l,_,O,k,_,_,O,o,_,[],O,a,O}
 ·let e:dlT (w,c,n)= .lst [.str (ts w.s), .lst (c.map kT),n]:=by
   cases w with|tak=>exact absurd O i|_=>rfl
  rw[e];exact{l,_,O,k,_,_,O,o,_,_,O,a,_,[],O,Rep.same g _ _ z,O}
def LsI(H:Hp)(D:B9)(ys:B3)(ds:C4)(i:Nat)(zs:B3)(c:Hp):Prop:=Same H c/\∃E a,Sps H (ys.drop i) ((ds.drop i).map ddT) a/\(∀b∈a,b∈D)/\Sps c zs ((ds.take i).map dlT) E/\(∀b∈E,b∉a)/\∀b∈E,b∈D\/H b=none
theorem o8{H:Hp}{D:B9}{ys:B3}{ds:C4}(h:Sps H ys (ds.map ddT) D):LsI H D ys ds 0 [] H:={Same.refl _,[],D,h,λ_ z=>z,⟨O,O⟩,(λ_ z=>nomatch z),(λ_ z=>nomatch z)}
theorem LsI.step{H:Hp}{D:B9}{ys:B3}{ds:C4}{i:Nat}{zs:B3}{r:Hp}(h:LsI H D ys ds i zs r)(hl:ys...*=ds...*){v:V}(J:ys[i]? =Y v):∃p us,v= .ref p/\r p=Y (.tup us)/\∀l,r l=none->LsI H D ys ds (i+1) (zs++ [.ref l]) (upd r l (.lst us)):=by
 obtain⟨g,E,Dr,Q,n,N,d,j⟩:=h;let t:=(mJ.mp J).1;let I:ds[i]? =some ds[i]:=mQ ∅;let e1:ys.drop i=v::ys.drop (i+1):=by rw[nU t,(mJ.mp J).2]
 let e2:ds.drop i=ds[i]::ds.drop (i+1):=nU ∅;rw[e1,e2,nG] at Q;ext yN Q v' r' D1 D2 ev u;ext xA u eD L M h3;injection ev with y x;subst y x eD;obtain⟨us,t1,t2⟩:=yGv ds[i];rw[t1] at L;ext zU L p A q s hp u;ext oAA u w np m;subst s w;refine yDy p A O (g _ _ hp) (λl c=>?_);let B:=zF c (.lst A);let nl:∀b,b∈q->b≠l:=λb a z=>by
  obtain⟨o,f⟩:=Sps.there _ _ _ m a;let:=g _ _ f;rw[z,c] at this;cases this
 let k:H l=none:=zW g c;let nE:l∉E:=λz=>by
  obtain⟨o,f⟩:=Sps.there _ _ _ N z;rw[c] at f;cases f
 refine{g.trans B,E++l::q,D2,M,λb a=>n b (mX _ a), ?_,λb a e=>?_,λb a=>?_}
 ·rw[yO I,nI]
  refine Sps.snoc (show Sp1 _ (.ref l) (dlT ds[i]) (l::q) from ?_) (N.same B) λb a z=>?_
  ·rw[t2]
   exact{l,A,q,O,zC,O,λz=>nl l z O,(m.same g).same B}
  ·rcases mF.mp z with z | z
   ·exact nE (z▸a)
   ·exact d b a (nQ _ (mG _ z))
 ·rcases nB.mp a with z | z
  ·exact d b z (mX _ e)
  ·rcases mF.mp z with z | z
   ·obtain⟨o,f⟩:=Sps.there _ _ _ M e
    rw[z,k] at f;cases f
   ·exact h3 b (mG _ z) e
 ·rcases nB.mp a with z | z
  ·exact j b z
  ·rcases mF.mp z with z | z
   ·rw[z];exact .inr k
   ·exact .inl (n b (nQ _ (mG _ z)))
theorem LsI.end{H:Hp}{D:B9}{ys:B3}{ds:C4}{zs:B3}{d:Hp}(h:LsI H D ys ds ys...* zs d)(j:ys...*=ds...*){l:V1}(a:d l=none):∃E,Same H (upd d l (.lst zs))/\Sp1 (upd d l (.lst zs)) (.ref l) (.lst (ds.map dlT)) (l::E)/\H l=none/\∀b∈l::E,b∈D\/H b=none:=by
 obtain⟨g,E,n,_,_,e,_,c⟩:=h;let i:=zF a (.lst zs);rw[j,pG] at e;let k:l∉E:=λz=>by
  obtain⟨o,f⟩:=Sps.there _ _ _ e z;rw[a] at f;cases f
 refine zFx E (g.trans i) {l,zs,E,O,zC,O,k,e.same i} (zW g a) (λb m=>?_);rcases mF.mp m with z | z
 ·rw[z];exact .inr (zW g a)
 ·exact c b z
seal L2.PSs L2.PS L2.PE L2.PT L2.PW L2.PA L2.PI L2.PG L2.PGs L2.PPs L2.PTs
abbrev zLf:V6:=top 84
mutual
theorem zNx:∀t:T,m9 t<=2*T.dep t
 |.lst a=>by let:=zFk a;show j5 a+1<=2*(T.deps a+1);lia|.dic _ a=>by let:=zFk a;show j5 a+2<=2*(T.deps a+1);lia|.tup a=>by let:=zFk a;show j5 a+1<=2*(T.deps a+1);lia|.non=>nR _|.bl _=>nR _|.int _=>nR _|.str _=>nR _
theorem zFk:∀us:List T,j5 us<=2*T.deps us
 |[]=>nR _|t::us=>by
  let:=zNx t;let:=zFk us;show max (m9 t) (j5 us)<=2*max (T.dep t) (T.deps us)
  lia
end
theorem zBi{H H1 a:Hp}{D:B9}(g:Same H H1)(k:Keep D H1 a)(c:∀b∈D,H b=none):Same H a:=λb o e=>k b o (λz=>by rw[c b z] at e;cases e) (g _ _ e)
theorem zKg{H a:Hp}{v:V}{t:T}{D E:B9}(h:Sp1 H v t D)(k:Keep E H a)(c:∀b∈D,b∉E):Sp1 a v t D:=Sp1.keep _ _ _ (λb d o _ e=>k b o (c b d) e) h
theorem zZt{H a:Hp}{vs:B3}{ts:B0}{D E:B9}(h:Sps H vs ts D)(k:Keep E H a)(c:∀b∈D,b∉E):Sps a vs ts D:=Sps.keep _ _ _ (λb d o _ e=>k b o (c b d) e) h
theorem zBw{n:Nat}{H:Hp}{v u:V}{t t':T}{Q:VK}(d:Rep H v t)(b:Rep H u t')(c:T.few t)(a:T.few t')(f:2*T.dep t<=n)(e:2*T.dep t'<=n)(q:∀H',Same H H'->Q (.bl (alk t t')) H'):zPb n [v,u] H Q E0:={v,u,t,t',O,d,b,c,a,by let:=zNx t;lia,by let:=zNx t';lia,q}
section
variable{P:V3}{w:V4}{K:A9}{mg:C8}{base:V5}{f:V1}{fd:V7}{C2 C3:V1}
def yGc:Sp:=λg H Q _=>∃(v:V)(d:V1)(e:B3)(t r:T)(c:C4)(m:Nat),g= [v, .ref d]/\Rep H v t/\H d=Y (.lst e)/\Dlays H e c/\RJ m c t/\wL 0 c t= .inr r/\xU r=true/\∀y a D,Same H a->Sp1 a y r D->(∀b∈D,H b=none)->Q y a
theorem dn_of{k:Nat}{ps:C1}(F:FnOk P w K mg base (CXE aC P w) k f fd ps (zOw C2 C3)):FnOk P w K mg base CX0 k f fd ps yGc:=by
 let j:∀a H Q E,yGc a H Q E->zOw C2 C3 a H Q E0:=λa H Q E z=>by obtain⟨v,I,xs,t,r,B,m,e,D,L,h3,h4,n,N,q⟩:=z;exact {v,I,xs,t,B,m,e,D,L,h3,h4,(λM c _=>by rw[n] at c;rw[<-Sum.inr.inj c];exact q),(λM c p=>by rw[n] at c;rw[<-Sum.inr.inj c,N] at p;cases p),(λi o=>by rw[n] at o;cases o)}
 refine{λa H Q E h=>F.len a H Q E0 (j _ _ _ _ h),λA b s H l us a Q E c he J u hs=>rT (F.run A b s H l us a Q E0 c he J u (j _ _ _ _ hs)) λr s' h=>?_}
 cases r with
 |error e=>
  ext yA h x T C d a0 g;ext wG g H' _ _ _ _ g;ext zS g _ _ _ _ _ g;ext oA g _ z;exact z.elim
 |ok y=>cases y<;>exact h
abbrev rLst(K:A9):List V->Hp->VK->Prop:=λxs H Q=>∃p,xs= [V.ref p]/\∃x,(SqL K H p x\/SqT K H p x)/\∀(l:V1),H l=none->Q (V.ref l) (upd H l (HO.lst x))
theorem zDt{b:Hp}{k:V1}{xs:B3}{ds:C4}{σ:St}{r:VK}(u:b k=Y (.lst xs))(t:Dlays b xs ds)(j:ds...*<=12)(q:∀lq a,Same b a->Rep a (.ref lq) (.lst (ds.map dlT))->r (.ref lq) a):
  (∃xs,SqL K b k xs)/\wN [A8 "_law_deed_here"] [] (qQ 0) zBa (tCB (rLst K) (vK (jC 0) zAh)) σ r (Itl K k) b:=by
 let m:=t.1;refine{{_,SqL.of u},wJ (K:=K) (xs:=xs) (λi c a=>Same b a/\Reps a c ((ds.take i).map dlT)) (by rw[mS];lia) {Same.refl _,O} (λi c a _ h=>SqL.of (h.1 _ _ u)) ?_ ?_}
 ·rintro i v c a o _ ⟨g,e⟩
  let y:=(mJ.mp o).1;let d:ds[i]? =some ds[i]:=mQ ∅;refine yL ((t.2 i v _ o d).lst) λp x n z A=>?_;subst n;refine{p,O,x, .inr (SqT.of (g _ _ z)),λl j=>?_};let s:=zF j (.lst x);refine{g.trans s, ?_};rw[yO d,nI];exact Reps.snoc (A l _ (g.trans s) zC) (Reps.same s _ _ e)
 ·rintro c a _ ⟨g,e⟩ l j
  let s:=zF j (.lst c);rw[m,pG] at e;exact q l _ (g.trans s) {l,c,O,zC,Reps.same s _ _ e}
theorem zEv{c:Hp}{j:V1}{ys:B3}{ds:C4}{D:B9}{σ:St}{m:VK}(e:c j=Y (.lst ys))(o:Sps c ys (ds.map ddT) D)(z:ds...*<=400)(q:∀lq E a,Same c a->Sp1 a (.ref lq) (.lst (ds.map dlT)) (lq::E)->(∀b∈lq::E,b∈D\/c b=none)->m (.ref lq) a):
  (∃xs,SqL K c j xs)/\wN [A8 "_law_deed_here"] [] (qQ 0) zBa (tCB (rLst K) (vK (jC 0) zAh)) σ m (Itl K j) c:=by
 let n:=(Dlays.of (Sps.rep _ _ _ o)).1;refine{{_,SqL.of e},wJ (K:=K) (xs:=ys) (λi d a=>LsI c D ys ds i d a) (by rw[mS];lia) (o8 o) (λi d a _ h=>SqL.of (h.1 _ _ e)) ?_ ?_}
 ·rintro i v d a r _ h
  refine yL (h.step n r) λp y l e u=>?_;subst l;exact{p,O,y, .inr (SqT.of e),u}
 rintro d a _ h s k;refine jD (h.end n k) λE g x _ t=>?_;exact q s E _ g x t
def Out(d H:Hp)(a:V)(ds:C4)(t:T):Prop:=
 (∃(r:T)(l:V1)(c:B3)(D:B9),wL 0 ds t= .inr r/\xU r=true/\gns ds t=true/\a= .ref l/\d l=none/\H l=Y (.lst c)/\Sps H c ((qP ds t).map ddT) D/\∀b∈D,d b=none/\b≠l)\/
 (∃(r:T)(p:V1),wL 0 ds t= .inr r/\(xU r && gns ds t)=false/\a= .ref p/\H p=Y (.tup [.str (A8 "TooGreat")]))\/
 ∃(i:Nat)(p:V1),wL 0 ds t= .inl i/\a= .ref p/\H p=Y (.tup [.str (A8 "NoDeed"), .int (i:Int)])
theorem Out.same{m H k:Hp}{j:V}{ds:C4}{t:T}(g:Same H k)(h:Out m H j ds t):Out m k j ds t:=by
 rcases h with⟨r,l,n,D,a,b,c,d,e,f,h,i⟩|⟨r,p,a,b,c,d⟩|⟨i,p,a,b,c⟩
 ·exact .inl {r,l,n,D,a,b,c,d,e,g _ _ f,h.same g,i}
 ·exact .inr (.inl {r,p,a,b,c,g _ _ d})
 ·exact .inr (.inr {i,p,a,b,g _ _ c})
def zPy(K:A9):Sp:=λc H Q _=>∃(a:V1)(b:List Int),c= [.ref a]/\SqL K H a (b.map V.int)/\b...*<=63/\∀d,Q (.bl true) d
theorem yFo{k:Nat}(F:Fun K "law" "law" zLf f fd)(B:Bl6 mg)(ar:Dn P w K mg base k "_law_drawn" ["_law_script","_law_many"] (spDr K))(aj:Dn P w K mg base k "_law_held" ["_law_thing"] (zGt 20))(az:Dn P w K mg base k "_law_told" ["_law_thing","_law_paper"] spTo)(e:Dn P w K mg base k "_law_same" ["_law_one","_law_other"] (zPb 40))(ay:Dn P w K mg base k "_law_good" ["_law_thing"] yGm)(aa:Dn P w K mg base k "_law_covers_good" ["_law_drawn_here"] spCv)(a5:Dn P w K mg base k "is_paper" ["thing"] zYp)(I:Dn P w K mg base k "_law_paper_copy" ["_law_paper"] spPc)(bw:Dn P w K mg base k "back" ["thing","paper"] yEv)(ba:Dn P w K mg base k "done" ["thing","paper"] yGc)(am:Dn P w K mg base k "_law_rows_of" ["_law_thing","_law_paper"] yEw)(g:Dn P w K mg base k "_law_own_marks" ["_law_thing","_law_number"] (zXr 20)):FnOk P w K mg base CX0 (k+1) f fd ["_law_script"] (zPy K):=by
 refine F.okn (N:=["_law_script","_law_drawn_here","_law_thing","_law_paper","_law_held_here","_law_result","_law_behind","_law_handed","_law_first","_law_kept","_law_told_here","_law_rows","_law_again"]) λgy A fa s H vs Q E nd hr h=>?_;ext zR h a ns fx ha e7 q;subst fx;let hu:=wY hr;let gz:=hr.units0;let b3:=hr.units;refine{_,(zD (pS 1 nd (pD ar hr (zA (pv 0) (zA zE zB))))
  (zD (pS 2 nd (pX zP (pv 1) zE))
  (zD (pS 3 nd (pX zP (pX zP (pv 1) zE) zE))
  (zD (pS 4 nd (pD aj hr (zA (zZ (zA (pv 2) (zA (xS (own:=["_law_deed_here"]) (F:=[]) {O,tb_g%,tb_g%,tb_g%, .nil} O (xG (pv 3)) (λ_ _ _ _=>yG (i:=0) (by show(xW ["_law_deed_here"] []).Nodup;decide+kernel) O (nO O)) (λ_ _ _ _=>yT) (λ_ _ _ _=>(yJ (vF (K:=K) O) O B.list yQ (zA (pv 0) zB)))) zB))) zB)))
  (zD (zFs (pS 5 nd (pD az hr (zA (pv 2) (zA (pv 3) zB)))))
  (zD (zT (xL (yD (pD e hr (zA (pv 4) (zA (zZ (zA (pv 2) (zA (xS (own:=["_law_deed_here"]) (F:=[]) {O,tb_g%,tb_g%,tb_g%, .nil} O (xG (pv 3)) (λ_ _ _ _=>yG (i:=0) (by show(xW ["_law_deed_here"] []).Nodup;decide+kernel) O (nO O)) (λ_ _ _ _=>yT) (λ_ _ _ _=>(yJ (vF (K:=K) O) O B.list yQ (zA (pv 0) zB)))) zB))) zB))))) (zG (zI vE)) zK)
  (zD (zT (gR (zFb (pX zP (pX zP (pv 1) zE) zE))) (zG (zI (pE (zHs b3) (pv 5) (xH (zA zL (zA (pX zP (pX zP (pv 1) zE) zE) zB)))))) zK)
  (zD (pS 6 nd (pX zP (pX zP (pX zP (pv 1) zE) zE) (wO xO zE)))
  (zD (zT (xL (yD (pD ay hr (zA (pv 6) zB)))) (zG (zI (pE (zHs b3) (pv 5) (xH (zA zL zB))))) zK)
  (zD (zT (yD (pI B.isinstance zH B.tuple uD (pv 5))) (zG (zI (vQ (pE (zHs b3) (pv 5) (xH (zA zL zB))) (qC (yFj (pD aa hr (zA (pX zP (pv 1) zE) zB))))))) zK)
  (zD (zT (i6 (jI (xL (yD (pI B.isinstance zH B.list yQ (pv 5)))) (jI (xL (yD (pD a5 hr (zA (pv 5) zB)))) (jP (pT zEp (zN yE O B.len yS (zA (pv 5) zB)) (zN yE O B.len yS (zA (pv 3) zB))))))) (zG (zI vE)) zK)
  (zD (pS 7 nd (zZ (zA (pD aj hr (zA (pv 2) zB)) (zA (pD I hr (zA (pv 3) zB)) zB))))
  (zD (pS 8 nd (pD bw hr (zA (pX zP (pv 7) zE) (zA (pX zP (pv 7) zE) zB))))
  (zD (gJ (i:=9) nd O (nO O) (own:=["_law_deed_here"]) (F:=[]) {O,tb_g%,tb_g%,tb_g%, .nil} O (xG (pD I hr (zA (pv 8) zB))) (λ_ _ _ _=>yG (i:=0) (by show(xW ["_law_deed_here"] []).Nodup;decide+kernel) O (nO O)) (λ_ _ _ _=>yT) (λ_ _ _ _=>(yJ (vF (K:=K) O) O B.list yQ (zA (pv 0) zB))))
  (zD (wP (pD g hr (zA (zZ (zA (pX zP (pv 7) zE) (zA (xS (own:=["_law_deed_here"]) (F:=[]) {O,tb_g%,tb_g%,tb_g%, .nil} O (xG (pX zP (pv 7) zE)) (λ_ _ _ _=>yG (i:=0) (by show(xW ["_law_deed_here"] []).Nodup;decide+kernel) O (nO O)) (λ_ _ _ _=>yT) (λ_ _ _ _=>(yJ (vF (K:=K) O) O B.list yQ (zA (pv 0) zB)))) zB))) (zA zE zB))))
  (zD (gJ (i:=10) nd O (nO O) (own:=["_law_deed_here"]) (F:=[]) {O,tb_g%,tb_g%,tb_g%, .nil} O (xG (pv 8)) (λ_ _ _ _=>yG (i:=0) (by show(xW ["_law_deed_here"] []).Nodup;decide+kernel) O (nO O)) (λ_ _ _ _=>yT) (λ_ _ _ _=>(yJ (vF (K:=K) O) O B.list yQ (zA (pv 0) zB))))
  (zD (zT (i6 (jI (xL (yD (pD e hr (zA (pv 10) (zA (pv 9) zB))))) (jI (pT zEp (pD g hr (zA (pv 10) (zA zE zB))) (pD g hr (zA (pv 9) (zA zE zB)))) (jP (xL (yD (pD e hr (zA (pv 10) (zA (pv 9) zB))))))))) (zG (zI vE)) zK)
  (zD (pS 11 nd (pD am hr (zA (pv 6) (zA (pv 5) zB))))
  (zD (zT (i6 (jI (gR (zFb (pX zP (pv 11) zE))) (jP (xL (yD (pD e hr (zA (pX zP (pX zP (pv 11) zE) (wO xO zE)) (zA (pv 2) zB)))))))) (zG (zI vE)) zK)
  (zD (zT (xL (yD (pD e hr (zA (pD ba hr (zA (pD ba hr (zA (pv 2) (zA (pv 3) zB))) (zA (pv 5) zB))) (zA (pv 2) zB))))) (zG (zI vE)) zK)
  (zD (wP (pD g hr (zA (xS (own:=["_law_deed_here"]) (F:=[]) {O,tb_g%,tb_g%,tb_g%, .nil} O (xG (pv 5)) (λ_ _ _ _=>yG (i:=0) (by show(xW ["_law_deed_here"] []).Nodup;decide+kernel) O (nO O)) (λ_ _ _ _=>yT) (λ_ _ _ _=>(yJ (vF (K:=K) O) O B.list yQ (zA (pv 0) zB)))) (zA zE zB))))
  (zD (pS 12 nd (pD bw hr (zA (pv 2) (zA (pv 3) zB))))
  (zG (zI (vQ (pD e hr (zA (pD ba hr (zA (pv 6) (zA (pv 12) zB))) (zA (pv 2) zB))) (qC (pD e hr (zA (pv 4) (zA (zZ (zA (pv 2) (zA (xS (own:=["_law_deed_here"]) (F:=[]) {O,tb_g%,tb_g%,tb_g%, .nil} O (xG (pv 3)) (λ_ _ _ _=>yG (i:=0) (by show(xW ["_law_deed_here"] []).Nodup;decide+kernel) O (nO O)) (λ_ _ _ _=>yT) (λ_ _ _ _=>(yJ (vF (K:=K) O) O B.list yQ (zA (pv 0) zB)))) zB))) zB))))))))))))))))))))))))))))), ?_}
 walk_at "st";refine cut3 λR J=>?_;lk;refine⟨a,ns,O,ha,e7,λl tr v o t u ds H1 g1 hl hv hB hT=>?_⟩;refine yA (id hT) λpp pr xs rs x z_=>?_;ext zS z_ t1 t2 t3 t4 t5 z_;ext zS z_ t6 tT tO tl tg z_;ext oAA z_ tf td tz;refine zY (SqL.of hl) (zQ (j:=0) O) (zY (SqL.of hl) (zQ (j:=1) O) (zY (SqL.of t1) (zQ (j:=0) O) ?_));let a6:RJ 31 ds t:=hB.rj tO tl;let gr:=t3.1;refine oAA (zQl tO tl) λfX dX zX=>?_;let bd:=hB.d;let bf:=b8 (show 30<=31 by decide) _ hB.f;let fW:T.fewm 31 (.lst [t, .lst (ds.map dlT)]):={by show 2<=100000;decide,bf,fX,mK};let a7:=c6 ∎ _ fW;let dW:T.dep (.lst [t, .lst (ds.map dlT)])<=19:=by show max (T.dep t) (max (T.dep (.lst (ds.map dlT))) 0)+1<=19;lia
 let c9:alk (.lst [t, .lst (ds.map dlT)]) (.lst [t, .lst (ds.map dlT)])=true:=zGx a7;subst J;refine uZ λR J=>?_;lk;refine zDt t2 t3 tl λlq H2 g2 hq p hp=>?_;let s3:=zF hp (.lst [v, .ref lq]);let e3:=zC (H:=H2) (a:=p) (o:=.lst [v, .ref lq]);generalize upd H2 p (.lst [v, .ref lq])=H3 at s3 e3⊢;let ap:=g2.trans s3;refine{.ref p, .lst [t, .lst (ds.map dlT)],O,{p,_,O,e3,v,_,O,Rep.same ap _ _ hv,_,[],O,Rep.same s3 _ _ hq,O},a7,∅,λvh H5 Dh g5 et fp=>?_};let e0:=Sp1.rep _ _ _ et;let af:=ap.trans g5;clear hq e3 hp s3 ap g5 fp et g2;let aw:=Rep.same af _ _ hv;let ct:=af _ _ hl;let fe:=hT.same af;let q1:=af _ _ t1;let q2:=af _ _ t2;let q3:=t3.same af;let q4:=af _ _ t4;let q5:=Rep.same af _ _ t5;clear hv hl hT t1 t2 t3 t4 t5 t6 af g1;subst J;refine uZ λR J=>?_;unfold zSk;lk;refine{λσ' H'=>∃rv,σ'= [Y (.ref a),Y (.ref l),Y v,Y (.ref pp),Y vh,Y rv,none,none,none,none,none,none,none]/\Same H5 H'/\Out H5 H' rv ds t, ?_, ?_}
 ·refine{v,pp,xs,t,ds,31,O,aw,q2,q3,a6,λr L e2 e3 lr ys D H6 g6 h1 h2 h3 h4=>?_,λr L e2 p2 H6 g6 h1=>?_,λi L p2 H6 g6 h1=>?_}
  ·exact zAm _ O g6 (.inl ⟨r,lr,ys,D,L,e2,e3,O,h1,h2,h3,h4⟩)
  ·exact zAm _ O g6 (.inr (.inl ⟨r,p2,L,e2,O,h1⟩))
  ·exact zAm _ O g6 (.inr (.inr ⟨i,p2,L,O,h1⟩))
 intro σ1 H6 z_;ext xC z_ rv e5 g6 hO;subst e5;subst J;refine uZ λR J=>?_;lk;refine zDt (g6 _ _ q2) (q3.same g6) tl λdr H7 g7 ex p7 ep=>?_;let s8:=zF ep (.lst [v, .ref dr]);let e8:=zC (H:=H7) (a:=p7) (o:=.lst [v, .ref dr]);generalize upd H7 p7 (.lst [v, .ref dr])=H8 at s8 e8⊢;let d0:=g7.trans s8;let cr:=g6.trans d0;refine zBw (t':=.lst [t, .lst (ds.map dlT)]) (Rep.same cr _ _ e0) {p7,_,O,e8,v,_,O,Rep.same cr _ _ aw,_,[],O,Rep.same s8 _ _ ex,O} a7 a7 ∅ ∅ λH9 g9=>{_,O,iN (by rw[c9];decide) ?_};let ao:=cr.trans g9;let dw:=(hO.same d0).same g9;clear hO ex e8 ep s8 d0 cr g9 g7 g6 H6 H7;subst J;refine uZ λR J=>?_;lk;refine zY (SqL.of (ao _ _ ct)) (zQ (j:=1) O) (zY (SqL.of (ao _ _ q1)) (zQ (j:=2) O) ?_);let c':∀z:Str,∀v∈ [V.str z],(∃i,v= .int i)\/∃z,v= .str z:=λz v hv=>.inr {z,mH.mp hv};rcases tT with⟨rfl,n⟩|⟨j,rfl,n⟩
 rotate_left
 ·refine nEA true (by simp) (iP O (zY (SqL.of (ao _ _ ct)) (zQ (j:=1) O) (zY (SqL.of (ao _ _ q1)) (zQ (j:=2) O) λp2 ac=>?_)))
  let fc:=zF ac (.tup [V.str (A8 "NoDeed"),V.int (j:Int)]);rcases dw with⟨r,_,_,_,L,_⟩|⟨r,_,L,_⟩|⟨i,pe,L,rfl,bq⟩
  ·rw[n] at L;cases L
  ·rw[n] at L;cases L
  ·rw[n] at L;cases L
   refine{pe,p2,_,O,O,fc _ _ bq,zC,λv hv=>?_,q _};rcases mF.mp hv with z | z
   ·exact .inr ⟨_,z⟩
   ·exact .inl {_,mH.mp z}
 refine nEA false (by simp) (iN ∎ ?_);subst J;refine cut2 λR J=>?_;lk;let fu:=c6 ∎ _ tf;refine zY (SqL.of (ao _ _ ct)) (zQ (j:=1) O) (zY (SqL.of (ao _ _ q1)) (zQ (j:=1) O) (zY (SqL.of (ao _ _ q4)) (xY _ _) {x,u,O,Rep.same ao _ _ q5,zOt _ fu,∅,∅,λev da=>{_,O, ?_}}));let cy:=dw.same da;let b4:=ao.trans da
 cases a8:xU u with
 |false=>
  refine iP O λp2 ac=>?_;let bt:=zF ac (.tup [V.str (A8 "TooGreat")]);rcases cy with⟨r,_,_,_,L,e2,_⟩|⟨r,pe,L,e2,rfl,bq⟩|⟨i,pe,L,_⟩
  ·rw[n] at L;cases L;rw[a8] at e2;cases e2
  ·exact{pe,p2,_,O,O,bt _ _ bq,zC,c' _,q _}
  ·rw[n] at L;cases L
 |true=>
 refine iN ∎ ?_;clear dw;subst J;refine uZ λR J=>?_;lk;rcases cy with⟨r,lr,ys,D,L,e2,cw,rfl,gd,ai,cn,fb⟩|⟨r,pe,L,e2,rfl,bq⟩|⟨i,pe,L,_⟩
 rotate_left
 ·rw[n] at L;cases L
  rw[a8,tL] at e2;refine nEA ("tuple") (zEy bq) (iP ∎ λp2 ac=>?_);let bt:=zF ac (.tup [V.str (A8 "TooGreat")]);let es:=zC (H:=ev) (a:=p2) (o:=.tup [V.str (A8 "TooGreat")]);generalize upd ev p2 (.tup [V.str (A8 "TooGreat")])=bp at bt es⊢;let ae:=b4.trans bt;refine{pe,p2,_,O,O,bt _ _ bq,es,c' _, ?_};show∃c,V.bl true=V.bl c/\_;refine nEA true O (iP O (zY (SqL.of (ae _ _ ct)) (zQ (j:=1) O) {tr,t,u,ds,_,31,O,fe.same ae,n,a6,λdh bh=>{_,O, ?_}}));rw[e2];exact q _
 ·rw[n] at L;cases L
 rw[n] at L;cases L;refine nEA ("list") (wQ ai) (iN ∎ ?_);clear c';subst J;refine uZ λR J=>?_;lk;let f0:=zDo ds 0 t u n;let og:=zFw ds 0 31 t u n a6 cw;refine yIl (zYd a6 ∅ hB.good n tg fu a8 cw) λJ2 t' an cf ei cv=>?_;refine oAA (zFg cv cf) λ_ gh _=>?_;refine oAA (zFg fu a8) λ_ du _=>?_;let b0:alk t' t=true:=nF ei;let cq:=c6 ∎ _ hB.f;obtain⟨bs,dx⟩:∃bs,qP ds t=bs:=⟨_,O⟩;rw[dx] at cn f0 og J2 an;let dc:=Dlays.of (Sps.rep _ _ _ cn);let fj:=dc.1;let oO:∀d∈bs,Od d:=λd hd=>(og d hd).o;refine nEA ("list") (wQ ai) (iN ∎ {lr,ys,bs,O,ai,fj,∅,λi v d hv hd=>{dc.2 i v d hv hd,og d (mO hd)},λbp bo=>{true,O,iN ∎ {ys,SqL.of (bo _ _ ai),xs,SqL.of (bo _ _ (b4 _ _ q2)),false,nF ∅,iN ∎ ?_}}});let ae:=b4.trans bo;let a2:=bo _ _ ai;let be:=cn.same bo;clear cn ai da bo dc ao og e2;subst J;refine cut2 λR J=>?_;lk;refine{v,t,O,Rep.same ae _ _ aw,cq,∅,λvt dh Dt bh a0 ew=>?_};let c5:=ae.trans bh;refine{pp,xs,ds,O,c5 _ _ q2,q3.same c5,∅,tO,λlc cs D2 ek ap ga a' cu ef p0 fy=>?_};let av:=zF fy (.lst [vt, .ref lc]);let ch:=zC (H:=ek) (a:=p0) (o:=.lst [vt, .ref lc]);generalize upd ek p0 (.lst [vt, .ref lc])=d4 at av ch⊢;let dp:=Dlays.of (Sps.rep _ _ _ cu);let f2:=dp.1;refine zY (SqL.of ch) (zQ (j:=0) O) (zY (SqL.of ch) (zQ (j:=1) O) {vt,lc,cs,t,u,ds,31,O,Sp1.rep _ _ _ (Sp1.same (ap.trans av) a0),av _ _ a',dp.same av,a6,n,a8,cw,λlf fs D1 fv af er ax bm dm=>?_});rw[dx] at bm;let dn:=Dlays.of (Sps.rep _ _ _ bm);let em:=dn.1;subst J;refine uZ λR J=>?_;lk;refine{lf,fs,bs,O,ax,dn,∅,oO,λl2 c2 D3 f5 dk fw cb d3 eu=>?_};refine nEA l2 O (zEv cb d3 ∅ λlk Ek fi gk dt en=>?_);let bj:∀b∈lk::Ek,fv b=none:=λb M=>(en b M).elim (λz=>(eu b z).1) λz=>zW dk z;let ag:=dk.trans gk;clear en eu d3 cb fw;subst J;refine uZ λR J=>?_;lk;let a4:=af.trans ag;let aq:=av.trans a4;let ah:=ap.trans aq;let a3:=a4 _ _ ch;let cg:=aq _ _ a';let ck:=cu.same aq;refine zY (SqL.of a3) (zQ (j:=0) O) (zY (SqL.of a3) (zQ (j:=1) O) {lc,O,zEv cg ck ∅ λlm Em ez gm de df=>?_});intro p2 ac;let b2:=zF ac (.lst [vt, .ref lm]);let dj:=zC (H:=ez) (a:=p2) (o:=.lst [vt, .ref lm]);generalize upd ez p2 (.lst [vt, .ref lm])=fr at b2 dj⊢;let bv:∀b∈lm::Em,dh b=none:=λb M=>(df b M).elim (λz=>(ef b z).1) λz=>zW ah z;let ab:∀b∈Dt,∃o,dh b=Y o:=λb M=>Sp1.there _ _ _ a0 M;let ea:Sp1 fr (.ref p2) (.lst [t, .lst (ds.map dlT)]) (p2::(Dt++(lm::Em))):=by
  refine{p2,_,Dt++(lm::Em),O,dj,O,λz=>?_,{vt,[.ref lm],Dt,lm::Em,O,O,Sp1.same (ah.trans (gm.trans b2)) a0,Sps.one (Sp1.same b2 de),λb M z=>?_}}
  ·rcases nB.mp z with y | y
   ·obtain⟨o,ho⟩:=ab _ y
    rw[(ah.trans gm) _ _ ho] at ac;cases ac
   ·obtain⟨o,ho⟩:=Sp1.there _ _ _ de y
    rw[ac] at ho;cases ho
  ·obtain⟨o,ho⟩:=ab _ M
   rw[bv b z] at ho;cases ho
 let bi:∀b,d4 b=none->(∃o,fi b=Y o)->b∉p2::(Dt++(lm::Em)):=λb M ⟨o,ho⟩ z=>by
  rcases mF.mp z with y | y
  ·rw[y] at ho;rw[gm _ _ ho] at ac;cases ac
  ·rcases nB.mp y with y | y
   ·obtain⟨o',dy⟩:=ab _ y
    rw[(ap.trans av) _ _ dy] at M;cases M
   ·rcases df b y with y | y
    ·obtain⟨o',dy⟩:=Sps.there _ _ _ cu y
     rw[av _ _ dy] at M;cases M
    ·rw[y] at ho;cases ho
 refine{.ref p2,_,_,0,O,ea,a7,∅,λco f7 bu _ _=>?_};let cd:∀b∈p2::(Dt++(lm::Em)),bp b=none:=λb M=>by
  rcases mF.mp M with y | y
  ·rw[y];exact zW (bh.trans (ah.trans gm)) ac
  ·rcases nB.mp y with y | y
   ·exact ew b y
   ·exact zW bh (bv b y)
 let ak:=gm.trans b2;let a9:Same bp co:=zBi (bh.trans (ah.trans ak)) bu cd;let au:Same bp d4:=bh.trans (ap.trans av);let bz:co lf=Y (.lst fs):=bu _ _ (bi lf er {_,ag _ _ ax}) (ak _ _ (ag _ _ ax));let ce:Sps co fs (bs.map ddT) D1:=zZt (bm.same (ag.trans ak)) bu λb M=>bi b (dm b M).1 (by
  obtain⟨o,ho⟩:=Sps.there _ _ _ bm M;exact{o,ag _ _ ho})
 let a1:Sp1 co (.ref lk) (.lst (bs.map dlT)) (lk::Ek):=zKg (Sp1.same ak dt) bu λb M=>bi b (zW af (bj b M)) (Sp1.there _ _ _ dt M);clear ea bi ab bv de df ck cg a3 bu cd dj b2 ac gm cu dp a0 ch a' ew ef dt ak aq ah;subst J;refine uZ λR J=>?_;lk;refine zEv bz ce ∅ λlt Et ge gt a0 dv=>?_;subst J;refine uZ λR J=>?_;lk;let dz:∀b∈lt::Et,b∉lk::Ek:=λb M z=>by
  rcases dv b M with y | y
  ·obtain⟨o,ho⟩:=Sps.there _ _ _ bm y
   rw[bj b z] at ho;cases ho
  ·obtain⟨o,ho⟩:=Sp1.there _ _ _ a1 z
   rw[y] at ho;cases ho
 refine oAA (zQl oO ∅) λgX eX yX=>?_;let bn:=c6 ∎ _ gX;let eb:=zGx bn;let bc:=Sp1.same gt a1;refine zBw (Sp1.rep _ _ _ a0) (Sp1.rep _ _ _ bc) bn bn ∅ ∅ λgg cm=>{_,O,iN (by rw[eb];decide) ?_};refine{.ref lt,_,_,0,O,Sp1.same cm a0,bn,∅,λfh g3 d1 b' ed=>?_};let cc:=zKg (Sp1.same cm bc) d1 λb M z=>dz b z M;refine{.ref lk,_,_,0,O,cc,bn,∅,λf1 f9 d2 cl f3=>?_};let br:=zKg b' d2 λb M=>dz b (ed b M);obtain⟨fY,dY⟩:=zPj (m:=31) 20 (.lst (bs.map dlT)) 0 {gX,∅} ∅;let cp:=c6 ∎ _ fY;let cx:=zGx cp;refine zPi O false (by simp) (iN ∎ ?_);refine zBw (Sp1.rep _ _ _ br) (Sp1.rep _ _ _ cl) cp cp ∅ ∅ λf8 ee=>{_,O,iN (by rw[cx];decide) ?_};let b5:Same bp fh:=zBi (a9.trans (gt.trans cm)) d1 λb M=>(dv b M).elim (λz=>zW au (dm b z).1) λz=>zW a9 z;let ca:Same bp f1:=zBi b5 d2 λb M=>zW au (zW af (bj b M));let al:=ca.trans ee;clear dz a1 bc cc cl a0 b' br dv d1 d2 fY dY cp cx gt cm ee b5 ca a9 bm dm ce bz er ax dn em bj bh ap av af dk gk ag a4 au;subst J;refine uZ λR J=>?_;lk;let cj:=ae.trans al;refine{x,lr,ys,u,bs,31,O,Rep.same cj _ _ q5,al _ _ a2,Dlays.of (Sps.rep _ _ _ (be.same al)),J2,λlR gi gp xR e4 uR mR f6 dq di cz eq _ eh fk=>?_};obtain⟨rfl,rfl⟩:e4= .non/\uR=t':=by
  rcases eh with⟨L,e2⟩|⟨j,_,e2⟩
  ·rw[an] at e2;exact{L,(Sum.inr.inj e2).symm}
  ·rw[an] at e2;cases e2
 let c3:=cj.trans dq;subst J;refine uZ λR J=>?_;lk;refine zY (SqL.of di) (zQ (j:=2) O) {false,by simp,iN ∎ (zY (SqL.of di) (zQ (j:=1) O) (zY (SqL.of cz) (xY _ _) (zBw eq (Rep.same c3 _ _ aw) cv cq ∅ ∅ λf' eo=>{_,O,iN (by rw[b0];decide) ?_})))};let b1:=al.trans (dq.trans eo);let bx:=ae.trans b1;clear di cz eq eh fk dq eo c3 cj al;subst J;refine uZ λR J=>?_;lk;refine{v,pp,xs,t,u,ds,31,O,Rep.same bx _ _ aw,bx _ _ q2,q3.same bx,a6,n,a8,λy gw gf ft ec _=>?_};let bb:=b1.trans ft;refine{y,lr,ys,u,_,bs,31,O,Sp1.rep _ _ _ ec,bb _ _ a2,Dlays.of (Sps.rep _ _ _ (be.same bb)),J2,an,cf,λy2 g0 gj fn eg _=>?_};let ci:=bb.trans fn;refine zBw (Sp1.rep _ _ _ eg) (Rep.same (ae.trans ci) _ _ aw) cv cq ∅ ∅ λgl fz=>{_,O,iN (by rw[b0];decide) ?_};let bg:=ci.trans fz;let db:=bg _ _ a2;let dd:=be.same bg;let c0:=ae.trans bg;subst J;refine uZ λR J=>?_;lk;refine zEv db dd ∅ λln En go gn fl fg=>?_;refine{.ref ln,_,_,0,O,fl,bn,∅,λe6 gv fm _ _=>?_};let bl:Same H5 e6:=zBi (c0.trans gn) fm λb M=>(fg b M).elim (λz=>(fb b z).1) λz=>zW c0 z;subst J;refine uZ λR J=>?_;lk;refine{v,pp,xs,t,u,ds,31,O,Rep.same bl _ _ aw,bl _ _ q2,q3.same bl,a6,n,a8,cw,λla ya Da gq ff gs dg ey f4=>?_};rw[dx] at ey;let c4:=bl.trans ff;subst J;lk;refine{x,la,ya,u,_,bs,31,O,Rep.same c4 _ _ q5,dg,Dlays.of (Sps.rep _ _ _ ey),J2,an,cf,λy3 gc gb fo ej _=>?_};let c1:=c4.trans fo;refine zBw (Sp1.rep _ _ _ ej) (Rep.same c1 _ _ aw) cv cq ∅ ∅ λgu fq=>{true,by rw[b0],iP O ?_};let bk:=c1.trans fq;refine zDt (bk _ _ q2) (q3.same bk) tl λlz gx e' el p6 e9=>?_;let d':=zF e9 (.lst [v, .ref lz]);let b6:=e'.trans d';exact zBw (t':=.lst [t, .lst (ds.map dlT)]) (Rep.same (bk.trans b6) _ _ e0) {p6,_,O,zC,v,_,O,Rep.same (bk.trans b6) _ _ aw,_,[],O,Rep.same d' _ _ el,O} a7 a7 ∅ ∅ λH' _=>by rw[c9];exact q H'
end
end K43
namespace K43
open PySem L2 PySem.W
section
variable{K:Frag}{dT:V1}{kV doc pm cdv ct:V0}{an:Option V1}
theorem biCs{o:Obj}{h:V0}{n:Nat}(j:K.lookup dT=Y o)(g:o.data= .seq #[h] n):Binds K (fnOf "change_shared" "change_shared" (wH sCs) (xQ sCs) (yB sCs) (.ref dT) kV doc pm an cdv ct) ["thing","word","path","new"] []:=by
 refine λs k i f=>?_;rw[pJ] at f⊢;rcases k with _ |⟨a,_ |⟨b,_ |⟨c,_ |⟨d,_ |⟨e,r⟩⟩⟩⟩⟩
 case cons.cons.cons.cons.nil=>exact binds_K i O j g O O
 all_goals exact absurd f (by simp)
end
end K43
namespace K43
open PySem L2 PySem.W
def FA(K:A9)(x:Str)(st:V6)(f:V1):Prop:=S1 K A0 x=Y ↥(.ref f)/\∃d e kV c b g a h i,K.lookup f=Y {d,e, .func (W.fnOf x x (wH st) (xQ st) (yB st) .none kV c b g a h),i}/\S2 K a x=true/\S0 K (.ref f)=true
theorem FA.out{K:A9}{h:V5}{b:C8}{x:Str}{st:V6}{f:V1}(a:FA K x st f)(X:K.In h)(G:h.Ns A0 b):b x=Y (.ref f)/\(∃d,Fun K x x st f d)/\S0 K (.ref f)=true:=by
 obtain⟨a,i,m,kV,g,e,n,j,o,p,l,c,k⟩:=a;exact nAA (sA X G a) {_,zWh l c k} k
theorem zCe{P:V3}{w:V4}{K:A9}{a:C8}{base:V5}{k:Nat}{x:Str}{ps:C1}{sp:Sp}(j:Nat)(h:Dn P w K a base k x ps sp)(l:k<=j:=by decide):Dn P w K a base j x ps sp:=by
 obtain⟨_,_,z,b,p,m⟩:=h;exact{_,_,FnOk.mono z l,b,p,m}
section
variable{φ:V0->Prop}{P:V3}{w:V4}{K:A9}{mg:C8}{base h:V5}{k:Nat}{x:Str}{ps:C1}{sp:Sp}{st:V6}{f:V1}(X:K.In h)(G:h.Ns A0 mg)(j:Nat)(a:FA K x st f)
include X G a
theorem dn_mk(o:∀{c},Fun K x x st f c->FnOk P w K mg base CX0 k f c ps sp)(l:k<=j:=by decide)(b:∀c,Fun K x x st f c->Binds K c ps []:=by walk_at "b"):Dn P w K mg base j x ps sp:=by
 obtain⟨m,⟨c,F⟩,p⟩:=a.out X G;exact{_,_,FnOk.mono (o F) l,b _ F,p,m}
theorem yGg(o:∀{c},Fun K x x st f c->Binds K c ps []->S0 K (.ref f)=true->mg x=Y (.ref f)->FnOk P w K mg base CX0 k f c ps sp)(l:k<=j:=by decide)(b:∀c,Fun K x x st f c->Binds K c ps []:=by walk_at "b"):Dn P w K mg base j x ps sp:=by
 obtain⟨m,⟨c,F⟩,p⟩:=a.out X G;exact{_,_,FnOk.mono (o F (b _ F) p m) l,b _ F,p,m}
theorem yDh(o:∀{c},Fun K x x st f c->FnOk P w K mg base (CXE φ P w) k f c ps sp)(l:k<=j:=by decide)(b:∀c,Fun K x x st f c->Binds K c ps []:=by walk_at "b"):Dx φ P w K mg base j x ps sp:=by
 obtain⟨m,⟨c,F⟩,p⟩:=a.out X G;exact{_,_,FnOk.mono (o F) l,b _ F,p,m}
end
theorem all_mk{l:W.OpenLaw}{w:V4}{K:A9}{h:V5}{d:C8}{fa f0 f1 f2 f3 f4 f5 f6 f7 f8 f9 cr fy e9 gx ia ez ct jf gp gv h4 ip fo e4 iy dp de h8 jc dv dg dm c' c3 js dw gc co h1 dn jl et i1 hl eo fh eh fr hm dc gq d3 en i2 fe hx e2 hw gf ho el ay:V1}(X:K.In h)(G:h.Ns A0 d)(ft:d "law" =Y (.ref fa))
  {b6 ai:Option V1} {bq:Array (Option V0)} {bh ak ag ah I aj:V0}
  {u0:Tok}
  {u1:Tok}
  {v0:Tok}
  {v1:Tok}
  {v2:Tok}
  {v3:Tok}
  {v4:Tok}
  {v5:Tok}
  {v6:Tok}
  {v7:Tok}
  {J c j a:V1} {pN pF pD:V1} {pq:Str} {du:B7} {jq:C1} {bi:B7} {i':Bool} {cg:Option Bool} {ef:Option V1} {iz c4 gl fv gr:Option V0} {cp d':Option V1} {e5:Array (Option V0)} {dt jm gt fm ck e':V0} {fq:Option V1} {b0 d1:V0} {eu:Nat} {gs:Array (Option V0)} {dN dF dD:V1} {dq:Str} {hq:B7} {c5:C1} {bl:B7} {ej:Bool} {bk:Option Bool} {ii:Option V1} {ea gh jo dj ev:Option V0} {ex hj:Option V1} {h6:Array (Option V0)} {ga he c0 gd ce je:V0} {dy:Option V1} {bz hr:V0} {fu:Nat} {eg:Array (Option V0)} {tN:V1} {tq:Str} {it:B7} {gu:C1} {cd:B7} {hy:Bool} {b1:Option Bool} {e8:Option V1} {d4 ee g1 ib fj:Option V0} {hF hD:V1} {cb ax bb ao Q az gi:V0} {bt au g':Option V1} {bx gj:Array (Option V0)} {em:Nat}
  (a0:FA K "kind_of" zRz f0)
  (a1:FA K "is_name" zQq f1)
  (a2:FA K "is_text_sign" sSgn f2)
  (a3:FA K "is_thing" sTh f3)
  (a4:FA K "is_sound_outside" sSnd f4)
  (a5:FA K "holds_parts" sHp f5)
  (a6:FA K "parts_of" sPo f6)
  (a7:FA K "parts_of_all" sPz f7)
  (a8:FA K "copied" sCp f8)
  (a9:FA K "is_path" zRg f9)
  (ew:FA K "is_place" zUm cr)
  (e6:FA K "thing_at" sTa fy)
  (hf:FA K "has" sHas e9)
  (fc:FA K "stops_on" sSt gx)
  (gm:FA K "leads_on" sLo ia)
  (bo:FA K "sound" sSou ez)
  (gb:FA K "whole_changed" sWc ct)
  (ig:FA K "stops_to_last" sSl jf)
  (db:FA K "leads_within" sLw gp)
  (ic:FA K "can_change" sCc gv)
  (cw:FA K "part_changed" yDu h4)
  (hg:FA K "record_changed" sRec ip)
  (ju:FA K "row_changed" sRow fo)
  (cq:FA K "is_paper" yDw e4)
  (cu:FA K "is_deed" yDe iy)
  (b5:FA K "done" yDr dp)
  (hh:FA K "stands_of" sSo de)
  (im:FA K "after_deed" sAd h8)
  (cf:FA K "back" yEh jc)
  (cx:FA K "deed_back" sBk1 dv)
  (ep:FA K "_law_cell" yEi dg)
  (jk:FA K "_law_name_by" yEa dm)
  (hd:FA K "_law_signs" zUk c')
  (c1:FA K "_law_text_by" yDg c3)
  (dd:FA K "_law_number_by" sNum js)
  (go:FA K "_law_thing_by" zHb dw)
  (iw:FA K "_law_kind" yDp gc)
  (fp:FA K "_law_rows_compare" zQu co)
  (iv:FA K "_law_compare" zZm h1)
  (er:FA K "_law_same" yDf dn)
  (ei:FA K "_law_inner" zXv jl)
  (g9:FA K "_law_depth" zHg et)
  (eq:FA K "_law_size" zNi i1)
  (h5:FA K "_law_narrow" zCt hl)
  (g0:FA K "_law_good" zUl eo)
  (iu:FA K "_law_held" sCo fh)
  (h9:FA K "_law_put_in" sPi eh)
  (df:FA K "_law_deed_on" sDo fr)
  (jp:FA K "_law_base" sBa hm)
  (ds:FA K "_law_walk" sWk dc)
  (ja:FA K "_law_step_at" sSa gq)
  (g8:FA K "_law_deed" sDe d3)
  (i0:FA K "_law_deeds" sDs en)
  (h7:FA K "_law_pushing" sPu i2)
  (ff:FA K "_law_rows_of" sRo fe)
  (ie:FA K "_law_drawn" sDr hx)
  (gk:FA K "_law_paper_copy" sPc e2)
  (fs:FA K "_law_own_marks" sMk hw)
  (g7:FA K "_law_told" sTo gf)
  (hb:FA K "_law_there" sTh2 ho)
  (gw:FA K "_law_covers_good" sCv el)
  (dx:S1 K A0 "law" =Y ↥(.ref ay))
  (di:K.lookup ay=Y {bh,b6, .func (W.fnOf "law" "law" (wH zLf) (xQ zLf) (yB zLf) .none ak ag ah ai I aj),bq})
  (f':S2 K I "law" =true)
  (il:S0 K (.ref ay)=true)
  (z0:S1 K A0 "len" =Y none)
  (z1:S1 K A0 "range" =Y none)
  (z2:S1 K A0 "isinstance" =Y none)
  (z3:S1 K A0 "all" =Y none)
  (z4:S1 K A0 "sum" =Y none)
  (z5:S1 K A0 "int" =Y none)
  (z6:S1 K A0 "str" =Y none)
  (z7:S1 K A0 "bool" =Y none)
  (z8:S1 K A0 "list" =Y none)
  (z9:S1 K A0 "dict" =Y none)
  (ey:S1 K A0 "tuple" =Y none)
  (y0:S1 K A0 "max" =Y none)
  (y1:S1 K A0 "min" =Y none)
  (y2:S1 K A0 "sorted" =Y none)
  (r0:S1 K A0 "enumerate" =Y none)
  (q0:S1 K A0 "abs" =Y none)
  (q1:S1 K A0 "ord" =Y none)
  (dk:S1 K A0 "zip" =Y none)
  (s0:S1 K A0 "LETTERS" =Y ↥(.str (A8 "abcdefghijklmnopqrstuvwxyz") u0))
  (s1:S1 K A0 "NAME_SIGNS" =Y ↥(.str (A8 "abcdefghijklmnopqrstuvwxyz0123456789") u1))
  (n0:S1 K A0 "MOST_IN_NAME" =Y ↥(.int 12 v0))
  (n1:S1 K A0 "MOST_IN_TEXT" =Y ↥(.int 30 v1))
  (n2:S1 K A0 "MOST_IN_ROW" =Y ↥(.int 60 v2))
  (n3:S1 K A0 "MOST_IN_RECORD" =Y ↥(.int 30 v3))
  (n4:S1 K A0 "MOST_DEPTH" =Y ↥(.int 8 v4))
  (n5:S1 K A0 "MOST_SIZE" =Y ↥(.int 200 v5))
  (n6:S1 K A0 "MOST_STEPS" =Y ↥(.int 8 v6))
  (n7:S1 K A0 "MOST_DEEDS" =Y ↥(.int 400 v7))
  (ha:S1 K A0 "change_shared" =Y ↥(.ref hF))
  (hs:K.lookup hF=Y {cb,bt, .func (W.fnOf "change_shared" "change_shared" (wH sCs) (xQ sCs) (yB sCs) (.ref hD) ax bb ao au Q az),bx})
  (ht:S2 K Q "change_shared" =true)
  (hk:S0 K (.ref hF)=true)
  (hu:K.lookup hD=Y {gi,g', .seq #[.none] em,gj})
  (ec:S1 K A0 "CabinetError" =Y ↥(.ref J))
  (ik:S1 K A0 "reversed" =Y none)
  (bc:W.tailIn K veMro (.ref J::veMro)=true)
  (jv:W.specialIn K (.ref J) "__getattribute__" =Y ↥(.builtin "type.__getattribute__"))
  (cz:W.readsIn K J (.type "type")=true)
  (h3:W.findCls K (.ref J) (.type "type") "__init__" =Y (.val (.builtin "ValueError.__init__")))
  (hp:W.specialIn K (.builtin "object.__class__") "__get__" =Y ↥(.builtin "getset_descriptor.__get__"))
  (e0:W.takesIn K (.builtin "object.__class__")=Y true)
  (pa:S1 K A0 "NoPlace" =Y ↥(.ref c))
  (bp:K.lookup c=Y (excClassObj "NoPlace" pq c pN du (.ref J::veMro) true jq bi i' cg ef iz c4 gl fv gr "ValueError.__new__"))
  (g6:W.findIn K (.ref c) "__init__" =Y ↥(.ref pF))
  (fn:W.typeIn K (.ref pF)=Y (.type "function"))
  (h':W.findIn K (.ref c) "__setattr__" =Y ↥(.builtin "object.__setattr__"))
  (gg:W.findIn K (.ref c) "at" =Y none)
  (fb:S0 K (.ref c)=true)
  (fw:K.lookup pF=Y {dt,cp, .func (W.fnOf "__init__" "NoPlace.__init__" (wH jK) (xQ jK) (yB jK) (.ref pD) jm gt fm d' ck e'),e5})
  (eb:S2 K ck "NoPlace.__init__" =true)
  (e7:K.lookup pD=Y {b0,fq, .seq #[d1] eu,gs})
  (da:S1 K A0 "NoDeed" =Y ↥(.ref a))
  (bf:K.lookup a=Y (excClassObj "NoDeed" dq a dN hq (.ref J::veMro) true c5 bl ej bk ii ea gh jo dj ev "ValueError.__new__"))
  (fz:W.findIn K (.ref a) "__init__" =Y ↥(.ref dF))
  (jg:W.typeIn K (.ref dF)=Y (.type "function"))
  (gy:W.findIn K (.ref a) "__setattr__" =Y ↥(.builtin "object.__setattr__"))
  (g5:W.findIn K (.ref a) "at" =Y none)
  (ed:S0 K (.ref a)=true)
  (fi:K.lookup dF=Y {ga,ex, .func (W.fnOf "__init__" "NoDeed.__init__" (wH jM) (xQ jM) (yB jM) (.ref dD) he c0 gd hj ce je),h6})
  (d0:S2 K ce "NoDeed.__init__" =true)
  (cs:K.lookup dD=Y {bz,dy, .seq #[hr] fu,eg})
  (bn:W.findIn K (.ref a) "number" =Y none)
  (e1:W.findIn K (.ref a) "__getattribute__" =Y ↥(.builtin "BaseException.__getattribute__"))
  (jw:W.findIn K (.ref a) "__getattr__" =Y none)
  (dz:W.mroIn K a (.type "BaseException")=Y true)
  (cy:W.mroIn K a (.type "object")=Y true)
  (fk:W.hasDictIn K a=true)
  (gz:W.findIn K (.ref a) "__class__" =Y ↥(.builtin "object.__class__"))
  (ta:S1 K A0 "TooGreat" =Y ↥(.ref j))
  (c9:K.lookup j=Y (excClassObj "TooGreat" tq j tN it (.ref J::veMro) true gu cd hy b1 e8 d4 ee g1 ib fj "ValueError.__new__"))
  (ij:W.nsOkIn K tN=true)
  (ge:S1 K tN "__init__" =Y none)
  (io:S0 K (.ref j)=true)
  (jr:W.exmOne K (.ref c) (.ref c)=Y true)
  (bg:W.exmOne K (.ref a) (.ref a)=Y true)
  (cj:W.exmOne K (.ref j) (.ref a)=Y false)
  (ci:W.exmOne K (.ref j) (.ref j)=Y true):
  ∃fd:V7,(∀(s:V2)(v:V0),BindsTo s fd {[v],[]} [("_law_script",v)])/\∀base:V5,K.In base->base.Ns A0 d->FnOk l.prog w K d base CX0 107 fa fd ["_law_script"] (zPy K):=by
 let e:=ft.symm.trans (sA X G dx);cases e;let bu:=zWh (st:=zLf) di f' il;let B:Bl d:={pM X G z0,pM X G z1,pM X G z2,pM X G z3,pM X G z4,pM X G z5,pM X G z6,pM X G z7,pM X G z8,pM X G z9,pM X G ey};let q:Bl2 d:={B,pM X G y0,pM X G y1,pM X G y2};let B4:Bl4 d:={q,pM X G r0};let B5:Bl5 d:={q,pM X G q0,pM X G q1};let B6:Bl6 d:={q,pM X G dk};let M:Ms d:={{_,sA X G s0},{_,sA X G s1},{_,sA X G n0},{_,sA X G n1},{_,sA X G n2},{_,sA X G n3},{_,sA X G n4},{_,sA X G n5},{_,sA X G n6},{_,sA X G n7}};refine nEA (W.fnOf "law" "law" (wH zLf) (xQ zLf) (yB zLf) .none ak ag ah ai I aj) (λs v=>.of_eq O) (λbase _ _=>?_);let D {k x ps sp st f}:=@dn_mk l.prog w K d base h k x ps sp st f X G;let D3 {k x ps sp st f}:=@yGg l.prog w K d base h k x ps sp st f X G;let EnC {k x ps sp st f}:=@yDh nC l.prog w K d base h k x ps sp st f X G;let EaC {k x ps sp st f}:=@yDh aC l.prog w K d base h k x ps sp st f X G;obtain⟨mR,⟨_,FR⟩,pR⟩:=fp.out X G;let i:=D 1 ep λF=>yAm F B;let bw:=D 1 dd λF=>yGk F;let H:=D 1 jk λF=>yBv F B;let aa:=D 1 hd λF=>zVi F;let av:=D 2 c1 λF=>yBp F B aa;let r:=D3 (3+3) go λF b p m=>zSq (n:=3) (zJc F B i bw av H b p m);let E:=D3 (1+20) iu λF b p m=>zXh F B b p m 20;let bR:Binds K _ ["_law_one","_law_other"] []:=(by walk_at "b" :∀fd,Fun K "_law_rows_compare" "_law_rows_compare" zQu _ fd->Binds K fd ["_law_one","_law_other"] []) _ FR;let z:=D 1 iw λF=>yAo F B;let bm:=D3 (2+2*40) iv λF b p m=>zRn F FR q z b p m bR pR mR 40;let aw:=D (2+2*40+1) er λF=>yCu F q z bm;let h2:=D 1 a0 λF=>zGm F B;let be:=D3 (1+20) a8 λF b p m=>zYz F B b p m 20;let ba:=D 1 ei λF=>zVa F B;let g3:=D3 (2+20) g9 λF b p m=>zIm F q ba b p m 20;let hi:=D3 (2+20) eq λF b p m=>zMk F B ba b p m 20;let dr:=D3 (2+20) h5 λF b p m=>zHq F B ba b p m 20;let bv:=D 41 g0 λF=>zYj F B dr g3 hi;let ek:=D 6 ja λF=>ok_sa F q H;let ji:=D 6 ds λF=>ok_wk F q i;let g:=zCe 6 i;let fx:=D 23 g8 λF=>ok_de F q g ji ek r;let ir:=D 22 h9 λF=>ok_pi F B E;let ap:=zCe 22 E;let ca:=D 23 df λF=>ok_do F B ap ir;let u:=zCe 23 E;let fl:=D 41 i0 λF=>ok_ds F q u fx ca;let hv:=D 41 jp λF=>ok_ba F q g r;let A:=zCe 41 i;let br:=D 41 ff λF=>ok_ro F q u ca;let jd:=D 41 h7 λF=>ok_pu F q g;let es:=D 106 ie λF=>ok_dr F q A hv br jd fl;let c2:=D 1 a0 λF=>yHj (zGm F B);let o:=D 2 ew λF=>zXf F B M c2;let b':=D 1 gm λF=>ok_lo F B;let bj:=D 3 db λF=>ok_lw F B b' o;let ix:=D 4 ic λF=>ok_cc F B bj o;let ch:=D 1 hg λF=>yEx F B;let cc:=D 1 ju λF=>yHh F B;let an:=D 2 cw λF=>yCs F B ch cc;let mB:=sA X G ec;let XC:zEb K "NoPlace" c J pF:={⟨pN,_,bp,_,_,_,_,_,_,_,_,_,_,_,_,_,O⟩,{_,by unfold W.clsIn;rw[bp],O,O},bc,g6,fn,h',gg,fb};let XD:zEb K "NoDeed" a J dF:={⟨dN,_,bf,_,_,_,_,_,_,_,_,_,_,_,_,_,O⟩,{_,by unfold W.clsIn;rw[bf],O,O},bc,fz,jg,gy,g5,ed};let XB:zSa K J:=⟨jv,cz,h3⟩;let RN:Xr l.prog w K d base 1 "NoPlace" c:={_,_,_,_,_,XC,zVn fw eb XC XB mB,zLb e7 O O,sA X G pa};let RB:Xb K d "NoPlace" c:={_,_,_,XC,sA X G pa,jr};let RD:Xh l.prog w K d base 1 "NoDeed" a "number":={_,_,_,_,_,XD,zZe fi d0 XD bn XB mB,zMr cs O O,sA X G da};let RT:Xr0 K d "TooGreat" j:={_,_,{{tN,_,c9,⟨_,_,_,_,_,_,_,_,_,_,_,_,_,O⟩,ij,ge},bc,io},sA X G ta};let TF:Tf K d a j:={sA X G da,sA X G ta,bg,cj,ci,⟨e1,jw,dz,cy,fk,gz,hp,e0⟩,bn};let fg:=EnC 3 gb λF=>ok_wc F B RN;let jj:=EnC 4 ig λF=>ok_sl F B bj RN;let jb:FunD K "change_shared" "change_shared" sCs hF (W.fnOf "change_shared" "change_shared" (wH sCs) (xQ sCs) (yB sCs) (.ref hD) ax bb ao au Q az):={{cb,bt, .ref hD,ax,bb,ao,au,Q,az,bx,O,hs,ht}};let d2:=sA X G ha;let jh:Dx nC l.prog w K d base 5 "change_shared" ["thing","word","path","new"] (yBg c):={_,_,ok_cs jb B fg jj ix an RN,biCs hu O,hk,d2};let g4:=EaC 6 im λF=>ok_ad F B jh RD RB;let cl:=D 1 a1 λF=>zOn F B M;let hn:=D 1 a2 λF=>yFn F B5;let b2:=D 2 a4 λF=>yIm F B5 M h2 hn cl;let hz:=D 1 a5 λF=>ok_hp F B;let iq:=D 1 a6 λF=>ok_po F B;let hc:=D 2 a7 λF=>yFr F B iq;let ar:=D 3 a3 λF=>ok_th F B M b2 hz hc;let b4:=EaC 6 bo λF=>zWy F ar RT;let L:=EaC 25 hh λF=>ok_so F B4 g4 b4;let y:=zCe 25 be;let cn:=EaC 26 b5 λF=>zRh F L y;let a':=D 106 b5 λF=>dn_of (zRh F L y);let b3:=D 2 fc λF=>ok_st F B b';let cm:=D 22 hf λF=>yEt F B b3;let jt:=D 22 e6 λF=>ok_ta F B b3 be;let ac:=EaC 22 bo λF=>zWy F ar RT;let am:=EaC 25 cx λF=>yIb F B cm jt ac;let al:=pM X G ik;let N:=EaC 26 cf λF=>zRv F B4 al L am;let aq:=D 106 cf λF=>bn_of (zRv F B4 al L am);let dh:=D 106 g7 λF=>ok_to F TF N;let ih:=D 3 a9 λF=>zOl F B M cl o;let e3:=D 4 cu λF=>yBq F B ih ar;let bs:=D 106 cq λF=>yCn F B M e3;let bd:=D 41 hb λF=>yGj (k:=0) F B;let gn:=D 106 gw λF=>ok_cv F B bd bv;let cv:=D3 106 fs λF b p m=>zVd F q b p m 20;let h0:=D 106 gk λF=>ok_pc F B6 E;let ae:=zCe 106 E;let t:=zCe 106 aw;let af:=zCe 106 bv;let ab:=zCe 106 br;exact yFo bu B6 es ae dh t af gn bs h0 aq a' ab cv
theorem walk{l:W.OpenLaw}{q:V3}{b:C1}{m:(Str->Option V0)->V5->Prop}{e:V4->V5->Prop}{d:DefRec}{K:Params->A9}(p:l.most=Y 63)(c:d.params.defaults= [])
  (j:∀(w:V4)(h:V5),e w h->(K w.params).In h)
  (F:∀(w:V4)(mg:C8)(fa:V1)(h:V5),(K w.params).In h->h.Ns A0 mg->mg d.name=Y (.ref fa)->
   ∃fd:V7,(∀(s:V2)(u:V0),BindsTo s fd {[u],[]} [("_law_script",u)])/\∀base:V5,(K w.params).In base->base.Ns A0 mg->FnOk l.prog w (K w.params) mg base CX0 107 fa fd ["_law_script"] (zPy (K w.params))):
  W.WalkO q b m e l.row.toRowW d [] (λf vs=>PySem.call f vs):=
 L2.zSc (n:=63) (k:=107) (x:="_law_script") (CX:=λ_=>CX0) (sp:=λw=>zPy (K w.params)) p ∎ c {O,by decide,by decide} j F (λ_ _ a i g _ o=>{a,i,O,o,g,λ_=>O}) λ_ _ _ _ _ z=>z
end K43
end
end
end
namespace PySem.W.Fast
def tw3117507551365063954:=()
def tw11448798976739605193:=()
def tw11807976752716770680:=()
def tw4342345253141657892:=()
def tw15452347065617024228:=()
def tw14489838400842669925:=()
def tw5865414768223745545:=()
def tw12936587648263307382:=()
def tw14624939648882302587:=()
def tw11324760147842113092:=()
def tw4696866571414012040:=()
def tw5738150210693011272:=()
def tw6440270183895126091:=()
def tw14389178521246497804:=()
def tw2306350626190519237:=()
def tw8681647174780414432:=()
def tw4668154424016276799:=()
def tw909852297260904803:=()
def tw2874683652207175034:=()
def tw2250497774374559072:=()
def tw10134717860881441020:=()
def tw17252995954846001145:=()
def tw7574015116539798674:=()
def tw10039419915109297343:=()
def tw12773553817619151841:=()
def tw5314003941810069772:=()
def tw13408830342112968082:=()
def tw2472687193479485849:=()
def tw5787241780692393935:=()
def tw16060860520983514252:=()
def tw13898009477759303826:=()
def tw581228530023833866:=()
def tw7065428213460219332:=()
def tw3704813691800032869:=()
def tw4484851776603288272:=()
def tw16345017855010876727:=()
def tw5891995938238655607:=()
def tw11028179073660983623:=()
def tw17665121182645332827:=()
def tw12225544310807008665:=()
def tw13365832010673532954:=()
def tw4100945877127207941:=()
def tw5738814413864781883:=()
def tw12704881661279461189:=()
def tw18331552989407757487:=()
def tw12986894541988206991:=()
def tw9532250204582740128:=()
def tw13479479138744689846:=()
def tw6216064627209916750:=()
def tw13791949854146507981:=()
def tw8101168044594957603:=()
def tw4228068571983918004:=()
def tw14272288129554469084:=()
def tw13879953352308142574:=()
def tw13085910729793315678:=()
def tw17980792617475379788:=()
def tw1525412512443276686:=()
def tw11326942581273974182:=()
def tw4998341915531583972:=()
def tw14898050502265553568:=()
def tw8661865198491651019:=()
def tw15220310453682244375:=()
def tw15658326101486989740:=()
def tw9897666352968393961:=()
def tw8686619916690867930:=()
def tw8298639294528628964:=()
def tw8056450376651176147:=()
def tw11511242896343927298:=()
def tw1169181976962357210:=()
def tw15131684259743139362:=()
def tw12554875449787915584:=()
def tw3052208628124263345:=()
def tw17988963873219322285:=()
def tw12427672038813013100:=()
def tw1289512264942689601:=()
def tw16191053936131420436:=()
def tw16924916119952220186:=()
def tw5581553878430504653:=()
def tw6623827709851091643:=()
def tw17591595012539364539:=()
def tw13290931605124610805:=()
def tw14710577387471115569:=()
def tw7057209068952522578:=()
def tw1836843698820864912:=()
def tw17406653408537255784:=()
def tw14293325274963514142:=()
def tw18150913177552634547:=()
def tw3855486913979175284:=()
def tw4113813950045865418:=()
def tw1623569336301201891:=()
def tw9524518542958157833:=()
def tw12681136094437033930:=()
def tw315525191453582642:=()
def tw6037259061896573447:=()
def tw17329809865793483288:=()
def tw12840794883112247491:=()
def tw18260419674587286219:=()
def tw13502015885347669730:=()
def tw11145991525039756463:=()
def tw7601121827243515531:=()
def tw1137691262550271170:=()
def tw4548205633704221622:=()
def tw9610508020132009861:=()
def tw573051632525936193:=()
def tw13282007868096041321:=()
def tw5278097756895617027:=()
def tw8953027839481842261:=()
def tw8045243395638214636:=()
def tw12112003805859961652:=()
def tw14740463552984458528:=()
def tw3205570369207893014:=()
def tw11876680145120219345:=()
def tw3929518106694491260:=()
def tw11523088290080661646:=()
def tw439400081824530057:=()
def tw2670243672754669460:=()
def tw8545953449387695381:=()
def tw10636936488649197507:=()
def tw9284082376863529803:=()
def tw6412299274752451430:=()
def tw873348500550716452:=()
def tw3135429846157078525:=()
def tw10290194303109550502:=()
def tw1485990638402581498:=()
def tw8411630573038079832:=()
def tw1291640425282976649:=()
def tw13004826090149446697:=()
def tw12511963332531474720:=()
def tw7291920123288524482:=()
def tw4966383101050629014:=()
def tw6236706056819047061:=()
def tw3551014633213104264:=()
def tw16324713636122008273:=()
def tw5172768927368485504:=()
def tw561039903921993730:=()
def tw5092934771702344261:=()
def tw799306830645679404:=()
def tw2147125960811506516:=()
def tw3090292892393918947:=()
def tw5877339744409320542:=()
def tw3153657900032723206:=()
def tw7094115155015694639:=()
def tw4160955611603166283:=()
def tw2724272604125758557:=()
def tw1199402980880514030:=()
def tw8223635131965255946:=()
def tw2295982541059965718:=()
def tw13147042798832950410:=()
def tw7735195834825226645:=()
def tw3613644305912524909:=()
def tw1075292120599310167:=()
def tw3511169474604475317:=()
def tw7677876545029366449:=()
def tw15056260837633387205:=()
def tw1344702733023901821:=()
def tw16400634744683335552:=()
def tw17459137010324874656:=()
def tw16542169585635506643:=()
def tw13460236943411692545:=()
def tw18064078912890610197:=()
def tw13587198306367315889:=()
def tw897136670784955741:=()
def tw11990853917630211275:=()
def tw7913406156588157098:=()
def tw2623670810858697206:=()
def tw16029671335215559213:=()
def tw13744019854053542698:=()
def tw13131835792388051706:=()
def tw7891759803476308737:=()
def tw10502615691566327483:=()
def tw14054176999554489023:=()
def tw347333522137990367:=()
def tw3627997916751909936:=()
def tw1899111707030916207:=()
def tw1024809667137911929:=()
def tw18107655406268185063:=()
def tw6978518463521617876:=()
def tw2237838158641621020:=()
def tw4831526743305086960:=()
def tw17765385380002683037:=()
def tw4699010790135105635:=()
def tw7878131792578348248:=()
def tw8992813686138933660:=()
def tw9374814711434023751:=()
def tw7917726578240831745:=()
def tw14345113552049797637:=()
def tw6984088155309210187:=()
def tw2451069488451335101:=()
def tw3322824416953813240:=()
def tw12908715544014388350:=()
def tw5501767354770650697:=()
def tw14426454518139056166:=()
def tw5683169763217164378:=()
def tw16928450137855367757:=()
def tw1143105736103422658:=()
def tw4203108153386527079:=()
def tw13243732178923346121:=()
def tw4916686564102507181:=()
def tw5172030408252311277:=()
def tw2746212934785488020:=()
def tw16423367737759912624:=()
def tw4651919942216734127:=()
def tw12791944314591083688:=()
def tw16219705057442882247:=()
def tw184606133415471945:=()
def tw17222805897793154608:=()
def tw11894267829288529721:=()
def tw13680493458133021212:=()
def tw611480155231863362:=()
def tw8769338023124155597:=()
def tw2960160112828802457:=()
def tw8272192148336988554:=()
def tw6241281647733181251:=()
def tw14005845456230694964:=()
def tw13470214787867779638:=()
def tw10782604307316091316:=()
def tw11316405411425221081:=()
def tw17309653816742476607:=()
def tw8946333991054966126:=()
def tw2765145519650553049:=()
def tw684433929460107029:=()
def tw4874147992418278491:=()
def tw15625806639606840649:=()
def tw17964238338507089407:=()
def tw2901470750269664005:=()
def tw579552733939931831:=()
def tw13872301391173215594:=()
def tw1277592778852604344:=()
def tw16791354533073284952:=()
def tw838713193577634104:=()
def tw2399084528785151020:=()
def tw13752430201716397046:=()
def tw9989262191231979526:=()
def tw5599478851188245643:=()
def tw9755412426036368168:=()
def tw173942348351781386:=()
def tw7215607723747352165:=()
def tw8423755458862985644:=()
def tw13643991531119081374:=()
def tw5970836078898371050:=()
def tw17417384121703120244:=()
def tw14066426277945212471:=()
def tw5756778716943718827:=()
def tw2967937201065867936:=()
def tw2835417287473735771:=()
def tw9950942173014802471:=()
def tw14042478195366020671:=()
def tw9578488466227199605:=()
def tw981491662930038223:=()
def tw16143466531182905097:=()
def tw10730527609680042878:=()
def tw6092315033351196843:=()
def tw17069028549614415435:=()
def tw11554068713200230919:=()
def tw4690265599515840045:=()
def tw7130058562039340613:=()
def tw1078903085348345370:=()
def tw3576607054633088421:=()
def tw12850350826039899702:=()
def tw3248912010229999304:=()
def tw10493473198748212513:=()
def tw4772898203865086638:=()
def tw9033414930395800681:=()
def tw7074307575620440991:=()
def tw5504928905779901696:=()
def tw8259464873232924834:=()
def tw1986004059398809431:=()
end PySem.W.Fast
open PySem PySem.W PyProof.Rows
set_option maxRecDepth 100000 in
set_option maxHeartbeats 0 in
theorem PySem.Challenge.cw_cabinet_k43_backs_holds : PySem.Challenge.rw_cabinet_k43_backs.Holds := by
  w_on;o_law;k_head;(case hw=>w_witness2)
  k_fill
  refine K43.walk (l:=PySem.Challenge.rw_cabinet_k43_backs) rfl rfl (fun w h Y=>PySem.W.kIn_of Y) ?F
  case F=>
    intro w mg fa h KX G hmg;refine' K43.all_mk KX G hmg ?a0 ?a1 ?a2 ?a3 ?a4 ?a5 ?a6 ?a7 ?a8 ?a9 ?a10 ?a11 ?a12 ?a13 ?a14 ?a15 ?a16 ?a17 ?a18 ?a19 ?a20 ?a21 ?a22 ?a23 ?a24 ?a25 ?a26 ?a27 ?a28 ?a29 ?a30 ?a31 ?a32 ?a33 ?a34 ?a35 ?a36 ?a37 ?a38 ?a39 ?a40 ?a41 ?a42 ?a43 ?a44 ?a45 ?a46 ?a47 ?a48 ?a49 ?a50 ?a51 ?a52 ?a53 ?a54 ?a55 ?a56 ?a57 ?a58 ?a59 ?a60 ?a61 ?l61 ?c61 ?k61 ?z0 ?z1 ?z2 ?z3 ?z4 ?z5 ?z6 ?z7 ?z8 ?z9 ?z10 ?y0 ?y1 ?y2 ?r0 ?q0 ?q1 ?zz0 ?s0 ?s1 ?n0 ?n1 ?n2 ?n3 ?n4 ?n5 ?n6 ?n7 ?ha ?hs ?ht ?hk ?hu ?xaB ?hrv ?xb1 ?xc0 ?xc1 ?xc2 ?xe6 ?xe7 ?pa ?pb0 ?pb2 ?pb3 ?pb4 ?pb5 ?pb6 ?pd0 ?pd1 ?pd2 ?da ?db0 ?db2 ?db3 ?db4 ?db5 ?db6 ?dd0 ?dd1 ?dd2 ?dfn ?de0 ?de1 ?de2 ?de3 ?de4 ?de5 ?ta ?tb0 ?tb2 ?tb3 ?tb6 ?xf1 ?xf55 ?xf25 ?xf22
    case a0 | a1 | a2 | a3 | a4 | a5 | a6 | a7 | a8 | a9 | a10 | a11 | a12 | a13 | a14 | a15 | a16 | a17 | a18 | a19 | a20 | a21 | a22 | a23 | a24 | a25 | a26 | a27 | a28 | a29 | a30 | a31 | a32 | a33 | a34 | a35 | a36 | a37 | a38 | a39 | a40 | a41 | a42 | a43 | a44 | a45 | a46 | a47 | a48 | a49 | a50 | a51 | a52 | a53 | a54 | a55 | a56 | a57 | a58 | a59 | a60=>exact⟨by k_is,_,_,_,_,_,_,_,_,_,by k_is,by k_is,by k_is⟩
    case a61 | l61 | c61 | k61 | z0 | z1 | z2 | z3 | z4 | z5 | z6 | z7 | z8 | z9 | z10 | y0 | y1 | y2 | r0 | q0 | q1 | zz0 | s0 | s1 | n0 | n1 | n2 | n3 | n4 | n5 | n6 | n7 | ha | hs | ht | hk | hu | xaB | hrv=>k_is
    case xb1=>first | rfl | kernel_rfl
    case xc0 | xc1 | xc2 | xe6 | xe7 | pa | pb0 | pb2 | pb3 | pb4 | pb5 | pb6 | pd0 | pd1 | pd2 | da | db0 | db2 | db3 | db4 | db5 | db6 | dd0 | dd1 | dd2 | dfn | de0 | de1 | de2 | de3 | de4 | de5 | ta | tb0=>k_is
    case tb2=>first | rfl | kernel_rfl
    case tb3 | tb6=>k_is
    case xf1 | xf55 | xf25 | xf22=>first | rfl | kernel_rfl
