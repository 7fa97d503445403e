import PyProof.Rows.All
import Wide.All
import OpenK.AllK
import Wide.FinOn
import Lean
import PyProof.EqAt
import PyProof.EqKinds
import PyProof.TupleCall
import PyProof.StrReplace2
import PyProof.DictItems
import PyProof.EnumStmt
import PyProof.EnumFor
import PyProof.DictItemsLoops
import PyProof.ZipIter
import PyProof.IsRules
import PyProof.Rows.SortRev
import KE.KIntText
import OpenK.KRaise
import KE.TryInHelper
import PyProof.RulesRaise
import PyProof.Rows.RaiseClass
import PyProof.RaisesMany
import PyProof.ExcClass3
import PyProof.ExcBaseAll.ValueError
import KE.KTryMore
import PyProof.InstStoreFacts
import OpenK.KMake
import PyProof.ExcAttrAll.ValueError
import KE.KIsAll
import OpenK.KWalk
import OpenK.KDescr
import PyProof.PureStr
import PyProof.ExcStr
import PyProof.CallStr
import KE.KCallOwn
import KE.KSortTup
import PyProof.Rows.StrCut
import PyProof.StrBlock
import KE.IntTextLaws
import PyProof.DictValues
import PyProof.DictWalks
import PyProof.Rows.Range3
import KE.KDictOf
import PySem.Challenge.RW_cabinet_k42_papers_done
set_option compiler.extract_closed false
set_option Elab.async false
set_option linter.all false
set_option maxRecDepth 100000
set_option maxHeartbeats 4000000
section
variable{t1 t2 t3 t4 t5:Type}{G:Prop}{p00 p01 p02 p03 p04 p05:Prop}{p11 p12 p13 p14 p15:t1→Prop}{p22 p23 p24 p25:t1→t2→Prop}{p33 p34 p35:t1→t2→t3→Prop}{p44 p45:t1→t2→t3→t4→Prop}{p55:t1→t2→t3→t4→t5→Prop}
theorem oA(h:p00∧p01)(k:p00→p01→G):G:=by obtain⟨a,b⟩:=h;exact k a b
theorem oAA(h:p00∧p01∧p02)(k:p00→p01→p02→G):G:=by obtain⟨a,b,c⟩:=h;exact k a b c
theorem wC(h:p00∧p01∧p02∧p03)(k:p00→p01→p02→p03→G):G:=by obtain⟨a,b,c,d⟩:=h;exact k a b c d
theorem jM(h:p00∧p01∧p02∧p03∧p04)(k:p00→p01→p02→p03→p04→G):G:=by obtain⟨a,b,c,d,e⟩:=h;exact k a b c d e
theorem yO(h:p00∧p01∧p02∧p03∧p04∧p05)(k:p00→p01→p02→p03→p04→p05→G):G:=by obtain⟨a,b,c,d,e,f⟩:=h;exact k a b c d e f
theorem oEA(h:∃a,p11 a∧p12 a)(k:∀a,p11 a→p12 a→G):G:=by obtain⟨a,b,c⟩:=h;exact k a b c
theorem xI(h:∃a,p11 a∧p12 a∧p13 a)(k:∀a,p11 a→p12 a→p13 a→G):G:=by obtain⟨a,b,c,d⟩:=h;exact k a b c d
theorem zBb(h:∃a,p11 a∧p12 a∧p13 a∧p14 a)(k:∀a,p11 a→p12 a→p13 a→p14 a→G):G:=by obtain⟨a,b,c,d,e⟩:=h;exact k a b c d e
theorem zAd(h:∃a,p11 a∧p12 a∧p13 a∧p14 a∧p15 a)(k:∀a,p11 a→p12 a→p13 a→p14 a→p15 a→G):G:=by obtain⟨a,b,c,d,e,f⟩:=h;exact k a b c d e f
theorem oEE(h:∃a,∃b,p22 a b)(k:∀a,∀b,p22 a b→G):G:=by obtain⟨a,b,c⟩:=h;exact k a b c
theorem xV(h:∃a,∃b,p22 a b∧p23 a b)(k:∀a,∀b,p22 a b→p23 a b→G):G:=by obtain⟨a,b,c,d⟩:=h;exact k a b c d
theorem yM(h:∃a,∃b,p22 a b∧p23 a b∧p24 a b)(k:∀a,∀b,p22 a b→p23 a b→p24 a b→G):G:=by obtain⟨a,b,c,d,e⟩:=h;exact k a b c d e
theorem yE(h:∃a,∃b,p22 a b∧p23 a b∧p24 a b∧p25 a b)(k:∀a,∀b,p22 a b→p23 a b→p24 a b→p25 a b→G):G:=by obtain⟨a,b,c,d,e,f⟩:=h;exact k a b c d e f
theorem qI(h:∃a,∃b,∃c,p33 a b c∧p34 a b c)(k:∀a,∀b,∀c,p33 a b c→p34 a b c→G):G:=by obtain⟨a,b,c,d,e⟩:=h;exact k a b c d e
theorem yD(h:∃a,∃b,∃c,p33 a b c∧p34 a b c∧p35 a b c)(k:∀a,∀b,∀c,p33 a b c→p34 a b c→p35 a b c→G):G:=by obtain⟨a,b,c,d,e,f⟩:=h;exact k a b c d e f
theorem yV(h:∃a,∃b,∃c,∃d,p44 a b c d∧p45 a b c d)(k:∀a,∀b,∀c,∀d,p44 a b c d→p45 a b c d→G):G:=by obtain⟨a,b,c,d,e,f⟩:=h;exact k a b c d e f
theorem xO(h:∃a,∃b,∃c,∃d,∃e,p55 a b c d e)(k:∀a,∀b,∀c,∀d,∀e,p55 a b c d e→G):G:=by obtain⟨a,b,c,d,e,f⟩:=h;exact k a b c d e f

theorem nA(a:p00)(b:p01):p00∧p01:=⟨a,b⟩
theorem nAA(a:p00)(b:p01)(c:p02):p00∧p01∧p02:=⟨a,b,c⟩
theorem zSf(a:p00)(b:p01)(c:p02)(d:p03):p00∧p01∧p02∧p03:=⟨a,b,c,d⟩
theorem zYp(a:p00)(b:p01)(c:p02)(d:p03)(e:p04):p00∧p01∧p02∧p03∧p04:=⟨a,b,c,d,e⟩
theorem zXd(a:p00)(b:t1)(c:p12 b)(d:p13 b):p00∧(∃b,p12 b∧p13 b):=⟨a,b,c,d⟩
theorem nAEAA(a:p00)(b:t1)(c:p12 b)(d:p13 b)(e:p14 b):p00∧(∃b,p12 b∧p13 b∧p14 b):=⟨a,b,c,d,e⟩
theorem zUe(a:p00)(b:t1)(c:p12 b)(d:p13 b)(e:p14 b)(f:p15 b):p00∧(∃b,p12 b∧p13 b∧p14 b∧p15 b):=⟨a,b,c,d,e,f⟩
theorem yCy(a:p00)(b:t1)(c:t2)(d:p23 b c)(e:p24 b c)(f:p25 b c):p00∧(∃b,∃c,p23 b c∧p24 b c∧p25 b c):=⟨a,b,c,d,e,f⟩
theorem nEA(a:t1)(b:p11 a)(c:p12 a):∃a,p11 a∧p12 a:=⟨a,b,c⟩
theorem zHv(a:t1)(b:p11 a)(c:p12 a)(d:p13 a):∃a,p11 a∧p12 a∧p13 a:=⟨a,b,c,d⟩
theorem zDl(a:t1)(b:p11 a)(c:p12 a)(d:p13 a)(e:p14 a):∃a,p11 a∧p12 a∧p13 a∧p14 a:=⟨a,b,c,d,e⟩
theorem yBg(a:t1)(b:p11 a)(c:p12 a)(d:p13 a)(e:p14 a)(f:p15 a):∃a,p11 a∧p12 a∧p13 a∧p14 a∧p15 a:=⟨a,b,c,d,e,f⟩
theorem zZu(a:t1)(b:p11 a)(c:p12 a)(d:p13 a)(e:t2)(f:p25 a e):∃a,p11 a∧p12 a∧p13 a∧(∃e,p25 a e):=⟨a,b,c,d,e,f⟩
theorem yDn(a:t1)(b:p11 a)(c:p12 a)(d:t2)(e:p24 a d)(f:p25 a d):∃a,p11 a∧p12 a∧(∃d,p24 a d∧p25 a d):=⟨a,b,c,d,e,f⟩
theorem yBi(a:t1)(b:p11 a)(c:p12 a)(d:t2)(e:t3)(f:p35 a d e):∃a,p11 a∧p12 a∧(∃d,∃e,p35 a d e):=⟨a,b,c,d,e,f⟩
theorem zVl(a:t1)(b:p11 a)(c:t2)(d:p23 a c):∃a,p11 a∧(∃c,p23 a c):=⟨a,b,c,d⟩
theorem qF(a:t1)(b:p11 a)(c:t2)(d:p23 a c)(e:p24 a c):∃a,p11 a∧(∃c,p23 a c∧p24 a c):=⟨a,b,c,d,e⟩
theorem zEx(a:t1)(b:p11 a)(c:t2)(d:p23 a c)(e:p24 a c)(f:p25 a c):∃a,p11 a∧(∃c,p23 a c∧p24 a c∧p25 a c):=⟨a,b,c,d,e,f⟩
theorem jY(a:t1)(b:p11 a)(c:t2)(d:p23 a c)(e:t3)(f:p35 a c e):∃a,p11 a∧(∃c,p23 a c∧(∃e,p35 a c e)):=⟨a,b,c,d,e,f⟩
theorem nEEA(a:t1)(b:t2)(c:p22 a b)(d:p23 a b):∃a,∃b,p22 a b∧p23 a b:=⟨a,b,c,d⟩
theorem nEEAA(a:t1)(b:t2)(c:p22 a b)(d:p23 a b)(e:p24 a b):∃a,∃b,p22 a b∧p23 a b∧p24 a b:=⟨a,b,c,d,e⟩
theorem zEu(a:t1)(b:t2)(c:p22 a b)(d:p23 a b)(e:p24 a b)(f:p25 a b):∃a,∃b,p22 a b∧p23 a b∧p24 a b∧p25 a b:=⟨a,b,c,d,e,f⟩
theorem qQ(a:t1)(b:t2)(c:t3)(d:p33 a b c)(e:p34 a b c)(f:p35 a b c):∃a,∃b,∃c,p33 a b c∧p34 a b c∧p35 a b c:=⟨a,b,c,d,e,f⟩
end

section
open PySem renaming Value→V0,Addr→V1,Shared→V2,Program→V3,World→V4,Heap→V5,Stmt→V6,FuncData→V7,wpAny→V8,sizeLine→V9,mainGlobals→A0,bootBuiltins→A1,starEach→A2,compareOp→A3,sysModules→A4,standAt→S0,swapsWith→S1,backTo→S2,model→S5,assignEach→S6,Env→S7
open PySem.Str renaming ofString→A5
open PySem.W renaming Frag→A6,keepIn→A7,nsIn→A8,codeIn→A9
open PySem.NameKind renaming free→S3
open PySem.Builtin.Range renaming rangeSize→S4
theorem O.{u}{α:Sort u}{a:α}:a=a:=rfl
section
open Option renaming some→Y
set_option hygiene false
local macro_rules|`(tactic|let $d:letDecl)=>`(tactic|have $d:letDecl)
local macro_rules|`(tactic|lk)=>`(tactic|walk_at "rd3")
local macro_rules|`(∅)=>`(by lia)
local macro_rules|`(∎)=>`(by decide)
local macro_rules|`(tb_g%)=>`(by walk_at "wu")
local macro_rules|`(↥$x)=>`(some $x)
local macro_rules|`($x...*)=>`(($x).length)
local macro_rules|`($x⁻¹)=>`(($x).heap.objs.size)
local macro_rules|`({$x:term,*})=>`(⟨$x,*⟩)
set_option hygiene true
local macro_rules|`(tactic|ext $x*)=>let a:Array Lean.Term:=x.map fun s=>⟨if s.raw[0].isOfKind `Lean.Parser.Tactic.rcasesPat.one then s.raw[0][0] else Lean.mkNode `Lean.Parser.Term.hole #[Lean.mkAtom "_"]⟩;let f:=a[0]!;let z:=a[1]!;let r:=a.extract 2 a.size;`(tactic|(revert $z;intro z_;refine $f z_ fun $r* =>?_;clear z_))
namespace L2
open PySem PySem.Spec PyProof.Rows
abbrev mC:=@wpAny_bind
abbrev mD:=@List.mem_cons
abbrev mE:=@Nat.le_refl
abbrev mF:=@List.mem_cons_self
abbrev mG:=@List.mem_singleton
abbrev mH:=@List.mem_cons_of_mem
abbrev mI:=@True.intro
abbrev mJ:=@Heap.get?_push_of_some
abbrev mK:=@if_neg
abbrev mL:=@List.length_map
abbrev mM:=@List.length_append
abbrev mN:=@wpAny_pure
abbrev mO:=@List.getElem?_eq_some_iff
abbrev mP:=@List.mem_of_getElem?
abbrev mQ:=@if_pos
abbrev mR:=@Option.some.inj
abbrev mS:=@sizeLine_eq
abbrev mT:=@List.getElem?_eq_getElem
abbrev mU:=@List.mem_append
abbrev mW:=@List.length_cons
abbrev mX:=@Heap.get?_update_other
abbrev mY:=@List.size_toArray
abbrev mZ:=@List.map_cons
abbrev nB:=@Heap.lt_size
abbrev nF:=@Bool.false_ne_true
abbrev nG:=@decide_eq_false
abbrev nH:=@List.getElem?_map
abbrev nI:=@List.mem_append_right
abbrev nJ:=@List.map_append
abbrev nL:=@List.length_singleton
abbrev nM:=@Heap.get?_push_size
abbrev nO:=@Nat.lt_of_lt_of_le
abbrev nP:=@decide_eq_true
abbrev nQ:=@Nat.ne_of_lt
abbrev nS:=@Nat.zero_le
abbrev nU:=@Or.inl
abbrev nV:=@List.mem_append_left
abbrev nW:=@List.mem_map
abbrev pA:=@PySem.F.plainAttrs_list
abbrev pB:=@List.drop_eq_getElem_cons
abbrev pC:=@Nat.le_trans
abbrev pE:=@List.take_length
abbrev pG:=@wpAny_holding
abbrev pH:=@List.getElem?_append_right
abbrev pJ:=@Array.getElem?_eq_some_iff
abbrev pK:=@List.length_nil
abbrev pL:=@List.getElem?_append_left
abbrev pM:=@List.nodup_cons
abbrev pO:=@wpAny_mono
abbrev pP:=@W.mg_none_of
abbrev pQ:=@List.append_nil
abbrev pR:=@Nat.le_succ
abbrev pT:=@List.drop_of_length_le
abbrev pU:=@Array.getElem?_setIfInBounds_ne
abbrev pV:=@PySem.F.slot_list_append
abbrev pW:=@List.filterMap_cons
abbrev pX:=@decide_eq_decide
abbrev pY:=@List.getElem?_cons_zero
abbrev pZ:=@wpAny_truthy_bool
abbrev rA:=@PySem.F.type_list_append
abbrev rB:=@List.replicate_succ
abbrev rC:=@List.length_replicate
abbrev rD:=@List.all_eq_true
abbrev rE:=@beq_eq_false_iff_ne
abbrev rF:=@Nat.ne_of_gt
abbrev rG:=@wpAny_field
abbrev rH:=@wpAny_Call_Name_kw
abbrev rJ:=@Heap.get?_none_of_le
abbrev rK:=@Nat.succ_le_succ
abbrev rL:=@wpAny_typeOf_ref
abbrev rM:=@PySem.mem_of_lookup
abbrev rN:=@List.length_drop
abbrev rO:=@List.lookup_cons
abbrev rP:=@Int.emod_lt_of_pos
abbrev rQ:=@List.not_mem_nil
abbrev rR:=@List.filter_cons_of_pos
abbrev rT:=@List.filter_cons_of_neg
abbrev rV:=@List.flatten_cons
abbrev rW:=@decide_eq_true_eq
abbrev rX:=@Int.emod_nonneg
abbrev rY:=@Nat.not_lt_zero
abbrev rZ:=@Option.map_eq_some_iff
abbrev sA:=@List.take_of_length_le
abbrev sB:=@List.map_map
abbrev sC:=@wpAny_standAt
abbrev sD:=@List.getD_eq_getElem?_getD
abbrev sE:=@List.length_take
abbrev sF:=@wpAny_setField
abbrev sG:=@List.contains_cons
abbrev sH:=@wpAny_nameGoes
abbrev sI:=@W.mg_of
abbrev sJ:=@codeAny_mono
abbrev sK:=@List.map_nil
abbrev sL:=@Array.size_setIfInBounds
abbrev sM:=@Nat.lt_irrefl
abbrev sN:=@Array.getElem?_setIfInBounds_self_of_lt
abbrev sO:=@Int.eq_ofNat_of_zero_le
abbrev sP:=@PySem.F.slot_list_index
abbrev sQ:=@Bool.false_and
abbrev sR:=@List.getElem_mem
abbrev sS:=@F.plain_max_loop
abbrev sT:=@wpAny_call
abbrev sU:=@PyProof.Rows.callWith_type1
abbrev sV:=@W.kia_one
abbrev sW:=@Bool.false_eq_true
abbrev sX:=@List.idxOf_lt_length_of_mem
abbrev sY:=@wpAny_execs_nil
abbrev sZ:=@wpAny_passesOwn
abbrev tD:=@Heap.get?_update_self
abbrev tE:=@List.foldl_cons
abbrev tF:=@Array.getElem?_toList
abbrev tG:=@List.getElem?_set_ne
abbrev tH:=@Around.under_plainId
abbrev tI:=@codeAny_call_builtin
abbrev tJ:=@List.mem_of_mem_take
abbrev tK:=@List.mem_range
abbrev tL:=@Bool.and_false
abbrev tM:=@Heap.size_push
abbrev tP:=@Bool.and_eq_true
abbrev tQ:=@Bool.or_true
abbrev tR:=@List.map_congr_left
abbrev tS:=@List.getElem?_replicate
abbrev tU:=@PySem.F.type_list_index
abbrev tV:=@List.getLast?_cons_cons
abbrev tW:=@Bool.true_and
abbrev tX:=@Bool.eq_iff_iff
abbrev tY:=@call_meets
abbrev tZ:=@List.nil_append
abbrev aA:=@List.find?_cons
abbrev aB:=@List.getElem?_set_self
abbrev aD:=@wpAny_pyNext_list_item
abbrev aE:=@Calls.callWith_builtin
abbrev aF:=@List.eq_nil_of_length_eq_zero
abbrev aG:=@List.append_assoc
abbrev aH:=@Nat.le_succ_of_le
abbrev aI:=@wpAny_pyNext_list_end
abbrev aJ:=@List.getElem?_eq_none
abbrev aK:=@wpAny_tryCatch
abbrev aL:=@List.drop_zero
abbrev aM:=@codeAny_handlers_test
abbrev aN:=@List.dropLast_concat_getLast
abbrev aO:=@Nat.mul_le_mul_right
abbrev aP:=@Nat.not_succ_le_zero
abbrev aQ:=@List.drop_length
abbrev aR:=@ks_wpAny_isType_inst
abbrev aS:=@List.mem_of_mem_drop
abbrev aT:=@Or.inr
abbrev aU:=@plainId_quiet
abbrev aV:=@Array.length_toList
abbrev aW:=@wpAny_handleBy_cons
abbrev aX:=@List.mem_filter
abbrev aY:=@List.length_set
abbrev aZ:=@codeAny_builtin
abbrev bA:=@Nat.le_add_left
abbrev bB:=@codeAny_handlers_suite_as
abbrev bC:=@List.getLast?_eq_getElem?
abbrev bD:=@if_false
abbrev bE:=@wpAny_tupleItemsOf
abbrev bF:=@List.zip_cons_cons
abbrev bG:=@or_false
abbrev bH:=@PySem.F.plainAttrs_dict
abbrev bI:=@wpAny_pyIter_list
abbrev bJ:=@Int.toNat_natCast
abbrev bK:=@Nat.lt_succ_of_le
abbrev bL:=@List.length_range
abbrev bM:=@List.set_eq_take_append_cons_drop
abbrev bN:=@Bool.not_true
abbrev bO:=@wpAny_execs_cons
abbrev bP:=@List.any_eq_true
abbrev bQ:=@wpAny_call_entry
abbrev bR:=@beq_self_eq_true
abbrev bS:=@Bool.not_eq_true
abbrev bT:=@List.cons_ne_nil
abbrev bU:=@List.mem_iff_getElem?
abbrev bV:=@List.take_append_drop
abbrev bW:=@plainObj_wpAny_Assign_Attribute
abbrev bX:=@Nat.le_of_lt
abbrev bY:=@List.of_mem_zip
abbrev bZ:=@PyProof.Rows.callWith_builtin1
abbrev cA:=@Nat.lt_trans
abbrev cD:=@Nat.le_max_left
abbrev cE:=@F.excBase_ValueError
abbrev cF:=@F.slot_dict_itemiterator_iter
abbrev cG:=@List.getLast?_eq_some_getLast
abbrev cI:=@wpAny_isSubtype_exc
abbrev cJ:=@wpAny_seqItems
abbrev cK:=@List.nodup_nil
abbrev cL:=@W.kitx_dict
abbrev cM:=@wpAny_letGo
abbrev cN:=@SeqAt.EqAt.str_str
abbrev cO:=@tupleKind_room_in1
abbrev cP:=@List.pairwise_cons
abbrev cQ:=@wpAny_richCompare_same_room
abbrev cR:=@List.set_cons_zero
abbrev cS:=@List.set_cons_succ
abbrev cU:=@List.mem_replicate
abbrev cV:=@of_decide_eq_true
abbrev cW:=@wpAny_newObj_type
abbrev cX:=@if_true
abbrev cY:=@List.filter_cons
abbrev cZ:=@List.all_map
abbrev dA:=@F.entry_max_loop
abbrev dB:=@Nat.lt_succ_self
abbrev dC:=@Nat.le_max_right
abbrev dE:=@Nat.le_add_right
abbrev dG:=@Nat.min_eq_right
abbrev dH:=@Option.bind_some
abbrev dI:=@wpAny_Try_except
abbrev dJ:=@List.cons_append
abbrev dL:=@eq_false
abbrev dM:=@wpAny_updateSeq
abbrev dO:=@Nat.min_eq_left
abbrev dP:=@exists_eq_left'
abbrev dQ:=@W.kitx_list
abbrev Key:=Sum Int Str
def zEi:Key->V0->Bool
 | .inl k,v=>Value.isInt k v
 | .inr x,v=>Value.isStrOf x v
def keyH(w:V4):Key->Int
 | .inl k=>hashInt k
 | .inr x=>hashStr w x
theorem wA:∀{k:Key}{v:V0},zEi k v=true->(∃i t,k=Sum.inl i/\v=Value.int i t)\/(∃x t,k=Sum.inr x/\v=Value.str x t)
 | .inl i,v,h=>by
  obtain⟨t,e⟩:=Value.isInt_shape (k:=i) (v:=v) h;exact .inl ⟨i,t,O,e⟩
 | .inr x,v,h=>by
  obtain⟨t,e⟩:=Value.isStrOf_shape (x:=x) (v:=v) h;exact .inr ⟨x,t,O,e⟩
theorem zPu(i:Int)(t:Tok):zEi (.inl i) (.int i t)=true:=by simp[zEi,Value.isInt]
theorem zPd(x:Str)(t:Tok):zEi (.inr x) (.str x t)=true:=by simp[zEi,Value.isStrOf]
theorem yAb(a b:Int):decide ((Sum.inl a:Key)=Sum.inl b)=(a==b):=by
 by_cases e:a=b
 ·subst e;simp
 ·let h:¬(Sum.inl a:Key)=Sum.inl b:=λq=>e (Sum.inl.inj q)
  rw[nG h];exact(rE.mpr e).symm
theorem yCi(a b:Str):decide ((Sum.inr a:Key)=Sum.inr b)=decide (a=b):=by
 by_cases e:a=b
 ·subst e;simp
 ·let h:¬(Sum.inr a:Key)=Sum.inr b:=λq=>e (Sum.inr.inj q)
  rw[nG h,nG e]
theorem yAe(a:Int)(b:Str):decide ((Sum.inl a:Key)=Sum.inr b)=false:=nG (λq=>nomatch q)
theorem yAp(a:Str)(b:Int):decide ((Sum.inr a:Key)=Sum.inl b)=false:=nG (λq=>nomatch q)
def yS(prog:V3)(w:V4):PySem.KeyKind prog w Key where
 is:=zEi
 hash:=keyH w
 inj:=λv a b ha hb=>by
  rcases wA ha with⟨i,t,rfl,rfl⟩|⟨x,t,rfl,rfl⟩
  ·rcases wA hb with⟨j,u,rfl,e⟩|⟨y,u,rfl,e⟩
   ·injection e with e1 _;rw[e1]
   ·exact nomatch e
  ·rcases wA hb with⟨j,u,rfl,e⟩|⟨y,u,rfl,e⟩
   ·exact nomatch e
   ·injection e with e1 _;rw[e1]
 byValue:=λk v h=>by
  rcases wA h with⟨i,t,rfl,rfl⟩|⟨x,t,rfl,rfl⟩<;>rfl
 pyHash:=λhv h=>by
  rcases wA hv with⟨i,t,rfl,rfl⟩|⟨x,t,rfl,rfl⟩
  ·exact wpAny_pyHash_int h
  ·exact wpAny_pyHash_str h
 eqBool:=λhu hv h=>by
  rcases wA hu with⟨i,t,rfl,rfl⟩|⟨x,t,rfl,rfl⟩
  ·rcases wA hv with⟨j,u,rfl,rfl⟩|⟨y,u,rfl,rfl⟩
   ·rw[yAb] at h;exact wpAny_eqBool_int h
   ·rw[yAe] at h;exact SeqAt.EqAt.int_str i t y u _ _ _ _ h
  ·rcases wA hv with⟨j,u,rfl,rfl⟩|⟨y,u,rfl,rfl⟩
   ·rw[yAp] at h;exact SeqAt.EqAt.str_int x t j u _ _ _ _ h
   ·rw[yCi] at h;exact wpAny_eqBool_str h
 «strs»:=λk x t v h=>by
  rcases wA h with⟨i,u,rfl,e⟩|⟨y,u,rfl,e⟩
  ·exact nomatch e
  ·injection e with e1 _
   subst e1;cases v<;>rfl
theorem zKi(prog:V3)(w:V4)(i:Int)(t:Tok):(yS prog w).is (.inl i) (.int i t)=true:=zPu i t
theorem zJt(prog:V3)(w:V4)(x:Str)(t:Tok):(yS prog w).is (.inr x) (.str x t)=true:=zPd x t
inductive V where
 | non | bl (b:Bool)| int (i:Int)| str (x:Str)| byt (b:Array UInt8)| flt (b:UInt64)| ref (a:V1)| ty (n:String)
 deriving DecidableEq
def RelV:V->V0->Prop
 | .non,u=>u=Value.none
 | .bl b,u=>u=Value.bool b
 | .int i,u=>∃t,u=Value.int i t
 | .str x,u=>∃t,u=Value.str x t
 | .byt b,u=>∃t,u=Value.bytes b t
 | .flt b,u=>∃t,u=Value.float b t
 | .ref a,u=>u=Value.ref a
 | .ty n,u=>u=Value.type n
abbrev Vals:List V->List V0->Prop:=Paired RelV
theorem Vals.length{xs:List V}{us:List V0}(r:Vals xs us):xs...*=us...*:=Paired.length r
theorem Vals.get:∀{xs:List V}{us:List V0}{i:Nat}{x:V},Vals xs us->xs[i]? =Y x->∃u,us[i]? =Y u/\RelV x u
 | _,_,_,_, .nil,e=>by simp at e
 | _,_,0,_, .cons r _,e=>by simp at e;subst e;exact⟨_,O,r⟩
 | _,_,i+1,x, .cons _ t,e=>by
  obtain⟨u,h1,h2⟩:=Vals.get (i:=i) (x:=x) t (by simpa using e);exact{u,by simpa using h1,h2}
theorem Vals.set{x:V}{u:V0}(r:RelV x u):∀{xs:List V}{us:List V0}(i:Nat),Vals xs us->Vals (xs.set i x) (us.set i u)
 | _,_,_, .nil=>.nil
 | _,_,0, .cons _ t=>.cons r t
 | _,_,i+1, .cons q t=>.cons q (Vals.set r i t)
theorem Vals.append:∀{xs ys:List V}{us ws:List V0},Vals xs us->Vals ys ws->Vals (xs++ys) (us++ws)
 | _,_,_,_, .nil,s=>s
 | _,_,_,_, .cons r t,s=>.cons r (Vals.append t s)
theorem Vals.take:∀{xs:List V}{us:List V0}(n:Nat),Vals xs us->Vals (xs.take n) (us.take n)
 | _,_,0,_=>.nil
 | _,_,_+1, .nil=>.nil
 | _,_,n+1, .cons r t=>.cons r (Vals.take n t)
theorem Vals.drop:∀{xs:List V}{us:List V0}(n:Nat),Vals xs us->Vals (xs.drop n) (us.drop n)
 | _,_,0,r=>r
 | _,_,_+1, .nil=>.nil
 | _,_,n+1, .cons _ t=>Vals.drop n t
def RelO:Option V->Option V0->Prop
 | some v,Y u=>RelV v u
 | none,none=>True
 | _,_=>False
def KV{κ:Type}:List (κ×V)->List (κ×V0)->Prop:=Paired fun(p:κ×V) (q:κ×V0)=>p.1=q.1/\RelV p.2 q.2
def kV:Key->V
 | .inl i=>.int i
 | .inr x=>.str x
inductive HO where
 | lst (xs:List V)
 | tup (xs:List V)
 | dK (kvs:List (Key×V))| dT (kvs:List (List Key×V))
 | set (S:Int->Bool) (n:Nat)
 | ins (C dx:V1) (fs:List (Str×V))
 | own (x:V1)
 | xd (fs:List (Str×V))
 | met (f x:V1)
 | rng (lo hi:Int)
 | frz (o:Obj) (u:HO)
 | tbl (ps:Array V0)
 | ext (φ:V5->Prop)
abbrev Hp:=V1->Option HO
def upd(H:Hp)(a:V1)(o:HO):Hp:=λb=>if b=a then Y o else H b
theorem zB{H:Hp}{a:V1}{o:HO}:upd H a o a=Y o:=by unfold upd;rw[mQ O]
theorem zM{H:Hp}{a b:V1}{o:HO}(h:b≠a):upd H a o b=H b:=by unfold upd;rw[mK h]
theorem zGo{H:Hp}{a:V1}{o u:HO}:upd (upd H a o) a u=upd H a u:=by
 funext b;unfold upd;split<;>rfl
theorem ne_of{H:Hp}{a b:V1}{o u:HO}(h:H a=Y o)(h':H b=Y u)(d:o≠u):a≠b:=by
 intro e;subst e;rw[h] at h';exact d (mR h')
theorem yK{H:Hp}{a b:V1}{o:HO}(h:H a=Y o)(h':H b=none):a≠b:=by
 intro e;subst e;rw[h] at h';cases h'
section
variable(P:V3)(w:V4)
def ObjOk(H:Hp)(h:V5)(a:V1):HO->Prop
 | .lst xs=>xs...*<=V9/\∃(its:List V0)(n:Nat),Vals xs its/\h.get? a=some {cls:=.type "list",data:=.seq its.toArray n}
 | .tup xs=>xs...*<=V9/\∃its:List V0,Vals xs its/\IsTup h a its.toArray
 | .dK kvs=>kvs...*<=V9/\(a==A4)=false/\∃vs,KV kvs vs/\h.DictOf (yS P w) a vs
 | .dT kvs=>kvs...*<=V9/\(a==A4)=false/\∃xs:List (List Key×V1×V0),
   Paired (fun(p:List Key×V) (q:List Key×V1×V0)=>p.1=q.1/\H q.2.1=Y (.tup (p.1.map kV))/\RelV p.2 q.2.2) kvs xs/\
   ∃o es ep,h.get? a=Y o/\o.ExactDict/\o.data= .dict es ep/\es.toList=xs.map (entryOfKey (tupleKind (yS P w)))/\(xs.map (·.1)).Nodup
 | .set S n=>h.SetOf (intKind P w) a S n
 | .ins C dx fs=>H dx=Y (.own a)/\fs...*<=1000/\dx≠a/\h.get? a=Y (W.instObj C dx)/\
   ∃mA,h.Ns1 dx mA/\(∀f,RelO (fs.lookup f) (mA f))/\PySem.Within mA (fs.map (·.1))
 | .own _=>∃o,h.get? a=Y o
 | .xd fs=>∃mA,h.Ns1 a mA/\∀f,RelO (fs.lookup f) (mA f)
 | .rng lo hi=>∃t u v,h.get? a=some {cls:=.type "range",data:=.fields #[.int lo t, .int hi u, .int 1 v]}
 | .frz o u=>h.get? a=Y o/\ObjOk H h a u
 | .tbl ps=>h.get? a=some {cls:=.none,data:=.fields ps}
 | .met f x=>h.get? a=Y (W.methodObj (.ref f) (.ref x))
 | .ext φ=>φ h/\(∃o,h.get? a=Y o)/\∀h1 h2:V5,φ h1->(∀o,h1.get? a=Y o->h2.get? a=Y o)->φ h2
def HOk(H:Hp)(h:V5):Prop:=∀a o,H a=Y o->ObjOk P w H h a o
end
section
variable{P:V3}{w:V4}{H H':Hp}{h h':V5}{a:V1}{o:HO}
theorem ObjOk.lt(x:ObjOk P w H h a o):a<h.objs.size:=by
 cases o with
 | lst xs=>obtain⟨_,_,_,_,e⟩:=x;exact nB e
 | tup xs=>obtain⟨_,_,_,p⟩:=x;exact p.lt
 | dK kvs=>obtain⟨_,_,_,_,o,_,_,e,_⟩:=x;exact nB e
 | dT kvs=>obtain⟨_,_,_,_,o,_,_,e,_⟩:=x;exact nB e
 | set S n=>obtain⟨o,_,_,_,e,_⟩:=x;exact nB e
 | ins C dx fs=>obtain⟨_,_,_,e,_⟩:=x;exact nB e
 | own y=>obtain⟨_,e⟩:=x;exact nB e
 | xd fs=>obtain⟨_,⟨_,_,_,e,_⟩,_⟩:=x;exact nB e
 | rng lo hi=>obtain⟨_,_,_,e⟩:=x;exact nB e
 | frz ob u=>obtain⟨e,_⟩:=x;exact nB e
 | tbl ps=>exact nB (show h.get? a=Y _ from x)
 | met f y=>exact nB (show h.get? a=Y _ from x)
 | ext φ=>obtain⟨_,⟨_,e⟩,_⟩:=x;exact nB e
theorem j8{α β:Type}{F G:α->β->Prop}:∀{l₁:List α}{l₂:List β},Paired F l₁ l₂->(∀a b,F a b->G a b)->Paired G l₁ l₂
 | _,_, .nil,_=>.nil
 | _,_, .cons r t,f=>.cons (f _ _ r) (j8 t f)
theorem ObjOk.stay(x:ObjOk P w H h a o)(k:∀b u,(b=a\/H b=Y (.own a))->h.get? b=Y u->h'.get? b=Y u)
  (ho:∀b,H b=Y (.own a)->H' b=Y (.own a)) (ht:∀b xs,H b=Y (.tup xs)->H' b=Y (.tup xs)):ObjOk P w H' h' a o:=by
 induction o with
 | lst xs=>obtain⟨z,its,n,r,e⟩:=x;exact{z,its,n,r,k _ _ (.inl O) e}
 | tup xs=>obtain⟨z,its,r,ob,e,c⟩:=x;exact{z,its,r,ob,k _ _ (.inl O) e,c}
 | dK kvs=>obtain⟨z,y,vs,r,ob,es,ep,e,c⟩:=x;exact{z,y,vs,r,ob,es,ep,k _ _ (.inl O) e,c}
 | dT kvs=>
  obtain⟨z,y,xs,r,ob,es,ep,e,c⟩:=x;exact{z,y,xs,j8 r λp q z=>{z.1,ht _ _ z.2.1,z.2.2},ob,es,ep,k _ _ (.inl O) e,c}
 | set S n=>obtain⟨ob,es,ep,t,e,c⟩:=x;exact{ob,es,ep,t,k _ _ (.inl O) e,c}
 | ins C dx fs=>
  obtain⟨d,z,ne,e,mA,⟨od,es,ep,e2,c⟩,r⟩:=x;exact{ho _ d,z,ne,k _ _ (.inl O) e,mA,{od,es,ep,k _ _ (.inr d) e2,c},r}
 | own y=>obtain⟨ob,e⟩:=x;exact{ob,k _ _ (.inl O) e}
 | xd fs=>obtain⟨mA,⟨od,es,ep,e,c⟩,r⟩:=x;exact{mA,{od,es,ep,k _ _ (.inl O) e,c},r}
 | rng lo hi=>obtain⟨t,u,v,e⟩:=x;exact{t,u,v,k _ _ (.inl O) e}
 | frz ob u ih=>obtain⟨e,q⟩:=x;exact{k _ _ (.inl O) e,ih q}
 | tbl ps=>
  let e:h.get? a=some {cls:=.none,data:=.fields ps}:=x;show h'.get? a=some {cls:=.none,data:=.fields ps};exact k a _ (.inl O) e
 | met f y=>
  let e:h.get? a=Y (W.methodObj (.ref f) (.ref y)):=x;show h'.get? a=Y (W.methodObj (.ref f) (.ref y));exact k a _ (.inl O) e
 | ext φ=>obtain⟨p,⟨o,e⟩,st⟩:=x;exact{st _ _ p λo q=>k _ _ (.inl O) q,{o,k _ _ (.inl O) e},st}
theorem HOk.lt(x:HOk P w H h)(e:H a=Y o):a<h.objs.size:=(x a o e).lt
theorem HOk.fresh(x:HOk P w H h)(e:h.objs.size<=a):H a=none:=by
 cases q:H a with
 | none=>rfl
 | some u=>exact absurd (nO (x.lt q) e) (sM _)
theorem HOk.kept(x:HOk P w H h)(k:∀b u,h.get? b=Y u->h'.get? b=Y u):HOk P w H h':=λa o e=>
 (x a o e).stay (λb u _ q=>k b u q) (λ_ q=>q) λ_ _ q=>q
theorem HOk.laid(x:HOk P w H h)(k:∀b u,h.get? b=Y u->h'.get? b=Y u)(hp:h.objs.size<=a)(new:ObjOk P w (upd H a o) h' a o):HOk P w (upd H a o) h':=λb u e=>by
 let hn:=x.fresh hp
 by_cases hb:b=a
 ·subst hb;rw[zB] at e;cases e;exact new
 ·rw[zM hb] at e
  exact(x b u e).stay (λc v _ q=>k c v q) (λc q=>by rw[zM (yK q hn)];exact q) λc xs q=>by rw[zM (yK q hn)];exact q
end
def Rd(H:Hp)(a:V1)(u:HO):Prop:=H a=Y u\/∃o,H a=Y (.frz o u)
theorem Rd.ok{P:V3}{w:V4}{H:Hp}{h:V5}{a:V1}{u:HO}(r:Rd H a u)(x:HOk P w H h):ObjOk P w H h a u:=by
 rcases r with r |⟨o,r⟩
 ·exact x a u r
 ·obtain⟨_,q⟩:=x a _ r
  exact q
def Mut:Option HO->Prop
 | some (.lst _)=>True
 | some (.dK _)=>True
 | some (.dT _)=>True
 | some (.set _ _)=>True
 | some (.ins _ _ _)=>True
 | some (.ext _)=>True
 | _=>False
section
variable{P:V3}{w:V4}{H:Hp}{h h':V5}{x e:V1}{o':HO}
theorem HOk.write(ok:HOk P w H h)(mu:Mut (H x))(he:e=x\/H e=Y (.own x))(k:∀b u,b≠e->h.get? b=Y u->h'.get? b=Y u)(heo:∃u,h'.get? e=Y u)
  (new:ObjOk P w (upd H x o') h' x o'):HOk P w (upd H x o') h':=λb u q=>by
 let nown:∀c y,H c=Y (.own y)->c≠x:=λc y r z=>by subst z;rw[r] at mu;exact mu
 let ntup:∀c xs,H c=Y (.tup xs)->c≠x:=λc xs r z=>by subst z;rw[r] at mu;exact mu
 by_cases hb:b=x
 ·subst hb;rw[zB] at q;cases q;exact new
 ·rw[zM hb] at q
  by_cases hbe:b=e
  ·let q':H b=Y (.own x):=by
    rcases he with z | z
    ·exact absurd (hbe.trans z) hb
    ·rw[hbe];exact z
   rw[q] at q';cases q';obtain⟨v,hv⟩:=heo;exact{v,by rw[hbe];exact hv}
  ·refine(ok b u q).stay (λc v hc r=>k c v ?_ r) (λc r=>by rw[zM (nown c b r)];exact r) λc xs r=>by rw[zM (ntup c xs r)];exact r
   rcases hc with rfl | hc
   ·exact hbe
   ·rintro rfl
    rcases he with z | z
    ·exact nown c b hc z
    ·rw[hc] at z;cases z;exact hb O
end
structure Un(fs ex:List V1)(H H':Hp)(h h':V5):Prop where
 keep:∀b o,h.get? b=Y o->H b=none->b∉fs->b∉ex->h'.get? b=Y o
 slot:∀b o,h.get? b=Y o->H b=none->b∈fs->b∉ex->∃sl,h'.get? b=some {o with slots:=sl}
 free:∀b o,h.get? b=Y o->H b=none->b∉ex->H' b=none
 there:∀b o,h.get? b=Y o->b∉ex->∃o',h'.get? b=Y o'
 tups:∀b xs,H b=Y (.tup xs)->H' b=Y (.tup xs)
 frzs:∀b o u,H b=Y (.frz o u)->H' b=Y (.frz o u)
 tbls:∀b ps,H b=Y (.tbl ps)->∃more,H' b=Y (.tbl (ps++more))
section
variable{fs fs' ex ex':List V1}{H H1 H2:Hp}{h h1 h2 h':V5}{a x e:V1}{o:HO}
theorem Un.any(u:Un fs ex H H1 h h1){b:V1}{ob:Obj}(q:h.get? b=Y ob)(n:H b=none)(hx:b∉ex):∃sl,h1.get? b=some {ob with slots:=sl}:=by
 by_cases hb:b∈fs
 ·exact u.slot b ob q n hb hx
 ·exact{ob.slots,u.keep b ob q n hb hx}
theorem Un.kept(k:∀b u,h.get? b=Y u->h'.get? b=Y u):Un fs ex H H h h':=
 {λb ob q _ _ _=>k b ob q,λb ob q _ _ _=>{ob.slots,k b ob q},λ_ _ _ n _=>n,λb ob q _=>{ob,k b ob q},λ_ _ q=>q,λ_ _ _ q=>q,λ_ ps q=>{#[],by rw[q];simp}}
theorem Un.refl:Un fs ex H H h h:=Un.kept λ_ _ q=>q
theorem Un.laid(k:∀b u,h.get? b=Y u->h'.get? b=Y u)(hp:h.objs.size<=a)(hn:H a=none):Un fs ex H (upd H a o) h h' where
 keep:=λb u q _ _ _=>k b u q
 slot:=λb u q _ _ _=>{u.slots,k b u q}
 free:=λb u q n _=>by rw[zM (nQ (nO (nB q) hp))];exact n
 there:=λb u q _=>{u,k b u q}
 tups:=λb xs q=>by rw[zM (yK q hn)];exact q
 frzs:=λb u xs q=>by rw[zM (yK q hn)];exact q
 tbls:=λb ps q=>{#[],by rw[zM (yK q hn),q];simp}
theorem Un.write(mu:Mut (H x))(he:e=x\/H e=Y (.own x))(k:∀b u,b≠e->h.get? b=Y u->h'.get? b=Y u)(heo:∃u,h'.get? e=Y u):Un fs ex H (upd H x o) h h':=by
 let hx:∀b,H b=none->b≠x:=λb n z=>by subst z;rw[n] at mu;exact mu
 let hb:∀b,H b=none->b≠e:=λb n z=>by
  subst z;rcases he with r | r
  ·exact hx b n r
  ·rw[n] at r;cases r
 let hm:∀b u,H b=Y u->¬Mut ↥u->b≠x:=λb u q nm z=>by subst z;rw[q] at mu;exact nm mu
 refine{λb u q n _ _=>k b u (hb b n) q,λb u q n _ _=>{u.slots,k b u (hb b n) q},λb u q n _=>by rw[zM (hx b n)];exact n,λb u q _=>?_,
  λb xs q=>by rw[zM (hm b _ q λz=>z)];exact q,λb u xs q=>by rw[zM (hm b _ q λz=>z)];exact q,λb ps q=>{#[],by rw[zM (hm b _ q λz=>z),q];simp}}
 by_cases hbe:b=e
 ·subst hbe;exact heo
 ·exact{u,k b u hbe q}
end
def trk(h:V5)(H:Hp):List V1:=(List.range h.objs.size).filter λa=>(H a).isSome
def zGy(h:V5)(H:Hp):V5:=W.hideAll h (trk h H)
theorem zQf(h:V5)(H:Hp):(zGy h H).objs.size=h.objs.size:=W.hideAll_size _ _
theorem zRv{h:V5}{H:Hp}{b:V1}{o:Obj}(e:h.get? b=Y o)(n:H b=none):(zGy h H).get? b=Y o:=
 W.hideAll_get _ e λhm=>by
  let q:(H b).isSome=true:=(aX.mp hm).2;rw[n] at q;simp at q
theorem zYi{h:V5}{H:Hp}{b:V1}{o:Obj}(e:(zGy h H).get? b=Y o):h.get? b=Y o/\H b=none:=by
 let e':h.get? b=Y o:=W.of_hideAll (trk h H) e;refine{e', ?_}
 cases q:H b with
 | none=>rfl
 | some x=>
  let hm:b∈trk h H:=aX.mpr {tK.mpr (nB e'),by simp[q]};let z:(zGy h H).get? b=none:=W.hideAll_none (trk h H) hm;rw[z] at e;cases e
def zWm(g h:V5)(L:V1):List (V1×Obj):=(List.range h.objs.size).filterMap λa=>if a=L\/(g.get? a).isSome=true then none else(h.get? a).map λo=>(a,o)
def rest(g h:V5)(L d:V1):List (V1×Obj):=(zWm g h L).filter λp=>decide (p.1≠d)
structure Mod(K:A6)(mg:Str->Option V0)(base:V5):Prop where
 kin:K.In base
 glob:base.Ns A0 mg
 blt:∃mb,base.Ns builtinsNs mb/\∀x:Str,x≠ "__name__"->mb x=A1 x
 nolimit:base.NoLimit
structure Cx where
 prog:V3
 w:V4
 K:A6
 mg:Str->Option V0
 base:V5
 A:Around
 N:List Str
 s₀:V2
 H₀:Hp
 env:S7
 outer:List S7
 stack:List S7
 ex:List V1
 fn:Str->Bool
 calm:Bool
 pn:List (V1×Obj)
 xe:V0->V2->Prop
def frs(l:List S7):List V1:=l.filterMap (·.frame)
abbrev Cx.fs(X:Cx):List V1:=frs X.outer
def Vis(sc:Scope)(x:Str):Prop:=sc.names.lookup x=some .local\/sc.names.lookup x=some .cell\/sc.names.lookup x=some .free
def Loc(sc:Scope)(x:Str):Prop:=sc.names.lookup x=some .local\/sc.names.lookup x=some .cell
def Look(env:S7)(h:V5)(m:Str->Option V0)(x:Str)(u:V0):Prop:=
 (env.kindOf x=some .local/\m x=Y u)\/((env.kindOf x=some .cell\/env.kindOf x=some .free)/\∃c,env.cells.lookup x=Y c/\h.IsCell c ↥u)
structure Cx.Ok(X:Cx):Prop where
 mod:Mod X.K X.mg X.base
 kind:X.env.scope.kind= .function
 glob:X.env.globals=A0
 blt:X.env.builtins=builtinsNs
 above:X.s₀⁻¹<=X.env.locals
 inj:∀x y c,X.env.cells.lookup x=Y c->X.env.cells.lookup y=Y c->x=y
 has:∀x,(X.env.kindOf x=some .cell\/X.env.kindOf x=some .free)->∃c,X.env.cells.lookup x=Y c
 cab:∀x c,X.fn x=true->X.env.cells.lookup x=Y c->X.s₀⁻¹<=c
 hd:X.calm=true->X.A.handled=none
 frames:X.A.frames=Y X.stack
 stk:X.stack=X.outer\/(X.stack=X.env::X.outer/\X.env.frame=Y X.env.locals)
 exf:∀b∈X.ex,b≠X.env.locals/\∀x c,X.env.cells.lookup x=Y c->c≠b
 bs:∀b o,X.base.get? b=Y o->X.s₀.heap.get? b=Y o/\X.H₀ b=none
 bsz:X.base.objs.size<=X.s₀⁻¹
 noex:∀b o,X.base.get? b=Y o->b∉X.ex
 exfs:∀b∈X.ex,b∉X.fs
 funs:X.s₀.heap.FunFrames X.base X.outer
 frf:∀b∈X.fs,X.H₀ b=none
structure Inv(X:Cx)(pins:List (V1×Obj))(σ:List (Option V))(H:Hp)(s:V2):Prop where
 ok:X.Ok
 os:s.os=X.s₀.os
 bare:AllBare s.gens
 base:Un X.fs X.ex X.H₀ H X.s₀.heap s.heap
 loc:∃m,s.heap.Ns X.env.locals m/\∀(i:Nat)(x:Str)(v:V),X.N[i]? =Y x->σ[i]? =Y ↥v->Vis X.env.scope x->∃u,RelV v u/\Look X.env s.heap m x u
 cell:∀x c,X.env.cells.lookup x=Y c->∃v,s.heap.IsCell c v
 free:H X.env.locals=none
 freeC:∀x c,X.env.cells.lookup x=Y c->H c=none
 pin:∀p∈X.pn++pins,s.heap.get? p.1=Y p.2/\H p.1=none/\p.1≠X.env.locals/\p.1∉X.fs/\∀v,p.2.data≠ .cell v
 hok:HOk X.prog X.w H s.heap
 len:σ...*=X.N...*
section
variable{X:Cx}{pins:List (V1×Obj)}{σ:List (Option V)}{H H':Hp}{s:V2}{h':V5}
theorem Cx.Ok.nofr(ok:X.Ok){b:V1}{o:Obj}(e:X.base.get? b=Y o):b∉X.fs:=λhb=>by
 let:=(ok.funs.mem hb).1;rw[e] at this;cases this
theorem Inv.bs(I:Inv X pins σ H s):∀b o,X.base.get? b=Y o->s.heap.get? b=Y o/\H b=none:=λb o e=>
 ⟨I.base.keep b o (I.ok.bs b o e).1 (I.ok.bs b o e).2 (I.ok.nofr e) (I.ok.noex b o e),I.base.free b o (I.ok.bs b o e).1 (I.ok.bs b o e).2 (I.ok.noex b o e)⟩
theorem Inv.bk(I:Inv X pins σ H s):∀b o,X.base.get? b=Y o->s.heap.get? b=Y o:=λb o e=>(I.bs b o e).1
theorem Inv.mod(I:Inv X pins σ H s):Mod X.K X.mg X.base:=I.ok.mod
theorem Inv.kIn(I:Inv X pins σ H s):X.K.In s.heap:=I.ok.mod.kin.keeps I.bk
theorem Inv.lt(I:Inv X pins σ H s):X.env.locals<s⁻¹:=let ⟨_,hn,_⟩:=I.loc;hn.lt
theorem Inv.sz(I:Inv X pins σ H s):X.s₀⁻¹<=s⁻¹:=pC I.ok.above (bX I.lt)
theorem Inv.nofs(I:Inv X pins σ H s){a:V1}(h:s⁻¹<=a):a∉X.fs:=λhb=>by
 obtain⟨_,o,ho,_⟩:=I.ok.funs.mem hb;exact absurd (nO (nB ho) (pC I.sz h)) (sM _)
theorem Inv.cne(I:Inv X pins σ H s):∀x c,X.env.cells.lookup x=Y c->c≠X.env.locals:=λx c e z=>by
 refine xV (I.cell x c e) λv o ho hd=>?_;obtain⟨m,⟨o',es,ep,ho',hd',_⟩,_⟩:=I.loc;rw[z,ho'] at ho;cases ho;rw[hd'] at hd;cases hd
theorem Inv.funs(I:Inv X pins σ H s):s.heap.FunFrames X.base X.outer:=by
 let all:∀(l:List S7),(∀b∈frs l,b∈X.fs)->X.s₀.heap.FunFrames X.base l->s.heap.FunFrames X.base l:=by
  intro l
  induction l with
  | nil=>intro _ _;trivial
  | cons env r ih=>
   intro hs hl;obtain⟨hk,⟨L,o,hf,hn,ho,hd⟩,hr⟩:=hl;let hL:L∈X.fs:=hs L (by unfold frs;rw[pW,hf];exact mF);obtain⟨sl,e⟩:=I.base.slot L o ho (I.ok.frf L hL) hL λz=>I.ok.exfs L z hL;exact⟨hk,⟨L,_,hf,hn,e,hd⟩,ih (λb hb=>hs b (by unfold frs;rw[pW,hf];exact mH _ hb)) hr⟩
 exact all X.outer (λ_ hb=>hb) I.ok.funs
theorem Inv.stack(I:Inv X pins σ H s):s.heap.FunFrames X.base X.stack:=by
 rcases I.ok.stk with e |⟨e,hf⟩
 ·rw[e];exact I.funs
 ·rw[e]
  obtain⟨m,hn,_⟩:=I.loc;refine .cons (by rw[I.ok.kind];decide) hf hn ?_ I.funs;exact rJ (pC I.ok.bsz I.ok.above)
theorem Inv.stkSub(I:Inv X pins σ H s):∀b∈frs X.stack,b∈X.env.locals::X.fs:=λb hb=>by
 rcases I.ok.stk with e |⟨e,hf⟩
 ·rw[e] at hb;exact mH _ hb
 ·rw[e] at hb
  unfold frs at hb;rw[pW,hf] at hb;exact hb
theorem Inv.stkFree(I:Inv X pins σ H s):∀b∈frs X.stack,H b=none:=λb hb=>by
 rcases mD.mp (I.stkSub b hb) with e | hb
 ·rw[e];exact I.free
 ·obtain⟨_,o,ho,_⟩:=I.ok.funs.mem hb
  exact I.base.free b o ho (I.ok.frf b hb) λz=>I.ok.exfs b z hb
theorem Inv.step{g':Array GenState}{t':Nat}{d':Drawn}{ch:List V1}(I:Inv X pins σ H s)
  (hch:∀b∈ch,(b∈X.ex\/X.s₀⁻¹<=b)/\b≠X.env.locals/\(∀x c,X.env.cells.lookup x=Y c->c≠b)/\∀p∈X.pn++pins,p.1≠b)
  (keep:∀b o,b≠X.env.locals->b∉X.fs->b∉ch->s.heap.get? b=Y o->H b=none->h'.get? b=Y o)
  (slot:∀b o,b≠X.env.locals->b∈X.fs->b∉ch->s.heap.get? b=Y o->H b=none->∃sl,h'.get? b=some {o with slots:=sl}) (free:∀b o,b∉ch->s.heap.get? b=Y o->H b=none->H' b=none)
  (there:∀b o,b∉ch->s.heap.get? b=Y o->∃o',h'.get? b=Y o')
  (tups:∀b xs,H b=Y (.tup xs)->H' b=Y (.tup xs)) (frzs:∀b o u,H b=Y (.frz o u)->H' b=Y (.frz o u)) (tbls:∀b ps,H b=Y (.tbl ps)->∃more,H' b=Y (.tbl (ps++more)))
  (ns:∀m,s.heap.Ns X.env.locals m->h'.Ns X.env.locals m) (hok:HOk X.prog X.w H' h') (hg:AllBare g'):
  Inv X pins σ H' {s with heap:=h',gens:=g',drawn:=d',toks:=t'}:=by
 let neL:∀b o,X.s₀.heap.get? b=Y o->b≠X.env.locals:=λb o e=>nQ (nO (nB e) I.ok.above);let neC:∀b o,X.s₀.heap.get? b=Y o->b∉X.ex->b∉ch:=λb o e hx hb=>by
  rcases(hch b hb).1 with z | z
  ·exact hx z
  ·exact absurd (nO (nB e) z) (sM _)
 let cellK:∀x c,X.env.cells.lookup x=Y c->∀v,s.heap.IsCell c v->h'.IsCell c v:=λx c e v ⟨o,ho,hd⟩=>by
  let nch:c∉ch:=λz=>(hch c z).2.2.1 x c e O
  by_cases hc:c∈X.fs
  ·obtain⟨sl,q⟩:=slot c o (I.cne x c e) hc nch ho (I.freeC x c e)
   exact⟨_,q,hd⟩
  ·exact⟨o,keep c o (I.cne x c e) hc nch ho (I.freeC x c e),hd⟩
 refine{I.ok,I.os,hg,⟨λb o e n hb hx=>?_,λb o e n hb hx=>?_,λb o e n hx=>?_,λb o e hx=>?_,λb xs e=>tups b xs (I.base.tups b xs e),λb o xs e=>frzs b o xs (I.base.frzs b o xs e),λb ps e=>?_⟩, ?_,λx c e=>?_, ?_,λx c e=>?_,λp hp=>?_,hok,I.len}
 ·exact keep b o (neL b o e) hb (neC b o e hx) (I.base.keep b o e n hb hx) (I.base.free b o e n hx)
 ·obtain⟨sl,e1⟩:=I.base.slot b o e n hb hx
  obtain⟨sl',e2⟩:=slot b _ (neL b o e) hb (neC b o e hx) e1 (I.base.free b o e n hx);exact⟨sl',e2⟩
 ·obtain⟨o',e1⟩:=I.base.there b o e hx
  exact free b o' (neC b o e hx) e1 (I.base.free b o e n hx)
 ·obtain⟨o',e1⟩:=I.base.there b o e hx
  exact there b o' (neC b o e hx) e1
 ·obtain⟨m1,e1⟩:=I.base.tbls b ps e
  obtain⟨m2,e2⟩:=tbls b _ e1;exact{m1++m2,by rw[e2,Array.append_assoc]}
 ·obtain⟨m,hn,hl⟩:=I.loc
  refine{m,ns m hn,λi x v e1 e2 e3=>?_};obtain⟨u,r,l⟩:=hl i x v e1 e2 e3;refine{u,r, ?_};rcases l with l |⟨k,c,e,z⟩
  ·exact .inl l
  ·exact .inr {k,c,e,cellK x c e _ z}
 ·obtain⟨v,z⟩:=I.cell x c e
  exact{v,cellK x c e v z}
 ·obtain⟨m,⟨o,_,_,ho,_⟩,_⟩:=I.loc
  exact free _ o (λz=>(hch _ z).2.1 rfl) ho I.free
 ·refine xV (I.cell x c e) λv o ho hd=>?_
  exact free c o (λz=>(hch c z).2.2.1 x c e rfl) ho (I.freeC x c e)
 ·refine jM (I.pin p hp) λe n ne nf d=>?_
  let nch:p.1∉ch:=λz=>(hch p.1 z).2.2.2 p hp O;exact{keep p.1 p.2 ne nf nch e n,free p.1 p.2 nch e n,ne,nf,d}
theorem Inv.un{t':Nat}(I:Inv X pins σ H s)(u:Un X.fs [] H H' s.heap h')(hok:HOk X.prog X.w H' h'):Inv X pins σ H' {s with heap:=h',toks:=t'}:=by
 obtain⟨m,⟨o,es,ep,ho,r⟩,_⟩:=id I.loc;obtain⟨sl,hL⟩:=u.any ho I.free (by simp);exact I.step (g':=s.gens) (d':=s.drawn) (ch:=[]) (λ_ z=>nomatch z) (λb o _ hb _ e n=>u.keep b o e n hb (by simp)) (λb o _ hb _ e n=>u.slot b o e n hb (by simp)) (λb o _ e n=>u.free b o e n (by simp)) (λb o _ e=>u.there b o e (by simp)) u.tups u.frzs u.tbls (λm' hm=>by
  ext qI hm o' es' ep' ho' r';rw[ho] at ho';cases ho';exact⟨_,es',ep',hL,r'⟩) hok I.bare
theorem Inv.call{g':Array GenState}{t':Nat}{d':Drawn}{ch:List V1}(I:Inv X pins σ H s)(u:Un (frs X.stack) ch H H' s.heap h')(hok:HOk X.prog X.w H' h')(hg:AllBare g')
  (hch:∀b∈ch,(b∈X.ex\/X.s₀⁻¹<=b)/\b≠X.env.locals/\(∀x c,X.env.cells.lookup x=Y c->c≠b)/\∀p∈X.pn++pins,p.1≠b):
  Inv X pins σ H' {s with heap:=h',gens:=g',drawn:=d',toks:=t'}:=by
 obtain⟨m,⟨o,es,ep,ho,r⟩,_⟩:=id I.loc;obtain⟨sl,hL⟩:=u.any ho I.free λz=>(hch _ z).2.1 O;exact I.step (ch:=ch) hch (λb o hL hb hc e n=>u.keep b o e n (λz=>(mD.mp (I.stkSub b z)).elim hL hb) hc) (λb o _ _ hc e n=>u.any e n hc) (λb o hc e n=>u.free b o e n hc) (λb o hc e=>u.there b o e hc) u.tups u.frzs u.tbls (λm' hm=>by
  ext qI hm o' es' ep' ho' r';rw[ho] at ho';cases ho';exact⟨_,es',ep',hL,r'⟩) hok hg
theorem Inv.turned{t':Nat}{it:V1}(I:Inv X pins σ H s)(k:∀b o,b≠it->s.heap.get? b=Y o->h'.get? b=Y o)(hn:H it=none)(hL:it≠X.env.locals)
  (h1:it∈X.ex\/X.s₀⁻¹<=it) (h2:∀x c,X.env.cells.lookup x=Y c->c≠it) (h3:∀p∈X.pn++pins,p.1≠it):Inv X pins σ H {s with heap:=h',toks:=t'}:=by
 let nit:∀b u,H b=Y u->b≠it:=λb u e z=>by rw[z,hn] at e;cases e
 refine I.step (g':=s.gens) (d':=s.drawn) (ch:=[it]) (λb hb=>?_) (λb o _ _ hc e _=>k b o (λz=>hc (by simp[z])) e) (λb o _ _ hc e _=>⟨o.slots,k b o (λz=>hc (by simp[z])) e⟩) (λ_ _ _ _ n=>n)
  (λb o hc e=>⟨o,k b o (λz=>hc (by simp[z])) e⟩) (λ_ _ e=>e) (λ_ _ _ e=>e) (λb ps e=>{#[],by rw[e];simp}) (λm hm=>?_) (λb u e=>?_) I.bare
 ·let e:b=it:=by simpa using hb
  subst e;exact⟨h1,hL,h2,h3⟩
 ·ext qI hm o es ep ho r
  exact⟨o,es,ep,k _ o (Ne.symm hL) ho,r⟩
 ·refine(I.hok b u e).stay (λc v hc q=>k c v ?_ q) (λ_ q=>q) λ_ _ q=>q
  rcases hc with z | z
  ·rw[z];exact nit b u e
  ·exact nit c _ z
theorem Inv.tok(I:Inv X pins σ H s)(t:Nat):Inv X pins σ H {s with toks:=t}:=I.un (h':=s.heap) (t':=t) Un.refl I.hok
theorem Inv.kept{t':Nat}(I:Inv X pins σ H s)(k:∀b u,s.heap.get? b=Y u->h'.get? b=Y u):Inv X pins σ H {s with heap:=h',toks:=t'}:=I.un (Un.kept k) (I.hok.kept k)
theorem Inv.laid{a:V1}{o:HO}{t':Nat}(I:Inv X pins σ H s)(k:∀b u,s.heap.get? b=Y u->h'.get? b=Y u)(hp:s⁻¹<=a)(new:ObjOk X.prog X.w (upd H a o) h' a o):
  Inv X pins σ (upd H a o) {s with heap:=h',toks:=t'}:=I.un (Un.laid k hp (I.hok.fresh hp)) (I.hok.laid k hp new)
theorem Inv.write{x e:V1}{o:HO}{t':Nat}(I:Inv X pins σ H s)(mu:Mut (H x))(he:e=x\/H e=Y (.own x))(k:∀b u,b≠e->s.heap.get? b=Y u->h'.get? b=Y u)(heo:∃u,h'.get? e=Y u)
  (new:ObjOk X.prog X.w (upd H x o) h' x o):Inv X pins σ (upd H x o) {s with heap:=h',toks:=t'}:=I.un (Un.write mu he k heo) (I.hok.write mu he k heo new)
theorem Inv.weak{σ':List (Option V)}(I:Inv X pins σ H s)(hl:σ'...*=σ...*)(w:∀(i:Nat) v,σ'[i]? =Y ↥v->σ[i]? =Y ↥v):Inv X pins σ' H s:=
 {I.ok,I.os,I.bare,I.base,let ⟨m,hn,hl'⟩:=I.loc;{m,hn,λi x v e1 e2 e3=>hl' i x v e1 (w i v e2) e3},I.cell,I.free,I.freeC,I.pin,I.hok,hl.trans I.len}
theorem Inv.pins_of{pins':List (V1×Obj)}(I:Inv X pins σ H s)(h:∀p∈pins',s.heap.get? p.1=Y p.2/\H p.1=none/\p.1≠X.env.locals/\p.1∉X.fs/\∀v,p.2.data≠ .cell v):Inv X pins' σ H s:=
 {I.ok,I.os,I.bare,I.base,I.loc,I.cell,I.free,I.freeC,λp hp=>(mU.mp hp).elim (λz=>I.pin p (nV _ z)) (h p),I.hok,I.len}
theorem zIg{N:List Str}(hN:N.Nodup){i j:Nat}{x:Str}(a:N[i]? =Y x)(b:N[j]? =Y x):i=j:=by
 obtain⟨h1,e1⟩:=mO.mp a;obtain⟨h2,e2⟩:=mO.mp b;exact(List.getElem_inj hN).mp (e1.trans e2.symm)
theorem zGj{M:Model}{A:Around}{E:V0->V2->Prop}{i:Nat}{x:Str}{v:V}{u:V0}{Q:Unit->V2->Prop}(I:Inv X pins σ H s)(hN:X.N.Nodup)(hi:X.N[i]? =Y x)(hx:Loc X.env.scope x)(r:RelV v u)
  (h:∀s',Inv X pins (σ.set i ↥v) H s'->(∃a,Heap.SameBut a s.heap s'.heap/\(a=X.env.locals\/X.env.cells.lookup x=Y a))->Q () s') (hf:X.fn x=true\/X.env.scope.names.lookup x=some .local:=by first | exact .inl O | exact .inr O | assumption):V8 M A (storeName X.env x u) Q E s:=by
 obtain⟨m,hn,hl⟩:=id I.loc;let hcls:(X.env.scope.kind== .class ||(X.env.scope.kind== .module && X.env.locals !=X.env.globals))=false:=by rw[I.ok.kind];rfl
 let hiσ:i<σ...*:=by rw[I.len];exact(mO.mp hi).1
 let cne:=I.cne;let tracked:∀{a:V1}{h':V5},(∃o,s.heap.get? a=Y o/\H a=none)->Heap.SameBut a s.heap h'->HOk X.prog X.w H h':=λ{a h'} ha hs b ob e=>by
  obtain⟨_,_,hfree⟩:=ha;refine(I.hok b ob e).stay (λc w' hc q=>(hs.2 c ?_).trans q) (λ_ q=>q) λ_ _ q=>q;rintro rfl;rcases hc with rfl | hc
  ·rw[hfree] at e;cases e
  ·rw[hfree] at hc;cases hc
 rcases hx with hk | hk
 ·refine wpAny_storeName_local hk hn (λh' hn' hs=>?_) hcls
  refine qI (id hn) λoL _ _ hoL _=>?_;refine h _ {I.ok,I.os,I.bare,⟨λb o e n hb hx=>?_,λb o e n hb hx=>?_,I.base.free,λb o e hx=>?_,I.base.tups,I.base.frzs,I.base.tbls⟩,{_,hn',λj y v' e1 e2 e3=>?_},λy c e=>?_,I.free,I.freeC,λp hp=>?_,tracked ⟨oL,hoL,I.free⟩ hs,by simpa using I.len} {_,hs, .inl O}
  ·exact(hs.2 b (nQ (nO (nB e) I.ok.above))).trans (I.base.keep b o e n hb hx)
  ·obtain⟨sl,e1⟩:=I.base.slot b o e n hb hx
   exact{sl,(hs.2 b (nQ (nO (nB e) I.ok.above))).trans e1}
  ·obtain⟨o',e1⟩:=I.base.there b o e hx
   exact{o',(hs.2 b (nQ (nO (nB e) I.ok.above))).trans e1}
  ·by_cases hj:j=i
   ·subst hj
    rw[hi] at e1;cases e1;rw[aB hiσ] at e2;cases e2;exact{u,r, .inl {hk,by simp}}
   ·rw[tG (Ne.symm hj)] at e2
    obtain⟨u',r',q⟩:=hl j y v' e1 e2 e3;refine{u',r', ?_};rcases q with⟨k,e⟩|⟨k,c,e,z⟩
    ·refine .inl {k, ?_}
     let:y≠x:=λe=>hj (zIg hN e1 (e▸hi));simp[this,e]
    ·exact .inr {k,c,e,z.sameBut hs (cne y c e)}
  ·obtain⟨w',z⟩:=I.cell y c e
   exact{w',z.sameBut hs (cne y c e)}
  ·refine jM (I.pin p hp) λe n ne nf d=>?_
   exact{(hs.2 p.1 ne).trans e,n,ne,nf,d}
 ·let hfn:X.fn x=true:=by
   rcases hf with z | z
   ·exact z
   ·rw[z] at hk;cases hk
  obtain⟨c,hc⟩:=I.ok.has x (.inl hk);obtain⟨w',z⟩:=I.cell x c hc;refine wpAny_storeName_cell I.ok.kind hk hc z (λh' hc' hs=>?_);obtain⟨oc,hoc,hocd⟩:=id z;refine h {s with heap:=h'} {I.ok,I.os,I.bare,⟨λb o e n hb hx=>?_,λb o e n hb hx=>?_,I.base.free,λb o e hx=>?_,I.base.tups,I.base.frzs,I.base.tbls⟩,{m,hn.sameBut hs (Ne.symm (cne x c hc)),λj y v' e1 e2 e3=>?_},λy c' e=>?_,I.free,I.freeC,λp hp=>?_,tracked {oc,hoc,I.freeC x c hc} hs,by simpa using I.len} {c,hs, .inr hc}
  ·exact(hs.2 b (nQ (nO (nB e) (I.ok.cab x c hfn hc)))).trans (I.base.keep b o e n hb hx)
  ·obtain⟨sl,e1⟩:=I.base.slot b o e n hb hx
   exact{sl,(hs.2 b (nQ (nO (nB e) (I.ok.cab x c hfn hc)))).trans e1}
  ·obtain⟨o',e1⟩:=I.base.there b o e hx
   exact{o',(hs.2 b (nQ (nO (nB e) (I.ok.cab x c hfn hc)))).trans e1}
  ·by_cases hj:j=i
   ·subst hj
    rw[hi] at e1;cases e1;rw[aB hiσ] at e2;cases e2;exact{u,r, .inr {.inl hk,c,hc,hc'}}
   ·rw[tG (Ne.symm hj)] at e2
    obtain⟨u',r',q⟩:=hl j y v' e1 e2 e3;refine{u',r', ?_};rcases q with q |⟨k,c',e,z'⟩
    ·exact .inl q
    ·refine .inr {k,c',e,z'.sameBut hs ?_}
     rintro rfl;exact hj (zIg hN e1 (I.ok.inj _ _ _ e hc▸hi))
  ·by_cases hcc:c'=c
   ·subst hcc;exact⟨_,hc'⟩
   ·obtain⟨w2,z2⟩:=I.cell y c' e
    exact{w2,z2.sameBut hs hcc}
  ·refine jM (I.pin p hp) λe n ne nf d=>?_
   refine{(hs.2 p.1 ?_).trans e,n,ne,nf,d};intro q;rw[q,hoc] at e;let q':oc=p.2:=mR e;exact d w' (by rw[<-q'];exact hocd)
theorem kJ{M:Model}{A:Around}{E:V0->V2->Prop}{i:Nat}{x:Str}{v:V}{u:V0}{Q:Unit->V2->Prop}(I:Inv X pins σ H s)(hN:X.N.Nodup)(hi:X.N[i]? =Y x)(hx:Loc X.env.scope x)(r:RelV v u)
  (h:∀s',Inv X pins (σ.set i ↥v) H s'->Q () s') (hf:X.fn x=true\/X.env.scope.names.lookup x=some .local:=by first | exact .inl O | exact .inr O | assumption):V8 M A (storeName X.env x u) Q E s:=
 zGj I hN hi hx r (λs' I' _=>h s' I') hf
theorem Inv.call'{s':V2}{ch:List V1}(I:Inv X pins σ H s)(ho:s'.os=s.os)(u:Un (frs X.stack) ch H H' s.heap s'.heap)(hok:HOk X.prog X.w H' s'.heap)(hg:AllBare s'.gens)
  (hch:∀b∈ch,(b∈X.ex\/X.s₀⁻¹<=b)/\b≠X.env.locals/\(∀x c,X.env.cells.lookup x=Y c->c≠b)/\∀p∈X.pn++pins,p.1≠b):Inv X pins σ H' s':=by
 obtain⟨h',g',d',t',o'⟩:=s';let e:o'=s.os:=ho;subst e;exact I.call (g':=g') (t':=t') (d':=d') u hok hg hch
end
abbrev XK:=V0->Option V1->Hp->Prop
abbrev St:=List (Option V)
abbrev VK:=V->Hp->Prop
abbrev TE:=St->Hp->VK->Prop
abbrev TT:=St->Hp->(Bool->Hp->Prop)->Prop
abbrev TA:=St->Hp->(List V->Hp->Prop)->Prop
structure jL where
 nx:St->Hp->Prop
 rt:VK
 bk:St->Hp->Prop:=λ_ _=>False
 ct:St->Hp->Prop:=λ_ _=>False
abbrev TS:=jL->St->Hp->Prop
def EP(X:Cx)(pins:List (V1×Obj))(σ:St)(Q:VK)(u:V0)(s':V2):Prop:=∃v H',Inv X pins σ H' s'/\RelV v u/\Q v H'
def TP(X:Cx)(pins:List (V1×Obj))(σ:St)(Q:Bool->Hp->Prop)(b:Bool)(s':V2):Prop:=∃H',Inv X pins σ H' s'/\Q b H'
def AP(X:Cx)(pins:List (V1×Obj))(σ:St)(Q:List V->Hp->Prop)(us:List V0)(s':V2):Prop:=∃vs H',Inv X pins σ H' s'/\Vals vs us/\Q vs H'
def SP(X:Cx)(pins:List (V1×Obj))(D:jL)(f:Flow)(s':V2):Prop:=
 match f with
 | .next=>∃σ' H',Inv X pins σ' H' s'/\D.nx σ' H'
 | .brk=>∃σ' H',Inv X pins σ' H' s'/\D.bk σ' H'
 | .cont=>∃σ' H',Inv X pins σ' H' s'/\D.ct σ' H'
 | .ret u=>∃v σ' H',Inv X pins σ' H' s'/\RelV v u/\D.rt v H'
def PE(X:Cx)(e:Expr)(t:TE):Prop:=
 ∀(pins:List (V1×Obj))(s:V2)(σ:St)(H:Hp)(Q:VK),Inv X pins σ H s->t σ H Q->V8 (S5 X.prog X.w) X.A (eval e X.env) (EP X pins σ Q) X.xe s
def PT(X:Cx)(e:Expr)(t:TT):Prop:=
 ∀(pins:List (V1×Obj))(s:V2)(σ:St)(H:Hp)(Q:Bool->Hp->Prop),Inv X pins σ H s->t σ H Q->V8 (S5 X.prog X.w) X.A (isTrue e X.env (eval e X.env)) (TP X pins σ Q) X.xe s
def PW(X:Cx)(e:Expr)(t:TT):Prop:=
 ∀(whole:Sem V0)(pins:List (V1×Obj))(s:V2)(σ:St)(H:Hp)(Q:Bool->Hp->Prop),Inv X pins σ H s->t σ H Q->V8 (S5 X.prog X.w) X.A (isTrue e X.env whole) (TP X pins σ Q) X.xe s
theorem j5{X:Cx}{e:Expr}{t:TT}(h:PW X e t):PT X e t:=h _
def PA(X:Cx)(es:List Expr)(t:TA):Prop:=
 ∀(pos:Pos)(pins:List (V1×Obj))(s:V2)(σ:St)(H:Hp)(Q:List V->Hp->Prop),Inv X pins σ H s->t σ H Q->V8 (S5 X.prog X.w) X.A (spliced (S2 pos (A2 es X.env))) (AP X pins σ Q) X.xe s
def PS(X:Cx)(st:V6)(t:TS):Prop:=
 ∀(pins:List (V1×Obj))(s:V2)(σ:St)(H:Hp)(D:jL),Inv X pins σ H s->t D σ H->V8 (S5 X.prog X.w) X.A (exec st X.env) (SP X pins D) X.xe s
def PSs(X:Cx)(st:List V6)(t:TS):Prop:=
 ∀(pins:List (V1×Obj))(s:V2)(σ:St)(H:Hp)(D:jL),Inv X pins σ H s->t D σ H->V8 (S5 X.prog X.w) X.A (execs st X.env) (SP X pins D) X.xe s
theorem thn{α:Type}{t:Sem α}{Q Q':α->V2->Prop}{M:Model}{A:Around}{E:V0->V2->Prop}{s:V2}(h:V8 M A t Q E s)(hQ:∀a s,Q a s->Q' a s):V8 M A t Q' E s:=pO h hQ λ_ _ x=>x
section
variable{X:Cx}
def vY(i:Nat):TE:=λσ H Q=>match σ[i]? with
 | some ↥v=>Q v H
 | _=>False
theorem zWi{i:Nat}{σ:St}{H:Hp}{Q:VK}(h:vY i σ H Q):∃v,σ[i]? =Y ↥v/\Q v H:=by
 unfold vY at h;split at h
 ·exact{_,by assumption,h}
 ·exact h.elim
def tC(v:V):TE:=λ_ H Q=>Q v H
theorem zUd{i:Nat}{x:Str}{pos:Pos}(hN:X.N[i]? =Y x)(hv:Vis X.env.scope x)(hd:(x==("__debug__" :Str))=false:=by decide)(hcd:(x==("__classdict__" :Str))=false:=by decide):PE X (.Name x pos) (vY i):=by
 intro pins s σ H Q I h;obtain⟨v,e,h⟩:=zWi h;obtain⟨m,hn,hl⟩:=I.loc;obtain⟨u,r,l⟩:=hl i x v hN e hv;let fin:EP X pins σ Q u s:=⟨v,H,I,r,h⟩;rcases l with⟨hk,hm⟩|⟨hk,c,hc,hcell⟩
 ·exact wpAny_Name (wpAny_loadName_local I.ok.kind hk hn hm fin) hd
 ·rcases hk with hk | hk
  ·exact wpAny_Name (wpAny_loadName_cell I.ok.kind hk hc hcell fin) hd
  ·exact wpAny_Name (wpAny_loadName_free I.ok.kind hk hc hcell fin hcd) hd
theorem zE{i j pos}:PE X (.Constant (.int i) j pos) (tC (.int i)):=λ_ _ _ H _ I h=>wpAny_Constant_int {.int i,H,I.tok _,⟨_,O⟩,h}
theorem qB{b j pos}:PE X (.Constant (.bool b) j pos) (tC (.bl b)):=λ_ _ _ H _ I h=>Constant_bool {.bl b,H,I,O,h}
theorem gQ{j pos}:PE X (.Constant .none j pos) (tC .non):=λ_ _ _ H _ I h=>Constant_none {.non,H,I,O,h}
theorem zN{x j pos}:PE X (.Constant (.str x) j pos) (tC (.str x)):=λ_ _ _ H _ I h=>Calls.Constant_str {.str x,H,I.tok _,⟨_,O⟩,h}
def Gl(X:Cx)(x:Str):Prop:=X.env.kindOf x=some .globalImplicit
theorem vX{E:V0->V2->Prop}{pins:List (V1×Obj)}{s:V2}{σ:St}{H:Hp}{x:Str}{u:V0}{pos:Pos}{Q:V0->V2->Prop}(I:Inv X pins σ H s)(hg:Gl X x)(hm:X.mg x=Y u)(h:Q u s)
  (hd:(x==("__debug__" :Str))=false:=by decide):V8 (S5 X.prog X.w) X.A (eval (.Name x pos) X.env) Q E s:=
 Calls.Name_function_global I.ok.kind hg (Calls.loadGlobal_global (by rw[I.ok.glob];exact I.mod.glob.keeps I.bk) hm h) hd
theorem zAm{E:V0->V2->Prop}{pins:List (V1×Obj)}{s:V2}{σ:St}{H:Hp}{x:Str}{u:V0}{pos:Pos}{Q:V0->V2->Prop}(I:Inv X pins σ H s)(hg:Gl X x)(hm:X.mg x=none)(hv:A1 x=Y u)(h:Q u s)
  (hn:x≠ "__name__":=by decide) (hd:(x==("__debug__" :Str))=false:=by decide):V8 (S5 X.prog X.w) X.A (eval (.Name x pos) X.env) Q E s:=by
 obtain⟨mb,h1,h2⟩:=I.mod.blt;exact Calls.Name_function_global I.ok.kind hg (Calls.loadGlobal_builtin (by rw[I.ok.glob];exact I.mod.glob.keeps I.bk) hm (by rw[I.ok.blt];exact h1.keeps I.bk) ((h2 x hn).trans hv) h) hd
theorem zCl{x:Str}{v:V}{u:V0}{pos:Pos}(hg:Gl X x)(hm:X.mg x=Y u)(r:RelV v u)(hd:(x==("__debug__" :Str))=false:=by decide):PE X (.Name x pos) (tC v):=
 λ_ _ _ H _ I h=>vX I hg hm ⟨v,H,I,r,h⟩ hd
theorem xL{x:Str}{v:V}{u:V0}{pos:Pos}(hg:Gl X x)(hm:X.mg x=none)(hv:A1 x=Y u)(r:RelV v u)(hn:x≠ "__name__":=by decide)(hd:(x==("__debug__" :Str))=false:=by decide):PE X (.Name x pos) (tC v):=
 λ_ _ _ H _ I h=>zAm I hg hm hv ⟨v,H,I,r,h⟩ hn hd
variable{a b:Expr}{ta tb:TE}{pos:Pos}
def PC(X:Cx)(op:CmpOp)(a b:Expr)(t:TE):Prop:=
 ∀(pins:List (V1×Obj))(s:V2)(σ:St)(H:Hp)(Q:VK),Inv X pins σ H s->t σ H Q->
  V8 (S5 X.prog X.w) X.A (eval a X.env) (λv s₁=>V8 (S5 X.prog X.w) X.A (eval b X.env) (λu s₂=>V8 (S5 X.prog X.w) X.A (A3 op v u) (EP X pins σ Q) X.xe s₂) X.xe s₁) X.xe s
theorem zKh(b:Expr){op:CmpOp}(h:op≠ .In)(h2:op≠ .NotIn):behindInMarks op b=false:=by
 let e1:(op==CmpOp.In)=false:=by cases op<;>first | rfl | exact absurd O h
 let e2:(op==CmpOp.NotIn)=false:=by cases op<;>first | rfl | exact absurd O h2
 cases b<;>simp[behindInMarks,e1,e2]
def yAf(ta:TE):TE:=λσ H Q=>ta σ H λx H1=>Q (.bl (decide (x= .non))) H1
def zUc(ta:TE):TE:=λσ H Q=>ta σ H λx H1=>Q (.bl (!decide (x= .non))) H1
theorem RelV.none_iff{x:V}{v:V0}(r:RelV x v):(v==Value.none)=decide (x= .non):=by
 cases x with
 | non=>cases r;rfl
 | bl _=>cases r;rfl
 | int _=>obtain⟨t,rfl⟩:=r;rfl
 | str _=>obtain⟨t,rfl⟩:=r;rfl
 | byt _=>obtain⟨t,rfl⟩:=r;rfl
 | flt _=>obtain⟨t,rfl⟩:=r;rfl
 | ref _=>cases r;rfl
 | ty _=>cases r;rfl
theorem zKv{j pos'}(ha:PE X a ta):PC X .Is a (.Constant .none j pos') (yAf ta):=by
 intro pins s σ H Q I h;refine thn (ha pins s σ H _ I h) λv s1 ⟨x,H1,I1,r1,q1⟩=>?_;exact Constant_none (is_none_gen {.bl _,H1,I1,by rw[r1.none_iff];rfl,q1})
theorem zHt{j pos'}(ha:PE X a ta):PC X .IsNot a (.Constant .none j pos') (zUc ta):=by
 intro pins s σ H Q I h;refine thn (ha pins s σ H _ I h) λv s1 ⟨x,H1,I1,r1,q1⟩=>?_;exact Constant_none (isnot_none_gen {.bl _,H1,I1,by rw[r1.none_iff];rfl,q1})
def tB(t:TE):TT:=λσ H Q=>t σ H λx H1=>∃c,x= .bl c/\Q c H1
theorem zMi{op:CmpOp}{t:TE}(h:PC X op a b t)(h1:behindInMarks op b=false:=by first | exact zKh _ ∎ ∎| rfl):PE X (.Compare a [op] [b] pos) t:=λpins s σ H Q I hw=>wpAny_Compare1 (h pins s σ H Q I hw) h1
theorem uH{op:CmpOp}{t:TE}(h:PC X op a b t)(h1:behindInMarks op b=false:=by first | exact zKh _ ∎ ∎| rfl):PT X (.Compare a [op] [b] pos) (tB t):=by
 intro pins s σ H Q I hw;refine wpAny_isTrue_Compare1 (thn (h pins s σ H _ I hw) λv s1 h1=>thn h1 λu s2 h2=>thn h2 λc s3 ⟨x,H1,I1,r1,q1⟩=>?_) h1;obtain⟨d,rfl,q⟩:=q1;cases r1;exact pZ ⟨H1,I1,q⟩
theorem yF{e:Expr}{t:TE}(h:PE X e t)(he:∀whole,isTrue e X.env whole=(do let v <-whole;S0 e.pos;holding [v] (truthy v)):=by intro _;rfl):PT X e (tB t):=by
 intro pins s σ H Q I hw;refine isTrue_plain (thn (h pins s σ H _ I hw) λv s1 ⟨x,H1,I1,r1,q1⟩=>?_) (he _);obtain⟨d,rfl,q⟩:=q1;cases r1;exact pZ ⟨H1,I1,q⟩
variable{tA tB':TT}{rest:List Expr}
def yAt(t u:TT):TT:=λσ H Q=>t σ H λc H1=>if c=true then u σ H1 Q else Q false H1
def tOr(t u:TT):TT:=λσ H Q=>t σ H λc H1=>if c=true then Q true H1 else u σ H1 Q
def zZt(t:TT):TT:=λσ H Q=>t σ H λc H1=>Q (!c) H1
theorem qR(ha:PT X a tA):PW X (.BoolOp .And [a] pos) tA:=by
 intro wh pins s σ H Q I h;refine isTrue_and (thn (ha pins s σ H Q I h) λc s1 e=>?_)
 cases c with
 | true=>exact isTrue_and_nil e
 | false=>exact e
theorem zAb(ha:PT X a tA):PW X (.BoolOp .Or [a] pos) tA:=by
 intro wh pins s σ H Q I h;refine isTrue_or (thn (ha pins s σ H Q I h) λc s1 e=>?_)
 cases c with
 | false=>exact isTrue_or_nil e
 | true=>exact e
theorem vR(ha:PT X a tA)(hb:PW X (.BoolOp .And (b::rest) pos) tB'):PW X (.BoolOp .And (a::b::rest) pos) (yAt tA tB'):=by
 intro wh pins s σ H Q I h;refine isTrue_and (thn (ha pins s σ H _ I h) λc s1 ⟨H1,I1,q1⟩=>?_)
 cases c with
 | true=>exact hb wh pins s1 σ H1 Q I1 q1
 | false=>exact⟨H1,I1,q1⟩
theorem zBa(ha:PT X a tA)(hb:PW X (.BoolOp .Or (b::rest) pos) tB'):PW X (.BoolOp .Or (a::b::rest) pos) (tOr tA tB'):=by
 intro wh pins s σ H Q I h;refine isTrue_or (thn (ha pins s σ H _ I h) λc s1 ⟨H1,I1,q1⟩=>?_)
 cases c with
 | true=>exact⟨H1,I1,q1⟩
 | false=>exact hb wh pins s1 σ H1 Q I1 q1
theorem wL(ha:PT X a tA):PT X (.UnaryOp .Not a pos) (zZt tA):=by
 intro pins s σ H Q I h;exact isTrue_not (ha pins s σ H (λc H1=>Q (!c) H1) I h)
def zSn(ta tb:TE):TE:=λσ H Q=>ta σ H λx H1=>∃c,x= .bl c/\if c=true then tb σ H1 Q else Q (.bl false) H1
def yAc(ta tb:TE):TE:=λσ H Q=>ta σ H λx H1=>∃c,x= .bl c/\if c=true then Q (.bl true) H1 else tb σ H1 Q
def zYv(ta:TE):TE:=λσ H Q=>ta σ H λx H1=>∃c,x= .bl c/\Q (.bl (!c)) H1
theorem vZ{op}{t:TE}(h:PE X a t):PE X (.BoolOp op [a] pos) t:=λpins s σ H Q I hw=>BoolOp_one (h pins s σ H Q I hw)
theorem vK(ha:PE X a ta)(hb:PE X (.BoolOp .And (b::rest) pos) tb):PE X (.BoolOp .And (a::b::rest) pos) (zSn ta tb):=by
 intro pins s σ H Q I h;refine BoolOp_and (thn (ha pins s σ H _ I h) λv s1 ⟨x,H1,I1,r1,q1⟩=>?_);obtain⟨c,rfl,q1⟩:=q1;cases r1;refine pZ ?_
 cases c with
 | true=>exact hb pins s1 σ H1 Q I1 q1
 | false=>exact{.bl false,H1,I1,O,q1}
theorem pe_or(ha:PE X a ta)(hb:PE X (.BoolOp .Or (b::rest) pos) tb):PE X (.BoolOp .Or (a::b::rest) pos) (yAc ta tb):=by
 intro pins s σ H Q I h;refine BoolOp_or (thn (ha pins s σ H _ I h) λv s1 ⟨x,H1,I1,r1,q1⟩=>?_);obtain⟨c,rfl,q1⟩:=q1;cases r1;refine pZ ?_
 cases c with
 | false=>exact hb pins s1 σ H1 Q I1 q1
 | true=>exact{.bl true,H1,I1,O,q1}
def tIf(t:TT)(ta tb:TE):TE:=λσ H Q=>t σ H λc H1=>if c=true then ta σ H1 Q else tb σ H1 Q
theorem zJr{c:Expr}(hc:PT X c tA)(ha:PE X a ta)(hb:PE X b tb):PE X (.IfExp c a b pos) (tIf tA ta tb):=by
 intro pins s σ H Q I h;refine wpAny_IfExp (thn (hc pins s σ H _ I h) λd s1 ⟨H1,I1,q1⟩=>?_)
 cases d with
 | true=>exact ha pins s1 σ H1 Q I1 q1
 | false=>exact hb pins s1 σ H1 Q I1 q1
end
def SqL(K:A6)(H:Hp)(a:V1)(xs:List V):Prop:=
 Rd H a (.lst xs)\/
  ∃(o:Obj)(its:Array V0)(n:Nat),K.lookup a=Y o/\o.cls= .type "list"/\o.dict=none/\o.data= .seq its n/\its.size<=V9/\Vals xs its.toList
def SqT(K:A6)(H:Hp)(a:V1)(xs:List V):Prop:=
 Rd H a (.tup xs)\/
  ∃(o:Obj)(its:Array V0)(n:Nat),K.lookup a=Y o/\o.cls= .type "tuple"/\o.data= .seq its n/\its.size<=V9/\Vals xs its.toList
def absV:V0->Option V
 | .none=>some .non
 | .bool b=>Y (.bl b)
 | .int i _=>Y (.int i)
 | .str x _=>Y (.str x)
 | .bytes b _=>Y (.byt b)
 | .float b _=>Y (.flt b)
 | .ref a=>Y (.ref a)
 | .type n=>Y (.ty n)
 | _=>none
theorem RelV.abs{x:V}{u:V0}(r:RelV x u):absV u=Y x:=by
 cases x with
 | non=>cases r;rfl
 | bl _=>cases r;rfl
 | int _=>obtain⟨t,rfl⟩:=r;rfl
 | str _=>obtain⟨t,rfl⟩:=r;rfl
 | byt _=>obtain⟨t,rfl⟩:=r;rfl
 | flt _=>obtain⟨t,rfl⟩:=r;rfl
 | ref _=>cases r;rfl
 | ty _=>cases r;rfl
theorem RelV.inj{x y:V}{u:V0}(r:RelV x u)(q:RelV y u):x=y:=mR (r.abs.symm.trans q.abs)
theorem Vals.inj:∀{xs ys:List V}{us:List V0},Vals xs us->Vals ys us->xs=ys
 | _,_,_, .nil, .nil=>rfl
 | _,_,_, .cons r t, .cons r' t'=>by rw[r.inj r',Vals.inj t t']
section
variable{X:Cx}{pins:List (V1×Obj)}{σ:St}{H:Hp}{s:V2}{a:V1}{xs ys:List V}
theorem SqL.of{K:A6}(h:H a=Y (.lst xs)):SqL K H a xs:=.inl (.inl h)
theorem SqT.of{K:A6}(h:H a=Y (.tup xs)):SqT K H a xs:=.inl (.inl h)
theorem Inv.list(I:Inv X pins σ H s)(h:SqL X.K H a xs):∃its:List V0,Vals xs its/\PlainL s.heap a its.toArray/\xs...*<=V9:=by
 rcases h with h |⟨o,its,n,hk,hc,hd,hs,hz,r⟩
 ·obtain⟨z,its,n,r,e⟩:=h.ok I.hok
  exact{its,r,⟨_,n,e,O,O,O⟩,z}
 ·refine{its.toList,r,⟨o,n,I.kIn a o hk,hc,hd,by simpa using hs⟩, ?_}
  let e:=r...*;simp only[aV] at e
  lia
theorem Inv.tuple(I:Inv X pins σ H s)(h:SqT X.K H a xs):∃its:List V0,Vals xs its/\IsTup s.heap a its.toArray/\xs...*<=V9:=by
 rcases h with h |⟨o,its,n,hk,hc,hs,hz,r⟩
 ·obtain⟨z,its,r,p⟩:=h.ok I.hok
  exact⟨its,r,p,z⟩
 ·refine{its.toList,r,⟨o,I.kIn a o hk,hc,n,by simpa using hs⟩, ?_}
  let e:=r...*;simp only[aV] at e
  lia
theorem Inv.list_inj(I:Inv X pins σ H s)(h:SqL X.K H a xs)(h':SqL X.K H a ys):xs=ys:=by
 obtain⟨its,r,⟨o,n,e,_,_,d⟩,_⟩:=I.list h;obtain⟨its',r',⟨o',n',e',_,_,d'⟩,_⟩:=I.list h';rw[e] at e';cases e';rw[d] at d';injection d' with d1 _;let:its=its':=by simpa using congrArg Array.toList d1
 subst this;exact r.inj r'
end
abbrev Cx.wish(X:Cx)(E:V0->V2->Prop):Cx:={X with xe:=E}
abbrev Cx.nox(X:Cx):Cx:=X.wish λ_ _=>False
theorem Cx.Ok.wish{X:Cx}(ok:X.Ok)(E:V0->V2->Prop):(X.wish E).Ok:=
 ⟨ok.mod,ok.kind,ok.glob,ok.blt,ok.above,ok.inj,ok.has,ok.cab,ok.hd,ok.frames,ok.stk,ok.exf,ok.bs,ok.bsz,ok.noex,ok.exfs,ok.funs,ok.frf⟩
theorem Cx.Ok.unwish{X:Cx}{E:V0->V2->Prop}(ok:(X.wish E).Ok):X.Ok:=
 ⟨ok.mod,ok.kind,ok.glob,ok.blt,ok.above,ok.inj,ok.has,ok.cab,ok.hd,ok.frames,ok.stk,ok.exf,ok.bs,ok.bsz,ok.noex,ok.exfs,ok.funs,ok.frf⟩
section
variable{X:Cx}{pins:List (V1×Obj)}{σ:St}{H:Hp}{s:V2}{E:V0->V2->Prop}
theorem Inv.wish(I:Inv X pins σ H s)(E:V0->V2->Prop):Inv (X.wish E) pins σ H s:={I.ok.wish E,I.os,I.bare,I.base,I.loc,I.cell,I.free,I.freeC,I.pin,I.hok,I.len}
theorem Inv.unwish(I:Inv (X.wish E) pins σ H s):Inv X pins σ H s:=⟨I.ok.unwish,I.os,I.bare,I.base,I.loc,I.cell,I.free,I.freeC,I.pin,I.hok,I.len⟩
theorem SP.unwish{D:jL}{f:Flow}{s':V2}(h:SP (X.wish E) pins D f s'):SP X pins D f s':=by
 cases f with
 | next=>obtain⟨σ',H',I,q⟩:=h;exact⟨σ',H',I.unwish,q⟩
 | brk=>obtain⟨σ',H',I,q⟩:=h;exact⟨σ',H',I.unwish,q⟩
 | cont=>obtain⟨σ',H',I,q⟩:=h;exact⟨σ',H',I.unwish,q⟩
 | ret u=>obtain⟨v,σ',H',I,r,q⟩:=h;exact⟨v,σ',H',I.unwish,r,q⟩
theorem PSs.nox{st:List V6}{t:TS}(h:PSs X.nox st t):PSs X st t:=λpins s σ H D I hw=>
 pO (h pins s σ H D (I.wish _) hw) (λ_ _ q=>q.unwish) λ_ _ z=>False.elim z
end
section
variable{X:Cx}{st:V6}{rest:List V6}{t u:TS}{e:Expr}{te:TE}{pos:Pos}
def zNg:TS:=λD σ H=>D.nx σ H
def jR(t u:TS):TS:=λD σ H=>t {D with nx:=u D} σ H
theorem zL:PSs X [] zNg:=λ_ _ σ H _ I h=>sY ⟨σ,H,I,h⟩
theorem zF(h1:PS X st t)(h2:PSs X rest u):PSs X (st::rest) (jR t u):=by
 intro pins s σ H D I h;refine bO (thn (h1 pins s σ H {D with nx:=u D} I h) λf s1 q=>?_)
 cases f with
 | next=>
  ext xV q σ' H' I' q;exact h2 pins s1 σ' H' D I' q
 | ret v=>exact q
 | brk=>exact q
 | cont=>exact q
theorem zG(h1:PS X st t):PSs X [st] t:=by
 intro pins s σ H D I h;refine bO (thn (h1 pins s σ H D I h) λf s1 q=>?_)
 cases f with
 | next=>exact sY q
 | ret v=>exact q
 | brk=>exact q
 | cont=>exact q
theorem Inv.quiet{pins:List (V1×Obj)}{σ:St}{H:Hp}{s:V2}(I:Inv X pins σ H s):interactive X.env=false:=by simp[interactive,I.ok.kind]
def zVm(te:TE):TS:=λD σ H=>te σ H λ_ H1=>D.nx σ H1
theorem wF(he:PE X e te)(hs:S1 e none pos.line X.env=pure false:=by rfl):PS X (.Expr e pos) (zVm te):=by
 intro pins s σ H D I h;exact wpAny_Expr_any (thn (he pins s σ H _ I h) λv s1 ⟨x,H1,I1,r1,q1⟩=>⟨σ,H1,I1,q1⟩) I.quiet hs
def zHr(te:TE):TS:=λD σ H=>te σ H D.rt
theorem zJ(he:PE X e te):PS X (.Return ↥e pos) (zHr te):=by
 intro pins s σ H D I h;exact wpAny_Return_some (thn (he pins s σ H _ I h) λv s1 ⟨x,H1,I1,r1,q1⟩=>⟨x,σ,H1,I1,r1,q1⟩)
def zZg:TS:=λD _ H=>D.rt .non H
def zYg(c:TT)(t u:TS):TS:=λD σ H=>c σ H λb H1=>if b=true then t D σ H1 else u D σ H1
theorem zW{c:Expr}{a b:List V6}{tc:TT}(hc:PT X c tc)(ha:PSs X a t)(hb:PSs X b u):PS X (.If c a b pos) (zYg tc t u):=by
 intro pins s σ H D I h;refine wpAny_If (thn (hc pins s σ H _ I h) λd s1 ⟨H1,I1,q1⟩=>?_)
 cases d with
 | true=>exact ha pins s1 σ H1 D I1 q1
 | false=>exact hb pins s1 σ H1 D I1 q1
def zKt:TS:=λ_ _ _=>False
theorem zGm{sts:List V6}:PSs X sts zKt:=λ_ _ _ _ _ _ h=>h.elim
end
abbrev TG:=V->St->Hp->(St->Hp->Prop)->Prop
abbrev TGs:=List V->St->Hp->(St->Hp->Prop)->Prop
def PG(X:Cx)(target:Expr)(t:TG):Prop:=
 ∀(pins:List (V1×Obj))(s:V2)(σ:St)(H:Hp)(v:V)(u:V0)(Q:St->Hp->Prop),Inv X pins σ H s->RelV v u->t v σ H Q->
  V8 (S5 X.prog X.w) X.A (assign target X.env u) (λ_ s'=>∃σ' H',Inv X pins σ' H' s'/\Q σ' H') X.xe s
def PGs(X:Cx)(ts:List Expr)(t:TGs):Prop:=
 ∀(pins:List (V1×Obj))(s:V2)(σ:St)(H:Hp)(vs:List V)(us:List V0)(Q:St->Hp->Prop),Inv X pins σ H s->Vals vs us->t vs σ H Q->
  V8 (S5 X.prog X.w) X.A (assignInOrder ((S6 ts X.env).map (·.2)) us) (λ_ s'=>∃σ' H',Inv X pins σ' H' s'/\Q σ' H') X.xe s
abbrev yBc:=V->V->V->Hp->(Hp->Prop)->Prop
def PSet(X:Cx)(t:yBc):Prop:=
 ∀(pins:List (V1×Obj))(s:V2)(σ:St)(H:Hp)(o i v:V)(ov iv u:V0)(Q:Hp->Prop),Inv X pins σ H s->RelV o ov->RelV i iv->RelV v u->t o i v H Q->
  V8 (S5 X.prog X.w) X.A (setItem ov iv u) (λ_ s'=>∃H',Inv X pins σ H' s'/\Q H') X.xe s
abbrev TIp:=V->V->Hp->VK->Prop
def PIp(X:Cx)(op:Operator)(t:TIp):Prop:=
 ∀(pins:List (V1×Obj))(s:V2)(σ:St)(H:Hp)(x y:V)(v u:V0)(Q:VK),Inv X pins σ H s->RelV x v->RelV y u->t x y H Q->
  V8 (S5 X.prog X.w) X.A (inplaceOp op v u) (EP X pins σ Q) X.xe s
section
variable{X:Cx}{pos:Pos}
def qV(i:Nat):TG:=λv σ H Q=>Q (σ.set i ↥v) H
theorem yI{i:Nat}{x:Str}(hN:X.N.Nodup)(hi:X.N[i]? =Y x)(hx:Loc X.env.scope x)(hf:X.fn x=true\/X.env.scope.names.lookup x=some .local:=by first | exact .inl O | exact .inr O | assumption):PG X (.Name x pos) (qV i):=by
 intro pins s σ H v u Q I r h;exact wpAny_assign_Name (kJ I hN hi hx r (λs' I'=>⟨_,H,I',h⟩) hf)
def zXj:TGs:=λvs σ H Q=>vs= []/\Q σ H
def zJv(t:TG)(u:TGs):TGs:=λvs σ H Q=>∃v r,vs=v::r/\t v σ H λσ' H'=>u r σ' H' Q
theorem zNd:PGs X [] zXj:=by
 intro pins s σ H vs us Q I r h;obtain⟨e,h⟩:=h;subst e;cases r;exact assignInOrder_nil ⟨σ,H,I,h⟩
theorem zBh{e:Expr}{es:List Expr}{t:TG}{u:TGs}(h1:PG X e t)(h2:PGs X es u)
  (hs:(S6 (e::es) X.env).map (·.2)=assign e X.env::(S6 es X.env).map (·.2):=by rfl):PGs X (e::es) (zJv t u):=by
 intro pins s σ H vs us Q I r h;ext xV h v vr e1 h;subst e1
 cases r with
 | cons r rr=>
  rw[hs];refine assignInOrder_cons (thn (h1 pins s σ H _ _ _ I r h) λ_ s1 ⟨σ1,H1,I1,q1⟩=>?_);exact h2 pins s1 σ1 H1 _ _ Q I1 rr q1
def zSp(K:A6)(n:Nat)(t:TGs):TG:=λv σ H Q=>∃a xs,v= .ref a/\SqT K H a xs/\xs...*=n/\t xs σ H Q
theorem zQv{es:List Expr}{k:Nat}{t:TGs}{n:Nat}(hc:X.calm=true)(h:PGs X es t)
  (hn:(S6 es X.env)...*=n:=by rfl) (hst:(S6 es X.env).findIdx? (·.1)=none:=by rfl):PG X (.Tuple es k pos) (zSp X.K n t):=by
 intro pins s σ H v u Q I r hw;ext yE hw a xs e1 hq hl hw;subst e1;cases r;refine xI (I.tuple hq) λits rv ht hz=>?_;refine assign_Tuple_tuple (I.ok.hd hc) ht (by simp[hn,<-hl,rv...*]) hst λh' hx=>?_;let I1:Inv X pins σ H {s with heap:=h'}:=I.kept (t':=s.toks) λb o e=>hx b o (nQ (nB e)) e;exact h pins _ σ H xs _ Q I1 (by simpa using rv) hw
def gSub(to ti:TE)(t:yBc):TG:=λv σ H Q=>to σ H λo H1=>ti σ H1 λi H2=>t o i v H2 λH3=>Q σ H3
theorem yDh{o i:Expr}{to ti:TE}{t:yBc}(ho:PE X o to)(hi:PE X i ti)(hs:PSet X t)
  (ha:∀v,assign (.Subscript o i pos) X.env v=(do
   let ov <-holding [v] (eval o X.env);let iv <-holding [v,ov] (eval i X.env)
   S0 pos
   holding [v,ov,iv] (setItem ov iv v)
   release [v,ov,iv] []):=by intro _;rfl):PG X (.Subscript o i pos) (gSub to ti t):=by
 intro pins s σ H v u Q I r h;rw[ha];refine mC (pG (thn (ho pins s σ H _ I h) λov s1 ⟨x,H1,I1,r1,q1⟩=>?_));refine mC (pG (thn (hi pins s1 σ H1 _ I1 q1) λiv s2 ⟨y,H2,I2,r2,q2⟩=>?_));refine mC (sC (mC (pG (thn (hs pins s2 σ H2 x y v ov iv u _ I2 r1 r2 r q2) λ_ s3 ⟨H3,I3,q3⟩=>?_))));exact wpAny_release ⟨σ,H3,I3,q3⟩
def zQp(te:TE)(g:TG):TS:=λD σ H=>te σ H λx H1=>g x σ H1 D.nx
theorem yDo{tg e:Expr}{te:TE}{g:TG}(he:PE X e te)(hg:PG X tg g)(hs:swapsWithSole [tg] e pos.line X.env=pure false:=by rfl)(hw:swappedStores [tg] e X.env=pure none:=by rfl)
  (h1:(S6 [tg] X.env).map (·.2)= [assign tg X.env]:=by rfl):PS X (.Assign [tg] e pos) (zQp te g):=by
 intro pins s σ H D I h;refine wpAny_Assign_stores (thn (he pins s σ H _ I h) λv s1 ⟨x,H1,I1,r1,q1⟩=>?_) hs hw;rw[h1];exact thn (hg pins s1 σ H1 x v _ I1 r1 q1) λ_ s2 q=>q
theorem gY{i:Nat}{x:Str}{e:Expr}{te:TE}{pos':Pos}(hN:X.N.Nodup)(hi:X.N[i]? =Y x)(hx:Loc X.env.scope x)(he:PE X e te)(hs:S1 e ↥(.Name x pos') pos.line X.env=pure false:=by rfl)(hf:X.fn x=true\/X.env.scope.names.lookup x=some .local:=by first | exact .inl O | exact .inr O | assumption):
  PS X (.Assign [.Name x pos'] e pos) (zQp te (qV i)):=by
 intro pins s σ H D I h;refine wpAny_Assign_Name (thn (he pins s σ H _ I h) λv s1 ⟨y,H1,I1,r1,q1⟩=>?_) hs;exact kJ I1 hN hi hx r1 (λs2 I2=>⟨_,H1,I2,q1⟩) hf
def tAug(i:Nat)(te:TE)(ti:TIp):TS:=λD σ H=>∃x,σ[i]? =Y ↥x/\te σ H λy H1=>ti x y H1 λz H2=>D.nx (σ.set i ↥z) H2
theorem zTa{i:Nat}{x:Str}{e:Expr}{te:TE}{op:Operator}{ti:TIp}{pos':Pos}(hN:X.N.Nodup)(hi:X.N[i]? =Y x)(hx:Loc X.env.scope x)(he:PE X e te)(ho:PIp X op ti)(hf:X.fn x=true\/X.env.scope.names.lookup x=some .local:=by first | exact .inl O | exact .inr O | assumption):
  PS X (.AugAssign (.Name x pos') op e pos) (tAug i te ti):=by
 intro pins s σ H D I h;obtain⟨v,e1,h⟩:=h;obtain⟨m,hn,hl⟩:=I.loc;let vis:Vis X.env.scope x:=by rcases hx with k | k;exact .inl k;exact .inr (.inl k)
 obtain⟨u,r,l⟩:=hl i x v hi e1 vis;refine wpAny_AugAssign_Name ?_;let go:V8 (S5 X.prog X.w) X.A (eval e X.env) (λw s₂=>V8 (S5 X.prog X.w) X.A (inplaceOp op u w) (λr s₃=>V8 (S5 X.prog X.w) X.A (storeName X.env x r) (λ_=>SP X pins D .next) X.xe s₃) X.xe s₂) X.xe s:=by
  refine thn (he pins s σ H _ I h) λw s1 ⟨y,H1,I1,r1,q1⟩=>?_;refine thn (ho pins s1 σ H1 v y u w _ I1 r r1 q1) λz s2 ⟨zv,H2,I2,r2,q2⟩=>?_;exact kJ I2 hN hi hx r2 (λs3 I3=>⟨_,H2,I3,q2⟩) hf
 rcases l with⟨hk,hm⟩|⟨hk,c,hc,hcell⟩
 ·exact wpAny_loadName_local I.ok.kind hk hn hm go
 ·rcases hk with hk | hk
  ·exact wpAny_loadName_cell I.ok.kind hk hc hcell go
  ·rcases hx with k | k
   ·let:X.env.scope.names.lookup x=some .free:=hk
    rw[k] at this;cases this
   ·let:X.env.scope.names.lookup x=some .free:=hk
    rw[k] at this;cases this
def ipI(f:Int->Int->Int):TIp:=λx y H Q=>∃i j,x= .int i/\y= .int j/\Q (.int (f i j)) H
theorem zUy:PIp X .Add (ipI λi j=>i+j):=by
 intro pins s σ H x y v u Q I r1 r2 h;ext yM h i j e1 e2 q;subst e1;subst e2;obtain⟨t,rfl⟩:=r1;obtain⟨t',rfl⟩:=r2;exact iadd_int {.int _,H,I.tok _,⟨_,O⟩,q}
def yDb(c:TT)(tb:TS):TS:=λD σ H=>∃W:Nat->St->Hp->Prop,(∃m,W m σ H)/\∀m σ H,W m σ H->
 c σ H λb H1=>if b=true then∃N:St->Hp->Prop,(∀σ' H',N σ' H'->∃m',m'<m/\W m' σ' H')/\tb {D with nx:=N,ct:=N,bk:=D.nx} σ H1 else D.nx σ H1
theorem zTj{c:Expr}{body:List V6}{tc:TT}{tb:TS}(hp:PassesOwn (S5 X.prog X.w) X.A X.env X.xe)(hc:PT X c tc)(hb:PSs X body tb):PS X (.While c body [] pos) (yDb tc tb):=by
 intro pins s σ H D I h;obtain⟨W,⟨m0,w0⟩,turn⟩:=h;refine wpAny_While (codeAny_whileLoop (λn s'=>∃σ' H',Inv X pins σ' H' s'/\W n σ' H') ?_ m0 ⟨σ,H,I,w0⟩);intro n s1 z_;ext xV z_ σ1 H1 I1 w1;refine sZ hp (thn (hc pins s1 σ1 H1 _ I1 (turn n σ1 H1 w1)) λb s2 ⟨H2,I2,q2⟩=>?_)
 cases b with
 | true=>
  obtain⟨N,hN,q2⟩:=q2;rw[mQ O];refine sZ hp (thn (hb pins s2 σ1 H2 _ I2 q2) λf s3 q3=>?_)
  cases f with
  | next=>
   ext xV q3 σ3 H3 I3 n3;obtain⟨m',hm,w3⟩:=hN σ3 H3 n3;exact⟨m',hm,σ3,H3,I3,w3⟩
  | cont=>
   ext xV q3 σ3 H3 I3 n3;obtain⟨m',hm,w3⟩:=hN σ3 H3 n3;exact⟨m',hm,σ3,H3,I3,w3⟩
  | brk=>exact q3
  | ret v=>exact q3
 | false=>
  rw[mK nF];exact sY ⟨σ1,H2,I2,q2⟩
end
structure It where
 go:Nat->Hp->Prop
 yld:Nat->Hp->V->Hp->Prop
 stop:Nat->Hp->Prop
def zDs(X:Cx)(pins:List (V1×Obj))(H:Hp)(b:V1):Prop:=
 H b=none/\b≠X.env.locals/\b∉X.fs/\(b∈X.ex\/X.s₀⁻¹<=b)/\(∀x c,X.env.cells.lookup x=Y c->c≠b)/\∀p∈X.pn++pins,p.1≠b
theorem Inv.fpOk{X:Cx}{pins:List (V1×Obj)}{σ:St}{H H':Hp}{s:V2}{b:V1}(I:Inv X pins σ H s)(hb:s⁻¹<=b)(hn:H' b=none):zDs X pins H' b:=by
 refine{hn,rF (nO I.lt hb),I.nofs hb, .inr (pC I.sz hb),λx c e z=>?_,λp hp z=>?_}
 ·obtain⟨v,q⟩:=I.cell x c e
  exact absurd (nO q.lt (by rw[z];exact hb)) (sM _)
 ·exact absurd (nO (nB (I.pin p hp).1) (by rw[z];exact hb)) (sM _)
structure zIb(P:V3)(w:V4)(K:A6)(tg:Expr)(J:It)(fp:List V1)(it:V1)(tn:Nat->V5->Prop):Prop where
 mem:it∈fp
 obj:∀i h,tn i h->∀b∈fp,∃o,h.get? b=Y o/\∀v,o.data≠ .cell v
 keep:∀i h h',tn i h->(∀b∈fp,∀o,h.get? b=Y o->h'.get? b=Y o)->tn i h'
 item:∀(X:Cx),X.prog=P->X.w=w->X.K=K->X.calm=true->∀(i:Nat)(pins:List (V1×Obj))(s:V2)(σ:St)(H:Hp)(E:V0->V2->Prop),Inv X pins σ H s->(∀b∈fp,zDs X pins H b)->tn i s.heap->J.go i H->
  V8 (S5 P w) X.A (pyNext (.ref it)) (λr s1=>∃u,r=Y u/\
   V8 (S5 P w) X.A (letOwnedTupleGo tg (.ref it) u) (λ_ s2=>∃x H',Inv X pins σ H' s2/\RelV x u/\J.yld i H x H'/\tn (i+1) s2.heap/\∀b∈fp,H' b=none) E s1) E s
 done:∀(X:Cx),X.prog=P->X.w=w->X.K=K->X.calm=true->∀(i:Nat)(pins:List (V1×Obj))(s:V2)(σ:St)(H:Hp)(E:V0->V2->Prop),Inv X pins σ H s->(∀b∈fp,zDs X pins H b)->tn i s.heap->J.stop i H->
  V8 (S5 P w) X.A (pyNext (.ref it)) (λr s1=>r=none/\Inv X pins σ H s1) E s
 self:∀(A:Around)(i:Nat)(s:V2)(Q:V0->V2->Prop)(E:V0->V2->Prop),tn i s.heap->Q (.ref it) s->V8 (S5 P w) A (pyIter (.ref it)) Q E s
abbrev TI:=St->Hp->(It->Hp->Prop)->Prop
def PIE(X:Cx)(pins:List (V1×Obj))(σ:St)(tg:Expr)(R:It->Hp->Prop)(itv:V0)(s2:V2):Prop:=
 ∃(it:V1)(fp:List V1)(tn:Nat->V5->Prop)(J:It)(H':Hp),itv= .ref it/\Inv X pins σ H' s2/\zIb X.prog X.w X.K tg J fp it tn/\tn 0 s2.heap/\(∀b∈fp,zDs X pins H' b)/\R J H'
def PI(X:Cx)(tg iter:Expr)(wi:TI):Prop:=
 ∀(pins:List (V1×Obj))(s:V2)(σ:St)(H:Hp)(R:It->Hp->Prop),Inv X pins σ H s->wi σ H R->
  V8 (S5 X.prog X.w) X.A (eval iter X.env) (λv s1=>V8 (S5 X.prog X.w) X.A (pyIter v) (PIE X pins σ tg R) X.xe s1) X.xe s
theorem zIz{M:Model}{A:Around}{E:V0->V2->Prop}{s:V2}{tg:Expr}{it:V1}{u:V0}{o:Obj}{n:String}{vs:Array V0}{Q:Unit->V2->Prop}(ho:s.heap.get? it=Y o)(hc:o.cls= .type n)(hd:o.data= .fields vs)
    (hn: ["enumerate","zip","dict_itemiterator","dict_reverseitemiterator","odict_iterator","itertools.zip_longest","itertools.pairwise"].contains n=false) (hQ:Q () s):V8 M A (letOwnedTupleGo tg (.ref it) u) Q E s:=by
  unfold letOwnedTupleGo;cases tg<;>first
    | exact mN hQ
    |(cases u<;>first
        | exact mN hQ
        | (refine mC (wpAny_load ho ?_)
           rw[hc,hd];show V8 M A (if(["enumerate","zip","dict_itemiterator","dict_reverseitemiterator","odict_iterator","itertools.zip_longest","itertools.pairwise"].contains n && vs[0]? ==Y (rawInt _))=true then _ else _) Q E s;rw[mK (by intro h;rw[hn,sQ] at h;cases h)];exact mN hQ))
def Itl(K:A6)(a:V1):It:=
 {λi H=>∃xs x,SqL K H a xs/\xs[i]? =Y x,λi H x H'=>H'=H/\∀xs,SqL K H a xs->xs[i]? =Y x,λi H=>∃xs,SqL K H a xs/\xs...*<=i}
def Itr(lo:Int)(n:Nat):It:={λi _=>i<n,λi H x H'=>H'=H/\x= .int (lo+i),λi _=>n<=i}
theorem zPf{P:V3}{w:V4}{K:A6}{tg:Expr}(a it:V1):zIb P w K tg (Itl K a) [it] it (λi h=>h.IsListIter it a i) where
 mem:=by simp
 obj:=λi h st b hb=>by
  let e:b=it:=by simpa using hb
  subst e;ext xI st o e c d;exact⟨o,e,λv z=>by rw[d] at z;cases z⟩
 keep:=λi h h' st k=>st.at λo e=>k it (by simp) o e
 item:=by
  intro X hP hw hK hc i pins s σ H E I hf st hg;subst hP hw hK;ext xV hg xs x hq hx;refine xI (I.list hq) λits rv p hz=>?_;obtain⟨u,hu,ru⟩:=rv.get hx;refine yO (hf it (by simp)) λf0 f1 f2 f3 f4 f5=>?_;refine aD st p.isList (x:=u) (by simpa using hu) λh' st' sb=>?_;let I1:Inv X pins σ H {s with heap:=h'}:=I.turned (t':=s.toks) (λb o hb e=>(sb.2 b hb).trans e) f0 f1 f3 f4 f5;refine xI (id st') λo e c d=>?_;exact{u,O,zIz (s:={s with heap:=h'}) e c d ∎ {x,H,I1,ru,{O,λys hy=>by rw[I.list_inj hy hq];exact hx},st',λb hb=>(hf b hb).1}}
 done:=by
  intro X hP hw hK hc i pins s σ H E I hf st hg;subst hP hw hK;obtain⟨xs,hq,hx⟩:=hg;refine xI (I.list hq) λits rv p hz=>?_;refine yO (hf it (by simp)) λf0 f1 f2 f3 f4 f5=>?_;let hl:=rv...*;exact aI (I.ok.hd hc) st p.isList (by simp;lia) λh' eb=>{O,I.turned (t':=s.toks) (λb o hb e=>eb b o hb e) f0 f1 f3 f4 f5}
 self:=λ_ _ _ _ _ st h=>wpAny_pyIter_listiter st h
theorem zLs{P:V3}{w:V4}{K:PySem.W.Frag}{tg:Expr}(it:V1)(lo:Int)(n:Nat):zIb P w K tg (Itr lo n) [it] it (λi h=>IsRangeIter h it (lo+(i:Nat)*1) ((n:Int)- (i:Nat)) 1) where
 mem:=by simp
 obj:=λi h st b hb=>by
  let e:b=it:=by simpa using hb
  subst e;exact{_,st,λv z=>by
   let z':Data.fields _=Data.cell v:=z;cases z'}
 keep:=λi h h' st k=>k it (by simp) _ st
 item:=by
  intro X hP hw hK hc i pins s σ H E I hf st hg;subst hP hw hK;refine yO (hf it (by simp)) λf0 f1 f2 f3 f4 f5=>?_;let W:=Walks.range (prog:=X.prog) (w:=X.w) (I.ok.hd hc) it lo 1 n;refine W.item i s _ _ hg st λv h' tk hv st' kk=>?_;obtain⟨t,rfl⟩:=hv;let I1:Inv X pins σ H {s with heap:=h',toks:=tk}:=I.turned (λb o hb e=>kk b o (by simpa using hb) e) f0 f1 f3 f4 f5;refine{_,O,zIz (s:={s with heap:=h',toks:=tk}) (n:="range_iterator") st' O O ∎ {.int (lo+i),H,I1,{t, ?_},⟨O,O⟩,st',λb hb=>(hf b hb).1}};rw[Int.mul_one]
 done:=by
  intro X hP hw hK hc i pins s σ H E I hf st hg;subst hP hw hK;refine yO (hf it (by simp)) λf0 f1 f2 f3 f4 f5=>?_;exact wpAny_pyNext_range_end (I.ok.hd hc) st (by let:n<=i:=hg;lia) λh' eb=>{O,I.turned (t':=s.toks) (λb o hb e=>eb b o hb e) f0 f1 f3 f4 f5}
 self:=λ_ _ _ _ _ st h=>wpAny_pyIter_rangeiter st h
section
variable{X:Cx}{tg:Expr}
def zRb(K:A6)(tl:TE):TI:=λσ H R=>tl σ H λx H1=>∃a,x= .ref a/\(∃xs,SqL K H1 a xs)/\R (Itl K a) H1
theorem xQ{l:Expr}{tl:TE}(hl:PE X l tl):PI X tg l (zRb X.K tl):=by
 intro pins s σ H R I h;refine thn (hl pins s σ H _ I h) λv s1 ⟨x,H1,I1,r1,q1⟩=>?_;obtain⟨a,e,⟨xs,hq⟩,q⟩:=q1;subst e;cases r1;refine xI (I1.list hq) λits rv p hz=>?_;refine bI p.isList ?_;refine⟨s1⁻¹,[s1⁻¹],_,_,H1,O,I1.kept (t':=s1.toks) λb o e=>mJ _ e,zPf a _,⟨_,nM _ rfl,rfl,rfl⟩,λb hb=>?_,q⟩;let e:b=s1⁻¹:=by simpa using hb
 subst e;exact I1.fpOk (mE _) (I1.hok.fresh (mE _))
theorem zTe{pins:List (V1×Obj)}{σ:St}{H:Hp}{s:V2}{R:It->Hp->Prop}{E:V0->V2->Prop}{lo hi:Int}{t u v:Tok}{tk:Nat}(I:Inv X pins σ H s)(h1: -(2 ^ 62)<=lo)(h2:lo<2 ^ 62)(h3: -(2 ^ 62)<=hi)(h4:hi<2 ^ 62)
  (q:R (Itr lo (hi - lo).toNat) H):V8 (S5 X.prog X.w) X.A (pyIter (.ref s⁻¹)) (PIE X pins σ tg R) E {s with heap:=s.heap.push {cls:=.type "range",data:=.fields #[.int lo t, .int hi u, .int 1 v]},toks:=tk}:=by
 refine wpAny_pyIter_range (IsRange.new ..) (small_one h1 h2 h3 h4) ?_;let I1:Inv X pins σ H {s with heap:=s.heap.push {cls:=.type "range",data:=.fields #[.int lo t, .int hi u, .int 1 v]},toks:=tk}:=I.kept λb o e=>mJ _ e;refine⟨(s.heap.push {cls:=.type "range",data:=.fields #[.int lo t, .int hi u, .int 1 v]}).objs.size,[(s.heap.push {cls:=.type "range",data:=.fields #[.int lo t, .int hi u, .int 1 v]}).objs.size],_,_,H,rfl,
  I1.kept (t':=tk) λb o e=>mJ _ e,zLs _ lo (hi - lo).toNat, ?_,λb hb=>?_,q⟩
 ·let e1:lo+((0:Nat):Int)*1=lo:=by simp
  let e2:(((hi - lo).toNat:Nat):Int)- ((0:Nat):Int)=S4 lo hi 1:=by rw[rangeSize_one];split<;>lia
  show IsRangeIter _ _ (lo+((0:Nat):Int)*1) ((((hi - lo).toNat:Nat):Int)- ((0:Nat):Int)) 1;rw[e1,e2];exact nM _ O
 ·let e:b=(s.heap.push {cls:=.type "range",data:=.fields #[.int lo t, .int hi u, .int 1 v]}).objs.size:=by simpa using hb
  subst e;exact I1.fpOk (mE _) (I1.hok.fresh (mE _))
def zRm(ta:TA):TI:=λσ H R=>ta σ H λvs H1=>∃j:Int,vs= [.int j]/\-(2 ^ 62)<=j/\j<2 ^ 62/\R (Itr 0 j.toNat) H1
theorem xT{a:Expr}{ta:TA}{p pos:Pos}(hg:Gl X "range")(hm:X.mg "range" =none)(ha:PA X [a] ta)(hs:A2 [a] X.env= [(false,eval a X.env)]:=by rfl):PI X tg (.Call (.Name "range" p) [a] [] pos) (zRm ta):=by
 intro pins s σ H R I h;refine Call_ (zAm I hg hm boot_range (sU (thn (ha pos pins s σ H _ I h) λus s1 ⟨vs,H1,I1,r1,q1⟩=>?_) hs O));ext zBb q1 j e q1 q2 q;subst e
 cases r1 with
 | cons r rr=>
  cases rr;obtain⟨t,rfl⟩:=r;exact call_range_1 (zTe I1 ∅ ∅ q1 q2 (by simpa using q))
def tFor(wi:TI)(g:TG)(tb:TS):TS:=λD σ H=>wi σ H λJ H1=>∃W:Nat->Nat->St->Hp->Prop,(∃m,W 0 m σ H1)/\∀i m σ H,W i m σ H->
 (J.stop i H/\D.nx σ H)\/(J.go i H/\∃N:St->Hp->Prop,(∀σ' H',N σ' H'->∃m',m'<m/\W (i+1) m' σ' H')/\∀x H',J.yld i H x H'->g x σ H' λσ2 H2=>tb {D with nx:=N,ct:=N,bk:=D.nx} σ2 H2)
def zDy(fp:List V1)(h:V5):List (V1×Obj):=fp.filterMap λb=>(h.get? b).map λo=>(b,o)
theorem gE{fp:List V1}{h:V5}{b:V1}{o:Obj}(hb:b∈fp)(e:h.get? b=Y o):(b,o)∈zDy fp h:=List.mem_filterMap.mpr {b,hb,by rw[e];rfl}
theorem zQt{fp:List V1}{h:V5}{p:V1×Obj}(hp:p∈zDy fp h):p.1∈fp/\h.get? p.1=Y p.2:=by
 obtain⟨b,hb,e⟩:=List.mem_filterMap.mp hp
 cases q:h.get? b with
 | none=>rw[q] at e;cases e
 | some o=>
  rw[q] at e;let e':(b,o)=p:=mR e;subst e';exact⟨hb,q⟩
theorem Inv.pinned{pins:List (V1×Obj)}{σ:St}{H:Hp}{s:V2}{fp:List V1}(I:Inv X pins σ H s)(hf:∀b∈fp,zDs X pins H b)(ho:∀b∈fp,∃o,s.heap.get? b=Y o/\∀v,o.data≠ .cell v):Inv X (pins++zDy fp s.heap) σ H s:=
 I.pins_of λp hp=>(mU.mp hp).elim (λz=>I.pin p (nI _ z)) λz=>by
  obtain⟨hb,e⟩:=zQt z;refine wC (hf p.1 hb) λf0 f1 f2 _=>?_;obtain⟨o,e',d⟩:=ho p.1 hb;rw[e] at e';cases e';exact⟨e,f0,f1,f2,d⟩
theorem Inv.unpinned{pins pl:List (V1×Obj)}{σ:St}{H:Hp}{s:V2}(I:Inv X (pins++pl) σ H s):Inv X pins σ H s:=I.pins_of λp hp=>I.pin p (nI _ (nV _ hp))
theorem vO{iter:Expr}{body:List V6}{wi:TI}{g:TG}{tb:TS}{pos:Pos}(hp:PassesOwn (S5 X.prog X.w) X.A X.env X.xe)(hc:X.calm=true)(hi:PI X tg iter wi)(hg:PG X tg g)(hb:PSs X body tb)
  (hs:∀x,foldedSetIterable iter X.env x=pure x:=by intro _;rfl):PS X (.For tg iter body [] pos) (tFor wi g tb):=by
 intro pins s σ H D I h;refine wpAny_For (thn (hi pins s σ H _ I h) λv s1 h1=>thn h1 λitv s2 h2=>?_) hs;obtain⟨it,fp,tn,J,H2,e,I2,T,st2,f2,W,⟨m0,w0⟩,turn⟩:=h2;subst e
 -- what stays true of the iterator's objects through the loop
 let stat:∀{H':Hp},(∀b∈fp,H' b=none)->∀b∈fp,zDs X pins H' b:=λhn b hb=>{hn b hb,(f2 b hb).2};refine codeAny_forLoop_any (λn s'=>∃i σ' H',Inv X pins σ' H' s'/\tn i s'.heap/\(∀b∈fp,H' b=none)/\W i n σ' H') ?_ m0 {0,σ,H2,I2,st2,λb hb=>(f2 b hb).1,w0};intro n s3 z_;ext yD z_ i σ3 H3 I3 st3 z_;ext oA z_ fr3 w3;rcases turn i n σ3 H3 w3 with⟨stop,qn⟩|⟨go,N,hN,step⟩
 ·refine sZ hp (thn (T.done X O O O hc i pins s3 σ3 H3 X.xe I3 (stat fr3) st3 stop) λr s4 ⟨hr,I4⟩=>?_)
  subst hr;exact sY ⟨σ3,H3,I4,qn⟩
 ·refine sZ hp (thn (T.item X O O O hc i pins s3 σ3 H3 X.xe I3 (stat fr3) st3 go) λr s4 ⟨u,hr,h4⟩=>?_)
  subst hr;refine sZ hp (thn h4 λ_ s5 ⟨x,H5,I5,r5,y5,st5,fr5⟩=>?_);let I5':=I5.pinned (stat fr5) (T.obj _ _ st5);refine sZ hp (thn (hg _ s5 σ3 H5 x u _ I5' r5 (step x H5 y5)) λ_ s6 ⟨σ6,H6,I6,q6⟩=>?_);refine sZ hp (thn (hb _ s6 σ6 H6 _ I6 q6) λf s7 q7=>?_);let again:∀{σ7:St}{H7:Hp},Inv X (pins++zDy fp s5.heap) σ7 H7 s7->N σ7 H7->∃m,m<n/\∃i σ' H',Inv X pins σ' H' s7/\tn i s7.heap/\(∀b∈fp,H' b=none)/\W i m σ' H':=λ{σ7 H7} I7 n7=>by
   obtain⟨m',hm,w7⟩:=hN σ7 H7 n7;refine⟨m',hm,i+1,σ7,H7,I7.unpinned,T.keep _ _ _ st5 λb hb o e=>(I7.pin (b,o) (nI _ (nI _ (gE hb e)))).1,λb hb=>?_,w7⟩;obtain⟨o,e,d⟩:=T.obj _ _ st5 b hb;exact(I7.pin (b,o) (nI _ (nI _ (gE hb e)))).2.1
  cases f with
  | next=>obtain⟨σ7,H7,I7,n7⟩:=q7;exact again I7 n7
  | cont=>obtain⟨σ7,H7,I7,n7⟩:=q7;exact again I7 n7
  | brk=>obtain⟨σ7,H7,I7,q7⟩:=q7;exact⟨σ7,H7,I7.unpinned,q7⟩
  | ret v=>obtain⟨x7,σ7,H7,I7,r7,q7⟩:=q7;exact⟨x7,σ7,H7,I7.unpinned,r7,q7⟩
end
theorem zTi{K:PySem.W.Frag}{a:V1}{xs:List V}{g:TG}{tb:TS}{D:jL}{σ:St}{H:Hp}(Pv:Nat->St->Hp->Prop)(h0:Pv 0 σ H)(hl:∀i σ H,i<=xs...*->Pv i σ H->SqL K H a xs)
  (hs:∀i x σ H,xs[i]? =Y x->Pv i σ H->g x σ H λσ2 H2=>tb {D with nx:=Pv (i+1),ct:=Pv (i+1),bk:=D.nx} σ2 H2) (hd:∀σ H,Pv xs...* σ H->D.nx σ H):
  ∃W:Nat->Nat->St->Hp->Prop,(∃m,W 0 m σ H)/\∀i m σ H,W i m σ H->
   ((Itl K a).stop i H/\D.nx σ H)\/((Itl K a).go i H/\∃N:St->Hp->Prop,(∀σ' H',N σ' H'->∃m',m'<m/\W (i+1) m' σ' H')/\∀x H',(Itl K a).yld i H x H'->g x σ H' λσ2 H2=>tb {D with nx:=N,ct:=N,bk:=D.nx} σ2 H2):=by
 refine{λi m σ H=>m=xs...* - i/\i<=xs...*/\Pv i σ H,{xs...*,by simp,nS _,h0}, ?_};rintro i m σ H ⟨rfl,hi,p⟩;let q:=hl i σ H hi p
 by_cases hlt:i<xs...*
 ·refine .inr {{xs,xs[i],q,by simp[hlt]},Pv (i+1),λσ' H' p'=>{xs...* - (i+1),∅,O,hlt,p'},λx H' y=>?_}
  obtain⟨e,y⟩:=y;subst e;exact hs i x σ _ (y xs q) p
 ·let e:i=xs...*:=by lia
  subst e;exact .inl {{xs,q,mE _},hd σ H p}
theorem zPc{lo:Int}{n:Nat}{g:TG}{tb:TS}{D:jL}{σ:St}{H:Hp}(Pv:Nat->St->Hp->Prop)(h0:Pv 0 σ H)
  (hs:∀i σ H,i<n->Pv i σ H->g (.int (lo+i)) σ H λσ2 H2=>tb {D with nx:=Pv (i+1),ct:=Pv (i+1),bk:=D.nx} σ2 H2) (hd:∀σ H,Pv n σ H->D.nx σ H):
  ∃W:Nat->Nat->St->Hp->Prop,(∃m,W 0 m σ H)/\∀i m σ H,W i m σ H->
   ((Itr lo n).stop i H/\D.nx σ H)\/((Itr lo n).go i H/\∃N:St->Hp->Prop,(∀σ' H',N σ' H'->∃m',m'<m/\W (i+1) m' σ' H')/\∀x H',(Itr lo n).yld i H x H'->g x σ H' λσ2 H2=>tb {D with nx:=N,ct:=N,bk:=D.nx} σ2 H2):=by
 refine{λi m σ H=>m=n - i/\i<=n/\Pv i σ H,{n,by simp,nS _,h0}, ?_};rintro i m σ H ⟨rfl,hi,p⟩
 by_cases hlt:i<n
 ·refine .inr {hlt,Pv (i+1),λσ' H' p'=>{n - (i+1),∅,O,hlt,p'},λx H' y=>?_}
  obtain⟨e,y⟩:=y;subst e y;exact hs i σ _ hlt p
 ·let e:i=n:=by lia
  subst e;exact .inl {mE _,hd σ H p}
abbrev R2:=V->V->Hp->VK->Prop
def OpR(X:Cx)(f:V0->V0->Sem V0)(r:R2):Prop:=
 ∀(pins:List (V1×Obj))(s:V2)(σ:St)(H:Hp)(x y:V)(v u:V0)(Q:VK),Inv X pins σ H s->RelV x v->RelV y u->r x y H Q->
  V8 (S5 X.prog X.w) X.A (f v u) (EP X pins σ Q) X.xe s
def UnR(X:Cx)(f:V0->Sem V0)(r:V->Hp->VK->Prop):Prop:=
 ∀(pins:List (V1×Obj))(s:V2)(σ:St)(H:Hp)(x:V)(v:V0)(Q:VK),Inv X pins σ H s->RelV x v->r x H Q->
  V8 (S5 X.prog X.w) X.A (f v) (EP X pins σ Q) X.xe s
def wH(X:Cx)(f:V0)(r:List V->Hp->VK->Prop):Prop:=
 ∀(pins:List (V1×Obj))(s:V2)(σ:St)(H:Hp)(xs:List V)(us:List V0)(Q:VK),Inv X pins σ H s->Vals xs us->r xs H Q->
  V8 (S5 X.prog X.w) X.A (call f us) (EP X pins σ Q) X.xe s
def TruR(X:Cx)(r:V->Hp->(Bool->Hp->Prop)->Prop):Prop:=
 ∀(pins:List (V1×Obj))(s:V2)(σ:St)(H:Hp)(x:V)(v:V0)(Q:Bool->Hp->Prop),Inv X pins σ H s->RelV x v->r x H Q->
  V8 (S5 X.prog X.w) X.A (truthy v) (TP X pins σ Q) X.xe s
def tOp(r:R2)(ta tb:TE):TE:=λσ H Q=>ta σ H λx H1=>tb σ H1 λy H2=>r x y H2 Q
def tUn(r:V->Hp->VK->Prop)(ta:TE):TE:=λσ H Q=>ta σ H λx H1=>r x H1 Q
def rI(C:Int->Int->Prop)(g:Int->Int->V):R2:=λx y H Q=>∃i j,x= .int i/\y= .int j/\C i j/\Q (g i j) H
def rI0(g:Int->Int->V):R2:=λx y H Q=>∃i j,x= .int i/\y= .int j/\Q (g i j) H
def rU(g:Int->V):V->Hp->VK->Prop:=λx H Q=>∃i,x= .int i/\Q (g i) H
section
variable{X:Cx}{a b c:Expr}{ta tb tc:TE}{pos:Pos}
theorem yDk(ha:PE X a ta)(hb:PE X b tb){pins:List (V1×Obj)}{s:V2}{σ:St}{H:Hp}{R:V->V->Hp->Prop}(I:Inv X pins σ H s)
  (h:ta σ H λx H1=>tb σ H1 λy H2=>R x y H2) {Q:V0->V2->Prop} {f:V0->V0->Sem V0}
  (hf:∀v u s2 x y H2,Inv X pins σ H2 s2->RelV x v->RelV y u->R x y H2->V8 (S5 X.prog X.w) X.A (f v u) Q X.xe s2):
  V8 (S5 X.prog X.w) X.A (eval a X.env) (λv s₁=>V8 (S5 X.prog X.w) X.A (eval b X.env) (λu s₂=>V8 (S5 X.prog X.w) X.A (f v u) Q X.xe s₂) X.xe s₁) X.xe s:=by
 refine thn (ha pins s σ H _ I h) λv s1 ⟨x,H1,I1,r1,q1⟩=>?_;refine thn (hb pins s1 σ H1 _ I1 q1) λu s2 ⟨y,H2,I2,r2,q2⟩=>?_;exact hf v u s2 x y H2 I2 r1 r2 q2
theorem zH{op:Operator}{r:R2}(ho:OpR X (binaryOp op) r)(ha:PE X a ta)(hb:PE X b tb):PE X (.BinOp a op b pos) (tOp r ta tb):=by
 intro pins s σ H Q I h;exact wpAny_BinOp (yDk ha hb I h λv u s2 x y H2 I2 rx ry q=>ho pins s2 σ H2 x y v u Q I2 rx ry q)
theorem wS{op:UnaryOp}{r:V->Hp->VK->Prop}(ho:UnR X (unaryOp op) r)(ha:PE X a ta):PE X (.UnaryOp op a pos) (tUn r ta):=by
 intro pins s σ H Q I h;exact UnaryOp_ (thn (ha pins s σ H _ I h) λv s1 ⟨x,H1,I1,r1,q1⟩=>ho pins s1 σ H1 x v Q I1 r1 q1)
theorem opI{f:V0->V0->Sem V0}{C:Int->Int->Prop}{g:Int->Int->Int}
  (rule:∀(i j:Int)(t u:Tok)(s:V2)(Q:V0->V2->Prop)(E:V0->V2->Prop),C i j->Q (.int (g i j) s.toks) {s with toks:=s.toks+1}->V8 (S5 X.prog X.w) X.A (f (.int i t) (.int j u)) Q E s):
  OpR X f (rI C λi j=>.int (g i j)):=by
 intro pins s σ H x y v u Q I rx ry h;ext yE h i j r2_ r3_ hc q;subst r2_ r3_;obtain⟨t,rfl⟩:=rx;obtain⟨t',rfl⟩:=ry;exact rule i j t t' s _ _ hc {.int (g i j),H,I.tok _,⟨_,O⟩,q}
theorem opI0{f:V0->V0->Sem V0}{g:Int->Int->Int}
  (rule:∀(i j:Int)(t u:Tok)(s:V2)(Q:V0->V2->Prop)(E:V0->V2->Prop),Q (.int (g i j) s.toks) {s with toks:=s.toks+1}->V8 (S5 X.prog X.w) X.A (f (.int i t) (.int j u)) Q E s):
  OpR X f (rI0 λi j=>.int (g i j)):=by
 intro pins s σ H x y v u Q I rx ry h;ext yM h i j r2_ r3_ q;subst r2_ r3_;obtain⟨t,rfl⟩:=rx;obtain⟨t',rfl⟩:=ry;exact rule i j t t' s _ _ {.int (g i j),H,I.tok _,⟨_,O⟩,q}
theorem zYl{f:V0->V0->Sem V0}{g:Int->Int->Bool}
  (rule:∀(i j:Int)(t u:Tok)(s:V2)(Q:V0->V2->Prop)(E:V0->V2->Prop),Q (.bool (g i j)) s->V8 (S5 X.prog X.w) X.A (f (.int i t) (.int j u)) Q E s):
  OpR X f (rI0 λi j=>.bl (g i j)):=by
 intro pins s σ H x y v u Q I rx ry h;ext yM h i j r2_ r3_ q;subst r2_ r3_;obtain⟨t,rfl⟩:=rx;obtain⟨t',rfl⟩:=ry;exact rule i j t t' s _ _ {.bl (g i j),H,I,O,q}
def zZw(i j:Int):Prop:=0<j/\j<1073741824
def yAw(i j:Int):Prop:=0<=j/\j<=1000000/\i.natAbs<2 ^ 64
def CMul(i j:Int):Prop:=(-(2 ^ 64)<i/\i<2 ^ 64)\/(-(2 ^ 64)<j/\j<2 ^ 64)
theorem CMul.ok{i j:Int}(h:CMul i j):IntMulOk i j:=by
 rcases h with⟨h1,h2⟩|⟨h1,h2⟩
 ·exact .of_left (intBits_le_64 h1 h2)
 ·exact .of_right (intBits_le_64 h1 h2)
theorem yT:OpR X (binaryOp .Add) (rI0 λi j=>.int (i+j)):=opI0 λ_ _ _ _ _ _ _ q=>add_int q
theorem wU:OpR X (binaryOp .Sub) (rI0 λi j=>.int (i - j)):=opI0 λ_ _ _ _ _ _ _ q=>sub_int q
theorem jI:OpR X (binaryOp .Mult) (rI CMul λi j=>.int (i*j)):=opI λ_ _ _ _ _ _ _ hc q=>mul_int q hc.ok
theorem yH:OpR X (binaryOp .FloorDiv) (rI zZw λi j=>.int (i / j)):=opI λi j _ _ _ _ _ hc q=>by
 let h1:(0:Int)<j:=hc.1;let h2:j<1073741824:=hc.2;exact floordiv_int ∅ (by rw[Int.fdiv_eq_ediv_of_nonneg i ∅];exact q) (.inl (PyProof.noPylong_small ∅))
theorem yC:OpR X (binaryOp .Mod) (rI (λ_ j=>0<j) λi j=>.int (i % j)):=opI λi j _ _ _ _ _ hc q=>by
 let h1:(0:Int)<j:=hc;exact mod_int' ∅ (by rw[Int.fmod_eq_emod_of_nonneg i ∅];exact q)
theorem uD:OpR X (binaryOp .Pow) (rI yAw λi j=>.int (i ^ j.toNat)):=opI λ_ _ _ _ _ _ _ hc q=>pow_int_small hc.1 hc.2.1 hc.2.2 q
theorem unI{f:V0->Sem V0}{g:Int->Int}
  (rule:∀(i:Int)(t:Tok)(s:V2)(Q:V0->V2->Prop)(E:V0->V2->Prop),Q (.int (g i) s.toks) {s with toks:=s.toks+1}->V8 (S5 X.prog X.w) X.A (f (.int i t)) Q E s):
  UnR X f (rU λi=>.int (g i)):=by
 intro pins s σ H x v Q I rx h;obtain⟨i,rfl,q⟩:=h;obtain⟨t,rfl⟩:=rx;exact rule i t s _ _ {.int (g i),H,I.tok _,⟨_,O⟩,q}
theorem xR:UnR X (unaryOp .USub) (rU λi=>.int (-i)):=unI λ_ _ _ _ _ q=>neg_int q
def zXa:V->V->Bool
 | .non, .non=>true | .non, .int _=>true | .int _, .non=>true | .non, .bl _=>true | .bl _, .non=>true | .non, .str _=>true | .str _, .non=>true
 | .int _, .int _=>true | .bl _, .bl _=>true | .str _, .str _=>true | .byt _, .byt _=>true
 | .int _, .str _=>true | .str _, .int _=>true | .bl _, .str _=>true | .str _, .bl _=>true
 | _,_=>false
def rEq:R2:=λx y H Q=>zXa x y=true/\Q (.bl (decide (x=y))) H
def rNe:R2:=λx y H Q=>zXa x y=true/\Q (.bl (!decide (x=y))) H
theorem zOi{i j:Int}:decide (V.int i=V.int j)=(i==j):=by
 rw[tX];simp
theorem zRn{i j:Bool}:decide (V.bl i=V.bl j)=(i==j):=by
 rw[tX];simp
theorem zOa{i j:Str}:decide (V.str i=V.str j)=(i==j):=by
 rw[tX];simp
theorem zNk{i j:Array UInt8}:decide (V.byt i=V.byt j)=(i.toList==j.toList):=by
 rw[tX];cases i;cases j;simp
theorem yP{pins:List (V1×Obj)}{σ:St}{H:Hp}{s:V2}{Q:VK}{k k':Bool}(I:Inv X pins σ H s)(q:Q (.bl k) H)(e:k=k'):EP X pins σ Q (.bool k') s:=by
 subst e;exact{.bl k,H,I,O,q}
theorem xC:OpR X (A3 .Eq) rEq:=by
 intro pins s σ H x y v u Q I rx ry h;obtain⟨hs,q⟩:=h
 cases x with
 | non=>
  cases rx
  cases y with
  | non=>cases ry;exact PySem.EqNone.eq_none_none (yP I q (by simp))
  | bl j=>cases ry;exact PySem.EqNone.eq_none_bool (yP I q (by simp))
  | int j=>obtain⟨t',rfl⟩:=ry;exact PySem.EqNone.eq_none_int (yP I q (by simp))
  | str j=>obtain⟨t',rfl⟩:=ry;exact PySem.EqNone.eq_none_str (yP I q (by simp))
  | _=>exact absurd (show false=true from hs) nF
 | bl i=>
  cases rx
  cases y with
  | non=>cases ry;exact PySem.EqNone.eq_bool_none (yP I q (by simp))
  | bl j=>cases ry;exact eq_bool (yP I q zRn)
  | str j=>obtain⟨t',rfl⟩:=ry;exact PySem.EqMixed.eq_bool_str (yP I q (by simp))
  | _=>exact absurd (show false=true from hs) nF
 | int i=>
  obtain⟨t,rfl⟩:=rx
  cases y with
  | non=>cases ry;exact PySem.EqNone.eq_int_none (yP I q (by simp))
  | int j=>obtain⟨t',rfl⟩:=ry;exact eq_int (yP I q zOi)
  | str j=>obtain⟨t',rfl⟩:=ry;exact PySem.EqMixed.eq_int_str (yP I q (by simp))
  | _=>exact absurd (show false=true from hs) nF
 | str i=>
  obtain⟨t,rfl⟩:=rx
  cases y with
  | non=>cases ry;exact PySem.EqNone.eq_str_none (yP I q (by simp))
  | bl j=>cases ry;exact PySem.EqMixed.eq_str_bool (yP I q (by simp))
  | int j=>obtain⟨t',rfl⟩:=ry;exact PySem.EqMixed.eq_str_int (yP I q (by simp))
  | str j=>obtain⟨t',rfl⟩:=ry;exact eq_str (yP I q zOa)
  | _=>exact absurd (show false=true from hs) nF
 | byt i=>
  obtain⟨t,rfl⟩:=rx
  cases y with
  | byt j=>obtain⟨t',rfl⟩:=ry;exact W.eq_bytes (yP I q zNk)
  | _=>exact absurd (show false=true from hs) nF
 | _=>cases y<;>exact absurd (show false=true from hs) nF
theorem zJq:OpR X (A3 .NotEq) rNe:=by
 intro pins s σ H x y v u Q I rx ry h;obtain⟨hs,q⟩:=h
 cases x with
 | non=>
  cases rx
  cases y with
  | non=>cases ry;exact PySem.EqNone.ne_none_none (yP I q (by simp))
  | bl j=>cases ry;exact PySem.EqNone.ne_none_bool (yP I q (by simp))
  | int j=>obtain⟨t',rfl⟩:=ry;exact PySem.EqNone.ne_none_int (yP I q (by simp))
  | str j=>obtain⟨t',rfl⟩:=ry;exact PySem.EqNone.ne_none_str (yP I q (by simp))
  | _=>exact absurd (show false=true from hs) nF
 | bl i=>
  cases rx
  cases y with
  | non=>cases ry;exact PySem.EqNone.ne_bool_none (yP I q (by simp))
  | bl j=>cases ry;exact ne_bool (yP I q (congrArg not zRn))
  | str j=>obtain⟨t',rfl⟩:=ry;exact PySem.EqMixed.ne_bool_str (yP I q (by simp))
  | _=>exact absurd (show false=true from hs) nF
 | int i=>
  obtain⟨t,rfl⟩:=rx
  cases y with
  | non=>cases ry;exact PySem.EqNone.ne_int_none (yP I q (by simp))
  | int j=>obtain⟨t',rfl⟩:=ry;exact ne_int (yP I q (congrArg not zOi))
  | str j=>obtain⟨t',rfl⟩:=ry;exact PySem.EqMixed.ne_int_str (yP I q (by simp))
  | _=>exact absurd (show false=true from hs) nF
 | str i=>
  obtain⟨t,rfl⟩:=rx
  cases y with
  | non=>cases ry;exact PySem.EqNone.ne_str_none (yP I q (by simp))
  | bl j=>cases ry;exact PySem.EqMixed.ne_str_bool (yP I q (by simp))
  | int j=>obtain⟨t',rfl⟩:=ry;exact PySem.EqMixed.ne_str_int (yP I q (by simp))
  | str j=>obtain⟨t',rfl⟩:=ry;exact ne_str (yP I q (congrArg not zOa))
  | _=>exact absurd (show false=true from hs) nF
 | byt i=>
  obtain⟨t,rfl⟩:=rx
  cases y with
  | byt j=>obtain⟨t',rfl⟩:=ry;exact W.ne_bytes (yP I q (congrArg not zNk))
  | _=>exact absurd (show false=true from hs) nF
 | _=>cases y<;>exact absurd (show false=true from hs) nF
theorem jA:OpR X (A3 .Lt) (rI0 λi j=>.bl (decide (i<j))):=zYl λ_ _ _ _ _ _ _ q=>lt_int q
theorem uW:OpR X (A3 .LtE) (rI0 λi j=>.bl (decide (i<=j))):=zYl λ_ _ _ _ _ _ _ q=>le_int q
theorem kE:OpR X (A3 .Gt) (rI0 λi j=>.bl (decide (j<i))):=zYl λ_ _ _ _ _ _ _ q=>gt_int q
theorem op_ge:OpR X (A3 .GtE) (rI0 λi j=>.bl (decide (j<=i))):=zYl λ_ _ _ _ _ _ _ q=>ge_int q
theorem zQl:OpR X (A3 .In) (λx y H Q=>∃i j,x= .str i/\y= .str j/\Q (.bl (!(Builtin.Str.occurrences j i 0 j...* 1).isEmpty)) H):=by
 intro pins s σ H x y v u Q I rx ry h;ext yM h i j r2_ r3_ q;subst r2_ r3_;obtain⟨t,rfl⟩:=rx;obtain⟨t',rfl⟩:=ry;exact in_str (yP I q O)
theorem zQ(b:Expr){op:CmpOp}(h:op≠ .In:=by decide)(h2:op≠ .NotIn:=by decide):behindInMarks op b=false:=by
 let e1:(op==CmpOp.In)=false:=by cases op<;>first | rfl | exact absurd O h
 let e2:(op==CmpOp.NotIn)=false:=by cases op<;>first | rfl | exact absurd O h2
 cases b<;>simp[behindInMarks,e1,e2]
theorem yR{op:CmpOp}{r:R2}(ho:OpR X (A3 op) r)(ha:PE X a ta)(hb:PE X b tb)(hm:behindInMarks op b=false):PE X (.Compare a [op] [b] pos) (tOp r ta tb):=by
 intro pins s σ H Q I h;exact wpAny_Compare1 (yDk ha hb I h λv u s2 x y H2 I2 rx ry q=>ho pins s2 σ H2 x y v u Q I2 rx ry q) hm
def zNq(t:TE):TT:=λσ H Q=>t σ H λx H'=>∃k,x= .bl k/\Q k H'
theorem zU{op:CmpOp}{r:R2}(ho:OpR X (A3 op) r)(ha:PE X a ta)(hb:PE X b tb)(hm:behindInMarks op b=false):PT X (.Compare a [op] [b] pos) (zNq (tOp r ta tb)):=by
 intro pins s σ H Q I h;refine wpAny_isTrue_Compare1 (thn (ha pins s σ H _ I h) λv s1 ⟨x,H1,I1,r1,q1⟩=>thn (hb pins s1 σ H1 _ I1 q1) λu s2 ⟨y,H2,I2,r2,q2⟩=>
  thn (ho pins s2 σ H2 x y v u _ I2 r1 r2 q2) λc s3 ⟨z,H3,I3,r3,k,e,q3⟩=>?_) hm
 subst e;cases r3;exact pZ ⟨H3,I3,q3⟩
def zHh(r r':R2)(ta tb tc:TE):TE:=λσ H Q=>ta σ H λx H1=>tb σ H1 λy H2=>r x y H2 λz H3=>∃k,z= .bl k/\
 (if k=true then tc σ H3 λw' H4=>r' y w' H4 Q else Q (.bl false) H3)
theorem zJx{op op':CmpOp}{r r':R2}(ho:OpR X (A3 op) r)(ho':OpR X (A3 op') r')(ha:PE X a ta)(hb:PE X b tb)(hc:PE X c tc)
  (hm:lastMarks [op,op'] [b,c]=false:=by with_unfolding_all rfl):PE X (.Compare a [op,op'] [b,c] pos) (zHh r r' ta tb tc):=by
 intro pins s σ H Q I h;refine Compare_chain (thn (ha pins s σ H _ I h) λv s1 ⟨x,H1,I1,r1,q1⟩=>chain_link (thn (hb pins s1 σ H1 _ I1 q1) λu s2 ⟨y,H2,I2,r2,q2⟩=>
  thn (ho pins s2 σ H2 x y v u _ I2 r1 r2 q2) λd s3 ⟨z,H3,I3,r3,k,e,q3⟩=>?_)) hm
 subst e;cases r3;refine pZ ?_
 cases k with
 | false=>exact ite_ff {.bl false,H3,I3,O,q3}
 | true=>exact ite_tt (chain_last (thn (hc pins s3 σ H3 _ I3 q3) λw' s4 ⟨z',H4,I4,r4,q4⟩=>ho' pins s4 σ H4 y z' u w' Q I4 r2 r4 q4))
theorem zVa{op op':CmpOp}{r r':R2}(ho:OpR X (A3 op) r)(ho':OpR X (A3 op') r')(ha:PE X a ta)(hb:PE X b tb)(hc:PE X c tc)
  (hm:lastMarks [op,op'] [b,c]=false:=by with_unfolding_all rfl):PT X (.Compare a [op,op'] [b,c] pos) (zNq (zHh r r' ta tb tc)):=by
 intro pins s σ H Q I h;refine isTrue_chain (thn (ha pins s σ H _ I h) λv s1 ⟨x,H1,I1,r1,q1⟩=>test_link (thn (hb pins s1 σ H1 _ I1 q1) λu s2 ⟨y,H2,I2,r2,q2⟩=>
  thn (ho pins s2 σ H2 x y v u _ I2 r1 r2 q2) λd s3 ⟨z,H3,I3,r3,k,e,q3⟩=>?_)) hm
 subst e;cases r3;refine pZ ?_
 cases k with
 | false=>
  obtain⟨k',e',q'⟩:=q3;cases e';exact ite_ff ⟨H3,I3,q'⟩
 | true=>
  refine ite_tt (test_last (thn (hc pins s3 σ H3 _ I3 q3) λw' s4 ⟨z',H4,I4,r4,q4⟩=>thn (ho' pins s4 σ H4 y z' u w' _ I4 r2 r4 q4) λd' s5 ⟨z2,H5,I5,r5,k2,e2,q5⟩=>?_));subst e2;cases r5;exact pZ ⟨H5,I5,q5⟩
def TruV(K:A6)(x:V)(H:Hp)(k:Bool):Prop:=
 match x with
 | .non=>k=false
 | .bl b=>k=b
 | .int i=>k=(i !=0)
 | .str y=>y...*<=V9/\k=((y...*:Int) !=0)
 | .byt y=>y.size<=V9/\k=((y.size:Int) !=0)
 | .ref p=>(∃xs,SqL K H p xs/\k= !xs.isEmpty)\/(∃xs,SqT K H p xs/\k= !xs.isEmpty)\/∃kvs,H p=Y (.dK kvs)/\k= !kvs.isEmpty
 | _=>False
theorem zLk{κ:Type}{kvs:List (κ×V)}{vs:List (κ×V0)}(r:KV kvs vs):(!vs.isEmpty)= !kvs.isEmpty:=by
 cases r<;>rfl
theorem zEb{xs:List V}{its:List V0}(r:Vals xs its):(!its.toArray.isEmpty)= !xs.isEmpty:=by
 cases r<;>simp
theorem zAk:(V9:Nat)<2 ^ 63:=by rw[mS];decide
theorem yBh:TruR X (λx H Q=>∃k,TruV X.K x H k/\Q k H):=by
 intro pins s σ H x v Q I rx h;obtain⟨k,e,q⟩:=h;let hl:=zAk;let hs:V9=16777216:=mS
 cases x with
 | non=>
  cases rx;let e':k=false:=e;subst e';exact truthy_none ⟨H,I,q⟩
 | bl b=>
  cases rx;let e':k=b:=e;subst e';exact pZ ⟨H,I,q⟩
 | int i=>
  obtain⟨t,rfl⟩:=rx;let e':k=(i !=0):=e;subst e';exact PySem.P.truthy_int ⟨H,I,q⟩
 | str y=>
  obtain⟨t,rfl⟩:=rx;obtain⟨hy,e'⟩:y...*<=V9/\k=((y...*:Int) !=0):=e;subst e';exact PySem.P.truthy_str ∅ {H,I.tok _,q}
 | byt y=>
  obtain⟨t,rfl⟩:=rx;obtain⟨hy,e'⟩:y.size<=V9/\k=((y.size:Int) !=0):=e;subst e';exact W.truthy_bytes ∅ {H,I.tok _,q}
 | ref p=>
  cases rx;let e':(∃xs,SqL X.K H p xs/\k= !xs.isEmpty)\/(∃xs,SqT X.K H p xs/\k= !xs.isEmpty)\/∃kvs,H p=Y (.dK kvs)/\k= !kvs.isEmpty:=e;rcases e' with⟨xs,hx,e'⟩|⟨xs,hx,e'⟩|⟨kvs,hx,e'⟩
  ·subst e'
   refine xI (I.list hx) λits r pl hz=>?_;let hlen:=r...*;exact wpAny_truthy_list pl.isList (by simp only[mY];lia) {H,I.tok _,by rw[zEb r];exact q}
  ·subst e'
   refine xI (I.tuple hx) λits r pl hz=>?_;let hlen:=r...*;exact truthy_tuple pl (by simp only[mY];lia) {H,I.tok _,by rw[zEb r];exact q}
  ·subst e'
   obtain⟨hz,hS,vs,r,m⟩:kvs...*<=V9/\(p==A4)=false/\∃vs,KV kvs vs/\s.heap.DictOf (yS X.prog X.w) p vs:=I.hok p _ hx;let hlen:kvs...*=vs...*:=Paired.length r;exact wpAny_truthy_dict hS m ∅ {H,I.tok _,by rw[zLk r];exact q}
 | _=>exact(show False from e).elim
theorem zIl(ha:PE X a ta)(he:∀whole,isTrue a X.env whole=(do let v <-whole;S0 a.pos;holding [v] (truthy v))):
  PT X a (λσ H Q=>ta σ H λx H'=>∃k,TruV X.K x H' k/\Q k H'):=by
 intro pins s σ H Q I h;exact isTrue_plain (thn (ha pins s σ H _ I h) λv s1 ⟨x,H1,I1,r1,q1⟩=>yBh pins s1 σ H1 x v Q I1 r1 q1) (he _)
theorem qL:OpR X (binaryOp .Add) (λx y H Q=>∃i j,x= .str i/\y= .str j/\i...*+j...*<=V9/\Q (.str (i++j)) H):=by
 intro pins s σ H x y v u Q I rx ry h;ext yE h i j r2_ r3_ hz q;subst r2_ r3_;obtain⟨t,rfl⟩:=rx;obtain⟨t',rfl⟩:=ry;exact add_str (λt' tk=>{.str (i++j),H,I.tok _,⟨_,O⟩,q}) hz
theorem qJ{x:V}{us:List V0}(r:Vals [x] us):∃u,us= [u]/\RelV x u:=by
 cases r with
 | cons r1 r2=>cases r2;exact⟨_,O,r1⟩
theorem uZ{x y:V}{us:List V0}(r:Vals [x,y] us):∃u w',us= [u,w']/\RelV x u/\RelV y w':=by
 cases r with
 | cons r1 r2=>
  cases r2 with
  | cons r3 r4=>cases r4;exact⟨_,_,O,r1,r3⟩
theorem zVh:wH X (.builtin "abs") (λxs H Q=>∃i,xs= [.int i]/\Q (.int (if i<0 then -i else i)) H):=by
 intro pins s σ H xs us Q I r h;obtain⟨i,rfl,q⟩:=h;obtain⟨u,rfl,t,rfl⟩:=qJ r;exact call_abs_int λu tk=>{.int (if i<0 then -i else i),H,I.tok _,⟨_,O⟩,q}
theorem zBi(hc:X.calm=true):wH X (.builtin "min") (λxs H Q=>∃i j,xs= [.int i, .int j]/\Q (.int (if j<i then j else i)) H):=by
 intro pins s σ H xs us Q I r h;ext xV h i j r2_ q;subst r2_;obtain⟨u,w',rfl,⟨t,rfl⟩,⟨t',rfl⟩⟩:=uZ r;refine min_two_ints (I.ok.hd hc) λh' tk k=>{_,H,I.kept k, ?_,q}
 by_cases hj:j<i
 ·rw[mQ hj,mQ hj];exact⟨_,O⟩
 ·rw[mK hj,mK hj];exact⟨_,O⟩
theorem zPj:wH X (.type "int") (λxs H Q=>(∃i,xs= [.int i]/\Q (.int i) H)\/∃k,xs= [.bl k]/\Q (.int (if k then 1 else 0)) H):=by
 intro pins s σ H xs us Q I r h;rcases h with⟨i,rfl,q⟩|⟨k,rfl,q⟩
 ·obtain⟨u,rfl,t,rfl⟩:=qJ r
  exact call_int_int {.int i,H,I,⟨_,O⟩,q}
 ·obtain⟨u,rfl,r1⟩:=qJ r
  cases r1;exact call_int_bool {.int (if k then 1 else 0),H,I.tok _,⟨_,O⟩,q}
theorem zHa:wH X (.type "str") (λxs H Q=>∃i,xs= [.int i]/\i.natAbs.log2<1920/\Q (.str (toString i)) H):=by
 intro pins s σ H xs us Q I r h;ext xI h i r1_ hz q;subst r1_;obtain⟨u,rfl,t,rfl⟩:=qJ r;exact PySem.P.str_of_int hz {.str _,H,I.tok _,⟨_,O⟩,q}
theorem zSj:wH X (.builtin "ord") (λxs H Q=>∃x,xs= [.str x]/\x...*=1/\Q (.int (x.cps.getD 0 0:Nat)) H):=by
 intro pins s σ H xs us Q I r h;ext xI h x r1_ hz q;subst r1_;obtain⟨u,rfl,t,rfl⟩:=qJ r;exact ord_of_one hz {.int _,H,I.tok _,⟨_,O⟩,q}
end
structure ObjM(h:V5)(x dx C:V1)(mA:Str->Option V0):Prop where
 obj:h.get? x=Y (W.instObj C dx)
 ns:h.Ns1 dx mA
 ne:dx≠x
theorem zFd{h:V5}{dx:V1}{mA:Str->Option V0}(n:h.Ns1 dx mA):∃od,h.get? dx=Y od/\∀name,W.lookIn name od=Y (mA name):=by
 ext yD n o es ep ho hd z_;ext oAA z_ hk _ hm;refine⟨o,ho,λname=>?_⟩;let e:=hm name;unfold nsFind findBy at e;rw[<-Array.find?_toList] at e;unfold W.lookIn;rw[hd];dsimp only;split
 ·rename_i y q
  rw[q] at e;exact congrArg some e
 ·rename_i q
  rw[q] at e;let a:es.toList.any (·.refKey)=false:=by
   rw[List.any_eq_false];intro y hy;obtain⟨z,t,hkey⟩:=hk y (Array.mem_toList_iff.mp hy);simp[DictEntry.refKey,hkey]
  let a':¬es.toList.any (·.refKey)=true:=by rw[a];exact nF
  rw[mK a'];exact congrArg some e
theorem ObjM.look{h:V5}{x dx C:V1}{mA:Str->Option V0}(I:ObjM h x dx C mA):∃od,W.InstAt h x (W.instObj C dx) C ↥od/\∀name,W.lookIn name od=Y (mA name):=
 let ⟨od,ho,hl⟩:=zFd I.ns
 {od,⟨I.obj,O,O,ho⟩,hl}
section
variable{prog:V3}{w:V4}{A:Around}{E:V0->V2->Prop}{s:V2}{K:A6}{x dx C f:V1}{mA:Str->Option V0}{name:Str}{v:V0}
end
theorem j6{v:V}{o:Option V0}(r:RelO ↥v o):∃u,o=Y u/\RelV v u:=by
 cases o with
 | none=>exact(show False from r).elim
 | some u=>exact⟨u,O,r⟩
section
variable{P:V3}{w:V4}{H H':Hp}{h h':V5}{a C dx:V1}{fs fs':List (Str×V)}
theorem zVq(hok:HOk P w H h)(e:H a=Y (.ins C dx fs)):∃mA,ObjM h a dx C mA/\(∀f,RelO (fs.lookup f) (mA f))/\PySem.Within mA (fs.map (·.1))/\fs...*<=1000/\H dx=Y (.own a):=by
 obtain⟨d,z,ne,ob,mA,n,r,q⟩:=(show ObjOk P w H h a (.ins C dx fs) from hok a _ e);exact{mA,⟨ob,n,ne⟩,r,q,z,d}
end
structure Cls(K:A6)(C:V1):Prop where
 pg:W.plainGet K C Str.empty=true
 hd:W.hasDictIn K C=true
 po:W.plainOver K C=true
 sa:W.findIn K (.ref C) "__setattr__" =Y ↥(.builtin "object.__setattr__")
theorem Cls.get{K:A6}{C:V1}(c:Cls K C)(f:Str):W.plainGet K C f=true:=c.pg
structure Con(K:A6)(C:V1)(f:Str)(v:V)(u:V0):Prop where
 at_:W.findIn K (.ref C) f=Y ↥u
 rel:RelV v u
 get:W.specialIn K u "__get__" =Y none
 cp:W.copiedNames.contains f=false
structure Meth(K:A6)(C:V1)(m:Str)(f:V1):Prop where
 at_:W.findIn K (.ref C) m=Y ↥(.ref f)
 fn:W.isFn K (.ref f)=true
 kp:A7 K (.ref f)=true
section
variable{X:Cx}{pins:List (V1×Obj)}{σ:St}{H:Hp}{s:V2}{a C dx:V1}{fs:List (Str×V)}{f:Str}{v:V}{A:Around}{E:V0->V2->Prop}
theorem zWh{prog:V3}{w:V4}{env:S7}{e:Expr}{f:Str}{pos:Pos}{s:V2}{Q:V0->V2->Prop}(hb:attributeBase e f env (eval e env)=eval e env)
  (h:V8 (S5 prog w) A (eval e env) (λo s₁=>V8 (S5 prog w) A (getAttr o f true) Q E s₁) E s):V8 (S5 prog w) A (eval (.Attribute e f pos) env) Q E s:=
 Attribute_any_ h (by rw[arm_eval_Attribute,hb])
end
section
variable{X:Cx}{o e value:Expr}{f:Str}{pos pos' tpos:Pos}{ta tv:TE}
end
section
variable{X:Cx}{pins:List (V1×Obj)}{σ:St}{H:Hp}{s:V2}{A:Around}{E:V0->V2->Prop}{Q:V0->V2->Prop}{c:V0}{b:Bool}
inductive zBr (K:A6) (H:Hp):V->V0->Prop where
 | non:zBr K H .non (.type "NoneType")
 | bl (x:Bool):zBr K H (.bl x) (.type "bool")
 | int (i:Int):zBr K H (.int i) (.type "int")
 | str (x:Str):zBr K H (.str x) (.type "str")
 | flt (x:UInt64):zBr K H (.flt x) (.type "float")
 | lst {a:V1} {xs:List V} (e:H a=Y (.lst xs)):zBr K H (.ref a) (.type "list")
 | frz {a:V1} {o:Obj} {xs:List V} (e:H a=Y (.frz o (.lst xs))):zBr K H (.ref a) (.type "list")
 | tup {a:V1} {xs:List V} (e:H a=Y (.tup xs)):zBr K H (.ref a) (.type "tuple")
 | dK {a:V1} {kvs:List (Key×V)} (e:H a=Y (.dK kvs)):zBr K H (.ref a) (.type "dict")
 | dT {a:V1} {kvs:List (List Key×V)} (e:H a=Y (.dT kvs)):zBr K H (.ref a) (.type "dict")
 | ins {a C dx:V1} {fs:List (Str×V)} (e:H a=Y (.ins C dx fs)) (cl:Cls K C) (ha:W.findIn K (.ref C) "__class__" =Y ↥(.builtin "object.__class__"))
   (hn:W.specialIn K (.builtin "object.__class__") "__get__" =Y ↥(.builtin "getset_descriptor.__get__")) (htk:W.takesIn K (.builtin "object.__class__")=Y true)
   (hm:W.mroIn K C (.type "object")=Y true):zBr K H (.ref a) (.ref C)
theorem zPe{x:V}{u t:V0}(I:Inv X pins σ H s)(rx:RelV x u)(ty:zBr X.K H x t)(e:W.kitOne X.K t c=Y b)(h:∀tk,Q (.bool b) {s with toks:=tk}):
  V8 (S5 X.prog X.w) A (call (.builtin "isinstance") [u,c]) Q E s:=by
 cases ty with
 | non=>cases (show u=Value.none from rx);exact sV W.kitx_none I.kIn mI e (λz=>nomatch z) h
 | bl y=>cases (show u=Value.bool y from rx);exact sV W.kitx_bool I.kIn mI e (λz=>nomatch z) h
 | int i=>obtain⟨t,q⟩:=(show∃t,u=Value.int i t from rx);cases q;exact sV W.kitx_int I.kIn mI e (λz=>nomatch z) h
 | str y=>obtain⟨t,q⟩:=(show∃t,u=Value.str y t from rx);cases q;exact sV W.kitx_str I.kIn mI e (λz=>nomatch z) h
 | flt y=>obtain⟨t,q⟩:=(show∃t,u=Value.float y t from rx);cases q;exact sV W.kitx_float I.kIn mI e (λz=>nomatch z) h
 | @lst a xs ea=>
  cases (show u=Value.ref a from rx);obtain⟨_,_,n,_,h1⟩:=(show ObjOk X.prog X.w H s.heap a (.lst xs) from I.hok a _ ea);exact sV dQ I.kIn ⟨_,h1,O⟩ e (λz=>nomatch z) h
 | @frz a ob xs ea=>
  cases (show u=Value.ref a from rx);obtain⟨_,_,_,n,_,h1⟩:=(show ObjOk X.prog X.w H s.heap a (.frz ob (.lst xs)) from I.hok a _ ea);exact sV dQ I.kIn ⟨_,h1,O⟩ e (λz=>nomatch z) h
 | @tup a xs ea=>
  cases (show u=Value.ref a from rx);obtain⟨_,_,_,p⟩:=(show ObjOk X.prog X.w H s.heap a (.tup xs) from I.hok a _ ea);ext xI p o h1 h2 _;exact sV W.kitx_tuple I.kIn ⟨o,h1,h2⟩ e (λz=>nomatch z) h
 | @dK a kvs ea=>
  cases (show u=Value.ref a from rx);obtain⟨_,_,vs,_,p⟩:=(show ObjOk X.prog X.w H s.heap a (.dK kvs) from I.hok a _ ea);ext yD p o es ep h1 h2 _;exact sV cL I.kIn ⟨o,h1,h2.1⟩ e (λz=>nomatch z) h
 | @dT a kvs ea=>
  cases (show u=Value.ref a from rx);obtain⟨_,_,xs,_,o,es,ep,h1,h2,_⟩:=(show ObjOk X.prog X.w H s.heap a (.dT kvs) from I.hok a _ ea);exact sV cL I.kIn ⟨o,h1,h2.1⟩ e (λz=>nomatch z) h
 | @ins a C dx fs ea cl ha hn htk hm=>
  cases (show u=Value.ref a from rx);obtain⟨mA,Oy,_⟩:=zVq I.hok ea;obtain⟨od,J,_⟩:=Oy.look;exact sV (W.kitx_own (cl.get _) cl.hd ha hn htk hm) I.kIn J e (λz=>nomatch z) h
end
structure Room(k:Nat)(A:Around):Prop where
 hd:A.handled=none
 dp:A.depth+3*k+5<recursionLimit
 un:A.units+16*k+200<cLine
theorem Room.mono{j k:Nat}{A:Around}(r:Room k A)(h:j<=k):Room j A:={r.hd,by let:=r.dp;lia,by let:=r.un;lia}
theorem Room.deeper{k:Nat}{A:Around}(r:Room (k+1) A)(env:S7):Room k (A.deeper env):=
 {r.hd,by let:=r.dp;show A.depth+1+3*k+5<_;lia,by let:=r.un;show A.units+3+16*k+200<_;lia}
theorem zDr{A:Around}{C:V1}{us:List V0}{kw:List (Str×V0)}:(A.under (.builtin "type.__call__" {.ref C::us,kw})).depth=A.depth+1:=by
 first | rfl | simp[Around.under,Code.weight,Code.isCreation,Code.isGuard,Code.isCaller,Code.frames,Code.isFrame,guardIds]
theorem zEp{A:Around}{C:V1}{us:List V0}{kw:List (Str×V0)}:(A.under (.builtin "type.__call__" {.ref C::us,kw})).units=A.units+1:=by
 first | rfl | simp[Around.under,Code.cUnits,Code.frames,Code.isFrame]
theorem Room.make{k:Nat}{A:Around}(r:Room (k+1) A)(C:V1)(us:List V0)(kw:List (Str×V0)):Room k (A.under (.builtin "type.__call__" {.ref C::us,kw})):=
 {r.hd,by let:=r.dp;rw[zDr];lia,by let:=r.un;rw[zEp];lia}
theorem Room.depth{k:Nat}{A:Around}(r:Room k A):A.depth<recursionLimit:=by let:=r.dp;lia
theorem Room.units{k:Nat}{A:Around}(r:Room k A):A.units+64<cLine:=by let:=r.un;lia
theorem Room.units0{k:Nat}{A:Around}(r:Room k A):A.units<cLine:=by let:=r.un;lia
def qW:TA:=λ_ H Q=>Q [] H
def xH(ta:TE)(tr:TA):TA:=λσ H Q=>ta σ H λx H1=>tr σ H1 λxs H2=>Q (x::xs) H2
section
variable{X:Cx}{e:Expr}{es:List Expr}{te:TE}{t:TA}{pos:Pos}
theorem zC:PA X [] qW:=λ_ _ _ _ H Q I h=>Calls.spliced_nil {[],H,I, .nil,h}
theorem zA(ha:PE X e te)(hr:PA X es t)(hs:A2 (e::es) X.env=(false,eval e X.env)::A2 es X.env:=by rfl):PA X (e::es) (xH te t):=by
 intro pos pins s σ H Q I h;rw[hs];show V8 _ _ (spliced ((false,eval e X.env)::S2 pos (A2 es X.env))) _ _ s;refine Calls.spliced_cons (thn (ha pins s σ H _ I h) λu s1 ⟨x,H1,I1,r1,q1⟩=>?_);exact thn (hr pos pins s1 σ H1 _ I1 q1) λus s2 ⟨xs,H2,I2,r2,q2⟩=>{x::xs,H2,I2, .cons r1 r2,q2}
def zVi(t:TA):TE:=λσ H Q=>t σ H λxs H1=>xs...*<=V9/\∀p,H1 p=none->Q (.ref p) (upd H1 p (.tup xs))
def zQr(t:TA):TE:=λσ H Q=>t σ H λxs H1=>xs...*<=V9/\∀p,H1 p=none->Q (.ref p) (upd H1 p (.lst xs))
theorem yZ{x1}(h:PA X es t):PE X (.Tuple es x1 pos) (zVi t):=by
 intro pins s σ H Q I hq;refine wpAny_Tuple_spliced (thn (h pos pins s σ H _ I hq) λus s1 ⟨xs,H1,I1,r,z,q⟩=>{by rw[<-r...*];exact z, ?_});let hf:H1 s1⁻¹=none:=I1.hok.fresh (mE _);refine{.ref s1⁻¹,upd H1 s1⁻¹ (.tup xs),I1.laid (t':=s1.toks) (λb u e=>mJ _ e) (mE _) ?_,O,q _ hf};exact{z,us,r,{_,nM _ O,O,_,O}}
theorem zT(h:PA X es t):PE X (.List es pos) (zQr t):=by
 intro pins s σ H Q I hq;refine wpAny_List_spliced (thn (h pos pins s σ H _ I hq) λus s1 ⟨xs,H1,I1,r,z,q⟩=>{by rw[<-r...*];exact z, ?_});let hf:H1 s1⁻¹=none:=I1.hok.fresh (mE _);refine{.ref s1⁻¹,upd H1 s1⁻¹ (.lst xs),I1.laid (t':=s1.toks) (λb u e=>mJ _ e) (mE _) ?_,O,q _ hf};exact{z,us,0,r,nM _ O}
end
abbrev Sp:=List V->Hp->VK->XK->Prop
abbrev CXT:=List S7->Hp->V2->XK->V0->V2->Prop
structure Env0(P:V3)(w:V4)(K:A6)(mg:Str->Option V0)(base:V5)(A:Around)(outer:List S7)(s:V2)(H:Hp):Prop where
 frames:A.frames=Y outer
 mod:Mod K mg base
 bs:∀b o,base.get? b=Y o->s.heap.get? b=Y o/\H b=none
 bsz:base.objs.size<=s⁻¹
 funs:s.heap.FunFrames base outer
 frf:∀b∈frs outer,H b=none
 hok:HOk P w H s.heap
 bare:AllBare s.gens
def CE(outer:List S7)(P:V3)(w:V4)(H:Hp)(s:V2)(Q:VK)(u:V0)(s':V2):Prop:=
 ∃v H',s'.os=s.os/\AllBare s'.gens/\Un (frs outer) [] H H' s.heap s'.heap/\HOk P w H' s'.heap/\RelV v u/\Q v H'
def CR(CX:CXT)(outer:List S7)(P:V3)(w:V4)(H:Hp)(s:V2)(Q:VK)(E:XK)(r:Result)(s':V2):Prop:=
 match r with
 | .ok (.ret u)=>CE outer P w H s Q u s'
 | .ok _=>False
 | .error e=>CX outer H s E e s'
structure FnOk(P:V3)(w:V4)(K:A6)(mg:Str->Option V0)(base:V5)(CX:CXT)(k:Nat)(f:V1)(fd:V7)(ps:List Str)(sp:Sp):Prop where
 len:∀vs H Q E,sp vs H Q E->vs...*=ps...*
 run:∀(A:Around)(outer:List S7)(s:V2)(H:Hp)(args:Args)(us:List V0)(vs:List V)(Q:VK)(E:XK),Room k A->Env0 P w K mg base A outer s H->BindsTo s fd args (ps.zip us)->Vals vs us->sp vs H Q E->
  codeAny (S5 P w) A (.call (.ref f) args) (CR CX outer P w H s Q E) s
theorem FnOk.mono{P:V3}{w:V4}{K:A6}{mg:Str->Option V0}{base:V5}{CX:CXT}{j k:Nat}{f:V1}{fd:V7}{ps:List Str}{sp:Sp}(F:FnOk P w K mg base CX j f fd ps sp)(h:j<=k):
  FnOk P w K mg base CX k f fd ps sp:={F.len,λA outer s H args us vs Q E hr=>F.run A outer s H args us vs Q E (hr.mono h)}
theorem FnOk.imp{P:V3}{w:V4}{K:A6}{mg:Str->Option V0}{base:V5}{CX:CXT}{k:Nat}{f:V1}{fd:V7}{ps:List Str}{sp sp':Sp}(F:FnOk P w K mg base CX k f fd ps sp)
  (h:∀vs H Q E,sp' vs H Q E->sp vs H Q E):FnOk P w K mg base CX k f fd ps sp':=
 {λvs H Q E q=>F.len vs H Q E (h _ _ _ _ q),λA outer s H args us vs Q E hr he hb hv hs=>F.run A outer s H args us vs Q E hr he hb hv (h _ _ _ _ hs)}
theorem Env0.make{P:V3}{w:V4}{K:A6}{mg:Str->Option V0}{base:V5}{A:Around}{outer:List S7}{s:V2}{H:Hp}(e:Env0 P w K mg base A outer s H)(C:V1)(us:List V0)(kw:List (Str×V0)):
  Env0 P w K mg base (A.under (.builtin "type.__call__" {.ref C::us,kw})) outer s H:={by first | exact e.frames |(simpa [Around.under,Code.envs,Code.isFrame,pushEnvs] using e.frames),e.mod,e.bs,e.bsz,e.funs,e.frf,e.hok,e.bare}
section
variable{X:Cx}{pins:List (V1×Obj)}{σ:St}{H:Hp}{s s':V2}
theorem Inv.env0(I:Inv X pins σ H s):Env0 X.prog X.w X.K X.mg X.base X.A X.stack s H:=
 {I.ok.frames,I.ok.mod,I.bs,pC I.ok.bsz I.sz,I.stack,I.stkFree,I.hok,I.bare}
theorem Inv.after{Q:VK}{u:V0}(I:Inv X pins σ H s)(h:CE X.stack X.prog X.w H s Q u s'):EP X pins σ Q u s':=by
 ext yE h v H' os bare un z_;ext oAA z_ hok r q;obtain⟨hh,g,d,t,os'⟩:=s';obtain rfl:os'=s.os:=os;exact{v,H',I.call (h':=hh) (g':=g) (d':=d) (t':=t) (ch:=[]) un hok bare (λb z=>absurd z (by simp)),r,q}
end
def jV(sp:Sp)(dvs:List V)(E:XK)(t:TA):TE:=λσ H Q=>t σ H λvs H1=>sp (vs++dvs) H1 Q E
def Binds(K:A6)(fd:V7)(ps:List Str)(ds:List V0):Prop:=
 ∀(s:V2)(us:List V0),K.In s.heap->(us++ds)...*=ps...*->BindsTo s fd {us,[]} (ps.zip (us++ds))
theorem Binds.all{K:A6}{fd:V7}{ps:List Str}(h:∀us:List V0,us...*=ps...*->bindArgs fd {us,[]}=pure (ps.zip us)):Binds K fd ps []:=λs us _ hl=>by
 rw[pQ] at hl⊢;exact .of_eq (h us hl)
def uG(CX:CXT)(X:Cx)(E:XK):Prop:=∀(pins:List (V1×Obj))(σ:St)(H:Hp)(s:V2)(e:V0)(s':V2),Inv X pins σ H s->CX X.stack H s E e s'->X.xe e s'
section
variable{X:Cx}{CX:CXT}{k:Nat}{f C:V1}{fd:V7}{ps:List Str}{sp:Sp}{dvs:List V}{ds:List V0}{E:XK}{x m:Str}{p pos apos:Pos}{e o:Expr}{es:List Expr}{ta:TE}{t:TA}
theorem zRo{pins:List (V1×Obj)}{σ:St}{H:Hp}{s:V2}{Q:VK}{us:List V0}{vs:List V}(F:FnOk X.prog X.w X.K X.mg X.base CX k f fd ps sp)(hr:Room k X.A)(hb:Binds X.K fd ps ds)(hd:Vals dvs ds)(hx:uG CX X E)
  (I:Inv X pins σ H s) (r:Vals vs us) (h:sp (vs++dvs) H Q E):V8 (S5 X.prog X.w) X.A (call (.ref f) us) (EP X pins σ Q) X.xe s:=by
 let r2:Vals (vs++dvs) (us++ds):=r.append hd;let hl:(us++ds)...*=ps...*:=by rw[<-r2...*];exact F.len _ _ _ _ h
 refine sT (sJ (F.run X.A X.stack s H {us,[]} (us++ds) (vs++dvs) Q E hr I.env0 (hb s us I.kIn hl) r2 h) λr s' hq=>?_)
 cases r with
 | error e=>exact hx pins σ H s e s' I hq
 | ok fl=>
  cases fl with
  | ret u=>exact I.after hq
  | next=>exact False.elim hq
  | brk=>exact False.elim hq
  | cont=>exact False.elim hq
theorem zIc(F:FnOk X.prog X.w X.K X.mg X.base CX k f fd ps sp)(hr:Room k X.A)(hg:Gl X x)(hm:X.mg x=Y (.ref f))(hk:A7 X.K (.ref f)=true)(hb:Binds X.K fd ps ds)(hd:Vals dvs ds)(hx:uG CX X E)
  (ha:PA X (e::es) t) (hdb:(x==("__debug__" :Str))=false:=by decide) (he:A2 (e::es) X.env=(false,eval e X.env)::A2 es X.env:=by rfl) (hpl:(S2 pos (A2 es X.env)).any (·.1)=false:=by rfl):
  PE X (.Call (.Name x p) (e::es) [] pos) (jV sp dvs E t):=by
 intro pins s σ H Q I h;refine rH (vX I hg hm ?_ hdb);refine W.callWith_K (h₀:=X.base) I.ok.mod.kin hk (thn (ha pos pins s σ H _ I h) λus s1 ⟨vs,H1,I1,r,q⟩=>{I1.kIn, ?_}) he hpl;exact zRo F hr hb hd hx I1 r q
theorem zUa(F:FnOk X.prog X.w X.K X.mg X.base CX k f fd ps sp)(hr:Room k X.A)(hg:Gl X x)(hm:X.mg x=Y (.ref f))(hk:A7 X.K (.ref f)=true)(hb:Binds X.K fd ps ds)(hd:Vals dvs ds)(hx:uG CX X E)
  (hdb:(x==("__debug__" :Str))=false:=by decide):PE X (.Call (.Name x p) [] [] pos) (jV sp dvs E qW):=by
 intro pins s σ H Q I h;refine rH (vX I hg hm ?_ hdb);exact W.callWith_K0 I.kIn hk (zRo (us:=[]) F hr hb hd hx I .nil h)
structure Mk(K:A6)(C f:V1):Prop where
 makes:W.makesIn K C=true
 init:W.findIn K (.ref C) "__init__" =Y ↥(.ref f)
 fn:W.isFn K (.ref f)=true
 kp:A7 K (.ref C)=true
end
section
variable{X:Cx}{CX:CXT}{k:Nat}{f C:V1}{fd:V7}{ps ks:List Str}{sp:Sp}{E:XK}{x m:Str}{p pos apos kpos:Pos}{e o:Expr}{es:List Expr}{kws:List Keyword}{te ta:TE}{t tk:TA}{nm:Option Str}
structure KBinds(K:A6)(fd:V7)(ps ks:List Str)(g:List V0->List V0->List V0)(gV:List V->List V->List V):Prop where
 to:∀(s:V2)(us ws:List V0),K.In s.heap->(g us ws)...*=ps...*->BindsTo s fd {us,ks.zip ws} (ps.zip (g us ws))
 rel:∀{vs:List V}{us:List V0}{zs:List V}{ws:List V0},Vals vs us->Vals zs ws->Vals (gV vs zs) (g us ws)
variable{g:List V0->List V0->List V0}{gV:List V->List V->List V}
end
structure zS(N P:List Str)(sc:Scope):Prop where
 kind:sc.kind= .function
 co:sc.isCoroutine=false
 gen:sc.isGenerator=false
 nd:N.Nodup
 pre:N.take P...*=P
 par:∀x∈P,sc.names.lookup x=some .local\/sc.names.lookup x=some .cell
 nofree:∀y∈sc.names,y.2≠ .free
theorem zFx{kindOf:Str->Option NameKind}{x:Str}:∀{binds:List (Str×V0)}{m:Str->Option V0},(∀v,(x,v)∉binds)->bindL kindOf binds m x=m x
 | [],_,_=>rfl
 |(n,v)::r,m,h=>by
  unfold bindL;rw[zFx λw hw=>h w (mH _ hw)];split
  ·let:x≠n:=by rintro rfl;exact h v mF
   simp[this]
  ·rfl
theorem zFp{kindOf:Str->Option NameKind}{x:Str}:∀{binds:List (Str×V0)}{m:Str->Option V0},(∀v,(x,v)∉binds)->bindC kindOf binds m x=m x
 | [],_,_=>rfl
 |(n,v)::r,m,h=>by
  unfold bindC;rw[zFp λw hw=>h w (mH _ hw)];split
  ·rfl
  ·let:x≠n:=by rintro rfl;exact h v mF
   simp[this]
theorem zGa{kindOf:Str->Option NameKind}{x:Str}{v:V0}:∀{P:List Str}{vs:List V0}{i:Nat}{m:Str->Option V0},P.Nodup->P[i]? =Y x->vs[i]? =Y v->kindOf x=some .local->
  bindL kindOf (P.zip vs) m x=Y v
 | [],_,_,_,_,h,_,_=>by simp at h
 | _::_,[],_,_,_,_,h,_=>by simp at h
 | p::P,w::vs,0,m,nd,h1,h2,hk=>by
  simp at h1 h2;subst h1;subst h2;show bindL kindOf ((p,w)::P.zip vs) m p=_;unfold bindL;rw[zFx λv hv=>(pM.mp nd).1 (bY hv).1,mQ hk];simp
 | p::P,w::vs,i+1,m,nd,h1,h2,hk=>by
  show bindL kindOf ((p,w)::P.zip vs) m x=_;unfold bindL;exact zGa (i:=i) (pM.mp nd).2 (by simpa using h1) (by simpa using h2) hk
theorem zGb{kindOf:Str->Option NameKind}{x:Str}{v:V0}:∀{P:List Str}{vs:List V0}{i:Nat}{m:Str->Option V0},P.Nodup->P[i]? =Y x->vs[i]? =Y v->kindOf x≠some .local->
  bindC kindOf (P.zip vs) m x=Y v
 | [],_,_,_,_,h,_,_=>by simp at h
 | _::_,[],_,_,_,_,h,_=>by simp at h
 | p::P,w::vs,0,m,nd,h1,h2,hk=>by
  simp at h1 h2;subst h1;subst h2;show bindC kindOf ((p,w)::P.zip vs) m p=_;unfold bindC;rw[zFp λv hv=>(pM.mp nd).1 (bY hv).1,mK hk];simp
 | p::P,w::vs,i+1,m,nd,h1,h2,hk=>by
  show bindC kindOf ((p,w)::P.zip vs) m x=_;unfold bindC;exact zGb (i:=i) (pM.mp nd).2 (by simpa using h1) (by simpa using h2) hk
def jO(N:List Str)(vs:List V):St:=vs.map some++List.replicate (N...* - vs...*) none
def zCj(CX:CXT)(P:V3)(w:V4)(K:A6)(mg:Str->Option V0)(base:V5)(N:List Str)(qual:Str)(scope:Scope)(f:V1)(cd:V0)(A:Around)(outer:List S7)(s:V2)(H:Hp)(E:XK):Cx where
 prog:=P
 w:=w
 K:=K
 mg:=mg
 base:=base
 A:=A.deeper (envOfC qual scope s⁻¹ f cd)
 N:=N
 s₀:=s
 H₀:=H
 env:=envOfC qual scope s⁻¹ f cd
 outer:=outer
 stack:=envOfC qual scope s⁻¹ f cd::outer
 ex:=[]
 calm:=true
 fn:=λ_=>true
 pn:=[]
 xe:=λe s'=>V8 (S5 P w) (A.deeper (envOfC qual scope s⁻¹ f cd)) (leaving (envOfC qual scope s⁻¹ f cd) e) (λ_ s''=>CX outer H s E e s'') (λe' s''=>CX outer H s E e' s'') s'
theorem zIw{sc:Scope}{n:Nat}{x:Str}(h:sc.names.lookup x=some .cell):∃c,(cellsFrom n sc.names []).lookup x=Y c:=by
 let q:=W.cellsFrom_some sc.names n [] (.inl h);exact Option.isSome_iff_exists.mp q
theorem zGe{CX:CXT}{P:V3}{w:V4}{K:A6}{mg:Str->Option V0}{base:V5}{N ps:List Str}{qual:Str}{scope:Scope}{f:V1}{cd:V0}{A:Around}{outer:List S7}{s s1:V2}{H:Hp}{E:XK}{us:List V0}{vs:List V}
  (S:zS N ps scope) (hd:A.handled=none) (e0:Env0 P w K mg base A outer s H) (hl:vs...*=ps...*) (r:Vals vs us)
  (x:InCallC s s⁻¹ (bindL (envOfC qual scope s⁻¹ f cd).kindOf (ps.zip us) λ_=>none) (cellsFrom (s⁻¹+1) scope.names []) (bindC (envOfC qual scope s⁻¹ f cd).kindOf (ps.zip us) λ_=>none) s1):
  Inv (zCj CX P w K mg base N qual scope f cd A outer s H E) [] (jO N vs) H s1:=by
 let hpl:ps...*<=N...*:=by let:=congrArg List.length S.pre;rw[sE] at this;lia
 refine xV (x.done) λh1 tk r2_ hk=>?_;subst r2_;let noA:∀b:V1,b∉(zCj CX P w K mg base N qual scope f cd A outer s H E).ex:=λb z=>absurd (show b∈([]:List V1) from z) (by simp);refine{{e0.mod,S.kind,O,O,mE _,λy z c h1 h2=>?_,λy hy=>?_,λy c _ h=>?_,λ_=>hd,Around.frames_deeper e0.frames, .inr ⟨O,O⟩,λb z=>absurd z (noA b),e0.bs,e0.bsz,λb _ _=>noA b,λb z=>absurd z (noA b),e0.funs,e0.frf},
  rfl,e0.bare,Un.kept hk,{_,x.toInCall.ns,λi y v h1 h2 h3=>?_},λy c h=>{_,x.cell y c h},e0.hok.fresh (mE _),λy c h=>?_,λp hp=>absurd (show p∈([]:List (V1×Obj)) from hp) (by simp),e0.hok.kept hk, ?_}
 ·exact name_of_addr x.apart (rM h1) (rM h2)
 ·let hy:scope.names.lookup y=some .cell\/scope.names.lookup y=some .free:=hy
  rcases hy with hy | hy
  ·exact zIw hy
  ·exact absurd O (S.nofree _ (rM hy))
 ·exact bX (x.above y c (rM h))
 ·let hi:i<vs...*:=by
   unfold jO at h2
   by_cases hi:i<vs...*
   ·exact hi
   ·rw[pH (by simpa using hi)] at h2
    rw[tS] at h2;split at h2<;>cases h2
  let ha:vs[i]? =Y v:=by
   unfold jO at h2;rw[pL (by simpa using hi),nH] at h2
   cases e:vs[i]? with
   | none=>rw[e] at h2;cases h2
   | some a=>rw[e] at h2;cases h2;rfl
  obtain⟨u,hu,rv⟩:=r.get ha;let hp:ps[i]? =Y y:=by
   rw[<-S.pre,List.getElem?_take_of_lt ∅];exact h1
  let ndP:ps.Nodup:=by rw[<-S.pre];exact S.nd.sublist (List.take_sublist _ _)
  refine{u,rv, ?_};rcases S.par y (mP hp) with k | k
  ·exact .inl {k,zGa ndP hp hu k}
  ·obtain⟨c,e⟩:=zIw (n:=s⁻¹+1) k
   refine .inr {.inl k,c,e, ?_};let q:=x.cell y c e;rw[zGb ndP hp hu (by show scope.names.lookup y≠_;rw[k];decide)] at q;exact q
 ·exact e0.hok.fresh (bX (x.above y c (rM h)))
 ·unfold jO
  show _=N...*;rw[mM,mL,rC]
  lia
theorem zOe{CX:CXT}{P:V3}{w:V4}{K:A6}{mg:Str->Option V0}{base:V5}{k:Nat}{f:V1}{name qual:Str}{params:Arguments}{body:List V6}{scope:Scope}{dV kV doc pm cdv ct oc:V0}{an od:Option V1}
  {osl:Array (Option V0)} {N ps:List Str} {sp:Sp} (lk:K.lookup f=Y {oc,od, .func (W.fnOf name qual params body scope dV kV doc pm an cdv ct),osl}) (hcd:A9 K cdv qual=true) (S:zS N ps scope)
  (len:∀vs H Q E,sp vs H Q E->vs...*=ps...*)
  (hbody:∀(A:Around)(outer:List S7)(s:V2)(H:Hp)(vs:List V)(Q:VK)(E:XK),Room k (A.deeper (envOfC qual scope s⁻¹ f cdv))->sp vs H Q E->
   ∃t,PSs (zCj CX P w K mg base N qual scope f cdv A outer s H E) body t/\t {nx:=λ_ H'=>Q .non H',rt:=Q} (jO N vs) H):
  FnOk P w K mg base CX (k+1) f (W.fnOf name qual params body scope dV kV doc pm an cdv ct) ps sp:=by
 refine{len,λA outer s H args us vs Q E hr e0 hb r hsp=>?_};let hl:=len _ _ _ _ hsp;let KX:K.In s.heap:=e0.mod.kin.keeps λb o e=>(e0.bs b o e).1;let lim:s.heap.NoLimit:=e0.mod.nolimit.keeps λb o e=>(e0.bs b o e).1;let hkind:∀y∈ps.zip us,scope.names.lookup y.1=some .local\/(scope.names.lookup y.1=some .cell/\((cellsFrom (s⁻¹+1) scope.names []).lookup y.1).isSome=true):=fun⟨n,v⟩ hy=>by
  rcases S.par n (bY hy).1 with q | q
  ·exact .inl q
  ·exact .inr {q,W.cellsFrom_some _ _ _ (.inl q)}
 refine codeAny_call_function hr.depth (KX _ _ lk) O S.co S.gen O (W.codeRec_of KX hcd) (hb _ _ _ _ ?_);refine wpAny_newFunctionEnv_cells S.kind hkind λenv he s1 x=>?_;subst he;refine{lim.keeps x.toInCall.keep,codeAny_func ?_};obtain⟨t,ht,hq⟩:=hbody A outer s H vs Q E (hr.deeper _) hsp;let I:Inv (zCj CX P w K mg base N qual scope f cdv A outer s H E) [] (jO N vs) H s1:=zGe S hr.hd e0 hl r x;refine pO (ht [] s1 (jO N vs) H _ I hq) (λfl s' hs=>?_) λe s' hs=>hs;let fin:∀{σ':St}{H':Hp}{v:V}{u:V0},Inv (zCj CX P w K mg base N qual scope f cdv A outer s H E) [] σ' H' s'->RelV v u->Q v H'->CE outer P w H s Q u s':=
  λ{σ' H' v u} J rv q=>⟨v,H',J.os,J.bare,J.base,J.hok,rv,q⟩
 cases fl with
 | ret u=>
  ext yD hs v σ' H' J rv q;exact fin J rv q
 | next=>
  ext xV hs σ' H' J q;exact fin (v:=V.non) (u:=Value.none) J O q
 | brk=>
  ext xV hs _ _ _ q;exact False.elim q
 | cont=>
  ext xV hs _ _ _ q;exact False.elim q
section
variable{X:Cx}{x:Str}{p pos:Pos}{e:Expr}{es:List Expr}{t:TA}{id T:String}{r:List V->Hp->VK->Prop}
def tCB(r:List V->Hp->VK->Prop)(t:TA):TE:=λσ H Q=>t σ H λvs H1=>r vs H1 Q
theorem zO(hc:wH X (.builtin id) r)(hg:Gl X x)(hm:X.mg x=none)(hv:A1 x=Y (.builtin id))(ha:PA X (e::es) t)(hn:x≠ "__name__":=by decide)(hdb:(x==("__debug__" :Str))=false:=by decide)
  (he:A2 (e::es) X.env=(false,eval e X.env)::A2 es X.env:=by rfl) (hpl:(S2 pos (A2 es X.env)).any (·.1)=false:=by rfl):PE X (.Call (.Name x p) (e::es) [] pos) (tCB r t):=by
 intro pins s σ H Q I h;refine rH (zAm I hg hm hv ?_ hn hdb);exact bZ (thn (ha pos pins s σ H _ I h) λus s1 ⟨vs,H1,I1,r1,q1⟩=>hc pins s1 σ H1 vs us Q I1 r1 q1) he hpl
theorem yJ(hc:wH X (.type T) r)(hg:Gl X x)(hm:X.mg x=none)(hv:A1 x=Y (.type T))(ha:PA X (e::es) t)(hn:x≠ "__name__":=by decide)(hdb:(x==("__debug__" :Str))=false:=by decide)
  (he:A2 (e::es) X.env=(false,eval e X.env)::A2 es X.env:=by rfl) (hpl:(S2 pos (A2 es X.env)).any (·.1)=false:=by rfl):PE X (.Call (.Name x p) (e::es) [] pos) (tCB r t):=by
 intro pins s σ H Q I h;refine rH (zAm I hg hm hv ?_ hn hdb);exact sU (thn (ha pos pins s σ H _ I h) λus s1 ⟨vs,H1,I1,r1,q1⟩=>hc pins s1 σ H1 vs us Q I1 r1 q1) he hpl
end
end L2
namespace HT
open PySem PyProof.Rows
section
open PySem.SeqAt
open PySem.AutoSeq1 (wpAny_loadPart')
open PySem.MeetsSeq PySem.MeetsSeq2 PySem.MeetsSeq3
end
section
variable{prog:V3}{w:V4}{A:Around}{E:V0->V2->Prop}{s:V2}
theorem cat_tup{t b:V1}{vs ws:List V0}{Q:V0->V2->Prop}(ht:IsTup s.heap t vs.toArray)(hb:IsTup s.heap b ws.toArray)(hv:vs≠ [])
  (h1:ws= []->Q (.ref t) s) (h2:ws≠ []->Q (.ref s⁻¹) {s with heap:=s.heap.push {cls:=.type "tuple",data:=.seq (vs++ws).toArray}})
  (hsz:vs...*+ws...*<=V9):V8 (S5 prog w) A (binaryOp .Add (.ref t) (.ref b)) Q E s:=by
 obtain⟨⟨cls,dd,data,sl⟩,ho,hc,n,hd⟩:=id ht;obtain⟨⟨cls2,dd2,data2,sl2⟩,ho2,hc2,n2,hd2⟩:=id hb;simp only at hc hd hc2 hd2;subst hc hd hc2 hd2;let e:vs.toArray++ws.toArray=(vs++ws).toArray:=by simp
 by_cases hw:ws= []
 ·exact concat_meets ⟨_,ho,O⟩ ⟨_,ho2,O⟩ noFill_tuple_add seq_tuple_add PySem.F.slot_tuple_add PySem.F.entry_tuple_add (PySem.F.args_tuple_add_2 _ _)
   (tuple_addW1 t b vs.toArray ws.toArray n n2 dd dd2 sl sl2 (by simpa using hv) (by simp[hw])) {ho,ho2,h1 hw}
 ·refine concat_meets ⟨_,ho,O⟩ ⟨_,ho2,O⟩ noFill_tuple_add seq_tuple_add PySem.F.slot_tuple_add PySem.F.entry_tuple_add (PySem.F.args_tuple_add_2 _ _)
   (tuple_addW2 t b vs.toArray ws.toArray n n2 dd dd2 sl sl2 (by simpa using hv) (by simpa using hw) (by rw[List.size_toArray,List.size_toArray];exact hsz)) {ho,ho2, ?_}
  rw[e];exact h2 hw
def sIx(n d:Nat):Option Int->Nat
 | none=>d
 | some v=>if v<0 then(v+(n:Int)).toNat else min v.toNat n
theorem sIx_none(n d:Nat):sIx n d none=d:=rfl
theorem sIx_nat(n d k:Nat):sIx n d ↥(k:Int)=min k n:=by
 show(if(k:Int)<0 then((k:Int)+(n:Int)).toNat else min (k:Int).toNat n)=min k n;rw[if_neg ∅,Int.toNat_natCast]
theorem yAk(n d:Nat)(hd:d<=n)(o:Option Int):sIx n d o<=n:=by
 cases o with
 | none=>exact hd
 | some v=>
  show(if v<0 then(v+(n:Int)).toNat else min v.toNat n)<=n
  by_cases hv:v<0
  ·rw[if_pos hv];lia
  ·rw[if_neg hv];exact Nat.min_le_right _ _
theorem zOr(v:Int)(n d:Nat):(if v<0 then max (v+(n:Int)) 0 else min v (n:Int))=((sIx n d ↥v:Nat):Int):=by
 show(if v<0 then max (v+(n:Int)) 0 else min v (n:Int))=(((if v<0 then(v+(n:Int)).toNat else min v.toNat n):Nat):Int)
 by_cases hv:v<0
 ·simp only[if_pos hv];lia
 ·simp only[if_neg hv];lia
theorem zLw(lo hi:Option Int)(n:Nat):Builtin.Slice.sliceAdjust lo hi 1 (n:Int)=(((sIx n 0 lo:Nat):Int),((sIx n n hi:Nat):Int)):=by
 let h1:¬((1:Int)<0):=by lia
 unfold Builtin.Slice.sliceAdjust;simp only[h1,if_false];refine Prod.ext ?_ ?_
 ·cases lo with
  | none=>rfl
  | some v=>exact zOr v n 0
 ·cases hi with
  | none=>rfl
  | some v=>exact zOr v n n
theorem zMb(i j:Nat):Builtin.Slice.slicePlaces (i:Int) (j:Int) 1=j - i:=by
 unfold Builtin.Slice.slicePlaces;let h1:(1:Int)>0:=by lia
 simp only[h1,if_true,Int.ediv_one];split<;>lia
theorem zDf{v:V0}{o:Option Int}{Q:Option Int->V2->Prop}(p:IsPart v o)(h:Q o s):V8 (S5 prog w) A (Builtin.Slice.slicePartIndex v) Q E s:=by
 cases p with
 | none=>exact slicePart_none h
 | int i t=>exact slicePart_int h
theorem kG{sl:V1}{vl vu:V0}{lo hi:Option Int}{n:Nat}{Q:Int×Int×Nat->V2->Prop}(hs:s.heap.IsSliceOf sl vl vu .none)(pl:IsPart vl lo)(pu:IsPart vu hi)
  (h:Q (((sIx n 0 lo:Nat):Int),1,sIx n n hi - sIx n 0 lo) s):V8 (S5 prog w) A (Builtin.Slice.sliceApplied (.ref sl) (pure (n:Int))) Q E s:=by
 refine xI (id hs) λos hos hcs hds=>?_;unfold Builtin.Slice.sliceApplied Builtin.Slice.sliceFields;refine wpAny_bind (wpAny_bind (wpAny_field hos hds (x:=vl) O (wpAny_bind (wpAny_field hos hds (x:=vu) O (wpAny_bind (wpAny_field hos hds (x:=.none) O (wpAny_pure ?_)))))));refine wpAny_bind (slicePart_none ?_);show V8 _ _ (if((1:Int)==0)=true then _ else _) _ _ s;rw[if_neg ∎];refine wpAny_bind (zDf pl (wpAny_bind (zDf pu (wpAny_bind (wpAny_pure ?_)))));show V8 _ _ (match Builtin.Slice.sliceAdjust lo hi 1 (n:Int) with |(lo,hi)=>pure (lo,(1:Int),Builtin.Slice.slicePlaces lo hi 1)) _ _ s
 rw[zLw lo hi n];show V8 _ _ (pure (((sIx n 0 lo:Nat):Int),(1:Int),Builtin.Slice.slicePlaces ((sIx n 0 lo:Nat):Int) ((sIx n n hi:Nat):Int) 1)) _ _ s;rw[zMb];exact wpAny_pure h
theorem zTw(xs:Array V0)(i k:Nat):((List.range k).filterMap fun(m:Nat)=>xs[((i:Int)+(m:Int)*1).toNat]?).toArray=((xs.toList.drop i).take k).toArray:=by
 let e:(fun(m:Nat)=>xs[((i:Int)+(m:Int)*1).toNat]?)=λm=>xs[i+m]?:=by
  funext m
  let:((i:Int)+(m:Int)*1).toNat=i+m:=by lia
  rw[this]
 rw[e];let:=pick_run xs i k;rw[List.filterMap_map] at this;let e2:((λx=>xs[x]?)∘λx=>i+x)=λm=>xs[i+m]?:=rfl;rw[e2] at this;rw[this]
theorem getItem_tuple_cut{t sl:V1}{items:Array V0}{vl vu:V0}{lo hi:Option Int}{Q:V0->V2->Prop}(ht:IsTup s.heap t items)(hs:s.heap.IsSliceOf sl vl vu .none)(pl:IsPart vl lo)(pu:IsPart vu hi)
  (hw:¬(sIx items.size 0 lo=0/\sIx items.size items.size hi=items.size))
  (h:Q (.ref s⁻¹) {s with heap:=s.heap.push {cls:=.type "tuple",data:=.seq ((items.toList.drop (sIx items.size 0 lo)).take (sIx items.size items.size hi - sIx items.size 0 lo)).toArray}})
  (hsz:items.size<=V9):V8 (S5 prog w) A (getItem (.ref t) (.ref sl)) Q E s:=by
 let htake:sizeOk (.seq ((items.toList.drop (sIx items.size 0 lo)).take (sIx items.size items.size hi - sIx items.size 0 lo)).toArray):=by
  show((items.toList.drop (sIx items.size 0 lo)).take (sIx items.size items.size hi - sIx items.size 0 lo)).toArray.size<=V9;rw[List.size_toArray,List.length_take,List.length_drop,Array.length_toList]
  lia
 let hj:sIx items.size items.size hi<=items.size:=yAk _ _ (Nat.le_refl _) hi;refine xI (id hs) λos hos hcs hds=>?_;let hTs:s.TypeIs (.ref sl) "slice":=⟨os,hos,hcs⟩;unfold getItem
 try with_reducible refine wpAny_holding ?_
 first | refine wpAny_bind (wpAny_pure ?_)| skip
 refine wpAny_bind (wpAny_sequenceKey ht.typeIs ∎ ?_);refine wpAny_bind (wpAny_callSpecial?_slot (name:=A5 "__getitem__") ht.typeIs PyProof.Rows.slot_tuple_getitem
  (wpAny_call_entry PyProof.Rows.slot_tuple_getitem ht.typeIs entry_tuple_getitem ?_ (args_tuple_getitem _ _)))
 show V8 _ _ (Builtin.Tuple.tupleItemsOf (.ref t)>>=_) _ _ s;refine wpAny_bind (tupleItemsOf_ ht ?_);refine wpAny_bind (wpAny_typeOf hTs ?_);rw[if_pos ∎];refine wpAny_bind (kG hs pl pu ?_);let hno:¬((((sIx items.size 0 lo:Nat):Int)==0 && (1:Int)==1 && (sIx items.size items.size hi - sIx items.size 0 lo)==items.size)=true):=by
  intro q;rw[Bool.and_eq_true,Bool.and_eq_true] at q;let q1:((sIx items.size 0 lo:Nat):Int)=0:=eq_of_beq q.1.1;let q2:sIx items.size items.size hi - sIx items.size 0 lo=items.size:=eq_of_beq q.2;exact hw {∅,∅}
 show V8 _ _ (if(((sIx items.size 0 lo:Nat):Int)==0 && (1:Int)==1 && (sIx items.size items.size hi - sIx items.size 0 lo)==items.size)=true then _ else _) _ _ s;rw[if_neg hno,zTw]
 first
  | exact wpAny_bind (m:=Builtin.Tuple.tupleExact _) (wpAny_newObj_type (wpAny_pure {_,O,wpAny_pure h}) htake)
  | exact wpAny_bind (m:=Builtin.Tuple.tupleExact _) (wpAny_newObj_type (wpAny_bind (wpAny_pure (wpAny_pure {_,O,wpAny_pure h}))) htake)
  | exact wpAny_bind (wpAny_bind (m:=Builtin.Tuple.tupleExact _) (wpAny_newObj_type (wpAny_pure (wpAny_pure {_,O,wpAny_pure h})) htake))
  | exact wpAny_bind (wpAny_bind (m:=Builtin.Tuple.tupleExact _) (wpAny_newObj_type (wpAny_pure {_,O,wpAny_pure h}) htake))
end
end HT
namespace L2
open PySem PySem.Spec PyProof.Rows
abbrev TO:=St->Hp->(Option Int->Hp->Prop)->Prop
def PO(X:Cx)(e:Option Expr)(t:TO):Prop:=
 ∀(pins:List (V1×Obj))(s:V2)(σ:St)(H:Hp)(Q:Option Int->Hp->Prop),Inv X pins σ H s->t σ H Q->
  V8 (S5 X.prog X.w) X.A (evalPart e X.env) (λu s'=>∃o H',Inv X pins σ H' s'/\IsPart u o/\Q o H') X.xe s
def zHj:TO:=λ_ H Q=>Q none H
def zRu(t:TE):TO:=λσ H Q=>t σ H λx H1=>∃i,x= .int i/\Q ↥i H1
theorem zKy{ns:List Int}:∀{us:List V0},Vals (ns.map V.int) us->IntsAre us ns:=by
 induction ns with
 | nil=>intro us r;rw[sK] at r;cases r;exact .nil
 | cons n ns ih=>
  intro us r;rw[mZ] at r
  cases r with
  | cons r1 r2=>
   obtain⟨t,e⟩:=r1;subst e;exact .cons n t (ih r2)
section
variable{X:Cx}{e:Expr}{te:TE}{lo hi:Option Expr}{tl th:TO}{pos p2:Pos}
theorem jC:PO X none zHj:=by
 intro pins s σ H Q I h;rw[evalPart_none];exact mN {none,H,I, .none,h}
theorem jB(h:PE X e te):PO X ↥e (zRu te):=by
 intro pins s σ H Q I hw;rw[evalPart_some];refine thn (h pins s σ H _ I hw) λu s1 ⟨x,H1,I1,r1,q1⟩=>?_;obtain⟨i,rfl,q⟩:=q1;obtain⟨t,rfl⟩:=r1;exact{Y i,H1,I1, .int i t,q}
def SlR(X:Cx)(r:V->Option Int->Option Int->Hp->VK->Prop):Prop:=
 ∀(pins:List (V1×Obj))(s:V2)(σ:St)(H:Hp)(x:V)(v vl vu:V0)(lo hi:Option Int)(sl:V1)(Q:VK),Inv X pins σ H s->RelV x v->s.heap.IsSliceOf sl vl vu .none->IsPart vl lo->IsPart vu hi->r x lo hi H Q->
  ∃T id,typeLookup (.type T) "__getitem__" =pure ↥(.builtin id)/\s.TypeIs v T/\V8 (S5 X.prog X.w) X.A (getItem v (.ref sl)) (EP X pins σ Q) X.xe s
def tSl(r:V->Option Int->Option Int->Hp->VK->Prop)(te:TE)(tl th:TO):TE:=λσ H Q=>te σ H λx H1=>tl σ H1 λl H2=>th σ H2 λu H3=>r x l u H3 Q
theorem qD{r:V->Option Int->Option Int->Hp->VK->Prop}(hr:SlR X r)(he:PE X e te)(hl:PO X lo tl)(hu:PO X hi th):PE X (.Subscript e (.Slice lo hi none p2) pos) (tSl r te tl th):=by
 intro pins s σ H Q I h;refine Subscript_ (thn (he pins s σ H _ I h) λv s1 ⟨x,H1,I1,r1,q1⟩=>?_);refine wpAny_Slice (thn (hl pins s1 σ H1 _ I1 q1) λvl s2 ⟨l,H2,I2,pl,q2⟩=>thn (hu pins s2 σ H2 _ I2 q2) λvu s3 ⟨u,H3,I3,pu,q3⟩=>?_);rw[evalPart_none];refine mN ?_;let I4:Inv X pins σ H3 {s3 with heap:=s3.heap.push {cls:=.type "slice",data:=.fields #[vl,vu, .none]}}:=I3.kept (t':=s3.toks) λb ob q=>mJ _ q;refine yM (hr pins {s3 with heap:=s3.heap.push {cls:=.type "slice",data:=.fields #[vl,vu, .none]}} σ H3 x v vl vu l u s3⁻¹ Q I4 r1 (Heap.IsSliceOf.new ..) pl pu q3) λT id hT ht hg=>?_;show V8 (S5 X.prog X.w) X.A (subscriptTail e (.Slice lo hi none p2) v (.ref s3⁻¹)) (EP X pins σ Q) X.xe {s3 with heap:=s3.heap.push {cls:=.type "slice",data:=.fields #[vl,vu, .none]}};exact tail_any (ops:=[.ref s3⁻¹,v]) ht hT hg (by with_unfolding_all rfl)
def kL(xs:List V)(lo hi:Option Int):List V:=(xs.drop (HT.sIx xs...* 0 lo)).take (HT.sIx xs...* xs...* hi - HT.sIx xs...* 0 lo)
theorem zCc(xs:List V)(lo hi:Option Int):(kL xs lo hi)...*<=xs...*:=by
 unfold kL;rw[sE,rN]
 lia
def rSlT(K:A6):V->Option Int->Option Int->Hp->VK->Prop:=λx lo hi H Q=>∃a xs,x= .ref a/\SqT K H a xs/\
 ¬(HT.sIx xs...* 0 lo=0/\HT.sIx xs...* xs...* hi=xs...*)/\∀p,H p=none->Q (.ref p) (upd H p (.tup (kL xs lo hi)))
theorem yCn:SlR X (rSlT X.K):=by
 intro pins s σ H x v vl vu lo hi sl Q I rx hs pl pu h;ext yE h a xs r2_ hx hw q;subst r2_;cases rx;refine xI (I.tuple hx) λits r ht hz=>?_;let hlen:its.toArray.size=xs...*:=by rw[mY];exact r.length.symm
 refine{"tuple",_,PyProof.Rows.slot_tuple_getitem.lookup,ht.typeIs, ?_};refine HT.getItem_tuple_cut ht hs pl pu (by rw[hlen];exact hw) ?_ (by rw[hlen];exact hz);rw[hlen];refine{.ref s⁻¹,_,I.laid (t':=s.toks) (o:=.tup (kL xs lo hi)) (λb ob q=>mJ _ q) (mE _) ?_,O,q _ (I.hok.fresh (mE _))};exact{pC (zCc xs lo hi) hz,_,(r.drop (HT.sIx xs...* 0 lo)).take (HT.sIx xs...* xs...* hi - HT.sIx xs...* 0 lo),IsTup.new _ _}
def zYz(K:A6):R2:=λx y H Q=>∃a b xs ys,x= .ref a/\y= .ref b/\SqT K H a xs/\SqT K H b ys/\xs≠ []/\xs...*+ys...*<=V9/\
 (ys= []->Q (.ref a) H)/\(ys≠ []->∀p,H p=none->Q (.ref p) (upd H p (.tup (xs++ys))))
theorem Vals.nil_iff{xs:List V}{us:List V0}(r:Vals xs us):us= []↔xs= []:=by
 cases r with
 | nil=>simp
 | cons _ _=>simp
theorem zNi:OpR X (binaryOp .Add) (zYz X.K):=by
 intro pins s σ H x y v u Q I rx ry h;ext yV h a b xs ys r4_ z_;ext yO z_ r5_ ha hb hx hz z_;ext oA z_ q1 q2;subst r4_ r5_;cases rx;cases ry;refine xI (I.tuple ha) λits r1 p1 _=>?_;refine xI (I.tuple hb) λits2 r2 p2 _=>?_;refine HT.cat_tup p1 p2 (λz=>hx (r1.nil_iff.mp z)) (λz=>{.ref a,H,I,O,q1 (r2.nil_iff.mp z)}) (λz=>?_) (by rw[<-r1...*,<-r2...*];exact hz);refine{.ref s⁻¹,_,I.laid (t':=s.toks) (o:=.tup (xs++ys)) (λb ob q=>mJ _ q) (mE _) ?_,O,q2 (λw=>z (r2.nil_iff.mpr w)) _ (I.hok.fresh (mE _))};exact{by rw[mM];exact hz,_,r1.append r2,IsTup.new _ _}
end
def ixN(n:Nat)(i:Int):Option Nat:=if 0<=i then(if i<n then Y i.toNat else none) else if -(n:Int)<=i then Y (i+n).toNat else none
def atI{α:Type}(xs:List α)(i:Int):Option α:=(ixN xs...* i).bind λj=>xs[j]?
theorem zGu{n:Nat}{i:Int}{j:Nat}(h:ixN n i=Y j):seqIndex? i n=Y j/\j<n/\-(n:Int)<=i/\i<n:=by
 unfold ixN at h
 by_cases h0:0<=i
 ·rw[mQ h0] at h
  by_cases h1:i<n
  ·rw[mQ h1] at h
   let e:i.toNat=j:=mR h;exact{by rw[seqIndex_of h0 h1,e],∅,∅,h1}
  ·rw[mK h1] at h;cases h
 ·rw[mK h0] at h
  by_cases h1: -(n:Int)<=i
  ·rw[mQ h1] at h
   let e:(i+n).toNat=j:=mR h;exact{by rw[seqIndex_neg ∅ h1,e],∅,h1,∅}
  ·rw[mK h1] at h;cases h
theorem zHw{α:Type}{xs:List α}{i:Int}{v:α}(h:atI xs i=Y v):∃j,seqIndex? i xs...*=Y j/\xs[j]? =Y v/\j<xs...*/\-(xs...*:Int)<=i/\i<xs...*:=by
 unfold atI at h
 cases e:ixN xs...* i with
 | none=>rw[e] at h;cases h
 | some j=>
  rw[e] at h;refine wC (zGu e) λh1 h2 h3 h4=>?_;exact⟨j,h1,h,h2,h3,h4⟩
theorem zV{α:Type}{xs:List α}{j:Nat}{v:α}(h:xs[j]? =Y v):atI xs (j:Int)=Y v:=by
 let hj:j<xs...*:=(mO.mp h).1;let e:ixN xs...* (j:Int)=Y j:=by
  unfold ixN;rw[mQ ∅,mQ ∅];simp
 unfold atI;rw[e];exact h
theorem wD{α:Type}(xs:List α)(v:α):atI (xs++ [v]) (-1)=Y v:=by
 let hl:(xs++ [v])...*=xs...*+1:=by simp
 let e:ixN (xs++ [v])...* (-1)=Y xs...*:=by
  unfold ixN;rw[hl,mK ∎,mQ ∅]
  congr 1
  lia
 unfold atI;rw[e];show(xs++ [v])[xs...*]? =Y v;simp
def zYe(b:Expr):Prop:=∀o i,subscripted b false o i=operate [o,i] (getItem o i)
def IxR(X:Cx)(r:R2):Prop:=
 ∀(value slice:Expr)(pins:List (V1×Obj))(s:V2)(σ:St)(H:Hp)(x y:V)(v u:V0)(Q:VK),Inv X pins σ H s->RelV x v->RelV y u->r x y H Q->
  subscripted slice false v u=operate [v,u] (getItem v u)->V8 (S5 X.prog X.w) X.A (subscriptTail value slice v u) (EP X pins σ Q) X.xe s
def MtR(X:Cx)(id:String)(r:V->List V->Hp->VK->Prop):Prop:=
 ∀(pins:List (V1×Obj))(s:V2)(σ:St)(H:Hp)(x:V)(xs:List V)(v:V0)(us:List V0)(Q:VK),Inv X pins σ H s->RelV x v->Vals xs us->r x xs H Q->
  V8 (S5 X.prog X.w) X.A (call (.builtin id) (v::us)) (EP X pins σ Q) X.xe s
section
variable{X:Cx}{a b:Expr}{ta tb:TE}{pos:Pos}
theorem yB{r:R2}(hr:IxR X r)(ha:PE X a ta)(hb:PE X b tb)(hs:zYe b):PE X (.Subscript a b pos) (tOp r ta tb):=by
 intro pins s σ H Q I h;exact Subscript_ (yDk ha hb I h λv u s2 x y H2 I2 rx ry q=>hr a b pins s2 σ H2 x y v u Q I2 rx ry q (hs _ _))
def zYk(K:A6):R2:=λx y H Q=>∃p xs i v,x= .ref p/\y= .int i/\SqL K H p xs/\atI xs i=Y v/\Q v H
def zRd(K:A6):R2:=λx y H Q=>∃p xs i v,x= .ref p/\y= .int i/\SqT K H p xs/\atI xs i=Y v/\Q v H
def rIxS:R2:=λx y H Q=>∃z i c,x= .str z/\y= .int i/\z...*<=V9/\atI z.cps.toList i=Y c/\Q (.str {#[c]}) H
theorem zP:IxR X (zYk X.K):=by
 intro value slice pins s σ H x y v u Q I rx ry h hs;ext yV h p xs i z r4_ z_;ext wC z_ r5_ hq he q;subst r4_ r5_;cases rx;obtain⟨t,rfl⟩:=ry;refine xI (I.list hq) λits r pl hz=>?_;refine zAd (zHw he) λj h1 h2 h3 h4 h5=>?_;obtain⟨w,ew,rw'⟩:=r.get h2;let hl:=r...*;let hn:=zAk;let fin:EP X pins σ Q w s:=⟨z,H,I,rw',q⟩
 by_cases h0:0<=i
 ·let hj:i.toNat=j:=by
   rw[seqIndex_of h0 h5] at h1;exact mR h1
  exact item_listR pl.isList h0 ∅ (by rw[hj];simpa using ew) fin hs
 ·let hj:(i+(its.toArray.size:Int)).toNat=j:=by
   rw[seqIndex_neg ∅ h4] at h1;rw[mY,<-hl];exact mR h1
  exact subscriptTail_builtinR (x:=w) pl.isList.typeIs slot_list_getitem.lookup
   (wpAny_getItem_list_neg (Q:=λr s'=>r=w/\EP X pins σ Q r s') pl.isList ∅ (by rw[mY]<;>lia) ∅ (by rw[hj];simpa using ew) ⟨O,fin⟩) hs
theorem kA:IxR X (zRd X.K):=by
 intro value slice pins s σ H x y v u Q I rx ry h hs;ext yV h p xs i z r4_ z_;ext wC z_ r5_ hq he q;subst r4_ r5_;cases rx;obtain⟨t,rfl⟩:=ry;refine xI (I.tuple hq) λits r pl hz=>?_;refine zAd (zHw he) λj h1 h2 h3 h4 h5=>?_;obtain⟨w,ew,rw'⟩:=r.get h2;let hl:=r...*;let hn:=zAk;let fin:EP X pins σ Q w s:=⟨z,H,I,rw',q⟩;exact subscriptTail_builtinR (x:=w) pl.typeIs slot_tuple_getitem.lookup
  (getItem_tuple (j:=j) (Q:=λr s'=>r=w/\EP X pins σ Q r s') pl ∅ ∅ (by rw[mY,<-hl];exact h1) (by simpa using ew) ⟨O,fin⟩) hs
theorem zBp:IxR X rIxS:=by
 intro value slice pins s σ H x y v u Q I rx ry h hs;ext yD h z i c r3_ r4_ z_;ext oAA z_ hz he q;subst r3_ r4_;obtain⟨t,rfl⟩:=rx;obtain⟨t',rfl⟩:=ry;refine zAd (zHw he) λj h1 h2 h3 h4 h5=>?_;let hl:z.cps.toList...*=z...*:=by simp[Str.length]
 rw[hl] at h1 h4 h5;let hn:=zAk;exact tail_any (typeIs_str s z t) slot_str_getitem.lookup (getItem_str (c:=c) (by
  let e1:decide (i< -(2 ^ 63:Int))=false:=nG ∅;let e2:decide (i≥2 ^ 63)=false:=nG ∅;rw[e1,e2,Bool.or_false]) (by rw[h1];simpa using h2) {.str {#[c]},H,I.tok _,⟨_,O⟩,q}) hs
theorem zLu(its:List V0)(n j:Nat)(u:V0):Obj.mapSeq (·.setIfInBounds j u) {cls:=.type "list",data:=.seq its.toArray n}={cls:=.type "list",data:=.seq (its.set j u).toArray n}:=by
 simp[Obj.mapSeq]
theorem Inv.lst{pins:List (V1×Obj)}{σ:St}{H:Hp}{s:V2}{p:V1}{xs:List V}(I:Inv X pins σ H s)(h:H p=Y (.lst xs)):
  ∃(its:List V0)(n:Nat),Vals xs its/\s.heap.get? p=some {cls:=.type "list",data:=.seq its.toArray n}/\xs...*<=V9:=by
 obtain⟨z,its,n,r,e⟩:=I.hok p _ h;exact⟨its,n,r,e,z⟩
theorem Inv.lstUpd{pins:List (V1×Obj)}{σ:St}{H:Hp}{s:V2}{p:V1}{xs ys:List V}{its its':List V0}{n n':Nat}{f:Obj->Obj}(I:Inv X pins σ H s)(h:H p=Y (.lst xs))
  (ho:s.heap.get? p=some {cls:=.type "list",data:=.seq its.toArray n}) (hf:f {cls:=.type "list",data:=.seq its.toArray n}={cls:=.type "list",data:=.seq its'.toArray n'}) (r:Vals ys its') (hz:ys...*<=V9) (t:Nat):
  Inv X pins σ (upd H p (.lst ys)) {s with heap:=s.heap.update p f,toks:=t}:=by
 let e:(s.heap.update p f).get? p=some {cls:=.type "list",data:=.seq its'.toArray n'}:=by
  rw[tD f ho (by rw[hf]<;>rfl),hf]
 refine I.write (x:=p) (e:=p) (by rw[h];trivial) (.inl O) (λb u hb q=>(mX _ _ (Ne.symm hb)).trans q) ⟨_,e⟩ ?_;exact⟨hz,its',n',r,e⟩
def rSetL:V->V->V->Hp->(Hp->Prop)->Prop:=λo i v H Q=>∃p xs k j,o= .ref p/\i= .int k/\H p=Y (.lst xs)/\ixN xs...* k=Y j/\Q (upd H p (.lst (xs.set j v)))
theorem zTm:PSet X rSetL:=by
 intro pins s σ H o i v ov iv u Q I ro ri rv h;ext yV h p xs k j r4_ z_;ext wC z_ r5_ hp hj q;subst r4_ r5_;cases ro;obtain⟨t,rfl⟩:=ri;refine yM (I.lst hp) λits n r ho hz=>?_;refine wC (zGu hj) λh1 h2 h3 h4=>?_;let hl:=r...*;let hn:=zAk;let I':Inv X pins σ (upd H p (.lst (xs.set j v))) {s with heap:=s.heap.update p (Obj.mapSeq (·.setIfInBounds j u))}:=
  I.lstUpd hp ho (zLu its n j u) (r.set rv j) (by rw[aY];exact hz) s.toks
 by_cases h0:0<=k
 ·let hk:k.toNat=j:=by
   rw[seqIndex_of h0 h4] at h1;exact mR h1
  exact W.ki_setAt ho h0 ∅ (by rw[mY,<-hl];exact h4) (by rw[hk];exact⟨_,I',q⟩)
 ·let hk:(k+(its.toArray.size:Int)).toNat=j:=by
   rw[seqIndex_neg ∅ h3] at h1;rw[mY,<-hl];exact mR h1
  exact W.ki_setBack ho ∅ (by rw[mY,<-hl];exact h3) ∅ (by rw[hk];exact⟨_,I',q⟩)
theorem zHu(lo hi:Option Int)(n:Nat):(sliceBounds lo hi none n).1=((HT.sIx n 0 lo:Nat):Int)/\(sliceBounds lo hi none n).2.1=((HT.sIx n n hi:Nat):Int)/\(sliceBounds lo hi none n).2.2=1:=by
 refine{?_, ?_,O}
 ·cases lo with
  | none=>simp[sliceBounds,HT.sIx]
  | some i=>
   simp only[sliceBounds,HT.sIx,Option.getD_none,show(1:Int)>0 by decide,cX]
   by_cases h:i<0
   ·simp only[h,cX]<;>lia
   ·simp only[h,bD]<;>lia
 ·cases hi with
  | none=>simp[sliceBounds,HT.sIx]
  | some i=>
   simp only[sliceBounds,HT.sIx,Option.getD_none,show(1:Int)>0 by decide,cX]
   by_cases h:i<0
   ·simp only[h,cX]<;>lia
   ·simp only[h,bD]<;>lia
theorem zEz(its:List V0)(lo hi:Option Int):slicePick its.toArray lo hi none=((its.drop (HT.sIx its...* 0 lo)).take (HT.sIx its...* its...* hi - HT.sIx its...* 0 lo)).toArray:=by
 obtain⟨h1,h2,h3⟩:=zHu lo hi its.toArray.size;unfold slicePick;rw[h1,h2,h3];simp only[sliceRange_one,pick_run,mY]<;>rfl
def rSlL(K:A6):V->Option Int->Option Int->Hp->VK->Prop:=λx lo hi H Q=>∃a xs,x= .ref a/\SqL K H a xs/\∀p,H p=none->Q (.ref p) (upd H p (.lst (kL xs lo hi)))
theorem kZ:SlR X (rSlL X.K):=by
 intro pins s σ H x v vl vu lo hi sl Q I rx hs pl pu h;ext yM h a xs r2_ hx q;subst r2_;cases rx;refine xI (I.list hx) λits r ht hz=>?_;let hlen:=r...*;refine{"list",_,slot_list_getitem.lookup,ht.isList.typeIs, ?_};refine wpAny_getItem_list_slice ht.isList hs pl pu .none (by simp) ?_ (by rw[mY]<;>lia);rw[zEz,<-hlen];refine{.ref s⁻¹,_,I.laid (t':=s.toks) (o:=.lst (kL xs lo hi)) (λb ob q=>mJ _ q) (mE _) ?_,O,q _ (I.hok.fresh (mE _))};exact{pC (zCc xs lo hi) hz,_,0,(r.drop (HT.sIx xs...* 0 lo)).take (HT.sIx xs...* xs...* hi - HT.sIx xs...* 0 lo),nM _ O}
def gU:V->Bool
 | .non=>true
 | .bl _=>true
 | .int _=>true
 | .str _=>true
 | _=>false
def eqV:V->V->Bool
 | .non, .non=>true
 | .bl a, .bl b=>a==b
 | .bl a, .int b=>(if a then 1 else 0)==b
 | .int a, .bl b=>a==(if b then 1 else 0)
 | .int a, .int b=>a==b
 | .str a, .str b=>a==b
 | _,_=>false
theorem yBl{A:Around}{s:V2}{y x:V}{u v:V0}(ry:RelV y u)(rx:RelV x v)(fy:gU y=true)(fx:gU x=true):SeqAt.EqAt A s u v (eqV y x):=by
 cases y with
 | non=>
  cases ry
  cases x with
  | non=>cases rx;exact SeqAt.EqAt.same _
  | bl b=>cases rx;exact SeqAt.EqAt.none_bool b
  | int b=>obtain⟨t,rfl⟩:=rx;exact SeqAt.EqAt.none_int b t
  | str b=>obtain⟨t,rfl⟩:=rx;exact SeqAt.EqAt.none_str b t
  | _=>exact absurd (show false=true from fx) nF
 | bl a=>
  cases ry
  cases x with
  | non=>cases rx;exact SeqAt.EqAt.bool_none a
  | bl b=>cases rx;exact SeqAt.EqAt.bool_bool a b
  | int b=>obtain⟨t,rfl⟩:=rx;exact SeqAt.EqAt.bool_int a b t
  | str b=>obtain⟨t,rfl⟩:=rx;exact SeqAt.EqAt.bool_str a b t
  | _=>exact absurd (show false=true from fx) nF
 | int a=>
  obtain⟨t',rfl⟩:=ry
  cases x with
  | non=>cases rx;exact SeqAt.EqAt.int_none a t'
  | bl b=>cases rx;exact SeqAt.EqAt.int_bool a t' b
  | int b=>obtain⟨t,rfl⟩:=rx;exact SeqAt.EqAt.int_int a t' b t
  | str b=>obtain⟨t,rfl⟩:=rx;exact SeqAt.EqAt.int_str a t' b t
  | _=>exact absurd (show false=true from fx) nF
 | str a=>
  obtain⟨t',rfl⟩:=ry
  cases x with
  | non=>cases rx;exact SeqAt.EqAt.str_none a t'
  | bl b=>cases rx;exact SeqAt.EqAt.str_bool a t' b
  | int b=>obtain⟨t,rfl⟩:=rx;exact SeqAt.EqAt.str_int a t' b t
  | str b=>obtain⟨t,rfl⟩:=rx;exact cN a t' b t
  | _=>exact absurd (show false=true from fx) nF
 | _=>exact absurd (show false=true from fy) nF
theorem gD:wH X (.builtin "len") (λxs H Q=>∃p ys,xs= [.ref p]/\(SqL X.K H p ys\/SqT X.K H p ys)/\Q (.int ys...*) H):=by
 intro pins s σ H xs us Q I r h;ext yM h p ys r2_ hq q;subst r2_;obtain⟨u,rfl,rx⟩:=qJ r;cases rx;let hn:=zAk;rcases hq with hq | hq
 ·refine xI (I.list hq) λits r' pl hz=>?_
  let hlen:=r'...*;exact Calls.call_len_list pl.isList (by simp only[mY]<;>lia) {.int ys...*,H,I.tok _,{s.toks+1,by rw[mY,hlen]},q}
 ·refine xI (I.tuple hq) λits r' pl hz=>?_
  let hlen:=r'...*;exact len_tuple pl (by simp only[mY]<;>lia) {.int ys...*,H,I.tok _,{s.toks+1,by rw[mY,hlen]},q}
theorem zAu:wH X (.builtin "len") (λxs H Q=>∃z,xs= [.str z]/\z...*<=V9/\Q (.int z...*) H):=by
 intro pins s σ H xs us Q I r h;ext xI h z r1_ hz q;subst r1_;obtain⟨u,rfl,t,rfl⟩:=qJ r;let hn:=zAk;exact len_str ∅ {.int z...*,H,I.tok _,⟨_,O⟩,q}
theorem kS:wH X (.type "list") (λxs H Q=>∃p ys,xs= [.ref p]/\(SqL X.K H p ys\/SqT X.K H p ys)/\∀l,H l=none->Q (.ref l) (upd H l (.lst ys))):=by
 intro pins s σ H xs us Q I r h;ext yM h p ys r2_ hq q;subst r2_;obtain⟨u,rfl,rx⟩:=qJ r;cases rx;let fin:∀(its:List V0),Vals ys its->ys...*<=V9->∀(h':V5)(c':Nat),(∀b o',s.heap.get? b=Y o'->h'.get? b=Y o')->
   h'.get? s⁻¹=some {cls:=.type "list",dict:=none,data:=.seq its.toArray c',slots:=#[]}->EP X pins σ Q (.ref s⁻¹) {s with heap:=h'}:=λits r' hz h' c' kp e=>
  {.ref s⁻¹,_,I.laid (t':=s.toks) kp (mE _) (show ObjOk X.prog X.w _ h' _ (.lst ys) from⟨hz,its,c',r',e⟩),O,q _ (I.hok.fresh (mE _))}
 rcases hq with hq | hq
 ·refine xI (I.list hq) λits r' pl hz=>?_
  let hlen:=r'...*;obtain⟨o,ho,hc,n,hd⟩:=pl.isList;exact call_list_seq p (.inl O) ho hc hd (λh' c' kp e=>fin its r' hz h' c' kp e) (by simp only[mY]<;>lia)
 ·refine xI (I.tuple hq) λits r' pl hz=>?_
  let hlen:=r'...*;obtain⟨o,ho,hc,n,hd⟩:=pl;exact call_list_seq p (.inr O) ho hc hd (λh' c' kp e=>fin its r' hz h' c' kp e) (by simp only[mY]<;>lia)
theorem uV:wH X (.type "tuple") (λxs H Q=>∃p ys,xs= [.ref p]/\((SqL X.K H p ys/\∀l,H l=none->Q (.ref l) (upd H l (.tup ys)))\/(SqT X.K H p ys/\Q (.ref p) H))):=by
 intro pins s σ H xs us Q I r h;ext xV h p ys r2_ h;subst r2_;obtain⟨u,rfl,rx⟩:=qJ r;cases rx;rcases h with⟨hq,q⟩|⟨hq,q⟩
 ·refine xI (I.list hq) λits r' pl hz=>?_
  let hlen:=r'...*;refine call_tuple_list pl.isList (λh' kp=>?_) (by simp only[mY]<;>lia);let I1:Inv X pins σ H {s with heap:=h'}:=I.kept (t':=s.toks) kp;let I2:Inv X pins σ (upd H h'.objs.size (.tup ys)) {s with heap:=h'.push {cls:=.type "tuple",data:=.seq its.toArray}}:=
   I1.laid (t':=s.toks) (λb o e=>mJ _ e) (mE _) (show ObjOk X.prog X.w _ _ _ (.tup ys) from{hz,its,r',IsTup.new _ _})
  exact{.ref h'.objs.size,_,I2,O,q _ (I1.hok.fresh (mE _))}
 ·refine xI (I.tuple hq) λits r' pl hz=>?_
  exact call_tuple_same pl {.ref p,H,I,O,q}
def tyV(K:A6)(T:String)(x:V)(H:Hp):Prop:=match x with
 | .str _=>T= "str"
 | .int _=>T= "int"
 | .ref p=>(T= "list"/\∃xs,SqL K H p xs)\/(T= "tuple"/\∃o,K.lookup p=Y o/\o.cls= .type "tuple"/\o.dict=none)\/
   (T= "dict"/\((∃kvs,H p=Y (.dK kvs))\/∃kvs,H p=Y (.dT kvs)))\/(T= "set"/\∃S n,H p=Y (.set S n))
 | _=>False
theorem zUg{pins:List (V1×Obj)}{σ:St}{H:Hp}{s:V2}{T:String}{x:V}{v:V0}(I:Inv X pins σ H s)(r:RelV x v)(ty:tyV X.K T x H):
  s.TypeIs v T/\∀a,v= .ref a->∃ob,s.heap.get? a=Y ob/\ob.dict=none:=by
 cases x with
 | str z=>
  obtain⟨t,rfl⟩:=r;cases (show T= "str" from ty);exact{typeIs_str s z t,λ_ e=>nomatch e}
 | int i=>
  obtain⟨t,rfl⟩:=r;cases (show T= "int" from ty);exact{typeIs_int s i t,λ_ e=>nomatch e}
 | ref p=>
  cases r;rcases ty with⟨rfl,xs,hq⟩|⟨rfl,o,hk,hc,hd⟩|⟨rfl,hk⟩|⟨rfl,S,n,hk⟩
  ·refine xI (I.list hq) λits _ pl _=>?_
   refine{pl.isList.typeIs,λa e=>?_};cases e;ext yE pl o n e c hd _;exact⟨o,e,hd⟩
  ·refine{⟨o,I.kIn p o hk,hc⟩,λa e=>?_}
   cases e;exact⟨o,I.kIn _ o hk,hd⟩
  ·let z:∃o,s.heap.get? p=Y o/\o.ExactDict:=by
    rcases hk with⟨kvs,hk⟩|⟨kvs,hk⟩
    ·obtain⟨_,_,_,_,o,_,_,e,ex,_⟩:=I.hok p _ hk
     exact⟨o,e,ex⟩
    ·obtain⟨_,_,_,_,o,_,_,e,ex,_⟩:=I.hok p _ hk
     exact⟨o,e,ex⟩
   obtain⟨o,e,ex⟩:=z;refine{⟨o,e,ex.1⟩,λa e2=>?_};cases e2;exact⟨o,e,ex.2.1⟩
  ·refine yV (I.hok p _ hk) λo _ _ _ e z_=>?_
   ext oA z_ ex _;refine{⟨o,e,ex.1⟩,λa e2=>?_};cases e2;exact⟨o,e,ex.2.1⟩
 | _=>exact False.elim ty
def yCv(K:A6)(T:String)(r:V->List V->Hp->VK->Prop)(to:TE):TE:=λσ H Q=>to σ H λx H1=>tyV K T x H1/\r x [] H1 Q
def tBM(K:A6)(T:String)(r:V->List V->Hp->VK->Prop)(to:TE)(t:TA):TE:=λσ H Q=>to σ H λx H1=>tyV K T x H1/\t σ H1 λxs H2=>r x xs H2 Q
variable{o e:Expr}{es:List Expr}{to:TE}{t:TA}{name:Str}{apos cpos:Pos}{T id:String}{r:V->List V->Hp->VK->Prop}
theorem yCx(pa:PlainAttrs T)(slot:Slot T name id)(hty:typeOf (.builtin id)=pure (.type "method_descriptor"))(hm:MtR X id r)(ho:PE X o to)
  (hbase:attributeBase o name X.env (eval o X.env)=eval o X.env:=by rfl) (hline:(apos.endLine==cpos.line)=true:=by rfl):PE X (.Call (.Attribute o name apos) [] [] cpos) (yCv X.K T r to):=by
 intro pins s σ H Q I h;refine wpAny_Call_method0_late hbase hline (thn (ho pins s σ H _ I h) λv s1 ⟨x,H1,I1,r1,ty,q1⟩=>?_);obtain⟨h1,h2⟩:=zUg I1 r1 ty;exact{T,id,pa,slot,hty,h1,h2,aE O (PySem.evalArgs_none (hm pins s1 σ H1 x [] v [] Q I1 r1 .nil q1))}
theorem qT(pa:PlainAttrs T)(slot:Slot T name id)(hty:typeOf (.builtin id)=pure (.type "method_descriptor"))(hm:MtR X id r)(ho:PE X o to)(ha:PA X (e::es) t)
  (hbase:attributeBase o name X.env (eval o X.env)=eval o X.env:=by rfl)
  (hfew:((S2 cpos (A2 (e::es) X.env)).all (λx=>!x.1)&& (backToKw cpos (keywordEach [] X.env)).all (λx=>x.1.isSome)
   && decide ((e::es)...*+([]:List Keyword)...*+(if([]:List Keyword).isEmpty then 0 else 1)<30))=true:=by rfl)
  (hline:(apos.endLine==cpos.line)=true:=by rfl) (hs:A2 (e::es) X.env=(false,eval e X.env)::A2 es X.env:=by rfl) (hplain:(S2 cpos (A2 es X.env)).any (·.1)=false:=by rfl):
  PE X (.Call (.Attribute o name apos) (e::es) [] cpos) (tBM X.K T r to t):=by
 intro pins s σ H Q I h;refine wpAny_Call_method_late hbase hfew hline O (thn (ho pins s σ H _ I h) λv s1 ⟨x,H1,I1,r1,ty,q1⟩=>?_);obtain⟨h1,h2⟩:=zUg I1 r1 ty;refine{T,id,pa,slot,hty,h1,h2, ?_};let hA:=ha cpos pins s1 σ H1 _ I1 q1;rw[hs] at hA⊢;refine aE (by show(false ||(S2 cpos (A2 es X.env)).any (·.1))=false;rw[hplain]<;>rfl) (Calls.evalArgs_plain ?_)
 exact thn hA λus s2 ⟨vs,H2,I2,r2,q2⟩=>hm pins s2 σ H2 x vs v us Q I2 r1 r2 q2
/- xs.append(e),list.index on a module's tuple .. are MtR facts of 06m -/
end
def MtM(X:Cx)(id:String)(r:V->List V->Hp->VK->Prop):Prop:=
 ∀(pins:List (V1×Obj))(s:V2)(σ:St)(H:Hp)(x:V)(xs:List V)(v:V0)(us:List V0)(Q:VK),Inv X pins σ H s->RelV x v->Vals xs us->r x xs H Q->
  V8 (S5 X.prog X.w) X.A (call (.builtin id) (v::us)) (EP X pins σ Q) X.xe s
theorem Vals.one{x:V}{us:List V0}(h:Vals [x] us):∃u,us= [u]/\RelV x u:=by
 cases h with
 | cons r h=>
  cases h;exact⟨_,O,r⟩
theorem Vals.two{x y:V}{us:List V0}(h:Vals [x,y] us):∃u v,us= [u,v]/\RelV x u/\RelV y v:=by
 cases h with
 | cons r h=>
  cases h with
  | cons q h=>
   cases h;exact⟨_,_,O,r,q⟩
theorem Vals.eraseIdx:∀{xs:List V}{us:List V0}(i:Nat),Vals xs us->Vals (xs.eraseIdx i) (us.eraseIdx i)
 | _,_,_, .nil=>.nil
 | _,_,0, .cons _ t=>t
 | _,_,i+1, .cons r t=>.cons r (Vals.eraseIdx i t)
theorem Vals.rep{xs:List V}{us:List V0}(h:Vals xs us):∀k:Nat,Vals (List.replicate k xs).flatten (List.replicate k us).flatten
 | 0=>.nil
 | k+1=>by
  rw[rB,rB,rV,rV];exact Vals.append h (Vals.rep h k)
theorem zGg{α:Type}:∀(l:List α)(i:Nat),(l.eraseIdx i)...*<=l...*
 | [],_=>mE _
 | _::_,0=>pR _
 | _::r,i+1=>rK (zGg r i)
theorem zFg(its:List V0):∀(k:Nat)(acc:List V0),
  List.foldl (λx1 x2=>x1++x2) acc.toArray (List.replicate k its.toArray)=(acc++(List.replicate k its).flatten).toArray
 | 0,acc=>by simp
 | k+1,acc=>by
  let e:acc.toArray++its.toArray=(acc++its).toArray:=by simp
  let e2:(acc++its)++(List.replicate k its).flatten=acc++(List.replicate (k+1) its).flatten:=by
   rw[rB,rV,aG]
  rw[<-e2,<-zFg its k (acc++its),<-e,rB,tE]
section
variable{X:Cx}{pins:List (V1×Obj)}{σ:St}{H:Hp}{s:V2}{l b:V1}{xs ys zs:List V}
theorem Inv.lset{its its':List V0}{n:Nat}{f:Array V0->Array V0}{t':Nat}(I:Inv X pins σ H s)(hH:H l=Y (.lst xs))
  (e:s.heap.get? l=some {cls:=.type "list",data:=.seq its.toArray n}) (hf:f its.toArray=its'.toArray) (hv:Vals ys its') (hz:ys...*<=V9):
  Inv X pins σ (upd H l (.lst ys)) {s with heap:=s.heap.update l (Obj.mapSeq f),toks:=t'}:=by
 let q:=PySem.IsL.update e f;rw[hf] at q;refine I.write (x:=l) (e:=l) (by rw[hH];exact trivial) (.inl O) (λb' u hb hu=>(mX s.heap (Obj.mapSeq f) (Ne.symm hb)).trans hu) ⟨_,q⟩ ?_;exact⟨hz,its',_,hv,q⟩
theorem Inv.lnew{its:List V0}{t':Nat}(I:Inv X pins σ H s)(hv:Vals ys its)(hz:ys...*<=V9):
  Inv X pins σ (upd H s⁻¹ (.lst ys)) {s with heap:=s.heap.push {cls:=.type "list",data:=.seq its.toArray},toks:=t'}:=
 I.laid (λ_ _ q=>mJ _ q) (mE _) {hz,its,0,hv,nM _ O}
theorem Inv.fresh(I:Inv X pins σ H s):H s⁻¹=none:=I.hok.fresh (mE _)
theorem Inv.lstM(I:Inv X pins σ H s)(hH:H l=Y (.lst xs)):xs...*<=V9/\∃(its:List V0)(n:Nat),Vals xs its/\xs...*=its...*/\s.heap.get? l=some {cls:=.type "list",data:=.seq its.toArray n}:=by
 obtain⟨z,its,n,r,e⟩:=I.hok l _ hH;exact{z,its,n,r,r...*,e}
theorem zIr{n:Nat}(h:n<=V9):Builtin.List.listTooLong n=false:=by
 unfold Builtin.List.listTooLong;exact nG ∅
end
section
variable{X:Cx}
def zHp:V->List V->Hp->VK->Prop:=λx vs H Q=>∃l xs y,x= .ref l/\vs= [y]/\H l=Y (.lst xs)/\xs...*<V9/\Q .non (upd H l (.lst (xs++ [y])))
theorem qC:MtM X "list.append" zHp:=by
 intro pins s σ H x vs v us Q I rx rv h;ext yD h l xs y r3_ r4_ z_;ext oAA z_ hH hz q;subst r3_ r4_;cases rx;obtain⟨u,rfl,ru⟩:=rv.one;obtain⟨z,its,n,r,hl,e⟩:=I.lstM hH;refine tY F.slot_list_append ⟨_,e,O⟩ F.entry_list_append (F.args_list_append_2 _ _) (PySem.list_append l its.toArray n u (by rw[mY];lia)) {e, ?_};refine{.non,_,I.lset (its':=its++ [u]) hH e (by simp) (r.append (.cons ru .nil)) ?_,O,q};rw[mM,nL]
 lia
def zYb:V->List V->Hp->VK->Prop:=λx vs H Q=>∃l b xs zs,x= .ref l/\vs= [.ref b]/\H l=Y (.lst xs)/\H b=Y (.lst zs)/\xs...*+zs...*<=V9/\Q .non (upd H l (.lst (xs++zs)))
theorem zOu:MtM X "list.extend" zYb:=by
 intro pins s σ H x vs v us Q I rx rv h;ext yV h l b xs zs r4_ z_;ext jM z_ r5_ hH hB hz q;subst r4_ r5_;cases rx;obtain⟨u,rfl,ru⟩:=rv.one;cases ru;obtain⟨z,its,n,r,hl,e⟩:=I.lstM hH;obtain⟨z2,its2,n2,r2,hl2,e2⟩:=I.lstM hB;let hsz:its.toArray.size+its2.toArray.size<=V9:=by rw[mY,mY];lia
 let hlong:¬(!its.toArray.isEmpty && Builtin.List.listTooLong (its.toArray.size+its2.toArray.size))=true:=by
  rw[zIr hsz,tL];exact nF
 refine tY F.slot_list_extend ⟨_,e,O⟩ F.entry_list_extend (F.args_list_extend_2 _ _)
  (AutoSeq1.list_extend_list_list_0 l its.toArray n b its2.toArray n2 hlong (by rw[mY];lia) ∅) {e,e2, ?_}
 refine{.non,_,I.lset (its':=its++its2) hH e (by simp) (r.append r2) ?_,O,q};rw[mM]
 lia
def yDi:V->List V->Hp->VK->Prop:=λx vs H Q=>∃l xs i k y,x= .ref l/\vs= [.int i]/\H l=Y (.lst xs)/\-(2 ^ 63)<=i/\i<2 ^ 63/\seqIndex? i xs...*=Y k/\xs[k]? =Y y/\Q y (upd H l (.lst (xs.eraseIdx k)))
theorem zTv:MtM X "list.pop" yDi:=by
 intro pins s σ H x vs v us Q I rx rv h;ext xO h l xs i k y z_;ext yO z_ r5_ r6_ hH h1 h2 z_;ext oAA z_ hk hy q;subst r5_ r6_;cases rx;obtain⟨u,rfl,ru⟩:=rv.one;obtain⟨t,rfl⟩:=ru;obtain⟨z,its,n,r,hl,e⟩:=I.lstM hH;obtain⟨w,hw,rw'⟩:=r.get hy;refine tY F.slot_list_pop ⟨_,e,O⟩ F.entry_list_pop (F.args_list_pop_2 _ _)
  (MeetsSeq.list_pop_at l its.toArray n i t k w (fitsIndex_both h1 h2) (by rw[mY,<-hl];exact hk) (by rw[<-tF];exact hw) (by rw[mY];lia)) {e, ?_}
 refine{y,_,I.lset (its':=its.eraseIdx k) hH e ?_ (r.eraseIdx k) ?_,rw',q}
 ·show its.toArray.eraseIdxIfInBounds k=(its.eraseIdx k).toArray
  rw[List.eraseIdxIfInBounds_toArray]
 ·let:=zGg xs k
  lia
def zYc:R2:=λx y H Q=>∃l b xs zs,x= .ref l/\y= .ref b/\H l=Y (.lst xs)/\H b=Y (.lst zs)/\xs...*+zs...*<=V9/\∀p,H p=none->Q (.ref p) (upd H p (.lst (xs++zs)))
theorem gX:OpR X (binaryOp .Add) zYc:=by
 intro pins s σ H x y v u Q I rx ry h;ext yV h l b xs zs r4_ z_;ext jM z_ r5_ hH hB hz q;subst r4_ r5_;cases rx;cases ry;obtain⟨z,its,n,r,hl,e⟩:=I.lstM hH;obtain⟨z2,its2,n2,r2,hl2,e2⟩:=I.lstM hB;refine PySem.P.add_list e e2 ?_ (by rw[mY,mY];lia);let ea:its.toArray++its2.toArray=(its++its2).toArray:=by simp
 rw[ea];exact{.ref _,_,I.lnew (t':=s.toks) (r.append r2) (by rw[mM];lia),O,q _ I.fresh}
def rRep:R2:=λx y H Q=>∃l k xs,x= .ref l/\y= .int k/\H l=Y (.lst xs)/\-(2 ^ 63)<=k/\k<2 ^ 63/\xs...**k.toNat<=V9/\
 ∀p,H p=none->Q (.ref p) (upd H p (.lst (List.replicate k.toNat xs).flatten))
theorem zXw{α:Type}(xs:List α)(k:Nat):(List.replicate k xs).flatten...*=k*xs...*:=by
 induction k with
 | zero=>simp
 | succ k ih=>rw[rB,rV,mM,ih,Nat.succ_mul,Nat.add_comm]
theorem zSo:OpR X (binaryOp .Mult) rRep:=by
 intro pins s σ H x y v u Q I rx ry h;obtain⟨l,k,xs,rfl,rfl,hH,h1,h2,hz,q⟩:=h;cases rx;obtain⟨t,rfl⟩:=ry;obtain⟨z,its,n,r,hl,e⟩:=I.lstM hH;let hlen:its.toArray.size*k.toNat<=V9:=by rw[mY,<-hl];exact hz
 let hcap:¬its.toArray.size*k.toNat>(2 ^ 63 - 1)/ 8:=by
  let:(V9:Nat)<=(2 ^ 63 - 1)/ 8:=by decide
  lia
 let hfit:¬(!Builtin.List.listFitsIndex k)=true:=by
  rw[fitsIndex_both h1 h2];exact nF
 let hlong:¬Builtin.List.listTooLong (its.toArray.size*k.toNat)=true:=by
  rw[zIr hlen];exact nF
 let hnew:List.foldl (λx1 x2=>x1++x2) #[] (List.replicate (if its.toArray.isEmpty=true then 0 else k.toNat) its.toArray)=(List.replicate k.toNat its).flatten.toArray:=by
  let f0:∀m:Nat,List.foldl (λx1 x2=>x1++x2) #[] (List.replicate m its.toArray)=(List.replicate m its).flatten.toArray:=λm=>by
   let:=zFg its m [];rw[tZ] at this;exact this
  rw[f0]
  cases its with
  | nil=>simp
  | cons a r'=>rw[mK (by simp)]
 refine wpAny_binaryOp_repeat_ref (T:="list") (U:="int") ∎ ⟨_,e,O⟩ (λs'=>typeIs_int s' k t) noFill_list_mul F.fills_int_mul F.slot_int_rmul repeat_list F.slot_int_index.lookup
  (tY F.slot_int_rmul (typeIs_int s k t) F.entry_int_rmul (F.args_int_rmul_2 _ _) (int___rmul___int_list k t l its.toArray n)
   {e,O,⟨_,e,O⟩,tY F.slot_list_mul ⟨_,e,O⟩ F.entry_list_mul (F.args_list_mul_2 _ _) (AutoListH.list___mul___list_int_3 l its.toArray n k t hfit hcap hlong) {e, ?_}})
 rw[hnew];exact{.ref _,_,I.lnew (t':=s.toks) (r.rep k.toNat) (by rw[zXw,Nat.mul_comm];exact hz),O,q _ I.fresh}
end
section
variable{prog:V3}{w:V4}{A:Around}{E:V0->V2->Prop}{s:V2}
set_option maxRecDepth 100000 in
end
section
variable{X:Cx}
end
section
variable{κ:Type} [DecidableEq κ]
def jD(kvs:List (κ×V))(k:κ):Option V:=(kvs.find? λkv=>decide (kv.1=k)).map (·.2)
def vM(kvs:List (κ×V))(k:κ)(v:V):List (κ×V):=
 if(kvs.any λkv=>decide (kv.1=k))=true then kvs.map (λkv=>if kv.1=k then(kv.1,v) else kv) else kvs++ [(k,v)]
def dropK(kvs:List (κ×V))(k:κ):List (κ×V):=kvs.filter λkv=>decide (kv.1≠k)
theorem zAn{p:κ×V}{r:List (κ×V)}{k:κ}(e:p.1=k):jD (p::r) k=Y p.2:=by simp[jD,aA,e]
theorem uJ{p:κ×V}{r:List (κ×V)}{k:κ}(e:¬p.1=k):jD (p::r) k=jD r k:=by simp[jD,aA,e]
theorem zAp(k:κ):∀kvs:List (κ×V),(kvs.any λkv=>decide (kv.1=k))=(jD kvs k).isSome
 | []=>rfl
 | p::r=>by
  rw[List.any_cons]
  by_cases e:p.1=k
  ·simp only[zAn e,nP e,Bool.true_or,Option.isSome_some]
  ·rw[uJ e,nG e,Bool.false_or];exact zAp k r
theorem gT(kvs:List (κ×V))(k:κ)(v:V):(vM kvs k v)...*<=kvs...*+1:=by
 unfold vM;split
 ·rw[mL];lia
 ·rw[mM,mW,pK];lia
theorem zUl{kvs:List (κ×V)}{k:κ}(v:V)(h:jD kvs k=none):vM kvs k v=kvs++ [(k,v)]:=by
 unfold vM;rw[zAp,h];exact mK ∎
theorem RelO.isSome_eq{o:Option V}{u:Option V0}(r:RelO o u):o.isSome=u.isSome:=by
 cases o with
 | none=>cases u with
  | none=>rfl
  | some _=>exact(show False from r).elim
 | some _=>cases u with
  | none=>exact(show False from r).elim
  | some _=>rfl
theorem KV.val{kvs:List (κ×V)}{vs:List (κ×V0)}(r:KV kvs vs)(k:κ):RelO (jD kvs k) (valueAt vs k):=by
 unfold KV at r
 induction r with
 | nil=>exact mI
 | @cons p q ps qs h t ih=>
  obtain⟨h1,h2⟩:=h
  by_cases e:p.1=k
  ·let e':q.1=k:=h1.symm.trans e
   let b:valueAt (q::qs) k=Y q.2:=by simp[valueAt,aA,e']
   rw[zAn e,b];exact h2
  ·let e':¬q.1=k:=λz=>e (h1.trans z)
   let b:valueAt (q::qs) k=valueAt qs k:=by simp[valueAt,aA,e']
   rw[uJ e,b];exact ih
theorem KV.any{kvs:List (κ×V)}{vs:List (κ×V0)}(r:KV kvs vs)(k:κ):(kvs.any λkv=>decide (kv.1=k))=vs.any λkv=>decide (kv.1=k):=by
 unfold KV at r
 induction r with
 | nil=>rfl
 | cons h t ih=>rw[List.any_cons,List.any_cons,ih,h.1]
theorem KV.repl{kvs:List (κ×V)}{vs:List (κ×V0)}(r:KV kvs vs)(k:κ){y:V}{u:V0}(ry:RelV y u):
  KV (kvs.map λkv=>if kv.1=k then(kv.1,y) else kv) (vs.map λkv=>if kv.1=k then(kv.1,u) else kv):=by
 unfold KV at r⊢
 induction r with
 | nil=>exact .nil
 | @cons p q ps qs h t ih=>
  rw[mZ,mZ];refine .cons ?_ ih;obtain⟨h1,h2⟩:=h
  by_cases e:p.1=k
  ·rw[mQ e,mQ (h1.symm.trans e)];exact⟨h1,ry⟩
  ·rw[mK e,mK (λz=>e (h1.trans z))];exact⟨h1,h2⟩
theorem KV.put{kvs:List (κ×V)}{vs:List (κ×V0)}(r:KV kvs vs)(k:κ){y:V}{u:V0}(ry:RelV y u):KV (vM kvs k y) (stored vs k u):=by
 unfold vM stored;rw[r.any k]
 by_cases e:(vs.any λkv=>decide (kv.1=k))=true
 ·rw[mQ e,mQ e];exact r.repl k ry
 ·rw[mK e,mK e];exact Paired.snoc r ⟨O,ry⟩
theorem KV.drop{kvs:List (κ×V)}{vs:List (κ×V0)}(r:KV kvs vs)(k:κ):KV (dropK kvs k) (without vs k):=by
 unfold KV at r⊢;unfold dropK without
 induction r with
 | nil=>exact .nil
 | @cons p q ps qs h t ih=>
  obtain⟨h1,h2⟩:=h;rw[cY,cY]
  by_cases e:p.1=k
  ·let a:¬decide (p.1≠k)=true:=by simp[e]
   let b:¬decide (q.1≠k)=true:=by simp[h1.symm.trans e]
   rw[mK a,mK b];exact ih
  ·let e':¬q.1=k:=λz=>e (h1.trans z)
   let a:decide (p.1≠k)=true:=by simp[e]
   let b:decide (q.1≠k)=true:=by simp[e']
   rw[mQ a,mQ b];exact .cons ⟨h1,h2⟩ ih
theorem KV.keys{kvs:List (κ×V)}{vs:List (κ×V0)}(r:KV kvs vs):kvs.map (·.1)=vs.map (·.1):=by
 unfold KV at r
 induction r with
 | nil=>rfl
 | cons h t ih=>rw[mZ,mZ,ih,h.1]
theorem KV.length{kvs:List (κ×V)}{vs:List (κ×V0)}(r:KV kvs vs):kvs...*=vs...*:=Paired.length r
theorem zTc(kvs:List (κ×V))(k:κ):(dropK kvs k)...*<=kvs...*:=List.length_filter_le _ _
end
theorem zDa{P:V3}{w:V4}{k:Key}{u:V0}(r:RelV (kV k) u):(yS P w).is k u=true:=by
 cases k with
 | inl i=>obtain⟨t,e⟩:=(show∃t,u=Value.int i t from r);subst e;exact zKi P w i t
 | inr x=>obtain⟨t,e⟩:=(show∃t,u=Value.str x t from r);subst e;exact zJt P w x t
theorem zGn{P:V3}{w:V4}:∀{ks:List Key}{us:List V0},Vals (ks.map kV) us->ItemsAre (yS P w) ks us
 | [],_,r=>by rw[sK] at r;cases r;exact .nil
 | k::ks,_,r=>by
  rw[mZ] at r
  cases r with
  | cons h t=>exact .cons (zDa h) (zGn t)
abbrev KT(H:Hp):List (List Key×V)->List (List Key×V1×V0)->Prop:=Paired λp q=>p.1=q.1/\H q.2.1=Y (.tup (p.1.map kV))/\RelV p.2 q.2.2
theorem KT.val{H:Hp}{kvs:List (List Key×V)}{xs:List (List Key×V1×V0)}(r:KT H kvs xs)(k:List Key):RelO (jD kvs k) ((atKey xs k).map (·.2)):=by
 induction r with
 | nil=>exact mI
 | @cons p q ps qs h t ih=>
  obtain⟨h1,_,h2⟩:=h
  by_cases e:p.1=k
  ·let e':q.1=k:=h1.symm.trans e
   let b:atKey (q::qs) k=Y q.2:=by simp[atKey,aA,e']
   rw[zAn e,b];exact h2
  ·let e':¬q.1=k:=λz=>e (h1.trans z)
   let b:atKey (q::qs) k=atKey qs k:=by simp[atKey,aA,e']
   rw[uJ e,b];exact ih
theorem KT.repl{H:Hp}{kvs:List (List Key×V)}{xs:List (List Key×V1×V0)}(r:KT H kvs xs)(k:List Key){y:V}{u:V0}(ry:RelV y u):
  KT H (kvs.map λkv=>if kv.1=k then(kv.1,y) else kv) (xs.map (putAt k u)):=by
 induction r with
 | nil=>exact .nil
 | @cons p q ps qs h t ih=>
  rw[mZ,mZ];refine .cons ?_ ih;obtain⟨h1,h2,h3⟩:=h;unfold putAt
  by_cases e:p.1=k
  ·rw[mQ e,mQ (h1.symm.trans e)];exact⟨h1,h2,ry⟩
  ·rw[mK e,mK (λz=>e (h1.trans z))];exact⟨h1,h2,h3⟩
theorem KT.put{H:Hp}{kvs:List (List Key×V)}{xs:List (List Key×V1×V0)}(r:KT H kvs xs)(k:List Key){b:V1}{y:V}{u:V0}(hb:H b=Y (.tup (k.map kV)))(ry:RelV y u):
  KT H (vM kvs k y) (storedH xs k b u):=by
 let e:(kvs.any λkv=>decide (kv.1=k))=(atKey xs k).isSome:=by
  rw[zAp,(r.val k).isSome_eq,Option.isSome_map]
 unfold vM storedH;rw[e]
 by_cases q:(atKey xs k).isSome=true
 ·rw[mQ q,mQ q];exact r.repl k ry
 ·rw[mK q,mK q];exact Paired.snoc r ⟨O,hb,ry⟩
theorem KT.keeps{H H':Hp}{kvs:List (List Key×V)}{xs:List (List Key×V1×V0)}(r:KT H kvs xs)(ht:∀b ys,H b=Y (.tup ys)->H' b=Y (.tup ys)):KT H' kvs xs:=
 j8 r λ_ _ z=>{z.1,ht _ _ z.2.1,z.2.2}
section
variable{P:V3}{w:V4}{H:Hp}{h:V5}{a:V1}
theorem zYu{u:HO}(ok:HOk P w H h)(e:Rd H a u):ObjOk P w H h a u:=e.ok ok
theorem kF{kvs:List (Key×V)}(ok:HOk P w H h)(e:Rd H a (.dK kvs)):kvs...*<=V9/\(a==A4)=false/\∃vs,KV kvs vs/\h.DictOf (yS P w) a vs:=
 show ObjOk P w H h a (.dK kvs) from zYu ok e
theorem zMk{kvs:List (Key×V)}(ok:HOk P w H h)(e:H a=Y (.dK kvs)):kvs...*<=V9/\(a==A4)=false/\∃vs,KV kvs vs/\h.DictOf (yS P w) a vs:=kF ok (.inl e)
theorem zHo{ks:List Key}(ok:HOk P w H h)(e:H a=Y (.tup (ks.map kV))):(tupleKind (yS P w)).is h ks a:=by
 obtain⟨_,its,r,o,h1,h2,n,h3⟩:=(show ObjOk P w H h a (.tup (ks.map kV)) from ok a _ e);exact{o,its.toArray,n,h1,h2,h3,by simpa using zGn r}
theorem zJs{kvs:List (List Key×V)}(ok:HOk P w H h)(e:Rd H a (.dT kvs)):kvs...*<=V9/\(a==A4)=false/\
  ∃xs,KT H kvs xs/\h.DictOfH (tupleKind (yS P w)) a xs:=by
 obtain⟨z,y,xs,r,o,es,ep,h1,h2,h3,h4,h5⟩:=(show ObjOk P w H h a (.dT kvs) from zYu ok e);refine{z,y,xs,r,o,es,ep,h1,h2,h3,h4,λx hx=>?_,h5};let all:∀{l:List (List Key×V)}{m:List (List Key×V1×V0)},KT H l m->∀x∈m,(tupleKind (yS P w)).is h x.1 x.2.1:=by
  intro l m q
  induction q with
  | nil=>intro x hx;exact nomatch hx
  | @cons p q ps qs hq t ih=>
   intro x hx;rcases mD.mp hx with e | hx
   ·subst e
    exact zHo ok (by rw[<-hq.1];exact hq.2.1)
   ·exact ih x hx
 exact all r x hx
theorem dt_of{kvs:List (List Key×V)}(ok:HOk P w H h)(e:H a=Y (.dT kvs)):kvs...*<=V9/\(a==A4)=false/\
  ∃xs,KT H kvs xs/\h.DictOfH (tupleKind (yS P w)) a xs:=zJs ok (.inl e)
end
def zLy(H:Hp)(a:V1)(y:V)(r:Option V):Prop:=
 (∃kvs k,Rd H a (.dK kvs)/\y=kV k/\r=jD kvs k)\/∃kvs k b,Rd H a (.dT kvs)/\y= .ref b/\H b=Y (.tup (k.map kV))/\r=jD kvs k
def DPut(H:Hp)(a:V1)(y v:V)(H':Hp):Prop:=
 (∃kvs k,H a=Y (.dK kvs)/\y=kV k/\kvs...*<V9/\H'=upd H a (.dK (vM kvs k v)))\/
 ∃kvs k b,H a=Y (.dT kvs)/\y= .ref b/\H b=Y (.tup (k.map kV))/\kvs...*<V9/\H'=upd H a (.dT (vM kvs k v))
theorem DPut.k{H:Hp}{a:V1}{kvs:List (Key×V)}{k:Key}{v:V}(e:H a=Y (.dK kvs))(hl:kvs...*<V9):DPut H a (kV k) v (upd H a (.dK (vM kvs k v))):=.inl ⟨kvs,k,e,O,hl,O⟩
section
variable{X:Cx}{pins:List (V1×Obj)}{σ:St}{H:Hp}{s:V2}{a:V1}{y v:V}{u r:V0}{o:Option V}{A:Around}{E:V0->V2->Prop}
theorem Inv.big(I:Inv X pins σ H s):A4<s⁻¹:=by
 let h:A0<s⁻¹:=(I.mod.glob.keeps I.bk).lt;exact cA ∎ h
theorem zQo{Q:V0->V2->Prop}(hu:A.units+1<cLine)(I:Inv X pins σ H s)(g:zLy H a y ↥v)(ry:RelV y u)(h:∀w' s',Inv X pins σ H s'->RelV v w'->Q w' s'):
  V8 (S5 X.prog X.w) A (getItem (.ref a) u) Q E s:=by
 rcases g with⟨kvs,k,e,ey,l⟩|⟨kvs,k,b,e,ey,eb,l⟩
 ·subst ey
  obtain⟨z,hd,vs,rel,dd⟩:=kF I.hok e;obtain⟨w',hw,rw'⟩:=j6 (v:=v) (o:=valueAt vs k) (by rw[l];exact rel.val k);exact wpAny_getItem_of (zDa ry) dd.mapOf hw (h w' _ (I.tok _) rw')
 ·subst ey
  cases (show u=Value.ref b from ry);obtain⟨z,hd,xs,rel,dd⟩:=zJs I.hok e;obtain⟨w',hw,rw'⟩:=j6 (v:=v) (o:=(atKey xs k).map (·.2)) (by rw[l];exact rel.val k);obtain⟨p,hp,hp2⟩:=rZ.mp hw;refine wpAny_getItem_heap (cO hu) (zHo I.hok eb) dd hp ?_;rw[hp2];exact h w' _ (I.tok _) rw'
theorem d_in{Q:V0->V2->Prop}(hu:A.units+1<cLine)(I:Inv X pins σ H s)(g:zLy H a y o)(ry:RelV y u)(h:∀s',Inv X pins σ H s'->Q (.bool o.isSome) s'):
  V8 (S5 X.prog X.w) A (A3 .In u (.ref a)) Q E s:=by
 rcases g with⟨kvs,k,e,ey,l⟩|⟨kvs,k,b,e,ey,eb,l⟩
 ·subst ey
  obtain⟨z,hd,vs,rel,dd⟩:=kF I.hok e;refine wpAny_in_of (zDa ry) hd dd.mapOf ?_;rw[<-(rel.val k).isSome_eq,<-l];exact h _ (I.tok _)
 ·subst ey
  cases (show u=Value.ref b from ry);obtain⟨z,hd,xs,rel,dd⟩:=zJs I.hok e;refine wpAny_in_heap (cO hu) (zHo I.hok eb) hd dd ?_;let q:=(rel.val k).isSome_eq;rw[Option.isSome_map] at q;rw[<-q,<-l];exact h _ (I.tok _)
theorem zCp{h':V5}{t':Nat}{ob:HO}(I:Inv X pins σ H s)(mu:Mut (H a))(hs:Heap.SameBut a s.heap h')(he:∃q,h'.get? a=Y q)(new:ObjOk X.prog X.w (upd H a ob) h' a ob):
  Inv X pins σ (upd H a ob) {s with heap:=h',toks:=t'}:=
 I.write (x:=a) (e:=a) mu (.inl O) (λb q hb z=>(hs.2 b hb).trans z) he new
theorem zGv{P:V3}{w:V4}{H':Hp}{h':V5}{kvs:List (Key×V)}{vs:List (Key×V0)}(z:kvs...*<=V9)(hd:(a==A4)=false)(rel:KV kvs vs)(dd:h'.DictOf (yS P w) a vs):
  ObjOk P w H' h' a (.dK kvs):=⟨z,hd,vs,rel,dd⟩
theorem zPb{H':Hp}{Q:Unit->V2->Prop}(hu:A.units+1<cLine)(I:Inv X pins σ H s)(g:DPut H a y v H')(ry:RelV y u)(rv:RelV v r)(h:∀s',Inv X pins σ H' s'->Q () s'):
  V8 (S5 X.prog X.w) A (setItem (.ref a) u r) Q E s:=by
 rcases g with⟨kvs,k,e,ey,l,eH⟩|⟨kvs,k,b,e,ey,eb,l,eH⟩
 ·subst ey eH
  obtain⟨z,hd,vs,rel,dd⟩:=zMk I.hok e;let hz:vs...*<=V9:=by rw[<-rel...*];exact z
  let hl:(vM kvs k v)...*<=V9:=by let:=gT kvs k v;lia
  refine wpAny_setItem_pairs (hsz:=hz) (zDa ry) dd λh' dd' hs=>h _ ?_;let he:∃q,h'.get? a=Y q:=let ⟨q,_,_,hq,_⟩:=dd';⟨q,hq⟩;exact zCp I (by rw[e];exact mI) hs he (zGv hl hd (rel.put k rv) dd')
 ·subst ey eH
  cases (show u=Value.ref b from ry);obtain⟨z,hd,xs,rel,dd⟩:=dt_of I.hok e;let hz:xs...*<=V9:=by rw[<-Paired.length rel];exact z
  let hl:(vM kvs k v)...*<=V9:=by let:=gT kvs k v;lia
  refine wpAny_setItem_heap (hsz:=hz) (cO hu) (zHo I.hok eb) dd λh' dd' hs=>h _ ?_;ext yD dd' q es ep hq h2 z_;ext wC z_ h3 h4 _ h5;refine zCp I (by rw[e];exact mI) hs ⟨q,hq⟩ {hl,hd,_,(rel.put k eb rv).keeps λc ys ec=>?_,q,es,ep,hq,h2,h3,h4,h5};rw[zM (ne_of ec e (λz=>nomatch z))];exact ec
end
section
variable{X:Cx}{pins:List (V1×Obj)}{σ:St}{H:Hp}{s:V2}{a:V1}{kvs:List (Key×V)}{k:Key}{u:V0}{A:Around}{E:V0->V2->Prop}
theorem d_pop{v:V}{more:List V0}{Q:V0->V2->Prop}(I:Inv X pins σ H s)(e:H a=Y (.dK kvs))(ry:RelV (kV k) u)(l:jD kvs k=Y v)(hm:more= []\/∃x,more= [x])
  (h:∀w' s',Inv X pins σ (upd H a (.dK (dropK kvs k))) s'->RelV v w'->Q w' s'):V8 (S5 X.prog X.w) A (call (.builtin "dict.pop") (.ref a::u::more)) Q E s:=by
 obtain⟨z,hd,vs,rel,dd⟩:=zMk I.hok e;obtain⟨w',hw,rw'⟩:=j6 (v:=v) (o:=valueAt vs k) (by rw[<-l];exact rel.val k);let hp:(keyPart u).isSome=true:=by
  cases k with
  | inl i=>obtain⟨t,q⟩:=(show∃t,u=Value.int i t from ry);subst q;rfl
  | inr x=>obtain⟨t,q⟩:=(show∃t,u=Value.str x t from ry);subst q;rfl
 let ha:argsOk "dict.pop" {.ref a::u::more,[]}:=by
  rcases hm with q |⟨x,q⟩
  ·subst q;exact PySem.F.args_dict_pop_2 _ _
  ·subst q;exact PySem.F.args_dict_pop_3 _ _ _
 refine call_meetsIn PySem.F.slot_dict_pop dd.typeIs PySem.F.entry_dict_pop ha (meets_dict_pop_there (yS X.prog X.w) a (zDa ry) more hm hp)
  {vs,w',dd,by rw[<-rel...*];exact z,hw,λh' dd' hs=>h w' _ ?_ rw'}
 let he:∃q,h'.get? a=Y q:=let ⟨q,_,_,hq,_⟩:=dd';⟨q,hq⟩;exact zCp I (by rw[e];exact mI) hs he (zGv (pC (zTc kvs k) z) hd (rel.drop k) dd')
theorem zYt{Q:V0->V2->Prop}(I:Inv X pins σ H s)(e:Rd H a (.dK kvs))(h:∀t s',Inv X pins σ H s'->Q (.int kvs...* t) s'):V8 (S5 X.prog X.w) A (call (.builtin "len") [.ref a]) Q E s:=by
 obtain⟨z,hd,vs,rel,dd⟩:=kF I.hok e;refine call_len_dict hd dd (by rw[<-rel...*];rw[mS] at z;lia) ?_;rw[<-rel...*];exact h _ _ (I.tok _)
end
def NoSl(i:Expr):Prop:=∀ov iv,subscripted i false ov iv=operate [ov,iv] (getItem ov iv)
theorem zWv{prog:V3}{w:V4}{A:Around}{E:V0->V2->Prop}{s:V2}{env:S7}{value slice:Expr}{pos:Pos}{T id:String}{Q:V0->V2->Prop}
  (hl:typeLookup (.type T) "__getitem__" =pure ↥(.builtin id)) (hs:NoSl slice)
  (h:V8 (S5 prog w) A (eval value env) (λo s₁=>V8 (S5 prog w) A (eval slice env) (λi s₂=>s₂.TypeIs o T/\V8 (S5 prog w) A (getItem o i) Q E s₂) E s₁) E s):
  V8 (S5 prog w) A (eval (.Subscript value slice pos) env) Q E s:=by
 refine Subscript_ (pO h (λo s₁ h₁=>pO h₁ (λi s₂ h₂=>?_) λ_ _ x=>x) λ_ _ x=>x);obtain⟨hT,h₂⟩:=h₂;unfold subscriptTail;refine mC ?_;rw[getitemInPython_of_ne hT.not_modules];refine mC (wpAny_specialOf hT hl ?_);let fin:V8 (S5 prog w) A (subscripted slice false o i) (λr s₃=>V8 (S5 prog w) A (letTemporaryGo value o r>>=λ_=>pure r) Q E s₃) E s₂:=by
  rw[hs o i];exact wpAny_operating (pO h₂ (λr s₃ h₃=>mC (wpAny_letTemporaryGo (mN h₃))) λ_ _ x=>x)
 first
  | exact mN (mC fin)
  | exact mC (mN (mC fin))
  | exact mC fin
theorem zJl{X:Cx}{pins:List (V1×Obj)}{σ:St}{H:Hp}{s:V2}{a:V1}{y:V}{o:Option V}(I:Inv X pins σ H s)(g:zLy H a y o):s.TypeIs (.ref a) "dict":=by
 rcases g with⟨kvs,k,e,_,_⟩|⟨kvs,k,b,e,_,_,_⟩
 ·obtain⟨_,_,vs,_,dd⟩:=kF I.hok e
  exact dd.typeIs
 ·obtain⟨_,_,xs,_,dd⟩:=zJs I.hok e
  exact dd.typeIs
def zFo(td ty:TE):TE:=λσ H Q=>td σ H λx H1=>ty σ H1 λy H2=>∃a v,x= .ref a/\zLy H2 a y ↥v/\Q v H2
def zYj(ty td:TE):TE:=λσ H Q=>ty σ H λy H1=>td σ H1 λx H2=>∃a o,x= .ref a/\zLy H2 a y o/\Q (.bl o.isSome) H2
def zOq(td ty tv:TE):TS:=λD σ H=>tv σ H λv H1=>td σ H1 λx H2=>ty σ H2 λy H3=>∃a H4,x= .ref a/\DPut H3 a y v H4/\D.nx σ H4
section
variable{X:Cx}{o i e value:Expr}{pos pos' tpos:Pos}{td ty tv:TE}
theorem jU(hu:X.A.units+1<cLine)(ho:PE X o td)(hi:PE X i ty)(hs:NoSl i):PE X (.Subscript o i pos) (zFo td ty):=by
 intro pins s σ H Q I h;refine zWv PySem.F.slot_dict_getitem.lookup hs (thn (ho pins s σ H _ I h) λu s1 ⟨x,H1,I1,rx,q1⟩=>thn (hi pins s1 σ H1 _ I1 q1) λiv s2 ⟨y,H2,I2,ry,a,v,ex,g,q2⟩=>?_);subst ex;obtain rfl:u=Value.ref a:=rx;exact{zJl I2 g,zQo hu I2 g ry λw' s3 I3 rw'=>⟨v,H2,I3,rw',q2⟩}
theorem zDc(hu:X.A.units+1<cLine)(hi:PE X i ty)(ho:PE X o td):PC X .In i o (zYj ty td):=by
 intro pins s σ H Q I h;refine thn (hi pins s σ H _ I h) λiv s1 ⟨y,H1,I1,ry,q1⟩=>thn (ho pins s1 σ H1 _ I1 q1) λu s2 ⟨x,H2,I2,rx,a,ov,ex,g,q2⟩=>?_;subst ex;obtain rfl:u=Value.ref a:=rx;exact d_in hu I2 g ry λs3 I3=>{.bl ov.isSome,H2,I3,O,q2}
theorem zBd(hu:X.A.units+1<cLine)(ho:PE X o td)(hi:PE X i ty)(hv:PE X value tv)(hs:S1 value ↥(.Subscript o i pos') pos.line X.env=pure false):
  PS X (.Assign [.Subscript o i pos'] value pos) (zOq td ty tv):=by
 intro pins s σ H D I h;refine wpAny_Assign_Subscript (thn (hv pins s σ H _ I h) λr s1 ⟨v,H1,I1,rv,q1⟩=>thn (ho pins s1 σ H1 _ I1 q1) λu s2 ⟨x,H2,I2,rx,q2⟩=>thn (hi pins s2 σ H2 _ I2 q2) λiv s3 ⟨y,H3,I3,ry,a,H4,ex,g,q3⟩=>?_) hs;subst ex;obtain rfl:u=Value.ref a:=rx;exact zPb hu I3 g ry rv λs4 I4=>⟨σ,H4,I4,q3⟩
end
theorem zJb{P:V3}{w:V4}{H:Hp}(h:V5)(hb:A4<h.objs.size):ObjOk P w H (h.push {cls:=.type "dict",data:=.dict #[]}) h.objs.size (.dK []):=
 {nS _,rE.mpr (Ne.symm (nQ hb)),[], .nil,Heap.DictOf.new h}
def zLr:TE:=λ_ H Q=>∀p,H p=none->Q (.ref p) (upd H p (.dK []))
section
variable{X:Cx}{pos:Pos}
theorem zEl:PE X (.Dict [] [] pos) zLr:=λpins s σ H Q I h=>
 wpAny_Dict_empty {.ref s⁻¹,_,I.laid (a:=s⁻¹) (o:=.dK []) (t':=s.toks) (λ_ _ q=>mJ _ q) (mE _) (zJb s.heap I.big),O,h _ (I.hok.fresh (mE _))}
end
def zDd:List (TE×TE)->St->Hp->(List (V×V)->Hp->Prop)->Prop
 | [],_,H,Q=>Q [] H
 |(tk,tv)::r,σ,H,Q=>tk σ H λx H1=>tv σ H1 λy H2=>zDd r σ H2 λps H3=>Q ((x,y)::ps) H3
abbrev VV:List (V×V)->List (V0×V0)->Prop:=Paired λp q=>RelV p.1 q.1/\RelV p.2 q.2
def PPs(X:Cx)(pos:Pos)(keys:List (Option Expr))(values:List Expr)(trs:List (TE×TE)):Prop:=
 ∀(pins:List (V1×Obj))(s:V2)(σ:St)(H:Hp)(Q:List (V×V)->Hp->Prop),Inv X pins σ H s->zDd trs σ H Q->
  V8 (S5 X.prog X.w) X.A (evalPairs (pairTrees keys values X.env pos)) (λvs s'=>∃ps H',Inv X pins σ H' s'/\VV ps vs/\Q ps H') X.xe s
theorem zNs{X:Cx}{pos:Pos}:PPs X pos [] [] []:=λpins s σ H Q I h=>pairTrees_nil_walk {[],H,I, .nil,h}
theorem gO{X:Cx}{pos:Pos}{k v:Expr}{ks:List (Option Expr)}{vs:List Expr}{tk tv:TE}{trs:List (TE×TE)}(hk:PE X k tk)(hv:PE X v tv)(hr:PPs X pos ks vs trs):
  PPs X pos (Y k::ks) (v::vs) ((tk,tv)::trs):=λpins s σ H Q I h=>
 pairTrees_cons_walk (thn (hk pins s σ H _ I h) λu s1 ⟨x,H1,I1,rx,q1⟩=>thn (hv pins s1 σ H1 _ I1 q1) λw2 s2 ⟨y,H2,I2,ry,q2⟩=>
  thn (hr pins s2 σ H2 _ I2 q2) λws s3 ⟨ps,H3,I3,rel,q3⟩=>{(x,y)::ps,H3,I3, .cons ⟨rx,ry⟩ rel,q3})
def vQ(kvs more:List (Key×V)):List (Key×V):=more.foldl (λacc kv=>vM acc kv.1 kv.2) kvs
theorem KV.merge:∀{more:List (Key×V)}{rs:List (Key×V0)}{kvs:List (Key×V)}{vs:List (Key×V0)},KV more rs->KV kvs vs->KV (vQ kvs more) (merged vs rs):=by
 intro more rs kvs vs r;unfold KV at r
 induction r generalizing kvs vs with
 | nil=>intro q;exact q
 | @cons p q ps qs h t ih=>
  intro r0;let e:KV (vM kvs p.1 p.2) (stored vs q.1 q.2):=by
   let:=r0.put p.1 h.2;rw[<-h.1];exact this
  exact ih e
theorem jX:∀(more kvs:List (Key×V)),(vQ kvs more)...*<=kvs...*+more...*
 | [],kvs=>by show kvs...*<=kvs...*+0;lia
 | p::r,kvs=>by
  let h1:=jX r (vM kvs p.1 p.2);let h2:=gT kvs p.1 p.2;show(vQ (vM kvs p.1 p.2) r)...*<=_;rw[mW];lia
theorem zDe{P:V3}{w:V4}:∀{kvs:List (Key×V)}{ws:List (V0×V0)},VV (kvs.map λkv=>(kV kv.1,kv.2)) ws->∃rs,Carries (yS P w) ws rs/\KV kvs rs
 | [],_,r=>by rw[sK] at r;cases r;exact{[],mI, .nil}
 | p::kvs,_,r=>by
  rw[mZ] at r
  cases r with
  | @cons a b as bs h t=>
   obtain⟨rs,c,q⟩:=zDe (P:=P) (w:=w) t;obtain⟨b1,b2⟩:=b;exact{(p.1,b2)::rs,{zDa h.1,O,c}, .cons ⟨O,h.2⟩ q}
def zTy(trs:List (TE×TE)):TE:=λσ H Q=>∀p,H p=none->zDd trs σ (upd H p (.dK [])) λps H2=>H2 p=Y (.dK [])/\∃kvs:List (Key×V),ps=kvs.map (λkv=>(kV kv.1,kv.2))/\kvs...*<=15/\Q (.ref p) (upd H2 p (.dK (vQ [] kvs)))
theorem zNm{X:Cx}{pos:Pos}{keys:List (Option Expr)}{values:List Expr}{trs:List (TE×TE)}(h:PPs X pos keys values trs)(hall:keys.all (·.isSome)=true)(hl:keys...*=values...*)(h0:keys≠ [])
  (h15:keys...*<=15):PE X (.Dict keys values pos) (zTy trs):=by
 intro pins s σ H Q I q;let hn:=I.hok.fresh (mE s⁻¹);let I1:=I.laid (a:=s⁻¹) (o:=.dK []) (h':=s.heap.push {cls:=.type "dict",data:=.dict #[]}) (t':=s.toks) (λ_ _ q=>mJ _ q) (mE _) (zJb s.heap I.big);refine wpAny_Dict_walk (knd:=yS X.prog X.w) hall hl h0 h15 (thn (h pins _ σ _ _ I1 (q _ hn)) λws s2 ⟨ps,H2,I2,rel,e,kvs,ep,lk,q2⟩=>?_);subst ep;obtain⟨rs,c,rk⟩:=zDe (P:=X.prog) (w:=X.w) rel;obtain⟨z,hd,vs0,r0,dd⟩:=zMk I2.hok e;cases r0;refine{rs,c,dd,λh' dd' hs=>{.ref s⁻¹,_, ?_,O,q2}};let hz:(vQ [] kvs)...*<=V9:=by
  let h1:=jX kvs [];rw[pK] at h1;rw[mS];lia
 let he:∃q,h'.get? s⁻¹=Y q:=let ⟨q,_,_,hq,_⟩:=dd';⟨q,hq⟩;exact zCp I2 (by rw[e];exact mI) hs he (zGv hz hd (rk.merge .nil) dd')
structure M1(X:Cx)(o:Expr)(m:Str)(apos:Pos)(e:Expr)(cpos:Pos):Prop where
 base:attributeBase o m X.env (eval o X.env)=eval o X.env
 few:((S2 cpos (A2 [e] X.env)).all (λx=>!x.1)&& (backToKw cpos (keywordEach [] X.env)).all (λx=>x.1.isSome)
  && decide (([e]:List Expr)...*+([]:List Keyword)...*+(if([]:List Keyword).isEmpty then 0 else 1)<30))=true
 line:(apos.endLine==cpos.line)=true
 trees:S2 cpos (A2 [e] X.env)= [(false,eval e X.env)]
structure M2(X:Cx)(o:Expr)(m:Str)(apos:Pos)(e f:Expr)(cpos:Pos):Prop where
 base:attributeBase o m X.env (eval o X.env)=eval o X.env
 few:((S2 cpos (A2 [e,f] X.env)).all (λx=>!x.1)&& (backToKw cpos (keywordEach [] X.env)).all (λx=>x.1.isSome)
  && decide (([e,f]:List Expr)...*+([]:List Keyword)...*+(if([]:List Keyword).isEmpty then 0 else 1)<30))=true
 line:(apos.endLine==cpos.line)=true
 trees:S2 cpos (A2 [e,f] X.env)= [(false,eval e X.env),(false,eval f X.env)]
def IsD(H:Hp)(a:V1):Prop:=(∃kvs,Rd H a (.dK kvs))\/∃kvs,Rd H a (.dT kvs)
theorem yAl{X:Cx}{pins:List (V1×Obj)}{σ:St}{H:Hp}{s:V2}{a:V1}(I:Inv X pins σ H s)(d:IsD H a):
  s.TypeIs (.ref a) "dict"/\(∀b,Value.ref a= .ref b->∃ob,s.heap.get? b=Y ob/\ob.dict=none)/\(a==A4)=false:=by
 rcases d with⟨kvs,e⟩|⟨kvs,e⟩
 ·obtain⟨_,hd,vs,_,dd⟩:=kF I.hok e
  refine{dd.typeIs,λb q=>?_,hd};cases q;ext yD dd ob _ _ h1 h2 _;exact⟨ob,h1,h2.2.1⟩
 ·obtain⟨_,hd,xs,_,dd⟩:=zJs I.hok e
  refine{dd.typeIs,λb q=>?_,hd};cases q;ext yD dd ob _ _ h1 h2 _;exact⟨ob,h1,h2.2.1⟩
section
variable{X:Cx}{pins:List (V1×Obj)}{σ:St}{H:Hp}{s:V2}{a:V1}{y d:V}{u r:V0}{o:Option V}{A:Around}{E:V0->V2->Prop}
end
def zVk(td ty:TE):TE:=λσ H Q=>td σ H λx H1=>∃a,x= .ref a/\IsD H1 a/\ty σ H1 λy H2=>∃kvs k v,H2 a=Y (.dK kvs)/\y=kV k/\jD kvs k=Y v/\Q v (upd H2 a (.dK (dropK kvs k)))
section
variable{X:Cx}{o e f:Expr}{apos cpos:Pos}{td ty tx:TE}
theorem zKa(ho:PE X o td)(he:PE X e ty)(m:M1 X o "pop" apos e cpos):PE X (.Call (.Attribute o "pop" apos) [e] [] cpos) (zVk td ty):=by
 intro pins s σ H Q I h;refine wpAny_Call_method m.base m.few m.line bH PySem.F.slot_dict_pop PySem.F.type_dict_pop (thn (ho pins s σ H _ I h) λu s1 ⟨x,H1,I1,rx,a,ex,d,q1⟩=>?_);subst ex;obtain rfl:u=Value.ref a:=rx;obtain⟨t1,t2,_⟩:=yAl I1 d;refine{t1,t2, ?_};rw[m.trees];refine aE O (Calls.evalArgs_plain (Calls.spliced_cons (thn (he pins s1 σ H1 _ I1 q1) λiv s2 ⟨y,H2,I2,ry,kvs,k,v,ea,ey,l,q2⟩=>Calls.spliced_nil ?_)));subst ey;exact d_pop I2 ea ry l (.inl O) λw' s3 I3 rw'=>⟨v,_,I3,rw',q2⟩
end
section
variable{X:Cx}{pins:List (V1×Obj)}{σ:St}{H:Hp}{s:V2}{a:V1}{kvs:List (Key×V)}{A:Around}{E:V0->V2->Prop}
end
section
variable{X:Cx}{pins:List (V1×Obj)}{σ:St}{H:Hp}{s:V2}{a:V1}{y:V}{u:V0}{A:Around}{E:V0->V2->Prop}
end
end L2
namespace Att
open PySem PySem.W PySem.Calls PyProof.Rows
theorem zCk{P:Params}{h:V5}:∀(ns:List Int)(vs:List V0),WellAll P h vs (ns.map WData.int)->IntsAre vs ns:=by
 intro ns
 induction ns with
 | nil=>
  intro vs w;rw[List.map_nil] at w;cases w;exact .nil
 | cons n ns ih=>
  intro vs w;rw[List.map_cons] at w
  cases w with
  | cons a b=>
   cases a;exact .cons _ _ (ih _ b)
theorem zPh{l:OpenLaw}{n:Nat}(hn:l.most=Y n){P:Params}{h:V5}{args:List WData}{vals:List V0}
  (hpre:l.row.toRowW.claim.pre args=true) (hwl:WellAll P h vals args):
  ∃a vs ns,vals= [Value.ref a]/\args= [WData.list (ns.map WData.int)]/\h.get? a=some {cls:=.type "list",data:=.seq vs.toArray}/\IntsAre vs ns/\ns...*<=n:=by
 let hsh:WShape.hasAll [] args [.list .int]=true:=(pre_splitW hpre).1;let hc:l.pre.holds [] {args:=args}=true:=(pre_splitW hpre).2;refine yM (hasAllW_cons hsh) λd r r2_ h1 h2=>?_;subst r2_;obtain rfl:=hasAllW_nil h2;obtain⟨xs,rfl,h3⟩:=hasW_list h1;obtain⟨ns,rfl⟩:=items_int h3;let hlen:ns...*<=n:=by
  unfold OpenLaw.pre at hc;let h4:(WTm.not (.lt (.lit (.int (n:Int))) (.len (.arg 0)))).holds [] {args:=[.list (ns.map .int)]}=true:=by
   let h4:=(holds_andW hc).1;rw[hn] at h4;exact h4
  let h5:=condW_of h4 (w_not (w_lt w_lit (w_len_list (w_arg O))));rw[List.length_map] at h5;refine Nat.le_of_not_lt λq=>?_;let q':(n:Int)<((ns...*:Nat):Int):=by lia
  first
   |(rw[decide_eq_true q'] at h5;exact absurd h5 ∎)
   |(simp at h5;lia)
 cases hwl with
 | cons w1 w2=>
  cases w2
  cases w1 with
  | list ho hall=>exact{_,_,ns,O,O,ho,zCk ns _ hall,hlen}
theorem zQs(l:OpenLaw)(args:List WData):l.row.toRowW.claim.post args (.bool true) args=true:=
 postW_of (r:=l.row.toRowW) (X:=(true==true))
  (show WShape.has [] (.bool true) .bool=true by first | rfl | decide | simp[WShape.has,WShape.arms,WShape.armsAll])
  (show(WTm.eq .res (.lit (.bool true))).value [] {args:=args,res:=Y (.bool true),after:=args}=Y (.bool (true==true)) from w_eq_bool (w_res O) w_lit) O
theorem attach_call{l:OpenLaw}{n:Nat}{q:V3}{loose:List Str}{XP:(Str->Option V0)->V5->Prop}{YP:V4->V5->Prop}{d:DefRec}
  (hn:l.most=Y n) (hdf:d.params.defaults= [])
  (call:∀(w:V4)(s₀ s₁:V2)(mg mb:Str->Option V0)(fa:V1)(o:Obj)(pm cd doc:V0)(a:V1)(vs:List V0)(ns:List Int),
   Ground q loose [] XP w s₀ mg mb s₁.heap->YP w s₁.heap->
   s₁.heap.get? fa=Y o->o.data= .func (docDef d.name d.params d.body d.scope pm cd doc)->s₁.heap.CodeRec cd d.name->mg d.name=Y (.ref fa)->
   s₁.heap.get? a=some {cls:=.type "list",data:=.seq vs.toArray}->IntsAre vs ns->ns...*<=n->s₁.gens= #[]->
   codeAny (S5 l.prog w) callerA (.call (.ref fa) {[.ref a],[]}) (λr s'=>r= .ok (.ret (.bool true))/\OldK s₁.heap s'.heap/\s'.os=s₁.os/\AllBare s'.gens) s₁):
  WalkO q loose XP YP l.row.toRowW d [] (λf vs=>PySem.call f vs):=by
 intro w s₀ s₁ mg mb G Yy fa o pm cd doc dV kV ho hd hcd hD hmg hg args vals as hpre hlay hrd hwl hlo;obtain rfl:dV= .none:=Dflts.none hD hdf;obtain rfl:kV= .none:=Dflts.noKw hD;refine yD (zPh hn hpre hwl) λa vs ns r3_ r4_ z_=>?_;ext oAA z_ hobj hints hlen;subst r3_ r4_;refine enter_call (codeAny_mono (call w s₀ s₁ mg mb fa o pm cd doc a vs ns G Yy ho (fd_plain hd) hcd hmg hobj hints hlen hg) λr s' hq=>?_);ext wC hq r0_ h2 h3 h4;subst r0_;exact{.inl {.bool true, .bool true,[],O,λ_=>O, .bool true,zQs l _,λ_=>{List.Pairwise.nil,λ_ hm=>(nomatch hm)}},h2,h3,h4}
section
variable{prog:V3}{w:V4}{A:Around}{E:V0->V2->Prop}{s:V2}{K:Frag}
end
end Att
namespace L2
open PySem PySem.Spec PyProof.Rows
theorem zFw:∀{vs:List V0}{ns:List Int},IntsAre vs ns->Vals (ns.map V.int) vs
 | _,_, .nil=>.nil
 | _,_, .cons n t h=>.cons ⟨t,O⟩ (zFw h)
def yBm(H:Hp):Prop:=∀b,H b=none\/∃o xs,H b=Y (.frz o (.lst xs))
theorem zUp{P:V3}{w:V4}{K:A6}{mg mb:Str->Option V0}{CX:CXT}{k:Nat}{fa a:V1}{fd:V7}{x:Str}{sp:Sp}{s₁:V2}{vs:List V0}{ns:List Int}
  (KX:K.In s₁.heap) (hns:s₁.heap.Ns A0 mg) (hb:s₁.heap.Ns builtinsNs mb) (hbb:∀x:Str,x≠ "__name__"->mb x=A1 x) (hlim:s₁.heap.NoLimit) (hg:s₁.gens= #[])
  (ha:s₁.heap.get? a=some {cls:=.type "list",data:=.seq vs.toArray}) (hi:IntsAre vs ns) (hl:ns...*<=V9) (hr:Room k callerA)
  (F:∀base:V5,K.In base->base.Ns A0 mg->FnOk P w K mg base CX k fa fd [x] sp) (hbind:∀(s:V2)(u:V0),BindsTo s fd {[u],[]} [(x,u)])
  (hsp:∀H:Hp,yBm H->SqL K H a (ns.map V.int)->sp [.ref a] H (λv _=>v= .bl true) λ_ _ _=>False)
  (hCX:∀H e s',CX [] H s₁ (λ_ _ _=>False) e s'->False):
  codeAny (S5 P w) callerA (.call (.ref fa) {[.ref a],[]}) (λr s'=>r= .ok (.ret (.bool true))/\OldK s₁.heap s'.heap/\s'.os=s₁.os/\AllBare s'.gens) s₁:=by
 let rv:=zFw hi;let lenV:=hi...*
 -- from an abstract heap in which nothing but the script may be tracked
 let core:∀H:Hp,yBm H->SqL K H a (ns.map V.int)->HOk P w H s₁.heap->(∀b,H b≠none->b=a)->(H a≠none->K.lookup a=none)->
   codeAny (S5 P w) callerA (.call (.ref fa) {[.ref a],[]}) (λr s'=>r= .ok (.ret (.bool true))/\OldK s₁.heap s'.heap/\s'.os=s₁.os/\AllBare s'.gens) s₁:=by
  intro H hO hS hok hA hK;let base_of:∀{b:V1}{o:Obj},s₁.heap.get? b=Y o->H b=none->(zGy s₁.heap H).get? b=Y o:=λe n=>zRv e n;let noA:∀{b:V1}{o:Obj}{es:Array DictEntry}{ep:Nat},s₁.heap.get? b=Y o->o.data= .dict es ep->H b=none:=λ{b o es ep} e d=>by
   cases q:H b with
   | none=>rfl
   | some u=>
    let e':b=a:=hA b (by rw[q];simp);subst e';rw[ha] at e;cases e;let d':Data.seq vs.toArray _=Data.dict es ep:=d;cases d'
  let nsK:∀{b:V1}{m:Str->Option V0},s₁.heap.Ns b m->(zGy s₁.heap H).Ns b m:=λ{b m} ⟨o,es,ep,e,d,r⟩=>{o,es,ep,base_of e (noA e d),d,r};let hKb:K.In (zGy s₁.heap H):=λb o e=>base_of (KX b o e) (by
   cases q:H b with
   | none=>rfl
   | some u=>
    let e':b=a:=hA b (by rw[q];simp);subst e';rw[hK (by rw[q];simp)] at e;cases e)
  let hM:Mod K mg (zGy s₁.heap H):={hKb,nsK hns,{mb,nsK hb,hbb},let ⟨mc,h1,h2⟩:=hlim;{mc,nsK h1,h2}};let e0:Env0 P w K mg (zGy s₁.heap H) callerA [] s₁ H:=⟨O,hM,λb o e=>zYi e,Nat.le_of_eq (zQf _ _),trivial,λb hb=>absurd (show b∈([]:List V1) from hb) (by simp),hok, .of_eq hg⟩;refine sJ ((F _ hKb (nsK hns)).run callerA [] s₁ H {[.ref a],[]} [.ref a] [.ref a] _ _ hr e0 (hbind s₁ (.ref a)) (.cons O .nil) (hsp H hO hS)) λr s' h=>?_
  cases r with
  | error e=>exact(hCX H e s' h).elim
  | ok fl=>
   cases fl with
   | next=>exact False.elim h
   | brk=>exact False.elim h
   | cont=>exact False.elim h
   | ret u=>
    ext yE h v H' os bare un z_;ext oAA z_ hok' r' q;let q':v= .bl true:=q;subst q';obtain rfl:u=Value.bool true:=r';refine⟨O,OldK.of_keep λb o e=>?_,os,bare⟩
    cases q:H b with
    | none=>exact un.keep b o e q (by intro z;exact absurd (show b∈([]:List V1) from z) (by simp)) (by simp)
    | some u=>
     rcases hO b with z |⟨ob,xs,z⟩
     ·rw[q] at z;cases z
     ·let z2:=un.frzs b ob _ z
      obtain⟨e1,_⟩:=hok b _ z;obtain⟨e2,_⟩:=hok' b _ z2;rw[e] at e1;cases e1;exact e2
 cases hk:K.lookup a with
 | some o=>
  -- the script is one of the module's own objects
  let e:=KX a o hk;rw[ha] at e;cases e;refine core (λ_=>none) (λ_=>.inl rfl) (.inr ⟨_,vs.toArray,_,hk,rfl,rfl,rfl,by rw[mY,lenV];exact hl,by simpa using rv⟩) (λb u z=>by let z':(none:Option HO)=Y u:=z;cases z') (λb z=>absurd rfl z) λz=>absurd rfl z
 | none=>
  refine core (λb=>if b=a then Y (.frz {cls:=.type "list",data:=.seq vs.toArray} (.lst (ns.map V.int))) else none) (λb=>?_) (.inl (.inr {{cls:=.type "list",data:=.seq vs.toArray},mQ O})) (λb u z=>?_) (λb z=>?_) λ_=>hk
  ·by_cases hb:b=a
   ·exact .inr {_,_,mQ hb}
   ·exact .inl (mK hb)
  ·by_cases hb:b=a
   ·let z':=(mQ hb).symm.trans z
    cases z';subst hb;exact{ha,by rw[mL];exact hl,vs,_,rv,ha}
   ·let z':=(mK hb).symm.trans z
    cases z'
  ·by_cases hb:b=a
   ·exact hb
   ·exact absurd (mK hb) z
abbrev KOf{K:A6}{h:V5}(_:K.In h):A6:=K
theorem zOm{l:W.OpenLaw}{n k:Nat}{q:V3}{loose:List Str}{XP:(Str->Option V0)->V5->Prop}{YP:V4->V5->Prop}{d:DefRec}{K:Params->A6}{CX:V4->CXT}{sp:V4->Sp}{x:Str}
  (hn:l.most=Y n) (hn2:n<=V9) (hdf:d.params.defaults= []) (hr:Room k callerA)
  (hY:∀(w:V4)(h:V5),YP w h->(K w.params).In h)
  (F:∀(w:V4)(mg:Str->Option V0)(fa:V1)(h:V5),(K w.params).In h->h.Ns A0 mg->mg d.name=Y (.ref fa)->
   ∃fd:V7,(∀(s:V2)(u:V0),BindsTo s fd {[u],[]} [(x,u)])/\
    ∀base:V5,(K w.params).In base->base.Ns A0 mg->FnOk l.prog w (K w.params) mg base (CX w) k fa fd [x] (sp w))
  (hsp:∀(w:V4)(H:Hp)(a:V1)(ns:List Int),ns...*<=n->yBm H->SqL (K w.params) H a (ns.map V.int)->sp w [.ref a] H (λv _=>v= .bl true) λ_ _ _=>False)
  (hCX:∀(w:V4)(H:Hp)(s:V2)(e:V0)(s':V2),CX w [] H s (λ_ _ _=>False) e s'->False):
  W.WalkO q loose XP YP l.row.toRowW d [] (λf vs=>PySem.call f vs):=by
 refine Att.attach_call hn hdf λw s₀ s₁ mg mb fa o pm cd doc a vs ns G Yy ho hd hcd hmg hobj hints hlen hg=>?_;let KX:=hY w _ Yy;obtain⟨fd,hb,hF⟩:=F w mg fa _ KX G.T.g hmg;exact zUp KX G.T.g G.T.b G.T.builtins G.T.nolimit hg hobj hints (pC hlen hn2) hr hF hb (λH hO hS=>hsp w H a ns hlen hO hS) λH e s'=>hCX w H s₁ e s'
end L2
/- THE LAST THEOREM (shape;LID,My.*are yours):
   My.Adr:a structure of the addresses that your layer names (classes,functions);My.Txt K t:a structure (Prop) of the equations over K;
   My.txt_mk:{K} {implicit addresses ..} (e1:nsIn K A0 "law" =Y ↥(.ref f)) (e2:K.lookup f=Y {oc,od, .func (fnOf "law" "law" params body scope dV kV doc pm an cdv ct),sl}) (e3:codeIn K cdv "law" =true) .. :∃t,My.Txt K t
set_option maxRecDepth 100000 in
set_option maxHeartbeats 0 in
theorem PySem.Challenge.cw_LID_holds : PySem.Challenge.rw_LID.Holds := by
  w_on;o_law;k_head;(case hw=>w_witness2)
  k_fill
  refine L2.zOm (l:=PySem.Challenge.rw_LID) (n:=63) (k:=40) (x:="script") (CX:=λw=>..) (sp:=λ_=>My.sp_law) O ∎ O {O,by decide,by decide} (λw h Yy=>PySem.W.kIn_of Yy) ?F ?S ?C
  case F=>
    intro w mg fa h KX G hmg;let T:∃t,My.Txt (L2.KOf KX) t:=by
      dsimp only[L2.KOf]                          -- K must stand as «<heap const>w.params» for k_is;refine' My.txt_mk ?e1 ?e2 ?e3 ..
      (case e1=>PySem.W.k_is)                    -- in the order:a name ->its address ->its object ->its parts
      (case e2=>PySem.W.k_is)
      ..
    obtain⟨t,T⟩:=T;let e0:=hmg.symm.trans (PySem.W.mg_of KX G T.law);cases e0                                       -- fa is the law's own address;exact{_,λs u=>.of_eq O,λbase kb nb=>My.law_fn T kb nb}     -- if «.of_eq O» comes too early:refine' {_, ?b,λbase kb nb=>My.law_fn T kb nb};exact λs u=>.of_eq O
  case S=>exact λw H a ns hl hO hS=>..
  case C=>exact ..
(the tactic k_is has no namespace:write k_is)-/
namespace L2
open PySem PySem.Spec PyProof.Rows
def xW(s:V6):Arguments:=match s with
 | .FunctionDef _ a _ _ _ _ _ _ _ _=>a
 | _=>{posonlyargs:=[],args:=[],vararg:=none,kwonlyargs:=[],kw_defaults:=[],kwarg:=none,defaults:=[]}
def xJ(s:V6):List V6:=match s with
 | .FunctionDef _ _ b _ _ _ _ _ _ _=>b
 | _=>[]
def zK(s:V6):Scope:=match s with
 | .FunctionDef _ _ _ _ _ _ sc _ _ _=>sc
 | _=>{kind:=.function,names:=[],isGenerator:=false,isCoroutine:=false}
abbrev CX0:CXT:=λ_ _ _ _ _ _=>False
abbrev E0:XK:=λ_ _ _=>False
theorem zYn{X:Cx}:uG CX0 X E0:=λ_ _ _ _ _ _ _ h=>h.elim
structure Fun(K:A6)(x qual:Str)(st:V6)(f:V1)(fd:V7):Prop where
 ex:∃(oc:V0)(od:Option V1)(kV doc pm:V0)(an:Option V1)(cdv ct:V0)(osl:Array (Option V0)),
  fd=W.fnOf x qual (xW st) (xJ st) (zK st) .none kV doc pm an cdv ct/\K.lookup f=Y {oc,od, .func fd,osl}/\A9 K cdv qual=true
 kp:A7 K (.ref f)=true
section
variable{P:V3}{w:V4}{K:A6}{mg:Str->Option V0}{base:V5}
theorem Fun.ok{x qual:Str}{st:V6}{f:V1}{fd:V7}{N ps:List Str}{k:Nat}{sp:Sp}(F:Fun K x qual st f fd)(S:zS N ps (zK st))(len:∀vs H Q E,sp vs H Q E->vs...*=ps...*)
  (hbody:∀(cdv:V0)(A:Around)(outer:List S7)(s:V2)(H:Hp)(vs:List V)(Q:VK)(E:XK),Room k (A.deeper (envOfC qual (zK st) s⁻¹ f cdv))->sp vs H Q E->
   ∃t,PSs (zCj CX0 P w K mg base N qual (zK st) f cdv A outer s H E).nox (xJ st) t/\t {nx:=λ_ H'=>Q .non H',rt:=Q} (jO N vs) H):FnOk P w K mg base CX0 (k+1) f fd ps sp:=by
 refine xO (F.ex) λoc od kV doc pm z_=>?_;ext yV z_ an cdv ct osl r9_ z_;ext oA z_ lk hcd;subst r9_;refine zOe lk hcd S len λA outer s H vs Q E hr hsp=>?_;obtain⟨t,h,q⟩:=hbody cdv A outer s H vs Q E hr hsp;exact⟨t,h.nox,q⟩
theorem Fun.binds{x qual:Str}{st:V6}{f:V1}{fd:V7}{ps:List Str}(F:Fun K x qual st f fd)
  (h:∀(kV doc pm:V0)(an:Option V1)(cdv ct:V0)(us:List V0),us...*=ps...*->bindArgs (W.fnOf x qual (xW st) (xJ st) (zK st) .none kV doc pm an cdv ct) {us,[]}=pure (ps.zip us)):Binds K fd ps []:=by
 refine xO (F.ex) λoc od kV doc pm z_=>?_;ext yV z_ an cdv ct osl r9_ z_;ext oA z_ lk hcd;subst r9_;exact .all (h kV doc pm an cdv ct)
theorem zTd{x qual:Str}{st:V6}{f:V1}{oc:V0}{od an:Option V1}{osl:Array (Option V0)}{kV doc pm cdv ct:V0}(l:K.lookup f=Y {oc,od, .func (W.fnOf x qual (xW st) (xJ st) (zK st) .none kV doc pm an cdv ct),osl})
  (c:A9 K cdv qual=true) (k:A7 K (.ref f)=true):Fun K x qual st f (W.fnOf x qual (xW st) (xJ st) (zK st) .none kV doc pm an cdv ct):={⟨oc,od,kV,doc,pm,an,cdv,ct,osl,O,l,c⟩,k}
end
theorem vA{A:Around}{k:Nat}(hr:Room k A):A.units+1<cLine:=Nat.lt_of_le_of_lt (Nat.add_le_add_left (by decide:1<=64) _) hr.units
section
variable{X:Cx}
theorem pv(i:Nat){x:Str}{pos:Pos}(hN:X.N[i]? =Y x:=by rfl)(hv:Vis X.env.scope x:=by first | exact nU O | exact aT (nU O)| exact aT (aT O))(hd:(x==("__debug__" :Str))=false:=by decide)
  (hcd:(x==("__classdict__" :Str))=false:=by decide):PE X (.Name x pos) (vY i):=zUd hN hv hd hcd
theorem zOw{A B:Prop}(h:B):if false=true then A else B:=by
 rw[mK nF];exact h
theorem zLf{A B:Prop}(h:A):if true=true then A else B:=by
 rw[mQ O];exact h
def Same(H H':Hp):Prop:=∀b o,H b=Y o->H' b=Y o
theorem Same.refl(H:Hp):Same H H:=λ_ _ h=>h
theorem Same.trans{H H1 H2:Hp}(a:Same H H1)(b:Same H1 H2):Same H H2:=λc o h=>b c o (a c o h)
theorem Same.seq{K:A6}{H H':Hp}{a:V1}{xs:List V}(e:Same H H')(h:SqL K H a xs):SqL K H' a xs:=by
 rcases h with(h |⟨o,h⟩)| h
 ·exact .inl (.inl (e _ _ h))
 ·exact .inl (.inr {o,e _ _ h})
 ·exact .inr h
theorem zBn:wH X (.builtin "len") (λxs H Q=>∃a kvs,xs= [V.ref a]/\H a=Y (.dK kvs)/\Q (.int kvs...*) H):=by
 intro pins s σ H xs us Q I r h;ext yM h a kvs r2_ ha q;subst r2_;obtain⟨u,rfl,ru⟩:=qJ r;cases ru;exact zYt I (.inl ha) λt s' I'=>{.int kvs...*,H,I',⟨t,O⟩,q}
end
section
variable{κ:Type} [DecidableEq κ]
theorem zXc{kvs:List (κ×V)}{k:κ}{v:V}(h:jD kvs k=Y v):k∈kvs.map (·.1):=by
 let q:(kvs.any λkv=>decide (kv.1=k))=true:=by
  rw[zAp,h]
  all_goals rfl
 obtain⟨p,hp,e⟩:=bP.mp q;exact nW.mpr {p,hp,cV e}
theorem zNp:∀{l:List κ}{k:κ},l.Nodup->¬k∈l->(l++ [k]).Nodup
 | [],k,_,_=>by simp
 | a::r,k,h,hk=>by
  obtain⟨h1,h2⟩:=pM.mp h;show(a::(r++ [k])).Nodup;refine pM.mpr {λm=>?_,zNp h2 λm=>hk (mD.mpr (aT m))};rcases mU.mp m with q | q
  ·exact h1 q
  ·exact hk (mD.mpr (nU (mG.mp q).symm))
end
abbrev ts(x:Str):List Nat:=x.cps.toList
abbrev tx(l:List Nat):Str:=⟨l.toArray⟩
theorem vB(l:List Nat):ts (tx l)=l:=rfl
theorem vH(x:Str):tx (ts x)=x:=by cases x;simp[tx,ts]
theorem zMc(x:Str):x...*=(ts x)...*:=by simp[Str.length,ts]
theorem jZ(l:List Nat):(tx l)...*=l...*:=by simp[Str.length,tx]
theorem zHx{x y:Str}(h:ts x=ts y):x=y:=by rw[<-vH x,<-vH y,h]
theorem zEf(a b:List Nat):tx a++tx b=tx (a++b):=by
 apply zHx;show(a.toArray++b.toArray).toList=a++b;simp
theorem zGi(xs:Array Nat):∀(k:Nat)(acc:Array Nat),((List.replicate k xs).foldl (· ++ ·) acc).toList=acc.toList++(List.replicate k xs.toList).flatten
 | 0,acc=>by simp
 | k+1,acc=>by
  rw[rB,tE,zGi xs k (acc++xs)];simp[rB]
theorem zRq(x:Str)(n:Int):Txt.mul x n=tx (List.replicate n.toNat (ts x)).flatten:=by
 apply zHx;rw[vB];unfold Txt.mul
 by_cases h1:n<1
 ·rw[mQ h1]
  let e:n.toNat=0:=by lia
  rw[e];rfl
 ·rw[mK h1]
  by_cases h2:(n==1 || x...*==0)=true
  ·rw[mQ h2]
   rcases(Bool.or_eq_true _ _).mp h2 with h3 | h3
   ·let e:n=1:=by simpa using h3
    subst e;simp
   ·let e:x...*=0:=by simpa using h3
    rw[zMc] at e;let e2:ts x= []:=aF e;show ts x=_;rw[e2];simp
  ·rw[mK h2]
   show((List.replicate n.toNat x.cps).foldl (· ++ ·) #[]).toList=_;rw[zGi];simp
section
variable{X:Cx}
def zUt:R2:=λx y H Q=>∃z n,x= .str z/\y= .int n/\z...*<=1000/\-1000<=n/\n<=1000/\Q (.str (tx (List.replicate n.toNat (ts z)).flatten)) H
theorem gA:OpR X (binaryOp .Mult) zUt:=by
 intro pins s σ H x y v u Q I rx ry h;ext yE h z n r2_ r3_ hz z_;ext oAA z_ h0 h1 q;subst r2_ r3_;obtain⟨t,rfl⟩:=rx;obtain⟨t',rfl⟩:=ry;refine SB.mul {by rw[nG ∅,nG ∅];rfl,λa _ b=>?_,λa _=>?_} λt' k=>{.str (Txt.mul z n),H,I.tok _,⟨_,O⟩,by rw[zRq];exact q}
 ·let h2:(9223372036854775:Int)<=(2 ^ 63 - 1:Int)/ n:=Int.le_ediv_of_mul_le ∅ ∅
  lia
 ·unfold PySem.Builtin.Str.tooLong
  let e:z...**n.toNat<=1000*1000:=Nat.mul_le_mul hz ∅;exact nG (by rw[mS];lia)
theorem zLi{ys:List Str}:∀{us:List V0},Vals (ys.map V.str) us->StrsAre us ys:=by
 induction ys with
 | nil=>intro us r;rw[sK] at r;cases r;exact .nil
 | cons n ns ih=>
  intro us r;rw[mZ] at r
  cases r with
  | cons r1 r2=>
   obtain⟨t,e⟩:=r1;subst e;exact .cons n t (ih r2)
theorem zDw(g:Str):∀(ps:List Str)(acc:Array Nat),(ps.foldl (λa p=>a++g.cps++p.cps) acc).toList=acc.toList++(ps.map λp=>ts g++ts p).flatten
 | [],acc=>by simp
 | p::ps,acc=>by
  rw[tE,zDw g ps];simp
theorem zTt(ys:List Str):Txt.join (tx []) ys=tx (ys.map ts).flatten:=by
 apply zHx;show((ys.drop 1).foldl (λacc p=>acc++(tx []).cps++p.cps) (ys.headD Str.empty).cps).toList=_;rw[zDw]
 cases ys with
 | nil=>rfl
 | cons y r=>
  show ts y++(List.map (λp=>ts (tx [])++ts p) r).flatten=ts y++(List.map ts r).flatten;simp only[vB,tZ]
def rJoin(K:A6):V->List V->Hp->VK->Prop:=λx vs H Q=>∃(p:V1)(ys:List Str),x= .str (tx [])/\vs= [.ref p]/\SqL K H p (ys.map V.str)/\((ys.map ts).flatten)...*<=100000/\Q (.str (tx (ys.map ts).flatten)) H
theorem zXr(ys:List Str):(ys.map (·.length)).sum=((ys.map ts).flatten)...*:=by
 induction ys with
 | nil=>rfl
 | cons y r ih=>rw[mZ,List.sum_cons,ih,mZ,rV,mM,zMc]
theorem zNh:MtR X "str.join" (rJoin X.K):=by
 intro pins s σ H x vs v us Q I rx rv h;ext yE h p ys r2_ r3_ hq z_;ext oA z_ hz q;subst r2_ r3_;obtain⟨t,rfl⟩:=rx;obtain⟨u,rfl,ru⟩:=rv.one;cases ru;refine xI (I.list hq) λits r pl _=>?_;refine join_list (ys:=ys) pl.isList (by simpa using zLi r) ?_ λt' k=>{.str (Txt.join (tx []) ys),H,I.tok _,⟨_,O⟩,by rw[zTt];exact q};rw[zXr,show(tx [])...*=0 from O,Nat.mul_zero]
 lia
def yCr(neg:Bool):R2:=λx y H Q=>∃c j,x= .str (tx [c])/\y= .str j/\Q (.bl (if neg then !decide (c∈ts j) else decide (c∈ts j))) H
theorem zOg:OpR X (A3 .In) (yCr false):=by
 intro pins s σ H x y v u Q I rx ry h;ext yM h c j r2_ r3_ q;subst r2_ r3_;refine zQl pins s σ H _ _ v u Q I rx ry {_,_,O,O, ?_};let e:=StrLaws.found_one j c;rw[show(tx [c]:Str)={#[c]} from O,e];exact q
def Its(x:Str):It:={λi _=>i<(ts x)...*,λi H y H'=>H'=H/\∃c,(ts x)[i]? =Y c/\y= .str (tx [c]),λi _=>(ts x)...*<=i}
theorem zTz{P:V3}{w:V4}{K:A6}{tg:Expr}(x:Str)(t:Tok)(it:V1)(ty:String)(hty:ty= "str_ascii_iterator"\/ty= "str_iterator"):zIb P w K tg (Its x) [it] it (λi h=>h.IsStrIter it ty x t i) where
 mem:=by simp
 obj:=λi h st b hb=>by
  let e:b=it:=by simpa using hb
  subst e;ext xI st o e c d;exact⟨o,e,λv z=>by rw[d] at z;cases z⟩
 keep:=λi h h' st k=>by
  ext xI st o e c d;exact⟨o,k it (by simp) o e,c,d⟩
 item:=by
  intro X hP hw hK hc i pins s σ H E I hf st hg;subst hP hw hK;refine yO (hf it (by simp)) λf0 f1 f2 f3 f4 f5=>?_;let hi:i<(ts x)...*:=hg;let hx:x.cps[i]? =some (ts x)[i]:=by
   rw[<-tF];simp[hi]
  let fin:∀h',h'.IsStrIter it ty x t (i+1)->Heap.SameBut it s.heap h'->∃u,Y (Value.str {#[(ts x)[i]]} s.toks)=Y u/\
    V8 (S5 X.prog X.w) X.A (letOwnedTupleGo tg (.ref it) u) (λ_ s2=>∃x' H',Inv X pins σ H' s2/\RelV x' u/\(Its x).yld i H x' H'/\s2.heap.IsStrIter it ty x t (i+1)/\∀b∈ [it],H' b=none) E {s with heap:=h',toks:=s.toks+1}:=λh' st' sb=>by
   let I1:Inv X pins σ H {s with heap:=h',toks:=s.toks+1}:=I.turned (t':=s.toks+1) (λb o hb e=>(sb.2 b hb).trans e) f0 f1 f3 f4 f5;refine xI (id st') λo e c d=>?_;refine{_,O,zIz (s:={s with heap:=h',toks:=s.toks+1}) e c d ?_ {.str (tx [(ts x)[i]]),H,I1,⟨_,O⟩,{O,_,by simp[hi],O},st',λb hb=>(hf b hb).1}};rcases hty with z | z<;>(rw[z];decide)
  rcases hty with z | z
  ·subst z;exact wpAny_pyNext_ascii_item st hx λh' st' sb=>fin h' st' sb
  ·subst z;exact wpAny_pyNext_wide_item st hx λh' st' sb=>fin h' st' sb
 done:=by
  intro X hP hw hK hc i pins s σ H E I hf st hg;subst hP hw hK;refine yO (hf it (by simp)) λf0 f1 f2 f3 f4 f5=>?_;let hi:(ts x)...*<=i:=hg;let hx:x.cps[i]? =none:=by
   rw[<-tF];exact aJ hi
  rcases hty with z | z
  ·subst z;exact wpAny_pyNext_ascii_end (I.ok.hd hc) st hx λh' eb=>{O,I.turned (t':=s.toks) (λb o hb e=>eb b o hb e) f0 f1 f3 f4 f5}
  ·subst z;exact wpAny_pyNext_wide_end (I.ok.hd hc) st hx λh' eb=>{O,I.turned (t':=s.toks) (λb o hb e=>eb b o hb e) f0 f1 f3 f4 f5}
 self:=λ_ _ _ _ _ st h=>by
  rcases hty with z | z
  ·subst z;exact wpAny_pyIter_striter_ascii st h
  ·subst z;exact wpAny_pyIter_striter_wide st h
def yCj(tl:TE):TI:=λσ H R=>tl σ H λx H1=>∃z,x= .str z/\R (Its z) H1
theorem zRr{tg l:Expr}{tl:TE}(hl:PE X l tl):PI X tg l (yCj tl):=by
 intro pins s σ H R I h;refine thn (hl pins s σ H _ I h) λv s1 ⟨x,H1,I1,r1,q1⟩=>?_;obtain⟨z,rfl,q⟩:=q1;obtain⟨t,rfl⟩:=r1;let fin:∀ty,(ty= "str_ascii_iterator"\/ty= "str_iterator")->PIE X pins σ tg R (.ref s1⁻¹) {s1 with heap:=s1.heap.push {cls:=.type ty,data:=.fields #[.str z t, .int 0 0]}}:=λty hty=>by
  refine⟨s1⁻¹,[s1⁻¹],_,_,H1,O,I1.kept (t':=s1.toks) λb o e=>mJ _ e,zTz z t _ ty hty,⟨_,nM _ rfl,rfl,rfl⟩,λb hb=>?_,q⟩;let e:b=s1⁻¹:=by simpa using hb
  subst e;exact I1.fpOk (mE _) (I1.hok.fresh (mE _))
 cases ha:z.cps.all (· <128) with
 | true=>exact wpAny_pyIter_ascii ha (fin _ (.inl O))
 | false=>exact wpAny_pyIter_wide ha (fin _ (.inr O))
theorem zJy{bs:List Bool}:∀{us:List V0},Vals (bs.map V.bl) us->PyProof.Rows.LSm.BoolsAre us bs:=by
 induction bs with
 | nil=>intro us r;rw[sK] at r;cases r;exact .nil
 | cons n ns ih=>
  intro us r;rw[mZ] at r
  cases r with
  | cons r1 r2=>
   cases (show _=Value.bool n from r1);exact .cons n (ih r2)
theorem uB(hc:X.calm=true):wH X (.builtin "all") (λxs H Q=>∃(p:V1)(bs:List Bool),xs= [.ref p]/\SqL X.K H p (bs.map V.bl)/\Q (.bl (bs.all id)) H):=by
 intro pins s σ H xs us Q I r h;ext yM h p bs r2_ hq q;subst r2_;obtain⟨u,rfl,rx⟩:=qJ r;cases rx;refine xI (I.list hq) λits rv pl hz=>?_;let hl:=pl.isList;let hb:=zJy rv;let hlt:p<s⁻¹:=by obtain⟨_,e,_⟩:=hl;exact nB e
 refine call_all_walk (bI hl ?_);refine{s⁻¹,[s⁻¹,p],[s⁻¹],its.toArray.size,_,_,λi=>(bs[i]?).getD true,O,Walks.list (A:=X.A.in1) (I.ok.hd hc) _ p (nQ hlt) its.toArray,
  {{_,nM _ O,O,O},hl.push _},λi v s' Q' E' hP hQ=>?_,λh' tk hk=>?_}
 ·obtain⟨b,e,rfl⟩:=hb.get i v (by simpa using hP)
  simp only[e,Option.getD_some] at hQ;exact pZ hQ
 ·let e:((List.range its.toArray.size).all λi=>(bs[i]?).getD true)=bs.all id:=by
   rw[mY,hb...*];exact PyProof.Rows.LSm.range_all bs
  rw[e];exact{.bl _,H,I.kept (PyProof.Rows.LSm.kept_iter hk),O,q}
theorem zRw(hc:X.calm=true):wH X (.builtin "sum") (λxs H Q=>∃(p:V1)(ns:List Int),xs= [.ref p]/\SqL X.K H p (ns.map V.int)/\Q (.int ns.sum) H):=by
 intro pins s σ H xs us Q I r h;ext yM h p ns r2_ hq q;subst r2_;obtain⟨u,rfl,rx⟩:=qJ r;cases rx;refine xI (I.list hq) λits rv pl hz=>?_;let hi:=zKy rv;obtain⟨xs,hx⟩:=hi.allInts.items;let hl':s.heap.IsList p (intItems xs):=hx▸pl.isList;refine sum_intListG (I.ok.hd hc) hl' λh' tk t' hk=>?_;let e1:ns=xs.toList.map (·.1):=by
  rw[<-nums_intItems,<-hx];exact(show numsOf its.toArray.toList=ns from hi.numsOf).symm
 let e2:preSum (numAt xs) xs.size=ns.sum:=by
  rw[preSum_eq,sA (by simp),e1]
 rw[e2];exact{.int _,H,I.kept hk,⟨_,O⟩,q}
def zFb:List V->List V->Bool
 | [],[]=>true
 | x::xs,y::ys=>eqV x y && zFb xs ys
 | _,_=>false
theorem zEo:∀(xs ys:List V),xs...*=ys...*->(List.range xs...*).all (λj=>match xs[j]?,ys[j]? with | some a,Y b=>eqV a b | _,_=>true)=zFb xs ys
 | [],[],_=>rfl
 | x::xs,y::ys,h=>by
  let ih:=zEo xs ys (by simpa using h);rw[mW,List.range_succ_eq_map,List.all_cons,cZ];show(eqV x y && _)=(eqV x y && zFb xs ys);rw[<-ih]
  congr 1
theorem zIq:∀{xs ys:List V},xs...*≠ys...*->zFb xs ys=false
 | [],[],h=>absurd O h
 | [],_::_,_=>rfl
 | _::_,[],_=>rfl
 | x::xs,y::ys,h=>by
  let ih:=zIq (xs:=xs) (ys:=ys) (by simpa using h);show(eqV x y && zFb xs ys)=false;rw[ih,tL]
def rEqL(K:A6)(neg:Bool):R2:=λx y H Q=>∃a b xs ys,x= .ref a/\y= .ref b/\SqL K H a xs/\SqL K H b ys/\xs.all gU=true/\ys.all gU=true/\Q (.bl (if neg then !zFb xs ys else zFb xs ys)) H
theorem Vals.some_at{xs:List V}{us:List V0}(r:Vals xs us){j:Nat}(h:j<us...*):∃x,xs[j]? =Y x/\RelV x us[j]:=by
 let hl:=r...*;obtain⟨x,e⟩:∃x,xs[j]? =Y x:={xs[j],by simp[hl,h]};obtain⟨u,hu,ru⟩:=r.get e;let e2:us[j]? =some us[j]:=by simp[h]
 rw[e2] at hu;cases hu;exact⟨x,e,ru⟩
theorem zRg{A:Around}{s:V2}{xs ys:List V}{us ws:List V0}(r:Vals xs us)(q:Vals ys ws)(fx:xs.all gU=true)(fy:ys.all gU=true):
  ∀j(h1:j<us.toArray.size)(h2:j<ws.toArray.size),SeqAt.EqAt A s us.toArray[j] ws.toArray[j] ((λj=>match xs[j]?,ys[j]? with | some a,Y b=>eqV a b | _,_=>true) j):=λj h1 h2=>by
 obtain⟨x,e1,r1⟩:=r.some_at (j:=j) (by simpa using h1);obtain⟨y,e2,r2⟩:=q.some_at (j:=j) (by simpa using h2);let f1:gU x=true:=rD.mp fx x (mP e1);let f2:gU y=true:=rD.mp fy y (mP e2);let z:=yBl (A:=A) (s:=s) r1 r2 f1 f2;simp only[e1,e2]
 simpa using z
theorem zXp(hu:X.A.units<cLine):OpR X (A3 .NotEq) (rEqL X.K true):=by
 intro pins s σ H x y v u Q I rx ry h;ext yV h a b xs ys r4_ z_;ext yO z_ r5_ ha hb fx fy q;subst r4_ r5_;cases rx;cases ry;refine xI (I.list ha) λits r1 pl1 _=>?_;refine xI (I.list hb) λits2 r2 pl2 _=>?_;let l1:=r1...*;let l2:=r2...*
 by_cases e:xs...*=ys...*
 ·refine SeqAt.RcNeAt.lists pl1.isList pl2.isList (by simp only[mY];lia) hu (zRg r1 r2 fx fy) X.prog X.w X.xe _ {.bl _,H,I,O, ?_}
  rw[mY,<-l1,zEo xs ys e];exact q
 ·refine SeqAt.RcNeAt.lists_lengths pl1.isList pl2.isList (by simp only[mY];simpa [<-l1,<-l2] using e) hu X.prog X.w X.xe _ {.bl _,H,I,O, ?_}
  let z:=zIq e
  simpa [z] using q
def tyS(H:Hp):V->Option String
 | .non=>some "NoneType"
 | .bl _=>some "bool"
 | .int _=>some "int"
 | .str _=>some "str"
 | .ref a=>match H a with
  | some (.lst _)=>some "list"
  | some (.tup _)=>some "tuple"
  | some (.dK _)=>some "dict"
  | _=>none
 | _=>none
def yA(t T:String):Bool:=t==T ||(t== "bool" && T== "int")
theorem zSa{K:A6}{H:Hp}{x:V}{t:String}(h:tyS H x=Y t):zBr K H x (.type t):=by
 cases x with
 | non=>cases h;exact .non
 | bl b=>cases h;exact .bl b
 | int i=>cases h;exact .int i
 | str z=>cases h;exact .str z
 | ref a=>
  let h':(match H a with | some (.lst _)=>some "list" | some (.tup _)=>some "tuple" | some (.dK _)=>some "dict" | _=>none)=Y t:=h
  cases e:H a with
  | none=>rw[e] at h';cases h'
  | some o=>
   rw[e] at h'
   cases o with
   | lst xs=>cases h';exact .lst e
   | tup xs=>cases h';exact .tup e
   | dK kvs=>cases h';exact .dK e
   | _=>cases h'
 | byt b=>cases h
 | flt b=>cases h
 | ty n=>cases h
def tyL:List String:=["NoneType","bool","int","str","list","tuple","dict"]
def kitB(t T:String):Option Bool:=if(Value.type t==Value.type T)=true then Y true else if W.kitMeta T=true then(fastBuiltinMro t).map (·.contains (.type T)) else none
theorem zVw:(tyL.all λt=>tyL.all λT=>kitB t T==Y (yA t T))=true:=by decide+kernel
theorem zBs{K:A6}{t T:String}(h1:t∈tyL)(h2:T∈tyL):W.kitOne K (.type t) (.type T)=Y (yA t T):=by
 let a:=rD.mp (rD.mp zVw t h1) T h2;let b:kitB t T=Y (yA t T):=by simpa using a
 exact b
theorem vU{H:Hp}{x:V}{t:String}(h:tyS H x=Y t):t∈tyL:=by
 cases x<;>first |(cases h;simp[tyL];done)|(cases h;done)| skip
 rename_i a;let h':(match H a with | some (.lst _)=>some "list" | some (.tup _)=>some "tuple" | some (.dK _)=>some "dict" | _=>none)=Y t:=h
 split at h'<;>first |(cases h';simp[tyL];done)|(cases h';done)
theorem zWp{pins:List (V1×Obj)}{σ:St}{H:Hp}{s:V2}{x:V}{u:V0}{t:String}(I:Inv X pins σ H s)(rx:RelV x u)(h:tyS H x=Y t):
  ∃φ:V5->Prop,W.KitX X.K u (.type t) φ/\φ s.heap/\u≠ .builtin "__main__.__loader__#opaque":=by
 cases zSa (K:=X.K) h with
 | non=>cases (show u=Value.none from rx);exact{_,W.kitx_none,mI,λz=>nomatch z}
 | bl y=>cases (show u=Value.bool y from rx);exact{_,W.kitx_bool,mI,λz=>nomatch z}
 | int i=>obtain⟨t,q⟩:=(show∃t,u=Value.int i t from rx);cases q;exact{_,W.kitx_int,mI,λz=>nomatch z}
 | str y=>obtain⟨t,q⟩:=(show∃t,u=Value.str y t from rx);cases q;exact{_,W.kitx_str,mI,λz=>nomatch z}
 | flt y=>obtain⟨t,q⟩:=(show∃t,u=Value.float y t from rx);cases q;exact{_,W.kitx_float,mI,λz=>nomatch z}
 | @lst a xs ea=>
  cases (show u=Value.ref a from rx);obtain⟨_,_,n,_,h1⟩:=(show ObjOk X.prog X.w H s.heap a (.lst xs) from I.hok a _ ea);exact{_,dQ,⟨_,h1,O⟩,λz=>nomatch z}
 | @frz a ob xs ea=>
  cases (show u=Value.ref a from rx);obtain⟨_,_,_,n,_,h1⟩:=(show ObjOk X.prog X.w H s.heap a (.frz ob (.lst xs)) from I.hok a _ ea);exact{_,dQ,⟨_,h1,O⟩,λz=>nomatch z}
 | @tup a xs ea=>
  cases (show u=Value.ref a from rx);obtain⟨_,_,_,p⟩:=(show ObjOk X.prog X.w H s.heap a (.tup xs) from I.hok a _ ea);ext xI p o h1 h2 _;exact⟨_,W.kitx_tuple,⟨o,h1,h2⟩,λz=>nomatch z⟩
 | @dK a kvs ea=>
  cases (show u=Value.ref a from rx);obtain⟨_,_,vs,_,p⟩:=(show ObjOk X.prog X.w H s.heap a (.dK kvs) from I.hok a _ ea);ext yD p o es ep h1 h2 _;exact⟨_,cL,⟨o,h1,h2.1⟩,λz=>nomatch z⟩
 | @dT a kvs ea=>
  cases (show u=Value.ref a from rx);obtain⟨_,_,xs,_,o,es,ep,h1,h2,_⟩:=(show ObjOk X.prog X.w H s.heap a (.dT kvs) from I.hok a _ ea);exact{_,cL,⟨o,h1,h2.1⟩,λz=>nomatch z}
theorem qA{T U:String}(hT:T∈tyL)(hU:U∈tyL):wH X (.builtin "isinstance") (λxs H Q=>∃x t p,xs= [x, .ref p]/\H p=Y (.tup [.ty T, .ty U])/\tyS H x=Y t/\Q (.bl (yA t T || yA t U)) H):=by
 intro pins s σ H xs us Q I r h;ext yD h x t p r3_ hp z_;ext oA z_ ht q;subst r3_;refine yM (uZ r) λu w' r2_ ru rw'=>?_;subst r2_;cases (show w'=Value.ref p from rw');refine xI (zWp I ru ht) λφ Zy hφ hne=>?_;obtain⟨_,its,rv,pl⟩:=(show ObjOk X.prog X.w H s.heap p (.tup [.ty T, .ty U]) from I.hok p _ hp);refine yM (uZ rv) λv1 v2 e r1 r2=>?_;subst e;cases (show v1=Value.type T from r1);cases (show v2=Value.type U from r2);obtain⟨o,ho,hc,n,hd⟩:=pl;obtain⟨oc,od,odt,osl⟩:=o;cases (show oc=Value.type "tuple" from hc);cases (show odt=Data.seq _ n from hd);refine W.kia_tup Zy I.kIn hφ ho (b:=yA t T || yA t U) ?_ hne λtk=>{.bl _,H,I.tok _,O,q}
 let k1:=zBs (K:=X.K) (vU ht) hT;let k2:=zBs (K:=X.K) (vU ht) hU;simp only[W.kitAny,k1,k2];cases yA t T<;>cases yA t U<;>rfl
theorem zDg{T:String}(hT:T∈tyL):wH X (.builtin "isinstance") (λxs H Q=>∃x t,xs= [x, .ty T]/\tyS H x=Y t/\Q (.bl (yA t T)) H):=by
 intro pins s σ H xs us Q I r h;ext yM h x t r2_ ht q;subst r2_;refine yM (uZ r) λu w' r2_ ru rw'=>?_;subst r2_;cases (show w'=Value.type T from rw');exact zPe I ru (zSa ht) (zBs (vU ht) hT) λtk=>{.bl _,H,I.tok _,O,q}
end
theorem yW:A1 "len" =Y (.builtin "len"):=by decide+kernel
theorem zI:A1 "isinstance" =Y (.builtin "isinstance"):=by decide+kernel
theorem zEc:A1 "all" =Y (.builtin "all"):=by decide+kernel
theorem yBa:A1 "sum" =Y (.builtin "sum"):=by decide+kernel
theorem yBb:A1 "abs" =Y (.builtin "abs"):=by decide+kernel
theorem yCl:A1 "ord" =Y (.builtin "ord"):=by decide+kernel
theorem zLt:A1 "min" =Y (.builtin "min"):=by decide+kernel
theorem yBt:A1 "max" =Y (.builtin "max"):=by decide+kernel
theorem kC:A1 "sorted" =Y (.builtin "sorted"):=by decide+kernel
theorem vF:A1 "int" =Y (.type "int"):=by decide+kernel
theorem qY:A1 "str" =Y (.type "str"):=by decide+kernel
theorem zOj:A1 "bool" =Y (.type "bool"):=by decide+kernel
theorem yU:A1 "list" =Y (.type "list"):=by decide+kernel
theorem xA:A1 "dict" =Y (.type "dict"):=by decide+kernel
theorem uC:A1 "tuple" =Y (.type "tuple"):=by decide+kernel
structure Bl(mg:Str->Option V0):Prop where
 len:mg "len" =none
 range:mg "range" =none
 isinstance:mg "isinstance" =none
 all:mg "all" =none
 sum:mg "sum" =none
 int:mg "int" =none
 str:mg "str" =none
 bool:mg "bool" =none
 list:mg "list" =none
 dict:mg "dict" =none
 tuple:mg "tuple" =none
structure Dn(P:V3)(w:V4)(K:A6)(mg:Str->Option V0)(base:V5)(k:Nat)(x:Str)(ps:List Str)(sp:Sp):Prop where
 ex:∃(f:V1)(fd:V7),FnOk P w K mg base CX0 k f fd ps sp/\Binds K fd ps []/\A7 K (.ref f)=true/\mg x=Y (.ref f)
section
variable{X:Cx}{k j:Nat}{x:Str}{ps:List Str}{sp:Sp}{e:Expr}{es:List Expr}{t:TA}{p pos:Pos}
theorem zR(D:Dn X.prog X.w X.K X.mg X.base k x ps sp)(hr:Room j X.A)(hj:k<=j)(hg:Gl X x)(ha:PA X (e::es) t)(hdb:(x==("__debug__" :Str))=false:=by decide)
  (he:A2 (e::es) X.env=(false,eval e X.env)::A2 es X.env:=by rfl) (hpl:(S2 pos (A2 es X.env)).any (·.1)=false:=by rfl):PE X (.Call (.Name x p) (e::es) [] pos) (jV sp [] E0 t):=by
 refine yE (D.ex) λf fd h1 h2 h3 h4=>?_;exact zIc h1 (hr.mono hj) hg h4 h3 h2 .nil zYn ha hdb he hpl
theorem yCt(D:Dn X.prog X.w X.K X.mg X.base k x ps sp)(hr:Room j X.A)(hj:k<=j)(hg:Gl X x)(hdb:(x==("__debug__" :Str))=false:=by decide):PE X (.Call (.Name x p) [] [] pos) (jV sp [] E0 qW):=by
 refine yE (D.ex) λf fd h1 h2 h3 h4=>?_;exact zUa h1 (hr.mono hj) hg h4 h3 h2 .nil zYn hdb
end
theorem zKu{α β:Type}{l:List α}{f:α->β->Sem (ForInStep β)}(g:β->α->β)(h:∀x∈l,∀c,f x c=pure (.yield (g c x))):∀b:β,forIn l b f=pure (l.foldl g b):=by
 induction l with
 | nil=>intro b;rfl
 | cons a r ih=>
  intro b;rw[List.forIn_cons,h a mF];show forIn r (g b a) f=_;rw[ih (λx hx=>h x (mH _ hx)) (g b a)]
  rfl
def vV(env:S7)(cs:List (Str×V1))(x:Str×NameKind):List (Str×V1):=
 if(x.2==S3)=true then(match env.cells.lookup x.1 with | some a=>(x.1,a)::cs | none=>cs) else cs
def clo(env:S7)(names:List (Str×NameKind)):List (Str×V1):=names.foldl (vV env) []
theorem uI{scope:Scope}{env:S7}(h:∀x∈scope.names,x.2= .free->∃c,env.cells.lookup x.1=Y c):closureFor scope env=pure (clo env scope.names):=by
 simp only[closureFor];rw[zKu (vV env) (λx hx c=>by
  obtain⟨n,k⟩:=x
  by_cases hk:k= .free
  ·subst hk
   obtain⟨a,e⟩:=h _ hx O;let e':env.cells.lookup n=Y a:=e;simp[vV,cellOf,e']
  ·let e:(k==S3)=false:=by simpa using hk
   simp[vV,e])]
 rfl
theorem zMw{env:S7}:∀(names:List (Str×NameKind))(cs:List (Str×V1)),(∀p∈cs,env.cells.lookup p.1=Y p.2)->∀p∈names.foldl (vV env) cs,env.cells.lookup p.1=Y p.2
 | [],_,h=>h
 | x::r,cs,h=>by
  refine zMw r (vV env cs x) λp hp=>?_;unfold vV at hp;split at hp
  ·split at hp
   ·rename_i a e
    rcases mD.mp hp with z | z
    ·rw[z];exact e
    ·exact h p z
   ·exact h p hp
  ·exact h p hp
theorem zIy{env:S7}{p:Str×V1}:∀(names:List (Str×NameKind))(cs:List (Str×V1)),p∈cs->p∈names.foldl (vV env) cs
 | [],_,h=>h
 | x::r,cs,h=>by
  refine zIy r (vV env cs x) ?_;unfold vV;split
  ·split
   ·exact mH _ h
   ·exact h
  ·exact h
theorem zOh{env:S7}{n:Str}{c:V1}(e:env.cells.lookup n=Y c):∀(names:List (Str×NameKind))(cs:List (Str×V1)),(n,S3)∈names->(n,c)∈names.foldl (vV env) cs
 | [],_,h=>nomatch h
 | x::r,cs,h=>by
  rcases mD.mp h with z | z
  ·subst z
   refine zIy r _ ?_;unfold vV;rw[mQ (by rfl)];show(n,c)∈(match env.cells.lookup n with | some a=>(n,a)::cs | none=>cs)
   rw[e];exact mF
  ·exact zOh e r _ z
theorem jQ{α:Type}{n:Str}{c:α}:∀{l:List (Str×α)},(n,c)∈l->∃c',l.lookup n=Y c'
 | [],h=>nomatch h
 |(m,d)::r,h=>by
  by_cases e:n=m
  ·subst e;exact{d,by simp[rO]}
  ·rcases mD.mp h with z | z
   ·cases z;exact absurd O e
   ·obtain⟨c',q⟩:=jQ z
    let e2:(n==m)=false:=by simpa using e
    exact{c',by rw[rO,e2];exact q}
theorem zUn{env:S7}{names:List (Str×NameKind)}{n:Str}{c:V1}(h:(clo env names).lookup n=Y c):env.cells.lookup n=Y c:=
 zMw names [] (λ_ z=>nomatch z) (n,c) (rM h)
theorem zDk{env:S7}{names:List (Str×NameKind)}{n:Str}{c:V1}(e:env.cells.lookup n=Y c)(h:(n,S3)∈names):(clo env names).lookup n=Y c:=by
 obtain⟨c',q⟩:=jQ (zOh e names [] h);let q':(clo env names).lookup n=Y c':=q;let z:=zUn q';rw[e] at z;rw[q',<-z]
inductive FreeOk (X:Cx) (scope:Scope):List (Str×Nat)->Prop where
 | nil:FreeOk X scope []
 | cons {x:Str} {i:Nat} {r:List (Str×Nat)} (h1:X.N[i]? =Y x) (h2:X.env.kindOf x=some .cell) (h3:scope.names.lookup x=some .free) (h:FreeOk X scope r):FreeOk X scope ((x,i)::r)
theorem FreeOk.mem{X:Cx}{scope:Scope}:∀{F:List (Str×Nat)},FreeOk X scope F->∀p∈F,X.N[p.2]? =Y p.1/\X.env.kindOf p.1=some .cell/\scope.names.lookup p.1=some .free
 | _, .nil,_,h=>nomatch h
 | _, .cons h1 h2 h3 h,p,hp=>by
  rcases mD.mp hp with z | z
  ·subst z;exact⟨h1,h2,h3⟩
  ·exact h.mem p z
structure CompSc(X:Cx)(scope:Scope)(own:List Str)(F:List (Str×Nat)):Prop where
 kind:scope.kind= .function
 nocell:(scope.names.all λy=>!(y.2==NameKind.cell))=true
 loc:(scope.names.all λy=>!(y.2==NameKind.local)||(scope.names.lookup y.1==Y NameKind.local))=true
 fr:(scope.names.all λy=>!(y.2==S3)||(X.env.scope.names.lookup y.1==Y NameKind.cell))=true
 free:FreeOk X scope F
def wB(own:List Str)(F:List (Str×Nat)):List Str:=own++F.map (·.1)
def uU(own:List Str)(F:List (Str×Nat))(σ:St):St:=own.map (λ_=>Option.none)++F.map (λp=>(σ[p.2]?).join)
def wT(X:Cx)(own:List Str)(F:List (Str×Nat))(scope:Scope)(C:V1)(s₃:V2)(H₃:Hp)(ex:List V1):Cx where
 prog:=X.prog
 w:=X.w
 K:=X.K
 mg:=X.mg
 base:=X.base
 A:=X.A
 N:=wB own F
 s₀:=s₃
 H₀:=H₃
 env:=compEnvC scope (clo X.env scope.names) C X.env
 outer:=X.stack
 stack:=X.stack
 ex:=ex
 fn:=λ_=>false
 calm:=X.calm
 pn:=[]
 xe:=λ_ _=>False
theorem CompSc.nc{X:Cx}{scope:Scope}{own:List Str}{F:List (Str×Nat)}(S:CompSc X scope own F):∀y∈scope.names,y.2≠ .cell:=λy hy e=>by
 let q:=rD.mp S.nocell y hy;rw[e] at q;exact absurd q ∎
theorem CompSc.lc{X:Cx}{scope:Scope}{own:List Str}{F:List (Str×Nat)}(S:CompSc X scope own F):∀y∈scope.names,y.2= .local->scope.names.lookup y.1=some .local:=λy hy e=>by
 let q:=rD.mp S.loc y hy;rw[e] at q
 simpa using q
theorem CompSc.fc{X:Cx}{scope:Scope}{own:List Str}{F:List (Str×Nat)}(S:CompSc X scope own F):∀y∈scope.names,y.2= .free->X.env.kindOf y.1=some .cell:=λy hy e=>by
 let q:=rD.mp S.fr y hy;rw[e] at q;let q':X.env.scope.names.lookup y.1=Y NameKind.cell:=by simpa using q
 exact q'
theorem zHm{scope:Scope}{env:S7}(hc:∀y∈scope.names,y.2≠ .cell){x:Str}(h:(relabel scope env).names.lookup x=some .cell\/(relabel scope env).names.lookup x=some .free):(x,S3)∈scope.names:=by
 let go:∀k,(relabel scope env).names.lookup x=Y k->k= .cell\/k= .free->(x,S3)∈scope.names:=λk e hk=>by
  let m:=rM e;unfold relabel at m;obtain⟨⟨n,k0⟩,hm,e2⟩:=nW.mp m
  by_cases hf:k0= .free
  ·subst hf
   dsimp only at e2;split at e2<;>(cases e2;exact hm)
  ·let e3:(k0==S3)=false:=by simpa using hf
   simp only[e3,sQ,sW,bD] at e2;cases e2;rcases hk with z | z
   ·exact absurd z (hc _ hm)
   ·exact absurd z hf
 rcases h with h | h
 ·exact go _ h (.inl O)
 ·exact go _ h (.inr O)
theorem qZ{env:S7}(hf:env.scope.kind= .function):∀{names:List (Str×NameKind)}{x:Str},names.lookup x=some .free->env.kindOf x=some .cell->
  (names.map fun(n,k)=>if(k==S3 && env.scope.kind== .function && env.kindOf n==some .cell) then(n,NameKind.cell) else(n,k)).lookup x=some .cell
 | [],_,h,_=>by simp at h
 |(n,k)::r,x,h,hx=>by
  let ih:=@qZ env hf r x;rw[mZ]
  by_cases e:x=n
  ·subst e
   let hk:k= .free:=by simpa [rO] using h
   subst hk;let c:(S3==S3 && env.scope.kind== .function && env.kindOf x==some .cell)=true:=by rw[hf,hx];rfl
   show List.lookup x ((if(S3==S3 && env.scope.kind== .function && env.kindOf x==some .cell)=true then(x,NameKind.cell) else(x,S3))::_)=_;rw[mQ c];simp[rO]
  ·let e2:(x==n)=false:=by simpa using e
   let h':r.lookup x=some .free:=by rw[rO,e2] at h;exact h
   let q:=ih h' hx;dsimp only;split
   ·rw[rO,e2];exact q
   ·rw[rO,e2];exact q
section
variable{X:Cx}{pins:List (V1×Obj)}{σ:St}{H:Hp}{s:V2}
theorem Inv.freeCells{scope:Scope}{own:List Str}{F:List (Str×Nat)}(I:Inv X pins σ H s)(S:CompSc X scope own F):∀x∈scope.names,x.2= .free->∃c,X.env.cells.lookup x.1=Y c:=λx hx e=>
 I.ok.has x.1 (.inl (S.fc x hx e))
theorem Inv.notStk(I:Inv X pins σ H s){b:V1}(h1:b≠X.env.locals)(h2:b∉X.fs):b∉frs X.stack:=λz=>(mD.mp (I.stkSub b z)).elim h1 h2
theorem zLz{scope:Scope}{own:List Str}{F:List (Str×Nat)}{fp:List V1}{h1:V5}{tk:Nat}(I:Inv X pins σ H s)(S:CompSc X scope own F)(hf:∀b∈fp,zDs X pins H b)(hlt:∀b∈fp,b<s⁻¹){s3:V2}
  (e3:s3={s with heap:=s.heap.push {cls:=.type "list",data:=.seq ([]:List V0).toArray}})
  (hns:h1.Ns s3⁻¹ (λ_=>none)) (hk:∀b o,s3.heap.get? b=Y o->h1.get? b=Y o):
  Inv (wT X own F scope s3⁻¹ s3 H (s⁻¹::fp)) [] (uU own F σ) H {s3 with heap:=h1,toks:=tk}:=by
 let sz3:s3⁻¹=s⁻¹+1:=by rw[e3];exact tM ..
 let k3:∀b o,s.heap.get? b=Y o->s3.heap.get? b=Y o:=λb o e=>by rw[e3];exact mJ _ e
 let I3:Inv X pins σ H s3:=by rw[e3];exact I.kept (t':=s.toks) λb o e=>mJ _ e
 let lkup:∀x c,(clo X.env scope.names).lookup x=Y c->X.env.cells.lookup x=Y c:=λx c e=>zUn e;let base_lt:∀b o,X.base.get? b=Y o->b<X.s₀⁻¹:=λb o e=>nO (nB e) I.ok.bsz;let kf:X.env.scope.kind= .function:=I.ok.kind;refine{⟨I.ok.mod,S.kind,I.ok.glob,I.ok.blt,mE _,λx y c h1 h2=>I.ok.inj x y c (lkup x c h1) (lkup y c h2),λx hx=>?_,λx c hx _=>(nomatch hx),I.ok.hd,I.ok.frames, .inl O,λb hb=>?_,λb o e=>?_, ?_,λb o e hb=>?_,λb hb=>?_,I3.stack,λb hb=>I.stkFree b hb⟩,
  rfl,I3.bare,Un.kept hk,{_,hns,λi x v e1 e2 e3'=>?_},λx c e=>?_, ?_,λx c e=>I.freeC x c (lkup x c e),λp hp=>absurd (show p∈([]:List (V1×Obj)) from hp) (by simp),I3.hok.kept hk, ?_}
 ·let hm:=zHm S.nc hx
  obtain⟨c,e⟩:=I.freeCells S _ hm O;exact{c,zDk e hm}
 ·rcases mD.mp hb with z | z
  ·subst z
   refine{λq=>?_,λx c e q=>?_}
   ·let q':s⁻¹=s3⁻¹:=q
    lia
   ·obtain⟨v,u⟩:=I.cell x c (lkup x c e)
    exact absurd u.lt (by rw[q];exact sM _)
  ·refine{λq=>?_,λx c e=>(hf b z).2.2.2.2.1 x c (lkup x c e)}
   exact nQ (nO (hlt b z) (show s⁻¹<=s3⁻¹ by lia)) q
 ·obtain⟨a1,a2⟩:=I.bs b o e
  exact⟨k3 b o a1,a2⟩
 ·exact pC (pC I.ok.bsz I.sz) (by show s⁻¹<=s3⁻¹;lia)
 ·let l1:=base_lt b o e
  rcases mD.mp hb with z | z
  ·exact absurd (nO l1 I.sz) (by rw[z];exact sM _)
  ·rcases(hf b z).2.2.2.1 with q | q
   ·exact I.ok.noex b o e q
   ·exact absurd l1 (Nat.not_lt.mpr q)
 ·rcases mD.mp hb with z | z
  ·subst z
   exact I.notStk (rF I.lt) (I.nofs (mE _))
  ·exact I.notStk (hf b z).2.1 (hf b z).2.2.1
 ·-- a name that is seen
  let hi:own...*<=i:=by
   by_cases z:i<own...*
   ·rw[uU,pL (by simpa using z),nH] at e2
    cases q:own[i]? with
    | none=>rw[q] at e2;cases e2
    | some y=>rw[q] at e2;cases e2
   ·lia
  rw[uU,pH (by simpa using hi),nH] at e2;let e1':(own++F.map (·.1))[i]? =Y x:=e1;rw[pH hi,nH] at e1';simp only[mL] at e2
  cases q:F[i - own...*]? with
  | none=>rw[q] at e2;cases e2
  | some p=>
   rw[q] at e1' e2;simp only[Option.map_some,Option.some.injEq] at e1' e2;obtain⟨f1,f2,f3⟩:=S.free.mem p (mP q);subst e1';obtain⟨m,hn,hl⟩:=I.loc;let e4:σ[p.2]? =Y ↥v:=by
    cases r:σ[p.2]? with
    | none=>rw[r] at e2;cases e2
    | some o=>rw[r] at e2;exact congrArg some e2
   obtain⟨u,ru,l⟩:=hl p.2 p.1 v f1 e4 (.inr (.inl f2));refine{u,ru, .inr {.inl (qZ kf f3 f2), ?_}};rcases l with⟨l,_⟩|⟨_,c,ec,z⟩
   ·rw[f2] at l;cases l
   ·refine{c,zDk ec (rM f3), ?_}
    obtain⟨oc,ho,hd⟩:=z;exact{oc,hk _ _ (k3 _ _ ho),hd}
 ·refine xV (I.cell x c (lkup x c e)) λv oc ho hd=>?_
  exact{v,oc,hk _ _ (k3 _ _ ho),hd}
 ·exact I.hok.fresh (by show s⁻¹<=s3⁻¹;lia)
 ·show(uU own F σ)...*=(wB own F)...*
  simp[uU,wB]
theorem zQa{scope:Scope}{own:List Str}{F:List (Str×Nat)}{fp:List V1}{s3 s4:V2}{σ':St}{H':Hp}{ys:List V}{its:List V0}{n:Nat}(I:Inv X pins σ H s)(hf:∀b∈fp,zDs X pins H b)
  (e3:s3={s with heap:=s.heap.push {cls:=.type "list",data:=.seq ([]:List V0).toArray}})
  (J:Inv (wT X own F scope s3⁻¹ s3 H (s⁻¹::fp)) [] σ' H' s4) (hz:ys...*<=V9) (hv:Vals ys its)
  (ha:s4.heap.get? s⁻¹=some {cls:=.type "list",data:=.seq its.toArray n}) (hn:H' s⁻¹=none):Inv X pins σ (upd H' s⁻¹ (.lst ys)) s4:=by
 let sz3:s3⁻¹=s⁻¹+1:=by rw[e3];exact tM ..
 let k3:∀b o,s.heap.get? b=Y o->s3.heap.get? b=Y o:=λb o e=>by rw[e3];exact mJ _ e
 let U:Un (frs X.stack) (s⁻¹::fp) H H' s3.heap s4.heap:=J.base;let ne:∀b o,s.heap.get? b=Y o->b≠s⁻¹:=λb o e=>nQ (nB e);let nx:∀b o,s.heap.get? b=Y o->b∉fp->b∉s⁻¹::fp:=λb o e h z=>(mD.mp z).elim (ne b o e) h;let os4:s4.os=s.os:=by
  let q:s4.os=s3.os:=J.os;rw[q,e3]
 refine I.call' (ch:=fp) os4 ⟨λb o e z hb hx=>U.keep b o (k3 b o e) z hb (nx b o e hx),λb o e z hb hx=>U.slot b o (k3 b o e) z hb (nx b o e hx),λb o e z hx=>?_,λb o e hx=>U.there b o (k3 b o e) (nx b o e hx),λb xs e=>?_,λb o u e=>?_,λb ps e=>?_⟩ (λb u e=>?_) J.bare λb hb=>?_
 ·rw[zM (ne b o e)]
  exact U.free b o (k3 b o e) z (nx b o e hx)
 ·let q:=U.tups b xs e
  rw[zM (yK q hn)];exact q
 ·let q:=U.frzs b o u e
  rw[zM (yK q hn)];exact q
 ·obtain⟨more,q⟩:=U.tbls b ps e
  exact{more,by rw[zM (yK q hn)];exact q}
 ·by_cases hb:b=s⁻¹
  ·subst hb
   rw[zB] at e;cases e;exact⟨hz,its,n,hv,ha⟩
  ·rw[zM hb] at e
   exact(J.hok b u e).stay (λ_ _ _ q=>q) (λc q=>by rw[zM (yK q hn)];exact q) λc xs q=>by rw[zM (yK q hn)];exact q
 ·refine yO (hf b hb) λ_ f1 _ f3 f4 f5=>?_
  exact⟨f3,f1,f4,f5⟩
theorem zEr{H':Hp}{s4:V2}{C:V1}{h':V5}{σ4:St}(I:Inv X pins σ H s)(hC:s⁻¹<=C)(I4:Inv X pins σ4 H' s4)(hn:H' C=none)(hs:Heap.SameBut C s4.heap h'):Inv X pins σ4 H' {s4 with heap:=h'}:=by
 let q:=I4.turned (it:=C) (t':=s4.toks) (h':=h') (λb o hb e=>(hs.2 b hb).trans e) hn (rF (nO I.lt hC)) (.inr (pC I.sz hC)) (λx c e z=>?_) (λp hp z=>?_)
 ·exact q
 ·obtain⟨v,u⟩:=I.cell x c e
  exact absurd (nO u.lt (by rw[z];exact hC)) (sM _)
 ·exact absurd (nO (nB (I.pin p hp).1) (by rw[z];exact hC)) (sM _)
end
def PTs(X:Cx)(ifs:List Expr)(t:TT):Prop:=
 ∀(pins:List (V1×Obj))(s:V2)(σ:St)(H:Hp)(Q:Bool->Hp->Prop),Inv X pins σ H s->t σ H Q->
  V8 (S5 X.prog X.w) X.A (forIn ifs true λc r=>if r=true then do let ok <-isTrue c X.env (eval c X.env);pure (ForInStep.yield ok) else pure (ForInStep.yield r)) (TP X pins σ Q) X.xe s
def zBe:TT:=λ_ H Q=>Q true H
theorem yX{X:Cx}:PTs X [] zBe:=λ_ _ _ H _ I h=>wpAny_tests_nil ⟨H,I,h⟩
theorem zWk{X:Cx}{c:Expr}{t:TT}(h:PT X c t):PTs X [c] t:=λpins s σ H Q I q=>wpAny_tests_one (h pins s σ H Q I q)
theorem zIo{prog:V3}{w:V4}{A:Around}{R:Result->V2->Prop}{s:V2}{elt target iter:Expr}{ifs:List Expr}{scope:Scope}{pos:Pos}{it acc:V0}{env:S7}(I:Nat->V2->Prop)
  (turn:∀n s,I n s->V8 (S5 prog w) A (pyNext it) (λr s₁=>match r with
   | none=>R (.ok .next) s₁
   | some v=>V8 (S5 prog w) A (letOwnedTupleGo target it v) (λ_ s₂=>V8 (S5 prog w) A (assign target env v) (λ_ s₃=>
     V8 (S5 prog w) A (forIn ifs true λc r=>if r=true then do let ok <-isTrue c env (eval c env);pure (ForInStep.yield ok) else pure (ForInStep.yield r)) (λok s₄=>
      if ok=true then V8 (S5 prog w) A (eval elt env) (λx s₅=>
       V8 (S5 prog w) A (call (.builtin "list.append") [acc,x]) (λ_ s₆=>∃m,m<n/\I m s₆) (λ_ _=>False) s₅) (λ_ _=>False) s₄
      else∃m,m<n/\I m s₄) (λ_ _=>False) s₃) (λ_ _=>False) s₂) (λ_ _=>False) s₁) (λ_ _=>False) s)
  (n:Nat) (h:I n s):codeAny (S5 prog w) A (.compLoop (.ListComp elt [{target,iter,ifs,0}] scope pos) 0 it acc env) R s:=by
 refine codeAny_loop O I (λn s hI=>?_) n h;show V8 _ A ((compTurn (.ListComp elt [{target,iter,ifs,0}] scope pos) 0 it acc env).onRaise (λx=>do noteFrame x env;theTreesLotGoes x)) _ _ s;refine wpAny_noted ?_;rw[compTurn_list];refine mC (sC (mC (pO (turn n s hI) (λr s₁ h₁=>?_) λ_ _ f=>f.elim)))
 cases r with
 | none=>exact mN h₁
 | some v=>
  refine mC (pO h₁ (λ_ s₂ h₂=>mC (pO h₂ (λ_ s₃ h₃=>mC (pO h₃ (λok s₄ h₄=>?_) λ_ _ f=>f.elim)) λ_ _ f=>f.elim)) λ_ _ f=>f.elim)
  cases ok with
  | false=>exact mN ⟨O,h₄⟩
  | true=>exact mC (mC (pO h₄ (λx s₅ h₅=>mC (pO h₅ (λ_ s₆ h₆=>mN (mN ⟨O,h₆⟩)) λ_ _ f=>f.elim)) λ_ _ f=>f.elim))
def yDe(σ σ':St):Prop:=σ'...*=σ...*/\∀(i:Nat) v,σ'[i]? =Y ↥v->σ[i]? =Y ↥v
theorem zUr{σ:St}{i:Nat}{v:Option V}(h:σ[i]? =Y none):yDe (σ.set i v) σ:=by
 refine{by simp,λj u e=>?_}
 by_cases hj:i=j
 ·subst hj;rw[h] at e;cases e
 ·rw[tG hj];exact e
def wX(own:List Str)(F:List (Str×Nat))(g:TG)(tt:TT)(te:TE)(σ:St)(Q:VK)(J:It)(H1:Hp):Prop:=∃W:Nat->Nat->List V->Hp->Prop,(∃m,W 0 m [] H1)/\∀i m ys H',W i m ys H'->ys...*<=i->
 (J.stop i H'/\i<=V9/\∀p,H' p=none->Q (.ref p) (upd H' p (.lst ys)))\/
 (J.go i H'/\i<V9/\∃N:List V->Hp->Prop,(∀ys' H'',N ys' H''->∃m',m'<m/\W (i+1) m' ys' H'')/\
  ∀x H2,J.yld i H' x H2->g x (uU own F σ) H2 λσ3 H3=>yDe σ3 (uU own F σ)/\tt σ3 H3 λb H4=>if b=true then te σ3 H4 λy H5=>N (ys++ [y]) H5 else N ys H4)
def zFi(own:List Str)(F:List (Str×Nat))(wi:TI)(g:TG)(tt:TT)(te:TE):TE:=λσ H Q=>wi σ H λJ H1=>wX own F g tt te σ Q J H1
section
variable{X:Cx}{scope:Scope}{own:List Str}{F:List (Str×Nat)}{elt tg iter:Expr}{ifs:List Expr}{pos:Pos}{wi:TI}{g:TG}{tt:TT}{te:TE}
abbrev xD(s:V2):V2:={s with heap:=s.heap.push {cls:=.type "list",data:=.seq ([]:List V0).toArray}}
theorem zJm{pins:List (V1×Obj)}{σ:St}{H:Hp}{s:V2}{Q:VK}{RR:V1->Result->V2->Prop}{it:V1}{fp:List V1}{tn:Nat->V5->Prop}{J:It}(S:CompSc X scope own F)(hc:X.calm=true)
  (hg:∀C s₃ H₃ ex,PG (wT X own F scope C s₃ H₃ ex) tg g) (ht:∀C s₃ H₃ ex,PTs (wT X own F scope C s₃ H₃ ex) ifs tt) (he:∀C s₃ H₃ ex,PE (wT X own F scope C s₃ H₃ ex) elt te)
  (I:Inv X pins σ H s) (T:zIb X.prog X.w X.K tg J fp it tn) (st:tn 0 s.heap) (hf:∀b∈fp,zDs X pins H b)
  (h:wX own F g tt te σ Q J H)
  (hR:∀C s4 H4,s⁻¹<=C->C≠s⁻¹->Inv X pins σ H4 s4->Q (.ref s⁻¹) H4->H4 C=none->(∃m,s4.heap.Ns C m)->RR C (.ok .next) s4):
  V8 (S5 X.prog X.w) X.A (newList []) (λacc s₃=>V8 (S5 X.prog X.w) X.A (newFunctionEnv scope X.env.globals (clo X.env scope.names) [] X.env.qual none .none ↥X.env) (λcenv s₄=>
   codeAny (S5 X.prog X.w) X.A (.compStart (.ListComp elt [{tg,iter,ifs,0}] scope pos) 0 (.ref it) acc {cenv with scope:=relabel scope X.env}) (λr s'=>acc= .ref s⁻¹/\RR cenv.locals r s') s₄) X.xe s₃) X.xe s:=by
 obtain⟨W,⟨m0,w0⟩,turn⟩:=h;let hlt:∀b∈fp,b<s⁻¹:=λb hb=>by
  obtain⟨o,e,_⟩:=T.obj _ _ st b hb;exact nB e
 refine cW (wpAny_newFunctionEnv S.nc (by intro y hy;simp at hy) (λh₁ hns₁ hsb₁=>?_) S.kind);dsimp only at hns₁ hsb₁⊢;let e3':xD s={s with heap:=s.heap.push {cls:=.type "list",data:=.seq ([]:List V0).toArray}}:=rfl;let sz3:(xD s)⁻¹=s⁻¹+1:=tM ..;let k3:∀b o,(xD s).heap.get? b=Y o->h₁.get? b=Y o:=λb o e=>hsb₁.extBut b o (nQ (nB e)) (mJ _ e);let k2:∀b o,s.heap.get? b=Y o->(xD s).heap.get? b=Y o:=λb o e=>mJ _ e;let hns:h₁.Ns (xD s)⁻¹ (λ_=>none):=by simpa using hns₁
 let I0:Inv (wT X own F scope (xD s)⁻¹ (xD s) H (s⁻¹::fp)) [] (uU own F σ) H {xD s with heap:=h₁,toks:=(xD s).toks+([]:List (Str×V0))...*}:=zLz I S hf hlt e3' hns k3;let acc0:h₁.get? s⁻¹=some {cls:=.type "list",data:=.seq ([]:List V0).toArray 0}:=k3 _ _ (nM _ O);let ht0:tn 0 h₁:=T.keep _ _ _ st λb _ o e=>k3 b o (k2 b o e);let loop:codeAny (S5 X.prog X.w) X.A (.compLoop (.ListComp elt [{tg,iter,ifs,0}] scope pos) 0 (.ref it) (.ref s⁻¹) (compEnvC scope (clo X.env scope.names) (xD s)⁻¹ X.env)) (RR (xD s)⁻¹) {xD s with heap:=h₁,toks:=(xD s).toks+([]:List (Str×V0))...*}:=by
  refine zIo (λn s'=>∃i ys H' its k,Inv (wT X own F scope (xD s)⁻¹ (xD s) H (s⁻¹::fp)) [] (uU own F σ) H' s'/\tn i s'.heap/\(∀b∈fp,H' b=none)/\H' s⁻¹=none/\
   Vals ys its/\s'.heap.get? s⁻¹=some {cls:=.type "list",data:=.seq its.toArray k}/\ys...*<=i/\W i n ys H') ?_ m0 {0,[],H,[],0,I0,ht0,λb hb=>(hf b hb).1,I.hok.fresh (mE _), .nil,acc0,mE _,w0}
  intro n s5 z_;ext xO z_ i ys H5 its k z_;ext yO z_ I5 t5 fr5 ha5 v5 z_;ext oAA z_ o5 l5 w5;let pn5:Inv (wT X own F scope (xD s)⁻¹ (xD s) H (s⁻¹::fp)) [(s⁻¹,{cls:=.type "list",data:=.seq its.toArray k})] (uU own F σ) H5 s5:=I5.pins_of λp hp=>by
   let z:p=(s⁻¹,{cls:=.type "list",data:=.seq its.toArray k}):=by simpa using hp
   subst z;obtain⟨x1,x2⟩:=I0.ok.exf s⁻¹ mF;exact{o5,ha5,x1,I0.ok.exfs _ mF,λv z=>by cases z}
  let fp5:∀{H':Hp},(∀b∈fp,H' b=none)->∀b∈fp,zDs (wT X own F scope (xD s)⁻¹ (xD s) H (s⁻¹::fp)) [(s⁻¹,{cls:=.type "list",data:=.seq its.toArray k})] H' b:=λ{H'} hn b hb=>by
   obtain⟨x1,x2⟩:=I0.ok.exf b (mH _ hb);refine{hn b hb,x1,I0.ok.exfs b (mH _ hb), .inl (mH _ hb),x2,λp hp=>?_};let z:p=(s⁻¹,{cls:=.type "list",data:=.seq its.toArray k}):=by
    let hp':p∈([]:List (V1×Obj))++ [(s⁻¹,{cls:=.type "list",data:=.seq its.toArray k})]:=hp
    simpa using hp'
   subst z;exact rF (hlt b hb)
  rcases turn i n ys H5 w5 l5 with⟨stop,hz,q⟩|⟨go,hz,N,hN,step⟩
  ·refine thn (T.done (wT X own F scope (xD s)⁻¹ (xD s) H (s⁻¹::fp)) O O O hc i _ s5 _ H5 (λ_ _=>False) pn5 (fp5 fr5) t5 stop) λr s6 ⟨hr,I6⟩=>?_
   subst hr;obtain⟨a6,b6,_⟩:=I6.pin (s⁻¹,{cls:=.type "list",data:=.seq its.toArray k}) (nI _ (mG.mpr O));let J6:=I6.pins_of (pins':=[]) (λp hp=>nomatch hp);let I7:=zQa I hf e3' J6 (pC l5 hz) v5 a6 b6;let hC:H5 (xD s)⁻¹=none:=J6.free;refine hR _ s6 _ (show s⁻¹<=(xD s)⁻¹ by lia) (λz=>by let z':(xD s)⁻¹=s⁻¹:=z;lia) I7 (q _ b6) (by rw[zM (λz=>by let z':(xD s)⁻¹=s⁻¹:=z;lia)];exact hC) ?_;obtain⟨m,hn,_⟩:=J6.loc;exact⟨m,hn⟩
  ·refine thn (T.item (wT X own F scope (xD s)⁻¹ (xD s) H (s⁻¹::fp)) O O O hc i _ s5 _ H5 (λ_ _=>False) pn5 (fp5 fr5) t5 go) λr s6 ⟨u,hr,h6⟩=>?_
   subst hr;refine thn h6 λ_ s7 ⟨x,H7,I7,r7,y7,t7,fr7⟩=>?_;let J7:=I7.pinned (fp5 fr7) (T.obj _ _ t7);refine thn (hg _ _ _ _ _ s7 _ H7 x u _ J7 r7 (step x H7 y7)) λ_ s8 ⟨σ8,H8,I8,wk,q8⟩=>?_;refine thn (ht _ _ _ _ _ s8 σ8 H8 _ I8 q8) λok s9 ⟨H9,I9,q9⟩=>?_;let keep:∀{σ':St}{H':Hp}{s':V2},Inv (wT X own F scope (xD s)⁻¹ (xD s) H (s⁻¹::fp)) ([(s⁻¹,{cls:=.type "list",data:=.seq its.toArray k})]++zDy fp s7.heap) σ' H' s'->
     tn (i+1) s'.heap/\(∀b∈fp,H' b=none)/\H' s⁻¹=none/\s'.heap.get? s⁻¹=some {cls:=.type "list",data:=.seq its.toArray k}:=λ{σ' H' s'} J=>by
    let pa:=J.pin (s⁻¹,{cls:=.type "list",data:=.seq its.toArray k}) (nI _ (nV _ (mG.mpr O)));refine⟨T.keep _ _ _ t7 λb hb o e=>(J.pin (b,o) (nI _ (nI _ (gE hb e)))).1,λb hb=>?_,pa.2.1,pa.1⟩;obtain⟨o,e,d⟩:=T.obj _ _ t7 b hb;exact(J.pin (b,o) (nI _ (nI _ (gE hb e)))).2.1
   cases ok with
   | false=>
    rw[mK nF] at q9⊢;obtain⟨m',hm,w9⟩:=hN _ _ q9;refine wC (keep I9) λa1 a2 a3 a4=>?_;exact{m',hm,i+1,ys,H9,its,k,(I9.pins_of (pins':=[]) (λp hp=>nomatch hp)).weak wk.1 wk.2,a1,a2,a3,v5,a4,aH l5,w9}
   | true=>
    rw[mQ O] at q9⊢;refine thn (he _ _ _ _ _ s9 σ8 H9 _ I9 q9) λu' s10 ⟨y,H10,I10,r10,q10⟩=>?_;obtain⟨m',hm,w10⟩:=hN _ _ q10;refine wC (keep I10) λa1 a2 a3 a4=>?_;let hl:=v5...*;refine tY pV ⟨_,a4,O⟩ PySem.F.entry_list_append (PySem.F.args_list_append_2 _ _) (PySem.list_append s⁻¹ its.toArray k u' (by rw[mY];lia)) {a4, ?_};let q:=PySem.IsL.update a4 (λxs:Array V0=>xs.push u');let eq:its.toArray.push u'=(its++ [u']).toArray:=by simp
    rw[eq] at q;obtain⟨x1,x2⟩:=I0.ok.exf s⁻¹ mF;let I11:=(I10.pins_of (pins':=[]) (λp hp=>nomatch hp)).turned (it:=s⁻¹) (t':=s10.toks) (h':=s10.heap.update s⁻¹ (Obj.mapSeq (λxs:Array V0=>xs.push u'))) (λb o hb e=>(mX s10.heap _ (Ne.symm hb)).trans e) a3 x1 (.inl mF) x2 (λp hp=>absurd (show p∈([]:List (V1×Obj)) from hp) (by simp));refine{m',hm,i+1,ys++ [y],H10,its++ [u'],_,I11.weak wk.1 wk.2, ?_,a2,a3,v5.append (.cons r10 .nil),q,by rw[mM,nL];lia,w10};exact T.keep _ _ _ a1 λb hb o e=>(mX s10.heap _ (rF (hlt b hb))).trans e
 let loop':=sJ loop (R':=λr s'=>Value.ref s⁻¹= .ref s⁻¹/\RR (xD s)⁻¹ r s') λr s' z=>⟨O,z⟩;exact codeAny_compStart_list loop' (T.self X.A 0 _ _ _ ht0 loop')
theorem xP(S:CompSc X scope own F)(hc:X.calm=true)(hi:PI X tg iter wi)
  (hg:∀C s₃ H₃ ex,PG (wT X own F scope C s₃ H₃ ex) tg g) (ht:∀C s₃ H₃ ex,PTs (wT X own F scope C s₃ H₃ ex) ifs tt) (he:∀C s₃ H₃ ex,PE (wT X own F scope C s₃ H₃ ex) elt te)
  (hs:∀x,foldedSetIterable iter X.env x=pure x:=by intro _;rfl):PE X (.ListComp elt [{tg,iter,ifs,0}] scope pos) (zFi own F wi g tt te):=by
 intro pins s σ H Q I h;rw[eval_ListComp];refine wpAny_comprehension_free (use:=none) O hs (uI (I.freeCells S)) S.kind S.lc ?_;refine thn (hi pins s σ H _ I h) λv s1 h1=>thn h1 λitv s2 ⟨it,fp,tn,J,H2,e,I2,T,st2,f2,q2⟩=>?_;subst e;refine thn (zJm (Q:=Q) (RR:=λC r s'=>compPost (S5 X.prog X.w) X.A X.xe none (EP X pins σ Q) (.ref s2⁻¹) C r s') S hc hg ht he I2 T st2 f2 q2 λC s4 H4 c1 c2 I4 q4 n4 hm=>?_) λacc s3 h3=>thn h3 λcenv s4 h4=>sJ h4 λr s' ⟨ea,hr⟩=>?_
 ·obtain⟨m,hn⟩:=hm
  exact{m,hn,λh' hs'=>{.ref s2⁻¹,H4,zEr I2 c1 I4 n4 hs',O,q4}}
 ·rw[ea];exact hr
theorem uT{i:Nat}{x:Str}{pos' spos:Pos}(hN:X.N.Nodup)(hi':X.N[i]? =Y x)(hx:Loc X.env.scope x)(S:CompSc X scope own F)(hc:X.calm=true)(hi:PI X tg iter wi)
  (hg:∀C s₃ H₃ ex,PG (wT X own F scope C s₃ H₃ ex) tg g) (ht:∀C s₃ H₃ ex,PTs (wT X own F scope C s₃ H₃ ex) ifs tt) (he:∀C s₃ H₃ ex,PE (wT X own F scope C s₃ H₃ ex) elt te)
  (hsw:S1 (.ListComp elt [{tg,iter,ifs,0}] scope pos) ↥(.Name x pos') spos.line X.env=pure true:=by rfl)
  (hs:∀x,foldedSetIterable iter X.env x=pure x:=by intro _;rfl) (hf:X.fn x=true\/X.env.scope.names.lookup x=some .local:=by first | exact .inl O | exact .inr O | assumption):
  PS X (.Assign [.Name x pos'] (.ListComp elt [{tg,iter,ifs,0}] scope pos) spos) (zQp (zFi own F wi g tt te) (qV i)):=by
 intro pins s σ H D I h;rw[exec_Assign_Name_used x pos' _ _ hsw];refine mC (sC (mC ?_));refine mC ?_;refine pO (Q:=λ_ s'=>SP X pins D .next s') ?_ (λ_ s' q=>mN (mN q)) λ_ _ z=>z;refine wpAny_comprehension_free (use:=Y (assign (.Name x pos') X.env)) O hs (uI (I.freeCells S)) S.kind S.lc ?_;refine thn (hi pins s σ H _ I h) λv s1 h1=>thn h1 λitv s2 ⟨it,fp,tn,J,H2,e,I2,T,st2,f2,q2⟩=>?_;subst e;refine thn (zJm (Q:=λx H1=>qV i x σ H1 D.nx) (RR:=λC r s'=>compPost (S5 X.prog X.w) X.A X.xe ↥(assign (.Name x pos') X.env) (λ_ s'=>SP X pins D .next s') (.ref s2⁻¹) C r s') S hc hg ht he I2 T st2 f2 q2 λC s4 H4 c1 c2 I4 q4 n4 hm=>?_) λacc s3 h3=>thn h3 λcenv s4 h4=>sJ h4 λr s' ⟨ea,hr⟩=>?_
 ·obtain⟨m,hn⟩:=hm
  refine wpAny_assign_Name (zGj I4 hN hi' hx (v:=.ref s2⁻¹) O (λs5 I5 ⟨a,sb,ha⟩=>?_) hf);let aC:a≠C:=by
   rcases ha with z | z
   ·rw[z];exact nQ (nO I2.lt c1)
   ·obtain⟨v,u⟩:=I2.cell _ _ z
    exact nQ (nO u.lt c1)
  exact{m,hn.sameBut sb (Ne.symm aC),λh' hs'=>{_,H4,zEr I2 c1 I5 n4 hs',q4}}
 ·rw[ea];exact hr
end
inductive T where
 | non | bl (b:Bool)| int (i:Int)| str (x:List Nat)| lst (ts:List T)| dic (ks:List (List Nat)) (ts:List T)| tup (ts:List T)
mutual
def Rep(H:Hp):V->T->Prop
 | v, .non=>v= .non
 | v, .bl b=>v= .bl b
 | v, .int i=>v= .int i
 | v, .str x=>v= .str (tx x)
 | v, .lst ts=>∃a vs,v= .ref a/\H a=Y (.lst vs)/\Reps H vs ts
 | v, .dic ks ts=>∃a ps,v= .ref a/\H a=Y (.dK ps)/\ps.map (·.1)=ks.map (λk=>(Sum.inr (tx k):Key))/\Reps H (ps.map (·.2)) ts
 | v, .tup ts=>∃a vs,v= .ref a/\H a=Y (.tup vs)/\Reps H vs ts
def Reps(H:Hp):List V->List T->Prop
 | vs,[]=>vs= []
 | vs,t::ts=>∃v r,vs=v::r/\Rep H v t/\Reps H r ts
end
mutual
theorem Rep.same{H H':Hp}(e:Same H H'):∀(v:V)(t:T),Rep H v t->Rep H' v t
 | _, .non,h=>h
 | _, .bl _,h=>h
 | _, .int _,h=>h
 | _, .str _,h=>h
 | _, .lst ts,⟨a,vs,h1,h2,h3⟩=>{a,vs,h1,e _ _ h2,Reps.same e vs ts h3}
 | _, .dic ks ts,⟨a,ps,h1,h2,h3,h4⟩=>{a,ps,h1,e _ _ h2,h3,Reps.same e _ ts h4}
 | _, .tup ts,⟨a,vs,h1,h2,h3⟩=>{a,vs,h1,e _ _ h2,Reps.same e vs ts h3}
theorem Reps.same{H H':Hp}(e:Same H H'):∀(vs:List V)(ts:List T),Reps H vs ts->Reps H' vs ts
 | _,[],h=>h
 | _,t::ts,⟨v,r,h1,h2,h3⟩=>{v,r,h1,Rep.same e v t h2,Reps.same e r ts h3}
end
theorem Reps.snoc{H:Hp}{v:V}{t:T}(h:Rep H v t):∀{vs:List V}{ts:List T},Reps H vs ts->Reps H (vs++ [v]) (ts++ [t])
 | _,[],e=>by
  let e':_= []:=e;subst e';exact{v,[],O,h,O}
 | _,t'::ts,⟨v',r,h1,h2,h3⟩=>by
  subst h1;exact{v',r++ [v],O,h2,Reps.snoc h h3}
theorem Reps.length{H:Hp}:∀{vs:List V}{ts:List T},Reps H vs ts->vs...*=ts...*
 | _,[],e=>by
  let e':_= []:=e;subst e';rfl
 | _,t'::ts,⟨v',r,h1,h2,h3⟩=>by
  subst h1;simp[Reps.length h3]
theorem Reps.get{H:Hp}:∀{vs:List V}{ts:List T}{i:Nat}{v:V},Reps H vs ts->vs[i]? =Y v->∃t,ts[i]? =Y t/\Rep H v t
 | _,[],i,v,e,h=>by
  let e':_= []:=e;subst e';simp at h
 | _,t'::ts,0,v,⟨v',r,h1,h2,h3⟩,h=>by
  subst h1;simp at h;subst h;exact⟨t',O,h2⟩
 | _,t'::ts,i+1,v,⟨v',r,h1,h2,h3⟩,h=>by
  subst h1;obtain⟨t,e,q⟩:=Reps.get (i:=i) (v:=v) h3 (by simpa using h);exact{t,by simpa using e,q}
noncomputable def tyT:T->String
 | .non=>"NoneType"
 | .bl _=>"bool"
 | .int _=>"int"
 | .str _=>"str"
 | .lst _=>"list"
 | .dic _ _=>"dict"
 | .tup _=>"tuple"
theorem Rep.ty{H:Hp}{v:V}:∀{t:T},Rep H v t->tyS H v=Y (tyT t)
 | .non,h=>by cases (show v= .non from h);rfl
 | .bl b,h=>by cases (show v= .bl b from h);rfl
 | .int i,h=>by cases (show v= .int i from h);rfl
 | .str x,h=>by cases (show v= .str (tx x) from h);rfl
 | .lst ts,h=>by obtain⟨a,vs,e,h2,_⟩:=h;subst e;show(match H a with | some (.lst _)=>some "list" | some (.tup _)=>some "tuple" | some (.dK _)=>some "dict" | _=>none)=_;rw[h2];rfl
 | .dic ks ts,h=>by obtain⟨a,vs,e,h2,_⟩:=h;subst e;show(match H a with | some (.lst _)=>some "list" | some (.tup _)=>some "tuple" | some (.dK _)=>some "dict" | _=>none)=_;rw[h2];rfl
 | .tup ts,h=>by obtain⟨a,vs,e,h2,_⟩:=h;subst e;show(match H a with | some (.lst _)=>some "list" | some (.tup _)=>some "tuple" | some (.dK _)=>some "dict" | _=>none)=_;rw[h2];rfl
noncomputable def letL:List Nat:=(List.range 26).map (· +97)
noncomputable def zEw:List Nat:=(List.range 10).map (· +48)
noncomputable def zAs:List Nat:=((List.range 95).map (· +32)).filter (· !=37)
noncomputable def yQ(w:List Nat):Bool:=decide (1<=w...*)&& decide (w...*<=12)&& (match w with | []=>false | c::_=>decide (c∈letL))&& w.all (λc=>decide (c∈letL++zEw))
noncomputable def zBw(w:List Nat):Bool:=decide (w...*<=30)&& w.all (λc=>decide (c∈zAs))
mutual
def Nice:Nat->T->Prop
 | _, .non=>True
 | _, .bl _=>True
 | _, .int i=>-(10 ^ 12)<=i/\i<=10 ^ 12
 | _, .str x=>zBw x=true
 | d, .lst ts=>1<=d/\ts...*<=4/\NiceL (d - 1) ts
 | d, .dic ks ts=>1<=d/\ts...*<=4/\ks...*=ts...*/\ks.Nodup/\(∀k∈ks,yQ k=true)/\NiceL (d - 1) ts
 | _, .tup _=>False
def NiceL:Nat->List T->Prop
 | _,[]=>True
 | d,t::ts=>Nice d t/\NiceL d ts
end
theorem NiceL.snoc{d:Nat}{t:T}(h:Nice d t):∀{ts:List T},NiceL d ts->NiceL d (ts++ [t])
 | [],_=>⟨h,trivial⟩
 | _::ts,⟨a,b⟩=>{a,NiceL.snoc h b}
theorem zD{H:Hp}{p:V1}(h:H p=none)(o:HO):Same H (upd H p o):=λb u q=>by rw[zM (yK q h)];exact q
section
variable{K:A6}{H:Hp}{Q:VK}{a b:V1}{xs ys:List V}
theorem yBx{neg:Bool}(h1:SqL K H a xs)(h2:SqL K H b ys)(f1:xs.all gU=true)(f2:ys.all gU=true)(q:Q (.bl (if neg then !zFb xs ys else zFb xs ys)) H):rEqL K neg (.ref a) (.ref b) H Q:=
 ⟨a,b,xs,ys,O,O,h1,h2,f1,f2,q⟩
theorem zZ{i:Int}{v:V}(h1:SqL K H a xs)(h2:atI xs i=Y v)(q:Q v H):zYk K (.ref a) (.int i) H Q:=⟨a,xs,i,v,O,O,h1,h2,q⟩
theorem qK{i:Int}{v:V}(h1:SqT K H a xs)(h2:atI xs i=Y v)(q:Q v H):zRd K (.ref a) (.int i) H Q:=⟨a,xs,i,v,O,O,h1,h2,q⟩
theorem zBv{z:Str}{i:Int}{c:Nat}(h1:z...*<=V9)(h2:atI (ts z) i=Y c)(q:Q (.str (tx [c])) H):rIxS (.str z) (.int i) H Q:=⟨z,i,c,O,O,h1,h2,q⟩
end
theorem gW{α:Type}{xs:List α}{i:Int}(h0:0<=i)(h1:i<xs...*):∃v,atI xs i=Y v/\v∈xs:=by
 obtain⟨j,rfl⟩:=sO h0;let hj:j<xs...*:=by lia
 exact{xs[j],zV (by simp[hj]),sR hj}
theorem zVg{α:Type}{xs:List α}{i:Int}{d:α}(h0:0<=i)(h1:i<xs...*):atI xs i=Y (xs.getD i.toNat d):=by
 obtain⟨j,rfl⟩:=sO h0;let hj:j<xs...*:=by lia
 refine zV ?_;simp[List.getD,hj]
theorem zCm{x:Str}{F:List (Str×Nat)}{J:It}{n:Nat}{tt:TT}{te:TE}{σ:St}{Q:VK}{H1:Hp}(Pv:Nat->List V->Hp->Prop)(hn:n<=V9)(h0:Pv 0 [] H1)(hgo:∀i ys H,i<n->Pv i ys H->J.go i H)
  (hst:∀ys H,Pv n ys H->J.stop n H)
  (hs:∀i ys H y H2,i<n->ys...*<=i->Pv i ys H->J.yld i H y H2->tt (Y y::F.map (λp=>(σ[p.2]?).join)) H2 λb H3=>if b=true then te (Y y::F.map (λp=>(σ[p.2]?).join)) H3 λz H4=>Pv (i+1) (ys++ [z]) H4 else Pv (i+1) ys H3)
  (hd:∀ys H,ys...*<=n->Pv n ys H->∀p,H p=none->Q (.ref p) (upd H p (.lst ys))):wX [x] F (qV 0) tt te σ Q J H1:=by
 refine{λi m ys H=>m=n - i/\i<=n/\Pv i ys H,{n,by simp,nS _,h0}, ?_};rintro i m ys H ⟨rfl,hi,p⟩ hl
 by_cases hlt:i<n
 ·refine .inr {hgo i ys H hlt p,∅,Pv (i+1),λys' H'' q=>{n - (i+1),∅,O,hlt,q},λy H2 hy=>?_}
  exact{zUr (i:=0) O,hs i ys H y H2 hlt hl p hy}
 ·let e:i=n:=by lia
  subst e;exact .inl {hst ys H p,hn,hd ys H hl p}
theorem kH{x:Str}{F:List (Str×Nat)}{lo:Int}{n:Nat}{te:TE}{σ:St}{Q:VK}{H1:Hp}(Pv:Nat->List V->Hp->Prop)(hn:n<=V9)(h0:Pv 0 [] H1)
  (hs:∀(i:Nat) ys H,i<n->ys...*<=i->Pv i ys H->te (Y (.int (lo+i))::F.map (λp=>(σ[p.2]?).join)) H λz H4=>Pv (i+1) (ys++ [z]) H4)
  (hd:∀ys H,ys...*<=n->Pv n ys H->∀p,H p=none->Q (.ref p) (upd H p (.lst ys))):wX [x] F (qV 0) zBe te σ Q (Itr lo n) H1:=
 zCm Pv hn h0 (λi _ _ h _=>h) (λ_ _ _=>mE _) (λi ys H y H2 h1 h2 h3 h4=>by
  obtain⟨rfl,rfl⟩:=h4;exact hs i ys _ h1 h2 h3) hd
theorem zJz{x:Str}{F:List (Str×Nat)}{w:Str}{tt:TT}{te:TE}{σ:St}{Q:VK}{H1:Hp}(Pv:Nat->List V->Hp->Prop)(hn:(ts w)...*<=V9)(h0:Pv 0 [] H1)
  (hs:∀i c ys H,(ts w)[i]? =Y c->ys...*<=i->Pv i ys H->tt (Y (.str (tx [c]))::F.map (λp=>(σ[p.2]?).join)) H λb H3=>if b=true then te (Y (.str (tx [c]))::F.map (λp=>(σ[p.2]?).join)) H3 λz H4=>Pv (i+1) (ys++ [z]) H4 else Pv (i+1) ys H3)
  (hd:∀ys H,ys...*<=(ts w)...*->Pv (ts w)...* ys H->∀p,H p=none->Q (.ref p) (upd H p (.lst ys))):wX [x] F (qV 0) tt te σ Q (Its w) H1:=
 zCm Pv hn h0 (λi _ _ h _=>h) (λ_ _ _=>mE _) (λi ys H y H2 h1 h2 h3 h4=>by
  obtain⟨rfl,c,hc,rfl⟩:=h4;exact hs i c ys _ hc h2 h3) hd
section
variable{X:Cx}{x:Str}{pos:Pos}
theorem zZd{z:Str}(hg:Gl X x)(h:∃t,X.mg x=Y (.str z t))(hd:(x==("__debug__" :Str))=false:=by decide):PE X (.Name x pos) (tC (.str z)):=by
 obtain⟨t,h⟩:=h;exact zCl hg h ⟨t,O⟩ hd
theorem zDn{z:Int}(hg:Gl X x)(h:∃t,X.mg x=Y (.int z t))(hd:(x==("__debug__" :Str))=false:=by decide):PE X (.Name x pos) (tC (.int z)):=by
 obtain⟨t,h⟩:=h;exact zCl hg h ⟨t,O⟩ hd
end
theorem yDg{CX:CXT}{P:V3}{w:V4}{K:A6}{mg:Str->Option V0}{base:V5}{N:List Str}{qual:Str}{scope:Scope}{f:V1}{cd:V0}{A:Around}{outer:List S7}{s:V2}{H:Hp}{E:XK}:(zCj CX P w K mg base N qual scope f cd A outer s H E).K=K:=rfl
theorem nox_K{X:Cx}:X.nox.K=X.K:=rfl
theorem zRf{X:Cx}{own:List Str}{F:List (Str×Nat)}{scope:Scope}{C:V1}{s₃:V2}{H₃:Hp}{ex:List V1}:(wT X own F scope C s₃ H₃ ex).K=X.K:=rfl
theorem zQi(ns:List Int):(ns.map V.int).all gU=true:=by
 rw[cZ];exact rD.mpr λ_ _=>O
theorem zUm(xs:List V):zFb xs []=xs.isEmpty:=by cases xs<;>rfl
end L2
namespace L2
theorem zTs:Int.natAbs 10=10:=rfl
end L2
namespace L2
open PySem PySem.Spec PyProof.Rows
def zVc(g:TG)(tb:TS)(D:jL)(σ:St)(J:It)(H1:Hp):Prop:=∃W:Nat->Nat->St->Hp->Prop,(∃m,W 0 m σ H1)/\∀i m σ H,W i m σ H->
 (J.stop i H/\D.nx σ H)\/(J.go i H/\∃N:St->Hp->Prop,(∀σ' H',N σ' H'->∃m',m'<m/\W (i+1) m' σ' H')/\∀x H',J.yld i H x H'->g x σ H' λσ2 H2=>tb {D with nx:=N,ct:=N,bk:=D.nx} σ2 H2)
theorem zWg(wi:TI)(g:TG)(tb:TS)(D:jL)(σ:St)(H:Hp):tFor wi g tb D σ H=wi σ H λJ H1=>zVc g tb D σ J H1:=rfl
theorem qU{lo:Int}{n:Nat}{g:TG}{tb:TS}{D:jL}{σ:St}{H:Hp}(Pv:Nat->St->Hp->Prop)(h0:Pv 0 σ H)
  (hs:∀i σ H,i<n->Pv i σ H->g (.int (lo+i)) σ H λσ2 H2=>tb {D with nx:=Pv (i+1),ct:=Pv (i+1),bk:=D.nx} σ2 H2) (hd:∀σ H,Pv n σ H->D.nx σ H):zVc g tb D σ (Itr lo n) H:=zPc Pv h0 hs hd
theorem jF{K:A6}{a:V1}{xs:List V}{g:TG}{tb:TS}{D:jL}{σ:St}{H:Hp}(Pv:Nat->St->Hp->Prop)(h0:Pv 0 σ H)(hl:∀i σ H,i<=xs...*->Pv i σ H->SqL K H a xs)
  (hs:∀i x σ H,xs[i]? =Y x->Pv i σ H->g x σ H λσ2 H2=>tb {D with nx:=Pv (i+1),ct:=Pv (i+1),bk:=D.nx} σ2 H2) (hd:∀σ H,Pv xs...* σ H->D.nx σ H):zVc g tb D σ (Itl K a) H:=zTi Pv h0 hl hs hd
section
variable{X:Cx}
theorem xM:wH X (.type "int") (λxs H Q=>∃k,xs= [.bl k]/\Q (.int (if k then 1 else 0)) H):=λpins s σ H xs us Q I r h=>zPj pins s σ H xs us Q I r (.inr h)
theorem yL:wH X (.builtin "len") (λxs H Q=>∃p,xs= [.ref p]/\∃ys,SqL X.K H p ys/\Q (.int ys...*) H):=λpins s σ H xs us Q I r ⟨p,e,ys,h,q⟩=>gD pins s σ H xs us Q I r {p,ys,e, .inl h,q}
end
abbrev nK(k:List Nat):Key:=Sum.inr (tx k)
theorem uE{a b:List Nat}(h:nK a=nK b):a=b:=by
 let e:tx a=tx b:=Sum.inr.inj h;rw[<-vB a,e,vB]
theorem Reps.repl{H:Hp}{k:Key}{v:V}{t:T}(hv:Rep H v t):∀{ps:List (Key×V)}{ts:List T},Reps H (ps.map (·.2)) ts->∃ts',Reps H ((ps.map λkv=>if kv.1=k then(kv.1,v) else kv).map (·.2)) ts'/\ts'...*=ts...*/\∀u∈ts',u∈ts\/u=t
 | [],ts,h=>{ts,h,O,λu hu=>.inl hu}
 | p::ps,[],h=>by
  let h':(p::ps).map (·.2)= []:=h;cases h'
 | p::ps,u::ts,⟨v',r,e,h1,h2⟩=>by
  let e':p.2::ps.map (·.2)=v'::r:=e;injection e' with e1 e2;subst e1 e2;obtain⟨ts',r',l',m'⟩:=Reps.repl hv h2
  by_cases hk:p.1=k
  ·refine{t::ts',{v,_, ?_,hv,r'},by simp[l'],λz hz=>?_}
   ·rw[mZ,mQ hk,mZ]
   ·rcases mD.mp hz with q | q
    ·exact .inr q
    ·exact(m' z q).imp (mH _) id
  ·refine{u::ts',{p.2,_, ?_,h1,r'},by simp[l'],λz hz=>?_}
   ·rw[mZ,mK hk,mZ]
   ·rcases mD.mp hz with q | q
    ·exact .inl (by rw[q];exact mF)
    ·exact(m' z q).imp (mH _) id
theorem zWr{H:Hp}{ps:List (Key×V)}{ks:List (List Nat)}{ts:List T}{n:List Nat}{v:V}{t:T}(hk:ps.map (·.1)=ks.map nK)(hR:Reps H (ps.map (·.2)) ts)(nd:ks.Nodup)(hv:Rep H v t):
  ∃(ks':List (List Nat))(ts':List T),(vM ps (nK n) v).map (·.1)=ks'.map nK/\Reps H ((vM ps (nK n) v).map (·.2)) ts'/\ks'.Nodup/\(∀k∈ks',k∈ks\/k=n)/\(∀u∈ts',u∈ts\/u=t)/\ks'...*<=ks...*+1:=by
 unfold vM
 by_cases h:(ps.any λkv=>decide (kv.1=nK n))=true
 ·rw[mQ h]
  refine xI (Reps.repl (k:=nK n) hv hR) λts' r' l' m'=>?_;refine{ks,ts', ?_,r',nd,λk hk=>.inl hk,m',pR _};rw[<-hk,sB];apply tR;intro p _;show(if p.1=nK n then(p.1,v) else p).1=p.1;split<;>rfl
 ·rw[mK h]
  refine{ks++ [n],ts++ [t],by rw[nJ,hk,nJ];rfl,by rw[nJ];exact Reps.snoc hv hR, ?_,λk hk=>?_,λu hu=>?_,by simp}
  ·refine zNp nd λhm=>h (bP.mpr ?_)
   let hm':nK n∈ps.map (·.1):=by rw[hk];exact nW.mpr ⟨n,hm,O⟩
   obtain⟨p,hp,e⟩:=nW.mp hm';exact{p,hp,nP e}
  ·rcases mU.mp hk with q | q
   ·exact .inl q
   ·exact .inr (mG.mp q)
  ·rcases mU.mp hu with q | q
   ·exact .inl q
   ·exact .inr (mG.mp q)
theorem NiceL_iff{d:Nat}:∀{ts:List T},NiceL d ts↔∀t∈ts,Nice d t
 | []=>{λ_ _ h=>(nomatch h),λ_=>trivial}
 | u::ts=>by
  show(Nice d u/\NiceL d ts)↔_;rw[NiceL_iff (ts:=ts)];exact{λh t ht=>(mD.mp ht).elim (λe=>e▸h.1) (h.2 t),λh=>{h u mF,λt ht=>h t (mH _ ht)}}
theorem zHq:ts (A5 "abcdefghijklmnopqrstuvwxyz0123456789")=letL++zEw:=by decide+kernel
theorem yAy:ts (A5 "abcdefghijklmnopqrstuvwxyz")=letL:=by decide+kernel
theorem ts_a:ts (A5 "a")= [97]:=by decide+kernel
theorem ts_q:ts (A5 "'")= [39]:=by decide+kernel
theorem zSx:A5 "" =tx []:=by decide+kernel
theorem zCn(c k:Nat):(List.replicate k [c]).flatten=List.replicate k c:=by
 induction k with
 | zero=>rfl
 | succ k ih=>rw[rB,rV,ih,rB];rfl
theorem zGd{w:List Nat}(h1:w...*<=12)(h3:∃c r,w=c::r/\c∈letL)(h4:∀c∈w,c∈letL++zEw):yQ w=true:=by
 ext xV h3 c r r2_ hc;subst r2_;unfold yQ;simp only[tP,rW,rD];exact{{{by simp,h1},hc},h4}
theorem zFy{w:List Nat}(h1:w...*<=30)(h4:∀c∈w,c∈zAs):zBw w=true:=by
 unfold zBw;simp only[tP,rW,rD];exact⟨h1,h4⟩
theorem yAq{i:Int}(h0:0<=i)(h1:i<36):∃c,atI (letL++zEw) i=Y c/\c∈letL++zEw:=gW h0 (by show i<((36:Nat):Int);lia)
theorem zSw{i:Int}(h0:0<=i)(h1:i<26):∃c,atI (letL++zEw) i=Y c/\c∈letL:=by
 obtain⟨j,rfl⟩:=sO h0;let hj:j<26:=by lia
 let hj':j<letL...*:=hj;refine{letL[j],zV (by rw[pL hj'];simp[hj']),sR hj'}
theorem zKs:97∈letL:=by decide
theorem zAt{c:Nat}(h:c∈letL):c∈letL++zEw:=nV _ h
end L2
namespace L2
end L2
namespace L2
open PySem PySem.Spec PyProof.Rows
theorem yAz:A5 " !\"#$&'()*+,-./0123456789:;<=>?@ABCDEFGHIJKLMNOPQRSTUVWXYZ[\\]^_`" ++A5 "abcdefghijklmnopqrstuvwxyz{|}~" =tx zAs:=by decide+kernel
theorem yAh:39∈zAs:=by decide
theorem zTl{i:Int}(h0:0<=i)(h1:i<94):∃c,atI zAs i=Y c/\c∈zAs:=gW h0 (by show i<((94:Nat):Int);lia)
theorem zIt(cs:List Nat):((cs.map λc=>tx [c]).map ts).flatten=cs:=by
 induction cs with
 | nil=>rfl
 | cons d r ih=>simp only[mZ,rV,ih,vB];rfl
theorem HOk.sim{P:V3}{w:V4}{H H':Hp}{h:V5}(ok:HOk P w H h)(ho:∀b a,H b=Y (.own a)->H' b=Y (.own a))(ht:∀b xs,H b=Y (.tup xs)->H' b=Y (.tup xs))
  (hs:∀b u,H' b=Y u->H b=Y u\/(∃o,H b=Y (.frz o u))\/∃o u',u= .frz o u'/\H b=Y u'/\h.get? b=Y o):HOk P w H' h:=λb u e=>by
 rcases hs b u e with q |⟨o,q⟩|⟨o,u',rfl,q,g⟩
 ·exact(ok b u q).stay (λ_ _ _ z=>z) (λc z=>ho c b z) λc xs z=>ht c xs z
 ·obtain⟨_,z⟩:=(show ObjOk P w H h b (.frz o u) from ok b _ q)
  exact z.stay (λ_ _ _ z=>z) (λc z=>ho c b z) λc xs z=>ht c xs z
 ·exact{g,(ok b u' q).stay (λ_ _ _ z=>z) (λc z=>ho c b z) λc xs z=>ht c xs z}
section
variable{X:Cx}{pins:List (V1×Obj)}{σ σ':St}{H H':Hp}{s s':V2}
theorem Inv.sim(I:Inv X pins σ H s)(hn:∀b,H b=none->H' b=none)(ho:∀b a,H b=Y (.own a)->H' b=Y (.own a))(ht:∀b xs,H b=Y (.tup xs)->H' b=Y (.tup xs))
  (hb:∀b ps,H b=Y (.tbl ps)->H' b=Y (.tbl ps)) (hf:∀b o u,X.H₀ b=Y (.frz o u)->H' b=Y (.frz o u))
  (hs:∀b u,H' b=Y u->H b=Y u\/(∃o,H b=Y (.frz o u))\/∃o u',u= .frz o u'/\H b=Y u'/\s.heap.get? b=Y o):Inv X pins σ H' s:=
 {I.ok,I.os,I.bare,{I.base.keep,I.base.slot,λb o e n hx=>hn b (I.base.free b o e n hx),I.base.there,λb xs e=>ht b xs (I.base.tups b xs e),hf,λb ps e=>by
  obtain⟨m,q⟩:=I.base.tbls b ps e;exact{m,hb b _ q}},I.loc,I.cell,hn _ I.free,λx c e=>hn _ (I.freeC x c e),λp hp=>by
  refine jM (I.pin p hp) λa b c d e=>?_;exact{a,hn _ b,c,d,e},I.hok.sim ho ht hs,I.len}
theorem Inv.freeze{d:V1}{kvs:List (Key×V)}{o:Obj}(I:Inv X pins σ H s)(h:H d=Y (.dK kvs))(hg:s.heap.get? d=Y o):Inv X pins σ (upd H d (.frz o (.dK kvs))) s:=by
 let ne:∀b u,H b=u->u≠Y (.dK kvs)->b≠d:=λb u e n z=>by subst z;exact n (e.symm.trans h)
 refine I.sim (λb e=>by rw[zM (ne b _ e (by intro z;cases z))];exact e) (λb a e=>by rw[zM (ne b _ e (by intro z;cases z))];exact e) (λb a e=>by rw[zM (ne b _ e (by intro z;cases z))];exact e)
  (λb a e=>by rw[zM (ne b _ e (by intro z;cases z))];exact e) (λb o' u e=>?_) λb u e=>?_
 ·let e':=I.base.frzs b o' u e
  rw[zM (ne b _ e' (by intro z;cases z))];exact e'
 ·by_cases hb:b=d
  ·subst hb
   rw[zB] at e;cases e;exact .inr (.inr ⟨o,_,O,h,hg⟩)
  ·rw[zM hb] at e;exact .inl e
def thaw(H H':Hp):Hp:=λb=>match H b with
 | some (.frz _ _)=>H' b
 | _=>match H' b with
  | some (.frz _ u)=>Y u
  | y=>y
theorem zIs{b:V1}{o:Obj}{u:HO}(h:H b=Y (.frz o u)):thaw H H' b=H' b:=by unfold thaw;rw[h]
theorem zGk{b:V1}(h:H' b=none):thaw H H' b=none:=by unfold thaw;rw[h];split<;>rfl
theorem wZ{b:V1}{u:HO}(h:H' b=Y u)(n:∀o v,u≠ .frz o v):thaw H H' b=Y u:=by
 unfold thaw;rw[h];split
 ·rfl
 ·cases u<;>first | rfl | exact absurd O (n _ _)
theorem zMz{b:V1}{o:Obj}{u:HO}(h:H' b=Y (.frz o u))(n:∀o v,H b≠Y (.frz o v)):thaw H H' b=Y u:=by
 unfold thaw;rw[h]
 cases e:H b with
 | none=>rfl
 | some v=>cases v<;>first | rfl | exact absurd e (n _ _)
theorem zRe{b:V1}{u:HO}(h:thaw H H' b=Y u):H' b=Y u\/∃o,H' b=Y (.frz o u):=by
 unfold thaw at h;split at h
 ·exact .inl h
 ·split at h
  ·rename_i o v e
   cases h;exact .inr ⟨_,e⟩
  ·exact .inl h
theorem Inv.thaw(I:Inv X pins σ H s)(J:Inv X pins σ' H' s'):Inv X pins σ' (thaw H H') s':=
 J.sim (λb e=>zGk e) (λb a e=>wZ e (by intro o v z;cases z)) (λb a e=>wZ e (by intro o v z;cases z)) (λb a e=>wZ e (by intro o v z;cases z))
  (λb o u e=>by rw[zIs (I.base.frzs b o u e)];exact J.base.frzs b o u e) λb u e=>(zRe e).imp id .inl
theorem zFn{H H':Hp}(h:∀b u,H b=Y u->H' b=Y u\/((∃o,H' b=Y (.frz o u))/\∀o v,u≠ .frz o v)):Same H (L2.thaw H H'):=λb u e=>by
 rcases h b u e with q |⟨⟨o,q⟩,n⟩
 ·cases u with
  | frz o v=>rw[zIs e];exact q
  | _=>exact wZ q (by intro o v z;cases z)
 ·refine zMz q λo' v z=>?_
  rw[e] at z;cases z;exact n _ _ O
def zUh(t:TE):TE:=λσ H Q=>t σ H λv H'=>Q v (thaw H H')
theorem zCz{e:Expr}{t:TE}(h:PE X e t):PE X e (zUh t):=by
 intro pins s σ H Q I q;refine thn (h pins s σ H _ I q) λu s1 ⟨v,H1,I1,r,q1⟩=>{v,_,I.thaw I1,r,q1}
end
theorem KV.get{κ:Type}:∀{kvs:List (κ×V)}{vs:List (κ×V0)}{i:Nat}{kv:κ×V},KV kvs vs->kvs[i]? =Y kv->∃q,vs[i]? =Y q/\kv.1=q.1/\RelV kv.2 q.2
 | _,_,_,_, .nil,e=>by simp at e
 | _,_,0,_, .cons r _,e=>by simp at e;subst e;exact⟨_,O,r⟩
 | _,_,i+1,x, .cons _ t,e=>by
  obtain⟨u,h1,h2⟩:=KV.get (i:=i) (kv:=x) t (by simpa using e);exact{u,by simpa using h1,h2}
theorem zHb{P:V3}{w:V4}{k:Key}{u:V0}(h:(yS P w).is k u=true):RelV (kV k) u:=by
 rcases wA (show zEi k u=true from h) with⟨i,t,rfl,rfl⟩|⟨x,t,rfl,rfl⟩
 ·exact⟨t,O⟩
 ·exact⟨t,O⟩
theorem uL{P:V3}{w:V4}{H:Hp}{h:V5}{d:V1}{o:Obj}{kvs:List (Key×V)}{es:Array DictEntry}{ep:Nat}(ok:HOk P w H h)(e:H d=Y (.frz o (.dK kvs)))(he:o.data= .dict es ep):
  ∃vs,KV kvs vs/\h.DictAt (yS P w) d vs ep/\(d==A4)=false/\kvs...*<=V9:=by
 obtain⟨g,z,hd,vs,rel,o',es',ep',ho,c,hdat,r⟩:=(show ObjOk P w H h d (.frz o (.dK kvs)) from ok d _ e);rw[g] at ho;cases ho;rw[he] at hdat;cases hdat;exact{vs,rel,⟨o,es,g,c,he,r⟩,hd,z}
def Itd(d:V1)(o:Obj)(kvs:List (Key×V)):It:=
 ⟨λi H=>i<kvs...*/\H d=Y (.frz o (.dK kvs)),λi H y H'=>H'=H/\∃kv,kvs[i]? =Y kv/\y=kV kv.1,λi H=>kvs...*<=i/\H d=Y (.frz o (.dK kvs))⟩
theorem zPo{P:V3}{w:V4}{K:A6}{tg:Expr}(d it:V1)(o:Obj)(kvs:List (Key×V)):zIb P w K tg (Itd d o kvs) [it] it (λi h=>∃es ep,o.data= .dict es ep/\h.IsKeyIter it d i kvs...* ep) where
 mem:=by simp
 obj:=λi h st b hb=>by
  obtain⟨es,ep,_,ob,e,c,dd⟩:=st;let e':b=it:=by simpa using hb
  subst e';exact{ob,e,λv z=>by rw[dd] at z;cases z}
 keep:=λi h h' st k=>by
  ext xV st es ep a st;exact{es,ep,a,st.at λob e=>k it (by simp) ob e}
 item:=by
  intro X hP hw hK hc i pins s σ H E I hf st hg;subst hP hw hK;ext xV st es ep hes st;obtain⟨hi,hg⟩:=hg;refine zBb (uL I.hok hg hes) λvs rel hm _ _=>?_;refine yO (hf it (by simp)) λf0 f1 f2 f3 f4 f5=>?_;let hl:=rel...*;obtain⟨kv,hkv⟩:∃kv,kvs[i]? =Y kv:={kvs[i],by simp[hi]};refine xI (KV.get rel hkv) λq hq hq1 hq2=>?_;rw[hl] at st;refine wpAny_pyNext_dict_item (k:=q.1) (v:=q.2) st hm hq λkey h' hk st' sb=>?_;let I1:Inv X pins σ H {s with heap:=h'}:=I.turned (t':=s.toks) (λb o hb e=>(sb.2 b hb).trans e) f0 f1 f3 f4 f5;refine xI (id st') λob e c dd=>?_;exact{key,O,zIz (s:={s with heap:=h'}) e c dd ∎ {kV kv.1,H,I1,by rw[hq1];exact zHb hk,⟨O,kv,hkv,O⟩,{es,ep,hes,by rw[hl];exact st'},λb hb=>(hf b hb).1}}
 done:=by
  intro X hP hw hK hc i pins s σ H E I hf st hg;subst hP hw hK;ext xV st es ep hes st;obtain⟨hi,hg⟩:=hg;refine zBb (uL I.hok hg hes) λvs rel hm _ _=>?_;refine yO (hf it (by simp)) λf0 f1 f2 f3 f4 f5=>?_;let hl:=rel...*;rw[hl] at st;exact wpAny_pyNext_dict_end (I.ok.hd hc) st hm (by simp;lia) λh' eb=>{O,I.turned (t':=s.toks) (λb o hb e=>eb b o hb e) f0 f1 f3 f4 f5}
 self:=λ_ _ _ _ _ st h=>by
  ext xV st es ep _ st;exact wpAny_pyIter_keyiter st h
def zTk(tl:TE):TI:=λσ H R=>tl σ H λx H1=>∃d kvs,x= .ref d/\((H1 d=Y (.dK kvs)/\∀o,R (Itd d o kvs) (upd H1 d (.frz o (.dK kvs))))\/∃o,H1 d=Y (.frz o (.dK kvs))/\R (Itd d o kvs) H1)
section
variable{X:Cx}
theorem zHz{tg l:Expr}{tl:TE}(hl:PE X l tl):PI X tg l (zTk tl):=by
 intro pins s σ H R I h;refine thn (hl pins s σ H _ I h) λv s1 ⟨x,H1,I1,r1,q1⟩=>?_;ext xV q1 d kvs r2_ q;subst r2_;cases r1;let fin:∀o H2,Inv X pins σ H2 s1->H2 d=Y (.frz o (.dK kvs))->R (Itd d o kvs) H2->V8 (S5 X.prog X.w) X.A (pyIter (.ref d)) (PIE X pins σ tg R) X.xe s1:=λo H2 I2 e q=>by
  obtain⟨g,z,hd,vs,rel,o',es,ep,ho,c,hdat,r⟩:=(show ObjOk X.prog X.w H2 s1.heap d (.frz o (.dK kvs)) from I2.hok d _ e);rw[g] at ho;cases ho;let hm:s1.heap.DictAt (yS X.prog X.w) d vs ep:=⟨o,es,g,c,hdat,r⟩;refine wpAny_pyIter_dict hd hm ?_;refine⟨s1⁻¹,[s1⁻¹],_,_,H2,O,I2.kept (t':=s1.toks) λb o e=>mJ _ e,zPo d _ o kvs,⟨es,ep,hdat,_,nM _ rfl,rfl,by rw[rel...*];rfl⟩,λb hb=>?_,q⟩;let e:b=s1⁻¹:=by simpa using hb
  subst e;exact I2.fpOk (mE _) (I2.hok.fresh (mE _))
 rcases q with⟨e,q⟩|⟨o,e,q⟩
 ·obtain⟨z,hd,vs,rel,o,es,ep,ho,_⟩:=(show ObjOk X.prog X.w H1 s1.heap d (.dK kvs) from I1.hok d _ e)
  exact fin o _ (I1.freeze e ho) zB (q o)
 ·exact fin o _ I1 e q
theorem zBj{x:Str}{F:List (Str×Nat)}{d:V1}{o:Obj}{kvs:List (Key×V)}{tt:TT}{te:TE}{σ:St}{Q:VK}{H1:Hp}(Pv:Nat->List V->Hp->Prop)(hn:kvs...*<=V9)(h0:Pv 0 [] H1)(hz:∀i ys H,Pv i ys H->H d=Y (.frz o (.dK kvs)))
  (hs:∀i kv ys H,kvs[i]? =Y kv->ys...*<=i->Pv i ys H->tt (Y (kV kv.1)::F.map (λp=>(σ[p.2]?).join)) H λb H3=>if b=true then te (Y (kV kv.1)::F.map (λp=>(σ[p.2]?).join)) H3 λz H4=>Pv (i+1) (ys++ [z]) H4 else Pv (i+1) ys H3)
  (hd:∀ys H,ys...*<=kvs...*->Pv kvs...* ys H->∀p,H p=none->Q (.ref p) (upd H p (.lst ys))):wX [x] F (qV 0) tt te σ Q (Itd d o kvs) H1:=
 zCm Pv hn h0 (λi ys H h p=>{h,hz i ys H p}) (λys H p=>{mE _,hz _ ys H p}) (λi ys H y H2 h1 h2 h3 h4=>by
  obtain⟨rfl,kv,hkv,rfl⟩:=h4;exact hs i kv ys _ hkv h2 h3) hd
theorem wO{K:A6}{x:Str}{F:List (Str×Nat)}{a:V1}{xs:List V}{tt:TT}{te:TE}{σ:St}{Q:VK}{H1:Hp}(Pv:Nat->List V->Hp->Prop)(hn:xs...*<=V9)(h0:Pv 0 [] H1)(hz:∀i ys H,i<=xs...*->Pv i ys H->SqL K H a xs)
  (hs:∀i v ys H,xs[i]? =Y v->ys...*<=i->Pv i ys H->tt (Y v::F.map (λp=>(σ[p.2]?).join)) H λb H3=>if b=true then te (Y v::F.map (λp=>(σ[p.2]?).join)) H3 λz H4=>Pv (i+1) (ys++ [z]) H4 else Pv (i+1) ys H3)
  (hd:∀ys H,ys...*<=xs...*->Pv xs...* ys H->∀p,H p=none->Q (.ref p) (upd H p (.lst ys))):wX [x] F (qV 0) tt te σ Q (Itl K a) H1:=
 zCm Pv hn h0 (λi ys H h p=>{xs,xs[i],hz i ys H (bX h) p,by simp[h]}) (λys H p=>{xs,hz _ ys H (mE _) p,mE _}) (λi ys H y H2 h1 h2 h3 h4=>by
  obtain⟨rfl,hy⟩:=h4;exact hs i y ys _ (hy xs (hz i ys _ (bX h1) h3)) h2 h3) hd
noncomputable def zKj(p d:V1):HO:=.ext λh=>h.IsValuesView p d
theorem zMt{κ:Type}:∀{kvs:List (κ×V)}{vs:List (κ×V0)},KV kvs vs->Vals (kvs.map (·.2)) (vs.map (·.2))
 | _,_, .nil=>.nil
 | _,_, .cons r t=>.cons r.2 (zMt t)
def zUq:V->List V->Hp->VK->Prop:=λx vs H Q=>∃d kvs,x= .ref d/\vs= []/\Rd H d (.dK kvs)/\∀p,H p=none->Q (.ref p) (upd H p (zKj p d))
theorem zQn:MtR X "dict.values" zUq:=by
 intro pins s σ H x vs v us Q I rx rv h;ext yE h d kvs r2_ r3_ hq q;subst r2_ r3_;cases rx;cases rv;obtain⟨z,hd,ws,rel,dd⟩:=kF I.hok hq;refine call_meetsIn PySem.F.slot_dict_values dd.typeIs PySem.F.entry_dict_values (PySem.F.args_dict_values_1 _) (meets_dict_values (yS X.prog X.w) d hd) {⟨ws,dd⟩, ?_};refine{.ref s⁻¹,_,I.laid (t':=s.toks) (λb o e=>mJ _ e) (mE _) (o:=zKj s⁻¹ d) ?_,O,q _ (I.hok.fresh (mE _))};exact⟨{_,nM _ O,O,O},{_,nM _ O},λh1 h2 ⟨o,e,r⟩ k=>⟨o,k o e,r⟩⟩
theorem zJp(hc:X.calm=true):wH X (.type "list") (λxs H Q=>∃p d kvs,xs= [.ref p]/\H p=Y (zKj p d)/\Rd H d (.dK kvs)/\∀l,H l=none->Q (.ref l) (upd H l (.lst (kvs.map (·.2))))):=by
 intro pins s σ H xs us Q I r h;ext yD h p d kvs r3_ hp z_;ext oA z_ hq q;subst r3_;obtain⟨u,rfl,rx⟩:=qJ r;cases rx;obtain⟨z,hd,vs,rel,dd⟩:=kF I.hok hq;obtain⟨hv,_⟩:=(show ObjOk X.prog X.w H s.heap p (zKj p d) from I.hok p _ hp);obtain⟨ep,hat⟩:=dd.dictAt;let hl:=rel...*;refine W.kdl_call (W.kdl_values (knd:=yS X.prog X.w) (kvs:=vs) (ep:=ep)) (I.ok.hd hc) ⟨hv,hat⟩ ∅ λh' tk acc c' hk hg hi=>?_;refine{.ref s⁻¹,_,I.laid (t':=tk) hk (mE _) (o:=.lst (kvs.map (·.2))) ?_,O,q _ (I.hok.fresh (mE _))};let e:acc.toList=vs.map (·.2):=W.kdl_vals_eq acc.toList (by rw[aV];exact hi.1) (λj v e=>hi.2 j v (by rw[<-tF];exact e));exact{by rw[mL];exact z,acc.toList,c',by rw[e];exact zMt rel,by simpa using hg}
end
theorem zGs:typeLookup (.type "list") "keys" =pure none:=am_miss_of_fast (by decide+kernel)
theorem uX:entryFor table "dict.update.loop" =some Builtin.«dict.update.loop»:=entryFor_of_tree (by kernel_rfl)
theorem qS:plainId "dict.update.loop" =true:=by decide+kernel
section
variable{prog:V3}{w:V4}{A:Around}{E:V0->V2->Prop}
theorem zQc{s:V2}{a:V1}{xs:Array V0}{k:Nat}{name:Str}{Q:Option V0->V2->Prop}
  (hx:s.heap.get? a=some {cls:=.type "list",dict:=none,data:=.seq xs k,slots:=#[]}) (hmiss:typeLookup (.type "list") name=pure none) (hname:(["__module__","__name__","__qualname__","__doc__","__annotations__"]:List Str).contains name=false) (hA:A.handled=none)
  (h:∀h' tk,(∀b o,s.heap.get? b=Y o->h'.get? b=Y o)->Q none {s with heap:=h',toks:=tk}) (hsz:name...*+100<=V9:=by size_fits):
  V8 (S5 prog w) A (getAttr? (.ref a) name) Q E s:=by
 obtain⟨hp,g,d,tk,os⟩:=s;let hT:∀tk',(⟨hp,g,d,tk',os⟩:V2).TypeIs (.ref a) "list":=λ_=>⟨_,hx,O⟩;let f1:=sub_AttributeError;let f3:=F.slot_list_getattribute.lookup;let f4:=F.slot_list_getattribute.bind (.ref a);let f5:=am_list_getattr_none;unfold getAttr? getAttrBy? getAttrBy
 repeat (any_goals (first | assumption | exact hT _ |((with_reducible show V8 _ _ (call (Value.builtin "list.__getattribute__") _ _) _ _ _);refine tY F.slot_list_getattribute (hT _) am_entry_list_getattribute (F.args_list_getattribute_2 _ _) (meets_getattribute_miss_list a xs k #[] name _ hmiss hname hsz) {hx,hA,λh' tk' e hx'=>?_})| wp_step))
 refine oEE (hx'.there) λt' u' he=>?_;show V8 _ _ (getattributeRaised _ _ _ _ _ _ _) _ _ _;unfold getattributeRaised
 repeat (any_goals (first | assumption | wp_step))
 exact h h' tk' λb o e=>hx'.keeps b o e
theorem zXq{κ:Type} [DecidableEq κ] (knd:KeyKind prog w κ) (hh:A.handled=none) {d it l:V1} {items:Array V0} {ps:List (κ×V0)} {R:Result->V2->Prop} (hdi:d≠it) (hdl:d≠l) (hil:it≠l) (hps:ps...*=items.size):
  ∀(n i:Nat)(s:V2)(kvs:List (κ×V0)),items.size - i=n->i<=items.size->s.heap.IsListIter it l i->s.heap.IsList l items->
   (∀(j:Nat) k v,ps[j]? =Y (k,v)->∃a key,items[j]? =Y (.ref a)/\a≠d/\a≠it/\IsTup s.heap a #[key,v]/\knd.is k key=true)->s.heap.DictOf knd d kvs->kvs...*+n<=V9->
   (∀h' tk,h'.DictOf knd d ((ps.drop i).foldl (λm kv=>stored m kv.1 kv.2) kvs)->(∀b o,b≠d->b≠it->s.heap.get? b=Y o->h'.get? b=Y o)->R (.ok (.ret .none)) {s with heap:=h',toks:=tk})->
   codeAny (S5 prog w) A (.builtin "dict.update.loop" {[.ref d, .ref it,rawInt i, .none],[]}) R s:=by
 intro n
 induction n with
 | zero=>
  intro i s kvs hn hi hit hl hp hd hz hR;refine aZ uX ?_;rw[tH qS _];unfold Builtin.«dict.update.loop»;show V8 _ A.in1 (pyNext (.ref it)>>=_) _ _ s;refine mC (aI (show A.in1.handled=none from hh) hit hl (by simp;lia) λh' eb=>?_);show V8 _ _ (Builtin.Dict.addKeywords d []>>=λ_=>ret .none) _ _ _;refine mC (mN (mN (hR h' _ ?_ λb o hb hi' e=>eb b o hi' e)));rw[List.drop_eq_nil_of_le ∅];exact hd.extBut eb hdi
 | succ n ih=>
  intro i s kvs hn hi hit hl hp hd hz hR;refine aZ uX ?_;rw[tH qS _];unfold Builtin.«dict.update.loop»;let hlt:i<items.size:=by lia
  obtain⟨kv,hkv⟩:∃kv,ps[i]? =Y kv:={ps[i],by simp[hps,hlt]};refine yE (hp i kv.1 kv.2 hkv) λa key ha had hai z_=>?_;ext oA z_ ht hk;show V8 _ A.in1 (pyNext (.ref it)>>=_) _ _ s;refine mC (aD hit hl (x:=.ref a) ha λh' st' sb=>?_);show V8 _ _ (holding [Value.ref a] (Sem.tryCatch (Builtin.Dict.pairItems (.ref a)) _>>=_)>>=λ_=>again _) _ _ _;let kp:∀b o,b≠it->s.heap.get? b=Y o->h'.get? b=Y o:=λb o hb e=>(sb.2 b hb).trans e;obtain⟨o,ho,hc,m,hdat⟩:=id ht;refine mC (pG (mC (aK ?_)));unfold Builtin.Dict.pairItems;refine mC (wpAny_typeOf (T:="tuple") ⟨o,kp a o hai ho,hc⟩ ?_);rw[mQ ∎];refine mC (cJ (kp a o hai ho) hdat (mN ?_));show V8 _ _ (holding [key,kv.2] (dictSet d key kv.2)) _ _ _;refine pG (wpAny_dictSet_pairs hk (hd.sameBut sb hdi) (λh2 hd2 sb2=>?_) ∅);let kp2:∀b o,b≠d->b≠it->s.heap.get? b=Y o->h2.get? b=Y o:=λb o hb hi' e=>(sb2.2 b hb).trans (kp b o hi' e);let hc':((i:Int)+1)=((i+1:Nat):Int):=by lia
  rw[hc'];refine mN {aU qS _,ih (i+1) _ (stored kvs kv.1 kv.2) ∅ ∅ ?_ ?_ ?_ hd2 ?_ ?_}
  ·exact st'.at λo e=>(sb2.2 it (Ne.symm hdi)).trans e
  ·ext oEA hl ol e1 e2
   exact{ol,kp2 l ol (Ne.symm hdl) (Ne.symm hil) e1,e2}
  ·intro j k v e
   obtain⟨a',key',x1,x2,x3,⟨o',y1,y2⟩,x5⟩:=hp j k v e;exact{a',key',x1,x2,x3,{o',kp2 a' o' x2 x3 y1,y2},x5}
  ·let:(stored kvs kv.1 kv.2)...*<=kvs...*+1:=by
    unfold stored;split<;>simp
   lia
  ·intro h3 tk hd3 k3
   refine hR h3 tk ?_ λb o hb hi' e=>k3 b o hb hi' (kp2 b o hb hi' e);let e:ps.drop i=kv::ps.drop (i+1):=by
    obtain⟨hlt',e'⟩:=mO.mp hkv;rw[pB hlt',e']
   rw[e,tE];exact hd3
end
section
variable{X:Cx}
theorem zKd{P:V3}{w:V4}{H:Hp}{h:V5}(ok:HOk P w H h):∀{kvs:List (Key×V)}{ys:List V}{its:List V0},Vals ys its->kvs...*=ys...*->(∀(j:Nat) kv,kvs[j]? =Y kv->∃a,ys[j]? =Y (.ref a)/\H a=Y (.tup [kV kv.1,kv.2]))->
  ∃ps:List (Key×V0),KV kvs ps/\∀(j:Nat) k v,ps[j]? =Y (k,v)->∃a key,its[j]? =Y (.ref a)/\IsTup h a #[key,v]/\(yS P w).is k key=true
 | [],[],_, .nil,_,_=>{[], .nil,λj k v e=>by simp at e}
 | kv::kvs,y::ys,_, .cons r t,hl,hp=>by
  obtain⟨ps,rel,h2⟩:=zKd ok (kvs:=kvs) t (by simpa using hl) λj kv' e=>by
   refine oEA (hp (j+1) kv' (by simpa using e)) λa e1 e2=>?_;exact{a,by simpa using e1,e2}
  refine oEA (hp 0 kv O) λa e1 e2=>?_;simp only[pY,Option.some.injEq] at e1;subst e1;cases r;obtain⟨_,its2,rv,pl⟩:=(show ObjOk P w H h a (.tup [kV kv.1,kv.2]) from ok a _ e2);refine yM (uZ rv) λu1 u2 e3 r1 r2=>?_;subst e3;refine{(kv.1,u2)::ps, .cons ⟨O,r2⟩ rel,λj k v e=>?_}
  cases j with
  | zero=>
   simp only[pY,Option.some.injEq,Prod.mk.injEq] at e;obtain⟨rfl,rfl⟩:=e;exact{a,u1,O,pl,zDa r1}
  | succ j=>simpa using h2 j k v (by simpa using e)
 | [],_::_,_,_,hl,_=>by simp at hl
 | _::_,[],_,_,hl,_=>by simp at hl
theorem zCf(hc:X.calm=true):wH X (.type "dict") (λxs H Q=>∃(p:V1)(ys:List V)(kvs:List (Key×V)),xs= [.ref p]/\H p=Y (.lst ys)/\kvs...*=ys...*/\(∀(j:Nat) kv,kvs[j]? =Y kv->∃a,ys[j]? =Y (.ref a)/\H a=Y (.tup [kV kv.1,kv.2]))/\
  ∀l,H l=none->Q (.ref l) (upd H l (.dK (vQ [] kvs)))):=by
 intro pins s σ H xs us Q I r h;ext yD h p ys kvs r3_ hq z_;ext oAA z_ hlen hpair q;subst r3_;obtain⟨u,rfl,rx⟩:=qJ r;cases rx;obtain⟨hz,its,n,rv,hg⟩:=(show ObjOk X.prog X.w H s.heap p (.lst ys) from I.hok p _ hq);obtain⟨ps,rel,hps⟩:=zKd I.hok rv hlen hpair;let hl1:=rv...*;let hl2:=rel...*;let hplt:p<s⁻¹:=nB hg;refine callType_codes (Q₁:=λobj s₁=>obj= .ref s⁻¹/\s₁={s with heap:=s.heap.push {cls:=.type "dict",data:=.dict #[]}}) F.kt_called_dict (F.kt_typeCall_dict_1 _) F.entry_dict_init (kt_code_dict_new _ ⟨O,O⟩) ?_;rintro obj s₁ ⟨rfl,rfl⟩;let hnew:(s.heap.push {cls:=.type "dict",data:=.dict #[]}).DictOf (yS X.prog X.w) s⁻¹ []:=Heap.DictOf.new s.heap;let hg1:=mJ {cls:=.type "dict",data:=.dict #[]} hg;refine{hnew.typeIs,F.args_dict_init_2 _ _, ?_};unfold Builtin.«dict.__init__»;refine mC ?_;unfold Builtin.Dict.selfAndRest;refine mC (wpAny_notOrdered_dict hnew.typeIs ?_);show V8 _ _ (pure (s⁻¹,[Value.ref p])) _ _ _;refine mN ?_;show V8 _ _ (Builtin.Dict.updateFrom "dict.__init__" s⁻¹ (.ref p) [] .none) _ _ _;unfold Builtin.Dict.updateFrom;refine mC (wpAny_typeOf (T:="list") ⟨_,hg1,O⟩ ?_);rw[mQ ∎];refine mC (zQc hg1 zGs (by decide+kernel) (I.ok.hd hc) (λh2 tk2 k2=>?_));rw[mQ (by rfl)];refine mC (wpAny_rule (mC (bI (items:=its.toArray) {_,k2 _ _ hg1,O,n,O} ?_)));let k1:∀b o,s.heap.get? b=Y o->h2.get? b=Y o:=λb o e=>k2 b o (mJ _ e);let hd2:s⁻¹<h2.objs.size:=nB (k2 _ _ (nM _ O));let hpl:∀b o,h2.get? b=Y o->(h2.push {cls:=.type "list_iterator",data:=.fields #[.ref p, .int 0 0]}).get? b=Y o:=λb o e=>mJ _ e;refine mN ⟨aU qS _,zXq (yS X.prog X.w) (show X.A.in1.handled=none from I.ok.hd hc) (d:=s⁻¹) (it:=h2.objs.size) (l:=p) (items:=its.toArray) (ps:=ps) (nQ hd2) (rF hplt) (rF (cA hplt hd2)) (by simp;lia) _ 0 _ [] rfl (nS _) ?_ ?_ ?_ ?_ ?_ ?_⟩
 ·exact{_,nM _ O,O,O}
 ·exact{_,hpl _ _ (k2 _ _ hg1),O,n,O}
 ·intro j k v e
  obtain⟨a,key,e1,⟨o,e2,e3⟩,e4⟩:=hps j k v e;let hlt:=nB e2;exact{a,key,by simpa using e1,nQ hlt,nQ (cA hlt hd2),{o,hpl _ _ (k1 _ _ e2),e3},e4}
 ·ext qI hnew o es ep ho rest
  exact{o,es,ep,hpl _ _ (k2 _ _ ho),rest}
 ·simp;lia
 ·intro h3 tk3 hd3 k3
  rw[aL] at hd3;let k4:∀b o,s.heap.get? b=Y o->h3.get? b=Y o:=λb o e=>k3 b o (nQ (nB e)) (nQ (cA (nB e) hd2)) (hpl _ _ (k1 _ _ e));refine⟨rfl, .ref s⁻¹,_,I.laid (t':=tk3) k4 (mE _) (o:=.dK (vQ [] kvs)) ?_,rfl,q _ (I.hok.fresh (mE _))⟩;let hm:(vQ [] kvs)...*<=kvs...*:=by
   let:=jX kvs []
   simpa using this
  exact zGv ∅ (rE.mpr (Ne.symm (nQ I.big))) (KV.merge rel .nil) hd3
end
structure Bl2(mg:Str->Option V0):Prop extends Bl mg where
 max:mg "max" =none
 min:mg "min" =none
 sorted:mg "sorted" =none
noncomputable def mxI(b z:Int):Int:=if z>b then z else b
noncomputable def mxD(k:Int):List Int->Int
 | []=>k
 | b::r=>r.foldl mxI b
theorem zWd(a d:V0):argsOk "max" {[a],[("default",d)]}:=by unfold argsOk;kernel_rfl
section
variable{prog:V3}{w:V4}{A:Around}
theorem zWl{it l S:V1}{items:List V0}{ns:List Int}(hh:A.handled=none)(hi:Vals (ns.map V.int) items)(hSi:S≠it)(hSl:S≠l)(hil:it≠l)(dv:V0){R:Result->V2->Prop}:
  ∀(n i:Nat)(s:V2)(c:Nat)(b:Int)(tb:Tok),ns...* - i=n->i<=ns...*->s.heap.IsListIter it l i->s.heap.IsList l items.toArray->s.heap.get? S=some {cls:=.type "list",dict:=none,data:=.seq #[.int b tb, .int b tb] c,slots:=#[]}->
   (∀h' tk t,(∀x o,x≠S->x≠it->s.heap.get? x=Y o->h'.get? x=Y o)->R (.ok (.ret (.int ((ns.drop i).foldl mxI b) t))) {s with heap:=h',toks:=tk})->
   codeAny (S5 prog w) A (.builtin "max.loop" {[.ref it, .none, .ref S],[("default",dv)]}) R s:=by
 let hnm:(toString "max" ++toString ".loop" :String)= "max.loop":=by decide
 intro n
 induction n with
 | zero=>
  intro i s c b tb hn hin st hl hS hR;refine aZ dA ?_;rw[tH sS _];show V8 _ A.in1 (seqItems? (.ref S)>>=_) _ _ s;refine mC (cJ hS O ?_);let hlen:=hi...*;rw[mL] at hlen;refine mC (aK (aI (show A.in1.handled=none from hh) st hl (by simp;lia) λh' eb=>?_));show V8 _ A.in1 (updateSeq S (λ_=>#[])>>=_) _ _ _;refine mC (dM (eb S _ hSi hS) O (mC (cM (mN ?_))));let q:=hR (h'.update S (Obj.mapSeq λ_=>#[])) s.toks tb λx o hx hxi e=>(mX _ _ (Ne.symm hx)).trans (eb x o hxi e);rw[List.drop_eq_nil_of_le ∅] at q;exact q
 | succ n ih=>
  intro i s c b tb hn hin st hl hS hR;let hlt:i<ns...*:=by lia
  let hlen:=hi...*;rw[mL] at hlen;obtain⟨z,hz⟩:∃z,ns[i]? =Y z:={ns[i],by simp[hlt]};obtain⟨u,ht,t,rfl⟩:=hi.get (i:=i) (x:=.int z) (by rw[nH,hz];rfl);let ed:ns.drop i=z::ns.drop (i+1):=by
   obtain⟨h1,e1⟩:=mO.mp hz;rw[pB h1,e1]
  refine aZ dA ?_;rw[tH sS _];show V8 _ A.in1 (seqItems? (.ref S)>>=_) _ _ s;refine mC (cJ hS O ?_);refine mC (aK (aD st hl (x:=.int z t) (by simpa using ht) λh' st' sb=>?_));let kp:∀x o,x≠it->s.heap.get? x=Y o->h'.get? x=Y o:=λx o hx e=>(sb.2 x hx).trans e;let hS':=kp S _ hSi hS;let hl':h'.IsList l items.toArray:=by
   obtain⟨o,e1,e2⟩:=hl;exact⟨o,kp l o (Ne.symm hil) e1,e2⟩
  show V8 _ A.in1 (tryCatch (holding [Value.int z t,Value.int z t] (richCompare .Gt (.int z t) (.int b tb)>>=_)) _>>=_) _ _ _;refine mC (aK (pG (mC (show V8 (S5 prog w) A.in1 (A3 .Gt (.int z t) (.int b tb)) _ _ _ from gt_int ?_))));refine mC (pG (pZ (mC (cM (mN ?_)))))
  by_cases hb:z>b
  ·rw[nP hb,mQ O]
   refine mC (dM hS' O (mC (cM ?_)));rw[hnm];refine mN {aU sS _,ih (i+1) _ _ z t ∅ ∅ ?_ ?_ (tD _ hS' O) λh2 tk t2 k2=>?_}
   ·exact st'.at λo e=>(mX _ _ hSi).trans e
   ·obtain⟨o,e1,e2⟩:=hl'
    exact{o,(mX _ _ hSl).trans e1,e2}
   ·let q:=hR h2 tk t2 λx o hx hxi e=>k2 x o hx hxi ((mX _ _ (Ne.symm hx)).trans (kp x o hxi e))
    rw[ed,tE,show mxI b z=z from mQ hb] at q;exact q
  ·rw[nG hb,mK nF]
   refine mC (cM ?_);rw[hnm];refine mN {aU sS _,ih (i+1) _ _ b tb ∅ ∅ st' hl' hS' λh2 tk t2 k2=>?_};let q:=hR h2 tk t2 λx o hx hxi e=>k2 x o hx hxi (kp x o hxi e);rw[ed,tE,show mxI b z=b from mK hb] at q;exact q
theorem zRi{it l S:V1}{items:List V0}{ns:List Int}{s:V2}{c:Nat}(hh:A.handled=none)(hi:Vals (ns.map V.int) items)(hSi:S≠it)(hSl:S≠l)(hil:it≠l)(dv:V0){R:Result->V2->Prop}
  (st:s.heap.IsListIter it l 0) (hl:s.heap.IsList l items.toArray) (hS:s.heap.get? S=some {cls:=.type "list",dict:=none,data:=.seq #[] c,slots:=#[]})
  (hR:∀h' tk v,(∀x o,x≠S->x≠it->s.heap.get? x=Y o->h'.get? x=Y o)->(match ns with | []=>v=dv | b::r=>∃t,v= .int (r.foldl mxI b) t)->R (.ok (.ret v)) {s with heap:=h',toks:=tk}):
  codeAny (S5 prog w) A (.builtin "max.loop" {[.ref it, .none, .ref S],[("default",dv)]}) R s:=by
 let hnm:(toString "max" ++toString ".loop" :String)= "max.loop":=by decide
 let hlen:=hi...*;rw[mL] at hlen;refine aZ dA ?_;rw[tH sS _];show V8 _ A.in1 (seqItems? (.ref S)>>=_) _ _ s;refine mC (cJ hS O ?_)
 cases ns with
 | nil=>
  refine mC (aK (aI (show A.in1.handled=none from hh) st hl (by simp at hlen;simp[hlen]) λh' eb=>?_));refine mC (wpAny_rule (mN ?_));exact hR h' s.toks dv (λx o _ hx e=>eb x o hx e) O
 | cons z r=>
  obtain⟨u,ht,t,rfl⟩:=hi.get (i:=0) (x:=.int z) O;refine mC (aK (aD st hl (x:=.int z t) (by simpa using ht) λh' st' sb=>?_));let kp:∀x o,x≠it->s.heap.get? x=Y o->h'.get? x=Y o:=λx o hx e=>(sb.2 x hx).trans e;let hS':=kp S _ hSi hS;show V8 _ A.in1 (updateSeq S (λ_=>#[.int z t, .int z t])>>=_) _ _ _;refine mC (dM hS' O ?_);rw[hnm];refine mN {aU sS _,zWl hh hi hSi hSl hil dv _ 1 _ _ z t O (by simp) ?_ ?_ (tD _ hS' O) λh2 tk t2 k2=>?_}
  ·exact st'.at λo e=>(mX _ _ hSi).trans e
  ·obtain⟨o,e1,e2⟩:=hl
   exact{o,(mX _ _ hSl).trans (kp l o (Ne.symm hil) e1),e2}
  ·exact hR h2 tk _ (λx o hx hxi e=>k2 x o hx hxi ((mX _ _ (Ne.symm hx)).trans (kp x o hxi e))) ⟨t2,O⟩
end
section
variable{X:Cx}
def zIe(K:A6):V->V->Hp->VK->Prop:=λx y H Q=>∃(p:V1)(ns:List Int)(k:Int),x= .ref p/\y= .int k/\SqL K H p (ns.map V.int)/\Q (.int (mxD k ns)) H
theorem zPz(hc:X.calm=true){pins:List (V1×Obj)}{s:V2}{σ:St}{H:Hp}{x y:V}{u dv:V0}{Q:VK}(I:Inv X pins σ H s)(rx:RelV x u)(ry:RelV y dv)(h:zIe X.K x y H Q):
  V8 (S5 X.prog X.w) X.A (call (.builtin "max") [u] [("default",dv)]) (EP X pins σ Q) X.xe s:=by
 ext yD h p ns k r3_ r4_ z_;ext oA z_ hq q;subst r3_ r4_;cases rx;refine xI (I.list hq) λits rv pl hz=>?_;let hl:=pl.isList;let hplt:p<s⁻¹:=by obtain⟨_,e,_⟩:=hl;exact nB e
 let hnm:(toString "max" ++toString ".loop" :String)= "max.loop":=by decide
 refine sT (tI F.plain_max F.entry_max ?_);simp only[checkBuiltinCall,F.kind_max];let hgo:V8 (S5 X.prog X.w) X.A.in1 (Builtin.«max» {[.ref p],[("default",dv)]}) (λfin s'=>match fin with
   | .done f=>(match (Except.ok f:Result) with | .ok (.ret v)=>EP X pins σ Q v s' | .ok _=>False | .error e=>X.xe e s')
   | .again c'=>c'.quiet=true/\codeAny (S5 X.prog X.w) X.A c' (λr s'=>match r with | .ok (.ret v)=>EP X pins σ Q v s' | .ok _=>False | .error e=>X.xe e s') s') X.xe s:=by
  show V8 _ X.A.in1 (Builtin.Builtins.bindParams "max" ["key","default"] 0 {[],[("default",dv)]}>>=_) _ _ s;refine mC (wpAny_of_eq (show Builtin.Builtins.bindParams "max" ["key","default"] 0 {[],[("default",dv)]}=pure [none,Y dv] from O) ?_);refine mC (mN ?_);refine mC (bI hl ?_);refine mC (cW ?_);rw[hnm];let hk:∀b o,s.heap.get? b=Y o->((s.heap.push {cls:=.type "list_iterator",data:=.fields #[.ref p, .int 0 0]}).push {cls:=.type "list",data:=.seq #[]}).get? b=Y o:=λb o e=>mJ _ (mJ _ e);let hsz:(s.heap.push {cls:=.type "list_iterator",data:=.fields #[.ref p, .int 0 0]}).objs.size=s⁻¹+1:=tM ..;refine mN {aU sS _,zRi (it:=s⁻¹) (l:=p) (S:=(s.heap.push {cls:=.type "list_iterator",data:=.fields #[.ref p, .int 0 0]}).objs.size) (c:=0) (I.ok.hd hc) rv (by rw[hsz];exact rF (dB _)) (by rw[hsz];exact rF (Nat.lt_succ_of_lt hplt)) (rF hplt) dv ?_ ?_ (nM _ O) λh' tk v k2 hv=>?_}
  ·exact{_,mJ _ (nM _ O),O,O}
  ·obtain⟨o,e1,e2⟩:=hl
   exact{o,hk _ _ e1,e2}
  ·let I2:Inv X pins σ H {s with heap:=h',toks:=tk}:=I.kept λb o e=>k2 b o (by rw[hsz];exact nQ (Nat.lt_succ_of_lt (nB e))) (nQ (nB e)) (hk b o e)
   cases ns with
   | nil=>exact{.int k,H,I2,by rw[show v=dv from hv];exact ry,q}
   | cons b r=>
    obtain⟨t,e⟩:=hv;exact{.int (r.foldl mxI b),H,I2,⟨t,e⟩,q}
 cases hsig:Manifest.signature? "max" with
 | none=>exact mN hgo
 | some sig=>
  let ha:=zWd (.ref p) dv;simp only[argsOk,hsig] at ha;let h2:Bind.checkArgs "max" sig {[.ref p],[("default",dv)]}=pure ():=ha;show V8 _ X.A.in1 (Bind.checkArgs "max" sig {[.ref p],[("default",dv)]}) _ _ s;rw[h2];exact mN hgo
variable{e d:Expr}{te td:TE}{p kp pos:Pos}
def zSt(K:A6)(te td:TE):TE:=λσ H Q=>te σ H λx H1=>td σ H1 λy H2=>zIe K x y H2 Q
theorem zVs(hc:X.calm=true)(hg:Gl X "max")(hm:X.mg "max" =none)(ha:PA X [e] (xH te qW))(hd:PE X d td)(he:S2 pos (A2 [e] X.env)=(false,eval e X.env)::S2 pos (A2 [] X.env):=by rfl)(hpl:(S2 pos (A2 [e] X.env)).any (·.1)=false:=by rfl):
  PE X (.Call (.Name "max" p) [e] [{some "default",d,kp}] pos) (zSt X.K te td):=by
 intro pins s σ H Q I h;refine rH (zAm I hg hm yBt ?_ ∎ ∎);refine callWith_kw ?_ he hpl;refine thn (ha pos pins s σ H (λvs H1=>match vs with | [x]=>td σ H1 (λy H2=>zIe X.K x y H2 Q)| _=>False) I h) λus s1 ⟨vs,H1,I1,r1,q1⟩=>?_
 match vs,q1,r1 with
 | [x],q1,r1=>
  obtain⟨u,rfl,rx⟩:=qJ r1;refine kws_cons (thn (hd pins s1 σ H1 _ I1 q1) λdv s2 ⟨y,H2,I2,ry,q2⟩=>kws_nil ?_);exact zPz hc I2 rx ry q2
end
end L2
namespace L2
open PySem PySem.Spec PyProof.Rows
mutual
noncomputable def T.dep:T->Nat
 | .lst ts=>T.deps ts+1
 | .dic _ ts=>T.deps ts+1
 | .tup ts=>T.deps ts+1
 | .non=>0
 | .bl _=>0
 | .int _=>0
 | .str _=>0
noncomputable def T.deps:List T->Nat
 | []=>0
 | t::ts=>max (T.dep t) (T.deps ts)
end
mutual
def T.pure:T->Prop
 | .tup _=>False
 | .lst ts=>k9 ts
 | .dic ks ts=>ks.Nodup/\k9 ts
 | .non=>True
 | .bl _=>True
 | .int _=>True
 | .str _=>True
def k9:List T->Prop
 | []=>True
 | t::ts=>T.pure t/\k9 ts
end
theorem b8{t:T}:∀{ts:List T},t∈ts->T.dep t<=T.deps ts
 | [],h=>nomatch h
 | u::ts,h=>by
  show T.dep t<=max (T.dep u) (T.deps ts);rcases mD.mp h with e | e
  ·subst e;exact cD _ _
  ·exact pC (b8 e) (dC _ _)
section
variable{P:V3}{w:V4}
open AutoSeq1 (wpAny_loadPart')
open MeetsSeq MeetsSeq2 MeetsSeq3 SeqRoads2 SeqAt
end
section
variable{X:Cx}{pins:List (V1×Obj)}{σ:St}{H:Hp}{s:V2}
theorem kO{ks:List (List Nat)}(h:ks.Nodup):(ks.map nK).Nodup:=by
 induction ks with
 | nil=>exact cK
 | cons k r ih=>
  rw[pM] at h;rw[mZ,pM];refine{λhm=>?_,ih h.2};obtain⟨k',hk,e⟩:=nW.mp hm;exact h.1 (uE e▸hk)
def rEq0(K:A6)(neg:Bool):R2:=λx y H Q=>∃a b xs,x= .ref a/\y= .ref b/\SqL K H a xs/\SqL K H b []/\Q (.bl (if neg then !xs.isEmpty else xs.isEmpty)) H
theorem zNt(hu:X.A.units<cLine):OpR X (A3 .Eq) (rEq0 X.K false):=by
 intro pins s σ H x y v u Q I rx ry h;ext yD h a b xs r3_ r4_ z_;ext oAA z_ ha hb q;subst r3_ r4_;cases rx;cases ry;refine xI (I.list ha) λus r1 pl1 _=>?_;refine xI (I.list hb) λvs r2 pl2 _=>?_;cases r2
 cases xs with
 | nil=>
  cases r1;exact SeqAt.eq_listAt (e:=λ_=>true) pl1.isList pl2.isList O hu (λj h1=>absurd h1 (by simp)) {.bl true,H,I,O,q}
 | cons x xs=>
  let n1:=r1...*;exact SeqAt.eq_list_lengthsAt pl1.isList pl2.isList (by simp[<-n1]) hu {.bl false,H,I,O,q}
end
end L2
namespace L2
open PySem PySem.Spec PyProof.Rows
mutual
noncomputable def T.sz:T->Nat
 | .lst ts=>T.szs ts+1
 | .dic _ ts=>T.szs ts+1
 | .tup ts=>T.szs ts+1
 | .non=>1
 | .bl _=>1
 | .int _=>1
 | .str _=>1
noncomputable def T.szs:List T->Nat
 | []=>0
 | t::ts=>T.sz t+T.szs ts
end
mutual
def Occ(H:Hp)(d:V1):V->T->Prop
 | v, .lst ts=>v= .ref d\/∃a vs,v= .ref a/\H a=Y (.lst vs)/\Occs H d vs ts
 | v, .dic _ ts=>v= .ref d\/∃a ps,v= .ref a/\H a=Y (.dK ps)/\Occs H d (ps.map (·.2)) ts
 | v, .tup ts=>v= .ref d\/∃a vs,v= .ref a/\H a=Y (.tup vs)/\Occs H d vs ts
 | _, .non=>False
 | _, .bl _=>False
 | _, .int _=>False
 | _, .str _=>False
def Occs(H:Hp)(d:V1):List V->List T->Prop
 | v::vs,t::ts=>Occ H d v t\/Occs H d vs ts
 | _,_=>False
end
mutual
theorem Rep.away{H:Hp}{d:V1}{o:HO}:∀(x:V)(t:T),Rep H x t->¬Occ H d x t->Rep (upd H d o) x t
 | _, .non,h,_=>h
 | _, .bl _,h,_=>h
 | _, .int _,h,_=>h
 | _, .str _,h,_=>h
 | x, .lst ts,⟨a,vs,e,ha,hs⟩,n=>by
  let ne:a≠d:=λz=>n (.inl (by rw[e,z]));exact{a,vs,e,by rw[zM ne];exact ha,Reps.away vs ts hs λz=>n (.inr ⟨a,vs,e,ha,z⟩)}
 | x, .dic ks ts,⟨a,ps,e,ha,hk,hs⟩,n=>by
  let ne:a≠d:=λz=>n (.inl (by rw[e,z]));exact{a,ps,e,by rw[zM ne];exact ha,hk,Reps.away _ ts hs λz=>n (.inr ⟨a,ps,e,ha,z⟩)}
 | x, .tup ts,⟨a,vs,e,ha,hs⟩,n=>by
  let ne:a≠d:=λz=>n (.inl (by rw[e,z]));exact{a,vs,e,by rw[zM ne];exact ha,Reps.away vs ts hs λz=>n (.inr ⟨a,vs,e,ha,z⟩)}
theorem Reps.away{H:Hp}{d:V1}{o:HO}:∀(xs:List V)(ts:List T),Reps H xs ts->¬Occs H d xs ts->Reps (upd H d o) xs ts
 | _,[],h,_=>h
 | _,t::ts,⟨x,xr,e,h1,h2⟩,n=>by
  subst e;exact{x,xr,O,Rep.away x t h1 λz=>n (.inl z),Reps.away xr ts h2 λz=>n (.inr z)}
end
mutual
theorem Occ.sub{H:Hp}{d:V1}:∀(x:V)(t:T),Rep H x t->Occ H d x t->∃t',Rep H (.ref d) t'/\T.sz t'<=T.sz t
 | _, .non,_,h=>h.elim
 | _, .bl _,_,h=>h.elim
 | _, .int _,_,h=>h.elim
 | _, .str _,_,h=>h.elim
 | x, .lst ts,hr,h=>by
  rcases h with e |⟨a,vs,e,ha,h⟩
  ·exact{.lst ts,e▸hr,mE _}
  ·ext yM hr a' vs' e' ha' hs
   rw[e] at e';cases e';rw[ha] at ha';cases ha';obtain⟨t',q,l⟩:=Occs.sub vs ts hs h;exact{t',q,aH l}
 | x, .dic ks ts,hr,h=>by
  rcases h with e |⟨a,vs,e,ha,h⟩
  ·exact{.dic ks ts,e▸hr,mE _}
  ·ext yE hr a' vs' e' ha' _ hs
   rw[e] at e';cases e';rw[ha] at ha';cases ha';obtain⟨t',q,l⟩:=Occs.sub _ ts hs h;exact{t',q,aH l}
 | x, .tup ts,hr,h=>by
  rcases h with e |⟨a,vs,e,ha,h⟩
  ·exact{.tup ts,e▸hr,mE _}
  ·ext yM hr a' vs' e' ha' hs
   rw[e] at e';cases e';rw[ha] at ha';cases ha';obtain⟨t',q,l⟩:=Occs.sub vs ts hs h;exact{t',q,aH l}
theorem Occs.sub{H:Hp}{d:V1}:∀(xs:List V)(ts:List T),Reps H xs ts->Occs H d xs ts->∃t',Rep H (.ref d) t'/\T.sz t'<=T.szs ts
 | xs,[],_,h=>by cases xs<;>exact h.elim
 | _,t::ts,⟨x,xr,e,h1,h2⟩,h=>by
  subst e;rcases h with h | h
  ·obtain⟨t',q,l⟩:=Occ.sub x t h1 h
   exact{t',q,pC l (dE _ _)}
  ·obtain⟨t',q,l⟩:=Occs.sub xr ts h2 h
   exact{t',q,pC l (bA _ _)}
end
theorem zNj:∀{a b:List (List Nat)},a.map nK=b.map nK->a=b
 | [],[],_=>rfl
 | [],_::_,h=>by simp at h
 | _::_,[],h=>by simp at h
 | x::a,y::b,h=>by
  rw[mZ,mZ] at h;injection h with h1 h2;rw[uE h1,zNj h2]
mutual
theorem Rep.one{H:Hp}:∀(t:T)(x:V)(t':T),Rep H x t->Rep H x t'->t=t'
 | .non,x,t',h,h'=>by
  cases (show x= .non from h)
  cases t' with
  | non=>rfl
  | bl b=>cases (show V.non= .bl b from h')
  | int b=>cases (show V.non= .int b from h')
  | str b=>cases (show V.non= .str (tx b) from h')
  | lst ts=>obtain⟨a,vs,e,_⟩:=h';cases e
  | dic ks ts=>obtain⟨a,vs,e,_⟩:=h';cases e
  | tup ts=>obtain⟨a,vs,e,_⟩:=h';cases e
 | .bl c,x,t',h,h'=>by
  cases (show x= .bl c from h)
  cases t' with
  | non=>cases (show V.bl c= .non from h')
  | bl b=>cases (show V.bl c= .bl b from h');rfl
  | int b=>cases (show V.bl c= .int b from h')
  | str b=>cases (show V.bl c= .str (tx b) from h')
  | lst ts=>obtain⟨a,vs,e,_⟩:=h';cases e
  | dic ks ts=>obtain⟨a,vs,e,_⟩:=h';cases e
  | tup ts=>obtain⟨a,vs,e,_⟩:=h';cases e
 | .int c,x,t',h,h'=>by
  cases (show x= .int c from h)
  cases t' with
  | non=>cases (show V.int c= .non from h')
  | bl b=>cases (show V.int c= .bl b from h')
  | int b=>cases (show V.int c= .int b from h');rfl
  | str b=>cases (show V.int c= .str (tx b) from h')
  | lst ts=>obtain⟨a,vs,e,_⟩:=h';cases e
  | dic ks ts=>obtain⟨a,vs,e,_⟩:=h';cases e
  | tup ts=>obtain⟨a,vs,e,_⟩:=h';cases e
 | .str c,x,t',h,h'=>by
  cases (show x= .str (tx c) from h)
  cases t' with
  | non=>cases (show V.str (tx c)= .non from h')
  | bl b=>cases (show V.str (tx c)= .bl b from h')
  | int b=>cases (show V.str (tx c)= .int b from h')
  | str b=>
   let e:V.str (tx c)= .str (tx b):=h';injection e with e;let e2:ts (tx c)=ts (tx b):=by rw[e]
   rw[vB,vB] at e2;rw[e2]
  | lst ts=>obtain⟨a,vs,e,_⟩:=h';cases e
  | dic ks ts=>obtain⟨a,vs,e,_⟩:=h';cases e
  | tup ts=>obtain⟨a,vs,e,_⟩:=h';cases e
 | .lst us,x,t',⟨a,vs,e,ha,hs⟩,h'=>by
  subst e
  cases t' with
  | non=>cases (show V.ref a= .non from h')
  | bl b=>cases (show V.ref a= .bl b from h')
  | int b=>cases (show V.ref a= .int b from h')
  | str b=>cases (show V.ref a= .str (tx b) from h')
  | lst ts=>
   ext yM h' a' vs' e' ha' hs';cases e';rw[ha] at ha';cases ha';rw[Reps.one us vs ts hs hs']
  | dic ks ts=>obtain⟨a',vs',e',ha',_⟩:=h';cases e';rw[ha] at ha';cases ha'
  | tup ts=>obtain⟨a',vs',e',ha',_⟩:=h';cases e';rw[ha] at ha';cases ha'
 | .dic js us,x,t',⟨a,vs,e,ha,hk,hs⟩,h'=>by
  subst e
  cases t' with
  | non=>cases (show V.ref a= .non from h')
  | bl b=>cases (show V.ref a= .bl b from h')
  | int b=>cases (show V.ref a= .int b from h')
  | str b=>cases (show V.ref a= .str (tx b) from h')
  | lst ts=>obtain⟨a',vs',e',ha',_⟩:=h';cases e';rw[ha] at ha';cases ha'
  | dic ks ts=>
   ext yE h' a' vs' e' ha' hk' hs';cases e';rw[ha] at ha';cases ha';rw[Reps.one us _ ts hs hs',zNj (hk.symm.trans hk')]
  | tup ts=>obtain⟨a',vs',e',ha',_⟩:=h';cases e';rw[ha] at ha';cases ha'
 | .tup us,x,t',⟨a,vs,e,ha,hs⟩,h'=>by
  subst e
  cases t' with
  | non=>cases (show V.ref a= .non from h')
  | bl b=>cases (show V.ref a= .bl b from h')
  | int b=>cases (show V.ref a= .int b from h')
  | str b=>cases (show V.ref a= .str (tx b) from h')
  | lst ts=>obtain⟨a',vs',e',ha',_⟩:=h';cases e';rw[ha] at ha';cases ha'
  | dic ks ts=>obtain⟨a',vs',e',ha',_⟩:=h';cases e';rw[ha] at ha';cases ha'
  | tup ts=>
   ext yM h' a' vs' e' ha' hs';cases e';rw[ha] at ha';cases ha';rw[Reps.one us vs ts hs hs']
theorem Reps.one{H:Hp}:∀(us:List T)(xs:List V)(ts:List T),Reps H xs us->Reps H xs ts->us=ts
 | [],xs,ts,h,h'=>by
  cases (show xs= [] from h)
  cases ts with
  | nil=>rfl
  | cons t ts=>obtain⟨x,r,e,_⟩:=h';cases e
 | u::us,xs,ts,⟨x,r,e,h1,h2⟩,h'=>by
  subst e
  cases ts with
  | nil=>cases (show x::r= [] from h')
  | cons t ts=>
   ext yM h' x' r' e' h1' h2';cases e';rw[Rep.one u x t h1 h1',Reps.one us r ts h2 h2']
end
theorem j0{H:Hp}{d:V1}{o:HO}{ps:List (Key×V)}{ks:List (List Nat)}{ts:List T}(hd:H d=Y (.dK ps))(hk:ps.map (·.1)=ks.map nK)(h:Reps H (ps.map (·.2)) ts):Reps (upd H d o) (ps.map (·.2)) ts:=by
 refine Reps.away _ ts h λz=>?_;obtain⟨t',q,l⟩:=Occs.sub _ ts h z;let e:=Rep.one (.dic ks ts) (.ref d) t' ⟨d,ps,O,hd,hk,h⟩ q;rw[<-e] at l;exact absurd l (Nat.not_le_of_lt (dB _))
theorem uQ:∀{vs:List (Key×V)}{i:Nat}{k:Key}{y:V},(vs.map (·.1)).Nodup->vs[i]? =Y (k,y)->jD vs k=Y y
 | [],i,k,y,_,h=>by simp at h
 | p::vs,0,k,y,_,h=>by
  simp only[pY,Option.some.injEq] at h;subst h;exact zAn O
 | p::vs,i+1,k,y,nd,h=>by
  rw[mZ,pM] at nd;let h':vs[i]? =Y (k,y):=by simpa using h
  let ne:¬p.1=k:=λe=>nd.1 (nW.mpr {(k,y),mP h',e.symm});rw[uJ ne];exact uQ nd.2 h'
theorem jE:∀(more kvs:List (Key×V)),((kvs++more).map (·.1)).Nodup->vQ kvs more=kvs++more
 | [],kvs,_=>by show kvs=_;rw[pQ]
 | p::r,kvs,h=>by
  show vQ (vM kvs p.1 p.2) r=_;let hn:jD kvs p.1=none:=by
   cases e:jD kvs p.1 with
   | none=>rfl
   | some v=>
    let hm:=zXc e;rw[nJ,List.nodup_append] at h;exact absurd O (h.2.2 p.1 hm p.1 (by simp))
  rw[zUl _ hn,jE r (kvs++ [(p.1,p.2)]) (by rw[aG];exact h),aG]
  rfl
mutual
theorem Nice.dep:∀(t:T){d:Nat},Nice d t->T.dep t<=d
 | .non,_,_=>nS _
 | .bl _,_,_=>nS _
 | .int _,_,_=>nS _
 | .str _,_,_=>nS _
 | .lst ts,d,h=>by
  let:=NiceL.dep ts h.2.2;let:=h.1;show T.deps ts+1<=d
  lia
 | .dic ks ts,d,h=>by
  let:=NiceL.dep ts h.2.2.2.2.2;let:=h.1;show T.deps ts+1<=d
  lia
 | .tup _,_,h=>h.elim
theorem NiceL.dep:∀(ts:List T){d:Nat},NiceL d ts->T.deps ts<=d
 | [],_,_=>nS _
 | t::ts,_,h=>Nat.max_le.mpr {Nice.dep t h.1,NiceL.dep ts h.2}
end
theorem kP(d:Nat):1<=5 ^ d:=Nat.one_le_pow _ _ ∎
mutual
theorem Nice.sz:∀(t:T){d:Nat},Nice d t->T.sz t<=5 ^ d
 | .non,d,_=>kP d
 | .bl _,d,_=>kP d
 | .int _,d,_=>kP d
 | .str _,d,_=>kP d
 | .lst ts,d,h=>by
  obtain⟨h1,h2,h3⟩:=h;obtain⟨e,rfl⟩:∃e,d=e+1:={d - 1,∅};let:=NiceL.sz ts h3;let p:=kP e;show T.szs ts+1<=5 ^ (e+1);rw[Nat.add_sub_cancel] at this;let q:ts...**5 ^ e<=4*5 ^ e:=aO _ h2;rw[Nat.pow_succ];lia
 | .dic ks ts,d,h=>by
  ext yO h h1 h2 _ _ _ h3;obtain⟨e,rfl⟩:∃e,d=e+1:={d - 1,∅};let:=NiceL.sz ts h3;let p:=kP e;show T.szs ts+1<=5 ^ (e+1);rw[Nat.add_sub_cancel] at this;let q:ts...**5 ^ e<=4*5 ^ e:=aO _ h2;rw[Nat.pow_succ];lia
 | .tup _,_,h=>h.elim
theorem NiceL.sz:∀(ts:List T){d:Nat},NiceL d ts->T.szs ts<=ts...**5 ^ d
 | [],_,_=>nS _
 | t::ts,d,h=>by
  let a:=Nice.sz t h.1;let b:=NiceL.sz ts h.2;show T.sz t+T.szs ts<=(ts...*+1)*5 ^ d;rw[Nat.succ_mul];lia
end
theorem zNx{H:Hp}{a:V1}{xs:List V}(h:H a=Y (.tup xs)):tyS H (.ref a)=some "tuple":=by
 show(match H a with | some (.lst _)=>some "list" | some (.tup _)=>some "tuple" | some (.dK _)=>some "dict" | _=>none)=_;rw[h]
theorem vW{H:Hp}{a:V1}{xs:List V}(h:H a=Y (.lst xs)):tyS H (.ref a)=some "list":=by
 show(match H a with | some (.lst _)=>some "list" | some (.tup _)=>some "tuple" | some (.dK _)=>some "dict" | _=>none)=_;rw[h]
theorem qX{H:Hp}{a:V1}{xs:List (Key×V)}(h:H a=Y (.dK xs)):tyS H (.ref a)=some "dict":=by
 show(match H a with | some (.lst _)=>some "list" | some (.tup _)=>some "tuple" | some (.dK _)=>some "dict" | _=>none)=_;rw[h]
theorem gN{H H':Hp}(g:Same H H'){v:V}{t:String}(h:tyS H v=Y t):tyS H' v=Y t:=by
 cases v with
 | ref a=>
  let h':(match H a with | some (.lst _)=>some "list" | some (.tup _)=>some "tuple" | some (.dK _)=>some "dict" | _=>none)=Y t:=h
  cases e:H a with
  | none=>rw[e] at h';cases h'
  | some o=>
   rw[e] at h'
   cases o with
   | lst xs=>cases h';exact vW (g _ _ e)
   | tup xs=>cases h';exact zNx (g _ _ e)
   | dK kvs=>cases h';exact qX (g _ _ e)
   | _=>cases h'
 | _=>exact h
theorem Same.put{H H':Hp}{p:V1}(g:Same H H')(h:H p=none)(o:HO):Same H (upd H' p o):=λb u e=>by
 rw[zM (yK e h)];exact g b u e
theorem i7{t:T}:∀{ts:List T},k9 ts->t∈ts->T.pure t
 | [],_,h=>nomatch h
 | u::ts,h,hm=>(mD.mp hm).elim (λe=>e▸h.1) (i7 h.2)
theorem yN{α:Type}{l:List α}{i:Nat}{a:α}(h:l[i]? =Y a):l.take (i+1)=l.take i++ [a]:=by rw[List.take_add_one,h];rfl
theorem o7:∀t:T,1<=T.sz t
 | .non=>mE _
 | .bl _=>mE _
 | .int _=>mE _
 | .str _=>mE _
 | .lst _=>bA _ _
 | .dic _ _=>bA _ _
 | .tup _=>bA _ _
theorem c8:∀ts:List T,ts...*<=T.szs ts
 | []=>mE _
 | t::ts=>by
  let a:=o7 t;let b:=c8 ts;show ts...*+1<=T.sz t+T.szs ts
  lia
theorem c6{t:T}:∀{ts:List T},t∈ts->T.sz t<=T.szs ts
 | [],h=>nomatch h
 | u::ts,h=>by
  show T.sz t<=T.sz u+T.szs ts;rcases mD.mp h with e | e
  ·subst e;exact dE _ _
  ·exact pC (c6 e) (bA _ _)
mutual
theorem Rep.plain{H H':Hp}(g:∀a u,(∀o v,u≠HO.frz o v)->H a=Y u->H' a=Y u):∀(x:V)(t:T),Rep H x t->Rep H' x t
 | _, .non,h=>h
 | _, .bl _,h=>h
 | _, .int _,h=>h
 | _, .str _,h=>h
 | _, .lst ts,⟨a,vs,h1,h2,h3⟩=>{a,vs,h1,g _ _ (by intro o v z;cases z) h2,Reps.plain g vs ts h3}
 | _, .dic ks ts,⟨a,ps,h1,h2,h3,h4⟩=>{a,ps,h1,g _ _ (by intro o v z;cases z) h2,h3,Reps.plain g _ ts h4}
 | _, .tup ts,⟨a,vs,h1,h2,h3⟩=>{a,vs,h1,g _ _ (by intro o v z;cases z) h2,Reps.plain g vs ts h3}
theorem Reps.plain{H H':Hp}(g:∀a u,(∀o v,u≠HO.frz o v)->H a=Y u->H' a=Y u):∀(vs:List V)(ts:List T),Reps H vs ts->Reps H' vs ts
 | _,[],h=>h
 | _,t::ts,⟨v,r,h1,h2,h3⟩=>{v,r,h1,Rep.plain g v t h2,Reps.plain g r ts h3}
end
theorem kM{H H':Hp}{d:V1}{o:Obj}{ps:List (Key×V)}(hd:H d=Y (.dK ps))(g:Same (upd H d (.frz o (.dK ps))) H'):Same H (L2.thaw H H'):=zFn λb u e=>by
 by_cases hb:b=d
 ·subst hb
  rw[hd] at e;cases e;exact .inr ⟨{o,g _ _ zB},by intro o v z;cases z⟩
 ·exact .inl (g _ _ (by rw[zM hb];exact e))
noncomputable def t8:T->List T
 | .lst us=>us
 | .dic _ us=>us
 | _=>[]
noncomputable def T.next(ts:List T):List T:=(ts.map t8).flatten
theorem d8:∀(a b:List T),T.szs (a++b)=T.szs a+T.szs b
 | [],b=>by show T.szs b=0+T.szs b;lia
 | t::a,b=>by
  show T.sz t+T.szs (a++b)=T.sz t+T.szs a+T.szs b;rw[d8 a b];lia
theorem Reps.append{H:Hp}{ys:List V}{vs:List T}(h':Reps H ys vs):∀{xs:List V}{us:List T},Reps H xs us->Reps H (xs++ys) (us++vs)
 | xs,[],h=>by
  cases (show xs= [] from h);exact h'
 | _,u::us,⟨x,r,e,h1,h2⟩=>by
  subst e;exact{x,r++ys,O,h1,Reps.append h' h2}
noncomputable def T.holds(t:T):Bool:=yA (tyT t) "list" || yA (tyT t) "dict"
def zLv(t:TS):TS:=λD σ H=>∃M:St->Hp->Prop,t {D with nx:=M} σ H/\∀σ' H',M σ' H'->D.nx σ' H'
theorem kB{X:Cx}{st:V6}{t:TS}(h:PS X st t):PS X st (zLv t):=by
 intro pins s σ H D I ⟨M,q,m⟩;refine thn (h pins s σ H _ I q) λf s1 z=>?_
 cases f with
 | next=>obtain⟨σ',H',J,q⟩:=z;exact{σ',H',J,m _ _ q}
 | brk=>exact z
 | cont=>exact z
 | ret u=>exact z
section
variable{X:Cx}
theorem zNn{P:V3}{w:V4}:∀{vs:List (Key×V0)}{ks:List Str}{us:List V0},vs.map (·.1)=ks.map Sum.inr->us...*=vs...*->(∀(j:Nat)(v:V0),us[j]? =Y v->∃k x,vs[j]? =Y (k,x)/\(yS P w).is k v=true)->StrsAre us ks
 | [],[],[],_,_,_=>.nil
 | p::vs,k::ks,u::us,e,hl,h=>by
  rw[mZ,mZ] at e;injection e with e1 e2;refine xV (h 0 u O) λk' x e3 hk=>?_;simp only[pY,Option.some.injEq] at e3;rw[e3] at e1;let e4:k'=Sum.inr k:=e1;rw[e4] at hk;obtain⟨t,et⟩:=(show∃t,u=Value.str k t from zHb hk);subst et;exact .cons k t (zNn e2 (by simpa using hl) λj v hv=>by simpa using h (j+1) v (by simpa using hv))
 | [],_::_,_,e,_,_=>by simp at e
 | _::_,[],_,e,_,_=>by simp at e
 | [],[],_::_,_,hl,_=>by simp at hl
 | _::_,_::_,[],_,hl,_=>by simp at hl
theorem zMq:∀{us:List V0}{ss:List Str},StrsAre us ss->Vals (ss.map V.str) us
 | _,_, .nil=>.nil
 | _,_, .cons x t r=>.cons ⟨t,O⟩ (zMq r)
theorem vS(hc:X.calm=true):wH X (.builtin "sorted") (λxs H Q=>∃(p:V1)(kvs:List (Key×V))(ks:List Str),xs= [.ref p]/\Rd H p (.dK kvs)/\kvs.map (·.1)=ks.map Sum.inr/\ks...*<64/\
  ∀l ss,H l=none->ss.Perm ks->sortedS ss=true->Q (.ref l) (upd H l (.lst (ss.map V.str)))):=by
 intro pins s σ H xs us Q I r h;ext yD h p kvs ks r3_ hq z_;ext oAA z_ hk h64 q;subst r3_;obtain⟨u,rfl,rx⟩:=qJ r;cases rx;obtain⟨z,hd,vs,rel,dd⟩:=kF I.hok hq;obtain⟨ep,hat⟩:=dd.dictAt;let hl:=rel...*;refine PySem.Calls.call_function_entry kind_sorted plain_sorted entry_sorted (args_sorted1 _) ?_;unfold Builtin.«sorted»;refine mC (m:=checkCount "sorted" 1 1 _) (mN ?_);refine mC (W.kdu_collect (A:=X.A.in1) (W.kdl_dict (knd:=yS X.prog X.w) (kvs:=vs) (ep:=ep) hd) (show X.A.in1.handled=none from I.ok.hd hc) hat ∅ λh' tk acc hkp hacc=>?_);let hlen:acc.toList...*=vs...*:=by rw[aV];exact hacc.1
 let hS:StrsAre acc.toList ks:=zNn (P:=X.prog) (w:=X.w) (by rw[<-rel.keys];exact hk) hlen λj v e=>hacc.2 j v (by rw[<-tF];exact e);let hkl:ks...*=vs...*:=by
  let:=congrArg List.length hk;simp only[mL] at this
  lia
 refine mC (wpAny_newList ?_ (by rw[hlen];lia));let hoL:(h'.push (seqObj "list" acc.toList.toArray 0)).get? h'.objs.size=Y (seqObj "list" acc.toList.toArray 0):=nM _ O;refine mC (pG (bQ slot_list_sort ⟨_,hoL,O⟩ entry_list_sort (list_sort_treeK strKind_oneLt hoL hS.keysOf (λv₁ v₂ rest e=>keyKind_strs (by rw[<-e];exact hS)) ∅ λst' a1 a2=>{_,O, ?_}) (args_list_sort _)));refine mN {_,O, ?_};refine xI (sorted_out_str hS a1 a2) λss' h1 h2 h3=>?_;let I':Inv X pins σ H {s with heap:=h',toks:=tk}:=I.kept (t':=tk) hkp;let hL:h'.objs.size<(h'.push (seqObj "list" acc.toList.toArray 0)).objs.size:=nB hoL;obtain⟨e,he⟩:=sortedHeap_at (out:=(arrOf st').map (·.2)) hoL;let rS:Vals (ss'.map V.str) ((arrOf st').map (·.2)).toList:=zMq h1;let hp:=h2.length_eq;refine{.ref h'.objs.size,_,I'.laid (a:=h'.objs.size) (t':=tk) (h':=sortedHeap (h'.push (seqObj "list" acc.toList.toArray 0)) h'.objs.size acc.toList ((arrOf st').map (·.2))) (λb u eb=>?_) (mE _) (o:=.lst (ss'.map V.str)) ?_,O,q _ ss' (I'.hok.fresh (mE _)) h2 h3}
 ·let lt:b<h'.objs.size:=nB eb
  exact(sortedHeap_old (nQ lt) (cA lt hL)).trans (mJ _ eb)
 ·exact{by rw[mL];lia,_,e,rS,by rw[Array.toArray_toList];exact he}
end
section
variable{X:Cx}
def yBe(K:A6):V->List V->Hp->VK->Prop:=λx vs H Q=>∃(p:V1)(ss:List Str)(k:Str)(j:Nat),x= .ref p/\vs= [.str k]/\SqL K H p (ss.map V.str)/\ss[j]? =Y k/\(∀i,i<j->ss[i]?≠Y k)/\j<1000000/\Q (.int j) H
theorem zDu{ss:List Str}{us:List V0}(r:Vals (ss.map V.str) us){j:Nat}(h:j<us...*):∃z t,ss[j]? =Y z/\us[j]=Value.str z t:=by
 let hl:=r...*;rw[mL] at hl;obtain⟨u,hu,t,ht⟩:=r.get (i:=j) (x:=.str ss[j]) (by simp[hl,h]);rw[mT h] at hu;exact{ss[j],t,by simp[hl,h],(mR hu).trans ht}
noncomputable def zLp(k:Str):V0->Bool
 | .str z _=>z==k
 | _=>false
theorem zAr:MtR X "list.index" (yBe X.K):=by
 intro pins s σ H x vs v us Q I rx rv h;ext yV h p ss k j r4_ z_;ext yO z_ r5_ hq hj hno hsm q;subst r4_ r5_;cases rx;obtain⟨u,rfl,t,rfl⟩:=rv.one;refine xI (I.list hq) λits r pl _=>?_;let hl:=r...*;rw[mL] at hl;let hjl:j<ss...*:=(mO.mp hj).1;obtain⟨⟨cls,dd,data,sl⟩,ho,hc,n,hd⟩:=id pl.isList;simp only at hc hd;subst hc hd;refine tY sP ⟨_,ho,O⟩ PySem.F.entry_list_index (PySem.F.args_list_index_2 _ _) (SeqAt.list_indexAt p its.toArray n dd sl (.str k t) (zLp k) j (by simp;lia) ∅ ?_ ?_) {ho,λy hy=>?_,{.int j,H,I.tok _,⟨_,O⟩,q}}
 ·refine xV (zDu r (j:=j) ∅) λz t' e1 e2=>?_
  rw[hj] at e1;cases e1;show zLp k its[j]=true;rw[e2];exact bR k
 ·intro m hm hlt
  refine xV (zDu r (j:=m) (by simpa using hm)) λz t' e1 e2=>?_;show zLp k its[m]=false;rw[e2];let ne:z≠k:=λe=>hno m hlt (by rw[e1,e]);exact rE.mpr ne
 ·obtain⟨m,hm,e⟩:=Array.mem_iff_getElem.mp hy
  refine xV (zDu r (j:=m) (by simpa using hm)) λz t' e1 e2=>?_;let e3:y=Value.str z t':=by rw[<-e];simpa using e2
  subst e3;exact cN z t' k t
noncomputable def gtV:V->V->Option Bool
 | .int a, .int b=>Y (decide (b<a))
 | .bl a, .bl b=>Y (a && !b)
 | .str a, .str b=>Y (decide (ts b<ts a))
 | _,_=>none
def rGtA:R2:=λx y H Q=>∃b,gtV x y=Y b/\Q (.bl b) H
def rLtA:R2:=λx y H Q=>∃b,gtV y x=Y b/\Q (.bl b) H
theorem zMu:OpR X (A3 .Gt) rGtA:=by
 intro pins s σ H x y v u Q I rx ry h;obtain⟨b,hb,q⟩:=h;cases x<;>cases y<;>first |(cases hb;done)| skip
 ·rename_i a c
  cases hb;cases (show v=Value.bool a from rx);cases (show u=Value.bool c from ry);refine gt_bool (yP I q ?_);cases a<;>cases c<;>rfl
 ·rename_i a c
  cases hb;obtain⟨t,rfl⟩:=rx;obtain⟨t',rfl⟩:=ry;exact PyProof.Rows.gt_int (yP I q O)
 ·rename_i a c
  cases hb;obtain⟨t,rfl⟩:=rx;obtain⟨t',rfl⟩:=ry;exact PySem.P.gt_str (yP I q O)
theorem zNl:OpR X (A3 .Lt) rLtA:=by
 intro pins s σ H x y v u Q I rx ry h;obtain⟨b,hb,q⟩:=h;cases x<;>cases y<;>first |(cases hb;done)| skip
 ·rename_i a c
  cases hb;cases (show v=Value.bool a from rx);cases (show u=Value.bool c from ry);refine lt_bool (yP I q ?_);cases a<;>cases c<;>rfl
 ·rename_i a c
  cases hb;obtain⟨t,rfl⟩:=rx;obtain⟨t',rfl⟩:=ry;exact PyProof.Rows.lt_int (yP I q O)
 ·rename_i a c
  cases hb;obtain⟨t,rfl⟩:=rx;obtain⟨t',rfl⟩:=ry;exact PyProof.Rows.lt_str (yP I q O)
end
noncomputable def leK(a b:List Nat):Bool:=!decide (b<a)
theorem zFs(a b c:List Nat)(h1:leK a b=true)(h2:leK b c=true):leK a c=true:=by
 let x1:a<=b:=by simpa [leK] using h1
 let x2:b<=c:=by simpa [leK] using h2
 let:=List.le_trans x1 x2
 simpa [leK] using this
theorem zPw(a b:List Nat):(leK a b || leK b a)=true:=by
 rcases List.le_total a b with h | h
 ·let:leK a b=true:=by simpa [leK] using h
  rw[this];rfl
 ·let:leK b a=true:=by simpa [leK] using h
  rw[this,tQ]
theorem zIh{a b:List Nat}(h1:leK a b=true)(h2:leK b a=true):a=b:=by
 let x1:a<=b:=by simpa [leK] using h1
 let x2:b<=a:=by simpa [leK] using h2
 exact List.le_antisymm x1 x2
noncomputable def wJ(ks:List (List Nat)):List (List Nat):=ks.mergeSort leK
theorem wK(ks:List (List Nat)):(wJ ks).Perm ks:=List.mergeSort_perm ks leK
theorem gC(ks:List (List Nat)):(wJ ks).Pairwise (λa b=>leK a b=true):=List.pairwise_mergeSort zFs zPw ks
theorem zAf:∀{a b:List (List Nat)},a.Perm b->a.Pairwise (λa b=>leK a b=true)->b.Pairwise (λa b=>leK a b=true)->a=b
 | [],b,p,_,_=>(List.nil_perm.mp p).symm
 | x::a,[],p,_,_=>absurd p.length_eq (by simp)
 | x::a,y::b,p,h1,h2=>by
  rw[cP] at h1 h2;let hx:x∈y::b:=p.mem_iff.mp mF;let hy:y∈x::a:=p.mem_iff.mpr mF;let e:x=y:=by
   rcases mD.mp hx with z | z
   ·exact z
   ·rcases mD.mp hy with z' | z'
    ·exact z'.symm
    ·exact zIh (h1.1 y z') (h2.1 x z)
  subst e;rw[zAf p.cons_inv h1.2 h2.2]
theorem zCi:∀(p:Str)(l:List Str),risingS p l=true->((p::l).map ts).Pairwise (λa b=>leK a b=true)
 | p,[],_=>List.pairwise_singleton _ _
 | p,x::r,h=>by
  let h':(!ltCps x.cps.toList p.cps.toList && risingS x r)=true:=h;rw[tP] at h';let ih:=zCi x r h'.2;let hpx:leK (ts p) (ts x)=true:=by
   let:=h'.1;rw[ltCps_eq] at this;exact this
  rw[mZ,cP];refine{λy hy=>?_,ih};rw[mZ] at hy ih;rw[cP] at ih;rcases mD.mp hy with z | z
  ·rw[z];exact hpx
  ·exact zFs _ _ _ hpx (ih.1 y z)
theorem zGt{l:List Str}(h:sortedS l=true):(l.map ts).Pairwise (λa b=>leK a b=true):=by
 cases l with
 | nil=>exact List.Pairwise.nil
 | cons p r=>exact zCi p r h
theorem zBg{ss:List Str}{ks:List (List Nat)}(hp:ss.Perm (ks.map tx))(hs:sortedS ss=true):ss=(wJ ks).map tx:=by
 let e:ss.map ts=wJ ks:=by
  refine zAf ?_ (zGt hs) (gC ks);let z:=hp.map ts;rw[sB] at z;let e2:ks.map (ts∘tx)=ks:=by
   conv=>rhs;rw[<-List.map_id ks]
   exact tR λk _=>vB k
  rw[e2] at z;exact z.trans (wK ks).symm
 let e3:(ss.map ts).map tx=ss:=by
  rw[sB]
  conv=>rhs;rw[<-List.map_id ss]
  exact tR λk _=>vH k
 rw[<-e3,e]
inductive C where
 | non | bl (b:Bool)| int (i:Int)| str (x:List Nat)| row (xs:List C)| rcd (xs:List C)| odd
noncomputable def C.ord:C->Nat
 | .non=>0
 | .bl _=>1
 | .int _=>2
 | .str _=>3
 | .row _=>4
 | .rcd _=>5
 | .odd=>6
noncomputable def zEd(k:List Nat):List (List Nat)->List C->C
 | k'::ks,c::cs=>if k'=k then c else zEd k ks cs
 | _,_=>.odd
noncomputable def xY(k:List Nat):List (List Nat)->List T->T
 | k'::ks,c::cs=>if k'=k then c else xY k ks cs
 | _,_=>.tup []
mutual
noncomputable def zY:T->C
 | .non=>.non
 | .bl b=>.bl b
 | .int i=>.int i
 | .str x=>.str x
 | .lst ts=>.row (xE ts)
 | .dic ks ts=>.rcd ((wJ ks).map λk=>.row [.str k,zEd k ks (xE ts)])
 | .tup _=>.odd
noncomputable def xE:List T->List C
 | []=>[]
 | t::ts=>zY t::xE ts
end
theorem jK:∀(ts:List T),xE ts=ts.map zY
 | []=>rfl
 | t::ts=>by rw[mZ,<-jK ts];rfl
theorem qN(k:List Nat):∀(ks:List (List Nat))(ts:List T),zY (xY k ks ts)=zEd k ks (xE ts)
 | [],_=>rfl
 | _::_,[]=>rfl
 | k'::ks,t::ts=>by
  show zY (if k'=k then t else xY k ks ts)=if k'=k then zY t else zEd k ks (xE ts);split
  ·rfl
  ·exact qN k ks ts
noncomputable def sgI(a b:Int):Int:=(if b<a then 1 else 0)- (if a<b then 1 else 0)
noncomputable def zCa(a b:List Nat):Int:=(if b<a then 1 else 0)- (if a<b then 1 else 0)
mutual
noncomputable def wG:C->C->Int
 | .non, .non=>0
 | .bl a, .bl b=>sgI (if a then 1 else 0) (if b then 1 else 0)
 | .int a, .int b=>sgI a b
 | .str a, .str b=>zCa a b
 | .row a, .row b=>vN a b
 | .rcd a, .rcd b=>vN a b
 | a,b=>sgI a.ord b.ord
noncomputable def vN:List C->List C->Int
 | [],[]=>0
 | [],_::_=>-1
 | _::_,[]=>1
 | x::xs,y::ys=>if wG x y=0 then vN xs ys else wG x y
end
mutual
noncomputable def m8:T->Nat
 | .lst ts=>i9 ts+1
 | .dic _ ts=>i9 ts+2
 | .tup ts=>i9 ts+1
 | .non=>0
 | .bl _=>0
 | .int _=>0
 | .str _=>0
noncomputable def i9:List T->Nat
 | []=>0
 | t::ts=>max (m8 t) (i9 ts)
end
theorem k8{t:T}:∀{ts:List T},t∈ts->m8 t<=i9 ts
 | [],h=>nomatch h
 | u::ts,h=>by
  show m8 t<=max (m8 u) (i9 ts);rcases mD.mp h with e | e
  ·subst e;exact cD _ _
  ·exact pC (k8 e) (dC _ _)
mutual
def T.few:T->Prop
 | .dic ks ts=>ks.Nodup/\ks...*<64/\ks...*=ts...*/\j4 ts
 | .lst ts=>ts...*<=100000/\j4 ts
 | .tup _=>False
 | .non=>True
 | .bl _=>True
 | .int _=>True
 | .str _=>True
def j4:List T->Prop
 | []=>True
 | t::ts=>T.few t/\j4 ts
end
theorem b9{t:T}:∀{ts:List T},j4 ts->t∈ts->T.few t
 | [],_,h=>nomatch h
 | u::ts,h,hm=>(mD.mp hm).elim (λe=>e▸h.1) (b9 h.2)
theorem zEj{k:List Nat}:∀{ks:List (List Nat)}{ts:List T}{i:Nat}{t:T},ks.Nodup->ks[i]? =Y k->ts[i]? =Y t->xY k ks ts=t
 | [],_,i,_,_,h,_=>by simp at h
 | k'::ks,[],i,_,_,_,h=>by simp at h
 | k'::ks,u::ts,0,t,nd,h1,h2=>by
  simp only[pY,Option.some.injEq] at h1 h2;subst h1 h2;exact mQ O
 | k'::ks,u::ts,i+1,t,nd,h1,h2=>by
  rw[pM] at nd;let h1':ks[i]? =Y k:=by simpa using h1
  let ne:¬k'=k:=λe=>nd.1 (e▸mP h1');show(if k'=k then u else xY k ks ts)=t;rw[mK ne];exact zEj nd.2 h1' (by simpa using h2)
theorem wP{k:List Nat}:∀{ks:List (List Nat)}{ts:List T},k∈ks->ks...*=ts...*->xY k ks ts∈ts
 | [],_,h,_=>nomatch h
 | k'::ks,[],_,h=>by simp at h
 | k'::ks,u::ts,h,hl=>by
  show(if k'=k then u else xY k ks ts)∈u::ts;split
  ·exact mF
  ·rename_i ne
   rcases mD.mp h with e | e
   ·exact absurd e.symm ne
   ·exact mH _ (wP e (by simpa using hl))
theorem zDh:∀(a b:C),a.ord≠b.ord->wG a b=sgI a.ord b.ord:=by
 intro a b h;cases a<;>cases b<;>first | exact absurd O h |(unfold wG;rfl)
theorem kY(x y:C)(xs ys:List C):vN (x::xs) (y::ys)=if wG x y=0 then vN xs ys else wG x y:=by
 rw[vN]
theorem zLc{xs ys:List C}{i:Nat}{x y:C}(hx:xs[i]? =Y x)(hy:ys[i]? =Y y):vN (xs.drop i) (ys.drop i)=if wG x y=0 then vN (xs.drop (i+1)) (ys.drop (i+1)) else wG x y:=by
 obtain⟨h1,e1⟩:=mO.mp hx;obtain⟨h2,e2⟩:=mO.mp hy;rw[pB h1,pB h2,e1,e2,kY]
theorem zOv{xs ys:List C}{m:Nat}(h:m=min xs...* ys...*):vN (xs.drop m) (ys.drop m)=sgI xs...* ys...*:=by
 unfold sgI;rcases Nat.lt_trichotomy xs...* ys...* with g | g | g
 ·let e:m=xs...*:=by lia
  rw[pT (Nat.le_of_eq e.symm),pB (show m<ys...* by lia),vN,mK ∅,mQ ∅]
  rfl
 ·let e:m=xs...*:=by lia
  rw[pT (Nat.le_of_eq e.symm),pT (show ys...*<=m by lia),vN,mK ∅,mK ∅]
  rfl
 ·let e:m=ys...*:=by lia
  rw[pT (show ys...*<=m by lia),pB (show m<xs...* by lia),vN,mQ ∅,mK ∅]
  rfl
noncomputable def gI(ks:List (List Nat))(ts:List T):List T:=(wJ ks).map λk=>.lst [.str k,xY k ks ts]
theorem zEk(ks:List (List Nat))(ts:List T):xE (gI ks ts)=(wJ ks).map λk=>C.row [.str k,zEd k ks (xE ts)]:=by
 rw[jK,gI,sB];refine tR λk _=>?_;show C.row [.str k,zY (xY k ks ts)]=_;rw[qN]
theorem mem_sortK{k:List Nat}{ks:List (List Nat)}:k∈wJ ks↔k∈ks:=(wK ks).mem_iff
theorem zHd{ts:List T}(h:∀t∈ts,T.few t):j4 ts:=by
 induction ts with
 | nil=>exact mI
 | cons t ts ih=>exact{h t mF,ih λu hu=>h u (mH _ hu)}
theorem yDq{n:Nat}{ts:List T}(h:∀t∈ts,m8 t<=n):i9 ts<=n:=by
 induction ts with
 | nil=>exact nS _
 | cons t ts ih=>exact Nat.max_le.mpr {h t mF,ih λu hu=>h u (mH _ hu)}
theorem zKl{ks:List (List Nat)}{ts:List T}(hl:ks...*=ts...*)(h:j4 ts):j4 (gI ks ts):=by
 refine zHd λt ht=>?_;obtain⟨k,hk,rfl⟩:=nW.mp ht;exact{by simp,mI,b9 h (wP (mem_sortK.mp hk) hl),mI}
theorem zNy{ks:List (List Nat)}{ts:List T}(hl:ks...*=ts...*):i9 (gI ks ts)<=i9 ts+1:=by
 refine yDq λt ht=>?_;obtain⟨k,hk,rfl⟩:=nW.mp ht;let:=k8 (wP (mem_sortK.mp hk) hl);show max 0 (max (m8 (xY k ks ts)) 0)+1<=_
 lia
theorem zDx(ks:List (List Nat))(ts:List T):(gI ks ts)...*=ks...*:=by
 rw[gI,mL];exact(wK ks).length_eq
theorem vJ(ts:List T):(xE ts)...*=ts...*:=by rw[jK,mL]
theorem kW{ts:List T}{i:Nat}{t:T}(h:ts[i]? =Y t):(xE ts)[i]? =Y (zY t):=by rw[jK,nH,h];rfl
theorem i4{H:Hp}{ps:List (Key×V)}{ks:List (List Nat)}{us:List T}(nk:ks.Nodup)(hk:ps.map (·.1)=ks.map λk=>(Sum.inr (tx k):Key))(hs:Reps H (ps.map (·.2)) us){k:List Nat}(hm:k∈ks):
  ∃v,jD ps (Sum.inr (tx k))=Y v/\Rep H v (xY k ks us):=by
 obtain⟨j,hj⟩:=bU.mp hm;let hp:(ps.map (·.1))[j]? =Y (Sum.inr (tx k):Key):=by rw[hk,nH,hj];rfl
 rw[nH] at hp
 cases hpj:ps[j]? with
 | none=>rw[hpj] at hp;cases hp
 | some kv=>
  rw[hpj] at hp;let ek:kv.1=(Sum.inr (tx k):Key):=mR hp;let hpj':ps[j]? =Y ((Sum.inr (tx k):Key),kv.2):=by rw[hpj,<-ek]
  obtain⟨t,ht,hr⟩:=hs.get (i:=j) (v:=kv.2) (by rw[nH,hpj];rfl);refine{kv.2,uQ (by rw[hk];exact kO nk) hpj', ?_};rw[zEj nk hj ht];exact hr
def LtM(P:V3)(w:V4)(A:Around)(s:V2)(u v:V0)(b:Bool):Prop:=∀(E:V0->V2->Prop)(Q:V0->V2->Prop),Q (.bool b) s->V8 (S5 P w) A (richCompare .Lt u v) Q E s
def EqB(P:V3)(w:V4)(A:Around)(s:V2)(u v:V0)(b:Bool):Prop:=∀(E:V0->V2->Prop)(Q:Bool->V2->Prop),Q b s->V8 (S5 P w) A (eqBool u v) Q E s
def RqM(P:V3)(w:V4)(A:Around)(s:V2)(u v:V0)(b:Bool):Prop:=∀(E:V0->V2->Prop)(Q:V0->V2->Prop),Q (.bool b) s->V8 (S5 P w) A (richCompare .Eq u v) Q E s
inductive Zc (P:V3) (w:V4) (A:Around) (s:V2):List V0->List V0->Int->Prop
 | nil:Zc P w A s [] [] 0
 | less {y:V0} {ys:List V0}:Zc P w A s [] (y::ys) (-1)
 | more {x:V0} {xs:List V0}:Zc P w A s (x::xs) [] 1
 | eq {x y:V0} {xs ys:List V0} {c:Int}:EqB P w A s x y true->Zc P w A s xs ys c->Zc P w A s (x::xs) (y::ys) c
 | ne {x y:V0} {xs ys:List V0} {c:Int}:EqB P w A s x y false->LtM P w A s x y (decide (c<0))->c≠0->Zc P w A s (x::xs) (y::ys) c
section
variable{P:V3}{w:V4}{A:Around}{s:V2}{E:V0->V2->Prop}
theorem yCo{a b:V1}{xs ys:Array V0}{c:Int}{R:Fin->V2->Prop}(hx:IsTup s.heap a xs)(hy:IsTup s.heap b ys)(hz:Zc P w A s xs.toList ys.toList c)(h:R (.done (.ret (.bool (decide (c<0))))) s):
  V8 (S5 P w) A (Builtin.«tuple.__lt__» {[.ref a, .ref b],[]}) R E s:=by
 let hTb:=hy.typeIs;obtain⟨oa,hoa,_,na,hda⟩:=hx;obtain⟨ob,hob,_,nb,hdb⟩:=hy;show V8 _ _ (isInstance (.ref b) (.type "tuple")>>=_) _ _ s;refine mC (wpAny_isInstance hTb isSubtype_tuple_tuple ?_);simp only[bN,sW,bD];refine mC (bE hoa hda ?_);refine mC (bE hob hdb ?_);refine mC ?_;refine wpAny_forIn_list _
  (λrest r s'=>r.1=none/\s'=s/\∃xs' ys',rest=List.zip xs' ys'/\Zc P w A s xs' ys' c/\xs'...*+ys.size=ys'...*+xs.size)
  _ ?_ ?_ _ _ {O,O,xs.toList,ys.toList,O,hz,by simp;lia}
 ·rintro⟨u,v⟩ rest r s' ⟨hr,rfl,xs',ys',hz',hc,hlen⟩
  cases hc with
  | nil=>simp at hz'
  | less=>simp at hz'
  | more=>simp at hz'
  | eq he hc'=>
   simp only[bF,List.cons.injEq,Prod.mk.injEq] at hz';obtain⟨⟨rfl,rfl⟩,rfl⟩:=hz';refine mC (he _ _ ?_);simp only[bN,sW,bD];exact mN {O,O,_,_,O,hc',by simp only[mW] at hlen;lia}
  | ne he hl _=>
   simp only[bF,List.cons.injEq,Prod.mk.injEq] at hz';obtain⟨⟨rfl,rfl⟩,rfl⟩:=hz';refine mC (he _ _ ?_);simp only[Bool.not_false,cX];refine mC (wpAny_rule (mC (hl _ _ ?_)));exact mC (mN (mN (mN h)))
 ·rintro⟨r1,r2⟩ s' ⟨hr,rfl,xs',ys',hz',hc,hlen⟩
  simp only at hr;subst hr;refine mN ?_;let hfin:(decide (xs.size<ys.size))=decide (c<0):=by
   cases hc with
   | nil=>simp only[pK] at hlen;exact pX.mpr {λh=>by lia,λh=>by lia}
   | less=>simp only[pK,mW] at hlen;exact pX.mpr {λh=>by lia,λh=>by lia}
   | more=>simp only[pK,mW] at hlen;exact pX.mpr {λh=>by lia,λh=>by lia}
   | eq=>simp at hz'
   | ne=>simp at hz'
  show R (.done (.ret (.bool (decide (xs.size<ys.size))))) s';rw[hfin];exact h
theorem yBd{a b:V1}{xs ys:Array V0}{c:Int}{R:Fin->V2->Prop}(hx:IsTup s.heap a xs)(hy:IsTup s.heap b ys)(hz:Zc P w A s xs.toList ys.toList c)(h:R (.done (.ret (.bool (decide (c=0))))) s):
  V8 (S5 P w) A (Builtin.«tuple.__eq__» {[.ref a, .ref b],[]}) R E s:=by
 let hTb:=hy.typeIs;obtain⟨oa,hoa,_,na,hda⟩:=hx;obtain⟨ob,hob,_,nb,hdb⟩:=hy;show V8 _ _ (isInstance (.ref b) (.type "tuple")>>=_) _ _ s;refine mC (wpAny_isInstance hTb isSubtype_tuple_tuple ?_);simp only[bN,sW,bD];refine mC (bE hoa hda ?_);refine mC (bE hob hdb ?_);refine mC ?_;refine wpAny_forIn_list _
  (λrest r s'=>r.1=none/\s'=s/\∃xs' ys',rest=List.zip xs' ys'/\Zc P w A s xs' ys' c/\xs'...*+ys.size=ys'...*+xs.size)
  _ ?_ ?_ _ _ {O,O,xs.toList,ys.toList,O,hz,by simp;lia}
 ·rintro⟨u,v⟩ rest r s' ⟨hr,rfl,xs',ys',hz',hc,hlen⟩
  cases hc with
  | nil=>simp at hz'
  | less=>simp at hz'
  | more=>simp at hz'
  | eq he hc'=>
   simp only[bF,List.cons.injEq,Prod.mk.injEq] at hz';obtain⟨⟨rfl,rfl⟩,rfl⟩:=hz';refine mC (he _ _ ?_);simp only[bN,sW,bD];exact mN {O,O,_,_,O,hc',by simp only[mW] at hlen;lia}
  | ne he hl hn=>
   simp only[bF,List.cons.injEq,Prod.mk.injEq] at hz';obtain⟨⟨rfl,rfl⟩,rfl⟩:=hz';refine mC (he _ _ ?_);simp only[Bool.not_false,cX];rw[nG hn] at h;exact mC (mN (mN (mN h)))
 ·rintro⟨r1,r2⟩ s' ⟨hr,rfl,xs',ys',hz',hc,hlen⟩
  simp only at hr;subst hr;refine mN ?_;let hfin:(xs.size==ys.size)=decide (c=0):=by
   rw[show(xs.size==ys.size)=decide (xs.size=ys.size) from O]
   cases hc with
   | nil=>simp only[pK] at hlen;exact pX.mpr {λh=>O,λh=>by lia}
   | less=>simp only[pK,mW] at hlen;exact pX.mpr {λh=>by lia,λh=>by lia}
   | more=>simp only[pK,mW] at hlen;exact pX.mpr {λh=>by lia,λh=>by lia}
   | eq=>simp at hz'
   | ne=>simp at hz'
  show R (.done (.ret (.bool (xs.size==ys.size)))) s';rw[hfin];exact h
theorem LtM.tups{a b:V1}{xs ys:Array V0}{c:Int}(hx:IsTup s.heap a xs)(hy:IsTup s.heap b ys)(hu:A.units<cLine)(hz:Zc P w A.in1 s xs.toList ys.toList c):LtM P w A s (.ref a) (.ref b) (decide (c<0)):=λE Q q=>
 cQ (op:=.Lt) hx.typeIs hy.typeIs F.slot_tuple_lt (bQ F.slot_tuple_lt hx.typeIs F.entry_tuple_lt (yCo hx hy hz {_,O,(λe=>nomatch e),q}) (F.args_tuple_lt_2 _ _)) hu
theorem RqM.tups{a b:V1}{xs ys:Array V0}{c:Int}(hx:IsTup s.heap a xs)(hy:IsTup s.heap b ys)(hu:A.units<cLine)(hz:Zc P w A.in1 s xs.toList ys.toList c):RqM P w A s (.ref a) (.ref b) (decide (c=0)):=λE Q q=>
 cQ (op:=.Eq) hx.typeIs hy.typeIs F.slot_tuple_eq (bQ F.slot_tuple_eq hx.typeIs F.entry_tuple_eq (yBd hx hy hz {_,O,(λe=>nomatch e),q}) (F.args_tuple_eq_2 _ _)) hu
theorem p6{a b:V1}{k:Bool}(he:a=b->k=true)(h:a≠b->RqM P w A s (.ref a) (.ref b) k):EqB P w A s (.ref a) (.ref b) k:=by
 by_cases e:a=b
 ·rw[he e];subst e;exact λE Q q=>SeqAt.EqAt.same _ _ _ E Q q
 ·intro E Q q
  unfold eqBool;refine pG (wpAny_ite_split (λz=>?_) λ_=>mC (h e E _ (pZ q)));let:=eq_of_beq z;injection this with this;exact absurd this e
end
mutual
noncomputable def xU:T->T->Option Int
 | .bl a, .bl b=>Y (sgI (if a then 1 else 0) (if b then 1 else 0))
 | .int a, .int b=>Y (sgI a b)
 | .str a, .str b=>Y (zCa a b)
 | .tup a, .tup b=>gJ a b
 | _,_=>none
noncomputable def gJ:List T->List T->Option Int
 | [],[]=>Y 0
 | [],_::_=>Y (-1)
 | _::_,[]=>Y 1
 | x::xs,y::ys=>match xU x y with
  | some c=>if c=0 then gJ xs ys else Y c
  | none=>none
end
theorem zBc(a:Int):sgI a a=0:=by simp[sgI]
theorem sgI_0{a b:Int}:sgI a b=0↔a=b:=by unfold sgI;split<;>split<;>lia
theorem yDp{a b:Int}:sgI a b<0↔a<b:=by unfold sgI;split<;>split<;>lia
theorem kN(a:List Nat):zCa a a=0:=by simp[zCa]
theorem zWq{a b:List Nat}:zCa a b<0↔a<b:=by
 unfold zCa
 by_cases h:a<b
 ·let h':¬b<a:=λz=>List.lt_asymm h z
  simp[h,h']
 ·simp only[h,bD]
  split<;>simp
theorem cmpS_0{a b:List Nat}:zCa a b=0↔a=b:=by
 constructor
 ·intro e
  unfold zCa at e
  by_cases h:a<b
  ·let h':¬b<a:=λz=>List.lt_asymm h z
   simp[h,h'] at e
  ·by_cases h':b<a
   ·simp[h,h'] at e
   ·exact List.le_antisymm h' h
 ·intro e;subst e;exact kN a
mutual
theorem zKe{H:Hp}:∀{t t':T}{v:V}{c:Int},Rep H v t->Rep H v t'->xU t t'=Y c->c=0
 | .bl a, .bl b,v,c,h1,h2,e=>by
  let e1:V.bl a=V.bl b:=(show v= .bl a from h1)▸h2;injection e1 with e1;subst e1;let e':Y (sgI (if a then 1 else 0) (if a then 1 else 0))=Y c:=by rw[xU] at e;exact e
  rw[zBc] at e';exact(mR e').symm
 | .int a, .int b,v,c,h1,h2,e=>by
  let e1:V.int a=V.int b:=(show v= .int a from h1)▸h2;injection e1 with e1;subst e1;rw[xU,zBc] at e;exact(mR e).symm
 | .str a, .str b,v,c,h1,h2,e=>by
  let e1:V.str (tx a)=V.str (tx b):=(show v= .str (tx a) from h1)▸h2;injection e1 with e1;let e2:a=b:=by rw[<-vB a,e1,vB]
  subst e2;rw[xU,kN] at e;exact(mR e).symm
 | .tup ts, .tup ts',v,c,⟨a,vs,e1,h1,h2⟩,⟨b,ws,e3,h3,h4⟩,e=>by
  subst e1;injection e3 with e3;subst e3;rw[h1] at h3;injection h3 with h3;injection h3 with h3;subst h3;rw[xU] at e;exact zFr h2 h4 e
 | .non,t',_,_,_,_,e=>by cases t'<;>(rw[xU] at e<;>first | cases e |(intros;nofun))
 | .lst _,t',_,_,_,_,e=>by cases t'<;>(rw[xU] at e<;>first | cases e |(intros;nofun))
 | .dic _ _,t',_,_,_,_,e=>by cases t'<;>(rw[xU] at e<;>first | cases e |(intros;nofun))
 | .bl _, .non,_,_,_,_,e=>by simp[xU] at e
 | .bl _, .int _,_,_,_,_,e=>by simp[xU] at e
 | .bl _, .str _,_,_,_,_,e=>by simp[xU] at e
 | .bl _, .lst _,_,_,_,_,e=>by simp[xU] at e
 | .bl _, .dic _ _,_,_,_,_,e=>by simp[xU] at e
 | .bl _, .tup _,_,_,_,_,e=>by simp[xU] at e
 | .int _, .non,_,_,_,_,e=>by simp[xU] at e
 | .int _, .bl _,_,_,_,_,e=>by simp[xU] at e
 | .int _, .str _,_,_,_,_,e=>by simp[xU] at e
 | .int _, .lst _,_,_,_,_,e=>by simp[xU] at e
 | .int _, .dic _ _,_,_,_,_,e=>by simp[xU] at e
 | .int _, .tup _,_,_,_,_,e=>by simp[xU] at e
 | .str _, .non,_,_,_,_,e=>by simp[xU] at e
 | .str _, .bl _,_,_,_,_,e=>by simp[xU] at e
 | .str _, .int _,_,_,_,_,e=>by simp[xU] at e
 | .str _, .lst _,_,_,_,_,e=>by simp[xU] at e
 | .str _, .dic _ _,_,_,_,_,e=>by simp[xU] at e
 | .str _, .tup _,_,_,_,_,e=>by simp[xU] at e
 | .tup _, .non,_,_,_,_,e=>by simp[xU] at e
 | .tup _, .bl _,_,_,_,_,e=>by simp[xU] at e
 | .tup _, .int _,_,_,_,_,e=>by simp[xU] at e
 | .tup _, .str _,_,_,_,_,e=>by simp[xU] at e
 | .tup _, .lst _,_,_,_,_,e=>by simp[xU] at e
 | .tup _, .dic _ _,_,_,_,_,e=>by simp[xU] at e
theorem zFr{H:Hp}:∀{ts ts':List T}{vs:List V}{c:Int},Reps H vs ts->Reps H vs ts'->gJ ts ts'=Y c->c=0
 | [],[],vs,c,_,_,e=>by rw[gJ] at e;exact(mR e).symm
 | [],_::_,vs,c,h1,⟨x,r,e1,_⟩,e=>by
  cases (show vs= [] from h1);cases e1
 | _::_,[],vs,c,⟨x,r,e1,_⟩,h2,e=>by
  cases (show vs= [] from h2);cases e1
 | t::ts,t'::ts',vs,c,⟨x,r,e1,h1,h2⟩,⟨x',r',e2,h3,h4⟩,e=>by
  subst e1;injection e2 with e2 e3;subst e2 e3;rw[gJ] at e
  cases hc:xU t t' with
  | none=>rw[hc] at e;cases e
  | some d=>
   rw[hc] at e;let hd:=zKe h1 h3 hc;subst hd;exact zFr h2 h4 (by simpa using e)
end
section
variable{X:Cx}{pins:List (V1×Obj)}{σ:St}{H:Hp}{s:V2}
mutual
theorem zTh(I:Inv X pins σ H s):∀(t t':T){x y:V}{u v:V0}{A:Around}{c:Int},Rep H x t->Rep H y t'->RelV x u->RelV y v->xU t t'=Y c->A.units+T.dep t<cLine->
  EqB X.prog X.w A s u v (decide (c=0))/\LtM X.prog X.w A s u v (decide (c<0))/\RqM X.prog X.w A s u v (decide (c=0))
 | .bl a,t',x,y,u,v,A,c,hx,hy,rx,ry,e,_=>by
  cases t' with
  | bl b=>
   cases (show x= .bl a from hx);cases (show y= .bl b from hy);cases (show u=Value.bool a from rx);cases (show v=Value.bool b from ry);rw[xU] at e;let ec:=(mR e).symm;let e1:decide (c=0)=(a==b):=by rw[ec];cases a<;>cases b<;>rfl
   let e2:decide (c<0)=decide (b2i a<b2i b):=by rw[ec];cases a<;>cases b<;>rfl
   rw[e1,e2];exact{λE Q q=>SeqAt.EqAt.bool_bool a b _ _ E Q q,λE Q q=>PyProof.Rows.lt_bool q,λE Q q=>SeqAt.RcAt.bool_bool a b _ _ E Q q}
  | _=>simp[xU] at e
 | .int a,t',x,y,u,v,A,c,hx,hy,rx,ry,e,_=>by
  cases t' with
  | int b=>
   cases (show x= .int a from hx);cases (show y= .int b from hy);obtain⟨t1,rfl⟩:=rx;obtain⟨t2,rfl⟩:=ry;rw[xU] at e;let ec:=(mR e).symm;let e1:decide (c=0)=(a==b):=by rw[ec];exact pX.mpr sgI_0
   let e2:decide (c<0)=decide (a<b):=by rw[ec];exact pX.mpr yDp
   rw[e1,e2];exact{λE Q q=>SeqAt.EqAt.int_int a t1 b t2 _ _ E Q q,λE Q q=>PyProof.Rows.lt_int q,λE Q q=>SeqAt.RcAt.int_int a t1 b t2 _ _ E Q q}
  | _=>simp[xU] at e
 | .str a,t',x,y,u,v,A,c,hx,hy,rx,ry,e,_=>by
  cases t' with
  | str b=>
   cases (show x= .str (tx a) from hx);cases (show y= .str (tx b) from hy);obtain⟨t1,rfl⟩:=rx;obtain⟨t2,rfl⟩:=ry;rw[xU] at e;let ec:=(mR e).symm;let e1:decide (c=0)=(tx a==tx b):=by
    rw[ec]
    by_cases h:a=b
    ·subst h;rw[kN,bR];rfl
    ·let h1:¬zCa a b=0:=λz=>h (cmpS_0.mp z)
     let h2:tx a≠tx b:=λz=>h (by rw[<-vB a,z,vB]);rw[nG h1,rE.mpr h2]
   let e2:decide (c<0)=decide (a<b):=by rw[ec];exact pX.mpr zWq
   rw[e1,e2];exact{λE Q q=>cN (tx a) t1 (tx b) t2 _ _ E Q q,λE Q q=>PyProof.Rows.lt_str q,λE Q q=>SeqAt.RcAt.str_str (tx a) t1 (tx b) t2 _ _ E Q q}
  | _=>simp[xU] at e
 | .tup ts,t',x,y,u,v,A,c,hx,hy,rx,ry,e,hd=>by
  cases t' with
  | tup ts'=>
   let hc0:=fun(h:Rep H x (.tup ts'))=>zKe hx h e;obtain⟨a,xs,e1,ha,hxs⟩:=hx;obtain⟨b,ys,e2,hb,hys⟩:=hy;subst e1 e2;cases rx;cases ry;obtain⟨us,r1,p1,_⟩:=I.tuple (SqT.of ha);obtain⟨vs,r2,p2,_⟩:=I.tuple (SqT.of hb);rw[xU] at e;let hd':A.units+(T.deps ts+1)<cLine:=hd;let z:=zNz I ts ts' (A:=A.in1) hxs hys r1 r2 e (by show A.units+1+_<_;lia);let hu:A.units<cLine:=by lia
   let zz:RqM X.prog X.w A s (.ref a) (.ref b) (decide (c=0)):=RqM.tups p1 p2 hu (by simpa using z);refine{p6 (λe3=>?_) (λ_=>zz),LtM.tups p1 p2 hu (by simpa using z),zz};subst e3;rw[hc0 ⟨a,ys,O,hb,hys⟩]
   rfl
  | _=>simp[xU] at e
 | .non,t',_,_,_,_,_,_,_,_,_,_,e,_=>by cases t'<;>simp[xU] at e
 | .lst _,t',_,_,_,_,_,_,_,_,_,_,e,_=>by cases t'<;>simp[xU] at e
 | .dic _ _,t',_,_,_,_,_,_,_,_,_,_,e,_=>by cases t'<;>simp[xU] at e
theorem zNz(I:Inv X pins σ H s):∀(ts ts':List T){xs ys:List V}{us vs:List V0}{A:Around}{c:Int},Reps H xs ts->Reps H ys ts'->Vals xs us->Vals ys vs->gJ ts ts'=Y c->A.units+T.deps ts<cLine->
  Zc X.prog X.w A s us vs c
 | [],[],xs,ys,us,vs,A,c,hx,hy,rx,ry,e,_=>by
  cases (show xs= [] from hx);cases (show ys= [] from hy);cases rx;cases ry;rw[gJ] at e;rw[<-mR e];exact .nil
 | [],_::_,xs,ys,us,vs,A,c,hx,⟨y,yr,e2,_⟩,rx,ry,e,_=>by
  cases (show xs= [] from hx);subst e2;cases rx;cases ry;rw[gJ] at e;rw[<-mR e];exact .less
 | _::_,[],xs,ys,us,vs,A,c,⟨x,xr,e1,_⟩,hy,rx,ry,e,_=>by
  cases (show ys= [] from hy);subst e1;cases rx;cases ry;rw[gJ] at e;rw[<-mR e];exact .more
 | t::ts,t'::ts',xs,ys,us,vs,A,c,⟨x,xr,e1,hx,hxr⟩,⟨y,yr,e2,hy,hyr⟩,rx,ry,e,hd=>by
  subst e1 e2
  cases rx with
  | cons rx1 rx2=>
   cases ry with
   | cons ry1 ry2=>
    let hd':A.units+max (T.dep t) (T.deps ts)<cLine:=hd;let q1:=cD (T.dep t) (T.deps ts);let q2:=dC (T.dep t) (T.deps ts);rw[gJ] at e
    cases hc:xU t t' with
    | none=>rw[hc] at e;cases e
    | some d=>
     rw[hc] at e;let z:=zTh I t t' (A:=A) hx hy rx1 ry1 hc ∅
     by_cases hd0:d=0
     ·rw[nP hd0] at z
      exact .eq z.1 (zNz I ts ts' hxr hyr rx2 ry2 (by simpa [hd0] using e) ∅)
     ·rw[nG hd0] at z
      let ed:d=c:=by simpa [hd0] using e
      subst ed;exact .ne z.1 z.2.1 hd0
end
def rEqU:R2:=λx y H Q=>∃t t' c,Rep H x t/\Rep H y t'/\xU t t'=Y c/\T.dep t<=60/\Q (.bl (decide (c=0))) H
theorem zYh(hu:X.A.units+64<cLine):OpR X (A3 .Eq) rEqU:=by
 intro pins s σ H x y v u Q I rx ry h;obtain⟨t,t',c,hx,hy,hc,hd,q⟩:=h;exact(zTh I t t' (A:=X.A) hx hy rx ry hc ∅).2.2 _ _ {.bl _,H,I,O,q}
end
noncomputable def rawC:C->T
 | .str x=>.str x
 | _=>.non
mutual
noncomputable def rk:C->T
 | .non=>.tup [.int 0]
 | .bl b=>.tup [.int 1, .bl b]
 | .int i=>.tup [.int 2, .int i]
 | .str x=>.tup [.int 3, .str x]
 | .row cs=>.tup [.int 4, .tup (rks cs)]
 | .rcd cs=>.tup [.int 5, .tup (rkps cs)]
 | .odd=>.non
noncomputable def rks:List C->List T
 | []=>[]
 | c::cs=>rk c::rks cs
noncomputable def rkps:List C->List T
 | []=>[]
 | c::cs=>rkq c::rkps cs
noncomputable def rkq:C->T
 | .row cs=>.tup (rkl cs)
 | .non=>.non
 | .bl _=>.non
 | .int _=>.non
 | .str _=>.non
 | .rcd _=>.non
 | .odd=>.non
noncomputable def rkl:List C->List T
 | []=>[]
 | c::cs=>rawC c::rks cs
end
mutual
def C.ok:C->Prop
 | .odd=>False
 | .row cs=>C.oks cs
 | .rcd cs=>r8 cs
 | .non=>True
 | .bl _=>True
 | .int _=>True
 | .str _=>True
def C.oks:List C->Prop
 | []=>True
 | c::cs=>C.ok c/\C.oks cs
def r8:List C->Prop
 | []=>True
 | c::cs=>C.okq c/\r8 cs
def C.okq:C->Prop
 | .row cs=>C.okl cs
 | .non=>False
 | .bl _=>False
 | .int _=>False
 | .str _=>False
 | .rcd _=>False
 | .odd=>False
def C.okl:List C->Prop
 | []=>False
 | c::cs=>(∃k,c= .str k)/\cs...*=1/\C.oks cs
end
theorem d7{n:Nat}{ts:List T}(h:∀t∈ts,T.dep t<=n):T.deps ts<=n:=by
 induction ts with
 | nil=>exact nS _
 | cons t ts ih=>exact Nat.max_le.mpr {h t mF,ih λu hu=>h u (mH _ hu)}
section
variable{X:Cx}
end
section
variable{X:Cx}{e k:Expr}{te:TE}{tk:TO}{pos p2:Pos}
end
mutual
def T.calm:T->Prop
 | .int i=>-(10 ^ 12)<=i/\i<=10 ^ 12
 | .str x=>x...*<=100
 | .lst ts=>l6 ts
 | .dic _ ts=>l6 ts
 | .tup ts=>l6 ts
 | .non=>True
 | .bl _=>True
def l6:List T->Prop
 | []=>True
 | t::ts=>T.calm t/\l6 ts
end
structure Fit(d z:Nat)(t:T):Prop where
 few:T.few t
 calm:T.calm t
 dep:T.dep t<=d
 sz:T.sz t<=z
theorem zBf{K:A6}{H:Hp}{p:V1}{xs:List V}{i:Int}{Q:VK}(h:H p=Y (.lst xs))(h0:0<=i)(h1:i<xs...*)(q:∀x∈xs,Q x H):zYk K (.ref p) (.int i) H Q:=by
 obtain⟨x,hx,hm⟩:=gW h0 h1;exact zZ (SqL.of h) hx (q x hm)
theorem zAz:∀(n:Nat)(t:T),T.dep t<=n->T.few t->T.pure t:=by
 intro n
 induction n with
 | zero=>
  intro t hd hf
  cases t with
  | lst ts=>exact absurd hd (aP _)
  | dic ks ts=>exact absurd hd (aP _)
  | tup ts=>exact hf.elim
  | _=>exact mI
 | succ n ih=>
  let all:∀ts:List T,T.deps ts<=n->j4 ts->k9 ts:=by
   intro ts
   induction ts with
   | nil=>intros;exact mI
   | cons t ts ih2=>
    intro hd hf;let hd':max (T.dep t) (T.deps ts)<=n:=hd;exact{ih t ∅ hf.1,ih2 ∅ hf.2}
  intro t hd hf
  cases t with
  | lst ts=>exact all ts (Nat.le_of_succ_le_succ hd) hf.2
  | dic ks ts=>exact{hf.1,all ts (Nat.le_of_succ_le_succ hd) hf.2.2.2}
  | tup ts=>exact hf.elim
  | _=>exact mI
section
variable{P:V3}{w:V4}
end
section
variable{X:Cx}
end
theorem zUo(xs:List V)(i:Nat):kL xs ↥(i:Int) none=xs.drop i:=by
 unfold kL;rw[HT.sIx_nat];show(xs.drop (min i xs...*)).take (xs...* - min i xs...*)=_
 by_cases h:i<=xs...*
 ·rw[dO h,sA (by rw[rN];lia)]
 ·rw[dG ∅,aQ,pT ∅,List.take_nil]
theorem zJo(xs:List V):kL xs none ↥(-1)=xs.take (xs...* - 1):=by
 unfold kL;show(xs.drop 0).take ((-1+(xs...*:Int)).toNat - 0)=_;rw[aL,Nat.sub_zero]
 congr 1
 lia
theorem Reps.take{H:Hp}:∀{xs:List V}{us:List T}(i:Nat),Reps H xs us->Reps H (xs.take i) (us.take i)
 | xs,us,0,_=>by rw[List.take_zero,List.take_zero];exact O
 | xs,[],i+1,h=>by cases (show xs= [] from h);exact O
 | xs,u::us,i+1,⟨x,r,e,h1,h2⟩=>by
  subst e;rw[List.take_succ_cons,List.take_succ_cons];exact{x,_,O,h1,Reps.take i h2}
theorem Reps.drop{H:Hp}:∀{xs:List V}{us:List T}(i:Nat),Reps H xs us->Reps H (xs.drop i) (us.drop i)
 | xs,us,0,h=>by rw[aL,aL];exact h
 | xs,[],i+1,h=>by cases (show xs= [] from h);exact O
 | xs,u::us,i+1,⟨x,r,e,h1,h2⟩=>by
  subst e;rw[List.drop_succ_cons,List.drop_succ_cons];exact Reps.drop i h2
theorem szs_append:∀(a b:List T),T.szs (a++b)=T.szs a+T.szs b
 | [],b=>by show T.szs b=0+T.szs b;lia
 | u::a,b=>by
  show T.sz u+T.szs (a++b)=T.sz u+T.szs a+T.szs b;rw[szs_append a b];lia
theorem sz_pos:∀(t:T),1<=T.sz t
 | .lst ts=>rK (nS _)
 | .dic _ ts=>rK (nS _)
 | .tup ts=>rK (nS _)
 | .non=>mE _
 | .bl _=>mE _
 | .int _=>mE _
 | .str _=>mE _
theorem zNc:∀(ts:List T),ts...*<=T.szs ts
 | []=>mE _
 | t::ts=>by
  let:=zNc ts;let:=sz_pos t;show ts...*+1<=T.sz t+T.szs ts
  lia
section
variable{X:Cx}{pins:List (V1×Obj)}{σ σ':St}{H H':Hp}{s s':V2}
theorem Inv.freezeL{d:V1}{xs:List V}{o:Obj}(I:Inv X pins σ H s)(h:H d=Y (.lst xs))(hg:s.heap.get? d=Y o):Inv X pins σ (upd H d (.frz o (.lst xs))) s:=by
 let ne:∀b u,H b=u->u≠Y (.lst xs)->b≠d:=λb u e n z=>by subst z;exact n (e.symm.trans h)
 refine I.sim (λb e=>by rw[zM (ne b _ e (by intro z;cases z))];exact e) (λb a e=>by rw[zM (ne b _ e (by intro z;cases z))];exact e) (λb a e=>by rw[zM (ne b _ e (by intro z;cases z))];exact e)
  (λb a e=>by rw[zM (ne b _ e (by intro z;cases z))];exact e) (λb o' u e=>?_) λb u e=>?_
 ·let e':=I.base.frzs b o' u e
  rw[zM (ne b _ e' (by intro z;cases z))];exact e'
 ·by_cases hb:b=d
  ·subst hb
   rw[zB] at e;cases e;exact .inr (.inr ⟨o,_,O,h,hg⟩)
  ·rw[zM hb] at e;exact .inl e
def zNo(d:V1)(t:TE):TE:=λσ H Q=>(∃kvs,H d=Y (.dK kvs)/\∀o,t σ (upd H d (.frz o (.dK kvs))) λv H'=>Q v (thaw H H'))\/∃xs,H d=Y (.lst xs)/\∀o,t σ (upd H d (.frz o (.lst xs))) λv H'=>Q v (thaw H H')
def zHs(t:TE):TE:=λσ H Q=>∃d,zNo d t σ H Q
theorem zCr{e:Expr}{t:TE}(h:PE X e t):PE X e (zHs t):=by
 intro pins s σ H Q I q;obtain⟨d,⟨kvs,hd,q⟩|⟨xs,hd,q⟩⟩:=q
 ·obtain⟨_,_,us,_,D⟩:=zMk I.hok hd
  obtain⟨o,ho,_⟩:=D.typeIs;exact thn (h pins s σ _ _ (I.freeze hd ho) (q o)) λu s1 ⟨v,H1,I1,r,q1⟩=>{v,_,I.thaw I1,r,q1}
 ·refine xI (I.list (SqL.of hd)) λus r1 pl _=>?_
  ext xV pl o n ho _;exact thn (h pins s σ _ _ (I.freezeL hd ho) (q o)) λu s1 ⟨v,H1,I1,r,q1⟩=>⟨v,_,I.thaw I1,r,q1⟩
end
def xN(H:Hp)(d:V1):Hp:=λb=>if b=d then none else H b
theorem xK{H:Hp}{d b:V1}(h:b≠d):xN H d b=H b:=mK h
theorem jT{H:Hp}{d:V1}:xN H d d=none:=mQ O
theorem jJ{H:Hp}{d:V1}{u:HO}:xN (upd H d u) d=xN H d:=by
 funext b
 by_cases h:b=d
 ·subst h;rw[jT,jT]
 ·rw[xK h,xK h,zM h]
theorem zAq{H:Hp}{d:V1}{u:HO}:Same (xN H d) (upd H d u):=λb v e=>by
 by_cases h:b=d
 ·subst h;rw[jT] at e;cases e
 ·rw[xK h] at e;rw[zM h];exact e
theorem wI{H:Hp}{d:V1}:Same (xN H d) H:=λb v e=>by
 by_cases h:b=d
 ·subst h;rw[jT] at e;cases e
 ·rw[xK h] at e;exact e
theorem xS{H H':Hp}{d:V1}(h:Same H H'):Same (xN H d) (xN H' d):=λb v e=>by
 by_cases hb:b=d
 ·subst hb;rw[jT] at e;cases e
 ·rw[xK hb] at e⊢;exact h b v e
theorem Rep.off{H H':Hp}{d:V1}{o:Obj}{u:HO}(hd:H' d=Y (.frz o u)){v:V}{t:T}(h:Rep H' v t):Rep (xN (L2.thaw H H') d) v t:=
 Rep.plain (λb w n e=>by
  let hb:b≠d:=λz=>by subst z;rw[hd] at e;cases e;exact n _ _ O
  rw[xK hb];exact wZ e n) v t h
theorem zPr{H H':Hp}{d:V1}{o:Obj}{u:HO}(hd:H d=Y u)(hu:∀o v,u≠ .frz o v)(g:Same (upd H d (.frz o u)) H'):L2.thaw H H' d=Y u:=
 zMz (g d _ zB) λo v z=>hu o v (mR (hd.symm.trans z))
noncomputable def gG:Nat->Nat
 | 0=>1
 | d+1=>4*gG d+1
theorem uK:∀d,1<=gG d
 | 0=>mE _
 | d+1=>rK (nS _)
theorem zUs:∀d,d<=4->gG d<=341:=by
 intro d h;let:d=0\/d=1\/d=2\/d=3\/d=4:=by lia
 rcases this with rfl | rfl | rfl | rfl | rfl<;>decide
theorem zBt{n:Nat}:∀{ts:List T},(∀t∈ts,T.sz t<=n)->T.szs ts<=ts...**n
 | [],_=>nS _
 | t::ts,h=>by
  let h1:=h t mF;let h2:=zBt (ts:=ts) λu hu=>h u (mH _ hu);show T.sz t+T.szs ts<=(ts...*+1)*n;rw[Nat.add_mul];lia
theorem zSl{X:Cx}{K:A6}(h:X.K=K):IxR X (zYk K):=by subst h;exact zP
end L2
namespace L2
open PySem PySem.Spec PyProof.Rows PySem.Builtin PySem.Builtin.Str
section
variable{prog:V3}{w:V4}{A:Around}{E:V0->V2->Prop}{s:V2}{x y:Str}{t u:Tok}{Q:V0->V2->Prop}
end
section
variable{X:Cx}
end
structure Bl3(mg:Str->Option V0):Prop extends Bl2 mg where
 abs:mg "abs" =none
end L2
namespace L2
open PySem PySem.Spec PyProof.Rows
noncomputable def vG(ns:List Int)(k:Int):Int:=
 let m:=if ns= [] then k*7919 else(k*7919+k / ns...**104729+ns.getD (k % ns...*).toNat 0*48271)% 1000003
 (m*m / 11+13*m)% 1000003
theorem wW(ns:List Int)(k:Int):0<=vG ns k:=rX _ ∎
theorem qH(ns:List Int)(k:Int):vG ns k<1000003:=rP _ ∎
noncomputable def yY(n:List Nat)(t:T):List (List Nat)->List T->List T
 | k::ks,u::us=>(if k=n then t else u)::yY n t ks us
 | _,us=>us
noncomputable def vE(p:List (List Nat)×List T)(n:List Nat)(t:T):List (List Nat)×List T:=if n∈p.1 then(p.1,yY n t p.1 p.2) else(p.1++ [n],p.2++ [t])
theorem uM(n:List Nat)(t:T):∀(ks:List (List Nat))(us:List T),(yY n t ks us)...*=us...*
 | [],us=>by unfold yY;rfl
 | _::_,[]=>rfl
 | k::ks,u::us=>by
  show(yY n t ks us)...*+1=us...*+1;rw[uM n t ks us]
theorem uN(n:List Nat)(t:T):∀(ks:List (List Nat))(us:List T)(u:T),u∈yY n t ks us->u∈us\/u=t
 | [],us,u,h=>by unfold yY at h;exact .inl h
 | _::_,[],u,h=>.inl h
 | k::ks,v::us,u,h=>by
  let h':u∈(if k=n then t else v)::yY n t ks us:=h;rcases mD.mp h' with z | z
  ·split at z
   ·exact .inr z
   ·exact .inl (by rw[z];exact mF)
  ·exact(uN n t ks us u z).imp (mH _) id
theorem Reps.replT{H:Hp}{n:List Nat}{v:V}{t:T}(hv:Rep H v t):∀{ps:List (Key×V)}{ks:List (List Nat)}{us:List T},ps.map (·.1)=ks.map nK->Reps H (ps.map (·.2)) us->Reps H ((ps.map λkv=>if kv.1=nK n then(kv.1,v) else kv).map (·.2)) (yY n t ks us)
 | [],[],us,_,h=>by
  let e:yY n t [] us=us:=by unfold yY;rfl
  rw[e];exact h
 | [],_::_,_,e,_=>by simp at e
 | _::_,[],_,e,_=>by simp at e
 | p::ps,k::ks,[],_,h=>by
  let h':(p::ps).map (·.2)= []:=h;cases h'
 | p::ps,k::ks,u::us,e,⟨v',r,e0,h1,h2⟩=>by
  let e':p.2::ps.map (·.2)=v'::r:=e0;injection e' with e1 e2;subst e1 e2;let e3:p.1::ps.map (·.1)=nK k::ks.map nK:=e;injection e3 with e4 e5;let ih:=Reps.replT (n:=n) hv e5 h2
  by_cases hk:k=n
  ·refine{v,_, ?_, ?_,ih}
   ·rw[mZ,mQ (by rw[e4,hk]),mZ]
   ·rw[mQ hk];exact hv
  ·refine{p.2,_, ?_, ?_,ih}
   ·rw[mZ,mK (by rw[e4];exact λz=>hk (uE z)),mZ]
   ·rw[mK hk];exact h1
theorem zAy{H:Hp}{ps:List (Key×V)}{p:List (List Nat)×List T}{n:List Nat}{v:V}{t:T}(hk:ps.map (·.1)=p.1.map nK)(hR:Reps H (ps.map (·.2)) p.2)(hv:Rep H v t):
  (vM ps (nK n) v).map (·.1)=(vE p n t).1.map nK/\Reps H ((vM ps (nK n) v).map (·.2)) (vE p n t).2:=by
 let hm:(ps.any λkv=>decide (kv.1=nK n))=true↔n∈p.1:=by
  rw[bP];constructor
  ·rintro⟨kv,hkv,e⟩
   let:nK n∈ps.map (·.1):=nW.mpr {kv,hkv,cV e};rw[hk] at this;obtain⟨k,h1,h2⟩:=nW.mp this;rw[<-uE h2];exact h1
  ·intro h
   let:nK n∈ps.map (·.1):=by rw[hk];exact nW.mpr ⟨n,h,O⟩
   obtain⟨kv,h1,h2⟩:=nW.mp this;exact{kv,h1,nP h2}
 unfold vM vE
 by_cases h:n∈p.1
 ·rw[mQ (hm.mpr h),mQ h]
  refine{?_,Reps.replT hv hk hR};show _=p.1.map nK;rw[<-hk,sB];apply tR;intro q _;show(if q.1=nK n then(q.1,v) else q).1=q.1;split<;>rfl
 ·rw[mK (λz=>h (hm.mp z)),mK h]
  exact{by rw[nJ,hk,nJ];rfl,by rw[nJ];exact Reps.snoc hv hR}
end L2
namespace L2
open PySem PySem.Spec PyProof.Rows PySem.Builtin PySem.Builtin.Str
theorem zLd{k:List Nat}(h:yQ k=true):k...*<=12:=by
 unfold yQ at h;simp only[tP,rW] at h
 lia
end L2
namespace L2
open PySem PySem.Spec PyProof.Rows
section
variable{X:Cx}
def zWf(t u:TE):TE:=λσ H Q=>t σ H Q\/u σ H Q
theorem zGf{e:Expr}{t u:TE}(h1:PE X e t)(h2:PE X e u):PE X e (zWf t u):=λpins s σ H Q I h=>h.elim (h1 pins s σ H Q I) (h2 pins s σ H Q I)
end
noncomputable def yBu:T->List T
 | .lst us=>(List.range us...*).map fun(i:Nat)=>T.int (i:Int)
 | .dic ks _=>(wJ ks).map T.str
 | _=>[]
noncomputable def kid:T->T->T
 | .lst us, .int i=>us.getD i.toNat .non
 | .dic ks us, .str k=>xY k ks us
 | _,_=>.non
theorem zMl{t s:T}(h:T.few t)(hs:s∈yBu t):T.few (kid t s)/\T.dep (kid t s)<T.dep t/\T.sz (kid t s)<T.sz t:=by
 cases t with
 | lst us=>
  obtain⟨i,hi,rfl⟩:=nW.mp hs;let hi:=tK.mp hi;let e:kid (.lst us) (T.int (i:Int))=us[i]:=by
   show us.getD (i:Int).toNat .non=_;rw[bJ,sD,mT hi];rfl
  rw[e];let hm:us[i]∈us:=sR hi;exact{b9 h.2 hm,bK (b8 hm),bK (c6 hm)}
 | dic ks us=>
  obtain⟨k,hk,rfl⟩:=nW.mp hs;obtain⟨nk,h64,hl,hf⟩:=h;let hm:xY k ks us∈us:=wP (mem_sortK.mp hk) hl;exact{b9 hf hm,bK (b8 hm),bK (c6 hm)}
 | _=>cases hs
section
variable{X:Cx}{pins:List (V1×Obj)}{σ:St}{H:Hp}{s:V2}{h':V5}
theorem Inv.turnedNew{fp:List V1}{a:V1}{o:HO}{t':Nat}(I:Inv X pins σ H s)(hf:∀b∈fp,zDs X pins H b)(k:∀b ob,b∉fp->s.heap.get? b=Y ob->h'.get? b=Y ob)(hp:s⁻¹<=a)
  (new:ObjOk X.prog X.w (upd H a o) h' a o):Inv X pins σ (upd H a o) {s with heap:=h',toks:=t'}:=by
 let hn:H a=none:=I.hok.fresh hp;let nfp:∀b u,H b=Y u->b∉fp:=λb u e z=>by rw[(hf b z).1] at e;cases e
 let nea:∀b ob,s.heap.get? b=Y ob->b≠a:=λb ob e=>nQ (nO (nB e) hp);refine I.step (g':=s.gens) (d':=s.drawn) (ch:=fp) (λb hb=>?_) (λb ob _ _ hc e _=>k b ob hc e) (λb ob _ _ hc e _=>{ob.slots,k b ob hc e}) (λb ob _ e n=>by rw[zM (nea b ob e)];exact n)
  (λb ob hc e=>{ob,k b ob hc e}) (λb xs e=>by rw[zM (yK e hn)];exact e) (λb ob u e=>by rw[zM (yK e hn)];exact e) (λb ps e=>{#[],by rw[zM (yK e hn),e];simp}) (λm hm=>?_) (λb u e=>?_) I.bare
 ·refine yO (hf b hb) λ_ f1 _ f3 f4 f5=>?_
  exact⟨f3,f1,f4,f5⟩
 ·ext qI hm ob es ep ho r
  exact{ob,es,ep,k _ ob (λz=>(hf _ z).2.1 O) ho,r}
 ·by_cases hb:b=a
  ·subst hb;rw[zB] at e;cases e;exact new
  ·rw[zM hb] at e
   refine(I.hok b u e).stay (λc v hc q=>k c v ?_ q) (λc q=>by rw[zM (yK q hn)];exact q) λc xs q=>by rw[zM (yK q hn)];exact q
   rcases hc with z | z
   ·rw[z];exact nfp b u e
   ·exact nfp c _ z
end
def Iti(d:V1)(o:Obj)(kvs:List (Key×V)):It:=
 ⟨λi H=>i<kvs...*/\H d=Y (.frz o (.dK kvs)),λi H y H'=>∃p kv,H p=none/\kvs[i]? =Y kv/\y= .ref p/\H'=upd H p (.tup [kV kv.1,kv.2]),λi H=>kvs...*<=i/\H d=Y (.frz o (.dK kvs))⟩
theorem zTq:entryFor table "dict_itemiterator.__iter__" =some Builtin.«dict_keyiterator.__iter__»:=
 entryFor_alias (by kernel_rfl) O (by decide+kernel) (by kernel_rfl) (id':="dict_keyiterator.__iter__")
theorem zKr{P:V3}{w:V4}{K:A6}{elts:List Expr}{x1:Nat}{pos:Pos}(d it:V1)(o:Obj)(kvs:List (Key×V)):
  zIb P w K (.Tuple elts x1 pos) (Iti d o kvs) [it] it (λi h=>∃es ep ok ov,o.data= .dict es ep/\IsItemIter h it d i kvs...* ep ok ov) where
 mem:=by simp
 obj:=λi h st b hb=>by
  ext yV st es ep ok ov _ e;let e':b=it:=by simpa using hb
  subst e';exact{_,e,λv z=>by cases z}
 keep:=λi h h' st k=>by
  ext yV st es ep ok ov a st;exact{es,ep,ok,ov,a,k it (by simp) _ st}
 item:=by
  intro X hP hw hK hc i pins s σ H E I hf st hg;subst hP hw hK;ext yV st es ep ok ov hes st;obtain⟨hi,hg⟩:=hg;refine zBb (uL I.hok hg hes) λvs rel hm _ _=>?_;let hl:=rel...*;obtain⟨kv,hkv⟩:∃kv,kvs[i]? =Y kv:={kvs[i],by simp[hi]};refine xI (KV.get rel hkv) λq hq hq1 hq2=>?_;rw[hl] at st;let hlt:it<s⁻¹:=nB st;refine wpAny_pyNext_items_item (k:=q.1) (v:=q.2) st hm hq λkey h1 hk so ht hz keep=>{_,O, ?_};refine wpAny_letOwnedTupleGo_items so λh2 st2 sb=>?_;let sb:Heap.SameBut it h1 h2:=sb;let ht2:h2.get? s⁻¹=some {cls:=.type "tuple",data:=.seq #[key,q.2]}:=(sb.2 _ (rF hlt)).trans ht;let hnew:H s⁻¹=none:=I.hok.fresh (mE _);refine{.ref s⁻¹,upd H s⁻¹ (.tup [kV kv.1,kv.2]),I.turnedNew (t':=s.toks) hf (λb ob hb e=>?_) (mE _) ?_,O,⟨_,kv,hnew,hkv,O,O⟩,{es,ep,key,q.2,hes,by rw[hl];exact st2},λb hb=>?_}
  ·let hne:b≠it:=by simpa using hb
   exact(sb.2 b hne).trans (keep b ob hne e)
  ·refine{by rw[mS];simp,[key,q.2], .cons (by rw[hq1];exact zHb hk) (.cons hq2 .nil),⟨_,ht2,O,_,O⟩}
  ·let e:b=it:=by simpa using hb
   subst e;rw[zM (nQ hlt)];exact(hf _ (by simp)).1
 done:=by
  intro X hP hw hK hc i pins s σ H E I hf st hg;subst hP hw hK;ext yV st es ep ok ov hes st;obtain⟨hi,hg⟩:=hg;refine zBb (uL I.hok hg hes) λvs rel hm _ _=>?_;refine yO (hf it (by simp)) λf0 f1 f2 f3 f4 f5=>?_;let hl:=rel...*;rw[hl] at st;exact wpAny_pyNext_items_end (I.ok.hd hc) st hm (by simp;lia) λh' eb=>{O,I.turned (t':=s.toks) (λb o hb e=>eb b o hb e) f0 f1 f3 f4 f5}
 self:=λA i s Q E st h=>by
  ext yV st es ep ok ov _ st;let hT:s.TypeIs (.ref it) "dict_itemiterator":=⟨_,st,O⟩;refine wpAny_pyIter_slot hT cF (bQ cF hT zTq ?_ (F.args_dict_itemiterator_iter_1 _));show V8 _ _ (ret (.ref it)) _ _ s;exact mN {_,O,"dict_itemiterator",_,hT,F.slot_dict_itemiterator_next.lookup,h}
noncomputable def zFc(p d:V1):HO:=.ext λh=>h.IsItemsView p d
def yAg:V->List V->Hp->VK->Prop:=λx vs H Q=>∃d kvs,x= .ref d/\vs= []/\Rd H d (.dK kvs)/\∀p,H p=none->Q (.ref p) (upd H p (zFc p d))
def zZy(tl:TE):TI:=λσ H R=>tl σ H λx H1=>∃p d kvs,x= .ref p/\H1 p=Y (zFc p d)/\((H1 d=Y (.dK kvs)/\∀o,R (Iti d o kvs) (upd H1 d (.frz o (.dK kvs))))\/∃o,H1 d=Y (.frz o (.dK kvs))/\R (Iti d o kvs) H1)
section
variable{X:Cx}
theorem zQz:MtR X "dict.items" yAg:=by
 intro pins s σ H x vs v us Q I rx rv h;ext yE h d kvs r2_ r3_ hq q;subst r2_ r3_;cases rx;cases rv;obtain⟨z,hd,ws,rel,dd⟩:=kF I.hok hq;refine call_meetsIn PySem.F.slot_dict_items dd.typeIs PySem.F.entry_dict_items (PySem.F.args_dict_items_1 _) (meets_dict_items (yS X.prog X.w) d hd) {⟨ws,dd⟩, ?_};refine{.ref s⁻¹,_,I.laid (t':=s.toks) (λb o e=>mJ _ e) (mE _) (o:=zFc s⁻¹ d) ?_,O,q _ (I.hok.fresh (mE _))};exact⟨{_,nM _ O,O,O},{_,nM _ O},λh1 h2 ⟨o,e,r⟩ k=>⟨o,k o e,r⟩⟩
theorem zUk{elts:List Expr}{x1:Nat}{pos:Pos}{l:Expr}{tl:TE}(hl:PE X l tl):PI X (.Tuple elts x1 pos) l (zZy tl):=by
 intro pins s σ H R I h;refine thn (hl pins s σ H _ I h) λv s1 ⟨x,H1,I1,r1,q1⟩=>?_;ext yD q1 p d kvs r3_ hp q;subst r3_;cases r1;obtain⟨hv,_⟩:=(show ObjOk X.prog X.w H1 s1.heap p (zFc p d) from I1.hok p _ hp);let fin:∀o H2,Inv X pins σ H2 s1->H2 d=Y (.frz o (.dK kvs))->R (Iti d o kvs) H2->V8 (S5 X.prog X.w) X.A (pyIter (.ref p)) (PIE X pins σ (.Tuple elts x1 pos) R) X.xe s1:=λo H2 I2 e q=>by
  obtain⟨g,z,hd,vs,rel,o',es,ep,ho,c,hdat,r⟩:=(show ObjOk X.prog X.w H2 s1.heap d (.frz o (.dK kvs)) from I2.hok d _ e);rw[g] at ho;cases ho;let hm:s1.heap.DictAt (yS X.prog X.w) d vs ep:=⟨o,es,g,c,hdat,r⟩;refine wpAny_pyIter_items hv hm ?_;refine⟨s1⁻¹,[s1⁻¹],_,_,H2,O,I2.kept (t':=s1.toks) λb o e=>mJ _ e,zKr d _ o kvs,⟨es,ep, .none, .none,hdat, ?_⟩,λb hb=>?_,q⟩
  ·rw[rel...*];exact nM _ O
  ·let e:b=s1⁻¹:=by simpa using hb
   subst e;exact I2.fpOk (mE _) (I2.hok.fresh (mE _))
 rcases q with⟨e,q⟩|⟨o,e,q⟩
 ·obtain⟨z,hd,vs,rel,o,es,ep,ho,_⟩:=(show ObjOk X.prog X.w H1 s1.heap d (.dK kvs) from I1.hok d _ e)
  exact fin o _ (I1.freeze e ho) zB (q o)
 ·exact fin o _ I1 e q
end
abbrev g2(K:A6):TG:=zSp K 2 (zJv (qV 0) (zJv (qV 1) zXj))
theorem zRh{F:List (Option V)}{x y:V}:yDe (Y x::Y y::F) (none::none::F):={O,λi v e=>by
 match i,e with
 | 0,e=>cases e
 | 1,e=>cases e
 | i+2,e=>exact e}
theorem zTo{K:A6}{x y:Str}{F:List (Str×Nat)}{J:It}{n:Nat}{te:TE}{σ:St}{Q:VK}{H1:Hp}(Pv:Nat->List V->Hp->Prop)(hn:n<=V9)(h0:Pv 0 [] H1)(hgo:∀i ys H,i<n->Pv i ys H->J.go i H)
  (hst:∀ys H,Pv n ys H->J.stop n H)
  (hs:∀i ys H z H2,i<n->ys...*<=i->Pv i ys H->J.yld i H z H2->∃a u v,z= .ref a/\SqT K H2 a [u,v]/\te (Y u::Y v::F.map (λp=>(σ[p.2]?).join)) H2 λr H4=>Pv (i+1) (ys++ [r]) H4)
  (hd:∀ys H,ys...*<=n->Pv n ys H->∀p,H p=none->Q (.ref p) (upd H p (.lst ys))):wX [x,y] F (g2 K) zBe te σ Q J H1:=by
 refine{λi m ys H=>m=n - i/\i<=n/\Pv i ys H,{n,by simp,nS _,h0}, ?_};rintro i m ys H ⟨rfl,hi,p⟩ hl
 by_cases hlt:i<n
 ·refine .inr {hgo i ys H hlt p,∅,Pv (i+1),λys' H'' q=>{n - (i+1),∅,O,hlt,q},λz H2 hz=>?_}
  refine yD (hs i ys H z H2 hlt hl p hz) λa u v r3_ hq ht=>?_;subst r3_;refine{a,[u,v],O,hq,O,u,[v],O,v,[],O,O, ?_};exact⟨zRh,ht⟩
 ·let e:i=n:=by lia
  subst e;exact .inl {hst ys H p,hn,hd ys H hl p}
theorem zLg{K:A6}{x y:Str}{F:List (Str×Nat)}{d:V1}{o:Obj}{kvs:List (Key×V)}{te:TE}{σ:St}{Q:VK}{H1:Hp}(Pv:Nat->List V->Hp->Prop)(hn:kvs...*<=V9)(h0:Pv 0 [] H1)(hz:∀i ys H,Pv i ys H->H d=Y (.frz o (.dK kvs)))
  (hs:∀i kv ys H p,kvs[i]? =Y kv->ys...*<=i->Pv i ys H->H p=none->te (Y (kV kv.1)::Y kv.2::F.map (λp=>(σ[p.2]?).join)) (upd H p (.tup [kV kv.1,kv.2])) λz H4=>Pv (i+1) (ys++ [z]) H4)
  (hd:∀ys H,ys...*<=kvs...*->Pv kvs...* ys H->∀p,H p=none->Q (.ref p) (upd H p (.lst ys))):wX [x,y] F (g2 K) zBe te σ Q (Iti d o kvs) H1:=
 zTo Pv hn h0 (λi ys H h p=>{h,hz i ys H p}) (λys H p=>{mE _,hz _ ys H p}) (λi ys H z H2 h1 h2 h3 h4=>by
  ext yE h4 p kv hp hkv r4_ r5_;subst r4_ r5_;exact{p,_,_,O, .of zB,hs i kv ys H p hkv h2 h3 hp}) hd
def Ite(K:A6)(l:V1):It:=
 {λi H=>∃xs x,SqL K H l xs/\xs[i]? =Y x,λi H y H'=>∃p x,H p=none/\y= .ref p/\(∀xs,SqL K H l xs->xs[i]? =Y x)/\H'=upd H p (.tup [.int i,x]),λi H=>∃xs,SqL K H l xs/\xs...*<=i}
theorem zPg{P:V3}{w:V4}{K:A6}{elts:List Expr}{x1:Nat}{pos:Pos}(l e it:V1)(hne:e≠it):
  zIb P w K (.Tuple elts x1 pos) (Ite K l) [e,it] e (λi h=>(∃old,IsEnum h e it (i:Int) old)/\h.IsListIter it l i) where
 mem:=by simp
 obj:=λi h st b hb=>by
  obtain⟨⟨old,he⟩,o,e1,c,d⟩:=st;rcases mD.mp hb with z | z
  ·subst z
   exact{_,he,λv z=>by cases z}
  ·let e':b=it:=by simpa using z
   subst e';exact{o,e1,λv z=>by rw[d] at z;cases z}
 keep:=λi h h' st k=>by
  obtain⟨⟨old,he⟩,st⟩:=st;exact⟨{old,k e (by simp) _ he},st.at λo q=>k it (by simp) o q⟩
 item:=by
  intro X hP hw hK hc i pins s σ H E I hf st hg;subst hP hw hK;obtain⟨⟨old,he⟩,st⟩:=st;ext xV hg xs x hq hx;refine xI (I.list hq) λits rv p hz=>?_;obtain⟨u,hu,ru⟩:=rv.get hx;let hle:e<s⁻¹:=nB he;let hli:it<s⁻¹:=by obtain⟨o,q,_⟩:=id st;exact nB q
  refine wpAny_pyNext_enum_item he st p.isList (x:=u) (by simpa using hu) hne λh1 so st1 ht hz1 keep=>{_,O, ?_};refine wpAny_letOwnedTupleGo_enum so λh2 st2 sb=>?_;let sb:Heap.SameBut e h1 h2:=sb;let ht2:h2.get? s⁻¹=some {cls:=.type "tuple",data:=.seq #[.int i s.toks,u]}:=(sb.2 _ (rF hle)).trans ht;let hnew:H s⁻¹=none:=I.hok.fresh (mE _);refine{.ref s⁻¹,upd H s⁻¹ (.tup [.int i,x]),I.turnedNew (t':=s.toks+1) hf (λb ob hb q=>?_) (mE _) ?_,O,{_,x,hnew,O,λys hy=>by rw[I.list_inj hy hq];exact hx,O},{{u, ?_}, ?_},λb hb=>?_}
  ·let hb1:b≠e:=λz=>hb (by simp[z])
   let hb2:b≠it:=λz=>hb (by simp[z]);exact(sb.2 b hb1).trans (keep b ob hb1 hb2 q)
  ·exact{by rw[mS];simp,[.int i s.toks,u], .cons ⟨_,O⟩ (.cons ru .nil),⟨_,ht2,O,_,O⟩}
  ·let:((i+1:Nat):Int)=(i:Int)+1:=by lia
   rw[this];exact st2
  ·exact st1.at λo q=>(sb.2 it (Ne.symm hne)).trans q
  ·rcases mD.mp hb with z | z
   ·subst z
    rw[zM (nQ hle)];exact(hf _ (by simp)).1
   ·let e':b=it:=by simpa using z
    subst e';rw[zM (nQ hli)];exact(hf _ (by simp)).1
 done:=by
  intro X hP hw hK hc i pins s σ H E I hf st hg;subst hP hw hK;obtain⟨⟨old,he⟩,st⟩:=st;obtain⟨xs,hq,hx⟩:=hg;refine xI (I.list hq) λits rv p hz=>?_;refine yO (hf it (by simp)) λf0 f1 f2 f3 f4 f5=>?_;let hl:=rv...*;exact wpAny_pyNext_enum_end (I.ok.hd hc) he st p.isList (by simp;lia) λh' eb=>{O,I.turned (t':=s.toks) (λb o hb e=>eb b o hb e) f0 f1 f3 f4 f5}
 self:=λ_ _ _ _ _ st h=>wpAny_pyIter_enum st.1.choose_spec h
def zZi(K:A6)(ta:TA):TI:=λσ H R=>ta σ H λvs H1=>∃l xs,vs= [.ref l]/\SqL K H1 l xs/\R (Ite K l) H1
theorem zHc:A1 "enumerate" =Y (.type "enumerate"):=by decide+kernel
theorem zWt{X:Cx}{elts:List Expr}{x1:Nat}{tpos:Pos}{a:Expr}{ta:TA}{p pos:Pos}(hg:Gl X "enumerate")(hm:X.mg "enumerate" =none)(ha:PA X [a] ta)(hs:A2 [a] X.env= [(false,eval a X.env)]:=by rfl):
  PI X (.Tuple elts x1 tpos) (.Call (.Name "enumerate" p) [a] [] pos) (zZi X.K ta):=by
 intro pins s σ H R I h;refine Call_ (zAm I hg hm zHc (sU (thn (ha pos pins s σ H _ I h) λus s1 ⟨vs,H1,I1,r1,q1⟩=>?_) hs O));ext yM q1 l xs e hq q;subst e
 cases r1 with
 | cons r rr=>
  cases rr;cases r;refine xI (I1.list hq) λits rv pl hz=>?_;refine call_enumerate_list pl.isList λh' he st hz' keep=>?_;refine wpAny_pyIter_enum (it:=s1⁻¹) (i:=0) (old:=.none) he ?_;let hn0:H1 s1⁻¹=none:=I1.hok.fresh (mE _);let hn1:H1 (s1⁻¹+1)=none:=I1.hok.fresh (pR _);refine{s1⁻¹+1,[s1⁻¹+1,s1⁻¹],_,_,H1,O,I1.kept (t':=s1.toks) keep,zPg l _ _ (Nat.succ_ne_self _),{{.none,he},st},λb hb=>?_,q};rcases mD.mp hb with z | z
  ·subst z;exact I1.fpOk (pR _) hn1
  ·let e':b=s1⁻¹:=by simpa using z
   subst e';exact I1.fpOk (mE _) hn0
noncomputable def tyR(H:Hp):V->Option String
 | .ref a=>match H a with
  | some (.frz _ (.dK _))=>some "dict"
  | _=>tyS H (.ref a)
 | v=>tyS H v
theorem zVr{H:Hp}{x:V}{t:String}(h:tyR H x=Y t):t∈tyL:=by
 cases x with
 | ref a=>
  let h':(match H a with | some (.frz _ (.dK _))=>some "dict" | _=>tyS H (.ref a))=Y t:=h
  split at h'
  ·cases h';simp[tyL]
  ·exact vU h'
 | non=>exact vU (H:=H) (show tyS H .non=Y t from h)
 | bl b=>exact vU (H:=H) (show tyS H (.bl b)=Y t from h)
 | int b=>exact vU (H:=H) (show tyS H (.int b)=Y t from h)
 | str b=>exact vU (H:=H) (show tyS H (.str b)=Y t from h)
 | byt b=>exact vU (H:=H) (show tyS H (.byt b)=Y t from h)
 | flt b=>exact vU (H:=H) (show tyS H (.flt b)=Y t from h)
 | ty b=>exact vU (H:=H) (show tyS H (.ty b)=Y t from h)
theorem zMj{H:Hp}{x:V}{t:String}(h:tyS H x=Y t):tyR H x=Y t:=by
 cases x with
 | ref a=>
  show(match H a with | some (.frz _ (.dK _))=>some "dict" | _=>tyS H (.ref a))=Y t
  split
  ·rename_i o kvs e
   let h':(match H a with | some (.lst _)=>some "list" | some (.tup _)=>some "tuple" | some (.dK _)=>some "dict" | _=>none)=Y t:=h
   rw[e] at h';cases h'
  ·exact h
 | _=>exact h
theorem zVx{H:Hp}{a:V1}{ps:List (Key×V)}(h:Rd H a (.dK ps)):tyR H (.ref a)=some "dict":=by
 rcases h with h |⟨o,h⟩
 ·exact zMj (qX h)
 ·show(match H a with | some (.frz _ (.dK _))=>some "dict" | _=>tyS H (.ref a))=some "dict"
  rw[h]
section
variable{X:Cx}
theorem jG{T:String}(hT:T∈tyL):wH X (.builtin "isinstance") (λxs H Q=>∃x t,xs= [x, .ty T]/\tyR H x=Y t/\Q (.bl (yA t T)) H):=by
 intro pins s σ H xs us Q I r h;ext yM h x t r2_ ht q;subst r2_
 cases x with
 | ref a=>
  let h':(match H a with | some (.frz _ (.dK _))=>some "dict" | _=>tyS H (.ref a))=Y t:=ht
  split at h'
  ·rename_i o kvs e
   cases h';refine yM (uZ r) λu w' r2_ ru rw'=>?_;subst r2_;cases (show w'=Value.type T from rw');cases (show u=Value.ref a from ru);obtain⟨_,_,vs,_,p⟩:=kF I.hok (.inr ⟨o,e⟩);ext yD p ob es ep h1 h2 _;exact sV cL I.kIn ⟨ob,h1,h2.1⟩ (zBs (by simp[tyL]) hT) (λz=>nomatch z) λtk=>{.bl _,H,I.tok _,O,q}
  ·exact zDg hT pins s σ H _ us Q I r ⟨_,t,O,h',q⟩
 | _=>exact zDg hT pins s σ H _ us Q I r ⟨_,t,O,ht,q⟩
theorem zPk:wH X (.builtin "len") (λxs H Q=>∃a kvs,xs= [V.ref a]/\Rd H a (.dK kvs)/\Q (.int kvs...*) H):=by
 intro pins s σ H xs us Q I r h;ext yM h a kvs r2_ ha q;subst r2_;obtain⟨u,rfl,ru⟩:=qJ r;cases ru;exact zYt I ha λt s' I'=>{.int kvs...*,H,I',⟨t,O⟩,q}
end
mutual
def Rp(H:Hp):V->T->Prop
 | v, .non=>v= .non
 | v, .bl b=>v= .bl b
 | v, .int i=>v= .int i
 | v, .str x=>v= .str (tx x)
 | v, .lst ts=>∃a vs,v= .ref a/\H a=Y (.lst vs)/\Rps H vs ts
 | v, .dic ks ts=>∃a ps,v= .ref a/\Rd H a (.dK ps)/\ps.map (·.1)=ks.map (λk=>(Sum.inr (tx k):Key))/\Rps H (ps.map (·.2)) ts
 | v, .tup ts=>∃a vs,v= .ref a/\H a=Y (.tup vs)/\Rps H vs ts
def Rps(H:Hp):List V->List T->Prop
 | vs,[]=>vs= []
 | vs,t::ts=>∃v r,vs=v::r/\Rp H v t/\Rps H r ts
end
mutual
theorem Rep.rp{H:Hp}:∀(v:V)(t:T),Rep H v t->Rp H v t
 | _, .non,h=>h
 | _, .bl _,h=>h
 | _, .int _,h=>h
 | _, .str _,h=>h
 | _, .lst ts,⟨a,vs,h1,h2,h3⟩=>{a,vs,h1,h2,Reps.rp vs ts h3}
 | _, .dic ks ts,⟨a,ps,h1,h2,h3,h4⟩=>{a,ps,h1, .inl h2,h3,Reps.rp _ ts h4}
 | _, .tup ts,⟨a,vs,h1,h2,h3⟩=>{a,vs,h1,h2,Reps.rp vs ts h3}
theorem Reps.rp{H:Hp}:∀(vs:List V)(ts:List T),Reps H vs ts->Rps H vs ts
 | _,[],h=>h
 | _,t::ts,⟨v,r,h1,h2,h3⟩=>{v,r,h1,Rep.rp v t h2,Reps.rp r ts h3}
end
theorem Rp.ty{H:Hp}{v:V}:∀{t:T},Rp H v t->tyR H v=Y (tyT t)
 | .non,h=>by cases (show v= .non from h);rfl
 | .bl b,h=>by cases (show v= .bl b from h);rfl
 | .int i,h=>by cases (show v= .int i from h);rfl
 | .str x,h=>by cases (show v= .str (tx x) from h);rfl
 | .lst ts,h=>by obtain⟨a,vs,e,h2,_⟩:=h;subst e;exact zMj (vW h2)
 | .dic ks ts,h=>by obtain⟨a,vs,e,h2,_⟩:=h;subst e;exact zVx h2
 | .tup ts,h=>by obtain⟨a,vs,e,h2,_⟩:=h;subst e;exact zMj (zNx h2)
theorem zBl{k:Key}:∀{ps:List (Key×V)},k∉ps.map (·.1)->jD ps k=none
 | [],_=>rfl
 | p::ps,h=>by
  rw[uJ λe=>h (by simp[e])];exact zBl λz=>h (mH _ z)
theorem zAg:∀(xs ys:List C),vN xs ys=0↔xs...*=ys...*/\∀(i:Nat) x y,xs[i]? =Y x->ys[i]? =Y y->wG x y=0
 | [],[]=>{λ_=>{O,λi x y h=>by simp at h},λ_=>by rw[vN]}
 | [],_::_=>{λh=>absurd h (by rw[vN];decide),λh=>absurd h.1 (by simp)}
 | _::_,[]=>{λh=>absurd h (by rw[vN];decide),λh=>absurd h.1 (by simp)}
 | x::xs,y::ys=>by
  rw[kY];let ih:=zAg xs ys;constructor
  ·intro h
   by_cases hz:wG x y=0
   ·rw[mQ hz] at h
    obtain⟨h1,h2⟩:=ih.mp h;refine{by simp[h1],λi a b ha hb=>?_}
    cases i with
    | zero=>simp at ha hb;rw[<-ha,<-hb];exact hz
    | succ i=>exact h2 i a b (by simpa using ha) (by simpa using hb)
   ·rw[mK hz] at h;exact absurd h hz
  ·rintro⟨h1,h2⟩
   let hz:=h2 0 x y O O;rw[mQ hz];exact ih.mpr {by simpa using h1,λi a b ha hb=>h2 (i+1) a b (by simpa using ha) (by simpa using hb)}
theorem zCd:∀{ks ks':List (List Nat)},ks.Nodup->(∀k∈ks,k∈ks')->ks'...*=ks...*->ks.Perm ks'
 | [],ks',_,_,h=>by cases ks' with | nil=>exact .nil | cons _ _=>cases h
 | k::ks,ks',hn,hs,hl=>by
  obtain⟨h1,h2⟩:=pM.mp hn;let hk:=hs k mF;let p:=List.perm_cons_erase hk;refine .trans (.cons k (zCd h2 (λj hj=>?_) ?_)) p.symm
  ·exact(List.mem_erase_of_ne λz=>h1 (by rw[<-z];exact hj)).mpr (hs j (mH _ hj))
  ·rw[List.length_erase_of_mem hk,hl];rfl
theorem zCb(a b:List Nat):zCa a b=0↔a=b:=by
 unfold zCa;constructor
 ·intro h
  by_cases h1:b<a
  ·by_cases h2:a<b
   ·exact absurd (List.lt_trans h1 h2) (List.lt_irrefl _)
   ·rw[mQ h1,mK h2] at h;cases h
  ·by_cases h2:a<b
   ·rw[mK h1,mQ h2] at h;cases h
   ·exact zIh (by unfold leK;simp[h1]) (by unfold leK;simp[h2])
 ·intro h
  subst h;rw[mK (List.lt_irrefl _)];rfl
theorem zNb{xs ys:List C}:wG (.row xs) (.row ys)=vN xs ys:=by rw[wG]
theorem zXm{xs ys:List C}:wG (.rcd xs) (.rcd ys)=vN xs ys:=by rw[wG]
theorem zMx{x y:List Nat}:wG (.str x) (.str y)=zCa x y:=by rw[wG]
theorem zKn(k k':List Nat)(c c':C):wG (.row [.str k,c]) (.row [.str k',c'])=0↔k=k'/\wG c c'=0:=by
 rw[zNb,kY,zMx]
 by_cases h:zCa k k'=0
 ·rw[mQ h,kY]
  by_cases h2:wG c c'=0
  ·rw[mQ h2]
   exact{λ_=>{(zCb k k').mp h,h2},λ_=>by rw[vN]}
  ·rw[mK h2]
   exact{λz=>absurd z h2,λz=>absurd z.2 h2}
 ·rw[mK h]
  exact{λz=>absurd z h,λz=>absurd ((zCb k k').mpr z.1) h}
theorem zXy(us ws:List T):wG (zY (.lst us)) (zY (.lst ws))=0↔us...*=ws...*/\∀(i:Nat) t t',us[i]? =Y t->ws[i]? =Y t'->wG (zY t) (zY t')=0:=by
 show wG (.row (xE us)) (.row (xE ws))=0↔_;rw[zNb,zAg,vJ,vJ];refine and_congr_right λhl=>{λh i t t' h1 h2=>h i _ _ (kW h1) (kW h2),λh i x y h1 h2=>?_};rw[jK,nH] at h1 h2
 cases e1:us[i]? with
 | none=>rw[e1] at h1;cases h1
 | some t=>
  cases e2:ws[i]? with
  | none=>rw[e2] at h2;cases h2
  | some t'=>
   rw[e1] at h1;rw[e2] at h2;cases h1;cases h2;exact h i t t' e1 e2
theorem zXl{ks ks':List (List Nat)}{us us':List T}(nk:ks.Nodup):wG (zY (.dic ks us)) (zY (.dic ks' us'))=0↔ks...*=ks'...*/\∀k∈ks,k∈ks'/\wG (zY (xY k ks us)) (zY (xY k ks' us'))=0:=by
 show wG (.rcd ((wJ ks).map λk=>.row [.str k,zEd k ks (xE us)])) (.rcd ((wJ ks').map λk=>.row [.str k,zEd k ks' (xE us')]))=0↔_;let l1:(wJ ks)...*=ks...*:=(wK ks).length_eq;let l2:(wJ ks')...*=ks'...*:=(wK ks').length_eq;rw[zXm,zAg,mL,mL,l1,l2];refine and_congr_right λhl=>?_;constructor
 ·intro h k hk
  obtain⟨i,hi⟩:=bU.mp (mem_sortK.mpr hk);let hlt:i<(wJ ks')...*:=by let:=(mO.mp hi).1;lia
  let h2:(wJ ks')[i]? =some (wJ ks')[i]:=by simp[hlt]
  let z:=h i _ _ (by rw[nH,hi];rfl) (by rw[nH,h2];rfl);obtain⟨e,z⟩:=(zKn _ _ _ _).mp z;let hm:k∈ks':=by rw[e];exact mem_sortK.mp (sR hlt)
  refine{hm, ?_};rw[qN,qN];rw[<-e] at z;exact z
 ·intro h i x y h1 h2
  let hp:ks.Perm ks':=zCd nk (λk hk=>(h k hk).1) hl.symm;let es:wJ ks=wJ ks':=zAf ((wK ks).trans (hp.trans (wK ks').symm)) (gC ks) (gC ks');rw[<-es] at h2;rw[nH] at h1 h2
  cases e:(wJ ks)[i]? with
  | none=>rw[e] at h1;cases h1
  | some k=>
   rw[e] at h1 h2;cases h1;cases h2;let hk:=mem_sortK.mp (mP e);let z:=(h k hk).2;rw[qN,qN] at z;exact(zKn _ _ _ _).mpr ⟨O,z⟩
theorem zXg{X:Cx}{K:A6}(hK:X.K=K){es:List Expr}{k:Nat}{pos:Pos}{t:TGs}{n:Nat}(hc:X.calm=true)(h:PGs X es t)
  (hn:(S6 es X.env)...*=n:=by rfl) (hst:(S6 es X.env).findIdx? (·.1)=none:=by rfl):PG X (.Tuple es k pos) (zSp K n t):=by subst hK;exact zQv hc h hn hst
structure Bl4(mg:Str->Option V0):Prop extends Bl2 mg where
 enumerate:mg "enumerate" =none
mutual
def Sp1(H:Hp):V->T->List V1->Prop
 | v, .non,D=>D= []/\v= .non
 | v, .bl b,D=>D= []/\v= .bl b
 | v, .int i,D=>D= []/\v= .int i
 | v, .str x,D=>D= []/\v= .str (tx x)
 | v, .lst ts,D=>∃a vs D',v= .ref a/\H a=Y (.lst vs)/\D=a::D'/\a∉D'/\Sps H vs ts D'
 | v, .dic ks ts,D=>∃a ps D',v= .ref a/\H a=Y (.dK ps)/\ps.map (·.1)=ks.map (λk=>(Sum.inr (tx k):Key))/\D=a::D'/\a∉D'/\Sps H (ps.map (·.2)) ts D'
 | v, .tup ts,D=>∃a vs D',v= .ref a/\H a=Y (.tup vs)/\D=a::D'/\a∉D'/\Sps H vs ts D'
def Sps(H:Hp):List V->List T->List V1->Prop
 | vs,[],D=>vs= []/\D= []
 | vs,t::ts,D=>∃v r D1 D2,vs=v::r/\D=D1++D2/\Sp1 H v t D1/\Sps H r ts D2/\∀b∈D1,b∉D2
end
mutual
theorem Sp1.rep{H:Hp}:∀(v:V)(t:T)(D:List V1),Sp1 H v t D->Rep H v t
 | _, .non,_,h=>h.2
 | _, .bl _,_,h=>h.2
 | _, .int _,_,h=>h.2
 | _, .str _,_,h=>h.2
 | _, .lst ts,_,⟨a,vs,D',h1,h2,_,_,h3⟩=>{a,vs,h1,h2,Sps.rep vs ts D' h3}
 | _, .dic ks ts,_,⟨a,ps,D',h1,h2,h3,_,_,h4⟩=>{a,ps,h1,h2,h3,Sps.rep _ ts D' h4}
 | _, .tup ts,_,⟨a,vs,D',h1,h2,_,_,h3⟩=>{a,vs,h1,h2,Sps.rep vs ts D' h3}
theorem Sps.rep{H:Hp}:∀(vs:List V)(ts:List T)(D:List V1),Sps H vs ts D->Reps H vs ts
 | _,[],_,h=>h.1
 | _,t::ts,_,⟨v,r,D1,D2,h1,_,h2,h3,_⟩=>{v,r,h1,Sp1.rep v t D1 h2,Sps.rep r ts D2 h3}
end
mutual
theorem Sp1.keep{H H':Hp}:∀(v:V)(t:T)(D:List V1),(∀b∈D,∀o,(∀ob u,o≠HO.frz ob u)->H b=Y o->H' b=Y o)->Sp1 H v t D->Sp1 H' v t D
 | _, .non,_,_,h=>h
 | _, .bl _,_,_,h=>h
 | _, .int _,_,_,h=>h
 | _, .str _,_,_,h=>h
 | _, .lst ts,_,k,⟨a,vs,D',h1,h2,e,n,h3⟩=>{a,vs,D',h1,k a (by rw[e];exact mF) _ (by intro ob u z;cases z) h2,e,n,Sps.keep vs ts D' (λb hb=>k b (by rw[e];exact mH _ hb)) h3}
 | _, .dic ks ts,_,k,⟨a,ps,D',h1,h2,h3,e,n,h4⟩=>{a,ps,D',h1,k a (by rw[e];exact mF) _ (by intro ob u z;cases z) h2,h3,e,n,Sps.keep _ ts D' (λb hb=>k b (by rw[e];exact mH _ hb)) h4}
 | _, .tup ts,_,k,⟨a,vs,D',h1,h2,e,n,h3⟩=>{a,vs,D',h1,k a (by rw[e];exact mF) _ (by intro ob u z;cases z) h2,e,n,Sps.keep vs ts D' (λb hb=>k b (by rw[e];exact mH _ hb)) h3}
theorem Sps.keep{H H':Hp}:∀(vs:List V)(ts:List T)(D:List V1),(∀b∈D,∀o,(∀ob u,o≠HO.frz ob u)->H b=Y o->H' b=Y o)->Sps H vs ts D->Sps H' vs ts D
 | _,[],_,_,h=>h
 | _,t::ts,_,k,⟨v,r,D1,D2,h1,e,h2,h3,n⟩=>{v,r,D1,D2,h1,e,Sp1.keep v t D1 (λb hb=>k b (by rw[e];exact nV _ hb)) h2,Sps.keep r ts D2 (λb hb=>k b (by rw[e];exact nI _ hb)) h3,n}
end
mutual
theorem Sp1.there{H:Hp}{b:V1}:∀(v:V)(t:T)(D:List V1),Sp1 H v t D->b∈D->∃o,H b=Y o
 | _, .non,_,h,hb=>by rw[h.1] at hb;cases hb
 | _, .bl _,_,h,hb=>by rw[h.1] at hb;cases hb
 | _, .int _,_,h,hb=>by rw[h.1] at hb;cases hb
 | _, .str _,_,h,hb=>by rw[h.1] at hb;cases hb
 | _, .lst ts,_,⟨a,vs,D',h1,h2,e,n,h3⟩,hb=>by
  rw[e] at hb;rcases mD.mp hb with z | z
  ·exact{_,by rw[z];exact h2}
  ·exact Sps.there vs ts D' h3 z
 | _, .dic ks ts,_,⟨a,ps,D',h1,h2,h3,e,n,h4⟩,hb=>by
  rw[e] at hb;rcases mD.mp hb with z | z
  ·exact{_,by rw[z];exact h2}
  ·exact Sps.there _ ts D' h4 z
 | _, .tup ts,_,⟨a,vs,D',h1,h2,e,n,h3⟩,hb=>by
  rw[e] at hb;rcases mD.mp hb with z | z
  ·exact{_,by rw[z];exact h2}
  ·exact Sps.there vs ts D' h3 z
theorem Sps.there{H:Hp}{b:V1}:∀(vs:List V)(ts:List T)(D:List V1),Sps H vs ts D->b∈D->∃o,H b=Y o
 | _,[],_,h,hb=>by rw[h.2] at hb;cases hb
 | _,t::ts,_,⟨v,r,D1,D2,h1,e,h2,h3,n⟩,hb=>by
  rw[e] at hb;rcases mU.mp hb with z | z
  ·exact Sp1.there v t D1 h2 z
  ·exact Sps.there r ts D2 h3 z
end
theorem Sp1.same{H H':Hp}(g:Same H H'){v:V}{t:T}{D:List V1}(h:Sp1 H v t D):Sp1 H' v t D:=Sp1.keep v t D (λb _ o _ e=>g b o e) h
theorem Sps.same{H H':Hp}(g:Same H H'){v:List V}{t:List T}{D:List V1}(h:Sps H v t D):Sps H' v t D:=Sps.keep v t D (λb _ o _ e=>g b o e) h
theorem Sps.snoc{H:Hp}{v:V}{t:T}{D1:List V1}(h:Sp1 H v t D1):∀{vs:List V}{ts:List T}{D:List V1},Sps H vs ts D->(∀b∈D,b∉D1)->Sps H (vs++ [v]) (ts++ [t]) (D++D1)
 | _,[],D,e,_=>by
  obtain⟨e1,e2⟩:=e;subst e1 e2;exact{v,[],D1,[],O,by simp,h,⟨O,O⟩,λ_ _ z=>nomatch z}
 | _,t'::ts,D,⟨v',r,E1,E2,h1,e,h2,h3,n⟩,hd=>by
  subst h1 e;refine{v',r++ [v],E1,E2++D1,O,by simp,h2,Sps.snoc h h3 λb hb=>hd b (nI _ hb),λb hb z=>?_};rcases mU.mp z with c | c
  ·exact n b hb c
  ·exact hd b (nV _ hb) c
theorem Sps.length{H:Hp}{vs:List V}{ts:List T}{D:List V1}(h:Sps H vs ts D):vs...*=ts...*:=(Sps.rep vs ts D h)...*
def Keep(D:List V1)(H H':Hp):Prop:=∀b o,b∉D->H b=Y o->H' b=Y o
theorem Keep.refl{D:List V1}{H:Hp}:Keep D H H:=λ_ _ _ h=>h
theorem Keep.trans{D:List V1}{H H1 H2:Hp}(a:Keep D H H1)(b:Keep D H1 H2):Keep D H H2:=λc o h e=>b c o h (a c o h e)
theorem Keep.mono{D D':List V1}{H H':Hp}(h:Keep D H H')(s:∀b∈D,b∈D'):Keep D' H H':=λb o hb e=>h b o (λz=>hb (s b z)) e
theorem Keep.of{D:List V1}{H H':Hp}(g:Same H H'):Keep D H H':=λb o _ e=>g b o e
theorem Keep.put{D:List V1}{H H':Hp}{a:V1}(o:HO)(h:Keep D H H')(ha:a∈D):Keep D H (upd H' a o):=λb u hb e=>by
 rw[zM λz=>hb (by rw[z];exact ha)];exact h b u hb e
theorem Keep.old{D:List V1}{H0 H H':Hp}(h:Keep D H H')(g:Same H0 H)(hf:∀b∈D,H0 b=none):Same H0 H':=λb o e=>h b o (λz=>by rw[hf b z] at e;cases e) (g b o e)
theorem yG{H H':Hp}(g:Same H H'){p:V1}(h:H' p=none):H p=none:=by
 cases e:H p with
 | none=>rfl
 | some o=>rw[g _ _ e] at h;cases h
theorem Sps.thaw{H H':Hp}{vs:List V}{ts:List T}{D:List V1}(h:Sps H' vs ts D):Sps (L2.thaw H H') vs ts D:=Sps.keep vs ts D (λ_ _ _ n e=>wZ e n) h
section
variable{prog:V3}{w:V4}{A:Around}{E:V0->V2->Prop}{s:V2}
end
section
variable{X:Cx}
end
section
variable{X:Cx}{a:Expr}{ta:TE}
end
inductive U where
 | leaf (v:V)| lst (us:List U)| dic (ks:List Key) (us:List U)
mutual
noncomputable def U.sz:U->Nat
 | .leaf _=>1
 | .lst us=>U.szs us+1
 | .dic _ us=>U.szs us+1
noncomputable def U.szs:List U->Nat
 | []=>0
 | u::us=>U.sz u+U.szs us
end
mutual
noncomputable def U.dep:U->Nat
 | .leaf _=>0
 | .lst us=>U.deps us+1
 | .dic _ us=>U.deps us+1
noncomputable def U.deps:List U->Nat
 | []=>0
 | u::us=>max (U.dep u) (U.deps us)
end
mutual
def U.ok:U->Prop
 | .leaf v=>∀x,v= .str x->x...*<=1000
 | .lst us=>U.oks us
 | .dic ks us=>ks.Nodup/\ks...*=us...*/\(∀x,Sum.inr x∈ks->x...*<=1000)/\U.oks us
def U.oks:List U->Prop
 | []=>True
 | u::us=>U.ok u/\U.oks us
end
section
variable{X:Cx}{pins:List (V1×Obj)}{σ:St}{H:Hp}{s:V2}
theorem zGh:OpR X (A3 .LtE) (λx y H Q=>∃i j,x= .str i/\y= .str j/\Q (.bl (!decide (ts j<ts i))) H):=by
 intro pins s σ H x y v u Q I rx ry h;ext yM h i j r2_ r3_ q;subst r2_ r3_;obtain⟨t,rfl⟩:=rx;obtain⟨t',rfl⟩:=ry;exact PySem.P.le_str (yP I q O)
theorem zKo{T W:String}(hT:T∈tyL)(hU:W∈tyL):wH X (.builtin "isinstance") (λxs H Q=>∃x t p,xs= [x, .ref p]/\H p=Y (.tup [.ty T, .ty W])/\tyR H x=Y t/\Q (.bl (yA t T || yA t W)) H):=by
 intro pins s σ H xs us Q I r h;ext yD h x t p r3_ hp z_;ext oA z_ ht q;subst r3_
 cases x with
 | ref a=>
  let h':(match H a with | some (.frz _ (.dK _))=>some "dict" | _=>tyS H (.ref a))=Y t:=ht
  split at h'
  ·rename_i o kvs e
   cases h';refine yM (uZ r) λu w' r2_ ru rw'=>?_;subst r2_;cases (show w'=Value.ref p from rw');cases (show u=Value.ref a from ru);obtain⟨_,_,vs,_,pp⟩:=kF I.hok (.inr ⟨o,e⟩);ext yD pp ob es ep h1 h2 _;obtain⟨_,its,rv,pl⟩:=(show ObjOk X.prog X.w H s.heap p (.tup [.ty T, .ty W]) from I.hok p _ hp);refine yM (uZ rv) λv1 v2 ee r1 r2=>?_;subst ee;cases (show v1=Value.type T from r1);cases (show v2=Value.type W from r2);obtain⟨o2,ho,hc,n,hd⟩:=pl;obtain⟨oc,od,odt,osl⟩:=o2;cases (show oc=Value.type "tuple" from hc);cases (show odt=Data.seq _ n from hd);refine PySem.W.kia_tup PySem.W.kitx_dict I.kIn ⟨ob,h1,h2.1⟩ ho (b:=yA "dict" T || yA "dict" W) ?_ (λz=>nomatch z) λtk=>{.bl _,H,I.tok _,O,q}
   let k1:=zBs (K:=X.K) (t:="dict") (by simp[tyL]) hT;let k2:=zBs (K:=X.K) (t:="dict") (by simp[tyL]) hU;simp only[PySem.W.kitAny,k1,k2];cases yA "dict" T<;>cases yA "dict" W<;>rfl
  ·exact qA hT hU pins s σ H _ us Q I r ⟨_,t,p,O,hp,h',q⟩
 | _=>exact qA hT hU pins s σ H _ us Q I r ⟨_,t,p,O,hp,ht,q⟩
end
section
variable{X:Cx}{o:Expr}{to:TE}{name:Str}{apos cpos:Pos}{id:String}{r:V->List V->Hp->VK->Prop}
def tBMR(r:V->List V->Hp->VK->Prop)(to:TE):TE:=λσ H Q=>to σ H λx H1=>(∃p kvs,x= .ref p/\Rd H1 p (.dK kvs))/\r x [] H1 Q
theorem yDm(pa:PlainAttrs "dict")(slot:Slot "dict" name id)(hty:typeOf (.builtin id)=pure (.type "method_descriptor"))(hm:MtR X id r)(ho:PE X o to)
  (hbase:attributeBase o name X.env (eval o X.env)=eval o X.env:=by rfl) (hline:(apos.endLine==cpos.line)=true:=by rfl):PE X (.Call (.Attribute o name apos) [] [] cpos) (tBMR r to):=by
 intro pins s σ H Q I h;refine wpAny_Call_method0_late hbase hline (thn (ho pins s σ H _ I h) λv s1 {x,H1,I1,r1,⟨p,kvs,ex,hp⟩,q1}=>?_);subst ex;cases r1;obtain⟨_,_,_,_,ob,_,_,e,ex,_⟩:=kF I1.hok hp;refine{"dict",id,pa,slot,hty,⟨ob,e,ex.1⟩,(λa e2=>by cases e2;exact⟨ob,e,ex.2.1⟩),aE O (PySem.evalArgs_none (hm pins s1 σ H1 (.ref p) [] (.ref p) [] Q I1 O .nil q1))}
end
structure Bl5(mg:Str->Option V0):Prop extends Bl2 mg where
 abs:mg "abs" =none
 ord:mg "ord" =none
section
variable{X:Cx}{pins:List (V1×Obj)}{σ:St}{H:Hp}{s:V2}{h':V5}
end
def Itz(K:A6)(l m:V1):It:=
  {λi H=>∃xs ys x y,SqL K H l xs/\SqL K H m ys/\xs[i]? =Y x/\ys[i]? =Y y,
   λi H v H'=>∃p x y,H p=none/\v= .ref p/\(∀xs,SqL K H l xs->xs[i]? =Y x)/\(∀ys,SqL K H m ys->ys[i]? =Y y)/\H'=upd H p (.tup [x,y]),
   λi H=>∃xs ys,SqL K H l xs/\SqL K H m ys/\(xs...*<=i\/ys...*<=i)}
def iZip(K:A6)(ta:TA):TI:=λσ H R=>ta σ H λvs H1=>∃l m xs ys,vs= [.ref l, .ref m]/\SqL K H1 l xs/\SqL K H1 m ys/\R (Itz K l m) H1
structure Bl6(mg:Str->Option V0):Prop extends Bl2 mg where
 zip:mg "zip" =none
theorem zNu{X:Cx}{K:A6}(hK:X.K=K):IxR X (zRd K):=by subst hK;exact kA
section
variable{X:Cx}{a:Expr}{ta:TE}
def tIsT(ta:TE):TE:=λσ H Q=>ta σ H λx H1=>∃b,x= .bl b/\Q (.bl b) H1
end
end L2
namespace HT
open PySem PyProof.Rows
open PySem.SeqAt
open PySem.AutoSeq1 (wpAny_loadPart')
open PySem.MeetsSeq PySem.MeetsSeq2 PySem.MeetsSeq3
section
variable{prog:V3}{w:V4}{A:Around}{E:V0->V2->Prop}{s:V2}
theorem getItem_tuple_whole{t sl:V1}{items:Array V0}{vl vu:V0}{lo hi:Option Int}{Q:V0->V2->Prop}(ht:IsTup s.heap t items)(hs:s.heap.IsSliceOf sl vl vu .none)(pl:IsPart vl lo)(pu:IsPart vu hi)
  (hw:sIx items.size 0 lo=0/\sIx items.size items.size hi=items.size) (h:Q (.ref t) s):V8 (S5 prog w) A (getItem (.ref t) (.ref sl)) Q E s:=by
 refine xI (id hs) λos hos hcs hds=>?_;let hTs:s.TypeIs (.ref sl) "slice":=⟨os,hos,hcs⟩;unfold getItem
 try with_reducible refine wpAny_holding ?_
 first | refine wpAny_bind (wpAny_pure ?_)| skip
 refine wpAny_bind (wpAny_sequenceKey ht.typeIs ∎ ?_);refine wpAny_bind (wpAny_callSpecial?_slot (name:=A5 "__getitem__") ht.typeIs PyProof.Rows.slot_tuple_getitem
  (wpAny_call_entry PyProof.Rows.slot_tuple_getitem ht.typeIs entry_tuple_getitem ?_ (args_tuple_getitem _ _)))
 show V8 _ _ (Builtin.Tuple.tupleItemsOf (.ref t)>>=_) _ _ s;refine wpAny_bind (tupleItemsOf_ ht ?_);refine wpAny_bind (wpAny_typeOf hTs ?_);rw[if_pos ∎];refine wpAny_bind (kG hs pl pu ?_);show V8 _ _ (if(((sIx items.size 0 lo:Nat):Int)==0 && (1:Int)==1 && (sIx items.size items.size hi - sIx items.size 0 lo)==items.size)=true then _ else _) _ _ s;rw[if_pos (by rw[hw.1,hw.2];simp)];refine wpAny_bind ?_;let hx:∀(Q':Bool->V2->Prop),Q' true s->V8 (S5 prog w) A.in1 (Builtin.Tuple.tupleIsExact (.ref t)) Q' E s:=λQ' hq=>by
  unfold Builtin.Tuple.tupleIsExact;exact wpAny_bind (wpAny_typeOf ht.typeIs (wpAny_pure hq))
 refine hx _ ?_;rw[if_pos O];refine wpAny_bind (wpAny_rule ?_);exact wpAny_pure {_,O,wpAny_pure h}
end
end HT
namespace L2
open PySem PySem.Spec PyProof.Rows
def zYw(K:A6):V->Option Int->Option Int->Hp->VK->Prop:=λx lo hi H Q=>∃a xs,x= .ref a/\SqT K H a xs/\
 ((HT.sIx xs...* 0 lo=0/\HT.sIx xs...* xs...* hi=xs...*/\Q (.ref a) H)\/(¬(HT.sIx xs...* 0 lo=0/\HT.sIx xs...* xs...* hi=xs...*)/\∀p,H p=none->Q (.ref p) (upd H p (.tup (kL xs lo hi)))))
theorem zNr{X:Cx}:SlR X (zYw X.K):=by
 intro pins s σ H x v vl vu lo hi sl Q I rx hs pl pu h;ext yM h a xs r2_ hx h;subst r2_;rcases h with⟨h1,h2,q⟩|⟨hw,q⟩
 ·cases rx
  refine xI (I.tuple hx) λits r ht hz=>?_;let hlen:its.toArray.size=xs...*:=by rw[mY];exact r.length.symm
  refine{"tuple",_,PyProof.Rows.slot_tuple_getitem.lookup,ht.typeIs, ?_};exact HT.getItem_tuple_whole ht hs pl pu (by rw[hlen];exact⟨h1,h2⟩) {.ref a,H,I,O,q}
 ·exact yCn pins s σ H _ v vl vu lo hi sl Q I rx hs pl pu ⟨a,xs,O,hx,hw,q⟩
end L2
namespace L2
open PySem PySem.Spec PyProof.Rows PySem.Builtin PySem.Builtin.Str
noncomputable def rpl(c:Nat)(z:List Nat)(d:Nat):List Nat:=if d=c then z else[d]
section
variable{X:Cx}
end
end L2
namespace L2
open PySem PySem.Spec PyProof.Rows
section
variable{X:Cx}
theorem gP:wH X (.builtin "len") (λxs H Q=>∃(a:V1)(n:Nat),xs= [.ref a]/\((∃ys,SqL X.K H a ys/\n=ys...*)\/∃kvs,H a=Y (.dK kvs)/\n=kvs...*)/\Q (.int n) H):=by
 intro pins s σ H xs us Q I r h;ext yM h a n r2_ h q;subst r2_;rcases h with⟨ys,hy,rfl⟩|⟨kvs,hk,rfl⟩
 ·exact yL pins s σ H _ us Q I r ⟨a,O,ys,hy,q⟩
 ·exact zBn pins s σ H _ us Q I r ⟨a,kvs,O,hk,q⟩
end
mutual
def T.fewm(m:Nat):T->Prop
 | .dic ks us=>ks.Nodup/\ks...*<=m/\ks...*=us...*/\d9 m us
 | .lst us=>us...*<=100000/\d9 m us
 | .tup _=>False
 | .non=>True
 | .bl _=>True
 | .int _=>True
 | .str _=>True
def d9(m:Nat):List T->Prop
 | []=>True
 | t::us=>T.fewm m t/\d9 m us
end
theorem c7{m:Nat}{t:T}:∀{us:List T},d9 m us->t∈us->T.fewm m t
 | [],_,h=>nomatch h
 | u::us,h,hm=>(mD.mp hm).elim (λe=>e▸h.1) (c7 h.2)
theorem d6{m:Nat}{us:List T}(h:∀t∈us,T.fewm m t):d9 m us:=by
 induction us with
 | nil=>exact mI
 | cons t us ih=>exact{h t mF,ih λu hu=>h u (mH _ hu)}
mutual
theorem b7{m m':Nat}(l:m<=m'):∀t:T,T.fewm m t->T.fewm m' t
 | .lst us,h=>{h.1,i6 l us h.2}
 | .dic ks us,h=>{h.1,pC h.2.1 l,h.2.2.1,i6 l us h.2.2.2}
 | .tup _,h=>h.elim
 | .non,_=>mI
 | .bl _,_=>mI
 | .int _,_=>mI
 | .str _,_=>mI
theorem i6{m m':Nat}(l:m<=m'):∀us:List T,d9 m us->d9 m' us
 | [],_=>mI
 | t::us,h=>{b7 l t h.1,i6 l us h.2}
end
mutual
theorem c5{m:Nat}(l:m<=63):∀t:T,T.fewm m t->T.few t
 | .lst us,h=>{h.1,j7 l us h.2}
 | .dic ks us,h=>{h.1,by let:=h.2.1;lia,h.2.2.1,j7 l us h.2.2.2}
 | .tup _,h=>h.elim
 | .non,_=>mI
 | .bl _,_=>mI
 | .int _,_=>mI
 | .str _,_=>mI
theorem j7{m:Nat}(l:m<=63):∀us:List T,d9 m us->j4 us
 | [],_=>mI
 | t::us,h=>{c5 l t h.1,j7 l us h.2}
end
noncomputable def gK(f:T->Int->T×Int):List Nat->List T->Int->List T×Int
 | [],us,c=>(us,c)
 | i::is,us,c=>gK f is (us.set i (f (us.getD i .non) c).1) (f (us.getD i .non) c).2
noncomputable def ixs(ks:List (List Nat)):List Nat:=(wJ ks).map λk=>ks.idxOf k
noncomputable def zXe(r:List T×Int):T×Int:=(.lst (r.1++ [.int r.2]),r.2+1)
noncomputable def mrkU(r:List T×Int):T×Int:=(.tup r.1,r.2+1)
theorem zEg{f:T->Int->T×Int}{A B:T->Prop}(hf:∀t c,A t->B (f t c).1):∀(is:List Nat)(us:List T)(c:Int),is.Nodup->(∀i∈is,i<us...*)->(∀i t,us[i]? =Y t->(i∈is->A t)/\(i∉is->B t))->(∀t∈(gK f is us c).1,B t)/\(gK f is us c).1...*=us...*
 | [],us,c,_,_,h=>{λt ht=>by
   obtain⟨i,hi⟩:=bU.mp ht;exact(h i t hi).2 (λz=>nomatch z),O}
 | i::is,us,c,hn,hl,h=>by
  rw[pM] at hn;let hi:=hl i mF;let e:us.getD i .non=us[i]:=by simp[sD,hi]
  let ih:=zEg hf is (us.set i (f (us.getD i .non) c).1) (f (us.getD i .non) c).2 hn.2 (λj hj=>by rw[aY];exact hl j (mH _ hj)) λj t hj=>by
   by_cases hji:j=i
   ·subst hji
    refine{λz=>absurd z hn.1,λ_=>?_};rw[aB hi] at hj;rw[<-mR hj,e];exact hf _ _ ((h j us[j] (mT hi)).1 mF)
   ·rw[tG (Ne.symm hji)] at hj
    obtain⟨h1,h2⟩:=h j t hj;exact{λz=>h1 (mH _ z),λz=>h2 λy=>(mD.mp y).elim hji z}
  rw[aY] at ih;exact ih
theorem zCt{ks:List (List Nat)}{k:List Nat}(h:k∈ks):ks[ks.idxOf k]? =Y k:=by
 let hl:=sX h;rw[mT hl];exact congrArg some (List.getElem_idxOf hl)
theorem yBf{ks:List (List Nat)}(nd:ks.Nodup){i:Nat}{k:List Nat}(h:ks[i]? =Y k):ks.idxOf k=i:=by
 obtain⟨hi,e⟩:=mO.mp h;rw[<-e];exact nd.idxOf_getElem i hi
theorem zFv{ks:List (List Nat)}(nd:ks.Nodup):(ixs ks).Nodup:=by
 unfold ixs;let hp:=wK ks;let hn:(wJ ks).Nodup:=hp.nodup_iff.mpr nd;unfold List.Nodup;rw[List.pairwise_map];refine List.Pairwise.imp_of_mem ?_ hn;intro a b ha hb hab z;let h1:=zCt (hp.mem_iff.mp ha);let h2:=zCt (hp.mem_iff.mp hb);rw[z] at h1;rw[h1] at h2;exact hab (mR h2)
theorem yCg{ks:List (List Nat)}{i:Nat}(h:i∈ixs ks):i<ks...*:=by
 obtain⟨k,hk,rfl⟩:=nW.mp h;exact sX ((wK ks).mem_iff.mp hk)
theorem zYd{ks:List (List Nat)}(nd:ks.Nodup){i:Nat}(h:i<ks...*):i∈ixs ks:=by
 refine nW.mpr {ks[i],(wK ks).mem_iff.mpr (sR h), ?_};exact yBf nd (mT h)
theorem zDj{ks:List (List Nat)}{us:List T}{n:List Nat}{t:T}(h:ks...*=us...*):(vE (ks,us) n t).1...*=(vE (ks,us) n t).2...*/\(vE (ks,us) n t).2...*<=us...*+1:=by
 unfold vE;split
 ·exact{by show ks...*=(yY n t ks us)...*;rw[uM];exact h,by show(yY n t ks us)...*<=_;rw[uM];exact pR _}
 ·exact{by show(ks++ [n])...*=(us++ [t])...*;rw[mM,mM,h];rfl,by show(us++ [t])...*<=_;rw[mM];exact mE _}
theorem zAe{ks:List (List Nat)}{us:List T}{n:List Nat}{t:T}(h:ks.Nodup):(vE (ks,us) n t).1.Nodup:=by
 unfold vE;split
 ·exact h
 ·rename_i hn
  show(ks++ [n]).Nodup;rw[List.nodup_append];exact{h,by simp,λa ha b hb z=>hn (by rw[<-mG.mp hb,<-z];exact ha)}
theorem zAw{ks:List (List Nat)}{us:List T}{n:List Nat}{t u:T}(h:u∈(vE (ks,us) n t).2):u∈us\/u=t:=by
 unfold vE at h;split at h
 ·exact uN _ _ _ _ _ h
 ·rcases mU.mp h with z | z
  ·exact .inl z
  ·exact .inr (mG.mp z)
theorem l7{n:Nat}{us:List T}(hn:0<n)(h:∀t∈us,T.dep t<n):T.deps us<n:=by
 let:=d7 (n:=n - 1) (ts:=us) λt ht=>by let:=h t ht;lia
 lia
theorem Sps.at{H:Hp}:∀{us:List T}{vs:List V}{D:List V1}{i:Nat}{t:T},Sps H vs us D->us[i]? =Y t->∃v D1,vs[i]? =Y v/\Sp1 H v t D1/\(∀b∈D1,b∈D)/\
  ∀H' t' D1',Sp1 H' v t' D1'->(∀b∈D1',b∈D1)->Keep D1 H H'->∃D',Sps H' vs (us.set i t') D'/\∀b∈D',b∈D
 | [],_,_,i,t,_,h=>by simp at h
 | u::us,_,_,0,t,⟨v,r,D1,D2,rfl,rfl,h1,h2,hd⟩,h=>by
  let e:u=t:=by simpa using h
  subst e;refine{v,D1,O,h1,λb hb=>nV _ hb,λH' t' D1' hs hsub hk=>{D1'++D2,{v,r,D1',D2,O,O,hs, ?_,λb hb=>hd b (hsub b hb)},λb hb=>?_}}
  ·exact Sps.keep _ _ _ (λb hb o _ e=>hk b o (λz=>hd b z hb) e) h2
  ·exact(mU.mp hb).elim (λz=>nV _ (hsub b z)) (λz=>nI _ z)
 | u::us,_,_,i+1,t,⟨v,r,D1,D2,rfl,rfl,h1,h2,hd⟩,h=>by
  refine yE (Sps.at (i:=i) h2 (by simpa using h)) λw E1 g1 g2 g3 g4=>?_;refine{w,E1,by simpa using g1,g2,λb hb=>nI _ (g3 b hb),λH' t' D1' hs hsub hk=>?_};obtain⟨D',k1,k2⟩:=g4 H' t' D1' hs hsub hk;refine{D1++D',{v,r,D1,D',O,O, ?_,k1,λb hb z=>hd b hb (k2 b z)},λb hb=>(mU.mp hb).elim (λz=>nV _ z) (λz=>nI _ (k2 b z))};exact Sp1.keep _ _ _ (λb hb o _ e=>hk b o (λz=>hd b hb (g3 b z)) e) h1
theorem Sps.replT{H:Hp}{n:List Nat}{c:Int}:∀{ps:List (Key×V)}{ks:List (List Nat)}{us:List T}{D:List V1},ps.map (·.1)=ks.map nK->Sps H (ps.map (·.2)) us D->
  ∃D',Sps H ((ps.map λkv=>if kv.1=nK n then(kv.1,V.int c) else kv).map (·.2)) (yY n (.int c) ks us) D'/\∀b∈D',b∈D
 | [],[],us,D,_,h=>by
  let e:yY n (.int c) [] us=us:=by unfold yY;rfl
  rw[e];exact{D,h,λ_ h=>h}
 | [],_::_,_,_,e,_=>by simp at e
 | _::_,[],_,_,e,_=>by simp at e
 | p::ps,k::ks,[],_,_,h=>by
  let h':(p::ps).map (·.2)= []:=h.1;cases h'
 | p::ps,k::ks,u::us,_,e,⟨v',r,D1,D2,e0,rfl,h1,h2,hd⟩=>by
  let e':p.2::ps.map (·.2)=v'::r:=e0;injection e' with e1 e2;subst e1 e2;let e3:p.1::ps.map (·.1)=nK k::ks.map nK:=e;injection e3 with e4 e5;obtain⟨D',i1,i2⟩:=Sps.replT (n:=n) (c:=c) e5 h2
  by_cases hk:k=n
  ·refine{D',{.int c,_,[],D', ?_,O, ?_,i1,λ_ z=>nomatch z},λb hb=>nI _ (i2 b hb)}
   ·rw[mZ,mQ (by rw[e4,hk]),mZ]
   ·rw[mQ hk];exact⟨O,O⟩
  ·refine{D1++D',{p.2,_,D1,D', ?_,O, ?_,i1,λb hb z=>hd b hb (i2 b z)},λb hb=>(mU.mp hb).elim (λz=>nV _ z) (λz=>nI _ (i2 b z))}
   ·rw[mZ,mK (by rw[e4];exact λz=>hk (uE z)),mZ]
   ·rw[mK hk];exact h1
theorem zVd{ps:List (Key×V)}{ks:List (List Nat)}{n:List Nat}(hk:ps.map (·.1)=ks.map nK):(ps.any λkv=>decide (kv.1=nK n))=true↔n∈ks:=by
 rw[bP];constructor
 ·rintro⟨kv,hkv,e⟩
  let:nK n∈ps.map (·.1):=nW.mpr {kv,hkv,cV e};rw[hk] at this;obtain⟨k,h1,h2⟩:=nW.mp this;rw[<-uE h2];exact h1
 ·intro h
  let:nK n∈ps.map (·.1):=by rw[hk];exact nW.mpr ⟨n,h,O⟩
  obtain⟨kv,h1,h2⟩:=nW.mp this;exact{kv,h1,nP h2}
theorem Sps.put{H:Hp}{ps:List (Key×V)}{ks:List (List Nat)}{us:List T}{D:List V1}{n:List Nat}{c:Int}(hk:ps.map (·.1)=ks.map nK)(h:Sps H (ps.map (·.2)) us D):
  (vM ps (nK n) (.int c)).map (·.1)=(vE (ks,us) n (.int c)).1.map nK/\∃D',Sps H ((vM ps (nK n) (.int c)).map (·.2)) (vE (ks,us) n (.int c)).2 D'/\∀b∈D',b∈D:=by
 refine{(zAy (p:=(ks,us)) (n:=n) (t:=.int c) hk (Sps.rep _ _ _ h) (show Rep H (.int c) (.int c) from O)).1, ?_}
 by_cases hm:n∈ks
 ·let e1:vM ps (nK n) (.int c)=ps.map λkv=>if kv.1=nK n then(kv.1,V.int c) else kv:=mQ ((zVd hk).mpr hm)
  let e2:vE (ks,us) n (.int c)=(ks,yY n (.int c) ks us):=mQ hm;rw[e1,e2];exact Sps.replT hk h
 ·let e1:vM ps (nK n) (.int c)=ps++ [(nK n, .int c)]:=mK λz=>hm ((zVd hk).mp z)
  let e2:vE (ks,us) n (.int c)=(ks++ [n],us++ [.int c]):=mK hm;rw[e1,e2,nJ];refine{D++ [],Sps.snoc (show Sp1 H (.int c) (.int c) [] from⟨O,O⟩) h (λ_ _ z=>nomatch z),λb hb=>by simpa using hb}
def uF(H H':Hp):Hp:=λb=>match H b with
 | none=>H' b
 | some _=>none
theorem wV{H H':Hp}{b:V1}(h:H b=none):uF H H' b=H' b:=by unfold uF;rw[h]
theorem zDb{H H':Hp}{b:V1}{o:HO}(e:uF H H' b=Y o):H b=none:=by
 unfold uF at e
 cases h:H b with
 | none=>rfl
 | some _=>rw[h] at e;cases e
theorem zPl{H H' H2:Hp}(g:Same H' H2):Same (uF H H') (uF H H2):=λb o e=>by
 let h:=zDb e;rw[wV h] at e⊢;exact g _ _ e
theorem Sp1.new{H H':Hp}{v:V}{t:T}{D:List V1}(h:Sp1 H' v t D)(hD:∀b∈D,H b=none):Rep (uF H H') v t:=
 Sp1.rep _ _ _ (Sp1.keep _ _ _ (λb hb o _ e=>by rw[wV (hD b hb)];exact e) h)
end L2
namespace L2
open PySem PySem.W PySem.Spec PyProof.Rows
structure Dd(P:V3)(w:V4)(K:PySem.W.Frag)(mg:Str->Option V0)(base:V5)(k:Nat)(x:Str)(ps:List Str)(dvs:List V)(sp:Sp):Prop where
 ex:∃(f:V1)(fd:V7)(ds:List V0),FnOk P w K mg base CX0 k f fd ps sp/\Binds K fd ps ds/\Vals dvs ds/\PySem.W.keepIn K (.ref f)=true/\mg x=Y (.ref f)
section
variable{X:Cx}{k j:Nat}{x:Str}{ps:List Str}{dvs:List V}{sp:Sp}{e:Expr}{es:List Expr}{t:TA}{p pos:Pos}
end
structure FunD(K:PySem.W.Frag)(x qual:Str)(st:V6)(f:V1)(fd:V7):Prop where
 ex:∃(oc:V0)(od:Option V1)(dV kV doc pm:V0)(an:Option V1)(cdv ct:V0)(osl:Array (Option V0)),
  fd=PySem.W.fnOf x qual (xW st) (xJ st) (zK st) dV kV doc pm an cdv ct/\K.lookup f=Y {oc,od, .func fd,osl}/\PySem.W.codeIn K cdv qual=true
end L2
namespace L2
open PySem PySem.Spec PyProof.Rows
section
variable{X:Cx}
end
end L2
namespace L2
open PySem PySem.Builtin PySem.Builtin.Str
abbrev Tk:=Nat×List Nat
noncomputable def dbl(x:List Nat):List Nat:=x.flatMap (rpl 39 [39,39])
noncomputable def shw(t:Tk):List Nat:=if t.1=2 then 39::(dbl t.2++ [39]) else t.2
noncomputable def stk(a b:Tk):Bool:=if b.2.take 1= [45]/\b.1=0 then false else if a.1=1 then decide (b.1=1)|| decide (b.1=0) else decide (a.1=b.1)&& !decide (a.1=3)
noncomputable def lay:List (Nat×Tk)->List Nat
 | []=>[]
 | x::r=>List.replicate x.1 32++(shw x.2++lay r)
end L2
namespace L2
open PySem PySem.Spec PyProof.Rows
section
variable{P:V3}{w:V4}{A:Around}{s:V2}{E:V0->V2->Prop}
end
section
variable{X:Cx}
end
end L2
namespace L2
open PySem PySem.Spec PyProof.Rows PySem.W
structure Kp(fs xs:List V1)(h h':V5):Prop where
 keep:∀b o,h.get? b=Y o->b∉fs->b∉xs->h'.get? b=Y o
 slot:∀b o,h.get? b=Y o->b∈fs->b∉xs->∃sl,h'.get? b=some {o with slots:=sl}
theorem Kp.refl{fs xs:List V1}{h:V5}:Kp fs xs h h:=⟨λ_ _ e _ _=>e,λ_ o e _ _=>⟨o.slots,e⟩⟩
theorem Kp.trans{fs xs ys zs:List V1}{h h1 h2:V5}(a:Kp fs xs h h1)(b:Kp fs ys h1 h2)(hz:∀c,c∈xs\/(c∈ys/\h.get? c≠none)->c∈zs):Kp fs zs h h2 where
 keep c o e hf hx:=b.keep c o (a.keep c o e hf λz=>hx (hz c (.inl z))) hf λz=>hx (hz c (.inr ⟨z,by rw[e];exact λz=>nomatch z⟩))
 slot c o e hf hx:=by
  obtain⟨sl,e1⟩:=a.slot c o e hf λz=>hx (hz c (.inl z));obtain⟨sl2,e2⟩:=b.slot c _ e1 hf λz=>hx (hz c (.inr {z,by rw[e];exact λz=>nomatch z}));exact⟨sl2,e2⟩
theorem zGq{base h h':V5}{fs xs:List V1}(k:Kp fs xs h h'):∀{l:List S7},(∀b∈frs l,b∈fs/\b∉xs)->h.FunFrames base l->h'.FunFrames base l
 | [],_,_=>by rw[Heap.FunFrames.eq_1];exact mI
 | env::l,hm,hf=>by
  rw[Heap.FunFrames.eq_2] at hf⊢;obtain⟨a,⟨L,o,e1,e2,e3,e4⟩,r⟩:=hf;let hL:L∈frs (env::l):=by unfold frs;rw[pW,e1];exact mF
  obtain⟨sl,e5⟩:=k.slot L o e3 (hm L hL).1 (hm L hL).2;exact⟨a,⟨L,_,e1,e2,e5,e4⟩,zGq k (λb hb=>hm b (by unfold frs;rw[pW,e1];exact mH _ hb)) r⟩
def Fl(φ:V0->Prop)(h:V5)(x T:V1)(C:V0)(d:Option V1)(a0 fl:V0):Prop:=∃(oe:Obj)(vs:Array V0)(oT:Obj)(ts:Array V0),h.get? x=Y oe/\oe.cls=C/\oe.dict=d/\oe.data= .fields vs/\vs[0]? =Y a0/\vs[1]? =Y (.ref T)/\T≠x/\h.get? T=Y oT/\oT.data= .fields ts/\ts[3]? =Y fl/\∃cx,vs[2]? =Y cx/\φ cx
theorem zZj{o:Obj}{vs:Array V0}(h:o.data= .fields vs)(f:Array V0->Array V0):Obj.mapFields f o={o with data:=.fields (f vs)}:=by
 obtain⟨c,d,da,sl⟩:=o;cases h
 rfl
section
variable{M:Model}{A:Around}{E:V0->V2->Prop}{s:V2}{env:S7}{outer:List S7}{x T L:V1}{C a0 fl:V0}{d:Option V1}{base:V5}{Q:Unit->V2->Prop}{φ:V0->Prop}
theorem kU{h:V5}{a:V1}{o:Obj}{vs:Array V0}(e:h.get? a=Y o)(hd:o.data= .fields vs)(i:Nat)(v:V0):(h.update a (Obj.mapFields λxs=>xs.setIfInBounds i v)).get? a=some {o with data:=.fields (vs.setIfInBounds i v)}:=by
 rw[<-zZj hd (λxs=>xs.setIfInBounds i v)];exact tD _ e (by rw[zZj hd];rfl)
theorem wR(F:Fl φ s.heap x T C d a0 fl)(q:∀h',Fl φ h' x T C d a0 .none->Kp [] [T] s.heap h'->Q () {s with heap:=h'}):V8 M A (setFlight (.ref x) none) Q E s:=by
 obtain⟨oe,vs,oT,ts,e1,e2,e3,e4,e5,e6,e7,e8,e9,e10,e11⟩:=F;unfold setFlight;refine mC (rG e1 e4 e6 ?_);rw[mQ (by rfl)];let hsz:3<ts.size:=by
  obtain⟨z,_⟩:=pJ.mp e10;exact z
 refine sF e8 e9 hsz ?_;let hT:=kU e8 e9 3 .none;refine q _ {oe,vs,_,_,(mX _ _ e7).trans e1,e2,e3,e4,e5,e6,e7,hT,O, ?_,e11} ⟨λb o e _ hb=>(mX _ _ λz=>hb (by rw[z];exact mF)).trans e,λb o e hb=>nomatch hb⟩;show(ts.setIfInBounds 3 Value.none)[3]? =Y Value.none;rw[sN hsz]
theorem zLj{oe:Obj}{vs:Array V0}{head:V0}{b:Bool}(hfr:A.frames=Y (env::outer))(hfu:s.heap.FunFrames base (env::outer))(hL:env.frame=Y L)(e1:s.heap.get? x=Y oe)(hx:x∉frs (env::outer))(e4:oe.data= .fields vs)(e5:vs[0]? =Y a0)(hs:1<vs.size)(e11:∃cx,vs[2]? =Y cx/\φ cx)
  (q:∀h' T',Fl φ h' x T' oe.cls oe.dict a0 (rawInt L)->Kp (frs (env::outer)) [x] s.heap h'->s.heap.get? T'=none->Q () {s with heap:=h'}):
  V8 M A (do
   let a <-PySem.frameOf env;let pl <-entryPlaceOf L b;let b <-EntryCells.newEntry head a .none (rawInt L) .none pl
   setField (.ref x) 1 b) Q E s:=by
 refine mC (wpAny_frameOf_fun hfr hfu hL λh1 so=>?_);refine mC (wpAny_entryPlaceOf λpl hpl=>?_);refine mC ?_;unfold EntryCells.newEntry newFields;let hpz:(([head,Value.ref L,Value.none,rawInt L,Value.none]++if pl.isEmpty=true then List.replicate 6 Value.none else pl).toArray).size<=V9+2:=by
  let:(if pl.isEmpty=true then List.replicate 6 Value.none else pl)...*<=6:=by
   rcases hpl with rfl |⟨a,b,c,d,c9,b10,_,rfl⟩<;>simp
  rw[mY,mM,mS];simp only[mW,pK]
  lia
 refine cW ?_ hpz;obtain⟨z1,z2,z3⟩:=so;let x1:h1.get? x=Y oe:=by rw[z2 x hx];exact e1
 let hlt:x<h1.objs.size:=nB x1;refine sF (mJ _ x1) e4 hs ?_;let hnew:h1.objs.size≠x:=rF hlt;let hx2:=kU (mJ (o:={cls:=.type "traceback",data:=.fields ([head,Value.ref L,Value.none,rawInt L,Value.none]++if pl.isEmpty=true then List.replicate 6 Value.none else pl).toArray}) (h:=h1) x1) e4 1 (.ref h1.objs.size);refine q _ h1.objs.size {_,_,_,_,hx2,O,O,O, ?_, ?_,hnew,(mX _ _ (Ne.symm hnew)).trans (nM _ O),O, ?_,e11.imp λcx z=>{(pU ∎).trans z.1,z.2}} ⟨λb o e hb hb2=>?_,λb o e hb hb2=>?_⟩ ?_
 ·rw[pU ∎];exact e5
 ·rw[sN hs]
 ·simp
 ·refine(mX _ _ λz=>hb2 (by rw[z];exact mF)).trans (mJ _ ?_)
  rw[z2 b hb];exact e
 ·obtain⟨sl,e'⟩:=z3 b o e
  exact{sl,(mX _ _ λz=>hb2 (by rw[z];exact mF)).trans (mJ _ e')}
 ·rw[z1]
  exact rJ (mE _)
theorem zJe{oe:Obj}{vs:Array V0}(hfr:A.frames=Y (env::outer))(hfu:s.heap.FunFrames base (env::outer))(hL:env.frame=Y L)(e1:s.heap.get? x=Y oe)(hx:x∉frs (env::outer))(e4:oe.data= .fields vs)(e5:vs[0]? =Y a0)(e6:vs[1]? =some .none)(e11:∃cx,vs[2]? =Y cx/\φ cx)
  (q:∀h' T',Fl φ h' x T' oe.cls oe.dict a0 (rawInt L)->Kp (frs (env::outer)) [x] s.heap h'->s.heap.get? T'=none->Q () {s with heap:=h'}):V8 M A (noteFrame (.ref x) env) Q E s:=by
 let hs:1<vs.size:=by
  obtain⟨z,_⟩:=pJ.mp e6;exact z
 unfold noteFrame;rw[hL];refine mC (rG e1 e4 e6 ?_);exact zLj hfr hfu hL e1 hx e4 e5 hs e11 q
theorem zCy(hfr:A.frames=Y (env::outer))(hfu:s.heap.FunFrames base (env::outer))(hL:env.frame=Y L)(hx:x∉frs (env::outer))(hT:T∉frs (env::outer))(F:Fl φ s.heap x T C d a0 .none)
  (q:∀h' T',Fl φ h' x T' C d a0 (rawInt L)->Kp (frs (env::outer)) [x,T] s.heap h'->s.heap.get? T'=none->Q () {s with heap:=h'}):V8 M A (noteFrame (.ref x) env) Q E s:=by
 obtain⟨oe,vs,oT,ts,e1,e2,e3,e4,e5,e6,e7,e8,e9,e10,e11⟩:=F;let hs:1<vs.size:=by
  obtain⟨z,_⟩:=pJ.mp e6;exact z
 let hsz:3<ts.size:=by
  obtain⟨z,_⟩:=pJ.mp e10;exact z
 unfold noteFrame;rw[hL];refine mC (rG e1 e4 e6 ?_);rw[mQ (by rfl)];refine mC (rG e8 e9 e10 ?_);rw[mK (by intro z;cases (eq_of_beq z))];refine mC (sF e8 e9 hsz ?_);let k1:Kp (frs (env::outer)) [T] s.heap (s.heap.update T (Obj.mapFields λx=>x.setIfInBounds 3 Value.none)):=⟨λb o e _ hb=>(mX _ _ λz=>hb (by rw[z];exact mF)).trans e,λb o e hb hb2=>⟨o.slots,(mX _ _ λz=>hb2 (by rw[z];exact mF)).trans e⟩⟩;let hfu2:(s.heap.update T (Obj.mapFields λx=>x.setIfInBounds 3 Value.none)).FunFrames base (env::outer):=zGq k1 (λb hb=>{hb,λz=>hT (by rw[<-mG.mp z];exact hb)}) hfu;let x2:(s.heap.update T (Obj.mapFields λx=>x.setIfInBounds 3 Value.none)).get? x=Y oe:=(mX _ _ e7).trans e1;let q':=zLj (E:=E) (M:=M) (A:=A) (head:=.ref T) (b:=true) (s:={s with heap:=s.heap.update T (Obj.mapFields λx=>x.setIfInBounds 3 Value.none)}) (Q:=Q) hfr hfu2 hL x2 hx e4 e5 hs e11;rw[e2,e3] at q';refine q' λh' T' f k n=>q h' T' f (k1.trans k λc hc=>?_) ?_
 ·rcases hc with z | z
  ·rw[mG.mp z];simp
  ·rw[mG.mp z.1];simp
 ·cases e:s.heap.get? T' with
  | none=>rfl
  | some o=>
   by_cases z:T'=T
   ·subst z
    rw[kU e8 e9] at n;cases n
   ·let:=k1.keep
    rw[(mX s.heap _ (Ne.symm z)).trans e] at n;cases n
end
section
variable{X:Cx}{pins:List (V1×Obj)}{σ:St}{H H':Hp}{s s':V2}{φ:V0->Prop}
theorem i5{P:V3}{w:V4}{h:V5}{a:V1}{o:HO}(x:ObjOk P w H h a o):∃ob,h.get? a=Y ob:=by
 induction o with
 | lst xs=>obtain⟨_,its,n,_,e⟩:=x;exact⟨_,e⟩
 | tup xs=>obtain⟨_,its,_,ob,e,_⟩:=x;exact⟨_,e⟩
 | dK kvs=>obtain⟨_,_,vs,_,ob,es,ep,e,_⟩:=x;exact⟨_,e⟩
 | dT kvs=>obtain⟨_,_,xs,_,ob,es,ep,e,_⟩:=x;exact⟨_,e⟩
 | set S n=>obtain⟨ob,es,ep,t,e,_⟩:=x;exact⟨_,e⟩
 | ins C dx fs=>obtain⟨_,_,_,e,_⟩:=x;exact⟨_,e⟩
 | own y=>exact x
 | xd fs=>obtain⟨mA,⟨od,es,ep,e,_⟩,_⟩:=x;exact⟨_,e⟩
 | rng lo hi=>obtain⟨t,u,v,e⟩:=x;exact⟨_,e⟩
 | frz ob u ih=>exact⟨_,x.1⟩
 | tbl ps=>exact{_,(show h.get? a=Y _ from x)}
 | met f y=>exact{_,(show h.get? a=Y _ from x)}
 | ext φ=>exact x.2.1
theorem gB{B h:V5}:∀{l:List S7},h.FunFrames B l->∀b∈frs l,∃o,h.get? b=Y o/\∀vs:Array V0,o.data≠ .fields vs
 | [],_,b,hb=>nomatch hb
 | env::l,hf,b,hb=>by
  rw[Heap.FunFrames.eq_2] at hf;obtain⟨_,⟨L,o,e1,_,e3,e4⟩,r⟩:=hf;unfold frs at hb;rw[pW,e1] at hb;rcases mD.mp hb with z | z
  ·rw[z];exact⟨o,e3,e4⟩
  ·exact gB r b z
def CXE(φ:V0->Prop)(P:V3)(w:V4):CXT:=λouter H s E e s'=>∃(x T:V1)(C:V0)(d:Option V1)(a0:V0)(H':Hp),e= .ref x/\s'.os=s.os/\AllBare s'.gens/\Un (frs outer) [] H H' s.heap s'.heap/\HOk P w H' s'.heap/\
 s.heap.get? x=none/\s.heap.get? T=none/\H' x=none/\H' T=none/\Fl φ s'.heap x T C d a0 .none/\E C d H'
theorem uY{fs xs:List V1}{H0 H':Hp}{h0 h h':V5}(u:Un fs [] H0 H' h0 h)(k:Kp fs xs h h')(h1:∀b∈xs,h0.get? b=none):Un fs [] H0 H' h0 h' where
 keep b o e n hf hx:=k.keep b o (u.keep b o e n hf hx) hf λz=>by rw[h1 b z] at e;cases e
 slot b o e n hf hx:=by
  obtain⟨sl,e1⟩:=u.slot b o e n hf hx;obtain⟨sl2,e2⟩:=k.slot b _ e1 hf λz=>by rw[h1 b z] at e;cases e
  exact⟨sl2,e2⟩
 free b o e n hx:=u.free b o e n hx
 there b o e hx:=by
  obtain⟨o',e'⟩:=u.there b o e hx;let nx:b∉xs:=λz=>by rw[h1 b z] at e;cases e
  by_cases hf:b∈fs
  ·obtain⟨sl2,e2⟩:=k.slot b _ e' hf nx
   exact⟨_,e2⟩
  ·exact{o',k.keep b o' e' hf nx}
 tups:=u.tups
 frzs:=u.frzs
 tbls:=u.tbls
theorem jP{P:V3}{w:V4}{H:Hp}{fs xs:List V1}{h h':V5}(x:HOk P w H h)(k:Kp fs xs h h')(hf:∀b∈fs,H b=none)(hx:∀b∈xs,H b=none):HOk P w H h':=λa o e=>
 (x a o e).stay (λb u hb q=>by
  let hn:H b≠none:=by
   rcases hb with z | z
   ·rw[z,e];exact λz=>nomatch z
   ·rw[z];exact λz=>nomatch z
  exact k.keep b u q (λz=>hn (hf b z)) λz=>hn (hx b z)) (λ_ q=>q) λ_ _ q=>q
theorem vD{fs fs' xs:List V1}{h h':V5}(k:Kp fs xs h h')(hm:∀b,b∈fs->b∈fs'\/b∈xs):Kp fs' xs h h' where
 keep b o e hf hx:=k.keep b o e (λz=>(hm b z).elim hf hx) hx
 slot b o e hf hx:=by
  by_cases z:b∈fs
  ·exact k.slot b o e z hx
  ·exact⟨o.slots,k.keep b o e z hx⟩
theorem zYf{E:XK}{e:V0}{EE:V0->V2->Prop}(I:Inv X pins σ H s)(hs:X.stack=X.env::X.outer)(hf:X.env.frame=Y X.env.locals)(hex:X.ex= [])(h:CXE φ X.prog X.w X.stack H s E e s'):
  V8 (S5 X.prog X.w) X.A (leaving X.env e) (λ_ s3=>CXE φ X.prog X.w X.outer X.H₀ X.s₀ E e s3) EE s':=by
 obtain⟨x,T,C,d,a0,H',rfl,os,bare,un,hok,hx,hT,hHx,hHT,fl,q⟩:=h;let I2:Inv X pins σ H' s':=I.call' os un hok bare (λb z=>absurd z (by simp));let old:∀b,s.heap.get? b=none->X.s₀.heap.get? b=none:=λb hb=>by
  cases e:X.s₀.heap.get? b with
  | none=>rfl
  | some o=>
   obtain⟨o',e'⟩:=I.base.there b o e (by rw[hex];exact λz=>nomatch z);rw[hb] at e';cases e'
 let hfs:frs X.stack=X.env.locals::X.fs:=by
  rw[hs];unfold frs;rw[pW,hf];rfl
 let hloc:X.s₀.heap.get? X.env.locals=none:=rJ I.ok.above;let hfr:=I.ok.frames;rw[hs] at hfr;let nfr:∀b,s.heap.get? b=none->b∉frs X.stack:=λb hb z=>by
  obtain⟨o,e,_⟩:=gB I.stack b z;rw[hb] at e;cases e
 let nx:=nfr x hx;let nT:=nfr T hT;let st:=I2.stack;rw[hs] at nx nT st;unfold leaving;refine mC (zCy hfr st hf nx nT fl λh1 T1 f1 k1 n1=>?_);refine wR f1 λh2 f2 k2=>?_;rw[<-hs] at k1;let hbase:=I2.base;rw[hex] at hbase;let hT1H:H' T1=none:=by
  cases e:H' T1 with
  | none=>rfl
  | some o=>
   obtain⟨ob,hob⟩:=i5 (I2.hok T1 o e);rw[n1] at hob;cases hob
 let hT1o:X.s₀.heap.get? T1=none:=by
  cases e:X.s₀.heap.get? T1 with
  | none=>rfl
  | some o=>
   obtain⟨o',e'⟩:=hbase.there T1 o e (λz=>nomatch z);rw[n1] at e';cases e'
 let k3:Kp (frs X.stack) [x,T,T1] s'.heap h2:=k1.trans (vD k2 λb hb=>nomatch hb) λc hc=>by
  rcases hc with z | z
  ·rcases mD.mp z with z | z
   ·rw[z];simp
   ·rw[mG.mp z];simp
  ·rw[mG.mp z.1];simp
 let k4:Kp X.fs [x,T,T1,X.env.locals] s'.heap h2:=by
  let k5:Kp (frs X.stack) [x,T,T1,X.env.locals] s'.heap h2:=k3.trans Kp.refl (ys:=[]) λc hc=>by
   rcases hc with z | z
   ·rcases mD.mp z with z | z
    ·rw[z];simp
    ·rcases mD.mp z with z | z
     ·rw[z];simp
     ·rw[mG.mp z];simp
   ·exact nomatch z.1
  refine vD k5 λb hb=>?_;rw[hfs] at hb;rcases mD.mp hb with z | z
  ·rw[z];exact .inr (by simp)
  ·exact .inl z
 refine{x,T1,C,d,a0,H',O,I2.os,I2.bare,uY hbase k4 λb hb=>?_,jP I2.hok k3 I2.stkFree λb hb=>?_,old x hx,hT1o,hHx,hT1H,f2,q}
 ·rcases mD.mp hb with z | z
  ·rw[z];exact old x hx
  ·rcases mD.mp z with z | z
   ·rw[z];exact old T hT
   ·rcases mD.mp z with z | z
    ·rw[z];exact hT1o
    ·rw[mG.mp z];exact hloc
 ·rcases mD.mp hb with z | z
  ·rw[z];exact hHx
  ·rcases mD.mp z with z | z
   ·rw[z];exact hHT
   ·rw[mG.mp z];exact hT1H
end
end L2
namespace L2
open PySem PySem.Spec PyProof.Rows PySem.W
def XObj(nm:Str)(C N:V1)(bm:List V0)(o:Obj):Prop:=∃(q:Str)(bs:List V0)(hdct:Bool)(sn:List Str)(sub:List V0)(ab:Bool)(col:Option Bool)(dd:Option V1)(k0 k1 k2 k3 k5:Option V0),o=excClassObj nm q C N bs bm hdct sn sub ab col dd k0 k1 k2 k3 k5 "ValueError.__new__"
section
variable{M:Model}{A:Around}{E:V0->V2->Prop}{s:V2}{env:S7}
theorem zEq{nm:Str}{C N:V1}{bm:List V0}{x:Sem V0}{Q:Flow->V2->Prop}(hb:bm.contains (.type "BaseException")=true)(hh:A.handled=none)
  (h:V8 M A x (λv s1=>∃(e:V1)(oe oC:Obj)(vs:Array V0),v= .ref e/\s1.heap.get? C=Y oC/\XObj nm C N bm oC/\s1.heap.get? e=Y oe/\oe.cls= .ref C/\oe.data= .fields vs/\vs[1]? =some .none/\E (.ref e) s1) E s):
  V8 M A (raiseStmt env ↥x none) Q E s:=by
 unfold raiseStmt;refine mC (thn h λv s1 ⟨e,oe,oC,vs,ev,hC,hX,he,hcl,hd,h1,q⟩=>?_);subst ev;obtain⟨q',bs,hdct,sn,sub,ab,col,dd,k0,k1,k2,k3,k5,rfl⟩:=hX;let hnc:∀c:ClassData,oe.data≠ .cls c:=λc z=>by rw[hd] at z;cases z
 refine mC (mN ?_);refine mC (pG ?_);unfold excFromValue isExcClass;refine mC (mC (aR he hnc ?_));rw[mK nF];refine mN ?_;rw[mK nF];unfold PySem.isInstance;refine mC (mC (rL he ?_));rw[hcl];refine cI hC ?_;rw[show(Value.ref C::bm).contains (Value.type "BaseException")=true by
  rw[sG,hb,tQ],mQ O]
 refine mN ?_;refine mC (aR he hnc ?_);rw[mK nF];unfold raisedInstance;refine mC (mC (rL he ?_));rw[hcl];refine mC (rL hC ?_);rw[mQ (by rfl)];refine mN ?_;refine mC ?_;unfold setFlight;refine mC (rG he hd h1 ?_);rw[mK (by intro z;cases z)];refine mN ?_;exact wpAny_raiseNew_none hh q
end
end L2
namespace L2
open PySem PySem.Spec PyProof.Rows PySem.W
abbrev veMro:List V0:=[.type "ValueError", .type "Exception", .type "BaseException", .type "object"]
abbrev jH(C t:V1):Obj:={cls:=.ref C,data:=.fields #[.ref t, .none, .none, .none, .bool false, .none]}
theorem zQw(a:Args):(Code.builtin "type.__call__" a).quiet=true:=by
 unfold Code.quiet
 first | rfl | kernel_rfl | decide+kernel
theorem zOt(a:Args):(Code.builtin "ValueError.__new__" a).quiet=true:=by
 unfold Code.quiet
 first | rfl | kernel_rfl | decide+kernel
section
variable{prog:V3}{w:V4}{A:Around}{K:Frag}{C fI N:V1}{nm:Str}{bm:List V0}{o:Obj}
theorem zSz{R:Result->V2->Prop}{rest:List V0}{h:V5}{g:Array GenState}{d:Drawn}{t:Nat}{os:OsState}(hK:K.In h)(lk:K.lookup C=Y o)(hX:XObj nm C N bm o)(ht:tailIn K veMro bm=true)(hi:findIn K (.ref C) "__init__" =Y ↥(.ref fI))(hf:typeIn K (.ref fI)=Y (.type "function"))(hz:rest...*<=100)
  (hh:codeAny (S5 prog w) (A.under (.builtin "type.__call__" {.ref C::rest,[]})) (.call (.ref fI) {.ref (h.objs.size+1)::rest,[]}) (InitBack (h.objs.size+1) R) {(h.push {cls:=.type "tuple",data:=.seq rest.toArray}).push (jH C h.objs.size),g,d,t,os}):
  codeAny (S5 prog w) A (.call (.ref C) {rest,[]}) R ⟨h,g,d,t,os⟩:=by
 let hC:h.get? C=Y o:=hK _ _ lk;obtain⟨q',bs,hdct,sn,sub,ab,col,dd,k0,k1,k2,k3,k5,rfl⟩:=hX;let hT:=tail_of_in hK ht;refine codeAny_of_tree ?_;show V8 _ _ (callAny (.ref C) {rest,[]}) _ _ _;unfold callAny;refine mC (wpAny_load hC ?_);show V8 _ _ (callAny.viaDunder (.ref C) {rest,[]}) _ _ _;unfold callAny.viaDunder specialOf;refine mC (mC (rL hC ?_));rw[tc_lookup];refine mN ?_;dsimp only;rw[tc_bind];refine mC (mN ?_);dsimp only;refine mC ?_;unfold callAny.plainCallee;refine mN ?_;rw[mQ (by rfl)];refine mN {O, ?_};refine codeAny_call_builtin_at (zQw _) F.entry_type_call (wpAny_check_type_call_sub hC ?_);show V8 _ _ (Builtin.«type.__call__» {.ref C::rest,[]}) _ _ _;unfold Builtin.«type.__call__»;dsimp only;rw[mK (by intro z;cases (eq_of_beq z))];refine mC (wpAny_mroOf_exc hC ?_);rw[mK (by intro z;cases z)];refine mC (wpAny_madeBy_exc hC ?_);dsimp only;refine mC (mN ?_);refine mC (pG (sT ?_));refine codeAny_call_builtin_code (zOt _) (wpAny_check_new_subT cE hT hC ?_);refine codeAny_exc_new_subT cE hT hC ?_ (by rw[mS];lia);let k1':∀b ob,h.get? b=Y ob->((h.push {cls:=.type "tuple",data:=.seq rest.toArray}).push (jH C h.objs.size)).get? b=Y ob:=λb ob e=>mJ _ (mJ _ e);let hsz:(h.push {cls:=.type "tuple",data:=.seq rest.toArray}).objs.size=h.objs.size+1:=tM ..;let he:((h.push {cls:=.type "tuple",data:=.seq rest.toArray}).push (jH C h.objs.size)).get? (h.objs.size+1)=Y (jH C h.objs.size):=by
  rw[<-hsz];exact nM _ O
 let hK2:K.In ((h.push {cls:=.type "tuple",data:=.seq rest.toArray}).push (jH C h.objs.size)):=hK.keeps k1';let hC2:=k1' _ _ hC;unfold PySem.isInstance;refine mC (mC (rL he ?_));refine cI hC2 ?_;rw[show(Value.ref C::bm).contains (Value.ref C)=true by simp,mK ∎];refine mC (pG ?_);unfold callSpecial? specialOf;refine mC (mC (rL he ?_));refine Looks.here (looks_findIn hK2 hi) ?_;dsimp only;refine pG (mC (Looks.here (bind_fn hK2 _ hf) ?_));dsimp only;refine mC (sT (sJ hh λr s' hr=>?_))
 cases r with
 | error e=>exact hr
 | ok fl=>
  cases fl with
  | ret v=>
   obtain⟨rfl,hr⟩:=hr;refine mN ?_;dsimp only;rw[mK (by intro z;cases z)];exact mN hr
  | next=>exact hr.elim
  | brk=>exact hr.elim
  | cont=>exact hr.elim
end
end L2
namespace L2
open PySem PySem.Spec PyProof.Rows PySem.W PySem.Builtin PySem.Builtin.ObjectAttr
section
variable{prog:V3}{w:V4}{A:Around}{K:Frag}{C B x:V1}{cd:ClassData}{ox:Obj}{name:Str}{v:V0}
theorem osa_x{R:Result->V2->Prop}{s:V2}{tk:Tok}(hK:K.In s.heap)(hc:clsIn K C=Y cd)(hm:cd.mro= .ref C:: .ref B::veMro)(hd:cd.hasDict=true)(hx:s.heap.get? x=Y ox)(hcl:ox.cls= .ref C)(hnc:∀c,ox.data≠ .cls c)(hdi:ox.dict=none)
  (hn:findIn K (.ref C) name=Y none)
  (q:∀h' t',h'.get? x=some {ox with dict:=Y s⁻¹}->h'.Ns1 s⁻¹ (λy=>if y=name then Y v else none)->(∀b o,b≠x->s.heap.get? b=Y o->h'.get? b=Y o)->R (.ok (.ret .none)) {s with heap:=h',toks:=t'}):
  codeAny (S5 prog w) A (.call (.builtin "object.__setattr__") {[.ref x, .str name tk,v],[]}) R s:=by
 let SF:=PySem.F.store_ValueError;obtain⟨h,g,dr,t,os⟩:=s;dsimp only at hK hx q;let tp:Looks (S5 prog w) h (typeOf (.ref x)) (.ref C):=by
  intro A Q E s k q;refine rL (k _ _ hx) ?_;rw[hcl];exact q
 let sub:Looks (S5 prog w) h (isInstance (.ref x) (.type "object")) true:=tp.andThen (looks_mroIn hK (by
  unfold mroIn;rw[hc,dH,mK (by rw[hm];exact nF),hm,sG,sG,show veMro.contains (.type "object")=true by decide,tQ,tQ]))
 refine tI SF.slot.plain SF.entry (@check_slot (S5 prog w) _ _ ⟨h,g,dr,t,os⟩ "object.__setattr__" "object" "__setattr__" (.ref x) [.str name tk,v] [] _ SF.kind SF.split sub (SF.args (.ref x) (.str name tk) v) ?_);let hmr:Looks (S5 prog w) h (mroOf (.ref C)) cd.mro:=(looks_clsIn hK hc).andThen .now;rw[osa_eq,refuse_eq];refine mC (mC (Looks.here tp (mC (Looks.here hmr ?_))));rw[hm,refuseLoop_ref,refuseLoop_ref,SF.passes];refine mN (mC (Looks.here tp (mC (Looks.here (looks_findIn hK hn) (mC ?_)))));refine mN ?_;dsimp only;unfold storeInOwnDict;refine mC (mN ?_);rw[mK (by intro z;cases (eq_of_beq z))];refine mC ?_;show V8 _ _ (instanceDict x true) _ _ _;unfold instanceDict;refine mC (wpAny_loadPart hx ?_);obtain⟨oc,odi,oda,osl⟩:=ox;dsimp only at hcl hdi hnc;subst hcl hdi;dsimp only;refine mC (Looks.here (looks_clsIn hK hc) ?_);rw[hd];rw[mK (show¬((!true)=true) from nF),mK (by simp[typeHasDict])];let main:V8 (S5 prog w) A.in1 (do
     let d <-alloc {cls:=Value.type "dict",data:=Data.dict #[]}
     update x λo=>{cls:=o.cls,dict:=Y d,data:=o.data,slots:=o.slots}
     dictMade (Value.ref C) x d)
   (λa s'=>
   V8 (S5 prog w) A.in1
    (match a with
    | some d=>storeInDict d (Value.str name tk) name v
    | none=>noDictFor (Value.ref x) (Value.ref C) name (none:Option V0).isSome)
    (λfin s'=>
     match fin with
     | Fin.done f=>R (Except.ok f) s'
     | Fin.again c'=>c'.quiet=true/\codeAny (S5 prog w) A c' R s')
    (λe s'=>R (Except.error e) s') s')
  (λe s'=>R (Except.error e) s') {heap:=h,gens:=g,drawn:=dr,toks:=t,os:=os}:=by
  let hx₁:(h.push {cls:=.type "dict",data:=.dict #[]}).get? x=Y _:=mJ _ hx;let hxs:x≠h.objs.size:=nQ (nB hx);refine mC (wpAny_alloc' ?_);refine mC (wpAny_update' hx₁ ?_);refine mN ?_;let hgd:((h.push {cls:=.type "dict",data:=.dict #[]}).update x λo=>{cls:=o.cls,dict:=Y h.objs.size,data:=o.data,slots:=o.slots}).get? h.objs.size=some {cls:=.type "dict",data:=.dict #[]}:=
   (Heap.get?_update_ne _ _ _ _ hxs.symm).trans (Heap.get?_push_at O O)
  let hnd:((h.push {cls:=.type "dict",data:=.dict #[]}).update x λo=>{cls:=o.cls,dict:=Y h.objs.size,data:=o.data,slots:=o.slots}).Ns h.objs.size (λ_=>none):=
   {_,#[],_,hgd,O,λe he=>absurd he (by simp),λ_=>O}
  show V8 _ _ (storeInDict h.objs.size (.str name tk) name v) _ _ _;unfold storeInDict newKeyGuard;refine mC (mN (mC (wpAny_nsSet1 (Heap.Ns1.of_empty hnd) λh' hn' hs=>?_)));obtain⟨oD,esD,epD,hoD,hdD,hcD⟩:=hn'.count (Within.cons name v Within.nil);refine mC (wpAny_lookBehind hoD (by rw[hdD];exact pastItsLine_dict (pC hcD (by rw[mW,pK,mS];lia))) ?_);refine mN ?_;let hfr:=(Heap.get?_some_iff.mp hx).2;refine q h' _ ((hs.2 x hxs).trans (tD _ hx₁ ?_)) hn' λb o hb e=>?_
  ·cases oda<;>first | rfl | exact hfr
  ·exact(hs.2 b (nQ (nB e))).trans ((Heap.get?_update_ne _ _ _ _ hb).trans (mJ _ e))
 cases oda with
 | cls c=>exact absurd O (hnc c)
 | _=>exact main
theorem zYr{E:V0->V2->Prop}{Q:Unit->V2->Prop}{s:V2}(hK:K.In s.heap)(hc:clsIn K C=Y cd)(hm:cd.mro= .ref C:: .ref B::veMro)(hd:cd.hasDict=true)(hx:s.heap.get? x=Y ox)(hcl:ox.cls= .ref C)(hnc:∀c,ox.data≠ .cls c)(hdi:ox.dict=none)
  (hs:findIn K (.ref C) "__setattr__" =Y ↥(.builtin "object.__setattr__")) (hn:findIn K (.ref C) name=Y none)
  (q:∀h' t',h'.get? x=some {ox with dict:=Y s⁻¹}->h'.Ns1 s⁻¹ (λy=>if y=name then Y v else none)->(∀b o,b≠x->s.heap.get? b=Y o->h'.get? b=Y o)->Q () {s with heap:=h',toks:=t'}):
  V8 (S5 prog w) A (setAttr (.ref x) name v) Q E s:=by
 let hno:notCls ox=true:=by
  unfold notCls;obtain⟨oc,odi,oda,osl⟩:=ox
  cases oda with
  | cls c=>exact absurd O (hnc c)
  | _=>rfl
 refine set_plain (od:=none) hK {hx,hcl,hno,by rw[hdi];trivial} hs ?_;exact osa_x (s:={s with toks:=s.toks+1}) hK hc hm hd hx hcl hnc hdi hn λh' t' a b c=>q h' t' a b c
end
end L2
namespace L2
open PySem PySem.Spec PyProof.Rows PySem.W
structure zBy(K:Frag)(nm:Str)(C B fI:V1):Prop where
 obj:∃(N:V1)(o:Obj),K.lookup C=Y o/\XObj nm C N (.ref B::veMro) o
 cd:∃cd,clsIn K C=Y cd/\cd.mro= .ref C:: .ref B::veMro/\cd.hasDict=true
 tl:tailIn K veMro (.ref B::veMro)=true
 init:findIn K (.ref C) "__init__" =Y ↥(.ref fI)
 fn:typeIn K (.ref fI)=Y (.type "function")
 set:findIn K (.ref C) "__setattr__" =Y ↥(.builtin "object.__setattr__")
 at_:findIn K (.ref C) "at" =Y none
 kp:keepIn K (.ref C)=true
structure zOo(K:Frag)(B:V1):Prop where
 sp:specialIn K (.ref B) "__getattribute__" =Y ↥(.builtin "type.__getattribute__")
 rd:readsIn K B (.type "type")=true
 init:findCls K (.ref B) (.type "type") "__init__" =Y (.val (.builtin "ValueError.__init__"))
noncomputable def exO(x C:V1)(d:Option V1):HO:=.ext λh=>∃vs:Array V0,h.get? x=some {cls:=.ref C,dict:=d,data:=.fields vs}/\vs.size=6/\vs[1]? =some .none/\vs[2]? =some .none
theorem zBo{P:V3}{w:V4}{H:Hp}{h:V5}{x C:V1}{d:Option V1}{vs:Array V0}(e:h.get? x=some {cls:=.ref C,dict:=d,data:=.fields vs})(h6:vs.size=6)(h1:vs[1]? =some .none)(h2:vs[2]? =some .none):ObjOk P w H h x (exO x C d):=
 {⟨vs,e,h6,h1,h2⟩,⟨_,e⟩,λ_ _ ⟨vs,e,a,b⟩ k=>{vs,k _ e,a,b}}
theorem yBp{H:Hp}{a:V1}{o:HO}(h:H a=Y o):upd H a o=H:=by
 funext b
 unfold upd;split
 ·rename_i e;rw[e,h]
 ·rfl
theorem Un.also{fs ex:List V1}{H H1:Hp}{h h':V5}{a:V1}{o:HO}(u:Un fs ex H H1 h h')(hp:h.objs.size<=a)(hn:H a=none):Un fs ex H (upd H1 a o) h h' where
 keep:=u.keep
 slot:=u.slot
 free:=λb ob q n hx=>by rw[zM (nQ (nO (nB q) hp))];exact u.free b ob q n hx
 there:=u.there
 tups:=λb xs q=>by rw[zM (yK q hn)];exact u.tups b xs q
 frzs:=λb ob xs q=>by rw[zM (yK q hn)];exact u.frzs b ob xs q
 tbls:=λb ps q=>by rw[zM (yK q hn)];exact u.tbls b ps q
theorem HOk.also{P:V3}{w:V4}{H:Hp}{h:V5}{a:V1}{o:HO}(x:HOk P w H h)(hn:H a=none)(new:ObjOk P w (upd H a o) h a o):HOk P w (upd H a o) h:=λb u e=>by
 by_cases hb:b=a
 ·subst hb;rw[zB] at e;cases e;exact new
 ·rw[zM hb] at e
  exact(x b u e).stay (λc v _ q=>q) (λc q=>by rw[zM (yK q hn)];exact q) λc xs q=>by rw[zM (yK q hn)];exact q
section
variable{X:Cx}{pins:List (V1×Obj)}{σ:St}{H:Hp}{s:V2}{x C B fI:V1}{nm:Str}{d:Option V1}
theorem zAc(I:Inv X pins σ H s)(h:H x=Y (exO x C d)):∃vs:Array V0,s.heap.get? x=some {cls:=.ref C,dict:=d,data:=.fields vs}/\vs.size=6/\vs[1]? =some .none/\vs[2]? =some .none:=(I.hok x _ h).1
theorem zPa{Q:V0->V2->Prop}{E:V0->V2->Prop}{u:V0}(c:zBy X.K nm C B fI)(I:Inv X pins σ H s)(hH:H x=Y (exO x C d))(q:∀s',Inv X pins σ H s'->Q .none s'):
  V8 (S5 X.prog X.w) X.A (call (.builtin "ValueError.__init__") [.ref x,u]) Q E s:=by
 obtain⟨N,o,lk,q',bs,hdct,sn,sub,ab,col,dd,k0,k1,k2,k3,k5,rfl⟩:=c.obj;obtain⟨vs,he,h6,h1,h2⟩:=zAc I hH;let hT:=tail_of_in I.kIn c.tl;let hC:=I.kIn _ _ lk;let I':=I;obtain⟨h,g,dr,t,os⟩:=s;dsimp only at he hC hT;let F:=cE;obtain⟨a0,h0⟩:∃a0,vs[0]? =Y a0:={_,pJ.mpr {∅,O}};refine sT (tI F.init.plain F.initEntry (wpAny_check_init_subT F hT hC he O ?_));unfold Builtin.«BaseException.__init__»;dsimp only;rw[mK (by simp)];let hsz:0<vs.size:=by lia
 let he₁:=mJ (h:=h) {cls:=.type "tuple",data:=.seq [u].toArray} he;let hup:=kU he₁ O 0 (.ref h.objs.size);let fin:Inv X pins σ H {(h.push {cls:=.type "tuple",data:=.seq [u].toArray}).update x (Obj.mapFields λxs=>xs.setIfInBounds 0 (.ref h.objs.size)),g,dr,t,os}:=by
  rw[<-yBp hH];refine Inv.write (t':=t) I' (e:=x) (by rw[hH];exact mI) (.inl O) (λb ob hb e=>(mX _ _ (Ne.symm hb)).trans (mJ _ e)) ⟨_,hup⟩ (zBo hup ?_ ?_ ?_)
  ·rw[sL];exact h6
  ·rw[pU ∎];exact h1
  ·rw[pU ∎];exact h2
 refine mC (wpAny_newTuple ?_ (by rw[mS];simp));unfold Builtin.BaseException.bexcPut;refine mC (mC (rG he₁ O h0 (mC (sF he₁ O hsz ?_))));let fin2:=q _ fin
 cases a0 with
 | ref a=>exact cM (mN fin2)
 | _=>exact mN (mN fin2)
end
end L2
namespace L2
open PySem PySem.Spec PyProof.Rows PySem.W
section
variable{X:Cx}{C B fI:V1}{nm:Str}
def yBk(C:V1)(t:TA):TE:=λσ H Q=>t σ H λvs H1=>∃x v,vs= [.ref x,v]/\H1 x=Y (exO x C none)/\Q .non H1
theorem zJg{bn:Str}{p apos pos:Pos}{e:Expr}{es:List Expr}{t:TA}{pl:Sem Bool}(c:zBy X.K nm C B fI)(b:zOo X.K B)(hg:Gl X bn)(hm:X.mg bn=Y (.ref B))(ha:PA X (e::es) t)(hdb:(bn==("__debug__" :Str))=false:=by decide)
  (he:A2 (e::es) X.env=(false,eval e X.env)::A2 es X.env:=by rfl) (hpl:(S2 pos (A2 es X.env)).any (·.1)=false:=by rfl)
  (ht:eval (.Call (.Attribute (.Name bn p) "__init__" apos) (e::es) [] pos) X.env=(do
   let ov <-eval (.Name bn p) X.env
   S0 apos.atName
   let (f,first) <-holding [ov] (getMethod ov "__init__" pl)
   callWith pos f first (S2 pos (A2 (e::es) X.env)) (backToKw pos (keywordEach [] X.env))):=by rfl):
  PE X (.Call (.Attribute (.Name bn p) "__init__" apos) (e::es) [] pos) (yBk C t):=by
 intro pins s σ H Q I h;refine methodCall_KW (pl:=pl) (vX I hg hm ?_ hdb) ht;refine method_cls I.kIn b.sp (cls_value I.kIn b.rd b.init (by decide+kernel) ?_);let I1:=I.tok (s.toks+1);refine bZ (thn (ha pos pins _ σ H _ I1 h) λus s2 ⟨vs,H2,I2,r,x,v,e1,e2,q⟩=>?_) he hpl;subst e1;obtain⟨u1,u2,rfl,r1⟩:∃u1 u2,us= [u1,u2]/\RelV (.ref x) u1:=by
  cases r with
  | cons a r=>
   cases r with
   | cons b r=>cases r;exact⟨_,_,O,a⟩
 obtain rfl:u1=Value.ref x:=r1;exact zPa c I2 e2 λs' I3=>{.non,H2,I3,O,q}
def zYo(C:V1)(f:Str)(tv ta:TE):TS:=λD σ H=>tv σ H λv H1=>ta σ H1 λo H2=>∃x,o= .ref x/\H2 x=Y (exO x C none)/\∀d,H2 d=none->D.nx σ (upd (upd H2 x (exO x C ↥d)) d (.xd [(f,v)]))
theorem zWz{o value:Expr}{pos' pos:Pos}{tv ta:TE}(c:zBy X.K nm C B fI)(hv:PE X value tv)(ha:PE X o ta)(hs:S1 value ↥(.Attribute o "at" pos') pos.line X.env=pure false:=by rfl):PS X (.Assign [.Attribute o "at" pos'] value pos) (zYo C "at" tv ta):=by
 intro pins s σ H D I h;refine bW (thn (hv pins s σ H _ I h) λu s1 ⟨y,H1,I1,ry,q⟩=>thn (ha pins s1 σ H1 _ I1 q) λov s2 ⟨z,H2,I2,rx,x,ez,hH,q2⟩=>?_) hs;subst ez;obtain rfl:ov=Value.ref x:=rx;obtain⟨vs,he,h6,h1,h2⟩:=zAc I2 hH;obtain⟨cd,hc,hm,hd⟩:=c.cd;refine zYr I2.kIn hc hm hd he O (λ_ z=>by cases z) O c.set c.at_ λh' t' g1 g2 g3=>?_;let hfr:H2 s2⁻¹=none:=I2.fresh;let hne:s2⁻¹≠x:=λz=>by rw[z,hH] at hfr;cases hfr
 let hmu:Mut (H2 x):=by rw[hH];exact mI
 let u1:Un X.fs [] H2 (upd H2 x (exO x C ↥s2⁻¹)) s2.heap h':=Un.write (e:=x) hmu (.inl O) g3 ⟨_,g1⟩;let k1:HOk X.prog X.w (upd H2 x (exO x C ↥s2⁻¹)) h':=I2.hok.write (e:=x) hmu (.inl O) g3 ⟨_,g1⟩ (zBo g1 h6 h1 h2);refine{σ,_,I2.un (t':=t') (u1.also (a:=s2⁻¹) (o:=.xd [("at",y)]) (mE _) hfr) (k1.also (by rw[zM hne];exact hfr) ?_),q2 _ hfr};refine{_,g2,λf=>?_};show RelO (List.lookup f [("at",y)]) _;rw[rO,List.lookup_nil]
 by_cases z:f= "at"
 ·subst z
  rw[mQ O,bR];exact ry
 ·rw[mK z,show(f==("at" :Str))=false from rE.mpr z]
  trivial
def zCw(C:V1):Sp:=λvs H Q _=>∃x v0 v,vs= [.ref x,v0,v]/\H x=Y (exO x C none)/\∀d,H d=none->Q .non (upd (upd H x (exO x C ↥d)) d (.xd [("at",v)]))
end
section
variable{X:Cx}{pins:List (V1×Obj)}{σ:St}{H:Hp}{s:V2}{x C:V1}{d:Option V1}{φ:V0->Prop}
def drp(H:Hp)(x:V1):Hp:=λb=>if b=x then none else H b
theorem vP{b:V1}(h:b≠x):drp H x b=H b:=mK h
theorem gZ:drp H x x=none:=mQ O
theorem zFe{E:XK}{EE:V0->V2->Prop}(I:Inv X pins σ H s)(hs:X.stack=X.env::X.outer)(hf:X.env.frame=Y X.env.locals)(hex:X.ex= [])(hH:H x=Y (exO x C d))(hx0:X.s₀.heap.get? x=none)(hφ:φ .none)(q:E (.ref C) d (drp H x)):
  V8 (S5 X.prog X.w) X.A (leaving X.env (.ref x)) (λ_ s3=>CXE φ X.prog X.w X.outer X.H₀ X.s₀ E (.ref x) s3) EE s:=by
 obtain⟨vs,he,h6,h1,h2⟩:=zAc I hH;obtain⟨a0,h0⟩:∃a0,vs[0]? =Y a0:={_,pJ.mpr {∅,O}};let hfs:frs X.stack=X.env.locals::X.fs:=by
  rw[hs];unfold frs;rw[pW,hf];rfl
 let hloc:X.s₀.heap.get? X.env.locals=none:=rJ I.ok.above;let hfr:=I.ok.frames;rw[hs] at hfr;let nx:x∉frs X.stack:=λz=>by
  let:=I.stkFree x z;rw[hH] at this;cases this
 let st:=I.stack;let nx':=nx;rw[hs] at nx' st;unfold leaving;refine mC (zJe (φ:=φ) hfr st hf he nx' O h0 h1 ⟨_,h2,hφ⟩ λh1 T1 f1 k1 n1=>?_);refine wR f1 λh2 f2 k2=>?_;rw[<-hs] at k1;let hbase:=I.base;rw[hex] at hbase;let hT1H:H T1=none:=by
  cases e:H T1 with
  | none=>rfl
  | some o=>
   obtain⟨ob,hob⟩:=i5 (I.hok T1 o e);rw[n1] at hob;cases hob
 let hT1o:X.s₀.heap.get? T1=none:=by
  cases e:X.s₀.heap.get? T1 with
  | none=>rfl
  | some o=>
   obtain⟨o',e'⟩:=hbase.there T1 o e (λz=>nomatch z);rw[n1] at e';cases e'
 let k3:Kp (frs X.stack) [x,T1] s.heap h2:=k1.trans (vD k2 λb hb=>nomatch hb) λc hc=>by
  rcases hc with z | z
  ·rw[mG.mp z];simp
  ·rw[mG.mp z.1];simp
 let k4:Kp X.fs [x,T1,X.env.locals] s.heap h2:=by
  let k5:Kp (frs X.stack) [x,T1,X.env.locals] s.heap h2:=k3.trans Kp.refl (ys:=[]) λc hc=>by
   rcases hc with z | z
   ·rcases mD.mp z with z | z
    ·rw[z];simp
    ·rw[mG.mp z];simp
   ·exact nomatch z.1
  refine vD k5 λb hb=>?_;rw[hfs] at hb;rcases mD.mp hb with z | z
  ·rw[z];exact .inr (by simp)
  ·exact .inl z
 let u1:Un X.fs [] X.H₀ H X.s₀.heap h2:=uY hbase k4 λb hb=>by
  rcases mD.mp hb with z | z
  ·rw[z];exact hx0
  ·rcases mD.mp z with z | z
   ·rw[z];exact hT1o
   ·rw[mG.mp z];exact hloc
 let ne:∀b o,H b=Y o->(∀φ,o≠ .ext φ)->b≠x:=λb o e n z=>by
  subst z;rw[hH] at e;exact n _ (mR e).symm
 let u2:Un X.fs [] X.H₀ (drp H x) X.s₀.heap h2:={u1.keep,u1.slot,λb ob e n hx=>by
   rw[vP (λz=>by subst z;rw[hx0] at e;cases e)];exact u1.free b ob e n hx,u1.there,
  λb xs e=>by let z:=u1.tups b xs e;rw[vP (ne b _ z λ_ y=>nomatch y)];exact z,
  λb ob xs e=>by let z:=u1.frzs b ob xs e;rw[vP (ne b _ z λ_ y=>nomatch y)];exact z,
  λb ps e=>by obtain⟨m,z⟩:=u1.tbls b ps e;exact{m,by rw[vP (ne b _ z λ_ y=>nomatch y)];exact z}}
 let ok1:HOk X.prog X.w (drp H x) s.heap:=λb o e=>by
  by_cases z:b=x
  ·subst z;rw[gZ] at e;cases e
  ·rw[vP z] at e
   exact(I.hok b o e).stay (λ_ _ _ q=>q) (λc q=>by rw[vP (ne c _ q λ_ y=>nomatch y)];exact q) λc xs q=>by rw[vP (ne c _ q λ_ y=>nomatch y)];exact q
 let dn:∀b,H b=none->drp H x b=none:=λb e=>by
  unfold drp;split
  ·rfl
  ·exact e
 refine{x,T1, .ref C,d,a0,drp H x,O,I.os,I.bare,u2,jP ok1 k3 (λb hb=>dn b (I.stkFree b hb)) λb hb=>?_,hx0,hT1o,gZ,dn _ hT1H,f2,q};rcases mD.mp hb with z | z
 ·rw[z];exact gZ
 ·rw[mG.mp z];exact dn _ hT1H
end
end L2
namespace L2
open PySem PySem.Spec PyProof.Rows PySem.W
theorem zRy{H:Hp}{x d:V1}{o u:HO}(hx:H x=none)(hd:d≠x):drp (upd (upd H x o) d u) x=upd H d u:=by
 funext b
 by_cases z:b=x
 ·subst z
  rw[gZ,zM (Ne.symm hd),hx]
 ·rw[vP z]
  by_cases y:b=d
  ·subst y;rw[zB,zB]
  ·rw[zM y,zM z,zM y]
section
variable{X:Cx}{C B fI:V1}{nm:Str}{k:Nat}{fd:V7}{ps:List Str}
theorem zOz{pins:List (V1×Obj)}{σ:St}{H:Hp}{s:V2}{Qx:V0->V2->Prop}{us:List V0}{v0 v:V}(c:zBy X.K nm C B fI)(F:FnOk X.prog X.w X.K X.mg X.base CX0 k fI fd ps (zCw C))(hr:Room (k+1) X.A)(hb:Binds X.K fd ps [])(I:Inv X pins σ H s)(r:Vals [v0,v] us)
  (q:∀x d s',X.s₀.heap.get? x=none->H x=none->H d=none->d≠x->Inv X pins σ (upd (upd H x (exO x C ↥d)) d (.xd [("at",v)])) s'->Qx (.ref x) s'):V8 (S5 X.prog X.w) X.A (call (.ref C) us) Qx X.xe s:=by
 obtain⟨N,o,lk,hX⟩:=c.obj;let hus:us...*<=100:=by rw[<-r...*];show(2:Nat)<=100;decide
 let hx0:X.s₀.heap.get? (s⁻¹+1)=none:=rJ (pC I.sz (pR _));let hHx:H (s⁻¹+1)=none:=I.hok.fresh (pR _);let he:((s.heap.push {cls:=.type "tuple",data:=.seq us.toArray}).push (jH C s⁻¹)).get? (s⁻¹+1)=Y (jH C s⁻¹):=by
  rw[<-(tM .. :(s.heap.push {cls:=.type "tuple",data:=.seq us.toArray}).objs.size=s⁻¹+1)];exact nM _ O
 let I2:=I.laid (t':=s.toks) (a:=s⁻¹+1) (o:=exO (s⁻¹+1) C none) (h':=(s.heap.push {cls:=.type "tuple",data:=.seq us.toArray}).push (jH C s⁻¹)) (λb ob e=>mJ _ (mJ _ e)) (pR _) (zBo he O O O);let r2:Vals [V.ref (s⁻¹+1),v0,v] (Value.ref (s⁻¹+1)::us):=.cons O r;let hsp:zCw C [V.ref (s⁻¹+1),v0,v] (upd H (s⁻¹+1) (exO (s⁻¹+1) C none)) (λu H2=>u= .non/\∃d,H d=none/\d≠s⁻¹+1/\H2=upd (upd H (s⁻¹+1) (exO (s⁻¹+1) C ↥d)) d (.xd [("at",v)])) E0:=by
  refine{_,v0,v,O,zB,λd hd=>{O,d, ?_}};let hne:d≠s⁻¹+1:=λz=>by rw[z,zB] at hd;cases hd
  rw[zM hne] at hd;exact{hd,hne,by rw[zGo]}
 let hl:((Value.ref (s⁻¹+1)::us)++ [])...*=ps...*:=by
  rw[pQ,<-r2...*];exact F.len _ _ _ _ hsp
 let hbt:=hb _ (Value.ref (s⁻¹+1)::us) I2.kIn hl;rw[pQ] at hbt;let run:=F.run _ X.stack _ _ {Value.ref (s⁻¹+1)::us,[]} (Value.ref (s⁻¹+1)::us) _ _ E0 (hr.make C us []) (I2.env0.make C us []) hbt r2 hsp;let I1:=I;obtain⟨h,g,dr,t,os⟩:=s;refine sT (zSz I1.kIn lk hX c.tl c.init c.fn hus (sJ run λr s' hq'=>?_))
 cases r with
 | error e=>exact False.elim hq'
 | ok fl=>
  cases fl with
  | ret u=>
   obtain⟨v',H',I3,rv,ev,d,hd,hne,rfl⟩:=I2.after hq';subst ev;exact{rv,q _ d s' hx0 hHx hd hne I3}
  | next=>exact False.elim hq'
  | brk=>exact False.elim hq'
  | cont=>exact False.elim hq'
def zCs(C:V1)(E:XK)(t:TA):TS:=λ_ σ H=>t σ H λvs H1=>∃v0 v,vs= [v0,v]/\∀d,H1 d=none->E (.ref C) ↥d (upd H1 d (.xd [("at",v)]))
structure Xr(P:V3)(w:V4)(K:Frag)(mg:Str->Option V0)(base:V5)(k:Nat)(cn:Str)(C:V1):Prop where
 ex:∃(nm:Str)(B fI:V1)(fd:V7)(ps:List Str),zBy K nm C B fI/\FnOk P w K mg base CX0 k fI fd ps (zCw C)/\Binds K fd ps []/\mg cn=Y (.ref C)
def Lvs(φ:V0->Prop)(X:Cx)(E:XK):Prop:=X.stack=X.env::X.outer/\X.env.frame=Y X.env.locals/\X.ex= []/\φ .none/\∀e s',V8 (S5 X.prog X.w) X.A (leaving X.env e) (λ_ s3=>CXE φ X.prog X.w X.outer X.H₀ X.s₀ E e s3) (λe' s3=>CXE φ X.prog X.w X.outer X.H₀ X.s₀ E e' s3) s'->X.xe e s'
theorem passE{φ:V0->Prop}{E:XK}(l:Lvs φ X E):uG (CXE φ X.prog X.w) X E:=λ_ _ _ _ e s' I h=>l.2.2.2.2 e s' (zYf I l.1 l.2.1 l.2.2.1 h)
theorem zBq{φ:V0->Prop}{E:XK}{cn:Str}{p pos rpos:Pos}{e:Expr}{es:List Expr}{t:TA}{j:Nat}(R:Xr X.prog X.w X.K X.mg X.base k cn C)(hr:Room j X.A)(hj:k+1<=j)(hg:Gl X cn)(hcalm:X.calm=true)(l:Lvs φ X E)(ha:PA X (e::es) t)(hdb:(cn==("__debug__" :Str))=false:=by decide)
  (he:A2 (e::es) X.env=(false,eval e X.env)::A2 es X.env:=by rfl) (hpl:(S2 pos (A2 es X.env)).any (·.1)=false:=by rfl):PS X (.Raise ↥(.Call (.Name cn p) (e::es) [] pos) none rpos) (zCs C E t):=by
 intro pins s σ H D I h;obtain⟨nm,B,fI,fd,ps,c,F,hb,hm⟩:=R.ex;obtain⟨hs,hf,hex,hφ,hxe⟩:=l;rw[arm_exec_Raise];refine mC (sC ?_);show V8 _ _ (raiseStmt X.env ↥(do let v <-eval (.Call (.Name cn p) (e::es) [] pos) X.env;S0 rpos;pure v) none) _ _ _;obtain⟨N,o,lk,hX⟩:=c.obj;refine zEq (nm:=nm) (C:=C) (N:=N) (bm:=.ref B::veMro) (by rw[sG,show veMro.contains (.type "BaseException")=true by decide,tQ]) (I.ok.hd hcalm) (mC ?_);refine rH (vX I hg hm ?_ hdb);refine callWith_K (h₀:=X.base) I.ok.mod.kin c.kp (thn (ha pos pins s σ H _ I h) λus s1 ⟨vs,H1,I1,r,v0,v,ev,q⟩=>{I1.kIn, ?_}) he hpl;subst ev;refine zOz c F (hr.mono hj) hb I1 r λx d s2 hx0 hx hd hne I2=>?_;refine mC (sC (mN ?_));let hH:upd (upd H1 x (exO x C ↥d)) d (.xd [("at",v)]) x=Y (exO x C ↥d):=by rw[zM (Ne.symm hne),zB]
 obtain⟨vs,e1,h6,h1,h2⟩:=zAc I2 hH;refine{x,_,_,vs,O,I2.kIn _ _ lk,hX,e1,O,O,h1,hxe _ _ (zFe I2 hs hf hex hH hx0 hφ ?_)};rw[zRy hx hne];exact q d hd
end
structure Dx(φ:V0->Prop)(P:V3)(w:V4)(K:PySem.W.Frag)(mg:Str->Option V0)(base:V5)(k:Nat)(x:Str)(ps:List Str)(sp:Sp):Prop where
 ex:∃(f:V1)(fd:V7),FnOk P w K mg base (CXE φ P w) k f fd ps sp/\Binds K fd ps []/\PySem.W.keepIn K (.ref f)=true/\mg x=Y (.ref f)
section
variable{X:Cx}{k j:Nat}{x:Str}{ps:List Str}{sp:Sp}{e:Expr}{es:List Expr}{t:TA}{p pos:Pos}{E:XK}
theorem zJj{φ:V0->Prop}(D:Dx φ X.prog X.w X.K X.mg X.base k x ps sp)(hr:Room j X.A)(hj:k<=j)(hg:Gl X x)(l:Lvs φ X E)(ha:PA X (e::es) t)(hdb:(x==("__debug__" :Str))=false:=by decide)
  (he:A2 (e::es) X.env=(false,eval e X.env)::A2 es X.env:=by rfl) (hpl:(S2 pos (A2 es X.env)).any (·.1)=false:=by rfl):PE X (.Call (.Name x p) (e::es) [] pos) (jV sp [] E t):=by
 obtain⟨f,fd,h1,h2,h3,h4⟩:=D.ex;exact zIc h1 (hr.mono hj) hg h4 h3 h2 .nil (passE l) ha hdb he hpl
end
section
variable{P:V3}{w:V4}{K:PySem.W.Frag}{mg:Str->Option V0}{base:V5}{k:Nat}{f:V1}{fd:V7}{ps:List Str}{sp sp':Sp}{CX:CXT}
theorem Fun.okx{φ:V0->Prop}{x qual:Str}{st:V6}{N:List Str}(F:Fun K x qual st f fd)(S:zS N ps (zK st))(len:∀vs H Q E,sp vs H Q E->vs...*=ps...*)
  (hbody:∀(cdv:V0)(A:Around)(outer:List S7)(s:V2)(H:Hp)(vs:List V)(Q:VK)(E:XK),Room k (A.deeper (envOfC qual (zK st) s⁻¹ f cdv))->sp vs H Q E->
   ∃t,PSs (zCj (CXE φ P w) P w K mg base N qual (zK st) f cdv A outer s H E) (xJ st) t/\t {nx:=λ_ H'=>Q .non H',rt:=Q} (jO N vs) H):FnOk P w K mg base (CXE φ P w) (k+1) f fd ps sp:=by
 obtain⟨oc,od,kV,doc,pm,an,cdv,ct,osl,rfl,lk,hcd⟩:=F.ex;exact zOe lk hcd S len λA outer s H vs Q E hr hsp=>hbody cdv A outer s H vs Q E hr hsp
theorem lvs{φ:V0->Prop}{N:List Str}{qual:Str}{scope:Scope}{cd:V0}{A:Around}{outer:List S7}{s:V2}{H:Hp}{E:XK}(hφ:φ .none:=by first | rfl | trivial):Lvs φ (zCj (CXE φ P w) P w K mg base N qual scope f cd A outer s H E) E:={O,O,O,hφ,λ_ _ h=>h}
end
end L2
namespace L2
open PySem PySem.Spec PyProof.Rows PySem.W PySem.Builtin PySem.Builtin.ObjectAttr
structure zBk(K:Frag)(C:V1):Prop where
 ga:findIn K (.ref C) "__getattribute__" =Y ↥(.builtin "BaseException.__getattribute__")
 gt:findIn K (.ref C) "__getattr__" =Y none
 bx:mroIn K C (.type "BaseException")=Y true
 ob:mroIn K C (.type "object")=Y true
 hd:hasDictIn K C=true
 cl:findIn K (.ref C) "__class__" =Y ↥(.builtin "object.__class__")
 cg:specialIn K (.builtin "object.__class__") "__get__" =Y ↥(.builtin "getset_descriptor.__get__")
 ct:takesIn K (.builtin "object.__class__")=Y true
section
variable{prog:V3}{w:V4}{A:Around}{K:Frag}{C x:V1}{ox od:Obj}{name:Str}{E:V0->V2->Prop}{s:V2}
theorem zZn{tk:Tok}{fill expr:Bool}{Q:V0->V2->Prop}(G:zBk K C)(hK:K.In s.heap)(I:InstAt s.heap x ox C ↥od)
  (h:V8 (S5 prog w) A.in1 (Builtin.«object.__getattribute__» {[.ref x, .str name tk],[]}) (λfin s'=>match fin with | .done (.ret v)=>V8 (S5 prog w) A (handedOut v) Q E s' | _=>False) (λ_ _=>False) s):
  V8 (S5 prog w) A (getAttrBy (.ref x) (.str name tk) fill expr) Q E s:=by
 let hb:Looks (S5 prog w) s.heap (hookBefore (.ref C)) none:=looks_hook hK (by rw[mQ (by rfl)];exact G.gt);let ht:=I.type (M:=S5 prog w);unfold getAttrBy;refine pG (mC (ht _ _ _ _ (λ_ _ e=>e) (mC (looks_findIn hK G.ga _ _ _ _ (λ_ _ e=>e) ?_))));dsimp only;rw[show(onTheHeap (Value.ref C)&& Value.builtin "BaseException.__getattribute__" ==Value.builtin "object.__getattribute__")=false from by rw[show(Value.builtin "BaseException.__getattribute__" ==Value.builtin "object.__getattribute__")=false from by decide+kernel,tL],mK ∎];unfold getAttrByItsOwn;refine mC (hb _ _ _ _ (λ_ _ e=>e) (mC (wpAny_attempt (pG ?_))));unfold callGetattribute;rw[show(expr && onTheHeap (Value.builtin "BaseException.__getattribute__"))=false from tL _,mK ∎];unfold boundAndCalled;let FB:=PySem.F.attr_ValueError;rw[FB.ga.bind];refine mC (mN ?_);show V8 _ _ (call (.builtin "BaseException.__getattribute__") [.ref x, .str name tk]) _ _ _;refine sT ?_;refine tI FB.ga.plain PySem.F.entry_bexc_ga ?_;refine @check_slot (S5 prog w) _ _ s "BaseException.__getattribute__" "BaseException" "__getattribute__" (.ref x) [.str name tk] [] _ (by decide+kernel) (by decide+kernel) (ht.andThen (looks_mroIn hK G.bx)) (PySem.F.args_bexc_ga (.ref x) (.str name tk)) ?_;refine pO h (λfin s' z=>?_) λ_ _ z=>z.elim;rcases fin with(_ | _ | _ | _)| _<;>first | exact z | exact z.elim
theorem zOx{v:V0}{expr:Bool}{Q:V0->V2->Prop}(G:zBk K C)(hK:K.In s.heap)(I:InstAt s.heap x ox C ↥od)(hf:findObj K C ↥od name=Y (.value v))(hh:handedIn v=true)(h:Q v {s with toks:=s.toks+1}):
  V8 (S5 prog w) A (getAttr (.ref x) name expr) Q E s:=by
 unfold getAttr;refine mC (wpAny_mkText (zZn (s:={s with toks:=s.toks+1}) G hK I ?_));obtain⟨hh',g,d,t,os⟩:=s;let L0:=I.type (M:=S5 prog w);let L1:=looks_find (M:=S5 prog w) hK I hf;unfold Builtin.«object.__getattribute__»;refine mC (mN (mC (mN (mC (L0.at (mC (L1.at ?_)))))));refine mN ?_;show V8 _ _ (handedOut v) _ _ _;rw[handedOut_of hh];exact mN h
end
end L2
namespace L2
open PySem PySem.Spec PyProof.Rows PySem.W
noncomputable def exF(x C:V1)(d:Option V1):HO:=.ext λh=>∃(ob:Obj)(vs:Array V0),h.get? x=Y ob/\ob.cls= .ref C/\ob.dict=d/\ob.data= .fields vs
theorem zSm{P:V3}{w:V4}{H:Hp}{h:V5}{x C:V1}{d:Option V1}{ob:Obj}{vs:Array V0}(e:h.get? x=Y ob)(h1:ob.cls= .ref C)(h2:ob.dict=d)(h3:ob.data= .fields vs):ObjOk P w H h x (exF x C d):=
 {⟨ob,vs,e,h1,h2,h3⟩,⟨_,e⟩,λ_ _ ⟨ob,vs,e,a⟩ k=>{ob,vs,k _ e,a}}
abbrev Cx.mark(X:Cx)(v:V0):Cx:={X with A:=X.A.mark ↥v,calm:=false,xe:=λ_ _=>False}
abbrev Cx.pend(X:Cx)(pins:List (V1×Obj))(W:V0->V2->Prop):Cx:={X with pn:=X.pn++pins,xe:=W}
section
variable{X:Cx}{pins pins':List (V1×Obj)}{σ:St}{H:Hp}{s:V2}{v:V0}{W:V0->V2->Prop}
theorem Cx.Ok.mark(ok:X.Ok):(X.mark v).Ok:=
 {ok.mod,ok.kind,ok.glob,ok.blt,ok.above,ok.inj,ok.has,ok.cab,(λz=>nomatch z),ok.frames,ok.stk,ok.exf,ok.bs,ok.bsz,ok.noex,ok.exfs,ok.funs,ok.frf}
theorem Inv.mark(I:Inv X pins σ H s):Inv (X.mark v) pins σ H s:=⟨I.ok.mark,I.os,I.bare,I.base,I.loc,I.cell,I.free,I.freeC,I.pin,I.hok,I.len⟩
theorem Inv.unmark(ok:X.Ok)(I:Inv (X.mark v) pins σ H s):Inv X pins σ H s:=⟨ok,I.os,I.bare,I.base,I.loc,I.cell,I.free,I.freeC,I.pin,I.hok,I.len⟩
theorem Cx.Ok.pend(ok:X.Ok):(X.pend pins W).Ok:=
 ⟨ok.mod,ok.kind,ok.glob,ok.blt,ok.above,ok.inj,ok.has,ok.cab,ok.hd,ok.frames,ok.stk,ok.exf,ok.bs,ok.bsz,ok.noex,ok.exfs,ok.funs,ok.frf⟩
theorem Inv.pend(I:Inv X pins σ H s):Inv (X.pend pins W) [] σ H s:={I.ok.pend,I.os,I.bare,I.base,I.loc,I.cell,I.free,I.freeC,λp hp=>I.pin p (by rw[pQ] at hp;exact hp),I.hok,I.len}
theorem Inv.unpend(ok:X.Ok)(I:Inv (X.pend pins W) pins' σ H s):Inv X pins σ H s:={ok,I.os,I.bare,I.base,I.loc,I.cell,I.free,I.freeC,λp hp=>I.pin p (nV _ hp),I.hok,I.len}
theorem Inv.track{x:V1}{o:HO}(I:Inv X pins σ H s)(hx:H x=none)(h0:X.s₀.heap.get? x=none)(hl:x≠X.env.locals)(hc:∀y c,X.env.cells.lookup y=Y c->c≠x)(hp:∀p∈X.pn++pins,p.1≠x)
  (new:ObjOk X.prog X.w (upd H x o) s.heap x o):Inv X pins σ (upd H x o) s where
 ok:=I.ok
 os:=I.os
 bare:=I.bare
 base:={I.base.keep,I.base.slot,λb ob e n hx'=>by rw[zM (λz=>by subst z;rw[h0] at e;cases e)];exact I.base.free b ob e n hx',I.base.there,
  λb xs e=>by let z:=I.base.tups b xs e;rw[zM (yK z hx)];exact z,λb ob xs e=>by let z:=I.base.frzs b ob xs e;rw[zM (yK z hx)];exact z,
  λb ps e=>by obtain⟨m,z⟩:=I.base.tbls b ps e;exact{m,by rw[zM (yK z hx)];exact z}}
 loc:=I.loc
 cell:=I.cell
 free:=by rw[zM (Ne.symm hl)];exact I.free
 freeC:=λy c e=>by rw[zM (hc y c e)];exact I.freeC y c e
 pin:=λp q=>let ⟨a,b,c⟩:=I.pin p q;{a,by rw[zM (hp p q)];exact b,c}
 hok:=I.hok.also hx new
 len:=I.len
theorem Inv.wiped{h':V5}{m':Str->Option V0}{t':Nat}(I:Inv X pins σ H s)(hn':h'.Ns X.env.locals m')(hs:Heap.SameBut X.env.locals s.heap h'):Inv X pins (List.replicate X.N...* none) H {s with heap:=h',toks:=t'}:=by
 let neL:∀b o,X.s₀.heap.get? b=Y o->b≠X.env.locals:=λb o e=>nQ (nO (nB e) I.ok.above);refine⟨I.ok,I.os,I.bare,⟨λb o e n hb hx=>?_,λb o e n hb hx=>?_,I.base.free,λb o e hx=>?_,I.base.tups,I.base.frzs,I.base.tbls⟩,⟨_,hn',λj y v' e1 e2 e3=>?_⟩,λy c e=>?_,I.free,I.freeC,λp hp=>?_,λb ob e=>?_,rC⟩
 ·exact(hs.2 b (neL b o e)).trans (I.base.keep b o e n hb hx)
 ·obtain⟨sl,e1⟩:=I.base.slot b o e n hb hx
  exact{sl,(hs.2 b (neL b o e)).trans e1}
 ·obtain⟨o',e1⟩:=I.base.there b o e hx
  exact{o',(hs.2 b (neL b o e)).trans e1}
 ·rw[tS] at e2
  split at e2<;>cases e2
 ·obtain⟨v',o,ho,hd⟩:=I.cell y c e
  exact{v',o,(hs.2 c (I.cne y c e)).trans ho,hd}
 ·obtain⟨a,b,c,d⟩:=I.pin p hp
  exact{(hs.2 _ c).trans a,b,c,d}
 ·refine(I.hok b ob e).stay (λc w' hc q=>(hs.2 c ?_).trans q) (λ_ q=>q) λ_ _ q=>q
  rintro rfl;rcases hc with z | z
  ·rw[<-z,I.free] at e;cases e
  ·rw[I.free] at z;cases z
end
section
variable{X:Cx}{B:V1}{bn n:Str}{i:Nat}{body suite:List V6}{b₀:V6}{bp hp pos:Pos}{tb:XK->TS}{ts:TS}{φ:V0->Prop}
def yAu(K:Frag)(B:V1)(i len:Nat)(ts:TS)(D:jL):XK:=λC d H2=>∃Ca,C= .ref Ca/\exmOne K (.ref Ca) (.ref B)=Y true/\
 ∀x,H2 x=none->ts {D with nx:=λ_ H'=>D.nx (List.replicate len none) H',bk:=λ_ H'=>D.bk (List.replicate len none) H',ct:=λ_ H'=>D.ct (List.replicate len none) H'} ((List.replicate len none).set i ↥(.ref x)) (upd H2 x (exF x Ca d))
def tTry(K:Frag)(B:V1)(i len:Nat)(tb:XK->TS)(ts:TS):TS:=λD σ H=>tb (yAu K B i len ts D) D σ H
theorem yDl(hcalm:X.calm=true)(hgB:Gl X bn)(hmB:X.mg bn=Y (.ref B))(hN:X.N.Nodup)(hi:X.N[i]? =Y n)(hl:X.env.scope.names.lookup n=some .local)(hstk:X.stack=X.env::X.outer)(hf:X.env.frame=Y X.env.locals)(hex:X.ex= [])
  (hb:∀pins W E,uG (CXE φ X.prog X.w) (X.pend pins W) E->PSs (X.pend pins W) body (tb E)) (hsu:∀v,PSs (X.mark v) (b₀::suite) ts) (hdb:(bn==("__debug__" :Str))=false:=by decide):
  PS X (.Try body [.ExceptHandler ↥(.Name bn bp) ↥n (b₀::suite) hp] [] [] pos) (tTry X.K B i X.N...* tb ts):=by
 intro pins s σ H D I h;refine dI ?_;let J:=hb pins (λe s'=>∃σ' H1 s1,Inv X pins σ' H1 s1/\CXE φ X.prog X.w X.stack H1 s1 (yAu X.K B i X.N...* ts D) e s') (yAu X.K B i X.N...* ts D)
  (λpins' σ' H' s1 e s' I1 hx=>{σ',H',s1,I1.unpend I.ok,hx}) [] s σ H D I.pend h
 refine pO J (λf s1 q=>?_) λe s1 ⟨σ',H0,s0,I0,hx⟩=>?_
 ·cases f with
  | next=>obtain⟨σ',H',I',q⟩:=q;exact sY {σ',H',I'.unpend I.ok,q}
  | brk=>obtain⟨σ',H',I',q⟩:=q;exact{σ',H',I'.unpend I.ok,q}
  | cont=>obtain⟨σ',H',I',q⟩:=q;exact{σ',H',I'.unpend I.ok,q}
  | ret u=>obtain⟨v,σ',H',I',r,q⟩:=q;exact{v,σ',H',I'.unpend I.ok,r,q}
 obtain⟨x,T,C,d,a0,H',rfl,os,bare,un,hok,hx0,hT0,hHx,hHT,fl,Ca,rfl,hexm,q⟩:=hx;let I2:Inv X pins σ' H' s1:=I0.call' os un hok bare (λb z=>absurd z (by simp));let nfr:∀b,s0.heap.get? b=none->b∉frs X.stack:=λb hb z=>by
  obtain⟨o,e,_⟩:=gB I0.stack b z;rw[hb] at e;cases e
 let hfr:=I0.ok.frames;let nx:=nfr x hx0;let nT:=nfr T hT0;let st:=I2.stack;rw[hstk] at hfr;let nx':=nx;let nT':=nT;rw[hstk] at nx' nT' st;refine zCy hfr st hf nx' nT' fl λh1 T1 f1 k1 n1=>?_;refine wR f1 λh2 f2 k2=>?_;rw[<-hstk] at k1;let hT1H:H' T1=none:=by
  cases e:H' T1 with
  | none=>rfl
  | some o=>
   obtain⟨ob,hob⟩:=i5 (I2.hok T1 o e);rw[n1] at hob;cases hob
 let hT10:s0.heap.get? T1=none:=by
  cases e:s0.heap.get? T1 with
  | none=>rfl
  | some o=>
   obtain⟨o',e'⟩:=un.there T1 o e (λz=>nomatch z);rw[n1] at e';cases e'
 let k3:Kp (frs X.stack) [x,T,T1] s1.heap h2:=k1.trans (vD k2 λb hb=>nomatch hb) λc hc=>by
  rcases hc with z | z
  ·rcases mD.mp z with z | z
   ·rw[z];simp
   ·rw[mG.mp z];simp
  ·rw[mG.mp z.1];simp
 let all0:∀b∈ [x,T,T1],s0.heap.get? b=none/\H' b=none:=λb hb=>by
  rcases mD.mp hb with z | z
  ·rw[z];exact⟨hx0,hHx⟩
  ·rcases mD.mp z with z | z
   ·rw[z];exact⟨hT0,hHT⟩
   ·rw[mG.mp z];exact⟨hT10,hT1H⟩
 let I3:Inv X pins σ' H' {s1 with heap:=h2}:=I0.call' (s':={s1 with heap:=h2}) os (uY un k3 λb hb=>(all0 b hb).1) (jP hok k3 I2.stkFree λb hb=>(all0 b hb).2) bare (λb z=>absurd z (by simp));let LT:Looks (S5 X.prog X.w) h2 (typeOf (.ref x)) (.ref Ca):=by
  obtain⟨oe,vs,oT,ts',e1,e2,_⟩:=f2;exact e2▸(Looks.ld e1).andThen .now
 refine aW (aM ?_) (by intro z;cases z);refine vX (X:=X.mark (.ref x)) (I3.mark) hgB hmB ?_ hdb;refine exm_one (M:=S5 X.prog X.w) I3.kIn LT hexm _ _ _ {s1 with heap:=h2} (λ_ _ e=>e) ?_;refine bB ?_;refine wR f2 λh3 f3 k4=>?_;let k5:Kp (frs X.stack) [x,T,T1] s1.heap h3:=k3.trans (vD k4 λb hb=>nomatch hb) λc hc=>by
  rcases hc with z | z
  ·exact z
  ·rw[mG.mp z.1];simp
 let I4:Inv X pins σ' H' {s1 with heap:=h3}:=I0.call' (s':={s1 with heap:=h3}) os (uY un k5 λb hb=>(all0 b hb).1) (jP hok k5 I2.stkFree λb hb=>(all0 b hb).2) bare (λb z=>absurd z (by simp));let hxs:X.s₀.heap.get? x=none:=by
  cases e:X.s₀.heap.get? x with
  | none=>rfl
  | some o=>
   obtain⟨o',e'⟩:=I0.base.there x o e (by rw[hex];exact λz=>nomatch z);rw[hx0] at e';cases e'
 obtain⟨oe,vs,oT,ts',e1,e2,e3,e4,_⟩:=f3;let I5:Inv X pins σ' (upd H' x (exF x Ca d)) {s1 with heap:=h3}:=by
  refine I4.track hHx hxs (λz=>?_) (λy c e z=>?_) (λp hp z=>?_) (zSm e1 e2 e3 e4)
  ·obtain⟨m,⟨o,_,_,ho,_⟩,_⟩:=I0.loc
   rw[<-z,hx0] at ho;cases ho
  ·obtain⟨v,o,ho,_⟩:=I0.cell y c e
   rw[z,hx0] at ho;cases ho
  ·let ho:=(I0.pin p hp).1
   rw[z,hx0] at ho;cases ho
 let I6:Inv X pins (List.replicate X.N...* none) (upd H' x (exF x Ca d)) {s1 with heap:=h3}:=I5.weak (by rw[rC,I5.len]) λj v' e=>by
  rw[tS] at e;split at e<;>cases e
 refine kJ (v:=.ref x) I6 hN hi (.inl hl) O (λs4 I7=>?_) (.inr hl);refine pO (hsu (.ref x) pins s4 _ _ _ I7.mark (q x hHx)) (λf s5 z=>?_) λ_ _ z=>False.elim z;let hcls:(X.env.scope.kind== .class ||(X.env.scope.kind== .module && X.env.locals !=X.env.globals))=false:=by rw[I.ok.kind];rfl
 cases f with
 | next=>
  obtain⟨σ5,H5,I8,q5⟩:=z;obtain⟨m,hn,_⟩:=I8.loc;exact sH hl hn hcls λh' m' hn' hs'=>{_,H5,(I8.unmark I.ok).wiped hn' hs',q5}
 | brk=>
  obtain⟨σ5,H5,I8,q5⟩:=z;obtain⟨m,hn,_⟩:=I8.loc;exact sH hl hn hcls λh' m' hn' hs'=>{_,H5,(I8.unmark I.ok).wiped hn' hs',q5}
 | cont=>
  obtain⟨σ5,H5,I8,q5⟩:=z;obtain⟨m,hn,_⟩:=I8.loc;exact sH hl hn hcls λh' m' hn' hs'=>{_,H5,(I8.unmark I.ok).wiped hn' hs',q5}
 | ret u=>
  obtain⟨v,σ5,H5,I8,r5,q5⟩:=z;obtain⟨m,hn,_⟩:=I8.loc;exact sH hl hn hcls λh' m' hn' hs'=>{v,_,H5,(I8.unmark I.ok).wiped hn' hs',r5,q5}
end
end L2
namespace L2
open PySem PySem.Spec PyProof.Rows PySem.W
section
variable{X:Cx}{C D:V1}{b:Bool}
theorem zSk{pins:List (V1×Obj)}{σ:St}{H:Hp}{s:V2}{x d:V1}{fs:List (Str×V)}(I:Inv X pins σ H s)(hx:H x=Y (exF x C ↥d))(hd:H d=Y (.xd fs)):
  ∃ob od,InstAt s.heap x ob C ↥od/\∀name,∃u,lookIn name od=Y u/\RelO (fs.lookup name) u:=by
 obtain⟨ob,vs,e1,e2,e3,e4⟩:=(I.hok x _ hx).1;obtain⟨mA,n,r⟩:=I.hok d _ hd;obtain⟨od,ho,hl⟩:=zFd n;refine{ob,od,{e1,e2, ?_,by rw[e3];exact ho},λname=>{_,hl name,r name}};unfold notCls;rw[e4]
def tXAt(C:V1)(f:Str)(ta:TE):TE:=λσ H Q=>ta σ H λv H1=>∃x d fs n,v= .ref x/\H1 x=Y (exF x C ↥d)/\H1 d=Y (.xd fs)/\fs.lookup f=Y (.int n)/\Q (.int n) H1
theorem zSu{e:Expr}{f:Str}{ta:TE}{pos:Pos}(G:zBk X.K C)(hf:findIn X.K (.ref C) f=Y none)(he:PE X e ta)(hb:attributeBase e f X.env (eval e X.env)=eval e X.env:=by rfl):PE X (.Attribute e f pos) (tXAt C f ta):=by
 intro pins s σ H Q I h;refine zWh hb (thn (he pins s σ H _ I h) λu s1 ⟨v,H1,I1,rx,x,d,fs,n,ev,hx,hd,hl,q⟩=>?_);subst ev;obtain rfl:u=Value.ref x:=rx;obtain⟨ob,od,J,lk⟩:=zSk I1 hx hd;obtain⟨u,e1,e2⟩:=lk f;rw[hl] at e2
 cases u with
 | none=>exact e2.elim
 | some u=>
  obtain⟨tk,rfl⟩:∃tk,u=Value.int n tk:=e2;refine zOx G I1.kIn J (findObj_own G.hd hf O e1) O {.int n,H1,I1.tok _,⟨_,O⟩,q}
end
section
variable{X:Cx}{k j:Nat}{x:Str}{ps:List Str}{sp:Sp}{e:Expr}{es:List Expr}{t:TA}{p pos:Pos}{E:XK}
theorem zZb{φ:V0->Prop}(D:Dx φ X.prog X.w X.K X.mg X.base k x ps sp)(hr:Room j X.A)(hj:k<=j)(hg:Gl X x)(l:uG (CXE φ X.prog X.w) X E)(ha:PA X (e::es) t)(hdb:(x==("__debug__" :Str))=false:=by decide)
  (he:A2 (e::es) X.env=(false,eval e X.env)::A2 es X.env:=by rfl) (hpl:(S2 pos (A2 es X.env)).any (·.1)=false:=by rfl):PE X (.Call (.Name x p) (e::es) [] pos) (jV sp [] E t):=by
 obtain⟨f,fd,h1,h2,h3,h4⟩:=D.ex;exact zIc h1 (hr.mono hj) hg h4 h3 h2 .nil l ha hdb he hpl
end
end L2
namespace L2
open PySem PySem.Spec PyProof.Rows PySem.W
structure RoomH(k:Nat)(A:Around):Prop where
 dp:A.depth+3*k+5<recursionLimit
 un:A.units+16*k+200<cLine
theorem Room.h{k:Nat}{A:Around}{v:Option V0}(r:Room k A):RoomH k (A.mark v):=⟨r.dp,r.un⟩
theorem RoomH.mono{j k:Nat}{A:Around}(r:RoomH k A)(h:j<=k):RoomH j A:={by let:=r.dp;lia,by let:=r.un;lia}
theorem RoomH.deeper{k:Nat}{A:Around}(r:RoomH (k+1) A)(env:S7):RoomH k (A.deeper env):=
 {by let:=r.dp;show A.depth+1+3*k+5<_;lia,by let:=r.un;show A.units+3+16*k+200<_;lia}
theorem RoomH.depth{k:Nat}{A:Around}(r:RoomH k A):A.depth<recursionLimit:=by let:=r.dp;lia
structure zJa(P:V3)(w:V4)(K:PySem.W.Frag)(mg:Str->Option V0)(base:V5)(k:Nat)(f:V1)(fd:V7)(ps:List Str)(sp:Sp):Prop where
 len:∀vs H Q E,sp vs H Q E->vs...*=ps...*
 run:∀(A:Around)(outer:List S7)(s:V2)(H:Hp)(args:Args)(us:List V0)(vs:List V)(Q:VK)(E:XK),RoomH k A->Env0 P w K mg base A outer s H->BindsTo s fd args (ps.zip us)->Vals vs us->sp vs H Q E->
  codeAny (S5 P w) A (.call (.ref f) args) (CR CX0 outer P w H s Q E) s
abbrev cxH(P:V3)(w:V4)(K:PySem.W.Frag)(mg:Str->Option V0)(base:V5)(N:List Str)(qual:Str)(scope:Scope)(f:V1)(cd:V0)(A:Around)(outer:List S7)(s:V2)(H:Hp):Cx:=
 {zCj CX0 P w K mg base N qual scope f cd A outer s H E0 with calm:=false,xe:=λ_ _=>False}
structure Dh(P:V3)(w:V4)(K:PySem.W.Frag)(mg:Str->Option V0)(base:V5)(k:Nat)(x:Str)(ps:List Str)(sp:Sp):Prop where
 ex:∃(f:V1)(fd:V7),zJa P w K mg base k f fd ps sp/\Binds K fd ps []/\PySem.W.keepIn K (.ref f)=true/\mg x=Y (.ref f)
section
variable{X:Cx}{k j:Nat}{x:Str}{ps:List Str}{sp:Sp}{e:Expr}{es:List Expr}{t:TA}{p pos:Pos}
end
end L2
namespace L2
open PySem PySem.Spec PyProof.Rows PySem.W
section
variable{M:Model}{A:Around}{E:V0->V2->Prop}{s:V2}{env:S7}{outer:List S7}{x T L:V1}{C a0 fl:V0}{d:Option V1}{base:V5}{Q:Unit->V2->Prop}{φ:V0->Prop}
theorem zFj{o:Option V1}(F:Fl φ s.heap x T C d a0 fl)(q:∀h' fl',Fl φ h' x T C d a0 fl'->Kp [] [T] s.heap h'->(o=none->fl'= .none)->Q () {s with heap:=h'}):V8 M A (setFlight (.ref x) o) Q E s:=by
 obtain⟨oe,vs,oT,ts,e1,e2,e3,e4,e5,e6,e7,e8,e9,e10,e11⟩:=F;unfold setFlight;refine mC (rG e1 e4 e6 ?_);rw[mQ (by rfl)];let hsz:3<ts.size:=by
  obtain⟨z,_⟩:=pJ.mp e10;exact z
 refine sF e8 e9 hsz ?_;let hT:=kU e8 e9 3 (o.elim .none λf=>rawInt f);refine q _ (o.elim .none λf=>rawInt f) {oe,vs,_,_,(mX _ _ e7).trans e1,e2,e3,e4,e5,e6,e7,hT,O, ?_,e11} ⟨λb o e _ hb=>(mX _ _ λz=>hb (by rw[z];exact mF)).trans e,λb o e hb=>nomatch hb⟩ (λz=>by rw[z];rfl);show(ts.setIfInBounds 3 _)[3]? =Y _;rw[sN hsz]
theorem zSh{e:V0}{env env':S7}(h:env'.frame=env.frame):noteFrame e env'=noteFrame e env:=by
 unfold noteFrame PySem.frameOf;rw[h]
theorem zSs(hfr:A.frames=Y (env::outer))(hfu:s.heap.FunFrames base (env::outer))(hL:env.frame=Y L)(hx:x∉frs (env::outer))(hT:T∉frs (env::outer))(F:Fl φ s.heap x T C d a0 fl)
  (q:∀h' T' fl',Fl φ h' x T' C d a0 fl'->Kp (frs (env::outer)) [x,T] s.heap h'->(T'=T\/s.heap.get? T'=none)->Q () {s with heap:=h'}):V8 M A (noteFrame (.ref x) env) Q E s:=by
 let F0:=F;obtain⟨oe,vs,oT,ts,e1,e2,e3,e4,e5,e6,e7,e8,e9,e10,e11⟩:=F
 by_cases hc:(fl==rawInt L)=true
 ·unfold noteFrame
  rw[hL];refine mC (rG e1 e4 e6 ?_);rw[mQ (by rfl)];refine mC (rG e8 e9 e10 ?_);rw[mQ hc];exact mN (q s.heap T fl F0 Kp.refl (.inl O))
 let hs:1<vs.size:=by
  obtain⟨z,_⟩:=pJ.mp e6;exact z
 let hsz:3<ts.size:=by
  obtain⟨z,_⟩:=pJ.mp e10;exact z
 unfold noteFrame;rw[hL];refine mC (rG e1 e4 e6 ?_);rw[mQ (by rfl)];refine mC (rG e8 e9 e10 ?_);rw[mK hc];refine mC (sF e8 e9 hsz ?_);let k1:Kp (frs (env::outer)) [T] s.heap (s.heap.update T (Obj.mapFields λx=>x.setIfInBounds 3 Value.none)):=⟨λb o e _ hb=>(mX _ _ λz=>hb (by rw[z];exact mF)).trans e,λb o e hb hb2=>⟨o.slots,(mX _ _ λz=>hb2 (by rw[z];exact mF)).trans e⟩⟩;let hfu2:(s.heap.update T (Obj.mapFields λx=>x.setIfInBounds 3 Value.none)).FunFrames base (env::outer):=zGq k1 (λb hb=>{hb,λz=>hT (by rw[<-mG.mp z];exact hb)}) hfu;let x2:(s.heap.update T (Obj.mapFields λx=>x.setIfInBounds 3 Value.none)).get? x=Y oe:=(mX _ _ e7).trans e1;let q':=zLj (E:=E) (M:=M) (A:=A) (head:=.ref T) (b:=true) (s:={s with heap:=s.heap.update T (Obj.mapFields λx=>x.setIfInBounds 3 Value.none)}) (Q:=Q) hfr hfu2 hL x2 hx e4 e5 hs e11;rw[e2,e3] at q';refine q' λh' T' f k n=>q h' T' _ f (k1.trans k λc hc=>?_) (.inr ?_)
 ·rcases hc with z | z
  ·rw[mG.mp z];simp
  ·rw[mG.mp z.1];simp
 ·cases e:s.heap.get? T' with
  | none=>rfl
  | some o=>
   by_cases z:T'=T
   ·subst z
    rw[kU e8 e9] at n;cases n
   ·rw[(mX s.heap _ (Ne.symm z)).trans e] at n;cases n
end
def CXF(φ:V0->Prop)(X:Cx)(E:XK)(cs:List V1)(e:V0)(s':V2):Prop:=∃(x T:V1)(C:V0)(d:Option V1)(a0 f:V0)(H':Hp),e= .ref x/\s'.os=X.s₀.os/\AllBare s'.gens/\Un X.fs [] X.H₀ H' X.s₀.heap s'.heap/\HOk X.prog X.w H' s'.heap/\
 X.s₀.heap.get? x=none/\X.s₀.heap.get? T=none/\H' x=none/\H' T=none/\Fl φ s'.heap x T C d a0 f/\E C d H'/\s'.heap.FunFrames X.base X.stack/\(∀b∈frs X.stack,H' b=none)/\x∉frs X.stack/\T∉frs X.stack/\
 ∀c∈cs,(∃m,s'.heap.Ns c m)/\X.s₀.heap.get? c=none/\H' c=none/\c∉frs X.stack/\c≠x/\c≠T
section
variable{X:Cx}{E:XK}{EE:V0->V2->Prop}{s:V2}{e:V0}{cs:List V1}{φ:V0->Prop}
theorem CXF.step{x T:V1}{C:V0}{d:Option V1}{a0:V0}{H':Hp}{h':V5}{T':V1}{f':V0}(ok:X.Ok)(hs:X.stack=X.env::X.outer)(hf:X.env.frame=Y X.env.locals)(os:s.os=X.s₀.os)(bare:AllBare s.gens)(un:Un X.fs [] X.H₀ H' X.s₀.heap s.heap)(hok:HOk X.prog X.w H' s.heap)
  (hx0:X.s₀.heap.get? x=none) (hT0:X.s₀.heap.get? T=none) (hHx:H' x=none) (hHT:H' T=none) (q:E C d H') (fu:s.heap.FunFrames X.base X.stack) (ff:∀b∈frs X.stack,H' b=none) (nx:x∉frs X.stack) (nT:T∉frs X.stack)
  (hcs:∀c∈cs,(∃m,s.heap.Ns c m)/\X.s₀.heap.get? c=none/\H' c=none/\c∉frs X.stack/\c≠x/\c≠T)
  (F':Fl φ h' x T' C d a0 f') (k:Kp (frs X.stack) [x,T] s.heap h') (n:T'=T\/s.heap.get? T'=none):CXF φ X E cs (.ref x) {s with heap:=h'}:=by
 let hfs:frs X.stack=X.env.locals::X.fs:=by
  rw[hs];unfold frs;rw[pW,hf];rfl
 let hloc:X.s₀.heap.get? X.env.locals=none:=rJ ok.above;let k4:Kp X.fs [x,T,X.env.locals] s.heap h':=by
  let k5:Kp (frs X.stack) [x,T,X.env.locals] s.heap h':=k.trans Kp.refl (ys:=[]) λc hc=>by
   rcases hc with z | z
   ·rcases mD.mp z with z | z
    ·rw[z];simp
    ·rw[mG.mp z];simp
   ·exact nomatch z.1
  refine vD k5 λb hb=>?_;rw[hfs] at hb;rcases mD.mp hb with z | z
  ·rw[z];exact .inr (by simp)
  ·exact .inl z
 let hT':X.s₀.heap.get? T'=none/\H' T'=none/\T'∉frs X.stack/\(∀c∈cs,c≠T'):=by
  rcases n with z | z
  ·rw[z];exact{hT0,hHT,nT,λc hc=>(hcs c hc).2.2.2.2.2}
  ·refine{?_, ?_,λy=>?_,λc hc y=>?_}
   ·cases e:X.s₀.heap.get? T' with
    | none=>rfl
    | some o=>
     obtain⟨o',e'⟩:=un.there T' o e (λz=>nomatch z);rw[z] at e';cases e'
   ·cases e:H' T' with
    | none=>rfl
    | some o=>
     obtain⟨ob,hob⟩:=i5 (hok T' o e);rw[z] at hob;cases hob
   ·obtain⟨o,e,_⟩:=gB fu T' y
    rw[z] at e;cases e
   ·obtain⟨⟨m,o,_,_,ho,_⟩,_⟩:=hcs c hc
    rw[y,z] at ho;cases ho
 refine{x,T',C,d,a0,f',H',O,os,bare,uY un k4 λb hb=>?_,jP hok k ff λb hb=>?_,hx0,hT'.1,hHx,hT'.2.1,F',q,zGq k (λb hb=>{hb,λz=>?_}) fu,ff,nx,hT'.2.2.1,λc hc=>?_}
 ·rcases mD.mp hb with z | z
  ·rw[z];exact hx0
  ·rcases mD.mp z with z | z
   ·rw[z];exact hT0
   ·rw[mG.mp z];exact hloc
 ·rcases mD.mp hb with z | z
  ·rw[z];exact hHx
  ·rw[mG.mp z];exact hHT
 ·rcases mD.mp z with z | z
  ·exact nx (by rw[<-z];exact hb)
  ·exact nT (by rw[<-mG.mp z];exact hb)
 ·obtain⟨⟨m,o,es,ep,ho,r⟩,c0,cH,cf,cx,cT⟩:=hcs c hc
  exact{{m,o,es,ep,k.keep c o ho cf (λz=>by
   rcases mD.mp z with z | z
   ·exact cx z
   ·exact cT (mG.mp z)),r},c0,cH,cf,cx,hT'.2.2.2 c hc}
theorem m7{env':S7}(ok:X.Ok)(hs:X.stack=X.env::X.outer)(hf:X.env.frame=Y X.env.locals)(h:CXF φ X E cs e s)(he:env'.frame=X.env.frame):V8 (S5 X.prog X.w) X.A (noteFrame e env') (λ_ s'=>CXF φ X E cs e s') EE s:=by
 obtain⟨x,T,C,d,a0,f,H',rfl,os,bare,un,hok,hx0,hT0,hHx,hHT,fl,q,fu,ff,nx,nT,hcs⟩:=h;let fu':=fu;let nx':=nx;let nT':=nT;let hfr:=ok.frames;rw[hs] at fu' nx' nT' hfr;rw[zSh he];refine zSs hfr fu' hf nx' nT' fl λh' T' f' F' k n=>?_;rw[<-hs] at k;exact CXF.step ok hs hf os bare un hok hx0 hT0 hHx hHT q fu ff nx nT hcs F' k n
theorem l4{o:Option V1}(ok:X.Ok)(hs:X.stack=X.env::X.outer)(hf:X.env.frame=Y X.env.locals)(h:CXF φ X E cs e s):V8 (S5 X.prog X.w) X.A (setFlight e o) (λ_ s'=>CXF φ X E cs e s') EE s:=by
 obtain⟨x,T,C,d,a0,f,H',rfl,os,bare,un,hok,hx0,hT0,hHx,hHT,fl,q,fu,ff,nx,nT,hcs⟩:=h;refine zFj fl λh' f' F' k _=>?_;let k':Kp (frs X.stack) [x,T] s.heap h':=(vD k λb hb=>nomatch hb).trans Kp.refl (ys:=[]) λc hc=>by
  rcases hc with z | z
  ·rw[mG.mp z];simp
  ·exact nomatch z.1
 exact CXF.step ok hs hf os bare un hok hx0 hT0 hHx hHT q fu ff nx nT hcs F' k' (.inl O)
theorem n9(ok:X.Ok)(hs:X.stack=X.env::X.outer)(hf:X.env.frame=Y X.env.locals)(h:CXF φ X E [] e s):V8 (S5 X.prog X.w) X.A (leaving X.env e) (λ_ s'=>CXE φ X.prog X.w X.outer X.H₀ X.s₀ E e s') EE s:=by
 unfold leaving;refine mC (thn (m7 ok hs hf h O) λ_ s1 h1=>?_);let h2:=h1;obtain⟨x,T,C,d,a0,f,H',rfl,os,bare,un,hok,hx0,hT0,hHx,hHT,fl,q,fu,ff,nx,nT,hcs⟩:=h2;refine zFj fl λh' f' F' k hn=>?_;let k':Kp (frs X.stack) [x,T] s1.heap h':=(vD k λb hb=>nomatch hb).trans Kp.refl (ys:=[]) λc hc=>by
  rcases hc with z | z
  ·rw[mG.mp z];simp
  ·exact nomatch z.1
 let r:=CXF.step (cs:=[]) ok hs hf os bare un hok hx0 hT0 hHx hHT q fu ff nx nT (λc hc=>nomatch hc) F' k' (.inl O);obtain⟨x2,T2,C2,d2,a2,f2,H2,e2,os2,bare2,un2,hok2,hx2,hT2,hHx2,hHT2,fl2,q2,_⟩:=r;cases e2;rw[hn O] at F';exact{x,T,C,d,a0,H',O,os2,bare2,uY un (vD (k.trans Kp.refl (ys:=[]) (zs:=[T]) λc hc=>hc.elim id λz=>nomatch z.1) λb hb=>nomatch hb) λb hb=>by rw[mG.mp hb];exact hT0,jP hok k' ff λb hb=>by
  rcases mD.mp hb with z | z
  ·rw[z];exact hHx
  ·rw[mG.mp z];exact hHT,hx0,hT0,hHx,hHT,F',q}
end
end L2
namespace L2
open PySem PySem.Spec PyProof.Rows PySem.W
section
variable{X:Cx}{E:XK}
end
section
variable{X:Cx}{scope:Scope}{own:List Str}{F:List (Str×Nat)}{elt tg iter:Expr}{ifs:List Expr}{pos:Pos}{wi:TI}{g:TG}{tt:TT}{te:TE}{E:XK}
end
end L2
namespace L2
open PySem PySem.Spec PyProof.Rows PySem.W PySem.Builtin PySem.Builtin.ObjectAttr
structure Xp(K:Frag)(nm:Str)(C B:V1):Prop where
 obj:∃(N:V1)(o:Obj),K.lookup C=Y o/\XObj nm C N (.ref B::veMro) o/\nsOkIn K N=true/\nsIn K N "__init__" =Y none
 tl:tailIn K veMro (.ref B::veMro)=true
 kp:keepIn K (.ref C)=true
section
variable{X:Cx}{C B:V1}{nm:Str}
theorem zQd{pins:List (V1×Obj)}{σ:St}{H:Hp}{s:V2}{Qx:V0->V2->Prop}{EE:V0->V2->Prop}{us:List V0}(c:Xp X.K nm C B)(hex:X.ex= [])(I:Inv X pins σ H s)(hl:us...*<=100)
  (q:∀x s',X.s₀.heap.get? x=none->H x=none->Inv X pins σ (upd H x (exO x C none)) s'->Qx (.ref x) s'):V8 (S5 X.prog X.w) X.A (call (.ref C) us) Qx EE s:=by
 obtain⟨N,o,lk,⟨q',bs,hdct,sn,sub,ab,col,dd,k0,k1,k2,k3,k5,rfl⟩,hns,hni⟩:=c.obj;let hT:=tail_of_in I.kIn c.tl;let hC:=I.kIn _ _ lk;let hn:s.heap.Ns N (s.heap.nsMap N):=.of_isNs (isNs_of_in I.kIn hns);let hi:s.heap.nsMap N "__init__" =none:=nsMap_none_of_in I.kIn hns hni;let I1:=I;obtain⟨h,g,dr,t,os⟩:=s;refine wpAny_call_exc_subT PySem.F.excBase_ValueError hT hC hn hi (λh' x hm=>?_) (by rw[mS];lia);obtain⟨t',ht,_⟩:=hm.there;let nn:∀b o,h.get? b=Y o->b≠x:=λb o e z=>by rw[z,hm.new] at e;cases e
 let hHx:H x=none:=by
  cases e:H x with
  | none=>rfl
  | some o=>
   obtain⟨ob,hob⟩:=i5 (I1.hok x o e);rw[hm.new] at hob;cases hob
 let hx0:X.s₀.heap.get? x=none:=by
  cases e:X.s₀.heap.get? x with
  | none=>rfl
  | some o=>
   obtain⟨o',e'⟩:=I1.base.there x o e (by rw[hex];exact λz=>nomatch z);rw[hm.new] at e';cases e'
 refine q x _ hx0 hHx ((I1.kept (t':=t) hm.keeps).track hHx hx0 (λz=>?_) (λy c e z=>?_) (λp hp z=>?_) (zBo ht O O O))
 ·obtain⟨m,⟨o,_,_,ho,_⟩,_⟩:=I1.loc
  exact nn _ _ ho z.symm
 ·obtain⟨v,o,ho,_⟩:=I1.cell y c e
  exact nn _ _ ho z
 ·exact nn _ _ (I1.pin p hp).1 z
theorem zXf{H:Hp}{x:V1}{o:HO}(hx:H x=none):drp (upd H x o) x=H:=by
 funext b
 by_cases z:b=x
 ·subst z;rw[gZ,hx]
 ·rw[vP z,zM z]
def zIu(C:V1)(E:XK)(t:TA):TS:=λ_ σ H=>t σ H λvs H1=>vs...*<=100/\E (.ref C) none H1
structure Xr0(K:Frag)(mg:Str->Option V0)(cn:Str)(C:V1):Prop where
 ex:∃(nm:Str)(B:V1),Xp K nm C B/\mg cn=Y (.ref C)
theorem zQk{φ:V0->Prop}{E:XK}{cn:Str}{p pos rpos:Pos}{e:Expr}{es:List Expr}{t:TA}(R:Xr0 X.K X.mg cn C)(hg:Gl X cn)(hcalm:X.calm=true)(l:Lvs φ X E)(ha:PA X (e::es) t)(hdb:(cn==("__debug__" :Str))=false:=by decide)
  (he:A2 (e::es) X.env=(false,eval e X.env)::A2 es X.env:=by rfl) (hpl:(S2 pos (A2 es X.env)).any (·.1)=false:=by rfl):PS X (.Raise ↥(.Call (.Name cn p) (e::es) [] pos) none rpos) (zIu C E t):=by
 intro pins s σ H D I h;obtain⟨nm,B,c,hm⟩:=R.ex;obtain⟨hs,hf,hex,hφ,hxe⟩:=l;rw[arm_exec_Raise];refine mC (sC ?_);show V8 _ _ (raiseStmt X.env ↥(do let v <-eval (.Call (.Name cn p) (e::es) [] pos) X.env;S0 rpos;pure v) none) _ _ _;obtain⟨N,o,lk,hX,_⟩:=c.obj;refine zEq (nm:=nm) (C:=C) (N:=N) (bm:=.ref B::veMro) (by rw[sG,show veMro.contains (.type "BaseException")=true by decide,tQ]) (I.ok.hd hcalm) (mC ?_);refine rH (vX I hg hm ?_ hdb);refine callWith_K (h₀:=X.base) I.ok.mod.kin c.kp (thn (ha pos pins s σ H _ I h) λus s1 ⟨vs,H1,I1,r,hv,q⟩=>{I1.kIn, ?_}) he hpl;refine zQd c hex I1 (by show us...*<=100;rw[<-r...*];exact hv) λx s2 hx0 hx I2=>?_;refine mC (sC (mN ?_));let hH:upd H1 x (exO x C none) x=Y (exO x C none):=zB;obtain⟨vs',e1,h6,h1,h2⟩:=zAc I2 hH;refine{x,_,_,vs',O,I2.kIn _ _ lk,hX,e1,O,O,h1,hxe _ _ (zFe I2 hs hf hex hH hx0 hφ ?_)};rw[zXf hx];exact q
end
section
variable{prog:V3}{w:V4}{A:Around}{K:Frag}{C x:V1}{ox:Obj}{od:Option Obj}{name:Str}{E:V0->V2->Prop}{s:V2}
theorem zXo{tk:Tok}{fill expr:Bool}{Q:V0->V2->Prop}(G:zBk K C)(hK:K.In s.heap)(I:InstAt s.heap x ox C od)
  (h:V8 (S5 prog w) A.in1 (Builtin.«object.__getattribute__» {[.ref x, .str name tk],[]}) (λfin s'=>match fin with | .done (.ret v)=>V8 (S5 prog w) A (handedOut v) Q E s' | _=>False) (λ_ _=>False) s):
  V8 (S5 prog w) A (getAttrBy (.ref x) (.str name tk) fill expr) Q E s:=by
 let hb:Looks (S5 prog w) s.heap (hookBefore (.ref C)) none:=looks_hook hK (by rw[mQ (by rfl)];exact G.gt);let ht:=I.type (M:=S5 prog w);unfold getAttrBy;refine pG (mC (ht _ _ _ _ (λ_ _ e=>e) (mC (looks_findIn hK G.ga _ _ _ _ (λ_ _ e=>e) ?_))));dsimp only;rw[show(onTheHeap (Value.ref C)&& Value.builtin "BaseException.__getattribute__" ==Value.builtin "object.__getattribute__")=false from by rw[show(Value.builtin "BaseException.__getattribute__" ==Value.builtin "object.__getattribute__")=false from by decide+kernel,tL],mK ∎];unfold getAttrByItsOwn;refine mC (hb _ _ _ _ (λ_ _ e=>e) (mC (wpAny_attempt (pG ?_))));unfold callGetattribute;rw[show(expr && onTheHeap (Value.builtin "BaseException.__getattribute__"))=false from tL _,mK ∎];unfold boundAndCalled;let FB:=PySem.F.attr_ValueError;rw[FB.ga.bind];refine mC (mN ?_);show V8 _ _ (call (.builtin "BaseException.__getattribute__") [.ref x, .str name tk]) _ _ _;refine sT ?_;refine tI FB.ga.plain PySem.F.entry_bexc_ga ?_;refine @check_slot (S5 prog w) _ _ s "BaseException.__getattribute__" "BaseException" "__getattribute__" (.ref x) [.str name tk] [] _ (by decide+kernel) (by decide+kernel) (ht.andThen (looks_mroIn hK G.bx)) (PySem.F.args_bexc_ga (.ref x) (.str name tk)) ?_;refine pO h (λfin s' z=>?_) λ_ _ z=>z.elim;rcases fin with(_ | _ | _ | _)| _<;>first | exact z | exact z.elim
theorem zLb(G:zBk K C):findObj K C od "__class__" =Y (.bind (.builtin "getset_descriptor.__get__") (.builtin "object.__class__")):=by
 obtain⟨cd,hc,_⟩:=any_some G.hd;unfold findObj;rw[hc,dH,G.cl,dH];simp[G.cg,G.ct]
theorem zMf{Q:Option V0->V2->Prop}(G:zBk K C)(hK:K.In s.heap)(I:InstAt s.heap x ox C od)(h:Q ↥(.ref C) {s with toks:=s.toks+1}):
  V8 (S5 prog w) A (getAttr? (.ref x) "__class__") Q E s:=by
 let hf:=zLb (od:=od) G;unfold getAttr? getAttrBy?;refine mC (wpAny_mkText (mC (wpAny_attempt (zXo (s:={s with toks:=s.toks+1}) G hK I ?_))));obtain⟨hh',g,d,t,os⟩:=s;let L0:=I.type (M:=S5 prog w);let L1:=looks_find (M:=S5 prog w) hK I hf;unfold Builtin.«object.__getattribute__»;refine mC (mN (mC (mN (mC (L0.at (mC (L1.at ?_)))))));show V8 _ _ (holding [Value.builtin "object.__class__"] (call (.builtin "getset_descriptor.__get__") [.builtin "object.__class__", .ref x, .ref C])>>=ret) _ _ _;refine mC (pG (sT (class_get (s:={hh',g,d,t+1,os}) hK I G.ob ?_)));refine mN ?_;show V8 _ _ (handedOut (.ref C)) _ _ _;rw[handedOut_of O];exact mN (mN h)
theorem zFq(G:zBk K C):KitX K (.ref x) (.ref C) (λh=>∃ox od,InstAt h x ox C od) where
 ty:=λ_ _ _ ⟨_,_,I⟩=>I.type
 it:=λ_ _ X _=>by
  obtain⟨cdD,hcD,_⟩:=any_some G.hd;unfold clsIn at hcD;split at hcD
  ·rename_i c' d' cd' sl' ho
   intro A' Q' E' s' k q;unfold isType loadHead;exact mC (wpAny_loadPart (k _ _ (X _ _ ho)) (mN q))
  ·cases hcD
 ne:=λh tp dd its n sl X htp=>by
  obtain⟨cdD,hcD,_⟩:=any_some G.hd;refine Bool.eq_false_iff.mpr λq=>?_;let e:C=tp:=Value.ref.inj (beq_iff_eq.mp q);subst e;unfold clsIn at hcD;split at hcD
  ·rename_i c' d' cd' sl' ho
   let z:=(X _ _ ho).symm.trans htp;cases z
  ·cases hcD
 ca:=λX ⟨_,_,I⟩ k=>zMf G X I k
end
section
variable{X:Cx}{pins:List (V1×Obj)}{σ:St}{H:Hp}{s:V2}{x C:V1}
def Caught(H:Hp)(x C:V1):Prop:=H x=Y (exF x C none)\/∃d fs,H x=Y (exF x C ↥d)/\H d=Y (.xd fs)
theorem Caught.inst(h:Caught H x C)(I:Inv X pins σ H s):∃ob od,InstAt s.heap x ob C od:=by
 rcases h with h |⟨d,fs,h,hd⟩
 ·obtain⟨ob,vs,e1,e2,e3,e4⟩:=(I.hok x _ h).1
  refine{ob,none,{e1,e2, ?_,by rw[e3];trivial}};unfold notCls;rw[e4]
 ·obtain⟨ob,od,J,_⟩:=zSk I h hd
  exact{ob,Y od,J}
theorem zIv:wH X (.builtin "isinstance") (λvs H Q=>∃x C D b,vs= [.ref x, .ref D]/\Caught H x C/\zBk X.K C/\kitOne X.K (.ref C) (.ref D)=Y b/\Q (.bl b) H):=by
 intro pins s σ H xs us Q I r h;obtain⟨x,C,D,b,rfl,hc,G,hk,q⟩:=h;obtain⟨u,w',rfl,ru,rw'⟩:=uZ r;cases (show u=Value.ref x from ru);cases (show w'=Value.ref D from rw');obtain⟨ob,od,J⟩:=hc.inst I;exact kia_one (zFq G) I.kIn ⟨ob,od,J⟩ hk (by intro z;cases z) λtk=>{.bl b,H,I.tok _,O,q}
end
section
variable{X:Cx}
end
end L2
namespace L2
open PySem PySem.Spec PyProof.Rows
section
variable{X:Cx}{T id:String}{name:Str}{r:V->List V->Hp->VK->Prop}{o e:Expr}{es:List Expr}{to:TE}{t:TA}{apos cpos:Pos}
end
section
variable{X:Cx}
def zYm:R2:=λx y H Q=>∃z n,x= .str z/\y= .int n/\z...*<=100/\0<=n/\n<=10000/\Q (.str (tx (List.replicate n.toNat (ts z)).flatten)) H
theorem zCh:OpR X (binaryOp .Mult) zYm:=by
 intro pins s σ H x y v u Q I rx ry h;obtain⟨z,n,rfl,rfl,hz,h0,h1,q⟩:=h;obtain⟨t,rfl⟩:=rx;obtain⟨t',rfl⟩:=ry;refine SB.mul {by rw[nG ∅,nG ∅];rfl,λa _ b=>?_,λa _=>?_} λt' k=>{.str (Txt.mul z n),H,I.tok _,⟨_,O⟩,by rw[zRq];exact q}
 ·let h2:(922337203685477:Int)<=(2 ^ 63 - 1:Int)/ n:=Int.le_ediv_of_mul_le ∅ ∅
  lia
 ·unfold PySem.Builtin.Str.tooLong
  let e:z...**n.toNat<=100*10000:=Nat.mul_le_mul hz ∅;exact nG (by rw[mS];lia)
end
def ItD(lo:Int)(n:Nat):It:={λi _=>i<n,λi H x H'=>H'=H/\x= .int (lo - i),λi _=>n<=i}
theorem zPi{P:V3}{w:V4}{K:PySem.W.Frag}{tg:Expr}(it:V1)(lo:Int)(n:Nat):zIb P w K tg (ItD lo n) [it] it (λi h=>IsRangeIter h it (lo+(i:Nat)*(-1)) ((n:Int)- (i:Nat)) (-1)) where
 mem:=by simp
 obj:=λi h st b hb=>by
  let e:b=it:=by simpa using hb
  subst e;exact{_,st,λv z=>by
   let z':Data.fields _=Data.cell v:=z;cases z'}
 keep:=λi h h' st k=>k it (by simp) _ st
 item:=by
  intro X hP hw hK hc i pins s σ H E I hf st hg;subst hP hw hK;refine yO (hf it (by simp)) λf0 f1 f2 f3 f4 f5=>?_;let W:=Walks.range (prog:=X.prog) (w:=X.w) (I.ok.hd hc) it lo (-1) n;refine W.item i s _ _ hg st λv h' tk hv st' kk=>?_;obtain⟨t,rfl⟩:=hv;let I1:Inv X pins σ H {s with heap:=h',toks:=tk}:=I.turned (λb o hb e=>kk b o (by simpa using hb) e) f0 f1 f3 f4 f5;refine{_,O,zIz (s:={s with heap:=h',toks:=tk}) (n:="range_iterator") st' O O ∎ {.int (lo - i),H,I1,{t, ?_},⟨O,O⟩,st',λb hb=>(hf b hb).1}};let e:lo+((i:Nat):Int)*(-1)=lo - i:=by lia
  rw[e]
 done:=by
  intro X hP hw hK hc i pins s σ H E I hf st hg;subst hP hw hK;refine yO (hf it (by simp)) λf0 f1 f2 f3 f4 f5=>?_;exact wpAny_pyNext_range_end (I.ok.hd hc) st (by let:n<=i:=hg;lia) λh' eb=>{O,I.turned (t':=s.toks) (λb o hb e=>eb b o hb e) f0 f1 f3 f4 f5}
 self:=λ_ _ _ _ _ st h=>wpAny_pyIter_rangeiter st h
theorem uA(lo:Int)(h: -1<=lo):S4 lo (-1) (-1)=lo+1:=by
 unfold S4;simp
 lia
theorem zLo{lo:Int}(h0: -1<=lo)(h1:lo<1000):Builtin.Range.small lo (-1) (-1)=true:=by
 unfold Builtin.Range.small;rw[uA lo h0];simp[Builtin.Range.rangeFitsLong]
 lia
section
variable{X:Cx}{tg:Expr}
def zYq(ta:TA):TI:=λσ H R=>ta σ H λvs H1=>∃i:Int,vs= [.int i, .int (-1), .int (-1)]/\-1<=i/\i<1000/\R (ItD i (i+1).toNat) H1
theorem zXh{a b c:Expr}{ta:TA}{p pos:Pos}(hg:Gl X "range")(hm:X.mg "range" =none)(ha:PA X [a,b,c] ta)(hs:A2 [a,b,c] X.env= [(false,eval a X.env),(false,eval b X.env),(false,eval c X.env)]:=by rfl)(hs2:A2 [b,c] X.env= [(false,eval b X.env),(false,eval c X.env)]:=by rfl):
  PI X tg (.Call (.Name "range" p) [a,b,c] [] pos) (zYq ta):=by
 intro pins s σ H R I h;refine Call_ (zAm I hg hm boot_range (sU (thn (ha pos pins s σ H _ I h) λus s1 ⟨vs,H1,I1,r1,q1⟩=>?_) (by rw[hs,hs2]) (by rw[hs2];rfl)));ext zBb q1 i e h0 h1 q;subst e
 cases r1 with
 | cons r rr=>
  cases rr with
  | cons r' rr=>
   cases rr with
   | cons r2 rr=>
    cases rr;obtain⟨t,rfl⟩:=r;obtain⟨t',rfl⟩:=r';obtain⟨t2,rfl⟩:=r2;refine call_range_3 ∎ ?_ (nU (PyProof.noPylong_small ∅));refine wpAny_pyIter_range (IsRange.new ..) (zLo h0 h1) ?_;let I2:Inv X pins σ H1 {s1 with heap:=s1.heap.push {cls:=.type "range",data:=.fields #[.int i t, .int (-1) t', .int (-1) t2]},toks:=s1.toks}:=I1.kept λb o e=>mJ _ e;refine⟨(s1.heap.push {cls:=.type "range",data:=.fields #[.int i t, .int (-1) t', .int (-1) t2]}).objs.size,[(s1.heap.push {cls:=.type "range",data:=.fields #[.int i t, .int (-1) t', .int (-1) t2]}).objs.size],_,_,H1,rfl,
     I2.kept (t':=s1.toks) λb o e=>mJ _ e,zPi _ i (i+1).toNat, ?_,λb hb=>?_,q⟩
    ·let e1:i+((0:Nat):Int)*(-1)=i:=by simp
     let e2:((((i+1).toNat:Nat):Int))- ((0:Nat):Int)=S4 i (-1) (-1):=by rw[uA i h0];lia
     show IsRangeIter _ _ (i+((0:Nat):Int)*(-1)) ((((i+1).toNat:Nat):Int)- ((0:Nat):Int)) (-1);rw[e1,e2];exact nM _ O
    ·let e:b=(s1.heap.push {cls:=.type "range",data:=.fields #[.int i t, .int (-1) t', .int (-1) t2]}).objs.size:=by simpa using hb
     subst e;exact I2.fpOk (mE _) (I2.hok.fresh (mE _))
theorem zQq{lo:Int}{n:Nat}{g:TG}{tb:TS}{D:jL}{σ:St}{H:Hp}(Pv:Nat->St->Hp->Prop)(h0:Pv 0 σ H)
  (hs:∀i σ H,i<n->Pv i σ H->g (.int (lo - i)) σ H λσ2 H2=>tb {D with nx:=Pv (i+1),ct:=Pv (i+1),bk:=D.nx} σ2 H2) (hd:∀σ H,Pv n σ H->D.nx σ H):zVc g tb D σ (ItD lo n) H:=by
 refine{λi m σ H=>m=n - i/\i<=n/\Pv i σ H,{n,by simp,nS _,h0}, ?_};rintro i m σ H ⟨rfl,hi,p⟩
 by_cases hlt:i<n
 ·refine .inr {hlt,Pv (i+1),λσ' H' p'=>{n - (i+1),∅,O,hlt,p'},λx H' y=>?_}
  obtain⟨e,y⟩:=y;subst e y;exact hs i σ _ hlt p
 ·let e:i=n:=by lia
  subst e;exact .inl {mE _,hd σ H p}
theorem zIi:wH X (.type "dict") (λxs H Q=>∃p kvs,xs= [.ref p]/\H p=Y (.dK kvs)/\∀l,H l=none->Q (.ref l) (upd H l (.dK kvs))):=by
 intro pins s σ H xs us Q I r h;ext yM h p kvs r2_ hq q;subst r2_;obtain⟨u,rfl,rx⟩:=qJ r;cases rx;obtain⟨z,hd,vs,rel,dd⟩:=I.hok p _ hq;let hl:=rel...*;refine kt_call_dict hd dd ∅ λh' dd' hs=>?_;let hlt:(s⁻¹==A4)=false:=by
  let:=I.big;exact rE.mpr (rF this)
 refine{.ref s⁻¹,_,I.laid (t':=s.toks) (h':=h') (λb o e=>?_) (mE _) (o:=.dK kvs) ⟨z,hlt,vs,rel,dd'⟩,O,q _ (I.hok.fresh (mE _))};let hb:b≠s⁻¹:=nQ (nB e);rw[hs.2 b hb];exact mJ _ e
end
theorem FunD.okx{P:V3}{w:V4}{K:A6}{mg:Str->Option V0}{base:V5}{x qual:Str}{st:V6}{f:V1}{fd:V7}{N ps:List Str}{k:Nat}{sp:Sp}(F:FunD K x qual st f fd)(S:zS N ps (zK st))(len:∀vs H Q E,sp vs H Q E->vs...*=ps...*)
  (hbody:∀(cdv:V0)(A:Around)(outer:List S7)(s:V2)(H:Hp)(vs:List V)(Q:VK)(E:XK),Room k (A.deeper (envOfC qual (zK st) s⁻¹ f cdv))->sp vs H Q E->
   ∃t,PSs (zCj (CXE φ P w) P w K mg base N qual (zK st) f cdv A outer s H E) (xJ st) t/\t {nx:=λ_ H'=>Q .non H',rt:=Q} (jO N vs) H):FnOk P w K mg base (CXE φ P w) (k+1) f fd ps sp:=by
 obtain⟨oc,od,dV,kV,doc,pm,an,cdv,ct,osl,rfl,lk,hcd⟩:=F.ex;exact zOe lk hcd S len λA outer s H vs Q E hr hsp=>hbody cdv A outer s H vs Q E hr hsp
structure Ddx(φ:V0->Prop)(P:V3)(w:V4)(K:A6)(mg:Str->Option V0)(base:V5)(k:Nat)(x:Str)(ps:List Str)(dvs:List V)(sp:Sp):Prop where
 ex:∃(f:V1)(fd:V7)(ds:List V0),FnOk P w K mg base (CXE φ P w) k f fd ps sp/\Binds K fd ps ds/\Vals dvs ds/\A7 K (.ref f)=true/\mg x=Y (.ref f)
section
variable{X:Cx}{k j:Nat}{x:Str}{ps:List Str}{dvs:List V}{sp:Sp}{e:Expr}{es:List Expr}{t:TA}{p pos:Pos}{E:XK}
end
theorem Reps.set{H:Hp}{v:V}{t:T}(hv:Rep H v t):∀{xs:List V}{us:List T}(i:Nat),Reps H xs us->Reps H (xs.set i v) (us.set i t)
 | _,[],i,h=>by
  let e:_= []:=h;subst e;exact O
 | _,u::us,0,⟨x,r,e,h1,h2⟩=>by subst e;exact⟨v,r,O,hv,h2⟩
 | _,u::us,i+1,⟨x,r,e,h1,h2⟩=>by subst e;exact{x,_,O,h1,Reps.set hv i h2}
section
variable{X:Cx}
def rIns:V->List V->Hp->VK->Prop:=λx vs H Q=>∃l xs i y,x= .ref l/\vs= [.int i,y]/\H l=Y (.lst xs)/\0<=i/\i<=(xs...*:Int)/\xs...*<V9/\xs...*<=100000/\Q .non (upd H l (.lst (xs.take i.toNat++y::xs.drop i.toNat)))
theorem zPs:MtM X "list.insert" rIns:=by
 intro pins s σ H x vs v us Q I rx rv h;ext yV h l xs i y r4_ z_;ext yO z_ r5_ hH h0 h1 hz z_;ext oA z_ h5 q;subst r4_ r5_;cases rx;refine yM (rv.two) λu w r2_ ru rw'=>?_;subst r2_;obtain⟨t,rfl⟩:=ru;obtain⟨z,its,n,r,hl,e⟩:=I.lstM hH;let hfit:¬(!Builtin.List.listFitsIndex i)=true:=by
  rw[fitsIndex_both ∅ ∅];decide
 refine tY F.slot_list_insert ⟨_,e,O⟩ F.entry_list_insert (F.args_list_insert_3 _ _ _) (AutoSeq1.list_insert_list_int_val_1 l its.toArray n i t w hfit (by rw[mY];lia)) {e, ?_};refine{.non,_,I.lset (its':=its.take i.toNat++w::its.drop i.toNat) hH e ?_ ((r.take _).append (.cons rw' (r.drop _))) ?_,O,q}
 ·let hk:(if i<0 then(i+(its.toArray.size:Int)).toNat else min i.toNat its.toArray.size)=i.toNat:=by
   rw[mK ∅,mY]
   lia
  show(its.toArray.extract 0 (if i<0 then(i+(its.toArray.size:Int)).toNat else min i.toNat its.toArray.size)).push w++its.toArray.extract (if i<0 then(i+(its.toArray.size:Int)).toNat else min i.toNat its.toArray.size)=_;rw[hk];apply Array.ext';simp;exact sA (by rw[rN];exact mE _)
 ·rw[mM,mW,sE,rN]
  lia
end
section
variable{X:Cx}{tg:Expr}
end
theorem zXt{X:Cx}{K:A6}(h:X.K=K):SlR X (zYw K):=by subst h;exact zNr
theorem zTf{X:Cx}{K:A6}(h:X.K=K):OpR X (binaryOp .Add) (zYz K):=by subst h;exact zNi
theorem qM{X:Cx}{K:A6}(h:X.K=K):wH X (.type "list") (λxs H Q=>∃p ys,xs= [.ref p]/\(SqL K H p ys\/SqT K H p ys)/\∀l,H l=none->Q (.ref l) (upd H l (.lst ys))):=by subst h;exact kS
theorem zOy{X:Cx}{K:A6}(h:X.K=K):wH X (.type "tuple") (λxs H Q=>∃p ys,xs= [.ref p]/\((SqL K H p ys/\∀l,H l=none->Q (.ref l) (upd H l (.tup ys)))\/(SqT K H p ys/\Q (.ref p) H))):=by subst h;exact uV
theorem zFa{a b:TS}{D:jL}{σ:St}{H:Hp}(h:∀R:TS,R=b->jR a R D σ H):jR a b D σ H:=h b O
theorem zLh{a b c:TS}{D:jL}{σ:St}{H:Hp}(h:∀R:TS,R=c->jR a (jR b R) D σ H):jR a (jR b c) D σ H:=h c O
theorem cut6{a b c d e f g:TS}{D:jL}{σ:St}{H:Hp}(h:∀R:TS,R=g->jR a (jR b (jR c (jR d (jR e (jR f R))))) D σ H):jR a (jR b (jR c (jR d (jR e (jR f g))))) D σ H:=h g O
end L2
namespace L2
open PySem PySem.Spec PyProof.Rows PySem.W
def PEat(X:Cx)(σ:St)(e:Expr)(t:TE):Prop:=
 ∀(pins:List (V1×Obj))(s:V2)(H:Hp)(Q:VK),Inv X pins σ H s->t σ H Q->V8 (S5 X.prog X.w) X.A (eval e X.env) (EP X pins σ Q) X.xe s
def PSat(X:Cx)(σ:St)(st:List V6)(t:TS):Prop:=
 ∀(pins:List (V1×Obj))(s:V2)(H:Hp)(D:jL),Inv X pins σ H s->t D σ H->V8 (S5 X.prog X.w) X.A (execs st X.env) (SP X pins D) X.xe s
def zEm(CX:CXT)(X:Cx)(σ:St)(E:XK):Prop:=∀(pins:List (V1×Obj))(H:Hp)(s:V2)(e:V0)(s':V2),Inv X pins σ H s->CX X.stack H s E e s'->X.xe e s'
section
variable{X:Cx}{CX:CXT}{k j:Nat}{f:V1}{fd:V7}{ps:List Str}{sp:Sp}{dvs:List V}{ds:List V0}{E:XK}{x:Str}{p pos:Pos}{e:Expr}{es:List Expr}{t:TA}{te:TE}{σ:St}
theorem zSb{pins:List (V1×Obj)}{H:Hp}{s:V2}{Q:VK}{us:List V0}{vs:List V}(F:FnOk X.prog X.w X.K X.mg X.base CX k f fd ps sp)(hr:Room k X.A)(hb:Binds X.K fd ps ds)(hd:Vals dvs ds)(hx:zEm CX X σ E)
  (I:Inv X pins σ H s) (r:Vals vs us) (h:sp (vs++dvs) H Q E):V8 (S5 X.prog X.w) X.A (call (.ref f) us) (EP X pins σ Q) X.xe s:=by
 let r2:Vals (vs++dvs) (us++ds):=r.append hd;let hl:(us++ds)...*=ps...*:=by rw[<-r2...*];exact F.len _ _ _ _ h
 refine sT (sJ (F.run X.A X.stack s H {us,[]} (us++ds) (vs++dvs) Q E hr I.env0 (hb s us I.kIn hl) r2 h) λr s' hq=>?_)
 cases r with
 | error e=>exact hx pins H s e s' I hq
 | ok fl=>
  cases fl with
  | ret u=>exact I.after hq
  | next=>exact False.elim hq
  | brk=>exact False.elim hq
  | cont=>exact False.elim hq
theorem zZs{φ:V0->Prop}(D:Dx φ X.prog X.w X.K X.mg X.base k x ps sp)(hr:Room j X.A)(hj:k<=j)(hg:Gl X x)(l:zEm (CXE φ X.prog X.w) X σ E)(ha:PA X (e::es) t)(hdb:(x==("__debug__" :Str))=false:=by decide)
  (he:A2 (e::es) X.env=(false,eval e X.env)::A2 es X.env:=by rfl) (hpl:(S2 pos (A2 es X.env)).any (·.1)=false:=by rfl):PEat X σ (.Call (.Name x p) (e::es) [] pos) (jV sp [] E t):=by
 obtain⟨f,fd,h1,h2,h3,h4⟩:=D.ex;intro pins s H Q I h;refine rH (vX I hg h4 ?_ hdb);refine PySem.W.callWith_K (h₀:=X.base) I.ok.mod.kin h3 (thn (ha pos pins s σ H _ I h) λus s1 ⟨vs,H1,I1,r,q⟩=>{I1.kIn, ?_}) he hpl;exact zSb h1 (hr.mono hj) h2 .nil l I1 r q
theorem zUi(he:PEat X σ e te):PSat X σ [.Return ↥e pos] (zHr te):=by
 intro pins s H D I h;exact bO (wpAny_Return_some (thn (he pins s H _ I h) λv s1 ⟨x,H1,I1,r1,q1⟩=>⟨x,σ,H1,I1,r1,q1⟩))
end
section
variable{X:Cx}{B:V1}{bn:Str}{body suite:List V6}{b₀:V6}{bp hp pos:Pos}{tb:XK->TS}{ts:TS}{φ:V0->Prop}
end
end L2
namespace L2
open PySem PySem.Spec PyProof.Rows PySem.W
end L2
namespace L2
open PySem PySem.Spec PyProof.Rows PySem.W
theorem zEy:entryFor table "proto.unchain" =some Builtin.«proto.unchain»:=entryFor_of_fast (by kernel_rfl)
section
variable{prog:V3}{w:V4}{A:Around}{E:V0->V2->Prop}{s:V2}{env:S7}{e h:V1}{oh oe:Obj}{vh ve:Array V0}
theorem zLn{α:Type}{Q:α->V2->Prop}(hh:A.handled=Y (.ref h))(ne:h≠e)(h1:s.heap.get? h=Y oh)(h2:oh.data= .fields vh)(h3:vh[2]? =some .none)(e1:s.heap.get? e=Y oe)(e2:oe.data= .fields ve)(hs:2<ve.size)
  (q:E (.ref e) {s with heap:=s.heap.update e (Obj.mapFields λxs=>xs.setIfInBounds 2 (.ref h))}):V8 (S5 prog w) A (raiseNew (.ref e):Sem α) Q E s:=by
 unfold raiseNew;refine mC (wpAny_handled ?_);rw[hh];dsimp only;rw[mQ (by
  refine bne_iff_ne.mpr λz=>ne ?_;cases z;rfl)]
 refine mC (pG (runValue_entry zEy ?_));unfold Builtin.«proto.unchain»;dsimp only;refine mC (rG h1 h2 h3 ?_);rw[mQ (by rfl)];refine mN {_,O, ?_};refine mC (sF e1 e2 hs ?_);exact wpAny_throw q
theorem XObj.cls{nm:Str}{C N:V1}{bm:List V0}{o:Obj}(h:XObj nm C N bm o):∃c,o.data= .cls c:=by
 obtain⟨q',bs,hdct,sn,sub,ab,col,dd,k0,k1,k2,k3,k5,rfl⟩:=h;exact⟨_,O⟩
theorem zIx{nm:Str}{C N:V1}{bm:List V0}{m:String}{oC:Obj}{Q:V0->V2->Prop}(hb:bm.contains (.type "BaseException")=true)(hC:s.heap.get? C=Y oC)(hX:XObj nm C N bm oC)(he:s.heap.get? e=Y oe)(hcl:oe.cls= .ref C)(hd:oe.data= .fields ve)
  (q:Q (.ref e) s):V8 (S5 prog w) A (excFromValue (.ref e) m) Q E s:=by
 obtain⟨q',bs,hdct,sn,sub,ab,col,dd,k0,k1,k2,k3,k5,rfl⟩:=hX;let hnc:∀c:ClassData,oe.data≠ .cls c:=λc z=>by rw[hd] at z;cases z
 unfold excFromValue isExcClass;refine mC (mC (aR he hnc ?_));rw[mK nF];refine mN ?_;rw[mK nF];unfold PySem.isInstance;refine mC (mC (rL he ?_));rw[hcl];refine cI hC ?_;rw[show(Value.ref C::bm).contains (Value.type "BaseException")=true by
  rw[sG,hb,tQ],mQ O]
 exact mN q
theorem zMe{nm nmb:Str}{C N B Nb:V1}{bm bmb:List V0}{x c:Sem V0}{Q:Flow->V2->Prop}(hb:bm.contains (.type "BaseException")=true)(hbb:bmb.contains (.type "BaseException")=true)(hh:A.handled=Y (.ref h))
  (H:V8 (S5 prog w) A x (λv s1=>V8 (S5 prog w) A c (λu s2=>∃(e:V1)(oe oC oh oB:Obj)(vs vh:Array V0),v= .ref e/\u= .ref h/\s2.heap.get? C=Y oC/\XObj nm C N bm oC/\s2.heap.get? B=Y oB/\XObj nmb B Nb bmb oB/\s2.heap.get? e=Y oe/\oe.cls= .ref C/\oe.data= .fields vs/\vs.size=6/\vs[1]? =some .none/\
   h≠e/\s2.heap.get? h=Y oh/\oh.cls= .ref B/\oh.data= .fields vh/\vh[2]? =some .none/\
   ∀h' vs',h'.get? e=some {oe with data:=.fields vs'}->(∀b,b≠e->h'.get? b=s2.heap.get? b)->vs'.size=6->vs'[1]? =some .none->E (.ref e) {s2 with heap:=h'}) E s1) E s):
  V8 (S5 prog w) A (raiseStmt env ↥x ↥c) Q E s:=by
 unfold raiseStmt;refine mC (thn H λv s1 H1=>?_);refine mC (pG (thn H1 λu s2 ⟨e,oe,oC,oh,oB,vs,vh,ev,eu,hC,hX,hB,hY,he,hcl,hd,h6,h1,ne,hh1,hhc,hhd,hh2,q⟩=>?_));subst ev eu;refine mC (mN ?_);refine mC (pG (zIx hb hC hX he hcl hd ?_));dsimp only;rw[mK (by intro z;cases z)];refine mC (pG (zIx hbb hB hY hh1 hhc hhd ?_));let nC:C≠e:=λz=>by
  obtain⟨c,hc⟩:=hX.cls;rw[z,he] at hC;cases hC;rw[hd] at hc;cases hc
 let g3:=kU he hd 3 (.ref h);let o3:∀b,b≠e->(s2.heap.update e (Obj.mapFields λxs=>xs.setIfInBounds 3 (.ref h))).get? b=s2.heap.get? b:=λb hb=>mX _ _ (Ne.symm hb);refine mC (sF he hd ∅ ?_);generalize s2.heap.update e (Obj.mapFields λxs=>xs.setIfInBounds 3 (.ref h))=k3 at g3 o3⊢;let g4:=kU g3 O 4 (.bool true);let o4:∀b,b≠e->(k3.update e (Obj.mapFields λxs=>xs.setIfInBounds 4 (.bool true))).get? b=s2.heap.get? b:=λb hb=>(mX _ _ (Ne.symm hb)).trans (o3 b hb);refine mC (sF g3 O (by rw[sL];lia) ?_);generalize k3.update e (Obj.mapFields λxs=>xs.setIfInBounds 4 (.bool true))=k4 at g4 o4⊢;dsimp only at g4⊢;let hnc:∀c:ClassData,({oe with data:=.fields ((vs.setIfInBounds 3 (.ref h)).setIfInBounds 4 (.bool true))}:Obj).data≠ .cls c:=λc z=>nomatch z;refine mC (aR g4 hnc ?_);rw[mK nF];obtain⟨q',bs,hdct,sn,sub,ab,col,dd,k0,k1,k2,k3',k5,rfl⟩:=hX;let hC4:=(o4 C nC).trans hC;unfold raisedInstance;refine mC (mC (rL g4 ?_));rw[hcl];refine mC (rL hC4 ?_);rw[mQ (by rfl)];refine mN ?_;let f1:((vs.setIfInBounds 3 (.ref h)).setIfInBounds 4 (.bool true))[1]? =Y Value.none:=by
  rw[pU ∎,pU ∎];exact h1
 let fz:((vs.setIfInBounds 3 (.ref h)).setIfInBounds 4 (.bool true)).size=6:=by
  rw[sL,sL];exact h6
 refine mC ?_;unfold setFlight;refine mC (rG g4 O f1 ?_);rw[mK (by intro z;cases z)];refine mN ?_;refine zLn hh ne ((o4 h ne).trans hh1) hhd hh2 g4 O (by rw[fz];decide) ?_;refine q _ _ (kU g4 O 2 (.ref h)) (λb hb=>(mX _ _ (Ne.symm hb)).trans (o4 b hb)) ?_ ?_
 ·rw[sL];exact fz
 ·rw[pU ∎];exact f1
end
end L2
namespace L2
open PySem PySem.Spec PyProof.Rows PySem.W
theorem RoomH.make{k:Nat}{A:Around}(r:RoomH (k+1) A)(C:V1)(us:List V0)(kw:List (Str×V0)):RoomH k (A.under (.builtin "type.__call__" {.ref C::us,kw})):=
 {by let:=r.dp;rw[zDr];lia,by let:=r.un;rw[zEp];lia}
section
variable{X:Cx}{C B fI:V1}{nm f:Str}{k:Nat}{fd:V7}{ps:List Str}
theorem zUf{o value:Expr}{pos' pos:Pos}{tv ta:TE}(c:zBy X.K nm C B fI)(hfl:findIn X.K (.ref C) f=Y none)(hv:PE X value tv)(ha:PE X o ta)(hs:S1 value ↥(.Attribute o f pos') pos.line X.env=pure false:=by rfl):PS X (.Assign [.Attribute o f pos'] value pos) (zYo C f tv ta):=by
 intro pins s σ H D I h;refine bW (thn (hv pins s σ H _ I h) λu s1 ⟨y,H1,I1,ry,q⟩=>thn (ha pins s1 σ H1 _ I1 q) λov s2 ⟨z,H2,I2,rx,x,ez,hH,q2⟩=>?_) hs;subst ez;obtain rfl:ov=Value.ref x:=rx;obtain⟨vs,he,h6,h1,h2⟩:=zAc I2 hH;obtain⟨cd,hc,hm,hd⟩:=c.cd;refine zYr I2.kIn hc hm hd he O (λ_ z=>by cases z) O c.set hfl λh' t' g1 g2 g3=>?_;let hfr:H2 s2⁻¹=none:=I2.fresh;let hne:s2⁻¹≠x:=λz=>by rw[z,hH] at hfr;cases hfr
 let hmu:Mut (H2 x):=by rw[hH];exact mI
 let u1:Un X.fs [] H2 (upd H2 x (exO x C ↥s2⁻¹)) s2.heap h':=Un.write (e:=x) hmu (.inl O) g3 ⟨_,g1⟩;let k1:HOk X.prog X.w (upd H2 x (exO x C ↥s2⁻¹)) h':=I2.hok.write (e:=x) hmu (.inl O) g3 ⟨_,g1⟩ (zBo g1 h6 h1 h2);refine{σ,_,I2.un (t':=t') (u1.also (a:=s2⁻¹) (o:=.xd [(f,y)]) (mE _) hfr) (k1.also (by rw[zM hne];exact hfr) ?_),q2 _ hfr};refine{_,g2,λg=>?_};show RelO (List.lookup g [(f,y)]) _;rw[rO,List.lookup_nil]
 by_cases z:g=f
 ·subst z
  rw[mQ O,bR];exact ry
 ·rw[mK z,show(g==f)=false from rE.mpr z]
  trivial
def zMn(C:V1)(f:Str):Sp:=λvs H Q _=>∃x v0 v,vs= [.ref x,v0,v]/\H x=Y (exO x C none)/\∀d,H d=none->Q .non (upd (upd H x (exO x C ↥d)) d (.xd [(f,v)]))
theorem zQj{pins:List (V1×Obj)}{σ:St}{H:Hp}{s:V2}{Qx:V0->V2->Prop}{EE:V0->V2->Prop}{us:List V0}{v0 v:V}(c:zBy X.K nm C B fI)(F:zJa X.prog X.w X.K X.mg X.base k fI fd ps (zMn C f))(hr:RoomH (k+1) X.A)(hb:Binds X.K fd ps [])(I:Inv X pins σ H s)(r:Vals [v0,v] us)
  (q:∀x d s',X.s₀.heap.get? x=none->s.heap.get? x=none->H x=none->H d=none->d≠x->Inv X pins σ (upd (upd H x (exO x C ↥d)) d (.xd [(f,v)])) s'->Qx (.ref x) s'):V8 (S5 X.prog X.w) X.A (call (.ref C) us) Qx EE s:=by
 obtain⟨N,o,lk,hX⟩:=c.obj;let hus:us...*<=100:=by rw[<-r...*];show(2:Nat)<=100;decide
 let hx0:X.s₀.heap.get? (s⁻¹+1)=none:=rJ (pC I.sz (pR _));let hxs:s.heap.get? (s⁻¹+1)=none:=rJ (pR _);let hHx:H (s⁻¹+1)=none:=I.hok.fresh (pR _);let he:((s.heap.push {cls:=.type "tuple",data:=.seq us.toArray}).push (jH C s⁻¹)).get? (s⁻¹+1)=Y (jH C s⁻¹):=by
  rw[<-(tM .. :(s.heap.push {cls:=.type "tuple",data:=.seq us.toArray}).objs.size=s⁻¹+1)];exact nM _ O
 let I2:=I.laid (t':=s.toks) (a:=s⁻¹+1) (o:=exO (s⁻¹+1) C none) (h':=(s.heap.push {cls:=.type "tuple",data:=.seq us.toArray}).push (jH C s⁻¹)) (λb ob e=>mJ _ (mJ _ e)) (pR _) (zBo he O O O);let r2:Vals [V.ref (s⁻¹+1),v0,v] (Value.ref (s⁻¹+1)::us):=.cons O r;let hsp:zMn C f [V.ref (s⁻¹+1),v0,v] (upd H (s⁻¹+1) (exO (s⁻¹+1) C none)) (λu H2=>u= .non/\∃d,H d=none/\d≠s⁻¹+1/\H2=upd (upd H (s⁻¹+1) (exO (s⁻¹+1) C ↥d)) d (.xd [(f,v)])) E0:=by
  refine{_,v0,v,O,zB,λd hd=>{O,d, ?_}};let hne:d≠s⁻¹+1:=λz=>by rw[z,zB] at hd;cases hd
  rw[zM hne] at hd;exact{hd,hne,by rw[zGo]}
 let hl:((Value.ref (s⁻¹+1)::us)++ [])...*=ps...*:=by
  rw[pQ,<-r2...*];exact F.len _ _ _ _ hsp
 let hbt:=hb _ (Value.ref (s⁻¹+1)::us) I2.kIn hl;rw[pQ] at hbt;let run:=F.run _ X.stack _ _ {Value.ref (s⁻¹+1)::us,[]} (Value.ref (s⁻¹+1)::us) _ _ E0 (hr.make C us []) (I2.env0.make C us []) hbt r2 hsp;let I1:=I;obtain⟨h,g,dr,t,os⟩:=s;refine sT (zSz I1.kIn lk hX c.tl c.init c.fn hus (sJ run λr s' hq'=>?_))
 cases r with
 | error e=>exact False.elim hq'
 | ok fl=>
  cases fl with
  | ret u=>
   obtain⟨v',H',I3,rv,ev,d,hd,hne,rfl⟩:=I2.after hq';subst ev;exact{rv,q _ d s' hx0 hxs hHx hd hne I3}
  | next=>exact False.elim hq'
  | brk=>exact False.elim hq'
  | cont=>exact False.elim hq'
end
end L2
namespace L2
open PySem PySem.Spec PyProof.Rows PySem.W
def nC(v:V0):Prop:=v= .none
def aC(_:V0):Prop:=True
section
variable{X:Cx}{pins:List (V1×Obj)}{σ:St}{H:Hp}{s:V2}{x C:V1}{d:Option V1}{φ:V0->Prop}{vs:Array V0}{a0:V0}{ψ:V5->Prop}{EE:V0->V2->Prop}
theorem zYa{Q:Unit->V2->Prop}(I:Inv X pins σ H s)(hs:X.stack=X.env::X.outer)(hf:X.env.frame=Y X.env.locals)(hex:X.ex= [])(hH:H x=Y (.ext ψ))(hx0:X.s₀.heap.get? x=none)(he:s.heap.get? x=some {cls:=.ref C,dict:=d,data:=.fields vs})(h0:vs[0]? =Y a0)(h1:vs[1]? =some .none)(hcx:∃cx,vs[2]? =Y cx/\φ cx)
  (q:∀T h1,Inv X pins σ (drp H x) {s with heap:=h1}->Fl φ h1 x T (.ref C) d a0 (rawInt X.env.locals)->X.s₀.heap.get? T=none->drp H x T=none->x∉frs X.stack->T∉frs X.stack->Q () {s with heap:=h1}):
  V8 (S5 X.prog X.w) X.A (noteFrame (.ref x) X.env) Q EE s:=by
 let hfs:frs X.stack=X.env.locals::X.fs:=by
  rw[hs];unfold frs;rw[pW,hf];rfl
 let hfr:=I.ok.frames;rw[hs] at hfr;let nx:x∉frs X.stack:=λz=>by
  let:=I.stkFree x z;rw[hH] at this;cases this
 let st:=I.stack;let nx':=nx;rw[hs] at nx' st;refine zJe (φ:=φ) hfr st hf he nx' O h0 h1 hcx λh1 T1 f1 k1 n1=>?_;rw[<-hs] at k1;let hbase:=I.base;rw[hex] at hbase;let hT1H:H T1=none:=by
  cases e:H T1 with
  | none=>rfl
  | some o=>
   obtain⟨ob,hob⟩:=i5 (I.hok T1 o e);rw[n1] at hob;cases hob
 let hT1o:X.s₀.heap.get? T1=none:=by
  cases e:X.s₀.heap.get? T1 with
  | none=>rfl
  | some o=>
   obtain⟨o',e'⟩:=hbase.there T1 o e (λz=>nomatch z);rw[n1] at e';cases e'
 let nT:T1∉frs X.stack:=λz=>by
  obtain⟨o,e,_⟩:=gB I.stack T1 z;rw[n1] at e;cases e
 let ne:∀b o,H b=Y o->(∀φ,o≠ .ext φ)->b≠x:=λb o e n z=>by
  subst z;rw[hH] at e;exact n _ (mR e).symm
 let dn:∀b,H b=none->drp H x b=none:=λb e=>by
  unfold drp;split
  ·rfl
  ·exact e
 let nx1:∀b,H b=none->b∉ [x]:=λb n z=>by
  rw[mG.mp z,hH] at n;cases n
 let ok1:HOk X.prog X.w (drp H x) s.heap:=λb o e=>by
  by_cases z:b=x
  ·subst z;rw[gZ] at e;cases e
  ·rw[vP z] at e
   exact(I.hok b o e).stay (λ_ _ _ q=>q) (λc q=>by rw[vP (ne c _ q λ_ y=>nomatch y)];exact q) λc xs q=>by rw[vP (ne c _ q λ_ y=>nomatch y)];exact q
 let un:Un (frs X.stack) [] H (drp H x) s.heap h1:={λb o e n hf _=>k1.keep b o e hf (nx1 b n),λb o e n hf _=>k1.slot b o e hf (nx1 b n),λb o e n _=>dn b n,λb o e _=>by
   by_cases z:b=x
   ·obtain⟨oe,_,_,_,e1,_⟩:=f1
    rw[z];exact⟨oe,e1⟩
   ·let z':b∉ [x]:=λy=>z (mG.mp y)
    by_cases hf:b∈frs X.stack
    ·obtain⟨sl,e2⟩:=k1.slot b o e hf z'
     exact⟨_,e2⟩
    ·exact⟨o,k1.keep b o e hf z'⟩,
  λb xs e=>by rw[vP (ne b _ e λ_ y=>nomatch y)];exact e,
  λb ob xs e=>by rw[vP (ne b _ e λ_ y=>nomatch y)];exact e,
  λb ps e=>{#[],by rw[Array.append_empty,vP (ne b _ e λ_ y=>nomatch y)];exact e}}
 let I1:Inv X pins σ (drp H x) {s with heap:=h1}:=I.call' (s':={s with heap:=h1}) O un (jP ok1 k1 (λb hb=>dn b (I.stkFree b hb)) λb hb=>by rw[mG.mp hb];exact gZ) I.bare (λb z=>nomatch z);exact q T1 h1 I1 f1 hT1o (dn _ hT1H) nx nT
theorem CXF.of{E:XK}{T:V1}{Cv f:V0}(I:Inv X pins σ H s)(hex:X.ex= [])(F:Fl φ s.heap x T Cv d a0 f)(hx0:X.s₀.heap.get? x=none)(hT0:X.s₀.heap.get? T=none)(hHx:H x=none)(hHT:H T=none)(nx:x∉frs X.stack)(nT:T∉frs X.stack)(q:E Cv d H):CXF φ X E [] (.ref x) s:=by
 let hb:=I.base;rw[hex] at hb;exact{x,T,Cv,d,a0,f,H,O,I.os,I.bare,hb,I.hok,hx0,hT0,hHx,hHT,F,q,I.stack,I.stkFree,nx,nT,λc hc=>nomatch hc}
theorem Fl.same{h h':V5}{T a:V1}{Cv f:V0}(F:Fl φ h x T Cv d a0 f)(hx:x≠a)(hT:T≠a)(k:Heap.SameBut a h h'):Fl φ h' x T Cv d a0 f:=by
 obtain⟨oe,vs,oT,ts,e1,e2,e3,e4,e5,e6,e7,e8,r⟩:=F;exact{oe,vs,oT,ts,(k.2 _ hx).trans e1,e2,e3,e4,e5,e6,e7,(k.2 _ hT).trans e8,r}
theorem CXF.has{E:XK}{cs:List V1}{e:V0}(h:CXF φ X E cs e s):∃a oe vs T,e= .ref a/\s.heap.get? a=Y oe/\oe.data= .fields vs/\vs[1]? =Y (.ref T):=by
 obtain⟨x,T,C,d,a0,f,H',rfl,os,bare,un,hok,hx0,hT0,hHx,hHT,fl,q,_⟩:=h;obtain⟨oe,vs,oT,ts,e1,e2,e3,e4,e5,e6,r⟩:=fl;exact⟨x,oe,vs,T,O,e1,e4,e6⟩
theorem r6{E:XK}{e:V0}{W:V0->V2->Prop}(ok:X.Ok)(hs:X.stack=X.env::X.outer)(hf:X.env.frame=Y X.env.locals)(h:CXF φ X E [] e s)(q:∀s',CXF φ X E [] e s'->W e s'):cameBackBy (S5 X.prog X.w) X.A X.env W e s:=by
 obtain⟨a,oe,vs,T,rfl,e1,e4,e6⟩:=h.has;show V8 _ _ _ _ _ _;refine mC (rG e1 e4 e6 ?_);rw[mK (by intro z;cases z)];exact thn (l4 ok hs hf h) λ_ s' h'=>q s' h'
end
end L2
namespace L2
open PySem PySem.Spec PyProof.Rows PySem.W
noncomputable def exG(x C:V1)(d:Option V1):HO:=.ext λh=>∃(ob:Obj)(vs:Array V0),h.get? x=Y ob/\ob.cls= .ref C/\ob.dict=d/\ob.data= .fields vs/\vs[2]? =some .none
theorem yAa{P:V3}{w:V4}{H:Hp}{h:V5}{x C:V1}{d:Option V1}{ob:Obj}{vs:Array V0}(e:h.get? x=Y ob)(h1:ob.cls= .ref C)(h2:ob.dict=d)(h3:ob.data= .fields vs)(h4:vs[2]? =some .none):ObjOk P w H h x (exG x C d):=
 {⟨ob,vs,e,h1,h2,h3,h4⟩,⟨_,e⟩,λ_ _ ⟨ob,vs,e,a⟩ k=>{ob,vs,k _ e,a}}
noncomputable def exK(x C:V1)(d:Option V1):HO:=.ext λh=>∃vs:Array V0,h.get? x=some {cls:=.ref C,dict:=d,data:=.fields vs}/\vs.size=6/\vs[1]? =some .none
theorem yCc{P:V3}{w:V4}{H:Hp}{h:V5}{x C:V1}{d:Option V1}{vs:Array V0}(e:h.get? x=some {cls:=.ref C,dict:=d,data:=.fields vs})(h6:vs.size=6)(h1:vs[1]? =some .none):ObjOk P w H h x (exK x C d):=
 {⟨vs,e,h6,h1⟩,⟨_,e⟩,λ_ _ ⟨vs,e,a⟩ k=>{vs,k _ e,a}}
structure Xh(P:V3)(w:V4)(K:Frag)(mg:Str->Option V0)(base:V5)(k:Nat)(cn:Str)(C:V1)(f:Str):Prop where
 ex:∃(nm:Str)(B fI:V1)(fd:V7)(ps:List Str),zBy K nm C B fI/\zJa P w K mg base k fI fd ps (zMn C f)/\Binds K fd ps []/\mg cn=Y (.ref C)
structure Xb(K:Frag)(mg:Str->Option V0)(bn:Str)(B:V1):Prop where
 ex:∃(nm:Str)(BB fB:V1),zBy K nm B BB fB/\mg bn=Y (.ref B)/\exmOne K (.ref B) (.ref B)=Y true
def zMp(B C:V1)(i:Nat)(f:Str)(ta:TA)(E:XK)(σ:St):XK:=λCv d H2=>Cv= .ref B/\∀x,H2 x=none->ta (σ.set i ↥(.ref x)) (upd H2 x (exG x B d)) λvs H3=>H3 x=Y (exG x B d)/\∃v0 v,vs= [v0,v]/\∀d2,H3 d2=none->E (.ref C) ↥d2 (upd H3 d2 (.xd [(f,v)]))
def zId(B C:V1)(i:Nat)(f:Str)(ta:TA)(E:XK)(tb:XK->TS):TS:=λD σ H=>tb (zMp B C i f ta E σ) D σ H
section
variable{X:Cx}{B C:V1}{bn cn n f:Str}{i j k:Nat}{body:List V6}{bp hp pos p np cpos rpos:Pos}{e:Expr}{es:List Expr}{tb:XK->TS}{ta:TA}{E:XK}{φ:V0->Prop}
theorem zPn{H:Hp}{x d:V1}{o o' u:HO}(hx:H x=none)(hd:d≠x):drp (upd (upd (upd H x o) d u) x o') x=upd H d u:=by
 funext b
 by_cases z:b=x
 ·subst z
  rw[gZ,zM (Ne.symm hd),hx]
 ·rw[vP z,zM z]
  by_cases y:b=d
  ·subst y;rw[zB,zB]
  ·rw[zM y,zM z,zM y]
theorem zMg(R:Xh X.prog X.w X.K X.mg X.base k cn C f)(RB:Xb X.K X.mg bn B)(hr:Room j X.A)(hj:k+1<=j)(hgC:Gl X cn)(hgB:Gl X bn)(hN:X.N.Nodup)(hi:X.N[i]? =Y n)(hl:X.env.scope.names.lookup n=some .local)(hv:Vis X.env.scope n)(l:Lvs φ X E)(hφ:∀v,φ v)
  (hb:∀pins W E' σ,zEm (CXE nC X.prog X.w) (X.pend pins W) σ E'->PSat (X.pend pins W) σ body (tb E')) (ha:∀v,PA (X.mark v) (e::es) ta)
  (hdB:(bn==("__debug__" :Str))=false:=by decide) (hdC:(cn==("__debug__" :Str))=false:=by decide) (hdn:(n==("__debug__" :Str))=false:=by decide) (hcn:(n==("__classdict__" :Str))=false:=by decide)
  (he:A2 (e::es) X.env=(false,eval e X.env)::A2 es X.env:=by rfl) (hpl:(S2 cpos (A2 es X.env)).any (·.1)=false:=by rfl):
  PS X (.Try body [.ExceptHandler ↥(.Name bn bp) ↥n [.Raise ↥(.Call (.Name cn p) (e::es) [] cpos) ↥(.Name n np) rpos] hp] [] [] pos) (zId B C i f ta E tb):=by
 intro pins s σ H D I h;obtain⟨hstk,hf,hex,hn0,hxe⟩:=l;obtain⟨nmB,BB,fB,cB,hmB,hexm⟩:=RB.ex;obtain⟨nm,BC,fI,fd,ps,cC,FI,hbd,hmC⟩:=R.ex;refine dI ?_;let J:=hb pins (λe s'=>∃H1 s1,Inv X pins σ H1 s1/\CXE nC X.prog X.w X.stack H1 s1 (zMp B C i f ta E σ) e s') (zMp B C i f ta E σ) σ
  (λpins' H' s1 e s' I1 hx=>{H',s1,I1.unpend I.ok,hx}) [] s H D I.pend h
 refine pO J (λf s1 q=>?_) λe s1 ⟨H0,s0,I0,hx⟩=>?_
 ·cases f with
  | next=>obtain⟨σ',H',I',q⟩:=q;exact sY {σ',H',I'.unpend I.ok,q}
  | brk=>obtain⟨σ',H',I',q⟩:=q;exact{σ',H',I'.unpend I.ok,q}
  | cont=>obtain⟨σ',H',I',q⟩:=q;exact{σ',H',I'.unpend I.ok,q}
  | ret u=>obtain⟨v,σ',H',I',r,q⟩:=q;exact{v,σ',H',I'.unpend I.ok,r,q}
 obtain⟨x,T,Cv,d,a0,H',rfl,os,bare,un,hok,hx0,hT0,hHx,hHT,fl,rfl,q⟩:=hx;let I2:Inv X pins σ H' s1:=I0.call' os un hok bare (λb z=>absurd z (by simp));let nfr:∀b,s0.heap.get? b=none->b∉frs X.stack:=λb hb z=>by
  obtain⟨o,e,_⟩:=gB I0.stack b z;rw[hb] at e;cases e
 let hfr:=I0.ok.frames;let nx:=nfr x hx0;let nT:=nfr T hT0;let st:=I2.stack;rw[hstk] at hfr;let nx':=nx;let nT':=nT;rw[hstk] at nx' nT' st;refine zCy hfr st hf nx' nT' fl λh1 T1 f1 k1 n1=>?_;refine wR f1 λh2 f2 k2=>?_;rw[<-hstk] at k1;let hT1H:H' T1=none:=by
  cases e:H' T1 with
  | none=>rfl
  | some o=>
   obtain⟨ob,hob⟩:=i5 (I2.hok T1 o e);rw[n1] at hob;cases hob
 let hT10:s0.heap.get? T1=none:=by
  cases e:s0.heap.get? T1 with
  | none=>rfl
  | some o=>
   obtain⟨o',e'⟩:=un.there T1 o e (λz=>nomatch z);rw[n1] at e';cases e'
 let k3:Kp (frs X.stack) [x,T,T1] s1.heap h2:=k1.trans (vD k2 λb hb=>nomatch hb) λc hc=>by
  rcases hc with z | z
  ·rcases mD.mp z with z | z
   ·rw[z];simp
   ·rw[mG.mp z];simp
  ·rw[mG.mp z.1];simp
 let all0:∀b∈ [x,T,T1],s0.heap.get? b=none/\H' b=none:=λb hb=>by
  rcases mD.mp hb with z | z
  ·rw[z];exact⟨hx0,hHx⟩
  ·rcases mD.mp z with z | z
   ·rw[z];exact⟨hT0,hHT⟩
   ·rw[mG.mp z];exact⟨hT10,hT1H⟩
 let I3:Inv X pins σ H' {s1 with heap:=h2}:=I0.call' (s':={s1 with heap:=h2}) os (uY un k3 λb hb=>(all0 b hb).1) (jP hok k3 I2.stkFree λb hb=>(all0 b hb).2) bare (λb z=>absurd z (by simp));let LT:Looks (S5 X.prog X.w) h2 (typeOf (.ref x)) (.ref B):=by
  obtain⟨oe,vs,oT,ts',e1,e2,_⟩:=f2;exact e2▸(Looks.ld e1).andThen .now
 refine aW (aM ?_) (by intro z;cases z);refine vX (X:=X.mark (.ref x)) (I3.mark) hgB hmB ?_ hdB;refine exm_one (M:=S5 X.prog X.w) I3.kIn LT hexm _ _ _ {s1 with heap:=h2} (λ_ _ e=>e) ?_;refine bB ?_;refine wR f2 λh3 f3 k4=>?_;let k5:Kp (frs X.stack) [x,T,T1] s1.heap h3:=k3.trans (vD k4 λb hb=>nomatch hb) λc hc=>by
  rcases hc with z | z
  ·exact z
  ·rw[mG.mp z.1];simp
 let I4:Inv X pins σ H' {s1 with heap:=h3}:=I0.call' (s':={s1 with heap:=h3}) os (uY un k5 λb hb=>(all0 b hb).1) (jP hok k5 I2.stkFree λb hb=>(all0 b hb).2) bare (λb z=>absurd z (by simp));let hxs:X.s₀.heap.get? x=none:=by
  cases e:X.s₀.heap.get? x with
  | none=>rfl
  | some o=>
   obtain⟨o',e'⟩:=I0.base.there x o e (by rw[hex];exact λz=>nomatch z);rw[hx0] at e';cases e'
 obtain⟨oe,vs,oT,ts',e1,e2,e3,e4,_,_,_,_,_,_,cx,hcx,ecx⟩:=f3;let I5:Inv X pins σ (upd H' x (exG x B d)) {s1 with heap:=h3}:=by
  refine I4.track hHx hxs (λz=>?_) (λy c e z=>?_) (λp hp z=>?_) (yAa e1 e2 e3 e4 (hcx.trans (by rw[show cx=Value.none from ecx])))
  ·obtain⟨m,⟨o,_,_,ho,_⟩,_⟩:=I0.loc
   rw[<-z,hx0] at ho;cases ho
  ·obtain⟨v,o,ho,_⟩:=I0.cell y c e
   rw[z,hx0] at ho;cases ho
  ·let ho:=(I0.pin p hp).1
   rw[z,hx0] at ho;cases ho
 refine kJ (v:=.ref x) I5 hN hi (.inl hl) O (λs4 I7=>?_) (.inr hl);let hq:=q x hHx;refine bO ?_;rw[arm_exec_Raise];refine mC (sC ?_);show V8 _ _ (raiseStmt X.env ↥(do let v <-eval (.Call (.Name cn p) (e::es) [] cpos) X.env;S0 rpos;pure v) ↥(do let v <-eval (.Name n np) X.env;S0 rpos;pure v)) _ _ _;obtain⟨N,o,lk,hX⟩:=cC.obj;obtain⟨NB,oB,lkB,hXB⟩:=cB.obj;let hbe:∀b:V0,(b::veMro).contains (Value.type "BaseException")=true:=λb=>by rw[sG,show veMro.contains (.type "BaseException")=true by decide,tQ]
 refine zMe (h:=x) (nm:=nm) (C:=C) (N:=N) (bm:=.ref BC::veMro) (B:=B) (nmb:=nmB) (Nb:=NB) (bmb:=.ref BB::veMro) (hbe _) (hbe _) O (mC ?_);refine rH (vX (X:=X.mark (.ref x)) I7.mark hgC hmC ?_ hdC);refine callWith_K (h₀:=X.base) I7.ok.mod.kin cC.kp (pO (ha (.ref x) cpos pins s4 _ _ _ I7.mark hq) (λus s5 ⟨vs5,H5,I9,r5,hx5,v0,v,ev,q5⟩=>{I9.kIn, ?_}) λ_ _ z=>False.elim z) he hpl;subst ev;refine zQj (X:=X.mark (.ref x)) cC FI ((hr.h (v:=Y (.ref x))).mono hj) hbd I9 r5 λx2 d2 s6 hx20 hx2s hx2H hd2 hne I10=>?_;refine mC (sC (mN ?_));let hxx:x≠x2:=λz=>by rw[<-z,hx5] at hx2H;cases hx2H
 let hxd:x≠d2:=λz=>by rw[<-z,hx5] at hd2;cases hd2
 let hiσ:i<σ...*:=by rw[I.len];exact(mO.mp hi).1
 let hvar:vY i (σ.set i ↥(V.ref x)) (upd (upd H5 x2 (exO x2 C ↥d2)) d2 (.xd [(f,v)])) λy H11=>y= .ref x/\H11=upd (upd H5 x2 (exO x2 C ↥d2)) d2 (.xd [(f,v)]):=
  by unfold vY;rw[aB hiσ];exact⟨O,O⟩
 refine mC (pO (zUd (X:=X.mark (.ref x)) hi hv hdn hcn pins s6 _ _ _ I10 hvar) (λu s7 ⟨y,H11,I11,ry,ey,eH⟩=>?_) λ_ _ z=>False.elim z);subst ey eH;obtain rfl:u=Value.ref x:=ry;refine mC (sC (mN ?_));let hH2:upd (upd H5 x2 (exO x2 C ↥d2)) d2 (.xd [(f,v)]) x2=Y (exO x2 C ↥d2):=by rw[zM (Ne.symm hne),zB]
 let hHx':upd (upd H5 x2 (exO x2 C ↥d2)) d2 (.xd [(f,v)]) x=Y (exG x B d):=by rw[zM hxd,zM hxx];exact hx5
 obtain⟨ve,g0,h6,g1,g2⟩:=zAc I11 hH2;obtain⟨⟨ob,vh,b1,b2,b3,b4,b5⟩,_⟩:=I11.hok x _ hHx';refine{x2,_,o,ob,oB,ve,vh,O,O,I11.kIn _ _ lk,hX,I11.kIn _ _ lkB,hXB,g0,O,O,h6,g1,hxx,b1,b2,b4,b5,λh' vs' c1 c2 c3 c4=>?_};let I12:Inv (X.mark (.ref x)) pins (σ.set i ↥(V.ref x)) (upd (upd (upd H5 x2 (exO x2 C ↥d2)) d2 (.xd [(f,v)])) x2 (exK x2 C ↥d2)) {s7 with heap:=h'}:=
  Inv.write (t':=s7.toks) I11 (e:=x2) (by rw[hH2];exact mI) (.inl O) (λb ob hb e=>(c2 b hb).trans e) ⟨_,c1⟩ (yCc c1 c3 c4)
 obtain⟨a1,h0⟩:∃a1,vs'[0]? =Y a1:={_,pJ.mpr {∅,O}};obtain⟨cx2,hcx2⟩:∃a1,vs'[2]? =Y a1:={_,pJ.mpr {∅,O}};refine zYa (X:=X.mark (.ref x)) (φ:=φ) I12 hstk hf hex (show _=Y (HO.ext _) from zB) hx20 c1 h0 c4 {cx2,hcx2,hφ _} λT2 h4 I13 F13 hT20 hT2H nx2 nT2=>?_;rw[zPn hx2H hne] at I13 hT2H;let hfs:frs X.stack=X.env.locals::X.fs:=by
  rw[hstk];unfold frs;rw[pW,hf];rfl
 let nl:∀b,b∉frs X.stack->b≠X.env.locals:=λb hb z=>hb (by rw[hfs,z];exact mF);let hcls:(X.env.scope.kind== .class ||(X.env.scope.kind== .module && X.env.locals !=X.env.globals))=false:=by rw[I.ok.kind];rfl
 obtain⟨m,hn,_⟩:=I13.loc;refine sH hl hn hcls λh5 m' hn' hs'=>?_;let I14:=(I13.unmark I.ok).wiped (t':=s7.toks+1) hn' hs';let hd2x:upd H5 d2 (.xd [(f,v)]) x2=none:=by rw[zM (Ne.symm hne)];exact hx2H
 let F14:=F13.same (nl _ nx2) (nl _ nT2) hs';let c14:CXF φ X E [] (.ref x2) {s7 with heap:=h5,toks:=s7.toks+1}:=CXF.of I14 hex F14 hx20 hT20 hd2x hT2H nx2 nT2 (q5 d2 hd2);unfold PySem.passOn;obtain⟨a2,oe2,vs2,T3,ea,y1,y2,y3⟩:=c14.has;cases ea;refine mC (rG y1 y2 y3 ?_);rw[mK (by intro z;cases z)];let okm:(X.mark (.ref x)).Ok:=I.ok.mark;refine mC (thn (l4 (X:=X.mark (.ref x)) okm hstk hf c14) λ_ s8 c15=>?_);refine wpAny_throw ?_;refine thn (m7 (X:=X.mark (.ref x)) okm hstk hf c15 O) λ_ s9 c16=>?_;exact r6 (X:=X) I.ok hstk hf c16 λs10 c17=>hxe _ _ (n9 I.ok hstk hf c17)
end
end L2
namespace L2
open PySem PySem.Spec PyProof.Rows PySem.W
theorem yDa{P:V3}{w:V4}{K:PySem.W.Frag}{mg:Str->Option V0}{base:V5}{k:Nat}{f:V1}{name qual:Str}{params:Arguments}{body:List V6}{scope:Scope}{dV kV doc pm cdv ct oc:V0}{an od:Option V1}
  {osl:Array (Option V0)} {N ps:List Str} {sp:Sp} (lk:K.lookup f=Y {oc,od, .func (PySem.W.fnOf name qual params body scope dV kV doc pm an cdv ct),osl}) (hcd:PySem.W.codeIn K cdv qual=true) (S:zS N ps scope)
  (len:∀vs H Q E,sp vs H Q E->vs...*=ps...*)
  (hbody:∀(A:Around)(outer:List S7)(s:V2)(H:Hp)(vs:List V)(Q:VK)(E:XK),RoomH k (A.deeper (envOfC qual scope s⁻¹ f cdv))->sp vs H Q E->
   ∃t,PSs (cxH P w K mg base N qual scope f cdv A outer s H) body t/\t {nx:=λ_ H'=>Q .non H',rt:=Q} (jO N vs) H):
  zJa P w K mg base (k+1) f (PySem.W.fnOf name qual params body scope dV kV doc pm an cdv ct) ps sp:=by
 refine{len,λA outer s H args us vs Q E hr e0 hb r hsp=>?_};let hl:=len _ _ _ _ hsp;let KX:K.In s.heap:=e0.mod.kin.keeps λb o e=>(e0.bs b o e).1;let lim:s.heap.NoLimit:=e0.mod.nolimit.keeps λb o e=>(e0.bs b o e).1;let hkind:∀y∈ps.zip us,scope.names.lookup y.1=some .local\/(scope.names.lookup y.1=some .cell/\((cellsFrom (s⁻¹+1) scope.names []).lookup y.1).isSome=true):=fun⟨n,v⟩ hy=>by
  rcases S.par n (bY hy).1 with q | q
  ·exact .inl q
  ·exact .inr {q,PySem.W.cellsFrom_some _ _ _ (.inl q)}
 refine codeAny_call_function hr.depth (KX _ _ lk) O S.co S.gen O (PySem.W.codeRec_of KX hcd) (hb _ _ _ _ ?_);refine wpAny_newFunctionEnv_cells S.kind hkind λenv he s1 x=>?_;subst he;refine{lim.keeps x.toInCall.keep,codeAny_func ?_};obtain⟨t,ht,hq⟩:=hbody A outer s H vs Q E (hr.deeper _) hsp;let e0':Env0 P w K mg base {A with handled:=none} outer s H:=⟨e0.frames,e0.mod,e0.bs,e0.bsz,e0.funs,e0.frf,e0.hok,e0.bare⟩;let I0:Inv (zCj CX0 P w K mg base N qual scope f cdv {A with handled:=none} outer s H E0) [] (jO N vs) H s1:=zGe S O e0' hl r x;let ok:=I0.ok;let I:Inv (cxH P w K mg base N qual scope f cdv A outer s H) [] (jO N vs) H s1:=
  {{ok.mod,ok.kind,ok.glob,ok.blt,ok.above,ok.inj,ok.has,ok.cab,(λz=>nomatch z),ok.frames,ok.stk,ok.exf,ok.bs,ok.bsz,ok.noex,ok.exfs,ok.funs,ok.frf},I0.os,I0.bare,I0.base,I0.loc,I0.cell,I0.free,I0.freeC,I0.pin,I0.hok,I0.len}
 refine pO (ht [] s1 (jO N vs) H _ I hq) (λfl s' hs=>?_) λe s' hs=>False.elim hs;let fin:∀{σ':St}{H':Hp}{v:V}{u:V0},Inv (cxH P w K mg base N qual scope f cdv A outer s H) [] σ' H' s'->RelV v u->Q v H'->CE outer P w H s Q u s':=
  λ{σ' H' v u} J rv q=>⟨v,H',J.os,J.bare,J.base,J.hok,rv,q⟩
 cases fl with
 | ret u=>
  obtain⟨v,σ',H',J,rv,q⟩:=hs;exact fin J rv q
 | next=>
  obtain⟨σ',H',J,q⟩:=hs;exact fin (v:=V.non) (u:=Value.none) J O q
 | brk=>
  obtain⟨_,_,_,q⟩:=hs;exact False.elim q
 | cont=>
  obtain⟨_,_,_,q⟩:=hs;exact False.elim q
end L2
namespace L2
open PySem PySem.Spec PyProof.Rows PySem.W
section
variable{X:Cx}{B1 B2:V1}{bn1 bn2 n1 n2:Str}{i1 i2:Nat}{body su1 su2:List V6}{b1 b2:V6}{bp1 bp2 hp1 hp2 pos:Pos}{tb:XK->TS}{ts1 ts2:TS}{φ:V0->Prop}
def yAj(len:Nat)(D:jL):jL:={D with nx:=λ_ H'=>D.nx (List.replicate len none) H',bk:=λ_ H'=>D.bk (List.replicate len none) H',ct:=λ_ H'=>D.ct (List.replicate len none) H'}
def zSd(K:Frag)(B1 B2:V1)(i1 i2 len:Nat)(ts1 ts2:TS)(D:jL):XK:=λC d H2=>∃Ca,C= .ref Ca/\
  ((exmOne K (.ref Ca) (.ref B1)=Y true/\∀x,H2 x=none->ts1 (yAj len D) ((List.replicate len none).set i1 ↥(.ref x)) (upd H2 x (exF x Ca d)))\/
   (exmOne K (.ref Ca) (.ref B1)=Y false/\exmOne K (.ref Ca) (.ref B2)=Y true/\∀x,H2 x=none->ts2 (yAj len D) ((List.replicate len none).set i2 ↥(.ref x)) (upd H2 x (exF x Ca d))))
def zZf(K:Frag)(B1 B2:V1)(i1 i2 len:Nat)(tb:XK->TS)(ts1 ts2:TS):TS:=λD σ H=>tb (zSd K B1 B2 i1 i2 len ts1 ts2 D) D σ H
theorem zXx(hcalm:X.calm=true)(hg1:Gl X bn1)(hm1:X.mg bn1=Y (.ref B1))(hg2:Gl X bn2)(hm2:X.mg bn2=Y (.ref B2))(hN:X.N.Nodup)(hi1:X.N[i1]? =Y n1)(hl1:X.env.scope.names.lookup n1=some .local)(hi2:X.N[i2]? =Y n2)(hl2:X.env.scope.names.lookup n2=some .local)(hstk:X.stack=X.env::X.outer)(hf:X.env.frame=Y X.env.locals)(hex:X.ex= [])
  (hb:∀pins W E,uG (CXE φ X.prog X.w) (X.pend pins W) E->PSs (X.pend pins W) body (tb E)) (hs1:∀v,PSs (X.mark v) (b1::su1) ts1) (hs2:∀v,PSs (X.mark v) (b2::su2) ts2) (hd1:(bn1==("__debug__" :Str))=false:=by decide) (hd2:(bn2==("__debug__" :Str))=false:=by decide):
  PS X (.Try body [.ExceptHandler ↥(.Name bn1 bp1) ↥n1 (b1::su1) hp1, .ExceptHandler ↥(.Name bn2 bp2) ↥n2 (b2::su2) hp2] [] [] pos) (zZf X.K B1 B2 i1 i2 X.N...* tb ts1 ts2):=by
 intro pins s σ H D I h;refine dI ?_;let J:=hb pins (λe s'=>∃σ' H1 s1,Inv X pins σ' H1 s1/\CXE φ X.prog X.w X.stack H1 s1 (zSd X.K B1 B2 i1 i2 X.N...* ts1 ts2 D) e s') (zSd X.K B1 B2 i1 i2 X.N...* ts1 ts2 D)
  (λpins' σ' H' s1 e s' I1 hx=>{σ',H',s1,I1.unpend I.ok,hx}) [] s σ H D I.pend h
 refine pO J (λf s1 q=>?_) λe s1 ⟨σ',H0,s0,I0,hx⟩=>?_
 ·cases f with
  | next=>obtain⟨σ',H',I',q⟩:=q;exact sY {σ',H',I'.unpend I.ok,q}
  | brk=>obtain⟨σ',H',I',q⟩:=q;exact{σ',H',I'.unpend I.ok,q}
  | cont=>obtain⟨σ',H',I',q⟩:=q;exact{σ',H',I'.unpend I.ok,q}
  | ret u=>obtain⟨v,σ',H',I',r,q⟩:=q;exact{v,σ',H',I'.unpend I.ok,r,q}
 obtain⟨x,T,C,d,a0,H',rfl,os,bare,un,hok,hx0,hT0,hHx,hHT,fl,Ca,rfl,hcase⟩:=hx;let I2:Inv X pins σ' H' s1:=I0.call' os un hok bare (λb z=>absurd z (by simp));let nfr:∀b,s0.heap.get? b=none->b∉frs X.stack:=λb hb z=>by
  obtain⟨o,e,_⟩:=gB I0.stack b z;rw[hb] at e;cases e
 let hfr:=I0.ok.frames;let nx:=nfr x hx0;let nT:=nfr T hT0;let st:=I2.stack;rw[hstk] at hfr;let nx':=nx;let nT':=nT;rw[hstk] at nx' nT' st;refine zCy hfr st hf nx' nT' fl λh1 T1 f1 k1 n1=>?_;refine wR f1 λh2 f2 k2=>?_;rw[<-hstk] at k1;let hT1H:H' T1=none:=by
  cases e:H' T1 with
  | none=>rfl
  | some o=>
   obtain⟨ob,hob⟩:=i5 (I2.hok T1 o e);rw[n1] at hob;cases hob
 let hT10:s0.heap.get? T1=none:=by
  cases e:s0.heap.get? T1 with
  | none=>rfl
  | some o=>
   obtain⟨o',e'⟩:=un.there T1 o e (λz=>nomatch z);rw[n1] at e';cases e'
 let k3:Kp (frs X.stack) [x,T,T1] s1.heap h2:=k1.trans (vD k2 λb hb=>nomatch hb) λc hc=>by
  rcases hc with z | z
  ·rcases mD.mp z with z | z
   ·rw[z];simp
   ·rw[mG.mp z];simp
  ·rw[mG.mp z.1];simp
 let all0:∀b∈ [x,T,T1],s0.heap.get? b=none/\H' b=none:=λb hb=>by
  rcases mD.mp hb with z | z
  ·rw[z];exact⟨hx0,hHx⟩
  ·rcases mD.mp z with z | z
   ·rw[z];exact⟨hT0,hHT⟩
   ·rw[mG.mp z];exact⟨hT10,hT1H⟩
 let I3:Inv X pins σ' H' {s1 with heap:=h2}:=I0.call' (s':={s1 with heap:=h2}) os (uY un k3 λb hb=>(all0 b hb).1) (jP hok k3 I2.stkFree λb hb=>(all0 b hb).2) bare (λb z=>absurd z (by simp));let LT:Looks (S5 X.prog X.w) h2 (typeOf (.ref x)) (.ref Ca):=by
  obtain⟨oe,vs,oT,ts',e1,e2,_⟩:=f2;exact e2▸(Looks.ld e1).andThen .now
 let key:∀{bn n:Str}{B:V1}{i:Nat}{b₀:V6}{suite:List V6}{bp hp:Pos}{rest:List ExceptHandler}{ts:TS},Gl X bn->X.mg bn=Y (.ref B)->X.N[i]? =Y n->X.env.scope.names.lookup n=some .local->(∀v,PSs (X.mark v) (b₀::suite) ts)->(bn==("__debug__" :Str))=false->exmOne X.K (.ref Ca) (.ref B)=Y true->
   (∀x,H' x=none->ts (yAj X.N...* D) ((List.replicate X.N...* none).set i ↥(.ref x)) (upd H' x (exF x Ca d)))->
   V8 (S5 X.prog X.w) X.A (handleBy (.ref x) X.env (.ExceptHandler ↥(.Name bn bp) ↥n (b₀::suite) hp::rest)) (SP X pins D) X.xe {s1 with heap:=h2}:=λ{bn n B i b₀ suite bp hp rest ts} hgB hmB hi hl hsu hdb hexm q=>by
  refine aW (aM ?_) (by intro z;cases z);refine vX (X:=X.mark (.ref x)) (I3.mark) hgB hmB ?_ hdb;refine exm_one (M:=S5 X.prog X.w) I3.kIn LT hexm _ _ _ {s1 with heap:=h2} (λ_ _ e=>e) ?_;refine bB ?_;refine wR f2 λh3 f3 k4=>?_;let k5:Kp (frs X.stack) [x,T,T1] s1.heap h3:=k3.trans (vD k4 λb hb=>nomatch hb) λc hc=>by
   rcases hc with z | z
   ·exact z
   ·rw[mG.mp z.1];simp
  let I4:Inv X pins σ' H' {s1 with heap:=h3}:=I0.call' (s':={s1 with heap:=h3}) os (uY un k5 λb hb=>(all0 b hb).1) (jP hok k5 I2.stkFree λb hb=>(all0 b hb).2) bare (λb z=>absurd z (by simp));let hxs:X.s₀.heap.get? x=none:=by
   cases e:X.s₀.heap.get? x with
   | none=>rfl
   | some o=>
    obtain⟨o',e'⟩:=I0.base.there x o e (by rw[hex];exact λz=>nomatch z);rw[hx0] at e';cases e'
  obtain⟨oe,vs,oT,ts',e1,e2,e3,e4,_⟩:=f3;let I5:Inv X pins σ' (upd H' x (exF x Ca d)) {s1 with heap:=h3}:=by
   refine I4.track hHx hxs (λz=>?_) (λy c e z=>?_) (λp hp z=>?_) (zSm e1 e2 e3 e4)
   ·obtain⟨m,⟨o,_,_,ho,_⟩,_⟩:=I0.loc
    rw[<-z,hx0] at ho;cases ho
   ·obtain⟨v,o,ho,_⟩:=I0.cell y c e
    rw[z,hx0] at ho;cases ho
   ·let ho:=(I0.pin p hp).1
    rw[z,hx0] at ho;cases ho
  let I6:Inv X pins (List.replicate X.N...* none) (upd H' x (exF x Ca d)) {s1 with heap:=h3}:=I5.weak (by rw[rC,I5.len]) λj v' e=>by
   rw[tS] at e;split at e<;>cases e
  refine kJ (v:=.ref x) I6 hN hi (.inl hl) O (λs4 I7=>?_) (.inr hl);refine pO (hsu (.ref x) pins s4 _ _ _ I7.mark (q x hHx)) (λf s5 z=>?_) λ_ _ z=>False.elim z;let hcls:(X.env.scope.kind== .class ||(X.env.scope.kind== .module && X.env.locals !=X.env.globals))=false:=by rw[I.ok.kind];rfl
  cases f with
  | next=>
   obtain⟨σ5,H5,I8,q5⟩:=z;obtain⟨m,hn,_⟩:=I8.loc;exact sH hl hn hcls λh' m' hn' hs'=>{_,H5,(I8.unmark I.ok).wiped hn' hs',q5}
  | brk=>
   obtain⟨σ5,H5,I8,q5⟩:=z;obtain⟨m,hn,_⟩:=I8.loc;exact sH hl hn hcls λh' m' hn' hs'=>{_,H5,(I8.unmark I.ok).wiped hn' hs',q5}
  | cont=>
   obtain⟨σ5,H5,I8,q5⟩:=z;obtain⟨m,hn,_⟩:=I8.loc;exact sH hl hn hcls λh' m' hn' hs'=>{_,H5,(I8.unmark I.ok).wiped hn' hs',q5}
  | ret u=>
   obtain⟨v,σ5,H5,I8,r5,q5⟩:=z;obtain⟨m,hn,_⟩:=I8.loc;exact sH hl hn hcls λh' m' hn' hs'=>{v,_,H5,(I8.unmark I.ok).wiped hn' hs',r5,q5}
 rcases hcase with⟨hx1,q⟩|⟨hx1,hx2,q⟩
 ·exact key hg1 hm1 hi1 hl1 hs1 hd1 hx1 q
 ·refine aW (aM ?_) (by intro z;cases z)
  refine vX (X:=X.mark (.ref x)) (I3.mark) hg1 hm1 ?_ hd1;refine exm_one (M:=S5 X.prog X.w) I3.kIn LT hx1 _ _ _ {s1 with heap:=h2} (λ_ _ e=>e) ?_;exact key hg2 hm2 hi2 hl2 hs2 hd2 hx2 q
end
end L2
namespace L2
open PySem PySem.Spec PyProof.Rows
theorem pS{X:Cx}{pos pos':Pos}{x:Str}{e:Expr}{te:TE}(i:Nat)(hN:X.N.Nodup)(he:PE X e te)(hi:X.N[i]? =Y x:=by rfl)(hx:Loc X.env.scope x:=by exact nU O)(hs:S1 e ↥(.Name x pos') pos.line X.env=pure false:=by rfl)(hf:X.fn x=true\/X.env.scope.names.lookup x=some .local:=by first | exact .inl O | exact .inr O | assumption):PS X (.Assign [.Name x pos'] e pos) (zQp te (qV i)):=gY hN hi hx he hs hf
theorem pD{X:Cx}{k j:Nat}{x:Str}{ps:List Str}{sp:Sp}{e:Expr}{es:List Expr}{t:TA}{p pos:Pos}(D:Dn X.prog X.w X.K X.mg X.base k x ps sp)(hr:Room j X.A)(ha:PA X (e::es) t)(hj:k<=j:=by first | decide | lia)(hg:Gl X x:=by rfl)(hdb:(x==("__debug__" :Str))=false:=by decide)
  (he:A2 (e::es) X.env=(false,eval e X.env)::A2 es X.env:=by rfl) (hpl:(S2 pos (A2 es X.env)).any (·.1)=false:=by rfl):PE X (.Call (.Name x p) (e::es) [] pos) (jV sp [] E0 t):=zR D hr hj hg ha hdb he hpl
theorem pI{X:Cx}{x0 x:Str}{T:String}{e:Expr}{te:TE}{p p2 pos:Pos}(h0:X.mg x0=none)(b0:A1 x0=Y (.builtin "isinstance"))(hm:X.mg x=none)(hb:A1 x=Y (.type T))(he:PE X e te)(hT:T∈tyL:=by decide)(g1:Gl X x0:=by rfl)(g2:Gl X x:=by rfl)(hn0:x0≠ "__name__":=by decide)(hd0:(x0==("__debug__" :Str))=false:=by decide)(hn:x≠ "__name__":=by decide)(hd:(x==("__debug__" :Str))=false:=by decide)
  (h1:A2 [e, .Name x p2] X.env=(false,eval e X.env)::A2 [.Name x p2] X.env:=by rfl) (h2:(S2 pos (A2 [.Name x p2] X.env)).any (·.1)=false:=by rfl):PE X (.Call (.Name x0 p) [e, .Name x p2] [] pos) (tCB (λxs H Q=>∃x t,xs= [x, .ty T]/\tyS H x=Y t/\Q (.bl (yA t T)) H) (xH te (xH (tC (.ty T)) qW))):=
 zO (zDg hT) g1 h0 b0 (zA he (zA (xL (v:=.ty T) g2 hm hb O hn hd) zC) h1) hn0 hd0 h1 h2
theorem len1{α:Type}{us:List α}(h:us...*=1):∃a,us= [a]:=
 match us,h with
 | [a],_=>⟨a,O⟩
theorem len2{α:Type}{us:List α}(h:us...*=2):∃a b,us= [a,b]:=
 match us,h with
 | [a,b],_=>⟨a,b,O⟩
theorem len3{α:Type}{us:List α}(h:us...*=3):∃a b c,us= [a,b,c]:=
 match us,h with
 | [a,b,c],_=>⟨a,b,c,O⟩
theorem len4{α:Type}{us:List α}(h:us...*=4):∃a b c d,us= [a,b,c,d]:=
 match us,h with
 | [a,b,c,d],_=>⟨a,b,c,d,O⟩
end L2
section
open PySem L2
local macro_rules | `(tactic| walk_at "b0") => `(tactic| (intro _ _ _ _ _ _ us hl; cases List.eq_nil_of_length_eq_zero hl; rfl))
local macro_rules | `(tactic| walk_at "b1") => `(tactic| (intro _ _ _ _ _ _ us hl; obtain ⟨_,e⟩ := len1 hl; subst e; rfl))
local macro_rules | `(tactic| walk_at "b2") => `(tactic| (intro _ _ _ _ _ _ us hl; obtain ⟨_,_,e⟩ := len2 hl; subst e; rfl))
local macro_rules | `(tactic| walk_at "b3") => `(tactic| (intro _ _ _ _ _ _ us hl; obtain ⟨_,_,_,e⟩ := len3 hl; subst e; rfl))
local macro_rules | `(tactic| walk_at "b4") => `(tactic| (intro _ _ _ _ _ _ us hl; obtain ⟨_,_,_,_,e⟩ := len4 hl; subst e; rfl))
local macro_rules | `(tactic| walk_at "ln") => `(tactic| (intro vs H Q E h; repeat (first | (obtain ⟨e,_⟩ := h; subst e; rfl) | (obtain ⟨_,h⟩ := h))))
local macro_rules|`(tactic|walk_at "rd3")=>let a:Array Lean.Term:=(("zSp zJv zXj iZip tIsT zTy zDd yCv zRb zTk zUh zSt zIe zFo zUq zFi jR zNg zQp qV zHr zZg zYg zVm tOp tUn vY tC jV xH qW zNq tB yAt tOr zZt zSn yAc zYv tIf tCB tBM zFi zBe zRu zHj tSl zHh yAf zUc zQr zVi zOq zLr zKt rI0 rI rU rEq rNe zUt yCr zRm yCj zZw CMul yAw zXa List.getElem?_cons_zero List.getElem?_cons_succ List.set_cons_zero List.set_cons_succ List.map_cons List.map_nil List.length_cons List.length_nil Nat.reduceAdd Option.join_some Option.join_none".splitOn " ").map fun n=>⟨Lean.mkIdent n.toName⟩).toArray;`(tactic|first|(dsimp only [$[$a:term],*];try walk_at "rd3s")|walk_at "rd3s")
local macro_rules|`(tactic|walk_at "rd3s")=>let a:Array Lean.Term:=(("zSp zJv zXj iZip tIsT zTy zDd yCv zRb zTk zUh zSt zIe zFo zUq zFi yDg nox_K zRf jR zNg zQp qV zHr zZg zYg zVm tOp tUn vY tC jV xH qW zNq tB yAt tOr zZt zSn yAc zYv tIf tCB tBM zFi zBe zRu zHj tSl zHh yAf zUc zQr zVi zWg zOq zLr zKt rI0 rI rU rEq rNe zUt yCr zRm yCj zZw CMul yAw zXa List.append_nil List.getElem?_cons_zero List.getElem?_cons_succ List.set_cons_zero List.set_cons_succ List.map_cons List.map_nil List.length_cons List.length_nil sizeLine_eq Nat.reduceAdd Nat.reduceLeDiff Option.join_some Option.join_none Option.some.injEq V.int.injEq V.str.injEq V.bl.injEq V.ref.injEq V.ty.injEq List.cons.injEq and_true true_and and_self exists_eq_left' exists_eq_left exists_and_left exists_and_right decide_eq_true_eq Bool.not_eq_eq_eq_not Bool.not_true Bool.not_false decide_eq_false_iff_not Int.reduceLT Int.reduceLE Int.reduceNeg Int.reducePow Int.reduceAdd Int.reduceSub Int.reduceMul Int.reduceToNat zTs Nat.reduceLT Nat.reducePow or_true true_or if_true if_false Bool.false_eq_true ite_true ite_false reduceCtorEq".splitOn " ").map fun n=>⟨Lean.mkIdent n.toName⟩).toArray;`(tactic|simp only [$[$a:term],*])
local macro_rules | `(tactic| walk_at "sc") => `(tactic| exact ⟨rfl,rfl,rfl,by decide +kernel,rfl,by decide +kernel,by decide +kernel⟩)
local macro_rules | `(tactic| walk_at "st") => `(tactic| simp only [jO,List.map_cons,List.map_nil,List.length_cons,List.length_nil,Nat.reduceAdd,Nat.reduceSub,List.replicate_succ,List.replicate_zero,List.cons_append,List.nil_append])
local macro_rules | `(tactic| walk_at "wu") => `(tactic| with_unfolding_all rfl)
namespace K42
open PySem L2
seal L2.PSs L2.PS L2.PE L2.PT L2.PW L2.PA L2.PI L2.PG L2.PGs L2.PPs L2.PTs
def top(i:Nat):V6:=PySem.Challenge.pw_cabinet_k42_papers_done.main.body.getD i (.Pass {0,0,0,0})
abbrev zSv:V6:=top 42
abbrev yBv:V6:=top 46
noncomputable def vG(ns:List Int)(k:Int):Int:=
 let m:=if ns= [] then k*7919 else(k*7919+k / ns...**104729+ns.getD (k % ns...*).toNat 0*48271)% 1000003
 (m*m / 11+13*m)% 1000003
theorem wW(ns:List Int)(k:Int):0<=vG ns k:=rX _ ∎
theorem qH(ns:List Int)(k:Int):vG ns k<1000003:=rP _ ∎
def qE(K:A6):Sp:=λvs H Q _=>∃(a:V1)(ns:List Int)(k:Int),vs= [.ref a, .int k]/\SqL K H a (ns.map V.int)/\ns...*<=63/\0<=k/\k<1000000/\∀H',Same H H'->Q (.int (vG ns k)) H'
theorem zEa{K:A6}{H:Hp}{Q:VK}{E:XK}{a:V1}{ns:List Int}{k:Int}(hS:SqL K H a (ns.map V.int))(h63:ns...*<=63)(h0:0<=k)(h1:k<1000000)(q:∀H',Same H H'->Q (.int (vG ns k)) H'):
  qE K [.ref a, .int k] H Q E:=⟨a,ns,k,O,hS,h63,h0,h1,q⟩
section
variable{P:V3}{w:V4}{K:A6}{mg:Str->Option V0}{base:V5}{f:V1}{fd:V7}
theorem scCell:zS ["_law_script","_law_k","_law_more"] ["_law_script","_law_k"] (zK zSv):=by walk_at "sc"
theorem zXk(F:Fun K "_law_cell" "_law_cell" zSv f fd)(B:Bl mg):FnOk P w K mg base CX0 1 f fd ["_law_script","_law_k"] (qE K):=by
 refine F.ok scCell (λvs H Q E h=>?_) (λc A o s H vs Q E hr h=>?_)
 ·ext qI h a ns k r3_ _
  subst r3_
  rfl
 ext yD h a ns k r3_ hS z_;ext wC z_ h63 h0 h1 q;subst r3_;let nd:=scCell.nd;let hu0:=hr.units0;refine{_,(zF (pS 2 nd (zH jI (pv 1) zE))
  (zF (zW (zU (zXp hu0) (pv 0) (zT zC) (zQ _)) (zF (pS 2 nd (zH yT (pv 2) (zH jI (zH yH (pv 1) (zO yL O B.len yW (zA (pv 0) zC))) zE)))
  (zG (pS 2 nd (zH yC (zH yT (pv 2) (zH jI (yB zP (pv 0) (zH yC (pv 1) (zO yL O B.len yW (zA (pv 0) zC))) (λ_ _=>O)) zE)) zE)))) zL)
  (zG (zJ (zH yC (zH yT (zH yH (zH jI (pv 2) (pv 2)) zE) (zH jI zE (pv 2))) zE))))), ?_}
 walk_at "st";lk;intro p hp;let hS':=(zD hp (.lst [])).seq hS;refine yBx hS' (SqL.of zB) (zQi ns) O {_,O, ?_};rw[zUm]
 by_cases hn:ns= []
 ·subst hn
  refine zOw {.inl ∅, ?_};exact q _ (zD hp _)
 ·let hpos:0<ns...*:=List.length_pos_iff.mpr hn
  let e1:(ns.map V.int).isEmpty=false:=by cases ns with | nil=>exact absurd O hn | cons _ _=>rfl
  rw[mQ O,e1];let hl:(ns.map V.int)...*=ns...*:=mL _;let hm0:0<=k % (ns...*:Int):=rX _ ∅;let hm1:k % (ns...*:Int)<ns...*:=rP _ ∅;refine zLf {ns.map V.int,hS',by rw[hl];lia,ns.map V.int,hS',by rw[hl];lia, ?_};rw[hl];refine zZ hS' (zVg (d:=.int 0) hm0 (by rw[hl];exact hm1)) {ns.getD (k % ns...*).toNat 0, ?_, .inl ?_, ?_}
  ·simp[List.getD,nH]
  ·generalize (k*7919+k / ns...**104729+ns.getD (k % ns...*).toNat 0*48271)=z
   lia
  ·let e:vG ns k=_:=rfl
   let e2:vG ns k=(((k*7919+k / ns...**104729+ns.getD (k % ns...*).toNat 0*48271)% 1000003*((k*7919+k / ns...**104729+ns.getD (k % ns...*).toNat 0*48271)% 1000003)/ 11+13*((k*7919+k / ns...**104729+ns.getD (k % ns...*).toNat 0*48271)% 1000003))% 1000003):=by
    unfold vG;rw[mK hn]
   rw[<-e2];exact q _ (zD hp _)
def zOd:Sp:=λvs H Q _=>∃(m:Int),vs= [.int m]/\0<=m/\m<2000000/\∀(i:Int),-(10 ^ 12)<=i->i<=10 ^ 12->∀H',Same H H'->Q (.int i) H'
theorem scNum:zS ["_law_more"] ["_law_more"] (zK yBv):=by walk_at "sc"
theorem yAr(F:Fun K "_law_number_by" "_law_number_by" yBv f fd):FnOk P w K mg base CX0 1 f fd ["_law_more"] zOd:=by
 refine F.ok scNum (λvs H Q E h=>?_) (λc A o s H vs Q E hr h=>?_)
 ·ext oEA h m r1_ _
  subst r1_
  rfl
 ext zBb h m r1_ h0 h1 q;subst r1_;let nd:=scNum.nd;refine{_,(zF (zW (zU xC (zH yC (pv 0) zE) zE (zQ _)) (zG (zJ (zH wU (zH yC (zH yH (pv 0) zE) zE) zE))) zL)
  (zF (zW (zU xC (zH yC (pv 0) zE) zE (zQ _)) (zG (zJ (zH wU (zH yC (zH uD (pv 0) zE) (zH yT (zH jI zE (zH uD zE zE)) zE)) (zH uD zE zE)))) zL)
  (zG (zJ (yB zP (zT (zA (zH uD zE zE) (zA (wS xR (zH uD zE zE)) (zA (zH wU (zH uD zE zE) zE) (zA zE (zA zE (zA (wS xR zE) (zA (zH uD zE zE) (zA zE zC))))))))) (zH yC (zH yH (pv 0) zE) zE) (λ_ _=>O)))))), ?_}
 walk_at "st";lk;split
 ·exact q _ ∅ ∅ _ (Same.refl H)
 ·split
  ·refine{∅,q _ ?_ ?_ _ (Same.refl H)}
   ·let:=rX (m ^ 4) (show(2000000000001:Int)≠0 by decide)
    lia
   ·let:=rP (m ^ 4) (show(0:Int)<2000000000001 by decide)
    lia
  ·intro p hp
   obtain⟨v,hv,hm⟩:=gW (xs:=[V.int 1000000000000,V.int (-1000000000000),V.int 999999999999,V.int 0,V.int 1,V.int (-1),V.int 100000000000,V.int 999]) (i:=m / 3 % 8) ∅ (by simp only[mW,pK];lia);refine zZ (SqL.of zB) hv ?_;simp only[mD,rQ,bG] at hm;rcases hm with rfl | rfl | rfl | rfl | rfl | rfl | rfl | rfl<;>exact q _ ∎ ∎ _ (zD hp _)
abbrev zRa:V6:=top 43
def zEs:Sp:=λvs H Q _=>∃(m:Int),vs= [.int m]/\0<=m/\m<2000000/\∀(x:List Nat),yQ x=true->∀H',Same H H'->Q (.str (tx x)) H'
theorem scName:zS ["_law_more","_law_letters","_law_size_here","_law_at","_law_word","_law_by","_law_signs_here"] ["_law_more"] (zK zRa):=by walk_at "sc"
theorem zXv(F:Fun K "_law_name_by" "_law_name_by" zRa f fd)(B:Bl mg):FnOk P w K mg base CX0 1 f fd ["_law_more"] zEs:=by
 refine F.ok scName (λvs H Q E h=>?_) (λc A o s H vs Q E hr h=>?_)
 ·ext oEA h m r1_ _
  subst r1_
  rfl
 ext zBb h m r1_ h0 h1 q;subst r1_;let nd:=scName.nd;refine{_,(zF (gY (i:=1) nd O (aT O) zN)
  (zF (pS 2 nd (yB zP (zT (zA zE (zA (zH yT zE (zH yC (zH yH (pv 0) zE) zE)) (zA (zH yT zE (zH yC (zH yH (pv 0) zE) zE)) zC)))) (zH yC (pv 0) zE) (λ_ _=>O)))
  (zF (zW (zU xC (zH yC (zH yH (pv 0) zE) zE) zE (zQ _)) (zF (pS 3 nd (zH yC (zH yH (pv 0) zE) (pv 2)))
  (zF (pS 4 nd (zH qL (zH qL (zH gA zN (pv 3)) (yB zBp (pv 1) (zH yC (zH yH (pv 0) zE) zE) (λ_ _=>O))) (zH gA zN (zH wU (zH wU (pv 2) (pv 3)) zE))))
  (zG (zJ (pv 4))))) zL)
  (zF (gY (i:=5) nd O (aT O) (zH yT zE (zH yC (zH yH (pv 0) zE) zE)))
  (zF (uT (i:=6) nd O (nU O) (own:=["_law_j"]) (F:=[("_law_letters",1),("_law_more",0),("_law_by",5)]) {O,tb_g%,tb_g%,tb_g%,(.cons O O O (.cons O O O (.cons O O O .nil)))} O (xT O B.range (zA (zH wU (pv 2) zE) zC)) (λ_ _ _ _=>yI (i:=0) (by show(wB ["_law_j"] [("_law_letters",1),("_law_more",0),("_law_by",5)]).Nodup;decide+kernel) O (nU O)) (λ_ _ _ _=>yX) (λ_ _ _ _=>(yB zBp (pv 1) (zH yC (zH yT (zH yH (pv 2) zE) (zH jI (pv 0) (pv 3))) zE) (λ_ _=>O))))
  (zG (zJ (zH qL (yB zBp (pv 1) (zH yC (zH yH (pv 0) zE) zE) (λ_ _=>O)) (qT PySem.F.plainAttrs_str PySem.F.slot_str_join PySem.F.type_str_join zNh zN (zA (pv 6) zC)))))))))), ?_}
 walk_at "st";lk;intro p hp;obtain⟨v,hv,hm⟩:=gW (xs:=[V.int 1,V.int (1+m / 3 % 4),V.int (1+m / 3 % 12)]) (i:=m % 3) ∅ (by simp only[mW,pK];lia);obtain⟨n,rfl,n1,n12⟩:∃n:Int,v= .int n/\1<=n/\n<=12:=by
  simp only[mD,rQ,bG] at hm;rcases hm with rfl | rfl | rfl<;>exact{_,O,∅,∅}
 refine zZ (SqL.of zB) hv ?_;simp only[ts_a,zCn,zSx];split
 ·let a0:=rX (m / 72) (show n≠0 by lia)
  let a1:=rP (m / 72) (show 0<n by lia);refine oEA (zSw (i:=m / 864 % 26) ∅ ∅) λc hc hcl=>?_;refine yBg n O ∅ ∎ ∅ (nA ∅ (zBv ∎ (by rw[zHq];exact hc) {_,O, ?_,n,O,by decide,∅,∅, ?_, ?_}))
  ·rw[jZ,jZ];simp only[rC,nL];lia
  ·rw[zEf,jZ,jZ];simp only[mM,rC,nL];lia
  ·let e:tx (List.replicate (m / 72 % n).toNat 97)++tx [c]++tx (List.replicate (n - m / 72 % n - 1).toNat 97)=tx (List.replicate (m / 72 % n).toNat 97++ [c]++List.replicate (n - m / 72 % n - 1).toNat 97):=by rw[zEf,zEf]
   rw[e];refine q _ (zGd ?_ ?_ ?_) _ (zD hp _)
   ·simp only[mM,rC,nL];lia
   ·cases e:(m / 72 % n).toNat with
    | zero=>exact⟨c,_,O,hcl⟩
    | succ k=>exact{97,_,O,zKs}
   ·intro d hd
    simp only[mU,cU,mG] at hd;rcases hd with(⟨_,rfl⟩| rfl)|⟨_,rfl⟩
    ·exact zAt zKs
    ·exact zAt hcl
    ·exact zAt zKs
 ·refine zDl n O ∅ ∅ (kH (λi ys H'=>Same (upd H p (.lst [V.int 1,V.int (1+m / 3 % 4),V.int (1+m / 3 % 12)])) H'/\∃cs:List Nat,ys=(cs.map λc=>tx [c]).map V.str/\cs...*=i/\∀c∈cs,c∈letL++zEw) (by rw[mS];lia) {Same.refl _,[],O,O,λ_ h=>nomatch h} ?_ ?_)
  ·rintro i ys H' hi _ ⟨hs,cs,rfl,hl,hcs⟩
   lk;refine oEA (yAq (i:=(m / 7+(0+(i:Int))*(1+m / 11 % 35))% 36) ∅ ∅) λc hc hcl=>?_;refine{.inl ∅,zBv ∎ (by rw[zHq];exact hc) {hs,cs++ [c],by simp,by simp[hl], ?_}};intro d hd;rcases mU.mp hd with z | z
   ·exact hcs d z
   ·rw[mG.mp z];exact hcl
  ·rintro ys H' hl ⟨hs,cs,rfl,hlen,hcs⟩ p' hp'
   refine oEA (zSw (i:=m / 72 % 26) ∅ ∅) λc hc hcl=>?_;let hfl:((cs.map λc=>tx [c]).map ts).flatten=cs:=by
    clear hlen hl hcs
    induction cs with
    | nil=>rfl
    | cons d r ih=>simp only[mZ,rV,ih,vB];rfl
   refine zBv ∎ (by rw[zHq];exact hc) {O,p',cs.map λc=>tx [c],O,O,SqL.of zB,by rw[hfl];lia,_,O,_,O, ?_, ?_}
   ·rw[hfl,jZ,jZ,nL];lia
   ·rw[hfl,zEf]
    refine q _ (zGd ?_ ⟨c,cs,O,hcl⟩ ?_) _ ((zD hp _).trans (hs.trans (zD hp' _)))
    ·show(c::cs)...*<=12
     rw[mW];lia
    ·intro d hd
     rcases mD.mp hd with z | z
     ·rw[z];exact zAt hcl
     ·exact hcs d z
abbrev zKp:V6:=top 44
abbrev zRl:V6:=top 45
def zMv:Sp:=λvs H Q _=>vs= []/\Q (.str (tx zAs)) H
theorem scSigns:zS ["_law_some"] [] (zK zKp):=by walk_at "sc"
theorem zTn(F:Fun K "_law_signs" "_law_signs" zKp f fd):FnOk P w K mg base CX0 1 f fd [] zMv:=by
 refine F.ok scSigns (by walk_at "ln") λc A o s H vs Q E hr h=>?_;obtain⟨rfl,q⟩:=h;let nd:=scSigns.nd;refine{_,(zF (pS 0 nd zN)
  (zG (zJ (zH qL (pv 0) zN)))), ?_}
 walk_at "st";lk;refine{by decide, ?_};rw[yAz];exact q
def zHi:Sp:=λvs H Q _=>∃(m:Int),vs= [.int m]/\0<=m/\m<2000000/\∀(x:List Nat),zBw x=true->∀H',Same H H'->Q (.str (tx x)) H'
theorem scText:zS ["_law_more","_law_signs_here","_law_size_here","_law_half","_law_sign","_law_by"] ["_law_more"] (zK zRl):=by walk_at "sc"
theorem zWb(F:Fun K "_law_text_by" "_law_text_by" zRl f fd)(B:Bl mg)(G_law_signs:Dn P w K mg base 1 "_law_signs" [] zMv):FnOk P w K mg base CX0 2 f fd ["_law_more"] zHi:=by
 refine F.ok scText (λvs H Q E h=>?_) (λc A o s H vs Q E hr h=>?_)
 ·ext oEA h m r1_ _
  subst r1_
  rfl
 ext zBb h m r1_ h0 h1 q;subst r1_;let nd:=scText.nd;refine{_,(zF (gY (i:=1) nd O (aT O) (yCt G_law_signs hr ∅ O))
  (zF (pS 2 nd (yB zP (zT (zA (zH yC (zH yH (pv 0) zE) zE) (zA (zH yC (zH yH (pv 0) zE) zE) (zA (zH yC (zH yH (pv 0) zE) zE) zC)))) (zH yC (pv 0) zE) (λ_ _=>O)))
  (zF (zW (zU xC (zH yC (zH yH (pv 0) zE) zE) zE (zQ _)) (zF (pS 3 nd (zH yH (pv 2) zE))
  (zF (pS 4 nd (yB zBp (pv 1) (zH yC (zH yH (pv 0) zE) zE) (λ_ _=>O)))
  (zG (zJ (zH qL (zH gA zN (pv 3)) (zH gA (pv 4) (zH wU (pv 2) (pv 3)))))))) zL)
  (zF (gY (i:=5) nd O (aT O) (zH yT zE (zH yC (zH yH (pv 0) zE) zE)))
  (zG (zJ (qT PySem.F.plainAttrs_str PySem.F.slot_str_join PySem.F.type_str_join zNh zN (zA (xP (own:=["_law_j"]) (F:=[("_law_signs_here",1),("_law_more",0),("_law_by",5)]) {O,tb_g%,tb_g%,tb_g%,(.cons O O O (.cons O O O (.cons O O O .nil)))} O (xT O B.range (zA (pv 2) zC)) (λ_ _ _ _=>yI (i:=0) (by show(wB ["_law_j"] [("_law_signs_here",1),("_law_more",0),("_law_by",5)]).Nodup;decide+kernel) O (nU O)) (λ_ _ _ _=>yX) (λ_ _ _ _=>(yB zBp (pv 1) (zH yC (zH yT (zH yH (pv 2) zE) (zH jI (pv 0) (pv 3))) zE) (λ_ _=>O)))) zC)))))))), ?_}
 walk_at "st";lk;refine{O,λp hp=>?_};obtain⟨v,hv,hm⟩:=gW (xs:=[V.int (m / 5 % 4),V.int (m / 5 % 9),V.int (m / 5 % 31)]) (i:=m % 3) ∅ (by simp only[mW,pK];lia);obtain⟨n,rfl,n0,n30⟩:∃n:Int,v= .int n/\0<=n/\n<=30:=by
  simp only[mD,rQ,bG] at hm;rcases hm with rfl | rfl | rfl<;>exact{_,O,∅,∅}
 refine zZ (SqL.of zB) hv ?_;simp only[ts_q,zCn,zSx];split
 ·refine oEA (zTl (i:=m / 465 % 94) ∅ ∅) λc hc hcl=>?_
  refine nEA n O (zBv ∎ hc {by decide,∅,∅,n,O,_,O,(show(1:Nat)<=1000 by decide),∅,∅, ?_, ?_})
  ·rw[vB,zCn,jZ,jZ];simp only[rC];lia
  ·rw[vB,zCn,zEf]
   refine q _ (zFy ?_ ?_) _ (zD hp _)
   ·simp only[mM,rC];lia
   ·intro d hd
    simp only[mU,cU] at hd;rcases hd with⟨_,rfl⟩|⟨_,rfl⟩
    ·exact yAh
    ·exact hcl
 ·refine zUe O n O ∅ ∅ (kH (λi ys H'=>Same (upd H p (.lst [V.int (m / 5 % 4),V.int (m / 5 % 9),V.int (m / 5 % 31)])) H'/\∃cs:List Nat,ys=(cs.map λc=>tx [c]).map V.str/\cs...*=i/\∀c∈cs,c∈zAs) (by rw[mS];lia) {Same.refl _,[],O,O,λ_ h=>nomatch h} ?_ ?_)
  ·rintro i ys H' hi _ ⟨hs,cs,rfl,hl,hcs⟩
   lk;refine oEA (zTl (i:=(m / 7+(0+(i:Int))*(1+m / 13 % 93))% 94) ∅ ∅) λc hc hcl=>?_;refine{.inl ∅,zBv ∎ hc {hs,cs++ [c],by simp,by simp[hl], ?_}};intro d hd;rcases mU.mp hd with z | z
   ·exact hcs d z
   ·rw[mG.mp z];exact hcl
  ·rintro ys H' hl ⟨hs,cs,rfl,hlen,hcs⟩ p' hp'
   refine{p',cs.map λc=>tx [c],O,O,SqL.of zB,by rw[zIt];lia, ?_};rw[zIt];exact q _ (zFy ∅ hcs) _ ((zD hp _).trans (hs.trans (zD hp' _)))
abbrev zEe:V6:=top 47
def uO(K:A6)(d:Nat):Sp:=λvs H Q _=>∃(a:V1)(ns:List Int)(k:Int),vs= [.ref a, .int k, .int d]/\SqL K H a (ns.map V.int)/\ns...*<=63/\0<=k/\(k+2)*5 ^ d<=1000000/\
 ∀v H' t,Same H H'->Rep H' v t->Nice d t->Q v H'
theorem scThing:zS ["_law_script","_law_k","_law_deep","_law_more","_law_kind_here","_law_some","_law_result","_law_j"] ["_law_script","_law_k","_law_deep"] (zK zEe):=by walk_at "sc"
def DInv(Hl:Hp)(p2:V1)(ts:List T)(i:Nat)(H2:Hp):Prop:=∃(ps:List (Key×V))(ks:List (List Nat))(us:List T),H2 p2=Y (.dK ps)/\ps.map (·.1)=ks.map nK/\Reps Hl (ps.map (·.2)) us/\ks.Nodup/\(∀n∈ks,yQ n=true)/\(∀u∈us,u∈ts)/\ks...*<=i
theorem yCb(e:Nat):(1:Int)<=5 ^ e:=by
 induction e with
 | zero=>decide
 | succ n ih=>rw[Int.pow_succ];lia
theorem zQe(F:Fun K "_law_thing_by" "_law_thing_by" zEe f fd)(B:Bl mg)(G_law_cell:Dn P w K mg base 1 "_law_cell" ["_law_script","_law_k"] (qE K))(G_law_number_by:Dn P w K mg base 1 "_law_number_by" ["_law_more"] zOd)
  (G_law_text_by:Dn P w K mg base 2 "_law_text_by" ["_law_more"] zHi):FnOk P w K mg base CX0 3 f fd ["_law_script","_law_k","_law_deep"] (uO K 0):=by
 refine F.ok scThing (λvs H Q E h=>?_) (λc A o s H vs Q E hr h=>?_)
 ·ext qI h a ns k r3_ _
  subst r3_
  rfl
 ext yD h a ns k r3_ hS z_;ext wC z_ h63 h0 h1 q;subst r3_;let nd:=scThing.nd;refine{_,(zF (pS 3 nd (zR G_law_cell hr ∅ O (zA (pv 0) (zA (pv 1) zC))))
  (zF (pS 4 nd (zH yC (pv 3) (yB zP (zT (zA zE (zA zE zC))) (yJ xM O B.int vF (zA (yR kE (pv 2) zE (zQ _)) zC)) (λ_ _=>O))))
  (zF (zW (zU xC (pv 4) zE (zQ _)) (zG (zJ (yB zP (zT (zA gQ (zA qB (zA qB zC)))) (zH yC (zH yH (pv 3) zE) zE) (λ_ _=>O)))) zL)
  (zF (zW (zU jA (pv 4) zE (zQ _)) (zG (zJ (zR G_law_number_by hr ∅ O (zA (zH yH (pv 3) zE) zC)))) zL)
  (zF (zW (zU jA (pv 4) zE (zQ _)) (zG (zJ (zR G_law_text_by hr ∅ O (zA (zH yH (pv 3) zE) zC)))) zL)
  zGm))))), ?_}
 walk_at "st";lk;refine zEa hS h63 h0 ∅ λH1 g1 p hp=>zZ (SqL.of zB) (v:=.int 5) O {_,O,5,O,by decide, ?_};let c0:=wW ns k;let c1:=qH ns k;let gp:=g1.trans (zD hp (.lst [V.int 5,V.int 9]));split
 ·intro p2 hp2
  refine nEA _ O ?_;obtain⟨v,hv,hm⟩:=gW (xs:=[V.non,V.bl true,V.bl false]) (i:=vG ns k / 9 % 3) ∅ (by simp only[mW,pK];lia);refine zZ (SqL.of zB) hv ?_;simp only[mD,rQ,bG] at hm;rcases hm with rfl | rfl | rfl
  ·exact q _ _ .non (gp.trans (zD hp2 _)) O trivial
  ·exact q _ _ (.bl true) (gp.trans (zD hp2 _)) O trivial
  ·exact q _ _ (.bl false) (gp.trans (zD hp2 _)) O trivial
 ·split
  ·exact{_,O,_,O,∅,∅,λi i0 i1 H2 g2=>q _ _ (.int i) (gp.trans g2) O ⟨i0,i1⟩}
  ·rw[mQ ∅]
   exact{_,O,_,O,∅,∅,λx hx H2 g2=>q _ _ (.str x) (gp.trans g2) O hx}
theorem zOs{e:Nat}(F:Fun K "_law_thing_by" "_law_thing_by" zEe f fd)(B:Bl mg)(G_law_cell:Dn P w K mg base 1 "_law_cell" ["_law_script","_law_k"] (qE K))(G_law_number_by:Dn P w K mg base 1 "_law_number_by" ["_law_more"] zOd)
  (G_law_text_by:Dn P w K mg base 2 "_law_text_by" ["_law_more"] zHi) (G_law_name_by:Dn P w K mg base 1 "_law_name_by" ["_law_more"] zEs)
  (G_law_thing_by:Dn P w K mg base (3+e) "_law_thing_by" ["_law_script","_law_k","_law_deep"] (uO K e)):FnOk P w K mg base CX0 (3+e+1) f fd ["_law_script","_law_k","_law_deep"] (uO K (e+1)):=by
 refine F.ok scThing (λvs H Q E h=>?_) (λc A o s H vs Q E hr h=>?_)
 ·ext qI h a ns k r3_ _
  subst r3_
  rfl
 ext yD h a ns k r3_ hS z_;ext wC z_ h63 h0 h1 q;subst r3_;let nd:=scThing.nd;let hu:=vA hr;refine{_,(zF (pS 3 nd (zR G_law_cell hr ∅ O (zA (pv 0) (zA (pv 1) zC))))
  (zF (pS 4 nd (zH yC (pv 3) (yB zP (zT (zA zE (zA zE zC))) (yJ xM O B.int vF (zA (yR kE (pv 2) zE (zQ _)) zC)) (λ_ _=>O))))
  (zF (zW (zU xC (pv 4) zE (zQ _)) (zG (zJ (yB zP (zT (zA gQ (zA qB (zA qB zC)))) (zH yC (zH yH (pv 3) zE) zE) (λ_ _=>O)))) zL)
  (zF (zW (zU jA (pv 4) zE (zQ _)) (zG (zJ (zR G_law_number_by hr ∅ O (zA (zH yH (pv 3) zE) zC)))) zL)
  (zF (zW (zU jA (pv 4) zE (zQ _)) (zG (zJ (zR G_law_text_by hr ∅ O (zA (zH yH (pv 3) zE) zC)))) zL)
  (zF (uT (i:=5) nd O (nU O) (own:=["_law_j"]) (F:=[("_law_script",0),("_law_k",1),("_law_deep",2)]) {O,tb_g%,tb_g%,tb_g%,(.cons O O O (.cons O O O (.cons O O O .nil)))} O (xT O B.range (zA (zH yC (zH yH (pv 3) zE) zE) zC)) (λ_ _ _ _=>yI (i:=0) (by show(wB ["_law_j"] [("_law_script",0),("_law_k",1),("_law_deep",2)]).Nodup;decide+kernel) O (nU O)) (λ_ _ _ _=>yX) (λ_ _ _ _=>(zR G_law_thing_by hr ∅ O (zA (pv 1) (zA (zH yT (zH yT (zH jI (pv 2) zE) zE) (pv 0)) (zA (zH wU (pv 3) zE) zC))))))
  (zF (zW (zU jA (pv 4) zE (zQ _)) (zG (zJ (pv 5))) zL)
  (zF (pS 6 nd zEl)
  (zF (vO PassesOwn.never O (xT O B.range (zA (zO yL O B.len yW (zA (pv 5) zC)) zC)) (yI (i:=7) nd O (nU O)) (zG (zBd hu (pv 6) (zR G_law_name_by hr ∅ O (zA (zH yT (zH yH (zR G_law_cell hr ∅ O (zA (pv 0) (zA (zH yT (zH yT (zH jI (pv 1) zE) zE) (pv 7)) zC))) zE) (pv 7)) zC)) (yB zP (pv 5) (pv 7) (λ_ _=>O)) O)))
  (zG (zJ (pv 6)))))))))))), ?_}
 walk_at "st";lk;let hpow:(1:Int)<=5 ^ e:=yCb e;let hpow2:(5:Int)^ (e+1)=5 ^ e*5:=Int.pow_succ ..;let h2:(k+2)*5*5 ^ e<=1000000:=by rw[Int.mul_assoc,Int.mul_comm 5 (5 ^ e),<-hpow2];exact h1
 let h3:(k+2)*5<=1000000:=by
  let:(k+2)*5*1<=(k+2)*5*5 ^ e:=Int.mul_le_mul_of_nonneg_left hpow ∅
  lia
 refine zEa hS h63 h0 ∅ λH1 g1 p hp=>zZ (SqL.of zB) (v:=.int 9) ?_ {_,O,9,O,by decide, ?_}
 ·rw[mQ ∅];rfl
 let c0:=wW ns k;let c1:=qH ns k;let gp:=g1.trans (zD hp (.lst [V.int 5,V.int 9]));split
 ·intro p2 hp2
  refine nEA _ O ?_;obtain⟨v,hv,hm⟩:=gW (xs:=[V.non,V.bl true,V.bl false]) (i:=vG ns k / 9 % 3) ∅ (by simp only[mW,pK];lia);refine zZ (SqL.of zB) hv ?_;simp only[mD,rQ,bG] at hm;rcases hm with rfl | rfl | rfl
  ·exact q _ _ .non (gp.trans (zD hp2 _)) O trivial
  ·exact q _ _ (.bl true) (gp.trans (zD hp2 _)) O trivial
  ·exact q _ _ (.bl false) (gp.trans (zD hp2 _)) O trivial
 ·split
  ·exact{_,O,_,O,∅,∅,λi i0 i1 H2 g2=>q _ _ (.int i) (gp.trans g2) O ⟨i0,i1⟩}
  ·split
   ·exact{_,O,_,O,∅,∅,λx hx H2 g2=>q _ _ (.str x) (gp.trans g2) O hx}
   ·refine zDl _ O ∅ ∅ (kH (λi ys H'=>Same (upd H1 p (.lst [V.int 5,V.int 9])) H'/\∃ts,Reps H' ys ts/\ts...*=i/\NiceL e ts) (by rw[mS];lia) {Same.refl _,[],O,O,trivial} ?_ ?_)
    ·rintro i ys H' hi _ ⟨hs,ts,hR,hl,hN⟩
     lk;refine{a,ns,k*5+1+(0+(i:Int)), ?_,hs.seq (gp.seq hS),h63,∅, ?_,λv H2 t g2 hv hn=>{hs.trans g2,ts++ [t],Reps.snoc hv (Reps.same g2 _ _ hR),by simp[hl],NiceL.snoc hn hN}}
     ·rw[show((e+1:Nat):Int)- 1=(e:Int) by lia]
     ·let:(k*5+1+(0+(i:Int))+2)*5 ^ e<=(k+2)*5*5 ^ e:=Int.mul_le_mul_of_nonneg_right ∅ ∅
      lia
    ·rintro ys H' hl ⟨hs,ts,hR,hlen,hN⟩ p' hp'
     let gl:=gp.trans (hs.trans (zD hp' (.lst ys)));let hR':Reps (upd H' p' (.lst ys)) ys ts:=Reps.same (zD hp' _) _ _ hR
     by_cases h7:vG ns k % 9<7
     ·rw[mQ h7]
      exact q _ _ (.lst ts) gl ⟨p',ys,O,zB,hR'⟩ {∅,∅,hN}
     rw[mK h7];intro p2 hp2;let gd:=zD hp2 (.dK []);let hys:=hR...*;let hSl:SqL K (upd (upd H' p' (.lst ys)) p2 (.dK [])) p' ys:=SqL.of (gd _ _ zB);refine zEx p' O ys hSl ∅ (nA ∅ ?_);rw[bJ];refine qU (λi σ H2=>(∃o,σ= [Y (V.ref a),Y (V.int k),Y (V.int ((e+1:Nat):Int)),Y (V.int (vG ns k)),Y (V.int (vG ns k % 9)),Y (V.ref p'),Y (V.ref p2),o])/\Same (upd H' p' (.lst ys)) H2/\DInv (upd H' p' (.lst ys)) p2 ts i H2) {⟨_,O⟩,gd,[],[],[],zB,O,O,cK,λ_ h=>(nomatch h),λ_ h=>(nomatch h),mE _} ?_ ?_
     ·rintro i σ H2 hi ⟨⟨o,rfl⟩,g2,ps,ks,us,hd,hk,hU,hnd,hok,hsub,hlk⟩
      lk;obtain⟨v,hv⟩:∃v,ys[i]? =Y v:={ys[i],by simp[hi]};refine oEA (hR'.get hv) λt ht hvt=>?_;refine zZ (SqL.of (g2 _ _ zB)) (by rw[Int.zero_add];exact zV hv) (zEa (g2.seq (gl.seq hS)) h63 ∅ ∅ λH3 g3=>?_);let c0':=wW ns (k*5+1+(0+(i:Int)));let c1':=qH ns (k*5+1+(0+(i:Int)));refine{_,O,_,O,∅,∅,λx hx H4 g4=>{_,DPut.k (k:=nK x) (g4 _ _ (g3 _ _ hd)) ?_,⟨_,O⟩, ?_, ?_}}
      ·let:=congrArg List.length hk
       simp only[mL] at this;rw[mS];lia
      ·intro b o' hb
       let hne:b≠p2:=λz=>by rw[z,hp2] at hb;cases hb
       rw[zM hne];exact g4 _ _ (g3 _ _ (g2 _ _ hb))
      ·refine yE (zWr (n:=x) hk hU hnd hvt) λks' us' e1 e2 e3 z_=>?_
       ext oAA z_ e4 e5 e6;refine{_,ks',us',zB,e1,e2,e3,λn hn=>?_,λu hu=>?_,∅}
       ·rcases e4 n hn with z | z
        ·exact hok n z
        ·rw[z];exact hx
       ·rcases e5 u hu with z | z
        ·exact hsub u z
        ·rw[z];exact mP ht
     ·rintro σ H2 ⟨⟨o,rfl⟩,g2,ps,ks,us,hd,hk,hU,hnd,hok,hsub,hlk⟩
      lk;let l1:=congrArg List.length hk;simp only[mL] at l1;let l2:=hU...*;simp only[mL] at l2;refine q _ _ (.dic ks us) (gl.trans g2) {p2,ps,O,hd,hk,Reps.same g2 _ _ hU} {∅,∅,∅,hnd,hok,NiceL_iff.mpr λu hu=>NiceL_iff.mp hN u (hsub u hu)}
abbrev zUb:V6:=top 48
abbrev zHg:V6:=top 9
noncomputable def wE(t:String):V:=if t= "NoneType" then .str "nothing" else if t= "bool" then .str "truth" else if t= "int" then .str "number" else if t= "str" then .str "text" else if t= "list" then .str "row" else if t= "dict" then .str "record" else .non
def zDq:Sp:=λvs H Q _=>∃(v:V)(t:String),vs= [v]/\tyS H v=Y t/\∀H',Same H H'->Q (wE t) H'
theorem jW{H:Hp}{v:V}(h:tyS H v=some "NoneType"):v= .non:=by
 cases v with
 | non=>rfl
 | ref a=>
  let h':(match H a with | some (.lst _)=>some "list" | some (.tup _)=>some "tuple" | some (.dK _)=>some "dict" | _=>none)=some "NoneType":=h
  split at h'<;>first | exact absurd (mR h') ∎| cases h'
 | bl b=>exact absurd (mR h) ∎
 | int b=>exact absurd (mR h) ∎
 | str b=>exact absurd (mR h) ∎
 | byt b=>cases h
 | flt b=>cases h
 | ty b=>cases h
theorem zSc{H:Hp}{v:V}{t:String}{Q:VK}(ht:tyS H v=Y t)(q:Q (wE t) H):
  if v=V.non then Q (V.str (A5 "nothing")) H else∃x,tyS H v=Y x/\if yA x "bool" =true then Q (V.str (A5 "truth")) H else
   ∃x,tyS H v=Y x/\if yA x "int" =true then Q (V.str (A5 "number")) H else∃x,tyS H v=Y x/\if yA x "str" =true then Q (V.str (A5 "text")) H else
   ∃x,tyS H v=Y x/\if yA x "list" =true then Q (V.str (A5 "row")) H else∃x,tyS H v=Y x/\if yA x "dict" =true then Q (V.str (A5 "record")) H else Q V.non H:=by
 let hm:=vU ht;simp only[ht,Option.some.injEq,dP]
 by_cases hv:v= .non
 ·subst hv;cases ht;rw[mQ O];exact q
 ·rw[mK hv]
  simp only[tyL,mD,rQ,bG] at hm;rcases hm with rfl | rfl | rfl | rfl | rfl | rfl | rfl
  ·exact absurd (jW ht) hv
  all_goals (simpa [yA,wE] using q)
theorem scKind:zS ["_law_thing"] ["_law_thing"] (zK zUb):=by walk_at "sc"
theorem zXi(F:Fun K "_law_kind" "_law_kind" zUb f fd)(B:Bl mg):FnOk P w K mg base CX0 1 f fd ["_law_thing"] zDq:=by
 refine F.ok scKind (λvs H Q E h=>?_) (λc A o s H vs Q E hr h=>?_)
 ·ext xV h v t r2_ _
  subst r2_
  rfl
 ext yM h v t r2_ ht q;subst r2_;let nd:=scKind.nd;refine{_,(zF (zW (uH (zKv (pv 0))) (zG (zJ zN)) zL)
  (zF (zW (yF (pI B.isinstance zI B.bool zOj (pv 0))) (zG (zJ zN)) zL)
  (zF (zW (yF (pI B.isinstance zI B.int vF (pv 0))) (zG (zJ zN)) zL)
  (zF (zW (yF (pI B.isinstance zI B.str qY (pv 0))) (zG (zJ zN)) zL)
  (zF (zW (yF (pI B.isinstance zI B.list yU (pv 0))) (zG (zJ zN)) zL)
  (zF (zW (yF (pI B.isinstance zI B.dict xA (pv 0))) (zG (zJ zN)) zL)
  (zG (zJ gQ)))))))), ?_}
 walk_at "st";lk;exact zSc ht (q H (Same.refl H))
abbrev zOc:V6:=top 49
abbrev zRt:V6:=top 50
def zKm(n:Nat):Sp:=λvs H Q _=>∃(v u:V)(t t':T),vs= [v,u]/\Rep H v t/\Rep H u t'/\T.few t/\T.few t'/\m8 t<=n/\m8 t'<=n/\∀H',Same H H'->Q (.int (wG (zY t) (zY t'))) H'
def zVe(n:Nat):Sp:=λvs H Q _=>∃(a b:V1)(xs ys:List V)(us ws:List T),vs= [.ref a, .ref b]/\H a=Y (.lst xs)/\H b=Y (.lst ys)/\Reps H xs us/\Reps H ys ws/\j4 us/\j4 ws/\us...*<=100000/\ws...*<=100000/\i9 us<=n/\i9 ws<=n/\∀H',Same H H'->Q (.int (vN (xE us) (xE ws))) H'
theorem scRows:zS ["_law_one","_law_other","_law_k","_law_result"] ["_law_one","_law_other"] (zK zOc):=by walk_at "sc"
theorem zXs{n:Nat}(F:Fun K "_law_rows_compare" "_law_rows_compare" zOc f fd)(B:Bl2 mg)(G_law_compare:Dn P w K mg base (2+2*n) "_law_compare" ["_law_one","_law_other"] (zKm n)):
  FnOk P w K mg base CX0 (2+2*n+1) f fd ["_law_one","_law_other"] (zVe n):=by
 refine F.ok scRows (λvs H Q E h=>?_) (λc A o s H vs Q E hr h=>?_)
 ·ext xO h a b xs ys us z_
  ext oEA z_ ws r6_ _;subst r6_
  rfl
 ext xO h a b xs ys us z_;ext zAd z_ ws r6_ ha hb hx z_;ext yO z_ hy fx fy lx ly z_;ext oAA z_ wx wy q;subst r6_;let nd:=scRows.nd;refine{_,(zF (vO PassesOwn.never O (xT O B.range (zA (zO (zBi O) O B.min zLt (zA (zO yL O B.len yW (zA (pv 0) zC)) (zA (zO yL O B.len yW (zA (pv 1) zC)) zC))) zC)) (yI (i:=2) nd O (nU O)) (zF (pS 3 nd (zR G_law_compare hr ∅ O (zA (yB zP (pv 0) (pv 2) (λ_ _=>O)) (zA (yB zP (pv 1) (pv 2) (λ_ _=>O)) zC))))
  (zG (zW (zU zJq (pv 3) zE (zQ _)) (zG (zJ (pv 3))) zL))))
  (zG (zJ (zH wU (yJ xM O B.int vF (zA (yR kE (zO yL O B.len yW (zA (pv 0) zC)) (zO yL O B.len yW (zA (pv 1) zC)) (zQ _)) zC)) (yJ xM O B.int vF (zA (yR jA (zO yL O B.len yW (zA (pv 0) zC)) (zO yL O B.len yW (zA (pv 1) zC)) (zQ _)) zC)))))), ?_}
 walk_at "st";lk;let hxl:=hx...*;let hyl:=hy...*;refine jY xs (SqL.of ha) ys (SqL.of hb) xs...* (zDl ys...* ⟨O,O⟩ (by split<;>lia) (by split<;>lia) ?_);let em:(if(ys...*:Int)<xs...* then(ys...*:Int) else xs...*).toNat=min (xE us)...* (xE ws)...*:=by
  rw[vJ,vJ];split<;>lia
 rw[em];let hmn:min (xE us)...* (xE ws)...*<=us...*/\min (xE us)...* (xE ws)...*<=ws...*:=by
  rw[vJ,vJ];exact{Nat.min_le_left _ _,Nat.min_le_right _ _}
 generalize hm:min (xE us)...* (xE ws)...*=m at hmn⊢;refine qU (λi σ H2=>(∃o2 o3,σ= [Y (V.ref a),Y (V.ref b),o2,o3])/\Same H H2/\vN (xE us) (xE ws)=vN ((xE us).drop i) ((xE ws).drop i)) {⟨_,_,O⟩,Same.refl _,O} ?_ ?_
 ·rintro i σ H2 hi ⟨⟨o2,o3,rfl⟩,g,e⟩
  lk;let h1:i<xs...*:=by lia
  let h2:i<ys...*:=by lia
  refine oEA (hx.get (i:=i) (v:=xs[i]) (by simp[h1])) λt1 ht1 hr1=>?_;refine oEA (hy.get (i:=i) (v:=ys[i]) (by simp[h2])) λt2 ht2 hr2=>?_;let hm1:=mP ht1;let hm2:=mP ht2;let w1:=k8 hm1;let w2:=k8 hm2;let hd:=zLc (kW ht1) (kW ht2);refine{a,xs,i,xs[i],O,by simp,SqL.of (g _ _ ha), ?_,b,ys,i,ys[i],O,by simp,SqL.of (g _ _ hb), ?_,xs[i],ys[i],t1,t2,O,Rep.same g _ _ hr1,Rep.same g _ _ hr2,b9 fx hm1,b9 fy hm2,∅,∅,λH3 g3=>?_}
  ·exact zV (by simp[h1])
  ·exact zV (by simp[h2])
  ·rw[e,hd] at q
   by_cases hz:wG (zY t1) (zY t2)=0
   ·exact zXd O false (by rw[hz];rfl) (zOw {⟨_,O⟩,g.trans g3,by rw[e,hd,mQ hz]})
   ·rw[mK hz] at q
    refine zXd O true ?_ (zLf (q _ (g.trans g3)));simp[hz]
 ·rintro σ H2 ⟨⟨o2,o3,rfl⟩,g,e⟩
  lk;let he:=zOv (xs:=xE us) (ys:=xE ws) hm.symm;rw[vJ,vJ] at he;let z:=q H2 g;rw[e,he,sgI,<-hxl,<-hyl] at z;exact jY xs (SqL.of (g _ _ ha)) ys (SqL.of (g _ _ hb)) xs (zXd (SqL.of (g _ _ ha)) ys (SqL.of (g _ _ hb)) z)
theorem iP{c A B:Prop} [Decidable c] (h:c) (a:A):if c then A else B:=by rw[mQ h];exact a
theorem iN{c A B:Prop} [Decidable c] (h:¬c) (b:B):if c then A else B:=by rw[mK h];exact b
noncomputable def wordsS:List Str:=["nothing","truth","number","text","row","record"]
theorem uP(t:T)(h:T.few t):∃k,wE (tyT t)= .str k/\wordsS[(zY t).ord]? =Y k/\∀i,i<(zY t).ord->wordsS[i]?≠Y k:=by
 cases t with
 | non=>exact{"nothing",by decide+kernel,O,λi h=>absurd h (rY i)}
 | bl b=>exact{"truth",by show wE "bool" =_;decide+kernel,O,by show∀i,i<1->_;decide+kernel}
 | int b=>exact{"number",by show wE "int" =_;decide+kernel,O,by show∀i,i<2->_;decide+kernel}
 | str b=>exact{"text",by show wE "str" =_;decide+kernel,O,by show∀i,i<3->_;decide+kernel}
 | lst b=>exact{"row",by show wE "list" =_;decide+kernel,O,by show∀i,i<4->_;decide+kernel}
 | dic a b=>exact{"record",by show wE "dict" =_;decide+kernel,O,by show∀i,i<5->_;decide+kernel}
 | tup b=>exact h.elim
theorem zDo{x n:Str}{j:Nat}{d l:V1}{ps:List (Key×V)}{ks:List (List Nat)}{us:List T}{ss:List Str}{σ:St}{Q:VK}{H1:Hp}(hd:H1 d=Y (.dK ps))(hl:H1 l=none)(h64:ks...*<64)(nk:ks.Nodup)
  (hk:ps.map (·.1)=ks.map λk=>(Sum.inr (tx k):Key)) (hs:Reps H1 (ps.map (·.2)) us) (hp:ss.Perm (ks.map tx)) (hss:PyProof.Rows.sortedS ss=true) (hj:(σ[j]?).join=Y (.ref d))
  (q:∀p zs H',Same H1 H'->H' p=Y (.lst zs)->Reps H' zs (gI ks us)->Q (.ref p) H'):
  wX [x] [(n,j)] (qV 0) zBe (zQr (xH (vY 0) (xH (zFo (vY 1) (vY 0)) qW))) σ Q (Itl K l) (upd H1 l (.lst (ss.map V.str))):=by
 let es:=zBg hp hss;let g0:Same H1 (upd H1 l (.lst (ss.map V.str))):=zD hl _;let hll:upd H1 l (.lst (ss.map V.str)) l=Y (.lst (ss.map V.str)):=zB;let hlen:(ss.map V.str)...*=ks...*:=by rw[mL,hp.length_eq,mL]
 generalize upd H1 l (.lst (ss.map V.str))=H2 at g0 hll⊢;refine wO (K:=K) (xs:=ss.map V.str) (λi zs H'=>Same H2 H'/\Reps H' zs ((gI ks us).take i)) ?_ {Same.refl _,O} (λi zs H' _ h=>SqL.of (h.1 _ _ hll)) ?_ ?_
 ·rw[mS,hlen];lia
 ·rintro i y zs H' hy _ ⟨g,hR⟩
  rw[es,sB,nH] at hy
  cases hki:(wJ ks)[i]? with
  | none=>rw[hki] at hy;cases hy
  | some k=>
   rw[hki] at hy;let ey:V.str (tx k)=y:=mR hy;subst ey;let hrow:(gI ks us)[i]? =Y (.lst [.str k,xY k ks us]):=by rw[gI,nH,hki];rfl
   let gg:=g0.trans g;obtain⟨v,hv1,hv2⟩:=i4 nk hk (Reps.same gg _ _ hs) (mem_sortK.mp (mP hki));lk;rw[hj];refine qF d O v (.inl {ps,Sum.inr (tx k), .inl (gg _ _ hd),O,hv1.symm}) (λp hp=>{g.trans (zD hp _), ?_});rw[yN hrow];let hrep:Rep (upd H' p (.lst [V.str (tx k),v])) (.ref p) (.lst [.str k,xY k ks us]):={p,_,O,zB,_,_,O,O,_,_,O,Rep.same (zD hp _) _ _ hv2,O};exact Reps.snoc hrep (Reps.same (zD hp _) _ _ hR)
 ·rintro zs H' _ ⟨g,hR⟩ p hp'
  rw[hlen,<-zDx ks us,pE] at hR;exact q p zs _ (g0.trans (g.trans (zD hp' _))) zB (Reps.same (zD hp' _) _ _ hR)
theorem scCmp:zS ["_law_one","_law_other","_law_words","_law_first","_law_second","_law_left","_law_right"] ["_law_one","_law_other"] (zK zRt):=by walk_at "sc"
theorem zWe{n:Nat}(F:Fun K "_law_compare" "_law_compare" zRt f fd)(B:Bl2 mg)(G_law_kind:Dn P w K mg base 1 "_law_kind" ["_law_thing"] zDq)(G_law_rows_compare:Dn P w K mg base (2+2*n+1) "_law_rows_compare" ["_law_one","_law_other"] (zVe n)):
  FnOk P w K mg base CX0 (2+2*n+1+1) f fd ["_law_one","_law_other"] (zKm (n+1)):=by
 refine F.ok scCmp (λvs H Q E h=>?_) (λc A o s H vs Q E hr h=>?_)
 ·ext yV h v u t t' r4_ _
  subst r4_
  rfl
 ext yV h v u t t' r4_ z_;ext yO z_ hv hu' f1 f2 w1 z_;ext oA z_ w2 q;subst r4_;let nd:=scCmp.nd;let hu:=vA hr;refine{_,(zF (pS 2 nd (zT (zA zN (zA zN (zA zN (zA zN (zA zN (zA zN zC))))))))
  (zF (pS 3 nd (qT pA sP tU zAr (pv 2) (zA (zR G_law_kind hr ∅ O (zA (pv 0) zC)) zC)))
  (zF (pS 4 nd (qT pA sP tU zAr (pv 2) (zA (zR G_law_kind hr ∅ O (zA (pv 1) zC)) zC)))
  (zF (zW (zU zJq (pv 3) (pv 4) (zQ _)) (zG (zJ (zH wU (yJ xM O B.int vF (zA (yR kE (pv 3) (pv 4) (zQ _)) zC)) (yJ xM O B.int vF (zA (yR jA (pv 3) (pv 4) (zQ _)) zC))))) zL)
  (zF (zW (zU xC (pv 3) zE (zQ _)) (zG (zJ zE)) zL)
  (zF (zW (zU jA (pv 3) zE (zQ _)) (zG (zJ (zH wU (yJ xM O B.int vF (zA (yR zMu (pv 0) (pv 1) (zQ _)) zC)) (yJ xM O B.int vF (zA (yR zNl (pv 0) (pv 1) (zQ _)) zC))))) zL)
  (zF (zW (zU xC (pv 3) zE (zQ _)) (zG (zJ (zR G_law_rows_compare hr ∅ O (zA (pv 0) (zA (pv 1) zC))))) zL)
  (zF (uT (i:=5) nd O (nU O) (own:=["_law_name"]) (F:=[("_law_one",0)]) {O,tb_g%,tb_g%,tb_g%,(.cons O O O .nil)} O (xQ (zO (vS O) O B.sorted kC (zA (pv 0) zC))) (λ_ _ _ _=>yI (i:=0) (by show(wB ["_law_name"] [("_law_one",0)]).Nodup;decide+kernel) O (nU O)) (λ_ _ _ _=>yX) (λ_ _ _ _=>(zT (zA (pv 0) (zA (jU hu (pv 1) (pv 0) (λ_ _=>O)) zC)))))
  (zF (uT (i:=6) nd O (nU O) (own:=["_law_name"]) (F:=[("_law_other",1)]) {O,tb_g%,tb_g%,tb_g%,(.cons O O O .nil)} O (xQ (zO (vS O) O B.sorted kC (zA (pv 1) zC))) (λ_ _ _ _=>yI (i:=0) (by show(wB ["_law_name"] [("_law_other",1)]).Nodup;decide+kernel) O (nU O)) (λ_ _ _ _=>yX) (λ_ _ _ _=>(zT (zA (pv 0) (zA (jU hu (pv 1) (pv 0) (λ_ _=>O)) zC)))))
  (zG (zJ (zR G_law_rows_compare hr ∅ O (zA (pv 5) (zA (pv 6) zC)))))))))))))), ?_}
 walk_at "st";lk;intro p hp;refine xI (uP t f1) λk1 e1 i1 n1=>?_;refine xI (uP t' f2) λk2 e2 i2 n2=>?_;let o1:(zY t).ord<1000000:=by cases (zY t)<;>simp[C.ord]
 let o2:(zY t').ord<1000000:=by cases (zY t')<;>simp[C.ord]
 let g0:Same H (upd H p (.lst (wordsS.map V.str))):=zD hp _;let hpp:upd H p (.lst (wordsS.map V.str)) p=Y (.lst (wordsS.map V.str)):=zB;rw[show[V.str (A5 "nothing"),V.str (A5 "truth"),V.str (A5 "number"),V.str (A5 "text"),V.str (A5 "row"),V.str (A5 "record")]=wordsS.map V.str from O];generalize upd H p (.lst (wordsS.map V.str))=H1 at g0 hpp⊢;refine{nU {O,_,SqL.of hpp},v,_,O,(Rep.same g0 _ _ hv).ty,λH2 g2=>?_};refine{p,wordsS,k1,_,O,by rw[e1],SqL.of (g2 _ _ hpp),i1,n1,o1,nU {O,_,SqL.of (g2 _ _ hpp)},u,_,O,(Rep.same (g0.trans g2) _ _ hu').ty,λH3 g3=>?_};let gH:=g0.trans (g2.trans g3);refine{p,wordsS,k2,_,O,by rw[e2],SqL.of (g3 _ _ (g2 _ _ hpp)),i2,n2,o2,O, ?_}
 by_cases ho:(zY t).ord=(zY t').ord
 ·refine nEA false (by simp[ho]) (zOw {O, ?_})
  let zq:=q
  cases t with
  | non=>
   cases t' with
   | non=>exact iP (by simp[zY,C.ord]) (q _ gH)
   | _=>exact absurd ho (by simp[zY,C.ord])
  | bl b=>
   cases t' with
   | bl b'=>
    cases (show v=_ from hv);cases (show u=_ from hu');refine iN (by simp[zY,C.ord]) {_,O,iP (by simp[zY,C.ord]) {_,O,_,O,_,O,_,O, ?_}};let z:=q _ gH;rw[show wG (zY (.bl b)) (zY (.bl b'))=(if(b && !b')=true then 1 else 0)- (if(b' && !b)=true then 1 else 0) by cases b<;>cases b'<;>rfl] at z;exact z
   | _=>exact absurd ho (by simp[zY,C.ord])
  | int b=>
   cases t' with
   | int b'=>
    cases (show v=_ from hv);cases (show u=_ from hu');refine iN (by simp[zY,C.ord]) {_,O,iP (by simp[zY,C.ord]) {_,O,_,O,_,O,_,O, ?_}};let z:=q _ gH;rw[show wG (zY (.int b)) (zY (.int b'))=(if b'<b then 1 else 0)- (if b<b' then 1 else 0) by rw[zY,zY,wG];rfl] at z
    simpa using z
   | _=>exact absurd ho (by simp[zY,C.ord])
  | str b=>
   cases t' with
   | str b'=>
    cases (show v=_ from hv);cases (show u=_ from hu');refine iN (by simp[zY,C.ord]) {_,O,iP (by simp[zY,C.ord]) {_,O,_,O,_,O,_,O, ?_}};let z:=q _ gH;rw[show wG (zY (.str b)) (zY (.str b'))=(if b'<b then 1 else 0)- (if b<b' then 1 else 0) by rw[zY,zY,wG];rfl] at z;simp only[vB,rW];exact z
   | _=>exact absurd ho (by simp[zY,C.ord])
  | lst us=>
   cases t' with
   | lst ws=>
    ext yM hv a xs r2_ ha hx;subst r2_;ext yM hu' b ys r2_ hb hy;subst r2_;refine iN (by simp[zY,C.ord]) {_,O,iN (by simp[zY,C.ord]) {O,iP (by simp[zY,C.ord]) ?_}};let w1':i9 us+1<=n+1:=w1;let w2':i9 ws+1<=n+1:=w2;refine{a,b,xs,ys,us,ws,O,gH _ _ ha,gH _ _ hb,Reps.same gH _ _ hx,Reps.same gH _ _ hy,f1.2,f2.2,f1.1,f2.1,∅,∅,λH4 g4=>?_};let z:=q _ (gH.trans g4);rw[zY,zY,wG] at z;exact z
   | _=>exact absurd ho (by simp[zY,C.ord])
  | dic ks us=>
   cases t' with
   | dic ks' ws=>
    ext yE hv a ps r2_ ha hk hx;subst r2_;ext yE hu' b ps' r2_ hb hk' hy;subst r2_;ext wC f1 nk h64 hle fx;ext wC f2 nk' h64' hle' fy;let w1':i9 us+2<=n+1:=w1;let w2':i9 ws+2<=n+1:=w2;let r1:=zNy hle;let r2:=zNy hle';let l1:=zDx ks us;let l2:=zDx ks' ws;refine iN (by simp[zY,C.ord]) {_,O,iN (by simp[zY,C.ord]) {O,iN (by simp[zY,C.ord]) ?_}};refine jY a O ps (.inl (gH _ _ ha)) (ks.map tx) (nAA (by rw[hk,sB];rfl) (by rw[mL];exact h64) (λl ss hl hp1 hs1=>{{_,SqL.of zB},zDo (gH _ _ ha) hl h64 nk hk (Reps.same gH _ _ hx) hp1 hs1 O λp1 zs1 H4 g4 hp4 hr4=>?_}));let gH4:=gH.trans g4;refine jY b O ps' (.inl (gH4 _ _ hb)) (ks'.map tx) (nAA (by rw[hk',sB];rfl) (by rw[mL];exact h64') (λl ss hl hp1 hs1=>{{_,SqL.of zB},zDo (gH4 _ _ hb) hl h64' nk' hk' (Reps.same gH4 _ _ hy) hp1 hs1 O λp2 zs2 H5 g5 hp5 hr5=>?_}));refine{p1,p2,zs1,zs2,gI ks us,gI ks' ws,O,g5 _ _ hp4,hp5,Reps.same g5 _ _ hr4,hr5,zKl hle fx,zKl hle' fy,∅,∅,∅,∅,λH6 g6=>?_};let z:=q _ (gH4.trans (g5.trans g6));rw[zY,zY,wG,<-zEk,<-zEk] at z;exact z
   | _=>exact absurd ho (by simp[zY,C.ord])
  | tup us=>exact f1.elim
 ·refine nEA true ?_ (zLf {_,O,_,O,_,O,_,O, ?_})
  ·simpa [Int.ofNat_inj] using ho
  ·let z:=q H3 gH
   rw[zDh _ _ ho,sgI] at z;exact z
theorem zWw(F:Fun K "_law_compare" "_law_compare" zRt f fd)(B:Bl2 mg)(G_law_kind:Dn P w K mg base 1 "_law_kind" ["_law_thing"] zDq):
  FnOk P w K mg base CX0 2 f fd ["_law_one","_law_other"] (zKm 0):=by
 refine F.ok scCmp (λvs H Q E h=>?_) (λc A o s H vs Q E hr h=>?_)
 ·ext yV h v u t t' r4_ _
  subst r4_
  rfl
 ext yV h v u t t' r4_ z_;ext yO z_ hv hu' f1 f2 w1 z_;ext oA z_ w2 q;subst r4_;let nd:=scCmp.nd;let hu:=vA hr;refine{_,(zF (pS 2 nd (zT (zA zN (zA zN (zA zN (zA zN (zA zN (zA zN zC))))))))
  (zF (pS 3 nd (qT pA sP tU zAr (pv 2) (zA (zR G_law_kind hr ∅ O (zA (pv 0) zC)) zC)))
  (zF (pS 4 nd (qT pA sP tU zAr (pv 2) (zA (zR G_law_kind hr ∅ O (zA (pv 1) zC)) zC)))
  (zF (zW (zU zJq (pv 3) (pv 4) (zQ _)) (zG (zJ (zH wU (yJ xM O B.int vF (zA (yR kE (pv 3) (pv 4) (zQ _)) zC)) (yJ xM O B.int vF (zA (yR jA (pv 3) (pv 4) (zQ _)) zC))))) zL)
  (zF (zW (zU xC (pv 3) zE (zQ _)) (zG (zJ zE)) zL)
  (zF (zW (zU jA (pv 3) zE (zQ _)) (zG (zJ (zH wU (yJ xM O B.int vF (zA (yR zMu (pv 0) (pv 1) (zQ _)) zC)) (yJ xM O B.int vF (zA (yR zNl (pv 0) (pv 1) (zQ _)) zC))))) zL)
  zGm)))))), ?_}
 walk_at "st";lk;intro p hp;refine xI (uP t f1) λk1 e1 i1 n1=>?_;refine xI (uP t' f2) λk2 e2 i2 n2=>?_;let o1:(zY t).ord<1000000:=by cases (zY t)<;>simp[C.ord]
 let o2:(zY t').ord<1000000:=by cases (zY t')<;>simp[C.ord]
 let g0:Same H (upd H p (.lst (wordsS.map V.str))):=zD hp _;let hpp:upd H p (.lst (wordsS.map V.str)) p=Y (.lst (wordsS.map V.str)):=zB;rw[show[V.str (A5 "nothing"),V.str (A5 "truth"),V.str (A5 "number"),V.str (A5 "text"),V.str (A5 "row"),V.str (A5 "record")]=wordsS.map V.str from O];generalize upd H p (.lst (wordsS.map V.str))=H1 at g0 hpp⊢;refine{nU {O,_,SqL.of hpp},v,_,O,(Rep.same g0 _ _ hv).ty,λH2 g2=>?_};refine{p,wordsS,k1,_,O,by rw[e1],SqL.of (g2 _ _ hpp),i1,n1,o1,nU {O,_,SqL.of (g2 _ _ hpp)},u,_,O,(Rep.same (g0.trans g2) _ _ hu').ty,λH3 g3=>?_};let gH:=g0.trans (g2.trans g3);refine{p,wordsS,k2,_,O,by rw[e2],SqL.of (g3 _ _ (g2 _ _ hpp)),i2,n2,o2,O, ?_}
 by_cases ho:(zY t).ord=(zY t').ord
 ·refine nEA false (by simp[ho]) (zOw {O, ?_})
  let zq:=q
  cases t with
  | non=>
   cases t' with
   | non=>exact iP (by simp[zY,C.ord]) (q _ gH)
   | _=>exact absurd ho (by simp[zY,C.ord])
  | bl b=>
   cases t' with
   | bl b'=>
    cases (show v=_ from hv);cases (show u=_ from hu');refine iN (by simp[zY,C.ord]) {_,O,iP (by simp[zY,C.ord]) {_,O,_,O,_,O,_,O, ?_}};let z:=q _ gH;rw[show wG (zY (.bl b)) (zY (.bl b'))=(if(b && !b')=true then 1 else 0)- (if(b' && !b)=true then 1 else 0) by cases b<;>cases b'<;>rfl] at z;exact z
   | _=>exact absurd ho (by simp[zY,C.ord])
  | int b=>
   cases t' with
   | int b'=>
    cases (show v=_ from hv);cases (show u=_ from hu');refine iN (by simp[zY,C.ord]) {_,O,iP (by simp[zY,C.ord]) {_,O,_,O,_,O,_,O, ?_}};let z:=q _ gH;rw[show wG (zY (.int b)) (zY (.int b'))=(if b'<b then 1 else 0)- (if b<b' then 1 else 0) by rw[zY,zY,wG];rfl] at z
    simpa using z
   | _=>exact absurd ho (by simp[zY,C.ord])
  | str b=>
   cases t' with
   | str b'=>
    cases (show v=_ from hv);cases (show u=_ from hu');refine iN (by simp[zY,C.ord]) {_,O,iP (by simp[zY,C.ord]) {_,O,_,O,_,O,_,O, ?_}};let z:=q _ gH;rw[show wG (zY (.str b)) (zY (.str b'))=(if b'<b then 1 else 0)- (if b<b' then 1 else 0) by rw[zY,zY,wG];rfl] at z;simp only[vB,rW];exact z
   | _=>exact absurd ho (by simp[zY,C.ord])
  | lst us=>exact absurd w1 (aP _)
  | dic ks us=>exact absurd w1 (aP _)
  | tup us=>exact f1.elim
 ·refine nEA true ?_ (zLf {_,O,_,O,_,O,_,O, ?_})
  ·simpa [Int.ofNat_inj] using ho
  ·let z:=q H3 gH
   rw[zDh _ _ ho,sgI] at z;exact z
theorem zMy{f':V1}{fd':V7}(F:Fun K "_law_compare" "_law_compare" zRt f fd)(F':Fun K "_law_rows_compare" "_law_rows_compare" zOc f' fd')(B:Bl2 mg)(Gk:Dn P w K mg base 1 "_law_kind" ["_law_thing"] zDq)
  (b:Binds K fd ["_law_one","_law_other"] []) (kp:A7 K (.ref f)=true) (m:mg "_law_compare" =Y (.ref f)) (b':Binds K fd' ["_law_one","_law_other"] []) (kp':A7 K (.ref f')=true) (m':mg "_law_rows_compare" =Y (.ref f')):
  ∀n:Nat,FnOk P w K mg base CX0 (2+2*n) f fd ["_law_one","_law_other"] (zKm n)
 | 0=>zWw F B Gk
 | n+1=>zWe F B Gk {_,_,zXs F' B {_,_,zMy F F' B Gk b kp m b' kp' m' n,b,kp,m},b',kp',m'}
abbrev zTx:V6:=top 51
def zLl(n:Nat):Sp:=λvs H Q _=>∃(v u:V)(t t':T),vs= [v,u]/\Rep H v t/\Rep H u t'/\T.few t/\T.few t'/\m8 t<=n/\m8 t'<=n/\∀H',Same H H'->Q (.bl (decide (wG (zY t) (zY t')=0))) H'
theorem scSame:zS ["_law_one","_law_other"] ["_law_one","_law_other"] (zK zTx):=by walk_at "sc"
theorem zPy:∀{t t':T},T.few t->T.few t'->wE (tyT t)≠wE (tyT t')->wG (zY t) (zY t')≠0:=by
 intro t t' h h' ne;let ho:(zY t).ord≠(zY t').ord:=by
  intro e;apply ne;cases t<;>cases t'<;>first | rfl | exact h.elim | exact h'.elim | exact absurd e (by simp[zY,C.ord])
 rw[zDh _ _ ho,sgI];split<;>split<;>lia
theorem zXb{n:Nat}(F:Fun K "_law_same" "_law_same" zTx f fd)(B:Bl2 mg)(G_law_kind:Dn P w K mg base 1 "_law_kind" ["_law_thing"] zDq)(G_law_compare:Dn P w K mg base (2+2*n) "_law_compare" ["_law_one","_law_other"] (zKm n)):
  FnOk P w K mg base CX0 (2+2*n+1) f fd ["_law_one","_law_other"] (zLl n):=by
 refine F.ok scSame (λvs H Q E h=>?_) (λc A o s H vs Q E hr h=>?_)
 ·ext yV h v u t t' r4_ _
  subst r4_
  rfl
 ext yV h v u t t' r4_ z_;ext yO z_ hv hu' f1 f2 w1 z_;ext oA z_ w2 q;subst r4_;let nd:=scSame.nd;refine nEA _ (zG (zJ (vK (zMi (zHt (zR G_law_kind hr ∅ O (zA (pv 0) zC)))) (vK (yR xC (zR G_law_kind hr ∅ O (zA (pv 0) zC)) (zR G_law_kind hr ∅ O (zA (pv 1) zC)) (zQ _)) (vZ (yR xC (zR G_law_compare hr ∅ O (zA (pv 0) (zA (pv 1) zC))) zE (zQ _))))))) ?_;walk_at "st";lk;obtain⟨k1,e1,-,-⟩:=uP t f1;obtain⟨k2,e2,-,-⟩:=uP t' f2;refine{v,_,O,hv.ty,λH1 g1=>{true,by rw[e1];rfl,zLf {v,_,O,(Rep.same g1 _ _ hv).ty,λH2 g2=>{u,_,O,(Rep.same (g1.trans g2) _ _ hu').ty,λH3 g3=>?_}}}};let gH:=g1.trans (g2.trans g3);rw[e1,e2];refine{O, ?_}
 by_cases he:V.str k1=V.str k2
 ·refine iP he {v,u,t,t',O,Rep.same gH _ _ hv,Rep.same gH _ _ hu',f1,f2,w1,w2,λH4 g4=>{O, ?_}}
  let z:=q _ (gH.trans g4)
  simpa using z
 ·let z:=q _ gH
  rw[nG (zPy f1 f2 (by rw[e1,e2];exact he))] at z;exact iN he z
end
mutual
def o6:T->Prop
 | .str _=>True
 | .lst us=>m3 us
 | .tup us=>m3 us
 | .dic ks us=>ks.Nodup/\ks...*=us...*/\True/\m3 us
 | .non=>True
 | .bl _=>True
 | .int _=>True
def m3:List T->Prop
 | []=>True
 | u::us=>o6 u/\m3 us
end
theorem k6{t:T}:∀{ts:List T},m3 ts->t∈ts->o6 t
 | [],_,h=>nomatch h
 | u::ts,h,hm=>(mD.mp hm).elim (λe=>e▸h.1) (k6 h.2)
abbrev zLe:V6:=top 52
abbrev zEn:V6:=top 53
abbrev zIm:V6:=top 54
abbrev zAx:V6:=top 55
mutual
noncomputable def gL:T->Nat
 | .lst us=>vC us+1
 | .dic _ us=>vC us+1
 | .tup _=>0
 | .non=>0
 | .bl _=>0
 | .int _=>0
 | .str _=>0
noncomputable def vC:List T->Nat
 | []=>0
 | u::us=>max (gL u) (vC us)
end
mutual
noncomputable def lsz:T->Nat
 | .lst us=>jN us+1
 | .dic _ us=>jN us+1
 | .tup _=>1
 | .non=>1
 | .bl _=>1
 | .int _=>1
 | .str _=>1
noncomputable def jN:List T->Nat
 | []=>0
 | u::us=>lsz u+jN us
end
mutual
noncomputable def lnar:T->Bool
 | .lst us=>decide (us...*<=60)&& xZ us
 | .dic ks us=>decide (ks...*<=30)&& xZ us
 | .tup _=>true
 | .non=>true
 | .bl _=>true
 | .int _=>true
 | .str _=>true
noncomputable def xZ:List T->Bool
 | []=>true
 | u::us=>lnar u && xZ us
end
noncomputable def wN:T->List T
 | .lst us=>us
 | .dic _ us=>us
 | _=>[]
noncomputable def wM:T->Bool
 | .lst _=>true
 | .dic _ _=>true
 | _=>false
theorem zNv:∀(l:List T)(b:Nat),((l.map λt=>(gL t:Int)).foldl mxI (b:Int))=((max b (vC l):Nat):Int)
 | [],b=>by
  show(b:Int)=((max b 0:Nat):Int)
  lia
 | u::l,b=>by
  let e:mxI (b:Int) (gL u:Int)=((max b (gL u):Nat):Int):=by
   unfold mxI
   by_cases h:gL u>b
   ·rw[mQ ∅,Nat.max_eq_right ∅]
   ·rw[mK ∅,Nat.max_eq_left ∅]
  rw[mZ,tE,e,zNv l,Nat.max_assoc]
  rfl
theorem mx_l(us:List T):mxD 0 (us.map λt=>(gL t:Int))=(vC us:Int):=by
 cases us with
 | nil=>rfl
 | cons u us=>exact zNv us (gL u)
theorem zYx:∀us:List T,(us.map λt=>(lsz t:Int)).sum=(jN us:Int)
 | []=>rfl
 | u::us=>by
  rw[mZ,List.sum_cons,zYx us];show(lsz u:Int)+(jN us:Int)=((lsz u+jN us:Nat):Int)
  lia
theorem zZh:∀us:List T,(us.map lnar).all id=xZ us
 | []=>rfl
 | u::us=>by
  rw[mZ,List.all_cons,zZh us];rfl
theorem zOn(t:T):(yA (tyT t) "list" || yA (tyT t) "dict")=wM t:=by
 cases t<;>(simp only[tyT,wM];decide+kernel)
theorem kX{t:T}(h:wM t=true):T.dep t=T.deps (wN t)+1/\T.sz t=T.szs (wN t)+1/\gL t=vC (wN t)+1/\lsz t=jN (wN t)+1:=by
 cases t<;>first | exact⟨O,O,O,O⟩| cases h
theorem zLx{t:T}(h:wM t=true)(g:o6 t):m3 (wN t):=by
 cases t with
 | lst us=>exact g
 | dic ks us=>exact g.2.2.2
 | _=>cases h
theorem zLa{t:T}(h:wM t=false):gL t=0/\lsz t=1/\lnar t=true:=by
 cases t<;>first | exact⟨O,O,O⟩| cases h
section
variable{P:V3}{w:V4}{K:A6}{mg:Str->Option V0}{base:V5}{f:V1}{fd:V7}
def jS:Sp:=λvs H Q _=>∃(v:V)(t:T),vs= [v]/\Rep H v t/\o6 t/\wM t=true/\T.sz t<=20000/\∀l ys H',Same H H'->H' l=Y (.lst ys)->Reps H' ys (wN t)->Q (.ref l) H'
theorem scInner:zS ["_law_thing"] ["_law_thing"] (zK zLe):=by walk_at "sc"
theorem zUz(F:Fun K "_law_inner" "_law_inner" zLe f fd)(B:Bl mg):FnOk P w K mg base CX0 1 f fd ["_law_thing"] jS:=by
 refine F.ok scInner (λvs H Q E h=>?_) (λc A o s H vs Q E hr h=>?_)
 ·ext xV h v t r2_ _
  subst r2_
  rfl
 ext yE h v t r2_ hv hg z_;ext oAA z_ hh hz q;subst r2_;let nd:=scInner.nd;let hu:=vA hr;refine{_,(zF (zW (yF (pI B.isinstance zI B.dict xA (pv 0))) (zG (zJ (zCz (xP (own:=["_law_name"]) (F:=[("_law_thing",0)]) {O,tb_g%,tb_g%,tb_g%,(.cons O O O .nil)} O (zHz (pv 0)) (λ_ _ _ _=>yI (i:=0) (by show(wB ["_law_name"] [("_law_thing",0)]).Nodup;decide+kernel) O (nU O)) (λ_ _ _ _=>yX) (λ_ _ _ _=>(jU hu (pv 1) (pv 0) (λ_ _=>O))))))) zL)
  (zG (zJ (pv 0)))), ?_}
 walk_at "st";lk;refine nEA _ hv.ty ?_
 cases t with
 | lst us=>
  ext yM hv a xs r2_ ha hx;subst r2_;exact iN (show¬yA "list" "dict" =true by decide+kernel) (q a xs H (Same.refl _) ha hx)
 | dic ks us=>
  ext yE hv d ps r2_ hdd hk hs;subst r2_;let hl0:=c8 us;let hz':T.szs us+1<=20000:=hz;let hpl:ps...*=us...*:=by let:=hs...*;rwa [mL] at this
  let nkp:(ps.map (·.1)).Nodup:=by rw[hk];exact kO hg.1
  refine iP (show yA "dict" "dict" =true by decide+kernel) ?_;refine zVl d O ps (.inl {hdd,λo=>?_});let hsf:Reps (upd H d (.frz o (.dK ps))) (ps.map (·.2)) us:=j0 hdd hk hs;refine zBj (λi ys H'=>Same (upd H d (.frz o (.dK ps))) H'/\ys=(ps.take i).map (·.2)) (by rw[mS];lia) {Same.refl _,O} (λi ys H' h=>h.1 _ _ zB) ?_ ?_
  ·rintro i kv ys H' hkv _ ⟨g,rfl⟩
   lk;refine zHv kv.2 (.inl {ps,kv.1, .inr {o,g _ _ zB},O,(uQ nkp hkv).symm}) g ?_;rw[yN hkv,nJ];rfl
  ·rintro ys H' _ ⟨g,rfl⟩ p hp'
   rw[pE];let gs:Same H (thaw H (upd H' p (.lst (ps.map (·.2))))):=kM (o:=o) hdd (g.trans (zD hp' _));exact q p _ _ gs (wZ zB (by intro o v z;cases z)) (Reps.same gs _ _ hs)
 | _=>cases hh
def zAv(n:Nat):Sp:=λvs H Q _=>∃(v:V)(t:T),vs= [v]/\Rep H v t/\o6 t/\T.dep t<n/\T.sz t<=20000/\∀H',Same H H'->Q (.int (gL t)) H'
theorem scDepth:zS ["_law_thing"] ["_law_thing"] (zK zEn):=by walk_at "sc"
theorem zQm{n:Nat}(F:Fun K "_law_depth" "_law_depth" zEn f fd)(B:Bl2 mg)(G_law_inner:Dn P w K mg base 1 "_law_inner" ["_law_thing"] jS)(G_law_depth:Dn P w K mg base (2+n) "_law_depth" ["_law_thing"] (zAv n)):FnOk P w K mg base CX0 (2+n+1) f fd ["_law_thing"] (zAv (n+1)):=by
 refine F.ok scDepth (λvs H Q E h=>?_) (λc A o s H vs Q E hr h=>?_)
 ·ext xV h v t r2_ _
  subst r2_
  rfl
 ext yE h v t r2_ hv hg z_;ext oAA z_ hd hz q;subst r2_;let nd:=scDepth.nd;refine{_,(zF (zW (wL (yF (zO (qA (T:="list") (U:="dict") ∎ ∎) O B.isinstance zI (zA (pv 0) (zA (yZ (zA (xL (v:=.ty "list") O B.list yU O) (zA (xL (v:=.ty "dict") O B.dict xA O) zC))) zC))))) (zG (zJ zE)) zL)
  (zG (zJ (zH yT zE (zVs O O B.max (zA (xP (own:=["_law_one"]) (F:=[]) {O,tb_g%,tb_g%,tb_g%, .nil} O (xQ (zR G_law_inner hr ∅ O (zA (pv 0) zC))) (λ_ _ _ _=>yI (i:=0) (by show(wB ["_law_one"] []).Nodup;decide+kernel) O (nU O)) (λ_ _ _ _=>yX) (λ_ _ _ _=>(zR G_law_depth hr ∅ O (zA (pv 0) zC)))) zC) zE))))), ?_}
 walk_at "st";lk;intro p hp;let s1:=zD hp (.tup [V.ty "list",V.ty "dict"]);refine qQ v _ p ⟨O,O⟩ zB (nA (gN s1 hv.ty) ?_);rw[zOn]
 by_cases hh:wM t=true
 ·refine iN (by rw[hh];decide) {v,t,O,Rep.same s1 _ _ hv,hg,hh,hz,λl ys H1 g1 hl hR=>?_}
  refine wC (kX hh) λk1 k2 k3 k4=>?_;let hgd:=zLx hh hg;let hlen:=hR...*;let hle:=c8 (wN t);refine zHv l O {_,SqL.of hl} (wO (K:=K) (xs:=ys) (λi zs H2=>Same H1 H2/\zs=(((wN t).take i).map λt=>(gL t:Int)).map V.int) (by rw[mS];lia) {Same.refl _,O} (λi zs H2 _ h=>SqL.of (h.1 _ _ hl)) ?_ ?_)
  ·rintro i x zs H2 hx _ ⟨g2,rfl⟩
   refine oEA (hR.get hx) λu hu hr'=>?_;let hm:=mP hu;let d1:=b8 hm;let d2:=c6 hm;lk;refine{x,u,O,Rep.same g2 _ _ hr',k6 hgd hm,∅,∅,λH3 g3=>{g2.trans g3, ?_}};rw[yN hu,nJ,nJ];rfl
  ·rintro zs H2 _ ⟨g2,rfl⟩ p' hp'
   rw[hlen,pE];refine qF p' O _ (SqL.of zB) ?_;rw[mx_l];rw[k3] at q;let e:(1:Int)+(vC (wN t):Int)=((vC (wN t)+1:Nat):Int):=by lia
   rw[e];exact q _ (s1.trans (g1.trans (g2.trans (zD hp' _))))
 ·rw[bS] at hh
  refine oAA (zLa hh) λn1 n2 n3=>?_;refine iP hh ?_;rw[n1] at q;exact q _ s1
theorem zQg(F:Fun K "_law_depth" "_law_depth" zEn f fd):FnOk P w K mg base CX0 2 f fd ["_law_thing"] (zAv 0):=by
 refine F.ok scDepth (λvs H Q E h=>?_) (λc A o s H vs Q E hr h=>?_)
 ·ext xV h v t r2_ _
  subst r2_
  rfl
 ext yE h v t r2_ hv hg z_;ext oA z_ hd _;subst r2_;exact absurd hd (rY _)
theorem zFl(F:Fun K "_law_depth" "_law_depth" zEn f fd)(B:Bl2 mg)(G:Dn P w K mg base 1 "_law_inner" ["_law_thing"] jS)(b:Binds K fd ["_law_thing"] [])(kp:A7 K (.ref f)=true)(m:mg "_law_depth" =Y (.ref f)):
  ∀n:Nat,FnOk P w K mg base CX0 (2+n) f fd ["_law_thing"] (zAv n)
 | 0=>zQg F
 | n+1=>zQm F B G {_,_,zFl F B G b kp m n,b,kp,m}
def zDp(n:Nat):Sp:=λvs H Q _=>∃(v:V)(t:T),vs= [v]/\Rep H v t/\o6 t/\T.dep t<n/\T.sz t<=20000/\∀H',Same H H'->Q (.int (lsz t)) H'
theorem scSize:zS ["_law_thing"] ["_law_thing"] (zK zIm):=by walk_at "sc"
theorem zUv{n:Nat}(F:Fun K "_law_size" "_law_size" zIm f fd)(B:Bl mg)(G_law_inner:Dn P w K mg base 1 "_law_inner" ["_law_thing"] jS)(G_law_size:Dn P w K mg base (2+n) "_law_size" ["_law_thing"] (zDp n)):FnOk P w K mg base CX0 (2+n+1) f fd ["_law_thing"] (zDp (n+1)):=by
 refine F.ok scSize (λvs H Q E h=>?_) (λc A o s H vs Q E hr h=>?_)
 ·ext xV h v t r2_ _
  subst r2_
  rfl
 ext yE h v t r2_ hv hg z_;ext oAA z_ hd hz q;subst r2_;let nd:=scSize.nd;refine{_,(zF (zW (wL (yF (zO (qA (T:="list") (U:="dict") ∎ ∎) O B.isinstance zI (zA (pv 0) (zA (yZ (zA (xL (v:=.ty "list") O B.list yU O) (zA (xL (v:=.ty "dict") O B.dict xA O) zC))) zC))))) (zG (zJ zE)) zL)
  (zG (zJ (zH yT zE (zO (zRw O) O B.sum yBa (zA (xP (own:=["_law_one"]) (F:=[]) {O,tb_g%,tb_g%,tb_g%, .nil} O (xQ (zR G_law_inner hr ∅ O (zA (pv 0) zC))) (λ_ _ _ _=>yI (i:=0) (by show(wB ["_law_one"] []).Nodup;decide+kernel) O (nU O)) (λ_ _ _ _=>yX) (λ_ _ _ _=>(zR G_law_size hr ∅ O (zA (pv 0) zC)))) zC)))))), ?_}
 walk_at "st";lk;intro p hp;let s1:=zD hp (.tup [V.ty "list",V.ty "dict"]);refine qQ v _ p ⟨O,O⟩ zB (nA (gN s1 hv.ty) ?_);rw[zOn]
 by_cases hh:wM t=true
 ·refine iN (by rw[hh];decide) {v,t,O,Rep.same s1 _ _ hv,hg,hh,hz,λl ys H1 g1 hl hR=>?_}
  refine wC (kX hh) λk1 k2 k3 k4=>?_;let hgd:=zLx hh hg;let hlen:=hR...*;let hle:=c8 (wN t);refine zHv l O {_,SqL.of hl} (wO (K:=K) (xs:=ys) (λi zs H2=>Same H1 H2/\zs=(((wN t).take i).map λt=>(lsz t:Int)).map V.int) (by rw[mS];lia) {Same.refl _,O} (λi zs H2 _ h=>SqL.of (h.1 _ _ hl)) ?_ ?_)
  ·rintro i x zs H2 hx _ ⟨g2,rfl⟩
   refine oEA (hR.get hx) λu hu hr'=>?_;let hm:=mP hu;let d1:=b8 hm;let d2:=c6 hm;lk;refine{x,u,O,Rep.same g2 _ _ hr',k6 hgd hm,∅,∅,λH3 g3=>{g2.trans g3, ?_}};rw[yN hu,nJ,nJ];rfl
  ·rintro zs H2 _ ⟨g2,rfl⟩ p' hp'
   rw[hlen,pE];refine qF p' O _ (SqL.of zB) ?_;rw[zYx];rw[k4] at q;let e:(1:Int)+(jN (wN t):Int)=((jN (wN t)+1:Nat):Int):=by lia
   rw[e];exact q _ (s1.trans (g1.trans (g2.trans (zD hp' _))))
 ·rw[bS] at hh
  refine oAA (zLa hh) λn1 n2 n3=>?_;refine iP hh ?_;rw[n2] at q;exact q _ s1
theorem zSr(F:Fun K "_law_size" "_law_size" zIm f fd):FnOk P w K mg base CX0 2 f fd ["_law_thing"] (zDp 0):=by
 refine F.ok scSize (λvs H Q E h=>?_) (λc A o s H vs Q E hr h=>?_)
 ·ext xV h v t r2_ _
  subst r2_
  rfl
 ext yE h v t r2_ hv hg z_;ext oA z_ hd _;subst r2_;exact absurd hd (rY _)
theorem zJi(F:Fun K "_law_size" "_law_size" zIm f fd)(B:Bl mg)(G:Dn P w K mg base 1 "_law_inner" ["_law_thing"] jS)(b:Binds K fd ["_law_thing"] [])(kp:A7 K (.ref f)=true)(m:mg "_law_size" =Y (.ref f)):
  ∀n:Nat,FnOk P w K mg base CX0 (2+n) f fd ["_law_thing"] (zDp n)
 | 0=>zSr F
 | n+1=>zUv F B G {_,_,zJi F B G b kp m n,b,kp,m}
def kI(n:Nat):Sp:=λvs H Q _=>∃(v:V)(t:T),vs= [v]/\Rep H v t/\o6 t/\T.dep t<n/\T.sz t<=20000/\∀H',Same H H'->Q (.bl (lnar t)) H'
theorem scNarrow:zS ["_law_thing"] ["_law_thing"] (zK zAx):=by walk_at "sc"
theorem zMa{n:Nat}(F:Fun K "_law_narrow" "_law_narrow" zAx f fd)(B:Bl mg)(G_law_inner:Dn P w K mg base 1 "_law_inner" ["_law_thing"] jS)(G_law_narrow:Dn P w K mg base (2+n) "_law_narrow" ["_law_thing"] (kI n)):FnOk P w K mg base CX0 (2+n+1) f fd ["_law_thing"] (kI (n+1)):=by
 refine F.ok scNarrow (λvs H Q E h=>?_) (λc A o s H vs Q E hr h=>?_)
 ·ext xV h v t r2_ _
  subst r2_
  rfl
 ext yE h v t r2_ hv hg z_;ext oAA z_ hd hz q;subst r2_;let nd:=scNarrow.nd;refine{_,(zF (zW (wL (yF (zO (qA (T:="list") (U:="dict") ∎ ∎) O B.isinstance zI (zA (pv 0) (zA (yZ (zA (xL (v:=.ty "list") O B.list yU O) (zA (xL (v:=.ty "dict") O B.dict xA O) zC))) zC))))) (zG (zJ qB)) zL)
  (zF (zW (zU kE (zO gP O B.len yW (zA (pv 0) zC)) (yB zP (zT (zA zE (zA zE zC))) (yJ xM O B.int vF (zA (pI B.isinstance zI B.dict xA (pv 0)) zC)) (λ_ _=>O)) (zQ _)) (zG (zJ qB)) zL)
  (zG (zJ (zO (uB O) O B.all zEc (zA (xP (own:=["_law_one"]) (F:=[]) {O,tb_g%,tb_g%,tb_g%, .nil} O (xQ (zR G_law_inner hr ∅ O (zA (pv 0) zC))) (λ_ _ _ _=>yI (i:=0) (by show(wB ["_law_one"] []).Nodup;decide+kernel) O (nU O)) (λ_ _ _ _=>yX) (λ_ _ _ _=>(zR G_law_narrow hr ∅ O (zA (pv 0) zC)))) zC)))))), ?_}
 walk_at "st";lk;intro p hp;let s1:=zD hp (.tup [V.ty "list",V.ty "dict"]);refine qQ v _ p ⟨O,O⟩ zB (nA (gN s1 hv.ty) ?_);rw[zOn]
 by_cases hh:wM t=true
 ·refine iN (by rw[hh];decide) ?_
  refine wC (kX hh) λk1 k2 k3 k4=>?_;let hgd:=zLx hh hg;let hle:=c8 (wN t);let go:∀H2,Same H H2->lnar t=xZ (wN t)->jS [v] H2 (λx H1=>∃a,x=V.ref a/\(∃xs,SqL K H1 a xs)/\wX [A5 "_law_one"] [] (qV 0) zBe (jV (kI n) [] E0 (xH (vY 0) qW)) [Y v]
    (λx H1=>∃p,x=V.ref p/\∃x,SqL K H1 p (List.map V.bl x)/\Q (V.bl (x.all id)) H1) (Itl K a) H1) E0:=by
   intro H2 g2 hq;refine{v,t,O,Rep.same g2 _ _ hv,hg,hh,hz,λl ys H1 g1 hl hR=>?_};let hlen:=hR...*;refine zHv l O {_,SqL.of hl} (wO (K:=K) (xs:=ys) (λi zs H2=>Same H1 H2/\zs=(((wN t).take i).map lnar).map V.bl) (by rw[mS];lia) {Same.refl _,O} (λi zs H2 _ h=>SqL.of (h.1 _ _ hl)) ?_ ?_)
   ·rintro i x zs H2 hx _ ⟨g2,rfl⟩
    refine oEA (hR.get hx) λu hu hr'=>?_;let hm:=mP hu;let d1:=b8 hm;let d2:=c6 hm;lk;refine{x,u,O,Rep.same g2 _ _ hr',k6 hgd hm,∅,∅,λH3 g3=>{g2.trans g3, ?_}};rw[yN hu,nJ,nJ];rfl
   ·rintro zs H3 _ ⟨g3,rfl⟩ p' hp'
    rw[hlen,pE];refine qF p' O _ (SqL.of zB) ?_;rw[zZh,<-hq];exact q _ (g2.trans (g1.trans (g3.trans (zD hp' _))))
  cases t with
  | lst us=>
   let hty:tyS H v=some "list":=hv.ty;let hvv:=hv;ext yM hvv a xs r2_ ha hx;subst r2_;let hxl:=hx...*;refine qF a O xs...* (.inl {xs,SqL.of (s1 _ _ ha),O}) (λp2 hp2=>?_);let s2:=s1.trans (zD hp2 (.lst [V.int 60,V.int 30]));refine nEA _ (gN s2 hty) ?_;rw[mK (show¬yA "list" "dict" =true by decide+kernel)];refine zZ (SqL.of zB) (zV (j:=0) O) {60,O, ?_}
   by_cases c:60<us...*
   ·refine iP ∅ ?_
    let e:lnar (.lst us)=false:=by show(decide (us...*<=60)&& xZ us)=false;rw[nG ∅];rfl
    rw[<-e];exact q _ s2
   ·refine iN ∅ (go _ s2 ?_)
    show(decide (us...*<=60)&& xZ us)=xZ us;rw[nP ∅];rfl
  | dic ks us=>
   let hty:tyS H v=some "dict":=hv.ty;let hvv:=hv;ext yE hvv a ps r2_ ha hk hx;subst r2_;let hxl:=hx...*;rw[mL] at hxl;let hkl:=hg.2.1;refine qF a O ps...* (.inr {ps,s1 _ _ ha,O}) (λp2 hp2=>?_);let s2:=s1.trans (zD hp2 (.lst [V.int 60,V.int 30]));refine nEA _ (gN s2 hty) ?_;rw[mQ (show yA "dict" "dict" =true by decide+kernel)];refine zZ (SqL.of zB) (zV (j:=1) O) {30,O, ?_}
   by_cases c:30<ks...*
   ·refine iP ∅ ?_
    let e:lnar (.dic ks us)=false:=by show(decide (ks...*<=30)&& xZ us)=false;rw[nG ∅];rfl
    rw[<-e];exact q _ s2
   ·refine iN ∅ (go _ s2 ?_)
    show(decide (ks...*<=30)&& xZ us)=xZ us;rw[nP ∅];rfl
  | _=>cases hh
 ·rw[bS] at hh
  refine oAA (zLa hh) λn1 n2 n3=>?_;refine iP hh ?_;rw[n3] at q;exact q _ s1
theorem zKw(F:Fun K "_law_narrow" "_law_narrow" zAx f fd):FnOk P w K mg base CX0 2 f fd ["_law_thing"] (kI 0):=by
 refine F.ok scNarrow (λvs H Q E h=>?_) (λc A o s H vs Q E hr h=>?_)
 ·ext xV h v t r2_ _
  subst r2_
  rfl
 ext yE h v t r2_ hv hg z_;ext oA z_ hd _;subst r2_;exact absurd hd (rY _)
theorem zDt(F:Fun K "_law_narrow" "_law_narrow" zAx f fd)(B:Bl mg)(G:Dn P w K mg base 1 "_law_inner" ["_law_thing"] jS)(b:Binds K fd ["_law_thing"] [])(kp:A7 K (.ref f)=true)(m:mg "_law_narrow" =Y (.ref f)):
  ∀n:Nat,FnOk P w K mg base CX0 (2+n) f fd ["_law_thing"] (kI n)
 | 0=>zKw F
 | n+1=>zMa F B G {_,_,zDt F B G b kp m n,b,kp,m}
abbrev zMh:V6:=top 56
noncomputable def vT(t:T):Bool:=lnar t && decide (gL t<9)&& decide (lsz t<201)
def spLG:Sp:=λvs H Q _=>∃(v:V)(t:T),vs= [v]/\Rep H v t/\o6 t/\T.dep t<20/\T.sz t<=20000/\∀H',Same H H'->Q (.bl (vT t)) H'
theorem scGoodT:zS ["_law_thing"] ["_law_thing"] (zK zMh):=by walk_at "sc"
theorem zVo(F:Fun K "_law_good" "_law_good" zMh f fd)(B:Bl mg)(G_law_narrow:Dn P w K mg base (2+20) "_law_narrow" ["_law_thing"] (kI 20))(G_law_depth:Dn P w K mg base (2+20) "_law_depth" ["_law_thing"] (zAv 20))(G_law_size:Dn P w K mg base (2+20) "_law_size" ["_law_thing"] (zDp 20)):FnOk P w K mg base CX0 23 f fd ["_law_thing"] spLG:=by
 refine F.ok scGoodT (λvs H Q E h=>?_) (λc A o s H vs Q E hr h=>?_)
 ·ext xV h v t r2_ _
  subst r2_
  rfl
 ext yE h v t r2_ hv hg z_;ext oAA z_ hd hz q;subst r2_;let nd:=scGoodT.nd;refine nEA _ (zG (zJ (vK (zR G_law_narrow hr ∅ O (zA (pv 0) zC)) (vK (yR jA (zR G_law_depth hr ∅ O (zA (pv 0) zC)) zE (zQ _)) (vZ (yR jA (zR G_law_size hr ∅ O (zA (pv 0) zC)) zE (zQ _))))))) ?_;walk_at "st";lk;refine{v,t,O,hv,hg,hd,hz,λH1 g1=>{lnar t,O, ?_}};unfold vT at q
 by_cases c1:lnar t=true
 ·rw[c1,tW] at q
  refine iP c1 {v,t,O,Rep.same g1 _ _ hv,hg,hd,hz,λH2 g2=>{_,O, ?_}}
  by_cases c2:gL t<9
  ·rw[nP c2,tW] at q
   refine iP ∅ {v,t,O,Rep.same (g1.trans g2) _ _ hv,hg,hd,hz,λH3 g3=>{_,O, ?_}};let e:decide ((lsz t:Int)<201)=decide (lsz t<201):=pX.mpr ∅;rw[e];exact q _ (g1.trans (g2.trans g3))
  ·rw[nG c2,sQ] at q
   exact iN ∅ (q _ (g1.trans g2))
 ·rw[bS] at c1
  rw[c1,sQ,sQ] at q;exact iN (by rw[c1];decide) (q _ g1)
abbrev sCp:V6:=top 17
def zUj(n:Nat):Sp:=λvs H Q _=>∃(v:V)(t:T),vs= [v]/\Rep H v t/\T.pure t/\T.dep t<n/\T.sz t<=100000/\∀v' H' D,Same H H'->Sp1 H' v' t D->(∀b∈D,H b=none)->Q v' H'
theorem scCp:zS ["thing"] ["thing"] (zK sCp):=by walk_at "sc"
theorem yAo{n:Nat}(F:Fun K "copied" "copied" sCp f fd)(B:Bl mg)(Gcopied:Dn P w K mg base (1+n) "copied" ["thing"] (zUj n)):FnOk P w K mg base CX0 (1+n+1) f fd ["thing"] (zUj (n+1)):=by
 refine F.ok scCp (λvs H Q E h=>?_) (λc A o s H vs Q E hr h=>?_)
 ·ext xV h v t r2_ _
  subst r2_
  rfl
 ext yE h v t r2_ hv hp z_;ext oAA z_ hd hz q;subst r2_;let nd:=scCp.nd;let hu:=vA hr;refine{_,(zF (zW (yF (pI B.isinstance zI B.list yU (pv 0))) (zG (zJ (xP (own:=["part"]) (F:=[]) {O,tb_g%,tb_g%,tb_g%, .nil} O (xQ (pv 0)) (λ_ _ _ _=>yI (i:=0) (by show(wB ["part"] []).Nodup;decide+kernel) O (nU O)) (λ_ _ _ _=>yX) (λ_ _ _ _=>(zR Gcopied hr ∅ O (zA (pv 0) zC)))))) zL)
  (zF (zW (yF (pI B.isinstance zI B.dict xA (pv 0))) (zG (zJ (yJ (zCf O) O B.dict xA (zA (zCz (xP (own:=["name","part"]) (F:=[]) {O,tb_g%,tb_g%,tb_g%, .nil} O (zUk (yCx bH PySem.F.slot_dict_items PySem.F.type_dict_items zQz (pv 0))) (λ_ _ _ _=>zXg (K:=K) (n:=2) O O (zBh (yI (i:=0) (by show(wB ["name","part"] []).Nodup;decide+kernel) O (nU O)) (zBh (yI (i:=1) (by show(wB ["name","part"] []).Nodup;decide+kernel) O (nU O)) zNd))) (λ_ _ _ _=>yX) (λ_ _ _ _=>(yZ (zA (pv 0) (zA (zR Gcopied hr ∅ O (zA (pv 1) zC)) zC)))))) zC)))) zL)
  (zF (zW (yF (pI B.isinstance zI B.tuple uC (pv 0))) (zG (zJ (yJ uV O B.tuple uC (zA (xP (own:=["part"]) (F:=[]) {O,tb_g%,tb_g%,tb_g%, .nil} O (xQ (pv 0)) (λ_ _ _ _=>yI (i:=0) (by show(wB ["part"] []).Nodup;decide+kernel) O (nU O)) (λ_ _ _ _=>yX) (λ_ _ _ _=>(zR Gcopied hr ∅ O (zA (pv 0) zC)))) zC)))) zL)
  (zG (zJ (pv 0)))))), ?_}
 walk_at "st";lk
 cases t with
 | lst us=>
  ext yM hv a xs r2_ ha hs;subst r2_;let hl0:=c8 us;let hz':T.szs us+1<=100000:=hz;let hd':T.deps us+1<n+1:=hd;refine nEA ("list") (vW ha) ?_;rw[mQ ∎];refine zHv a O {xs,SqL.of ha} (wO (K:=K) (xs:=xs) (λi ys H'=>Same H H'/\∃D,Sps H' ys (us.take i) D/\∀b∈D,H b=none) ?_ {Same.refl _,[],⟨O,O⟩,λ_ h=>(nomatch h)} (λi ys H' _ h=>SqL.of (h.1 _ _ ha)) ?_ ?_)
  ·let:=hs...*
   rw[mS];lia
  ·rintro i u ys H' hu' _ ⟨g,D,hR,hD⟩
   refine oEA (hs.get hu') λt' ht' hr'=>?_;let hm:=mP ht';let d1:=b8 hm;let d2:=c6 hm;lk;refine{u,t',O,Rep.same g u t' hr',i7 hp hm,∅,∅,λv' H4 D1 g4 hv' hD1=>{g.trans g4,D++D1, ?_,λb hb=>?_}}
   ·rw[yN ht']
    refine Sps.snoc hv' (hR.same g4) λb hb z=>?_;obtain⟨o,ho⟩:=Sps.there _ _ _ hR hb;rw[hD1 b z] at ho;cases ho
   ·rcases mU.mp hb with z | z
    ·exact hD b z
    ·exact yG g (hD1 b z)
  ·rintro ys H' _ ⟨g,D,hR,hD⟩ p hp'
   rw[hs...*,pE] at hR;let hpD:p∉D:=λz=>by
    obtain⟨o,ho⟩:=Sps.there _ _ _ hR z;rw[hp'] at ho;cases ho
   refine q (.ref p) _ (p::D) (g.trans (zD hp' _)) {p,ys,D,O,zB,O,hpD,hR.same (zD hp' _)} λb hb=>?_;rcases mD.mp hb with z | z
   ·rw[z];exact yG g hp'
   ·exact hD b z
 | dic ks us=>
  ext yE hv d ps r2_ hdd hk hs;subst r2_;obtain⟨nk,hp⟩:=hp;let hl0:=c8 us;let hz':T.szs us+1<=100000:=hz;let hd':T.deps us+1<n+1:=hd;let hpl:ps...*=us...*:=by let:=hs...*;rwa [mL] at this
  let nkp:(ps.map (·.1)).Nodup:=by rw[hk];exact kO nk
  refine nEA ("dict") (qX hdd) ?_;rw[mK ∎];refine nEA ("dict") (qX hdd) ?_;rw[mQ ∎];refine{.inr (.inr (.inl {O, .inl ⟨ps,hdd⟩})),d,ps,O,O, .inl hdd,λpv hpv=>?_};let s1:=zD hpv (zFc pv d);let hd1:=s1 _ _ hdd;refine qQ pv d ps O zB (.inl {hd1,λo=>?_});let gf:Same (upd H d (.frz o (.dK ps))) (upd (upd H pv (zFc pv d)) d (.frz o (.dK ps))):=λb u e=>by
   by_cases hb:b=d
   ·subst hb;rw[zB] at e⊢;exact e
   ·rw[zM hb] at e⊢
    exact s1 _ _ e
  let gH:∀b,upd (upd H pv (zFc pv d)) d (.frz o (.dK ps)) b=none->H b=none:=λb e=>by
   by_cases hb:b=d
   ·subst hb;rw[zB] at e;cases e
   ·rw[zM hb] at e
    exact yG s1 e
  let hsf:Reps (upd (upd H pv (zFc pv d)) d (.frz o (.dK ps))) (ps.map (·.2)) us:=j0 hd1 hk (Reps.same s1 _ _ hs);let hdf:upd (upd H pv (zFc pv d)) d (.frz o (.dK ps)) d=Y (.frz o (.dK ps)):=zB;generalize upd (upd H pv (zFc pv d)) d (.frz o (.dK ps))=Hf at gf gH hsf hdf⊢;refine zLg (K:=K) (λi ys H'=>Same Hf H'/\∃(kvs:List (Key×V))(D:List V1),kvs...*=ys...*/\kvs.map (·.1)=(ps.take i).map (·.1)/\Sps H' (kvs.map (·.2)) (us.take i) D/\(∀b∈D,H b=none)/\∀(j:Nat) kv,kvs[j]? =Y kv->∃a,ys[j]? =Y (.ref a)/\H' a=Y (.tup [kV kv.1,kv.2])) ?_ {Same.refl _,[],[],O,O,⟨O,O⟩,λ_ h=>(nomatch h),by intro j kv h;simp at h} (λi ys H' h=>h.1 _ _ hdf) ?_ ?_
  ·rw[mS];lia
  ·rintro i kv ys H' pt hkv _ ⟨g,kvs,D,l1,l2,hR,hD,ht⟩ hpt
   let s2:=zD hpt (.tup [kV kv.1,kv.2]);let g2:=g.trans s2;lk;obtain⟨t',ht',hr'⟩:=hsf.get (i:=i) (v:=kv.2) (by rw[nH,hkv];rfl);let hm:=mP ht';let d1:=b8 hm;let d2:=c6 hm;refine{kv.2,t',O,Rep.same g2 _ t' hr',i7 hp hm,∅,∅,λv' H1 D1 g1 hv' hD1 p hp1=>{(g2.trans g1).trans (zD hp1 _),kvs++ [(kv.1,v')],by simp[l1], ?_,D++D1, ?_,λb hb=>?_, ?_}}
   ·rw[yN hkv,nJ,nJ,l2];rfl
   ·rw[yN ht',nJ]
    refine Sps.snoc (hv'.same (zD hp1 _)) (hR.same (s2.trans (g1.trans (zD hp1 _)))) λb hb z=>?_;obtain⟨ob,ho⟩:=Sps.there _ _ _ (hR.same s2) hb;rw[hD1 b z] at ho;cases ho
   ·rcases mU.mp hb with z | z
    ·exact hD b z
    ·exact gH b (yG g2 (hD1 b z))
   ·intro j kv1 hj
    by_cases hlt:j<kvs...*
    ·rw[pL hlt] at hj
     refine oEA (ht j kv1 hj) λa e1 e2=>?_;exact nEA a (by rw[pL ∅];exact e1) (zD hp1 _ _ _ (g1 _ _ (s2 _ _ e2)))
    ·rw[pH ∅] at hj
     let hj0:j - kvs...*=0:=by
      let:=(mO.mp hj).1
      simpa using this
     rw[hj0] at hj;simp only[pY,Option.some.injEq] at hj;subst hj;exact nEA p (by rw[pH ∅,<-l1,hj0];rfl) zB
  ·rintro ys H' _ ⟨g,kvs,D,l1,l2,hR,hD,ht⟩ p hp'
   rw[hpl,pE] at hR;rw[pE] at l2;let gs:Same H (thaw H (upd H' p (.lst ys))):=kM (o:=o) hdd (gf.trans (g.trans (zD hp' _)));let hR2:Sps (thaw H (upd H' p (.lst ys))) (kvs.map (·.2)) us D:=(hR.same (zD hp' _)).thaw;refine jY p O ys (wZ zB (by intro o v z;cases z)) kvs (nAA l1 (λj kv hj=>?_) (λl hl=>?_))
   ·refine oEA (ht j kv hj) λa e1 e2=>?_
    exact nEA a e1 (wZ (zD hp' _ _ _ e2) (by intro o v z;cases z))
   ·let em:vQ [] kvs=kvs:=jE kvs [] (by rw[tZ,l2];exact nkp)
    rw[em];let hlD:l∉D:=λz=>by
     obtain⟨ob,ho⟩:=Sps.there _ _ _ hR2 z;rw[hl] at ho;cases ho
    refine q (.ref l) _ (l::D) (gs.trans (zD hl _)) {l,kvs,D,O,zB,l2.trans hk,O,hlD,hR2.same (zD hl _)} λb hb=>?_;rcases mD.mp hb with z | z
    ·rw[z];exact yG gs hl
    ·exact hD b z
 | tup us=>exact hp.elim
 | non=>exact{_,hv.ty,by rw[mK (by simp[tyT,yA])];exact{_,hv.ty,by rw[mK (by simp[tyT,yA])];exact{_,hv.ty,by rw[mK (by simp[tyT,yA])];exact q _ _ [] (Same.refl _) ⟨O,hv⟩ (λ_ h=>nomatch h)}}}
 | bl b=>exact{_,hv.ty,by rw[mK (by simp[tyT,yA])];exact{_,hv.ty,by rw[mK (by simp[tyT,yA])];exact{_,hv.ty,by rw[mK (by simp[tyT,yA])];exact q _ _ [] (Same.refl _) ⟨O,hv⟩ (λ_ h=>nomatch h)}}}
 | int b=>exact{_,hv.ty,by rw[mK (by simp[tyT,yA])];exact{_,hv.ty,by rw[mK (by simp[tyT,yA])];exact{_,hv.ty,by rw[mK (by simp[tyT,yA])];exact q _ _ [] (Same.refl _) ⟨O,hv⟩ (λ_ h=>nomatch h)}}}
 | str b=>exact{_,hv.ty,by rw[mK (by simp[tyT,yA])];exact{_,hv.ty,by rw[mK (by simp[tyT,yA])];exact{_,hv.ty,by rw[mK (by simp[tyT,yA])];exact q _ _ [] (Same.refl _) ⟨O,hv⟩ (λ_ h=>nomatch h)}}}
abbrev sCo:V6:=top 57
theorem scCo:zS ["_law_thing"] ["_law_thing"] (zK sCo):=by walk_at "sc"
def zDz(n:Nat):Sp:=λvs H Q _=>∃(v:V)(t:T),vs= [v]/\Rep H v t/\T.few t/\T.dep t<n/\∀v' H' D,Same H H'->Sp1 H' v' t D->(∀b∈D,H b=none)->Q v' H'
theorem zZo{n:Nat}(F:Fun K "_law_held" "_law_held" sCo f fd)(B:Bl mg)(G_law_held:Dn P w K mg base (1+n) "_law_held" ["_law_thing"] (zDz n)):FnOk P w K mg base CX0 (1+n+1) f fd ["_law_thing"] (zDz (n+1)):=by
 refine F.ok scCo (λvs H Q E h=>?_) (λc A o s H vs Q E hr h=>?_)
 ·ext xV h v t r2_ _
  subst r2_
  rfl
 ext yE h v t r2_ hv hp z_;ext oA z_ hd q;subst r2_;let nd:=scCo.nd;let hu:=vA hr;refine{_,(zF (zW (yF (pI B.isinstance zI B.list yU (pv 0))) (zG (zJ (xP (own:=["_law_one"]) (F:=[]) {O,tb_g%,tb_g%,tb_g%, .nil} O (xQ (pv 0)) (λ_ _ _ _=>yI (i:=0) (by show(wB ["_law_one"] []).Nodup;decide+kernel) O (nU O)) (λ_ _ _ _=>yX) (λ_ _ _ _=>(zR G_law_held hr ∅ O (zA (pv 0) zC)))))) zL)
  (zF (zW (yF (pI B.isinstance zI B.dict xA (pv 0))) (zG (zJ (yJ (zCf O) O B.dict xA (zA (zCz (xP (own:=["_law_name"]) (F:=[("_law_thing",0)]) {O,tb_g%,tb_g%,tb_g%,(.cons O O O .nil)} O (zHz (pv 0)) (λ_ _ _ _=>yI (i:=0) (by show(wB ["_law_name"] [("_law_thing",0)]).Nodup;decide+kernel) O (nU O)) (λ_ _ _ _=>yX) (λ_ _ _ _=>(yZ (zA (pv 0) (zA (zR G_law_held hr ∅ O (zA (jU hu (pv 1) (pv 0) (λ_ _=>O)) zC)) zC)))))) zC)))) zL)
  (zG (zJ (pv 0))))), ?_}
 walk_at "st";lk
 cases t with
 | lst us=>
  ext yM hv a xs r2_ ha hs;subst r2_;obtain⟨hl0,hp⟩:=hp;let hd':T.deps us+1<n+1:=hd;refine nEA ("list") (vW ha) ?_;rw[mQ ∎];refine zHv a O {xs,SqL.of ha} (wO (K:=K) (xs:=xs) (λi ys H'=>Same H H'/\∃D,Sps H' ys (us.take i) D/\∀b∈D,H b=none) ?_ {Same.refl _,[],⟨O,O⟩,λ_ h=>(nomatch h)} (λi ys H' _ h=>SqL.of (h.1 _ _ ha)) ?_ ?_)
  ·let:=hs...*
   rw[mS];lia
  ·rintro i u ys H' hu' _ ⟨g,D,hR,hD⟩
   refine oEA (hs.get hu') λt' ht' hr'=>?_;let hm:=mP ht';let d1:=b8 hm;lk;refine{u,t',O,Rep.same g u t' hr',b9 hp hm,∅,λv' H4 D1 g4 hv' hD1=>{g.trans g4,D++D1, ?_,λb hb=>?_}}
   ·rw[yN ht']
    refine Sps.snoc hv' (hR.same g4) λb hb z=>?_;obtain⟨o,ho⟩:=Sps.there _ _ _ hR hb;rw[hD1 b z] at ho;cases ho
   ·rcases mU.mp hb with z | z
    ·exact hD b z
    ·exact yG g (hD1 b z)
  ·rintro ys H' _ ⟨g,D,hR,hD⟩ p hp'
   rw[hs...*,pE] at hR;let hpD:p∉D:=λz=>by
    obtain⟨o,ho⟩:=Sps.there _ _ _ hR z;rw[hp'] at ho;cases ho
   refine q (.ref p) _ (p::D) (g.trans (zD hp' _)) {p,ys,D,O,zB,O,hpD,hR.same (zD hp' _)} λb hb=>?_;rcases mD.mp hb with z | z
   ·rw[z];exact yG g hp'
   ·exact hD b z
 | dic ks us=>
  ext yE hv d ps r2_ hdd hk hs;subst r2_;ext wC hp nk hl1 hl0 hp;let hd':T.deps us+1<n+1:=hd;let hpl:ps...*=us...*:=by let:=hs...*;rwa [mL] at this
  let nkp:(ps.map (·.1)).Nodup:=by rw[hk];exact kO nk
  refine nEA ("dict") (qX hdd) ?_;rw[mK ∎];refine nEA ("dict") (qX hdd) ?_;rw[mQ ∎];refine zVl d O ps (.inl {hdd,λo=>?_});let gf:Same (upd H d (.frz o (.dK ps))) (upd H d (.frz o (.dK ps))):=Same.refl _;let gH:∀b,upd H d (.frz o (.dK ps)) b=none->H b=none:=λb e=>by
   by_cases hb:b=d
   ·subst hb;rw[zB] at e;cases e
   ·rw[zM hb] at e
    exact e
  let hsf:Reps (upd H d (.frz o (.dK ps))) (ps.map (·.2)) us:=j0 hdd hk hs;let hdf:upd H d (.frz o (.dK ps)) d=Y (.frz o (.dK ps)):=zB;generalize hHf:upd H d (.frz o (.dK ps))=Hf at gf gH hsf hdf⊢;refine zBj (λi ys H'=>Same Hf H'/\∃(kvs:List (Key×V))(D:List V1),kvs...*=ys...*/\kvs.map (·.1)=(ps.take i).map (·.1)/\Sps H' (kvs.map (·.2)) (us.take i) D/\(∀b∈D,H b=none)/\∀(j:Nat) kv,kvs[j]? =Y kv->∃a,ys[j]? =Y (.ref a)/\H' a=Y (.tup [kV kv.1,kv.2])) ?_ {Same.refl _,[],[],O,O,⟨O,O⟩,λ_ h=>(nomatch h),by intro j kv h;simp at h} (λi ys H' h=>h.1 _ _ hdf) ?_ ?_
  ·rw[mS];lia
  ·rintro i kv ys H' hkv _ ⟨g,kvs,D,l1,l2,hR,hD,ht⟩
   let s2:=Same.refl H';let g2:=g.trans s2;lk;obtain⟨t',ht',hr'⟩:=hsf.get (i:=i) (v:=kv.2) (by rw[nH,hkv];rfl);let hm:=mP ht';let d1:=b8 hm;refine{kv.2, .inl {ps,kv.1, .inr {o,g _ _ hdf},O,(uQ nkp hkv).symm},kv.2,t',O,Rep.same g2 _ t' hr',b9 hp hm,∅,λv' H1 D1 g1 hv' hD1 p hp1=>{(g2.trans g1).trans (zD hp1 _),kvs++ [(kv.1,v')],by simp[l1], ?_,D++D1, ?_,λb hb=>?_, ?_}}
   ·rw[yN hkv,nJ,nJ,l2];rfl
   ·rw[yN ht',nJ]
    refine Sps.snoc (hv'.same (zD hp1 _)) (hR.same (s2.trans (g1.trans (zD hp1 _)))) λb hb z=>?_;obtain⟨ob,ho⟩:=Sps.there _ _ _ (hR.same s2) hb;rw[hD1 b z] at ho;cases ho
   ·rcases mU.mp hb with z | z
    ·exact hD b z
    ·exact gH b (yG g2 (hD1 b z))
   ·intro j kv1 hj
    by_cases hlt:j<kvs...*
    ·rw[pL hlt] at hj
     refine oEA (ht j kv1 hj) λa e1 e2=>?_;exact nEA a (by rw[pL ∅];exact e1) (zD hp1 _ _ _ (g1 _ _ (s2 _ _ e2)))
    ·rw[pH ∅] at hj
     let hj0:j - kvs...*=0:=by
      let:=(mO.mp hj).1
      simpa using this
     rw[hj0] at hj;simp only[pY,Option.some.injEq] at hj;subst hj;exact nEA p (by rw[pH ∅,<-l1,hj0];rfl) zB
  ·rintro ys H' _ ⟨g,kvs,D,l1,l2,hR,hD,ht⟩ p hp'
   rw[hpl,pE] at hR;rw[pE] at l2;let gs:Same H (thaw H (upd H' p (.lst ys))):=kM (o:=o) hdd (by rw[hHf];exact g.trans (zD hp' _));let hR2:Sps (thaw H (upd H' p (.lst ys))) (kvs.map (·.2)) us D:=(hR.same (zD hp' _)).thaw;refine jY p O ys (wZ zB (by intro o v z;cases z)) kvs (nAA l1 (λj kv hj=>?_) (λl hl=>?_))
   ·refine oEA (ht j kv hj) λa e1 e2=>?_
    exact nEA a e1 (wZ (zD hp' _ _ _ e2) (by intro o v z;cases z))
   ·let em:vQ [] kvs=kvs:=jE kvs [] (by rw[tZ,l2];exact nkp)
    rw[em];let hlD:l∉D:=λz=>by
     obtain⟨ob,ho⟩:=Sps.there _ _ _ hR2 z;rw[hl] at ho;cases ho
    refine q (.ref l) _ (l::D) (gs.trans (zD hl _)) {l,kvs,D,O,zB,l2.trans hk,O,hlD,hR2.same (zD hl _)} λb hb=>?_;rcases mD.mp hb with z | z
    ·rw[z];exact yG gs hl
    ·exact hD b z
 | tup us=>exact hp.elim
 | non=>exact{_,hv.ty,by rw[mK (by simp[tyT,yA])];exact{_,hv.ty,by rw[mK (by simp[tyT,yA])];exact q _ _ [] (Same.refl _) ⟨O,hv⟩ (λ_ h=>nomatch h)}}
 | bl b=>exact{_,hv.ty,by rw[mK (by simp[tyT,yA])];exact{_,hv.ty,by rw[mK (by simp[tyT,yA])];exact q _ _ [] (Same.refl _) ⟨O,hv⟩ (λ_ h=>nomatch h)}}
 | int b=>exact{_,hv.ty,by rw[mK (by simp[tyT,yA])];exact{_,hv.ty,by rw[mK (by simp[tyT,yA])];exact q _ _ [] (Same.refl _) ⟨O,hv⟩ (λ_ h=>nomatch h)}}
 | str b=>exact{_,hv.ty,by rw[mK (by simp[tyT,yA])];exact{_,hv.ty,by rw[mK (by simp[tyT,yA])];exact q _ _ [] (Same.refl _) ⟨O,hv⟩ (λ_ h=>nomatch h)}}
theorem yAd(F:Fun K "copied" "copied" sCp f fd):FnOk P w K mg base CX0 1 f fd ["thing"] (zUj 0):=by
 refine F.ok scCp (λvs H Q E h=>?_) (λc A o s H vs Q E hr h=>?_)
 ·ext xV h v t r2_ _
  subst r2_
  rfl
 ext yE h v t r2_ hv hp z_;ext oA z_ hd _;subst r2_;exact absurd hd (rY _)
theorem yCq(F:Fun K "_law_held" "_law_held" sCo f fd):FnOk P w K mg base CX0 1 f fd ["_law_thing"] (zDz 0):=by
 refine F.ok scCo (λvs H Q E h=>?_) (λc A o s H vs Q E hr h=>?_)
 ·ext xV h v t r2_ _
  subst r2_
  rfl
 ext yE h v t r2_ hv hp z_;ext oA z_ hd _;subst r2_;exact absurd hd (rY _)
theorem zVn(F:Fun K "copied" "copied" sCp f fd)(B:Bl mg)(b:Binds K fd ["thing"] [])(kp:A7 K (.ref f)=true)(m:mg "copied" =Y (.ref f)):∀n:Nat,FnOk P w K mg base CX0 (1+n) f fd ["thing"] (zUj n)
 | 0=>yAd F
 | n+1=>yAo F B {_,_,zVn F B b kp m n,b,kp,m}
theorem zQu(F:Fun K "_law_held" "_law_held" sCo f fd)(B:Bl mg)(b:Binds K fd ["_law_thing"] [])(kp:A7 K (.ref f)=true)(m:mg "_law_held" =Y (.ref f)):∀n:Nat,FnOk P w K mg base CX0 (1+n) f fd ["_law_thing"] (zDz n)
 | 0=>yCq F
 | n+1=>zZo F B {_,_,zQu F B b kp m n,b,kp,m}
end
mutual
def T.gk:T->Prop
 | .int i=>-(10 ^ 12)<=i/\i<=10 ^ 12
 | .str x=>x...*<=30/\∀c∈x,c∈zAs
 | .lst ts=>j9 ts
 | .dic ks ts=>(∀k∈ks,yQ k=true)/\j9 ts
 | .tup _=>False
 | .non=>True
 | .bl _=>True
def j9:List T->Prop
 | []=>True
 | t::ts=>T.gk t/\j9 ts
end
theorem d5{t:T}:∀{ts:List T},j9 ts->t∈ts->T.gk t
 | [],_,h=>nomatch h
 | u::ts,h,hm=>(mD.mp hm).elim (λe=>e▸h.1) (d5 h.2)
theorem i8{ts:List T}(h:∀t∈ts,T.gk t):j9 ts:=by
 induction ts with
 | nil=>exact mI
 | cons t ts ih=>exact{h t mF,ih λu hu=>h u (mH _ hu)}
structure Fig(d z:Nat)(t:T):Prop where
 few:T.few t
 gk:T.gk t
 dep:T.dep t<=d
 sz:T.sz t<=z
theorem Fig.row{d z:Nat}{us:List T}(h:∀u∈us,T.few u/\T.gk u/\T.dep u+1<=d)(hd:1<=d)(hz:T.szs us+1<=z)(hl:T.szs us<=100000):Fig d z (.lst us):=by
 refine{{pC (zNc us) hl,zHd λu hu=>(h u hu).1},i8 λu hu=>(h u hu).2.1, ?_,hz};let:T.deps us<=d - 1:=d7 λu hu=>by let:=(h u hu).2.2;lia
 show T.deps us+1<=d
 lia
theorem o9{d z:Nat}{ks:List (List Nat)}{us:List T}(sk:∀k∈ks,yQ k=true)(nk:ks.Nodup)(hk:ks...*<64)(hl:ks...*=us...*)(h:∀u∈us,T.few u/\T.gk u/\T.dep u+1<=d)(hd:1<=d)(hz:T.szs us+1<=z):Fig d z (.dic ks us):=by
 refine{{nk,hk,hl,zHd λu hu=>(h u hu).1},{sk,i8 λu hu=>(h u hu).2.1}, ?_,hz};let:T.deps us<=d - 1:=d7 λu hu=>by let:=(h u hu).2.2;lia
 show T.deps us+1<=d
 lia
theorem kQ:∀(d:Nat)(t:T),d<=4->Nice d t->Fig d (gG d) t
 | d, .non,_,_=>{mI,mI,nS _,uK d}
 | d, .bl _,_,_=>{mI,mI,nS _,uK d}
 | d, .int _,_,h=>{mI,h,nS _,uK d}
 | d, .str x,_,h=>by
  let h':zBw x=true:=h;unfold zBw at h';simp only[tP,rW,rD] at h';exact{mI,h',nS _,uK d}
 | 0, .lst ts,_,h=>absurd h.1 ∎
 | d+1, .lst ts,hd,h=>by
  obtain⟨_,hl,hN⟩:=h;let k:∀t∈ts,Fig d (gG d) t:=λt ht=>kQ d t ∅ (NiceL_iff.mp hN t ht);let z:=zBt λt ht=>(k t ht).sz;let z2:ts...**gG d<=4*gG d:=aO _ hl;let z3:=zUs d ∅;refine Fig.row (λu hu=>{(k u hu).few,(k u hu).gk,rK (k u hu).dep}) (rK (nS _)) ?_ ∅;show _<=4*gG d+1
  lia
 | 0, .dic ks ts,_,h=>absurd h.1 ∎
 | d+1, .dic ks ts,hd,h=>by
  ext yO h _ hl hkl nk ho hN;let k:∀t∈ts,Fig d (gG d) t:=λt ht=>kQ d t ∅ (NiceL_iff.mp hN t ht);let z:=zBt λt ht=>(k t ht).sz;let z2:ts...**gG d<=4*gG d:=aO _ hl;refine o9 ho nk ∅ hkl (λu hu=>{(k u hu).few,(k u hu).gk,rK (k u hu).dep}) (rK (nS _)) ?_;show _<=4*gG d+1
  lia
 | d, .tup ts,_,h=>by cases d<;>exact h.elim
theorem zSq:∀k∈([]:List (List Nat)),yQ k=true:=λ_ h=>nomatch h
abbrev sLo:V6:=top 26
noncomputable def xG:T->Key->Option T
 | .lst us, .inl i=>us[i.toNat]?
 | .dic ks us, .inr s=>if ts s∈ks then Y (xY (ts s) ks us) else none
 | _,_=>none
def okK:Key->Prop
 | .inl i=>0<=i/\i<=59
 | .inr _=>True
theorem zRj{H:Hp}{ps:List (Key×V)}{ks:List (List Nat)}{us:List T}(nk:ks.Nodup)(hk:ps.map (·.1)=ks.map nK)(hs:Reps H (ps.map (·.2)) us)(s:Str):(jD ps (Sum.inr s)).isSome=decide (ts s∈ks):=by
 by_cases hm:ts s∈ks
 ·obtain⟨v,h1,_⟩:=i4 nk hk hs hm
  rw[vH] at h1;rw[h1,nP hm]
  rfl
 ·rw[nG hm,zBl (by
   rw[hk];intro z;obtain⟨k,h1,h2⟩:=nW.mp z;let e:tx k=s:=Sum.inr.inj h2;rw[<-e,vB] at hm;exact hm h1)]
  rfl
theorem zUu{K:A6}{H:Hp}{v:V}{t:T}{k:Key}{Q:VK}(hv:Rep H v t)(hp:T.pure t)(hk:okK k)(q:Q (.bl (xG t k).isSome) H):∃x,tyS H (kV k)=Y x/\if yA x "str" =true then∃x,tyS H v=Y x/\if yA x "dict" =true then zYj (vY 1) (vY 0) [Y v,Y (kV k)] H Q else Q (V.bl false) H
  else∃x,tyS H v=Y x/\if yA x "list" =true then∃p,v=V.ref p/\∃ys,SqL K H p ys/\∃i,kV k=V.int i/\Q (V.bl (decide (i<(ys...*:Int)))) H else Q (V.bl false) H:=by
 cases k with
 | inl i=>
  let hi:0<=i:=hk.1;refine nEA ("int") O (iN ∎ {_,hv.ty, ?_})
  cases t with
  | lst us=>
   ext yM hv a xs r2_ ha hx;subst r2_;refine iP O {a,O,xs,SqL.of ha,i,O, ?_};let hl:=hx...*;let e:(xG (.lst us) (.inl i)).isSome=decide (i<(xs...*:Int)):=by
    show(us[i.toNat]?).isSome=_
    by_cases c:i.toNat<us...*
    ·rw[mT c,nP ∅]
     rfl
    ·rw[aJ ∅,nG ∅]
     rfl
   rw[<-e];exact q
  | non=>exact iN (by simp[tyT,yA]) q
  | bl b=>exact iN (by simp[tyT,yA]) q
  | int b=>exact iN (by simp[tyT,yA]) q
  | str b=>exact iN (by simp[tyT,yA]) q
  | dic ks us=>exact iN (by simp[tyT,yA]) q
  | tup us=>exact hp.elim
 | inr s=>
  refine nEA ("str") O (iP ∎ {_,hv.ty, ?_})
  cases t with
  | dic ks us=>
   ext yE hv a ps r2_ ha hkk hx;subst r2_;refine iP O {a,_,O, .inl {ps, .inr s, .inl ha,O,O}, ?_};rw[zRj hp.1 hkk hx];let e:(xG (.dic ks us) (.inr s)).isSome=decide (ts s∈ks):=by
    show(if ts s∈ks then Y (xY (ts s) ks us) else none).isSome=_
    by_cases c:ts s∈ks
    ·rw[mQ c,nP c];rfl
    ·rw[mK c,nG c];rfl
   rw[<-e];exact q
  | non=>exact iN (by simp[tyT,yA]) q
  | bl b=>exact iN (by simp[tyT,yA]) q
  | int b=>exact iN (by simp[tyT,yA]) q
  | str b=>exact iN (by simp[tyT,yA]) q
  | lst us=>exact iN (by simp[tyT,yA]) q
  | tup us=>exact hp.elim
section
variable{P:V3}{w:V4}{K:A6}{mg:Str->Option V0}{base:V5}{f:V1}{fd:V7}
def zQy:Sp:=λvs H Q _=>∃(v:V)(t:T)(k:Key),vs= [v,kV k]/\Rep H v t/\T.pure t/\T.sz t<=100000/\okK k/\∀H',Same H H'->Q (.bl (xG t k).isSome) H'
theorem scLo:zS ["thing","step"] ["thing","step"] (zK sLo):=by walk_at "sc"
theorem ok_lo(F:Fun K "leads_on" "leads_on" sLo f fd)(B:Bl mg):FnOk P w K mg base CX0 1 f fd ["thing","step"] zQy:=by
 refine F.ok scLo (λvs H Q E h=>?_) (λc A o s H vs Q E hr h=>?_)
 ·ext qI h v t k r3_ _
  subst r3_
  rfl
 ext yD h v t k r3_ hv z_;ext wC z_ hp hz hk q;subst r3_;let nd:=scLo.nd;let hu:=vA hr;refine{_,(zF (zW (yF (pI B.isinstance zI B.str qY (pv 1))) (zG (zJ (vK (pI B.isinstance zI B.dict xA (pv 0)) (vZ (zMi (zDc hu (pv 1) (pv 0))))))) zL)
  (zG (zJ (vK (pI B.isinstance zI B.list yU (pv 0)) (vZ (yR jA (pv 1) (zO yL O B.len yW (zA (pv 0) zC)) (zQ _))))))), ?_}
 walk_at "st";lk;exact zUu hv hp hk (q _ (Same.refl _))
noncomputable def goT:T->List Key->List T
 | t,[]=>[t]
 | t,k::ks=>match xG t k with
  | none=>[t]
  | some u=>t::goT u ks
theorem zWn{H:Hp}{c:V}{u u':T}{k:Key}(hc:Rep H c u)(hpu:T.pure u)(hzu:T.sz u<=100000)(hk:okK k)(hs:xG u k=Y u'):
  ∃c',Rep H c' u'/\T.pure u'/\T.sz u'<=100000/\((∃b zs j,c= .ref b/\H b=Y (.lst zs)/\kV k= .int j/\atI zs j=Y c')\/(∃b qs,c= .ref b/\H b=Y (.dK qs)/\jD qs k=Y c')):=by
 cases k with
 | inl j=>
  let hj:0<=j:=hk.1
  cases u with
  | lst vs=>
   let hs':vs[j.toNat]? =Y u':=hs;ext yM hc b zs r2_ hb hzs;subst r2_;let hm:=mP hs';let hzl:=hzs...*;let hjl:=(mO.mp hs').1;let hjz:j.toNat<zs...*:=by lia
   obtain⟨t',ht',hr'⟩:=hzs.get (mT hjz);rw[hs'] at ht';cases ht';let d2:=c6 hm;let hzz:T.szs vs+1<=100000:=hzu;let hat:atI zs j=some zs[j.toNat]:=by
    let z:=zV (j:=j.toNat) (mT hjz)
    rwa [show((j.toNat:Nat):Int)=j by lia] at z
   exact zDl _ hr' (i7 hpu hm) ∅ (.inl ⟨b,zs,j,O,hb,O,hat⟩)
  | non=>cases hs
  | bl b=>cases hs
  | int b=>cases hs
  | str b=>cases hs
  | dic ks' us'=>cases hs
  | tup us'=>cases hs
 | inr z=>
  cases u with
  | dic ks' vs=>
   let hs':(if ts z∈ks' then Y (xY (ts z) ks' vs) else none)=Y u':=hs
   by_cases hm:ts z∈ks'
   ·rw[mQ hm] at hs'
    cases hs';ext yE hc b qs r2_ hb hkk hx';subst r2_;obtain⟨c',h1,h2⟩:=i4 hpu.1 hkk hx' hm;rw[vH] at h1;let hzz:T.szs vs+1<=100000:=hzu;let hlq:ks'...*=vs...*:=by
     let e1:=congrArg List.length hkk;let e2:=hx'...*;rw[mL,mL] at e1;rw[mL] at e2
     lia
    let hmm:=wP hm hlq;let d2:=c6 hmm;exact zDl c' h2 (i7 hpu.2 hmm) ∅ (.inr ⟨b,qs,O,hb,h1⟩)
   ·rw[mK hm] at hs'
    cases hs'
  | non=>cases hs
  | bl b=>cases hs
  | int b=>cases hs
  | str b=>cases hs
  | lst us'=>cases hs
  | tup us'=>cases hs
inductive Wd where
 | put | ins | tak
noncomputable def Wd.s:Wd->Str
 | .put=>A5 "put"
 | .ins=>A5 "insert"
 | .tak=>A5 "take"
noncomputable def vL:Wd->T->Key->Bool
 | .tak,t,k=>(xG t k).isSome
 | .put, .dic _ _, .inr _=>true
 | .put, .lst us, .inl i=>decide (i<=(us...*:Int))
 | .ins, .lst us, .inl i=>decide (i<=(us...*:Int))
 | _,_,_=>false
noncomputable def xX(n:List Nat):List (List Nat)->List T->List T
 | k::ks,u::us=>if k=n then xX n ks us else u::xX n ks us
 | _,_=>[]
noncomputable def qG(n:List Nat):List (List Nat)->List (List Nat)
 | k::ks=>if k=n then qG n ks else k::qG n ks
 | []=>[]
noncomputable def xF:Wd->T->Key->T->T
 | .put, .dic ks us, .inr s,n=>.dic (vE (ks,us) (ts s) n).1 (vE (ks,us) (ts s) n).2
 | .tak, .dic ks us, .inr s,_=>.dic (qG (ts s) ks) (xX (ts s) ks us)
 | .put, .lst us, .inl i,n=>.lst (us.take i.toNat++n::us.drop (i.toNat+1))
 | .ins, .lst us, .inl i,n=>.lst (us.take i.toNat++n::us.drop i.toNat)
 | .tak, .lst us, .inl i,_=>.lst (us.take i.toNat++us.drop (i.toNat+1))
 | _,t,_,_=>t
noncomputable def bld(st:List T)(ks:List Key):Nat->T->T
 | 0,r=>r
 | m+1,r=>bld st ks m (xF .put (st.getD m .non) (ks.getD m (.inl 0)) r)
noncomputable def chG(w:Wd)(pt:T->Key->T)(t:T)(ks:List Key)(n:T):Sum Nat T:=
 match ks.getLast? with
 | none=>match w with
  | .put=>.inr n
  | _=>.inl 0
 | some k=>if(goT t ks.dropLast)...*<ks...* then .inl ((goT t ks.dropLast)...* - 1) else
  match (goT t ks.dropLast).getLast? with
  | none=>.inl 0
  | some s=>if vL w s k=true then .inr (bld (goT t ks.dropLast) ks (ks...* - 1) (pt s k)) else .inl (ks...* - 1)
theorem dropN_mem{n k:List Nat}:∀{ks:List (List Nat)},k∈qG n ks↔k∈ks/\k≠n
 | []=>by simp[qG]
 | k'::ks=>by
  unfold qG;split
  ·rename_i e
   rw[dropN_mem (ks:=ks),e];constructor
   ·exact λh=>{mH _ h.1,h.2}
   ·rintro⟨h1,h2⟩
    rcases mD.mp h1 with z | z
    ·exact absurd z h2
    ·exact⟨z,h2⟩
  ·rename_i e
   rw[mD,dropN_mem (ks:=ks),mD];constructor
   ·rintro(h | h)
    ·exact{.inl h,by rw[h];exact e}
    ·exact{.inr h.1,h.2}
   ·rintro⟨h1 | h1,h2⟩
    ·exact .inl h1
    ·exact .inr ⟨h1,h2⟩
theorem gM{n:List Nat}:∀{ks:List (List Nat)},ks.Nodup->(qG n ks).Nodup
 | [],_=>by simp[qG]
 | k::ks,h=>by
  rw[pM] at h;unfold qG;split
  ·exact gM h.2
  ·rw[pM]
   exact{λz=>h.1 (dropN_mem.mp z).1,gM h.2}
theorem zIf{n:List Nat}:∀{ks:List (List Nat)}{us:List T},ks...*=us...*->(qG n ks)...*=(xX n ks us)...*/\(xX n ks us)...*<=us...*
 | [],[],_=>{O,mE _}
 | [],_::_,h=>by simp at h
 | _::_,[],h=>by simp at h
 | k::ks,u::us,h=>by
  obtain⟨h1,h2⟩:=zIf (n:=n) (ks:=ks) (us:=us) (by simpa using h);unfold qG xX;split
  ·exact{h1,aH h2}
  ·exact{by rw[mW,mW,h1],rK h2}
theorem uS{n:List Nat}{u:T}:∀{ks:List (List Nat)}{us:List T},u∈xX n ks us->u∈us
 | [],us,h=>by cases us<;>simp[xX] at h
 | _::_,[],h=>by simp[xX] at h
 | k::ks,v::us,h=>by
  unfold xX at h;split at h
  ·exact mH _ (uS h)
  ·rcases mD.mp h with z | z
   ·rw[z];exact mF
   ·exact mH _ (uS z)
theorem zFu{n:List Nat}{t:T}:∀{ks:List (List Nat)}{us:List T},ks.Nodup->ks...*=us...*->n∈ks->T.szs (yY n t ks us)=T.szs (xX n ks us)+T.sz t
 | [],_,_,_,h=>nomatch h
 | _::_,[],_,h,_=>by simp at h
 | k::ks,u::us,nd,hl,h=>by
  rw[pM] at nd
  by_cases e:k=n
  ·let h2:∀(ks:List (List Nat))(us:List T),ks...*=us...*->n∉ks->yY n t ks us=us/\xX n ks us=us:=by
    intro ks
    induction ks with
    | nil=>intro us hl _;cases us with
     | nil=>exact⟨O,O⟩
     | cons _ _=>simp at hl
    | cons a ks ih=>
     intro us hl hn
     cases us with
     | nil=>simp at hl
     | cons b us=>
      obtain⟨i1,i2⟩:=ih us (by simpa using hl) λz=>hn (mH _ z);let ne:¬a=n:=λz=>hn (by rw[z];exact mF);refine{?_, ?_}
      ·show(if a=n then t else b)::yY n t ks us=b::us
       rw[mK ne,i1]
      ·show(if a=n then xX n ks us else b::xX n ks us)=b::us
       rw[mK ne,i2]
   obtain⟨i1,i2⟩:=h2 ks us (by simpa using hl) (by rw[<-e];exact nd.1);show T.szs ((if k=n then t else u)::yY n t ks us)=T.szs (if k=n then xX n ks us else u::xX n ks us)+T.sz t;rw[mQ e,mQ e,i1,i2];show T.sz t+T.szs us=_
   lia
  ·let hm:n∈ks:=by
    rcases mD.mp h with z | z
    ·exact absurd z.symm e
    ·exact z
   let ih:=zFu (t:=t) nd.2 (by simpa using hl) hm (us:=us);show T.szs ((if k=n then t else u)::yY n t ks us)=T.szs (if k=n then xX n ks us else u::xX n ks us)+T.sz t;rw[mK e,mK e];show T.sz u+T.szs (yY n t ks us)=T.sz u+T.szs (xX n ks us)+T.sz t
   lia
theorem zBm{n:List Nat}:∀{ks:List (List Nat)}{us:List T},T.szs (xX n ks us)<=T.szs us
 | [],us=>by
  let e:xX n [] us= []:=by cases us<;>rfl
  rw[e];exact nS _
 | _::_,[]=>mE _
 | k::ks,u::us=>by
  let ih:=zBm (n:=n) (ks:=ks) (us:=us);show T.szs (if k=n then xX n ks us else u::xX n ks us)<=T.sz u+T.szs us;split
  ·lia
  ·show T.sz u+_<=_;lia
theorem zFh{n:List Nat}:∀{ks:List (List Nat)}{us:List T},ks...*=us...*->n∉ks->xX n ks us=us/\qG n ks=ks
 | [],[],_,_=>⟨O,O⟩
 | [],_::_,h,_=>by simp at h
 | _::_,[],h,_=>by simp at h
 | k::ks,u::us,hl,hn=>by
  obtain⟨i1,i2⟩:=zFh (n:=n) (ks:=ks) (us:=us) (by simpa using hl) λz=>hn (mH _ z);let ne:¬k=n:=λz=>hn (by rw[z];exact mF);refine{?_, ?_}
  ·show(if k=n then xX n ks us else u::xX n ks us)=_
   rw[mK ne,i1]
  ·show(if k=n then qG n ks else k::qG n ks)=_
   rw[mK ne,i2]
theorem zIp{n:List Nat}{t:T}{ks:List (List Nat)}{us:List T}(nd:ks.Nodup)(hl:ks...*=us...*):T.szs (vE (ks,us) n t).2=T.szs (xX n ks us)+T.sz t:=by
 by_cases hm:n∈ks
 ·let e:vE (ks,us) n t=(ks,yY n t ks us):=mQ hm
  rw[e];exact zFu nd hl hm
 ·let e:vE (ks,us) n t=(ks++ [n],us++ [t]):=mK hm
  rw[e,(zFh hl hm).1];show T.szs (us++ [t])=_;rw[d8];rfl
theorem m4{H:Hp}:∀{us:List T}{vs:List V}{D:List V1}{i:Nat}{t:T},Sps H vs us D->us[i]? =Y t->∃v D1,vs[i]? =Y v/\Sp1 H v t D1/\(∀b∈D1,b∈D)/\
  ∀H0 H' t',(∀b∈D,H0 b=none)->Rep (uF H0 H') v t'->Keep D1 H H'->Reps (uF H0 H') vs (us.set i t')
 | [],_,_,i,t,_,h=>by simp at h
 | u::us,_,_,0,t,⟨v,r,D1,D2,rfl,rfl,h1,h2,hd⟩,h=>by
  let e:u=t:=by simpa using h
  subst e;refine zEu v D1 O h1 (λb hb=>nV _ hb) (λH0 H' t' hn hs hk=>{v,r,O,hs, ?_});exact Sps.rep _ _ _ (Sps.keep _ _ _ (λb hb o _ e=>by
   rw[wV (hn b (nI _ hb))];exact hk b o (λz=>hd b z hb) e) h2)
 | u::us,_,_,i+1,t,⟨v,r,D1,D2,rfl,rfl,h1,h2,hd⟩,h=>by
  refine yE (m4 (i:=i) h2 (by simpa using h)) λw E1 g1 g2 g3 g4=>?_;refine zEu w E1 (by simpa using g1) g2 (λb hb=>nI _ (g3 b hb)) (λH0 H' t' hn hs hk=>{v,r,O, ?_,g4 H0 H' t' (λb hb=>hn b (nI _ hb)) hs hk});exact Sp1.rep _ _ _ (Sp1.keep _ _ _ (λb hb o _ e=>by
   rw[wV (hn b (nV _ hb))];exact hk b o (λz=>hd b hb (g3 b z)) e) h1)
theorem zFk{n:List Nat}{t:T}:∀(ks:List (List Nat))(us:List T),ks.Nodup->ks...*=us...*->n∈ks->yY n t ks us=us.set (ks.idxOf n) t
 | [],_,_,_,h=>nomatch h
 | _::_,[],_,h,_=>by simp at h
 | k::ks,u::us,nk,hl,hm=>by
  rw[pM] at nk;let e:yY n t (k::ks) (u::us)=(if k=n then t else u)::yY n t ks us:=rfl;rw[e]
  by_cases h:k=n
  ·subst h
   let hno:∀(ls:List (List Nat))(ws:List T),k∉ls->yY k t ls ws=ws:=by
    intro ls
    induction ls with
    | nil=>intro ws _;unfold yY;rfl
    | cons l ls ih=>
     intro ws hn
     cases ws with
     | nil=>unfold yY;rfl
     | cons w ws=>
      let e2:yY k t (l::ls) (w::ws)=(if l=k then t else w)::yY k t ls ws:=rfl;rw[e2,mK (λz=>hn (by rw[z];exact mF)),ih ws λz=>hn (mH _ z)]
   rw[mQ O,hno ks us nk.1,List.idxOf_cons_self]
   rfl
  ·let hix:(k::ks).idxOf n=ks.idxOf n+1:=by rw[List.idxOf_cons,show(k==n)=false from rE.mpr h];rfl
   rw[mK h,hix,zFk ks us nk.2 (by simpa using hl) ((mD.mp hm).resolve_left (Ne.symm h))]
   rfl
theorem zNf{α:Type}{us:List α}{i:Nat}{r:α}(h:i<us...*):us.set i r=us.take i++r::us.drop (i+1):=bM.trans (mQ h)
theorem wQ{H H3:Hp}{d:V1}{o:HO}(g:Same H H3)(hd:H d=none):Same H (upd H3 d o):=λb u e=>by
 let hb:b≠d:=λz=>by subst z;rw[hd] at e;cases e
 rw[zM hb];exact g _ _ e
theorem zWu(ks:List Key)(k:Key):ks.map kV++ [kV k]=(ks++ [k]).map kV:=by rw[nJ];rfl
theorem zXu{H:Hp}{a:V1}{ps:List (Key×V)}{ks:List (List Nat)}{us:List T}(nk:ks.Nodup)(hk:ps.map (·.1)=ks.map λk=>(Sum.inr (tx k):Key))(hs:Reps H (ps.map (·.2)) us)(ha:H a=Y (.dK ps)){k:List Nat}(hm:k∈ks):∃v,(∀H',Same H H'->zLy H' a (.str (tx k)) ↥v)/\Rep H v (xY k ks us):=by
 obtain⟨v,h1,h2⟩:=i4 nk hk hs hm;exact nEA v (λH' g=>.inl {ps,Sum.inr (tx k), .inl (g _ _ ha),O,h1.symm}) h2
theorem zJh{H:Hp}{a:V1}{ps:List (Key×V)}{ks:List (List Nat)}(hk:ps.map (·.1)=ks.map λk=>(Sum.inr (tx k):Key))(ha:H a=Y (.dK ps)){k:List Nat}(hm:k∉ks):zLy H a (.str (tx k)) none:=by
 refine .inl {ps,Sum.inr (tx k), .inl ha,O,(zBl λz=>hm ?_).symm};rw[hk] at z;obtain⟨k',h1,h2⟩:=nW.mp z;rw[<-uE h2];exact h1
noncomputable def doT(w:Wd)(n:T):List Key->T->Option T
 | [],_=>match w with
  | .put=>Y n
  | _=>none
 | [k],t=>if vL w t k=true then Y (xF w t k n) else none
 | k::k'::ks,t=>match xG t k with
  | some s=>(doT w n (k'::ks) s).map λr=>xF .put t k r
  | none=>none
structure Cx2(H0 H:Hp)(v:V)(up:T->T)(x:V)(s:T)(D:List V1):Prop where
 sp:Sp1 H x s D
 new:∀b∈D,H0 b=none
 few:T.few s
 cls:∀H' s',Rep (uF H0 H') x s'->Keep D H H'->Rep (uF H0 H') v (up s')
theorem Cx2.refl{H0 H:Hp}{v:V}{t:T}{D:List V1}(h:Sp1 H v t D)(hn:∀b∈D,H0 b=none)(hf:T.few t):Cx2 H0 H v (λr=>r) v t D:={h,hn,hf,λ_ _ r _=>r}
theorem Cx2.row{H0 H:Hp}{v:V}{up:T->T}{a:V1}{us:List T}{D:List V1}(C:Cx2 H0 H v up (.ref a) (.lst us) D){i:Int}(h0:0<=i){u:T}(hi:us[i.toNat]? =Y u):∃xs y D',H a=Y (.lst xs)/\xs...*=us...*/\xs[i.toNat]? =Y y/\Cx2 H0 H v (λr=>up (xF .put (.lst us) (.inl i) r)) y u D':=by
 refine yD (C.sp) λa' xs D1 e ha z_=>?_;ext oAA z_ r5_ na hs;subst r5_;cases e;refine yE (m4 hs hi) λy D2 h1 h2 h3 h4=>?_;let hm:=mP hi;let hf:=C.few;refine{xs,y,D2,ha,hs...*,h1,h2,λb hb=>C.new b (mH _ (h3 b hb)),b9 hf.2 hm,λH' s' r k=>?_};let na2:a∉D2:=λz=>na (h3 a z);let hlt:=(mO.mp hi).1;refine C.cls H' (.lst (us.take i.toNat++s'::us.drop (i.toNat+1))) {a,xs,O, ?_, ?_} (k.mono λb hb=>mH _ (h3 b hb))
 ·rw[wV (C.new a mF)];exact k a _ na2 ha
 ·rw[<-zNf hlt]
  exact h4 H0 H' s' (λb hb=>C.new b (mH _ hb)) r k
theorem Cx2.rcd{H0 H:Hp}{v:V}{up:T->T}{a:V1}{ks:List (List Nat)}{us:List T}{D:List V1}(C:Cx2 H0 H v up (.ref a) (.dic ks us) D){z:Str}(hk:ts z∈ks):∃ps y D',H a=Y (.dK ps)/\ps.map (·.1)=ks.map nK/\jD ps (nK (ts z))=Y y/\Cx2 H0 H v (λr=>up (xF .put (.dic ks us) (.inr z) r)) y (xY (ts z) ks us) D':=by
 refine yD (C.sp) λa' ps D1 e ha z_=>?_;ext wC z_ hkk r6_ na hs;subst r6_;cases e;let hf:=C.few;let hi:=zCt hk;let il:ks.idxOf (ts z)<us...*:=by rw[<-hf.2.2.1];exact sX hk
 let hu:us[ks.idxOf (ts z)]? =Y (xY (ts z) ks us):=by
  rw[mT il];exact congrArg some (zEj hf.1 hi (mT il)).symm
 refine yE (m4 hs hu) λy D2 h1 h2 h3 h4=>?_;let hm:=mP hu;let hv:jD ps (nK (ts z))=Y y:=by
  rw[nH] at h1;obtain⟨kv,hkv,rfl⟩:=rZ.mp h1;refine uQ (i:=ks.idxOf (ts z)) (by rw[hkk];exact kO hf.1) ?_;let:(ps.map (·.1))[ks.idxOf (ts z)]? =Y (nK (ts z)):=by rw[hkk,nH,hi];rfl
  rw[nH,hkv] at this;rw[hkv,<-mR this]
 refine{ps,y,D2,ha,hkk,hv,h2,λb hb=>C.new b (mH _ (h3 b hb)),b9 hf.2.2.2 hm,λH' s' r kp=>?_};let na2:a∉D2:=λz=>na (h3 a z);let e1:vE (ks,us) (ts z) s'=(ks,us.set (ks.idxOf (ts z)) s'):=by
  let:vE (ks,us) (ts z) s'=(ks,yY (ts z) s' ks us):=mQ hk;rw[this,zFk ks us hf.1 hf.2.2.1 hk]
 refine C.cls H' (.dic (vE (ks,us) (ts z) s').1 (vE (ks,us) (ts z) s').2) ?_ (kp.mono λb hb=>mH _ (h3 b hb));rw[e1];refine{a,ps,O, ?_,hkk,h4 H0 H' s' (λb hb=>C.new b (mH _ hb)) r kp};rw[wV (C.new a mF)];exact kp a _ na2 ha
theorem Reps.dropK{H:Hp}{n:List Nat}:∀{ps:List (Key×V)}{ks:List (List Nat)}{us:List T},ps.map (·.1)=ks.map nK->Reps H (ps.map (·.2)) us->(L2.dropK ps (nK n)).map (·.1)=(qG n ks).map nK/\Reps H ((L2.dropK ps (nK n)).map (·.2)) (xX n ks us)
 | [],[],us,_,h=>by
  let e:us= []:=by
   cases us with
   | nil=>rfl
   | cons _ _=>obtain⟨v,r,e,_⟩:=h;cases e
  subst e;exact⟨O,O⟩
 | [],_::_,_,e,_=>by simp at e
 | _::_,[],_,e,_=>by simp at e
 | p::ps,k::ks,[],_,h=>by
  let h':(p::ps).map (·.2)= []:=h;cases h'
 | p::ps,k::ks,u::us,e,⟨v',r,e0,h1,h2⟩=>by
  let e':p.2::ps.map (·.2)=v'::r:=e0;injection e' with e1 e2;subst e1 e2;let e3:p.1::ps.map (·.1)=nK k::ks.map nK:=e;injection e3 with e4 e5;obtain⟨i1,i2⟩:=Reps.dropK (n:=n) e5 h2;unfold L2.dropK at i1 i2⊢;rw[cY];unfold qG xX
  by_cases hk:k=n
  ·rw[mK (by simp[e4,hk]),mQ hk,mQ hk]
   exact⟨i1,i2⟩
  ·rw[mQ (by rw[e4];exact nP λz=>hk (uE z)),mK hk,mK hk]
   exact{by rw[mZ,mZ,e4,i1],_,_,O,h1,i2}
abbrev sPi:V6:=top 58
theorem gS{H0 H H1:Hp}{a:V1}{o:HO}{xs:List V}{us:List T}{D:List V1}(hs:Sps H xs us D)(na:a∉D)(hn:∀b∈D,H0 b=none)(g:Same H H1):Reps (uF H0 (upd H1 a o)) xs us:=
 Sps.rep _ _ _ (Sps.keep _ _ _ (λb hb u _ e=>by
  rw[wV (hn b hb),zM λz=>na (by rw[<-z];exact hb)];exact g _ _ e) hs)
theorem zHn{H0 H H1:Hp}{a:V1}{o o':HO}{v:V}{u:T}{D:List V1}(hs:Sp1 H1 v u D)(hn:∀b∈D,H b=none)(g0:Same H0 H)(ha:H a=Y o'):Rep (uF H0 (upd H1 a o)) v u:=
 Sp1.rep _ _ _ (Sp1.keep _ _ _ (λb hb u _ e=>by
  rw[wV (yG g0 (hn b hb)),zM λz=>by rw[z] at hb;rw[hn a hb] at ha;cases ha];exact e) hs)
def spPi:Sp:=λvs H Q _=>∃(H0:Hp)(x vn:V)(wd:Wd)(k:Key)(s u:T)(D:List V1),vs= [x, .str wd.s,kV k,vn]/\Same H0 H/\Sp1 H x s D/\(∀b∈D,H0 b=none)/\T.few s/\okK k/\Rep H vn u/\T.few u/\T.dep u<20/\T.sz s<=100000/\(vL wd s k=true->∀H',Keep D H H'->Rep (uF H0 H') x (xF wd s k u)->Q (.bl true) H')/\(vL wd s k=false->Q (.bl false) H)
theorem scPi:zS ["_law_thing","_law_word","_law_step","_law_new"] ["_law_thing","_law_word","_law_step","_law_new"] (zK sPi):=by walk_at "sc"
theorem ok_pi{k:Nat}(F:Fun K "_law_put_in" "_law_put_in" sPi f fd)(B:Bl mg)(G_law_held:Dn P w K mg base k "_law_held" ["_law_thing"] (zDz 20)):FnOk P w K mg base CX0 (k+1) f fd ["_law_thing","_law_word","_law_step","_law_new"] spPi:=by
 refine F.ok scPi (λvs H Q E h=>?_) (λc A o s H vs Q E hr h=>?_)
 ·ext xO h H0 x vn wd ky z_
  ext qI z_ s u D r8_ _;subst r8_
  rfl
 ext xO h H0 x vn wd ky z_;ext yD z_ t u D r8_ g0 z_;ext yO z_ hsp hnew hf hk hvn z_;ext jM z_ hfu hdu hzs q qn;subst r8_;let nd:=scPi.nd;let hu:=vA hr;refine{_,(zF (zW (j5 (vR (yF (pI B.isinstance zI B.dict xA (pv 0))) (qR (yF (pI B.isinstance zI B.str qY (pv 2)))))) (zF (zW (zU xC (pv 1) zN (zQ _)) (zG (zBd hu (pv 0) (pv 2) (zR G_law_held hr ∅ O (zA (pv 3) zC)) O)) zL)
  (zF (zW (j5 (vR (zU xC (pv 1) zN (zQ _)) (qR (uH (zDc hu (pv 2) (pv 0)))))) (zF (wF (zKa (pv 0) (pv 2) ⟨O,O,O,O⟩))
  (zG (zJ qB))) zL)
  (zG (zJ (yR xC (pv 1) zN (zQ _)))))) zL)
  (zF (zW (j5 (zBa (wL (yF (pI B.isinstance zI B.list yU (pv 0)))) (zAb (yF (pI B.isinstance zI B.str qY (pv 2)))))) (zG (zJ qB)) zL)
  (zF (zW (j5 (zBa (j5 (vR (zU xC (pv 1) zN (zQ _)) (qR (zU uW (pv 2) (zO yL O B.len yW (zA (pv 0) zC)) (zQ _))))) (zAb (j5 (vR (zU xC (pv 1) zN (zQ _)) (qR (zU xC (pv 2) (zO yL O B.len yW (zA (pv 0) zC)) (zQ _)))))))) (zF (wF (qT pA PySem.F.slot_list_insert PySem.F.type_list_insert zPs (pv 0) (zA (pv 2) (zA (zR G_law_held hr ∅ O (zA (pv 3) zC)) zC))))
  (zG (zJ qB))) zL)
  (zF (zW (zU op_ge (pv 2) (zO yL O B.len yW (zA (pv 0) zC)) (zQ _)) (zG (zJ qB)) zL)
  (zF (zW (zU xC (pv 1) zN (zQ _)) (zG (wF (qT pA PySem.F.slot_list_pop PySem.F.type_list_pop zTv (pv 0) (zA (pv 2) zC)))) zL)
  (zF (zW (zU xC (pv 1) zN (zQ _)) (zG (yDo (zR G_law_held hr ∅ O (zA (pv 3) zC)) (yDh (pv 0) (pv 2) zTm))) zL)
  (zG (zJ qB)))))))), ?_}
 walk_at "st";unfold zYj zVk gSub;lk;let n1:(A5 "put" =A5 "take")=False:=dL (by decide+kernel);let n2:(A5 "put" =A5 "insert")=False:=dL (by decide+kernel);let n3:(A5 "insert" =A5 "take")=False:=dL (by decide+kernel);let n4:(A5 "insert" =A5 "put")=False:=dL (by decide+kernel);let n5:(A5 "take" =A5 "put")=False:=dL (by decide+kernel);let n6:(A5 "take" =A5 "insert")=False:=dL (by decide+kernel);let hty:=(Sp1.rep _ _ _ hsp).ty;refine nEA _ hty ?_;let leaf:vL wd t ky=false->yA (tyT t) "dict" =false->yA (tyT t) "list" =false->∀{R1 R2:Prop},(if yA (tyT t) "dict" =true then R1 else∃x_1,tyS H x=Y x_1/\if yA x_1 "list" =false then Q (V.bl false) H else R2):=λhcn h1 h2=>iN (by rw[h1];decide) {_,hty,iP h2 (qn hcn)}
 cases t with
 | dic ks us=>
  refine iP (by simp only[tyT];decide+kernel) ?_;ext yD hsp a ps D1 r3_ ha z_;ext wC z_ hkk r6_ na hs;subst r3_ r6_;let hn1:∀b∈D1,H0 b=none:=λb hb=>hnew b (mH _ hb);let hlen:=hs...*;let hzz:=c8 us;let hz':T.szs us+1<=100000:=hzs;rw[mL] at hlen
  cases ky with
  | inl i=>exact{"int",O,iN ∎ {_,hty,iP (by simp only[tyT];decide+kernel) (qn (by cases wd<;>rfl))}}
  | inr z=>
   refine nEA ("str") O (iP ∎ ?_);let ex:(Sum.inr z:Key)=nK (ts z):=by show(Sum.inr z:Key)=Sum.inr (tx (ts z));rw[vH]
   cases wd with
   | put=>
    refine iP O {vn,u,O,hvn,hfu,hdu,λv' H1 D2 g1 sp2 hD2=>?_};refine qF a O _ (DPut.k (k:=Sum.inr z) (g1 _ _ ha) (by rw[mS];lia)) (iN (by show¬(A5 "put" =_);rw[n1];exact id) ?_);rw[ex];obtain⟨p1,p2⟩:=zAy (H:=uF H0 (upd H1 a (.dK (vM ps (nK (ts z)) v')))) (p:=(ks,us)) (n:=ts z) (v:=v') (t:=u) hkk (gS hs na hn1 g1) (zHn sp2 hD2 g0 ha);exact q O _ ((Keep.of g1).put _ mF) {a,_,O,by rw[wV (hnew a mF)];exact zB,p1,p2}
   | ins=>
    exact iN (by show¬(A5 "insert" =_);rw[n4];exact id) (iN (by show¬(A5 "insert" =_);rw[n3];exact id) (qn O))
   | tak=>
    refine iN (by show¬(A5 "take" =_);rw[n5];exact id) (iP O ?_)
    by_cases hz:ts z∈ks
    ·refine oEA (i4 hf.1 hkk (Sps.rep _ _ _ hs) hz) λxv hv1 _=>?_
     refine qF a O ↥xv (.inl {ps,Sum.inr z, .inl ha,O,by rw[ex];exact hv1.symm}) (iP O {a,O, .inl {ps, .inl ha},ps,ha,Sum.inr z,O,{xv,by rw[ex];exact hv1}, ?_});rw[ex];obtain⟨p1,p2⟩:=Reps.dropK (n:=ts z) hkk (gS (H1:=H) (a:=a) (o:=.dK (dropK ps (nK (ts z)))) hs na hn1 (Same.refl _));refine q ?_ _ (Keep.refl.put _ mF) {a,_,O,by rw[wV (hnew a mF)];exact zB,p1,p2};show(if ts z∈ks then Y (xY (ts z) ks us) else none).isSome=true;rw[mQ hz];rfl
    ·refine qF a O _ (by let:=zJh hkk ha hz;rw[vH] at this;exact this) (iN ∎ (qn ?_))
     show(if ts z∈ks then Y (xY (ts z) ks us) else none).isSome=false;rw[mK hz];rfl
 | lst us=>
  refine iN (by simp only[tyT];decide+kernel) {_,hty,iN (by simp only[tyT];decide+kernel) ?_};ext yD hsp a xs D1 r3_ ha z_;ext oAA z_ r5_ na hs;subst r3_ r5_
  cases ky with
  | inr z=>exact{"str",O,iP ∎ (qn (by cases wd<;>rfl))}
  | inl i=>
   refine nEA ("int") O (iN ∎ ?_);let hi0:0<=i:=hk.1;let hn1:∀b∈D1,H0 b=none:=λb hb=>hnew b (mH _ hb);let hlen:=hs...*;let hzz:=c8 us;let hz':T.szs us+1<=100000:=hzs;let tv:tyV K "list" (V.ref a) H:=.inl {O,xs,SqL.of ha};let insQ:(∀H',Keep (a::D1) H H'->Rep (uF H0 H') (.ref a) (.lst (us.take i.toNat++u::us.drop i.toNat))->Q (.bl true) H')->i<=(xs...*:Int)->zDz 20 [vn] H (λx H1=>rIns (V.ref a) [kV (Sum.inl i),x] H1 λx H1=>Q (V.bl true) H1) E0:=λqq hi=>by
    refine{vn,u,O,hvn,hfu,hdu,λv' H1 D2 g1 sp2 hD2=>?_};refine{a,xs,i,v',O,O,g1 _ _ ha,hi0,hi,by rw[mS];lia,∅, ?_};let r1:=gS (H1:=H1) (a:=a) (o:=.lst (xs.take i.toNat++v'::xs.drop i.toNat)) hs na hn1 g1;exact qq _ ((Keep.of g1).put _ mF) {a,_,O,by rw[wV (hnew a mF)];exact zB,Reps.append (vs:=u::us.drop i.toNat) (show Reps _ (v'::xs.drop i.toNat) (u::us.drop i.toNat) from{v',_,O,zHn sp2 hD2 g0 ha,Reps.drop _ r1}) (Reps.take _ r1)}
   cases wd with
   | put=>
    refine iN (by show¬(A5 "put" =_);rw[n2];exact id) (iP O {a,O,xs,SqL.of ha,O, ?_});let hc:vL .put (.lst us) (.inl i)=decide (i<=(us...*:Int)):=rfl
    by_cases hi:i=(xs...*:Int)
    ·refine iP (by rw[hi];rfl) {tv,insQ (λH' k' r'=>q (by rw[hc];exact nP ∅) H' k' ?_) ∅}
     show Rep _ _ (.lst (us.take i.toNat++u::us.drop (i.toNat+1)));rw[pT (show us...*<=i.toNat by lia)] at r';rw[pT ∅];exact r'
    ·refine iN (λz=>hi (V.int.inj z)) {a,O,xs,SqL.of ha,i,O, ?_}
     by_cases hj:(xs...*:Int)<=i
     ·exact iP hj (qn (by rw[hc];exact nG ∅))
     ·refine iN hj (iN (by show¬(A5 "put" =_);rw[n1];exact id) (iP O ?_))
      refine{vn,u,O,hvn,hfu,hdu,λv' H1 D2 g1 sp2 hD2=>?_};refine{a,xs,i,i.toNat,O,O,g1 _ _ ha,by unfold ixN;rw[mQ hi0,mQ ∅], ?_};let r1:=gS (H1:=H1) (a:=a) (o:=.lst (xs.set i.toNat v')) hs na hn1 g1;refine q (by rw[hc];exact nP ∅) _ ((Keep.of g1).put _ mF) ?_;show Rep _ _ (.lst (us.take i.toNat++u::us.drop (i.toNat+1)));rw[<-zNf ∅];exact{a,_,O,by rw[wV (hnew a mF)];exact zB,Reps.set (zHn sp2 hD2 g0 ha) _ r1}
   | ins=>
    let hc:vL .ins (.lst us) (.inl i)=decide (i<=(us...*:Int)):=rfl;refine iP O {a,O,xs,SqL.of ha,i,O, ?_}
    by_cases hi:i<=(xs...*:Int)
    ·exact iP hi {tv,insQ (q (by rw[hc];exact nP ∅)) hi}
    ·exact iN hi (iN (by show¬(A5 "insert" =_);rw[n4];exact id) {a,O,xs,SqL.of ha,i,O,iP ∅ (qn (by rw[hc];exact nG ∅))})
   | tak=>
    let hc:vL .tak (.lst us) (.inl i)=(us[i.toNat]?).isSome:=rfl;refine iN (by show¬(A5 "take" =_);rw[n6];exact id) (iN (by show¬(A5 "take" =_);rw[n5];exact id) {a,O,xs,SqL.of ha,i,O, ?_})
    by_cases hj:(xs...*:Int)<=i
    ·exact iP hj (qn (by rw[hc,aJ ∅];rfl))
    ·refine iN hj (iP O ?_)
     refine{tv,a,xs,i,i.toNat,_,O,O,ha,∅,∅,(zGu (by unfold ixN;rw[mQ hi0,mQ ∅])).1,mT ∅, ?_};refine iN (by show¬(A5 "take" =_);rw[n5];exact id) ?_;let r1:=gS (H1:=H) (a:=a) (o:=.lst (xs.eraseIdx i.toNat)) hs na hn1 (Same.refl _);refine q (by rw[hc,mT ∅];rfl) _ (Keep.refl.put _ mF) {a,_,O,by rw[wV (hnew a mF)];exact zB, ?_};rw[List.eraseIdx_eq_take_drop_succ] at r1⊢;exact Reps.append (Reps.drop _ r1) (Reps.take _ r1)
 | tup us=>exact hf.elim
 | non=>exact leaf (by cases wd<;>rfl) (by simp only[tyT];decide+kernel) (by simp only[tyT];decide+kernel)
 | bl _=>exact leaf (by cases wd<;>rfl) (by simp only[tyT];decide+kernel) (by simp only[tyT];decide+kernel)
 | int _=>exact leaf (by cases wd<;>rfl) (by simp only[tyT];decide+kernel) (by simp only[tyT];decide+kernel)
 | str _=>exact leaf (by cases wd<;>rfl) (by simp only[tyT];decide+kernel) (by simp only[tyT];decide+kernel)
abbrev sDo:V6:=top 59
def zYy(H:Hp)(d:V1)(wd:Wd)(ks:List Key)(u:T):Prop:=∃pd r vn,H d=Y (.tup (.str wd.s:: .ref pd::r))/\H pd=Y (.lst (ks.map kV))/\(.str wd.s:: .ref pd::r:List V).getLast? =Y vn/\r...*<=1/\Rep H vn u
structure zZm(ks:List Key)(u:T):Prop where
 l:ks...*<=100
 s:∀k∈ks,okK k
 f:T.few u
 d:T.dep u<20
theorem kK{w:Wd}{n:T}{k:Key}{ks:List Key}{t:T}(h:ks≠ []):doT w n (k::ks) t=match xG t k with
  | some s=>(doT w n ks s).map λr=>xF .put t k r
  | none=>none:=by
 cases ks with
 | nil=>exact absurd O h
 | cons k' ks=>rfl
def yBn:Sp:=λvs H Q _=>∃(v:V)(d:V1)(wd:Wd)(ks:List Key)(t u:T),vs= [v, .ref d]/\Rep H v t/\T.few t/\T.dep t<20/\T.sz t<=100000/\zYy H d wd ks u/\zZm ks u/\(∀r,doT wd u ks t=Y r->∀l x H',Same H H'->H' l=Y (.lst [.bl true,x])->Rep (uF H H') x r->Q (.ref l) H')/\(doT wd u ks t=none->∀l x H',Same H H'->H' l=Y (.lst [.bl false,x])->Q (.ref l) H')
theorem scDo:zS ["_law_thing","_law_deed_here","_law_new","_law_whole","_law_there","_law_step"] ["_law_thing","_law_deed_here"] (zK sDo):=by walk_at "sc"
theorem ok_do{k:Nat}(F:Fun K "_law_deed_on" "_law_deed_on" sDo f fd)(B:Bl mg)(G_law_held:Dn P w K mg base k "_law_held" ["_law_thing"] (zDz 20))(G_law_put_in:Dn P w K mg base k "_law_put_in" ["_law_thing","_law_word","_law_step","_law_new"] spPi):FnOk P w K mg base CX0 (k+1) f fd ["_law_thing","_law_deed_here"] yBn:=by
 refine F.ok scDo (λvs H Q E h=>?_) (λc A o s H vs Q E hr h=>?_)
 ·ext xO h v d wd ks t z_
  ext oEA z_ u r6_ _;subst r6_
  rfl
 obtain⟨v,d,wd,ks,t,u,rfl,hv,hf,hd,hz,⟨pd,r,vn,hdd,hpd,hlast,hr1,hvn⟩,hI,q,qn⟩:=h;let nd:=scDo.nd;let hu:=vA hr;let hu0:=hr.units0;refine{_,(zF (pS 2 nd (yB kA (pv 1) (wS xR zE) (λ_ _=>O)))
  (zF (zW (zU (zNt hu0) (yB kA (pv 1) zE (λ_ _=>O)) (zT zC) (zQ _)) (zG (zJ (zT (zA (yR xC (yB kA (pv 1) zE (λ_ _=>O)) zN (zQ _)) (zA (zR G_law_held hr ∅ O (zA (pv 2) zC)) zC))))) zL)
  (zF (pS 3 nd (zR G_law_held hr ∅ O (zA (pv 0) zC)))
  (zF (pS 4 nd (pv 3))
  (zF (vO PassesOwn.never O (xQ (qD kZ (yB kA (pv 1) zE (λ_ _=>O)) jC (jB (wS xR zE)))) (yI (i:=5) nd O (nU O)) (zG (zW (j5 (vR (yF (pI B.isinstance zI B.dict xA (pv 4))) (vR (yF (pI B.isinstance zI B.str qY (pv 5))) (qR (uH (zDc hu (pv 5) (pv 4))))))) (zG (pS 4 nd (jU hu (pv 4) (pv 5) (λ_ _=>O)))) (zG (zW (j5 (vR (yF (pI B.isinstance zI B.list yU (pv 4))) (vR (wL (yF (pI B.isinstance zI B.str qY (pv 5)))) (qR (zU jA (pv 5) (zO yL O B.len yW (zA (pv 4) zC)) (zQ _)))))) (zG (pS 4 nd (yB zP (pv 4) (pv 5) (λ_ _=>O)))) (zG (zJ (zT (zA qB (zA gQ zC))))))))))
  (zG (zJ (zT (zA (zR G_law_put_in hr ∅ O (zA (pv 4) (zA (yB kA (pv 1) zE (λ_ _=>O)) (zA (yB zP (yB kA (pv 1) zE (λ_ _=>O)) (wS xR zE) (λ_ _=>O)) (zA (pv 2) zC))))) (zA (pv 3) zC)))))))))), ?_}
 walk_at "st";lk;let hl0:∀{H':Hp},Same H H'->SqT K H' d (.str wd.s:: .ref pd::r):=λg=>SqT.of (g _ _ hdd);let ixl:atI (.str wd.s:: .ref pd::r:List V) (-1)=Y vn:=by
  rcases r with _ |⟨y,_ |⟨z,r⟩⟩
  ·simpa [atI,ixN] using hlast
  ·simpa [atI,ixN] using hlast
  ·exact absurd hr1 (by simp)
 let g00:=Same.refl H;refine qK (hl0 g00) ixl (qK (hl0 g00) (zV (j:=1) O) λp hp=>?_);let s1:=zD hp (.lst []);refine{pd,p,ks.map kV,O,O,SqL.of (s1 _ _ hpd),SqL.of zB,_,O, ?_};generalize upd H p (.lst [])=H1 at s1⊢
 by_cases hks:ks= []
 ·subst hks
  refine iP O (qK (hl0 s1) (zV (j:=0) O) {O,vn,u,O,Rep.same s1 _ _ hvn,hI.f,hI.d,λx H2 D2 g2 sp2 hD2 l hl=>?_});let s3:=zD hl (.lst [V.bl (decide (V.str wd.s=V.str (A5 "put"))),x]);let hrx:=Sp1.new (sp2.same s3) λb hb=>yG s1 (hD2 b hb)
  cases wd with
  | put=>exact q u O l x _ (s1.trans (g2.trans s3)) (by rw[zB,nP (show V.str (Wd.put).s=V.str (A5 "put") from O)]) hrx
  | ins=>exact qn O l x _ (s1.trans (g2.trans s3)) (by rw[zB,nG (show¬V.str (Wd.ins).s=V.str (A5 "put") from λz=>absurd (V.str.inj z) (by decide+kernel))])
  | tak=>exact qn O l x _ (s1.trans (g2.trans s3)) (by rw[zB,nG (show¬V.str (Wd.tak).s=V.str (A5 "put") from λz=>absurd (V.str.inj z) (by decide+kernel))])
 ·refine iN (by cases ks<;>simp_all) {v,t,O,Rep.same s1 _ _ hv,hf,hd,λx H2 D2 g2 sp2 hD2=>?_}
  let g12:=s1.trans g2;refine qK (hl0 g12) (zV (j:=1) O) {pd,_,O,SqL.of (g12 _ _ hpd),λpc hpc=>{pc,O,{_,SqL.of zB}, ?_}};rw[zJo];obtain⟨ks0,kl,rfl⟩:∃ks0 kl,ks=ks0++ [kl]:={ks.dropLast,ks.getLast hks,(aN hks).symm};let ek:List.take (((ks0++ [kl]).map kV)...* - 1) ((ks0++ [kl]).map kV)=ks0.map kV:=by
   rw[nJ,mM,mL];exact List.take_left' (by simp)
  rw[ek] at*;let s3:=zD hpc (.lst (ks0.map kV));let e3:=zB (H:=H2) (a:=pc) (o:=.lst (ks0.map kV));generalize upd H2 pc (.lst (ks0.map kV))=H3 at s3 e3⊢;let g13:=g12.trans s3;let C0:Cx2 H H3 x (λr=>r) x t D2:=Cx2.refl (sp2.same s3) (λb hb=>yG s1 (hD2 b hb)) hf;let bad:doT wd u (ks0++ [kl]) t=none->∀(l:V1),H3 l=none->Q (V.ref l) (upd H3 l (.lst [V.bl false,V.non])):=λhn l hl=>qn hn l .non _ (g13.trans (zD hl _)) zB;refine jF (K:=K) (a:=pc) (xs:=ks0.map kV) (λi σ H'=>H'=H3/\∃(y:V)(s:T)(D:List V1)(up:T->T)(o:Option V),σ= [Y v,Y (V.ref d),Y vn,Y x,Y y,o]/\Cx2 H H3 x up y s D/\T.sz s<=100000/\doT wd u (ks0++ [kl]) t=(doT wd u (ks0.drop i++ [kl]) s).map up) {O,_,_,_,_,_,O,C0,hz,by simp} (λi σ H' _ h=>by rw[h.1];exact SqL.of e3) ?_ ?_
  ·rintro i kv σ H' hkv ⟨rfl,y,s,D,up,o,rfl,C,hzs,hdo⟩
   rw[nH] at hkv;refine oEA (rZ.mp hkv) λk hk r2_=>?_;subst r2_;let hok:=hI.s k (nV _ (mP hk));let hdr:ks0.drop i++ [kl]=k::(ks0.drop (i+1)++ [kl]):=by
    obtain⟨hlt,e⟩:=mO.mp hk;rw[pB hlt,e];rfl
   rw[hdr,kK (by simp)] at hdo;let hty:=(Sp1.rep _ _ _ C.sp).ty;unfold zYj zFo;lk;refine nEA _ hty ?_
   cases s with
   | dic hs us=>
    refine iP (by simp only[tyT];decide+kernel) ?_
    cases k with
    | inl i=>exact{"int",O,iN ∎ {_,hty,iN (by simp only[tyT];decide+kernel) (bad hdo)}}
    | inr z=>
     refine nEA ("str") O (iP ∎ ?_);let ex:(Sum.inr z:Key)=nK (ts z):=by show(Sum.inr z:Key)=Sum.inr (tx (ts z));rw[vH]
     refine yD (C.sp) λa ps D1 r3_ ha z_=>?_;ext wC z_ hkk _ _ _;subst r3_;let hst:xG (.dic hs us) (.inr z)=if ts z∈hs then Y (xY (ts z) hs us) else none:=rfl;rw[hst] at hdo
     by_cases hz:ts z∈hs
     ·refine yD (C.rcd hz) λps' y' D' ha' hkk' z_=>?_
      ext oA z_ hv' C';rw[<-ex] at hv';rw[mQ hz] at hdo;let hfs:=C.few;let hzm:=c6 (wP hz hfs.2.2.1);let hzq:T.szs us+1<=100000:=hzs;exact qF a O _ (.inl {ps',Sum.inr z, .inl ha',O,hv'.symm}) (iP O {a,O,_, .inl {ps',Sum.inr z, .inl ha',O,hv'.symm},y',⟨O,_,O⟩,_,_,_,C',∅,by rw[hdo,Option.map_map];rfl})
     ·rw[mK hz] at hdo
      exact qF a O none (by let:=zJh hkk ha hz;rw[vH] at this;exact this) (iN ∎ {_,hty,iN (by simp only[tyT];decide+kernel) (bad hdo)})
   | lst us=>
    refine iN (by simp only[tyT];decide+kernel) {_,hty,iP (by simp only[tyT];decide+kernel) ?_}
    cases k with
    | inr z=>exact{"str",O,iN ∎ (bad hdo)}
    | inl i=>
     let hi0:0<=i:=hok.1;refine nEA ("int") O (iP ∎ ?_);refine yD (C.sp) λa xs D1 r3_ ha z_=>?_;ext oAA z_ _ _ hs;subst r3_;let hl:=hs...*;refine jY a O xs (SqL.of ha) i (nA O ?_)
     by_cases hi:i<(xs...*:Int)
     ·obtain⟨w0,hw0⟩:∃w0,us[i.toNat]? =Y w0:={us[i.toNat]'∅,mT _}
      refine yD (C.row hi0 hw0) λxs' y' D' ha' hl' z_=>?_;ext oA z_ hy' C';let hst:xG (.lst us) (.inl i)=us[i.toNat]?:=rfl;rw[hst,hw0] at hdo;let hzm:=c6 (mP hw0);let hzq:T.szs us+1<=100000:=hzs;rw[ha] at ha';cases ha';let ey:atI xs i=Y y':=by rw[show i=((i.toNat:Nat):Int) by lia];exact zV hy'
      exact iP hi (zZ (SqL.of ha) ey {O,y',⟨O,_,O⟩,_,_,_,C',∅,by rw[hdo,Option.map_map];rfl})
     ·let hst:xG (.lst us) (.inl i)=us[i.toNat]?:=rfl
      rw[hst,aJ ∅] at hdo;exact iN hi (bad hdo)
   | tup _=>exact C.few.elim
   | _=>exact iN (by simp only[tyT];decide+kernel) {_,hty,iN (by simp only[tyT];decide+kernel) (bad hdo)}
  ·rintro σ H' ⟨rfl,y,s,D,up,o,rfl,C,hzs,hdo⟩
   let hokl:=hI.s kl (nI _ mF);rw[mL,aQ] at hdo;let hd1:doT wd u ([]++ [kl]) s=if vL wd s kl=true then Y (xF wd s kl u) else none:=rfl;rw[hd1] at hdo;lk;let el:atI ((ks0++ [kl]).map kV) (-1)=Y (kV kl):=by
    rw[nJ];exact wD _ _
   refine qK (hl0 g13) (zV (j:=0) O) (qK (hl0 g13) (zV (j:=1) O) (zZ (SqL.of (g13 _ _ hpd)) el ?_));refine{H,y,vn,wd,kl,s,u,D,O,g13,C.sp,C.new,C.few,hokl,Rep.same g13 _ _ hvn,hI.f,hI.d,hzs,λhc H4 hk hr' l hl=>?_,λhc l hl=>?_}
   ·rw[mQ hc] at hdo
    let s5:=zD hl (.lst [V.bl true,x]);exact q _ hdo l x _ ((hk.old g13 C.new).trans s5) zB (Rep.same (zPl s5) _ _ (C.cls H4 _ hr' hk))
   ·rw[mK (by rw[hc];decide)] at hdo
    exact qn hdo l x _ (g13.trans (zD hl _)) zB
theorem zZz{us:List T}:us...*<=T.szs us:=c8 us
theorem zPt{m:Nat}{a b:List T}(h:d9 m b)(s:∀t∈a,t∈b):d9 m a:=d6 λt ht=>c7 h (s t ht)
theorem zOk{us:List T}{i j:Nat}(h:i<=j):T.szs (us.take i)+T.szs (us.drop j)<=T.szs us:=by
 let e:us=us.take i++us.drop i:=(bV i us).symm;let e2:T.szs us=T.szs (us.take i)+T.szs (us.drop i):=by conv=>lhs;rw[e,d8]
 let e3:us.drop i=(us.drop i).take (j - i)++us.drop j:=by
  let:=(bV (j - i) (us.drop i)).symm;rw[List.drop_drop,show i+(j - i)=j by lia] at this;exact this
 let e4:T.szs (us.drop i)=T.szs ((us.drop i).take (j - i))+T.szs (us.drop j):=by conv=>lhs;rw[e3,d8]
 lia
theorem zSe{a b:List T}{d:Nat}(h:T.deps b<=d)(s:∀t∈a,t∈b):T.deps a<=d:=d7 λt ht=>pC (b8 (s t ht)) h
theorem yDd{m:Nat}{us:List T}{n:T}{i j:Nat}(hij:i<=j)(hf:T.fewm m (.lst us))(hn:T.fewm m n)(hz:T.sz (.lst us)<=50000):
  T.fewm m (.lst (us.take i++n::us.drop j))/\T.dep (.lst (us.take i++n::us.drop j))<=max (T.dep (.lst us)) (T.dep n+1)/\T.sz (.lst (us.take i++n::us.drop j))<=T.sz (.lst us)+T.sz n:=by
 let hz':T.szs us+1<=50000:=hz;let hl:=zZz (us:=us);let hc:=zOk (us:=us) hij;let hs:∀t∈us.take i++n::us.drop j,t∈us\/t=n:=λt ht=>by
  rcases mU.mp ht with z | z
  ·exact .inl (tJ z)
  ·rcases mD.mp z with z | z
   ·exact .inr z
   ·exact .inl (aS z)
 refine nAA {?_,d6 λt ht=>?_} ?_ ?_
 ·rw[mM,mW,sE,rN];lia
 ·rcases hs t ht with z | z
  ·exact c7 hf.2 z
  ·rw[z];exact hn
 ·show T.deps (us.take i++n::us.drop j)+1<=max (T.deps us+1) (T.dep n+1)
  let:T.deps (us.take i++n::us.drop j)<=max (T.deps us) (T.dep n):=d7 λt ht=>by
   rcases hs t ht with z | z
   ·let:=b8 z;lia
   ·rw[z];lia
  lia
 ·show T.szs (us.take i++n::us.drop j)+1<=T.szs us+1+T.sz n
  rw[d8];show T.szs (us.take i)+(T.sz n+T.szs (us.drop j))+1<=_
  lia
theorem zVf{m:Nat}{ks ls:List (List Nat)}{us vs:List T}{n:T}(hf:T.fewm m (.dic ks us))(hn:T.fewm m n)(nd:ls.Nodup)(hl:ls...*=vs...*)(hlen:vs...*<=us...*+1)(hs:∀t∈vs,t∈us\/t=n)(hz:T.szs vs<=T.szs us+T.sz n):
  T.fewm (m+1) (.dic ls vs)/\T.dep (.dic ls vs)<=max (T.dep (.dic ks us)) (T.dep n+1)/\T.sz (.dic ls vs)<=T.sz (.dic ks us)+T.sz n:=by
 ext wC hf nk hm hku hu;refine nAA {nd,∅,hl,d6 λt ht=>?_} ?_ ?_
 ·rcases hs t ht with z | z
  ·exact b7 (pR m) _ (c7 hu z)
  ·rw[z];exact b7 (pR m) _ hn
 ·show T.deps vs+1<=max (T.deps us+1) (T.dep n+1)
  let:T.deps vs<=max (T.deps us) (T.dep n):=d7 λt ht=>by
   rcases hs t ht with z | z
   ·let:=b8 z;lia
   ·rw[z];lia
  lia
 ·show T.szs vs+1<=T.szs us+1+T.sz n
  lia
theorem kR{m:Nat}{t n:T}(hf:T.fewm m t):T.fewm (m+1) t/\T.dep t<=max (T.dep t) (T.dep n+1)/\T.sz t<=T.sz t+T.sz n:={b7 (pR m) _ hf,cD _ _,dE _ _}
theorem zMm{m:Nat}{us:List T}{n:T}{i j:Nat}(hij:i<=j)(hf:T.fewm m (.lst us))(hn:T.fewm m n)(hz:T.sz (.lst us)<=50000):
  T.fewm (m+1) (.lst (us.take i++n::us.drop j))/\T.dep (.lst (us.take i++n::us.drop j))<=max (T.dep (.lst us)) (T.dep n+1)/\T.sz (.lst (us.take i++n::us.drop j))<=T.sz (.lst us)+T.sz n:=by
 obtain⟨h1,h2,h3⟩:=yDd hij hf hn hz;exact nAA (b7 (pR m) _ h1) h2 h3
theorem zXn{m:Nat}{us:List T}{n:T}{i:Nat}(hf:T.fewm m (.lst us)):
  T.fewm (m+1) (.lst (us.take i++us.drop (i+1)))/\T.dep (.lst (us.take i++us.drop (i+1)))<=max (T.dep (.lst us)) (T.dep n+1)/\T.sz (.lst (us.take i++us.drop (i+1)))<=T.sz (.lst us)+T.sz n:=by
 let hc:=zOk (us:=us) (i:=i) (j:=i+1) ∅;let hs:∀t∈us.take i++us.drop (i+1),t∈us:=λt ht=>(mU.mp ht).elim tJ aS;refine nAA {?_,i6 (pR m) _ (zPt hf.2 hs)} ?_ ?_
 ·let:=hf.1
  rw[mM,sE,rN];lia
 ·show T.deps (us.take i++us.drop (i+1))+1<=max (T.deps us+1) (T.dep n+1)
  let:=zSe (mE (T.deps us)) hs
  lia
 ·show T.szs (us.take i++us.drop (i+1))+1<=T.szs us+1+T.sz n
  rw[d8];lia
theorem zRz{m:Nat}{ks:List (List Nat)}{us:List T}{n:T}{x:List Nat}(hf:T.fewm m (.dic ks us))(hn:T.fewm m n):
  T.fewm (m+1) (.dic (qG x ks) (xX x ks us))/\T.dep (.dic (qG x ks) (xX x ks us))<=max (T.dep (.dic ks us)) (T.dep n+1)/\T.sz (.dic (qG x ks) (xX x ks us))<=T.sz (.dic ks us)+T.sz n:=by
 obtain⟨l1,l2⟩:=zIf (n:=x) hf.2.2.1;let:=zBm (n:=x) (ks:=ks) (us:=us);exact zVf hf hn (gM hf.1) l1 ∅ (λt ht=>.inl (uS ht)) ∅
theorem zQx{m:Nat}{w:Wd}{t n:T}{k:Key}(hf:T.fewm m t)(hn:T.fewm m n)(hz:T.sz t<=50000):T.fewm (m+1) (xF w t k n)/\T.dep (xF w t k n)<=max (T.dep t) (T.dep n+1)/\T.sz (xF w t k n)<=T.sz t+T.sz n:=by
 cases t with
 | dic ks us=>
  cases k with
  | inr x=>
   cases w with
   | put=>
    obtain⟨l1,l2⟩:=zDj (ks:=ks) (us:=us) (n:=ts x) (t:=n) hf.2.2.1;let:=zBm (n:=ts x) (ks:=ks) (us:=us);let hz2:=zIp (n:=ts x) (t:=n) hf.1 hf.2.2.1;exact zVf hf hn (zAe hf.1) l1 l2 (λt ht=>zAw ht) ∅
   | ins=>exact kR hf
   | tak=>exact zRz hf hn
  | inl i=>cases w<;>exact kR hf
 | lst us=>
  cases k with
  | inl i=>
   cases w with
   | put=>exact zMm (pR _) hf hn hz
   | ins=>exact zMm (mE _) hf hn hz
   | tak=>exact zXn hf
  | inr x=>cases w<;>exact kR hf
 | tup us=>exact hf.elim
 | non=>cases w<;>exact kR hf
 | bl b=>cases w<;>exact kR hf
 | int b=>cases w<;>exact kR hf
 | str b=>cases w<;>exact kR hf
theorem zAo:∀(t:T)(ks:List Key),1<=(goT t ks)...*/\(goT t ks)...*<=ks...*+1
 | t,[]=>{mE _,mE _}
 | t,k::ks=>by
  show 1<=(match xG t k with | none=>[t] | some u=>t::goT u ks)...*/\(match xG t k with | none=>[t] | some u=>t::goT u ks)...*<=ks...*+1+1
  cases xG t k with
  | none=>exact{mE _,by show 1<=_;lia}
  | some u=>
   let:=zAo u ks;exact{by show 1<=(goT u ks)...*+1;lia,by show(goT u ks)...*+1<=_;lia}
theorem zNa{r:T}:∀{us:List T}{i:Nat}{u:T},us[i]? =Y u->T.szs (us.set i r)+T.sz u=T.szs us+T.sz r
 | [],_,_,h=>by simp at h
 | v::us,0,u,h=>by
  let e:v=u:=by simpa using h
  subst e;show T.sz r+T.szs us+T.sz v=T.sz v+T.szs us+T.sz r
  lia
 | v::us,i+1,u,h=>by
  let ih:=zNa (r:=r) (us:=us) (i:=i) (u:=u) (by simpa using h);show T.sz v+T.szs (us.set i r)+T.sz u=T.sz v+T.szs us+T.sz r
  lia
theorem zJk{n:List Nat}{r:T}:∀{ks:List (List Nat)}{us:List T},ks.Nodup->ks...*=us...*->n∈ks->T.szs (yY n r ks us)+T.sz (xY n ks us)=T.szs us+T.sz r
 | [],_,_,_,h=>nomatch h
 | _::_,[],_,h,_=>by simp at h
 | k::ks,u::us,nd,hl,h=>by
  rw[pM] at nd;show T.szs ((if k=n then r else u)::yY n r ks us)+T.sz (if k=n then u else xY n ks us)=T.sz u+T.szs us+T.sz r
  by_cases e:k=n
  ·rw[mQ e,mQ e]
   let h2:yY n r ks us=us:=by
    let z:=zIp (n:=n) (t:=r) nd.2 (by simpa using hl) (us:=us);let hn:n∉ks:=by rw[<-e];exact nd.1
    let:∀(ks:List (List Nat))(us:List T),n∉ks->yY n r ks us=us:=by
     intro ks
     induction ks with
     | nil=>intro us _;unfold yY;rfl
     | cons a ks ih=>
      intro us hn
      cases us with
      | nil=>rfl
      | cons b us=>
       show(if a=n then r else b)::yY n r ks us=b::us;rw[mK (λz=>hn (by rw[z];exact mF)),ih us λz=>hn (mH _ z)]
    exact this ks us hn
   rw[h2];show T.sz r+T.szs us+T.sz u=_
   lia
  ·rw[mK e,mK e]
   let hm:n∈ks:=by
    rcases mD.mp h with z | z
    ·exact absurd z.symm e
    ·exact z
   let ih:=zJk (r:=r) nd.2 (by simpa using hl) hm (us:=us);show T.sz u+T.szs (yY n r ks us)+T.sz (xY n ks us)=_
   lia
theorem kD{t u:T}{k:Key}(hs:xG t k=Y u):(∃us i,t= .lst us/\k= .inl i/\us[i.toNat]? =Y u/\∀r,xF .put t k r= .lst (us.set i.toNat r))\/(∃ks us x,t= .dic ks us/\k= .inr x/\ts x∈ks/\u=xY (ts x) ks us/\∀r,xF .put t k r= .dic ks (yY (ts x) r ks us)):=by
 cases t with
 | lst us=>
  cases k with
  | inl i=>
   let h:us[i.toNat]? =Y u:=hs;refine .inl {us,i,O,O,h,λr=>?_};show T.lst (us.take i.toNat++r::us.drop (i.toNat+1))=_;let hi:=(mO.mp h).1;rw[bM,mQ hi]
  | inr x=>cases hs
 | dic ks us=>
  cases k with
  | inl i=>cases hs
  | inr x=>
   let h':(if ts x∈ks then Y (xY (ts x) ks us) else none)=Y u:=hs
   by_cases hm:ts x∈ks
   ·rw[mQ hm] at h'
    refine .inr {ks,us,x,O,O,hm,(mR h').symm,λr=>?_};let e:vE (ks,us) (ts x) r=(ks,yY (ts x) r ks us):=mQ hm;show T.dic (vE (ks,us) (ts x) r).1 (vE (ks,us) (ts x) r).2=_;rw[e]
   ·rw[mK hm] at h';cases h'
 | non=>cases hs
 | bl b=>cases hs
 | int b=>cases hs
 | str b=>cases hs
 | tup us=>cases hs
theorem yBs{m:Nat}{t u r:T}{k:Key}(hf:T.fewm m t)(hs:xG t k=Y u):T.sz (xF .put t k r)+T.sz u=T.sz t+T.sz r:=by
 rcases kD hs with⟨us,i,rfl,rfl,h,e⟩|⟨ks,us,x,rfl,rfl,hm,rfl,e⟩
 ·rw[e]
  let:=zNa (r:=r) h;show T.szs _+1+_=T.szs us+1+_
  lia
 ·rw[e]
  let:=zJk (r:=r) hf.1 hf.2.2.1 hm;show T.szs _+1+_=T.szs us+1+_
  lia
theorem yAv{m:Nat}{t u r:T}{k:Key}(hf:T.fewm m t)(hs:xG t k=Y u)(hr:T.fewm m r):T.fewm m (xF .put t k r)/\T.dep (xF .put t k r)<=max (T.dep t) (T.dep r+1):=by
 rcases kD hs with⟨us,i,rfl,rfl,h,e⟩|⟨ks,us,x,rfl,rfl,hm,rfl,e⟩
 ·rw[e]
  let hsub:∀t∈us.set i.toNat r,t∈us\/t=r:=λt ht=>List.mem_or_eq_of_mem_set ht;refine{{by rw[aY];exact hf.1,d6 λt ht=>?_}, ?_}
  ·rcases hsub t ht with z | z
   ·exact c7 hf.2 z
   ·rw[z];exact hr
  ·show T.deps _+1<=max (T.deps us+1) (T.dep r+1)
   let:T.deps (us.set i.toNat r)<=max (T.deps us) (T.dep r):=d7 λt ht=>by
    rcases hsub t ht with z | z
    ·let:=b8 z;lia
    ·rw[z];lia
   lia
 ·rw[e]
  refine{{hf.1,hf.2.1,by rw[uM];exact hf.2.2.1,d6 λt ht=>?_}, ?_}
  ·rcases uN _ _ _ _ _ ht with z | z
   ·exact c7 hf.2.2.2 z
   ·rw[z];exact hr
  ·show T.deps _+1<=max (T.deps us+1) (T.dep r+1)
   let:T.deps (yY (ts x) r ks us)<=max (T.deps us) (T.dep r):=d7 λt ht=>by
    rcases uN _ _ _ _ _ ht with z | z
    ·let:=b8 z;lia
    ·rw[z];lia
   lia
theorem zGl{m:Nat}{t u:T}{k:Key}(hf:T.fewm m t)(hs:xG t k=Y u):T.fewm m u/\T.dep u+1<=T.dep t/\T.sz u<=T.sz t:=by
 rcases kD hs with⟨us,i,rfl,rfl,h,e⟩|⟨ks,us,x,rfl,rfl,hm,rfl,e⟩
 ·let hmm:=mP h
  let:=b8 hmm;let:=c6 hmm;exact nAA (c7 hf.2 hmm) (show _<=T.deps us+1 by lia) (show _<=T.szs us+1 by lia)
 ·let hmm:=wP hm hf.2.2.1
  let:=b8 hmm;let:=c6 hmm;exact nAA (c7 hf.2.2.2 hmm) (show _<=T.deps us+1 by lia) (show _<=T.szs us+1 by lia)
theorem zJw:∀(ks:List Key)(t:T)(i:Nat),i+1<(goT t ks)...*->∃k u v,ks[i]? =Y k/\(goT t ks)[i]? =Y u/\(goT t ks)[i+1]? =Y v/\xG u k=Y v
 | [],t,i,h=>by
  let h':i+1<1:=h
  lia
 | k::ks,t,i,h=>by
  let e:goT t (k::ks)=(match xG t k with | none=>[t] | some u=>t::goT u ks):=rfl
  cases hs:xG t k with
  | none=>
   rw[hs] at e;rw[e] at h;let h':i+1<1:=h
   lia
  | some u=>
   rw[hs] at e;let e':goT t (k::ks)=t::goT u ks:=e;rw[e'] at h⊢
   cases i with
   | zero=>
    let hl:=(zAo u ks).1;obtain⟨v,hv⟩:∃v,(goT u ks)[0]? =Y v:={(goT u ks)[0],by simp};let hv':v=u:=by
     cases ks with
     | nil=>let:(goT u [])[0]? =Y u:=rfl;rw[this] at hv;exact(mR hv).symm
     | cons k2 ks=>
      let:goT u (k2::ks)=(match xG u k2 with | none=>[u] | some u'=>u::goT u' ks):=rfl
      rw[this] at hv
      cases hs2:xG u k2 with
      | none=>rw[hs2] at hv;exact(mR hv).symm
      | some _=>rw[hs2] at hv;exact(mR hv).symm
    refine qQ k t u O O (nA ?_ hs);show(goT u ks)[0]? =Y u;rw[hv,hv']
   | succ i=>
    refine yD (zJw ks u i (by simpa using h)) λk' u' v' h1 h2 z_=>?_;ext oA z_ h3 h4;exact qQ k' u' v' (by simpa using h1) (by simpa using h2) (nA (by simpa using h3) h4)
theorem zDm{m:Nat}:∀(ks:List Key)(t:T)(i:Nat)(u:T),T.fewm m t->(goT t ks)[i]? =Y u->T.fewm m u/\T.dep u+i<=T.dep t/\T.sz u<=T.sz t
 | [],t,i,u,hf,h=>by
  let h': [t][i]? =Y u:=h
  cases i with
  | zero=>rw[<-mR h'];exact{hf,mE _,mE _}
  | succ i=>cases h'
 | k::ks,t,i,u,hf,h=>by
  let e:goT t (k::ks)=(match xG t k with | none=>[t] | some u=>t::goT u ks):=rfl
  cases hs:xG t k with
  | none=>
   rw[hs] at e;let e':goT t (k::ks)= [t]:=e;rw[e'] at h
   cases i with
   | zero=>rw[<-mR h];exact{hf,mE _,mE _}
   | succ i=>cases h
  | some v=>
   rw[hs] at e;let e':goT t (k::ks)=t::goT v ks:=e;rw[e'] at h
   cases i with
   | zero=>rw[<-mR h];exact{hf,mE _,mE _}
   | succ i=>
    obtain⟨a1,a2,a3⟩:=zGl hf hs;obtain⟨b1,b2,b3⟩:=zDm ks v i u a1 (by simpa using h);exact nAA b1 ∅ ∅
def okS:Key->Prop
 | .inl i=>0<=i/\i<=59
 | .inr s=>yQ (ts s)=true
theorem okS.k{k:Key}(h:okS k):okK k:=by
 cases k with
 | inl i=>exact h
 | inr s=>exact mI
theorem putT_in{ks:List (List Nat)}{us:List T}{n k:List Nat}{t:T}:k∈(vE (ks,us) n t).1↔k∈ks\/k=n:=by
 unfold vE;split
 ·rename_i h
  exact{.inl,λz=>z.elim id λe=>by rw[e];exact h}
 ·show k∈ks++ [n]↔_
  rw[mU,mG]
theorem zTu{us:List T}{n:T}{i j:Nat}(ht:j9 us)(hn:T.gk n):j9 (us.take i++n::us.drop j):=i8 λu hu=>by
 rcases mU.mp hu with z | z
 ·exact d5 ht (tJ z)
 ·rcases mD.mp z with z | z
  ·rw[z];exact hn
  ·exact d5 ht (aS z)
theorem zOl{w:Wd}{t n:T}{k:Key}(ht:T.gk t)(hn:T.gk n)(hk:okS k):T.gk (xF w t k n):=by
 cases t with
 | lst us=>
  let h':j9 us:=ht
  cases k with
  | inr s=>cases w<;>exact h'
  | inl i=>
   cases w with
   | put=>exact zTu h' hn
   | ins=>exact zTu h' hn
   | tak=>exact i8 λu hu=>(mU.mp hu).elim (λz=>d5 h' (tJ z)) λz=>d5 h' (aS z)
 | dic ks us=>
  let h':(∀k∈ks,yQ k=true)/\j9 us:=ht
  cases k with
  | inl i=>cases w<;>exact h'
  | inr s=>
   cases w with
   | put=>exact{λk hk'=>(putT_in.mp hk').elim (h'.1 k) λe=>by rw[e];exact hk,i8 λu hu=>(zAw hu).elim (d5 h'.2) λe=>by rw[e];exact hn}
   | ins=>exact h'
   | tak=>exact{λk hk'=>h'.1 k (dropN_mem.mp hk').1,i8 λu hu=>d5 h'.2 (uS hu)}
 | tup us=>exact ht.elim
 | _=>cases k<;>cases w<;>exact ht
theorem zVt{t u:T}{k:Key}(hf:T.few t)(ht:T.gk t)(hs:xG t k=Y u):T.gk u:=by
 rcases kD hs with⟨us,i,rfl,_,h,_⟩|⟨ks,us,x,rfl,_,hm,rfl,_⟩
 ·exact d5 ht (mP h)
 ·exact d5 ht.2 (wP hm hf.2.2.1)
theorem zGz{m:Nat}{w:Wd}{n:T}(hm:m<63)(fn:T.fewm m n)(gn:T.gk n):∀(ks:List Key)(t r:T),doT w n ks t=Y r->T.fewm m t->T.gk t->(∀k∈ks,okS k)->T.sz t<=50000->T.fewm (m+1) r/\T.gk r/\T.dep r<=max (T.dep t) (ks...*+T.dep n)/\T.sz r<=T.sz t+T.sz n
 | [],t,r,h,ft,gt,_,_=>by
  cases w with
  | put=>
   let e:n=r:=mR h;subst e;exact zSf (b7 (pR m) _ fn) gn (by show T.dep n<=max (T.dep t) (0+T.dep n);lia) ∅
  | ins=>cases h
  | tak=>cases h
 | [k],t,r,h,ft,gt,hk,hz=>by
  let h':(if vL w t k=true then Y (xF w t k n) else none)=Y r:=h
  by_cases hc:vL w t k=true
  ·rw[mQ hc] at h'
   let e:=mR h';subst e;obtain⟨a1,a2,a3⟩:=zQx (w:=w) (k:=k) ft fn hz;exact zSf a1 (zOl gt gn (hk k mF)) (by show _<=max (T.dep t) (1+T.dep n);lia) a3
  ·rw[mK hc] at h';cases h'
 | k::k'::ks,t,r,h,ft,gt,hk,hz=>by
  rw[kK (by simp)] at h
  cases hs:xG t k with
  | none=>rw[hs] at h;cases h
  | some s=>
   rw[hs] at h;obtain⟨r',hr',e⟩:=rZ.mp h;subst e;obtain⟨s1,s2,s3⟩:=zGl ft hs;refine wC (zGz hm fn gn (k'::ks) s r' hr' s1 (zVt (c5 ∅ _ ft) gt hs) (λq hq=>hk q (mH _ hq)) ∅) λb1 b2 b3 b4=>?_;obtain⟨c1,c2⟩:=yAv (b7 (pR m) _ ft) hs b1;let c3:=yBs (r:=r') ft hs;refine zSf c1 (zOl gt b2 (hk k mF)) ?_ ∅;rw[mW] at b3⊢;rw[mW];let:1<=T.dep t:=by lia
   lia
theorem zIa{n n':T}:∀(ks:List Key)(t:T),doT .tak n ks t=doT .tak n' ks t
 | [],_=>rfl
 | [k],t=>by
  show(if vL .tak t k=true then Y (xF .tak t k n) else none)=if vL .tak t k=true then Y (xF .tak t k n') else none;let e:xF .tak t k n=xF .tak t k n':=by cases t<;>cases k<;>rfl
  rw[e]
 | k::k'::ks,t=>by
  rw[kK (by simp),kK (by simp)]
  cases xG t k with
  | none=>rfl
  | some s=>dsimp only;rw[zIa (k'::ks) s]
abbrev Dd:=Wd×List Key×T
theorem zZx:∀t:T,1<=T.sz t
 | .lst us=>by show 1<=T.szs us+1;lia
 | .dic _ us=>by show 1<=T.szs us+1;lia
 | .tup us=>by show 1<=T.szs us+1;lia
 | .non=>mE _
 | .bl _=>mE _
 | .int _=>mE _
 | .str _=>mE _
noncomputable def zCe:V->Bool
 | .str x=>yQ (ts x)
 | _=>false
def zSi:Sp:=λvs H Q _=>∃(v:V)(t:String),vs= [v]/\tyS H v=Y t/\(∀x,v= .str x->x...*<=1000)/\∀H',Same H H'->Q (.bl (zCe v)) H'
theorem zVp{H:Hp}{v:V}{t:String}(ht:tyS H v=Y t)(h:yA t "str" =false):zCe v=false:=by
 cases v with
 | str x=>cases ht;exact absurd h ∎
 | _=>rfl
theorem zZp{H:Hp}{v:V}{t:String}(ht:tyS H v=Y t)(h:¬yA t "str" =false):∃x,v= .str x:=by
 cases v with
 | str x=>exact⟨x,O⟩
 | ref a=>
  let h':(match H a with | some (.lst _)=>some "list" | some (.tup _)=>some "tuple" | some (.dK _)=>some "dict" | _=>none)=Y t:=ht
  split at h'<;>first |(cases h';exact absurd ∎ h)| cases h'
 | non=>cases ht;exact absurd ∎ h
 | bl b=>cases ht;exact absurd ∎ h
 | int b=>cases ht;exact absurd ∎ h
 | byt b=>cases ht
 | flt b=>cases ht
 | ty b=>cases ht
structure Ms(mg:Str->Option V0):Prop where
 LETTERS:∃t,mg "LETTERS" =Y (.str (A5 "abcdefghijklmnopqrstuvwxyz") t)
 NAME_SIGNS:∃t,mg "NAME_SIGNS" =Y (.str (A5 "abcdefghijklmnopqrstuvwxyz0123456789") t)
 MOST_IN_NAME:∃t,mg "MOST_IN_NAME" =Y (.int 12 t)
 MOST_IN_TEXT:∃t,mg "MOST_IN_TEXT" =Y (.int 30 t)
 MOST_IN_ROW:∃t,mg "MOST_IN_ROW" =Y (.int 60 t)
 MOST_IN_RECORD:∃t,mg "MOST_IN_RECORD" =Y (.int 30 t)
 MOST_DEPTH:∃t,mg "MOST_DEPTH" =Y (.int 8 t)
 MOST_SIZE:∃t,mg "MOST_SIZE" =Y (.int 200 t)
abbrev zHe:V6:=top 10
theorem scIsName:zS ["thing"] ["thing"] (zK zHe):=by walk_at "sc"
theorem zKq(F:Fun K "is_name" "is_name" zHe f fd)(B:Bl mg)(M:Ms mg):FnOk P w K mg base CX0 1 f fd ["thing"] zSi:=by
 refine F.ok scIsName (λvs H Q E h=>?_) (λc A o s H vs Q E hr h=>?_)
 ·ext xV h v t r2_ _
  subst r2_
  rfl
 ext yE h v t r2_ ht hl q;subst r2_;let nd:=scIsName.nd;refine{_,(zF (zW (j5 (zBa (wL (yF (pI B.isinstance zI B.str qY (pv 0)))) (zAb (wL (zVa uW uW zE (zO zAu O B.len yW (zA (pv 0) zC)) (zDn O M.MOST_IN_NAME)))))) (zG (zJ qB)) zL)
  (zG (zJ (vK (yR zOg (yB zBp (pv 0) zE (λ_ _=>O)) (zZd O M.LETTERS) (by with_unfolding_all rfl)) (vZ (zO (uB O) O B.all zEc (zA (xP (own:=["sign"]) (F:=[]) {O,tb_g%,tb_g%,tb_g%, .nil} O (zRr (pv 0)) (λ_ _ _ _=>yI (i:=0) (by show(wB ["sign"] []).Nodup;decide+kernel) O (nU O)) (λ_ _ _ _=>yX) (λ_ _ _ _=>(yR zOg (pv 0) (zZd O M.NAME_SIGNS) (by with_unfolding_all rfl)))) zC))))))), ?_}
 walk_at "st";lk;refine nEA t ht ?_
 by_cases hs:yA t "str" =false
 ·rw[mQ hs]
  let e:zCe v=false:=zVp ht hs;rw[<-e];exact q H (Same.refl H)
 ·rw[mK hs]
  obtain⟨x,rfl⟩:=zZp ht hs;let hx:=hl x O;let hlen:=zMc x;refine zHv x O ∅ ?_
  by_cases h1:(1:Int)<=(x...*:Int)
  ·rw[mQ h1]
   by_cases h12:¬(x...*:Int)<=12
   ·rw[mQ h12]
    let e:zCe (.str x)=false:=by
     show yQ (ts x)=false;unfold yQ;rw[show decide ((ts x)...*<=12)=false from nG ∅];simp
    rw[<-e];exact q H (Same.refl H)
   rw[mK h12];obtain⟨c,r,hc⟩:∃c r,ts x=c::r:=by
    cases e:ts x with
    | nil=>rw[e] at hlen;simp at hlen;lia
    | cons c r=>exact⟨c,r,O⟩
   refine zBv (by rw[mS];lia) (c:=c) (by rw[hc];exact zV (j:=0) O) {c,O, ?_};let en:zCe (.str x)=(decide (c∈letL)&& (ts x).all λc=>decide (c∈letL++zEw)):=by
    show yQ (ts x)=_;unfold yQ;rw[show decide ((ts x)...*<=12)=true from nP ∅,show decide (1<=(ts x)...*)=true from nP ∅,hc];simp
   simp only[yAy]
   by_cases hcl:c∈letL
   ·rw[mQ hcl]
    refine nEA x O (zJz (λi ys H'=>Same H H'/\ys=(((ts x).take i).map λc=>decide (c∈letL++zEw)).map V.bl) (by rw[mS];lia) {Same.refl _,O} ?_ ?_)
    ·rintro i d ys H' hd _ ⟨hS,rfl⟩
     lk;refine zHv d O hS ?_;let e:(ts x).take (i+1)=(ts x).take i++ [d]:=by rw[List.take_add_one,hd];rfl
     rw[e,zHq];simp only[nJ,mZ,sK]
    ·rintro ys H' hl' ⟨hS,rfl⟩ p hp
     refine qF p O _ (SqL.of zB) ?_;let e:zCe (.str x)=((((ts x).take (ts x)...*).map λc=>decide (c∈letL++zEw)).all id):=by
      rw[en,nP hcl,tW,pE,cZ];rfl
     rw[<-e];exact q _ (hS.trans (zD hp _))
   ·rw[mK hcl]
    let e:zCe (.str x)=false:=by rw[en,nG hcl];rfl
    rw[<-e];exact q H (Same.refl H)
  ·rw[mK h1]
   let e:zCe (.str x)=false:=by
    let:ts x= []:=aF ∅;show yQ (ts x)=false;rw[this];rfl
   rw[<-e];exact q H (Same.refl H)
def zHk:Sp:=λvs H Q _=>∃(v:V)(t:String),vs= [v]/\tyR H v=Y t/\∀H',Same H H'->Q (wE t) H'
theorem zVu{H:Hp}{v:V}(h:tyR H v=some "NoneType"):v= .non:=by
 cases v with
 | ref a=>
  let h':(match H a with | some (.frz _ (.dK _))=>some "dict" | _=>tyS H (.ref a))=some "NoneType":=h
  split at h'
  ·exact absurd (mR h') ∎
  ·exact jW h'
 | non=>rfl
 | bl b=>exact jW (H:=H) (show tyS H (.bl b)=_ from h)
 | int b=>exact jW (H:=H) (show tyS H (.int b)=_ from h)
 | str b=>exact jW (H:=H) (show tyS H (.str b)=_ from h)
 | byt b=>exact jW (H:=H) (show tyS H (.byt b)=_ from h)
 | flt b=>exact jW (H:=H) (show tyS H (.flt b)=_ from h)
 | ty b=>exact jW (H:=H) (show tyS H (.ty b)=_ from h)
theorem scKindOf:zS ["thing"] ["thing"] (zK zHg):=by walk_at "sc"
theorem zEh(F:Fun K "kind_of" "kind_of" zHg f fd)(B:Bl mg):FnOk P w K mg base CX0 1 f fd ["thing"] zHk:=by
 refine F.ok scKindOf (λvs H Q E h=>?_) (λc A o s H vs Q E hr h=>?_)
 ·ext xV h v t r2_ _
  subst r2_
  rfl
 ext yM h v t r2_ ht q;subst r2_;let nd:=scKindOf.nd;refine{_,(zF (zW (uH (zKv (pv 0))) (zG (zJ zN)) zL)
  (zF (zW (yF (zO (jG (T:="bool") ∎) O B.isinstance zI (zA (pv 0) (zA (xL (v:=.ty "bool") O B.bool zOj O) zC)))) (zG (zJ zN)) zL)
  (zF (zW (yF (zO (jG (T:="int") ∎) O B.isinstance zI (zA (pv 0) (zA (xL (v:=.ty "int") O B.int vF O) zC)))) (zG (zJ zN)) zL)
  (zF (zW (yF (zO (jG (T:="str") ∎) O B.isinstance zI (zA (pv 0) (zA (xL (v:=.ty "str") O B.str qY O) zC)))) (zG (zJ zN)) zL)
  (zF (zW (yF (zO (jG (T:="list") ∎) O B.isinstance zI (zA (pv 0) (zA (xL (v:=.ty "list") O B.list yU O) zC)))) (zG (zJ zN)) zL)
  (zF (zW (yF (zO (jG (T:="dict") ∎) O B.isinstance zI (zA (pv 0) (zA (xL (v:=.ty "dict") O B.dict xA O) zC)))) (zG (zJ zN)) zL)
  (zG (zJ gQ)))))))), ?_}
 walk_at "st";lk;let q:=q H (Same.refl H);let hm:=zVr ht;simp only[ht,Option.some.injEq,dP]
 by_cases hv:v= .non
 ·subst hv;cases ht;rw[mQ O];exact q
 ·rw[mK hv]
  simp only[tyL,mD,rQ,bG] at hm;rcases hm with rfl | rfl | rfl | rfl | rfl | rfl | rfl
  ·exact absurd (zVu ht) hv
  all_goals (simpa [yA,wE] using q)
abbrev zLq:V6:=top 24
def zMs:Sp:=λvs H Q _=>∃(v:V)(t:T),vs= [v]/\Rep H v t/\∀H',Same H H'->Q (wE (tyT t)) H'
theorem yCp{k:Nat}{ps:List Str}(h:FnOk P w K mg base CX0 k f fd ps zHk):FnOk P w K mg base CX0 k f fd ps zMs:=
 h.imp λvs H Q E ⟨v,t,e,hv,q⟩=>{v,tyT t,e,(Rep.rp _ _ hv).ty,q}
noncomputable def zAi:T->Bool
 | .int i=>decide (0<=i/\i<60)
 | _=>false
def zCx:Sp:=λvs H Q _=>∃(v:V)(t:T),vs= [v]/\Rep H v t/\∀H',Same H H'->Q (.bl (zAi t)) H'
theorem scPlace:zS ["thing"] ["thing"] (zK zLq):=by walk_at "sc"
theorem zVb(F:Fun K "is_place" "is_place" zLq f fd)(B:Bl mg)(M:Ms mg)(Gkind_of:Dn P w K mg base 1 "kind_of" ["thing"] zMs):FnOk P w K mg base CX0 2 f fd ["thing"] zCx:=by
 refine F.ok scPlace (λvs H Q E h=>?_) (λc A o s H vs Q E hr h=>?_)
 ·ext xV h v t r2_ _
  subst r2_
  rfl
 ext yM h v t r2_ hv q;subst r2_;let nd:=scPlace.nd;refine nEA _ (zG (zJ (vK (yR xC (zR Gkind_of hr ∅ O (zA (pv 0) zC)) zN (zQ _)) (vZ (zJx uW jA zE (pv 0) (zDn O M.MOST_IN_ROW)))))) ?_;walk_at "st";lk;refine{v,t,O,hv,λH1 g1=>?_};let q:=q H1 g1
 cases t with
 | int i=>
  cases (show v=_ from hv);refine{O,iP (show wE "int" =V.str (A5 "number") by decide+kernel) {i,O, ?_}}
  by_cases c0:0<=i
  ·refine iP c0 {i,O, ?_}
   let e:zAi (.int i)=decide (i<60):=by simp[zAi,c0]
   rw[<-e];exact q
  ·refine iN c0 ?_
   let e:zAi (.int i)=false:=by simp[zAi,c0]
   rw[<-e];exact q
 | non=>exact{O,iN (show¬wE "NoneType" =V.str (A5 "number") by decide+kernel) q}
 | bl b=>exact{O,iN (show¬wE "bool" =V.str (A5 "number") by decide+kernel) q}
 | str b=>exact{O,iN (show¬wE "str" =V.str (A5 "number") by decide+kernel) q}
 | lst b=>exact{O,iN (show¬wE "list" =V.str (A5 "number") by decide+kernel) q}
 | dic b c=>exact{O,iN (show¬wE "dict" =V.str (A5 "number") by decide+kernel) q}
 | tup b=>exact{O,iN (show¬wE "tuple" =V.str (A5 "number") by decide+kernel) q}
abbrev sLw:V6:=top 32
abbrev sCc:V6:=top 33
abbrev yCw:V6:=top 35
abbrev yAi:V6:=top 36
abbrev zTg:V6:=top 34
theorem zJu{k:Key}(h:okK k)(i:Int)(e:k= .inl i):zAi (.int i)=true:=by
 subst e;let h':0<=i/\i<=59:=h;simp only[zAi,rW]
 lia
theorem cutTo(xs:List V){i:Int}(h:0<=i):kL xs none ↥i=xs.take i.toNat:=by
 obtain⟨n,rfl⟩:=sO h;unfold kL;rw[HT.sIx_nat,HT.sIx_none,aL,Nat.sub_zero,bJ]
 by_cases c:n<=xs...*
 ·rw[dO c]
 ·rw[dG ∅,sA (mE _),sA ∅]
theorem zGp(xs:List V){i:Int}(h:0<=i):kL xs ↥i none=xs.drop i.toNat:=by
 obtain⟨n,rfl⟩:=sO h;unfold kL;rw[HT.sIx_nat,HT.sIx_none,bJ]
 by_cases c:n<=xs...*
 ·rw[dO c,sA (by rw[rN];exact mE _)]
 ·rw[dG ∅,pT (mE _),pT ∅,List.take_nil]
theorem scLw:zS ["thing","step"] ["thing","step"] (zK sLw):=by walk_at "sc"
theorem ok_lw(F:Fun K "leads_within" "leads_within" sLw f fd)(B:Bl mg)(Gleads_on:Dn P w K mg base 1 "leads_on" ["thing","step"] zQy)(Gis_place:Dn P w K mg base 2 "is_place" ["thing"] zCx):FnOk P w K mg base CX0 3 f fd ["thing","step"] zQy:=by
 refine F.ok scLw (λvs H Q E h=>?_) (λc A o s H vs Q E hr h=>?_)
 ·ext qI h v t k r3_ _
  subst r3_
  rfl
 ext yD h v t k r3_ hv z_;ext wC z_ hp hz hk q;subst r3_;let nd:=scLw.nd;refine nEA _ (zG (zJ (vK (zR Gleads_on hr ∅ O (zA (pv 0) (zA (pv 1) zC))) (vZ (pe_or (pI B.isinstance zI B.str qY (pv 1)) (vZ (zR Gis_place hr ∅ O (zA (pv 1) zC)))))))) ?_;walk_at "st";lk;refine{v,t,k,O,hv,hp,hz,hk,λH1 g1=>{_,O, ?_}};let q1:=q H1 g1
 cases hb:(xG t k).isSome with
 | false=>rw[hb] at q1;exact iN ∎ q1
 | true=>
  refine iP O ?_
  cases k with
  | inr x=>rw[hb] at q1;exact{"str",O,iP ∎ q1}
  | inl i=>
   refine nEA ("int") O (iN ∎ {_, .int i,O,O,λH2 g2=>?_});rw[zJu hk i O];let q2:=q H2 (g1.trans g2);rw[hb] at q2;exact q2
def spCc:Sp:=λvs H Q _=>∃(v:V)(t:T)(w:Wd)(k:Key),vs= [v, .str w.s,kV k]/\Rep H v t/\T.pure t/\T.sz t<=100000/\okK k/\∀H',Same H H'->Q (.bl (vL w t k)) H'
theorem scCc:zS ["holder","word","step"] ["holder","word","step"] (zK sCc):=by walk_at "sc"
theorem ok_cc(F:Fun K "can_change" "can_change" sCc f fd)(B:Bl mg)(Gleads_within:Dn P w K mg base 3 "leads_within" ["thing","step"] zQy)(Gis_place:Dn P w K mg base 2 "is_place" ["thing"] zCx):FnOk P w K mg base CX0 4 f fd ["holder","word","step"] spCc:=by
 refine F.ok scCc (λvs H Q E h=>?_) (λc A o s H vs Q E hr h=>?_)
 ·ext yV h v t wd k r4_ _
  subst r4_
  rfl
 ext yV h v t wd k r4_ z_;ext jM z_ hv hp hz hk q;subst r4_;let nd:=scCc.nd;refine{_,(zF (zW (zU xC (pv 1) zN (zQ _)) (zG (zJ (zR Gleads_within hr ∅ O (zA (pv 0) (zA (pv 2) zC))))) zL)
  (zF (zW (yF (pI B.isinstance zI B.str qY (pv 2))) (zG (zJ (vK (yR xC (pv 1) zN (zQ _)) (vZ (pI B.isinstance zI B.dict xA (pv 0)))))) zL)
  (zG (zJ (vK (pI B.isinstance zI B.list yU (pv 0)) (vK (zR Gis_place hr ∅ O (zA (pv 2) zC)) (vZ (yR uW (pv 2) (zO yL O B.len yW (zA (pv 0) zC)) (zQ _))))))))), ?_}
 walk_at "st";lk;let q0:=q H (Same.refl H);let tPut:¬Wd.put.s=A5 "take":=by decide+kernel
 let tIns:¬Wd.ins.s=A5 "take":=by decide+kernel
 let pIns:¬Wd.ins.s=A5 "put":=by decide+kernel
 let row:∀(wd:Wd)(i:Int),k= .inl i->(∀us,t= .lst us->vL wd t k=decide (i<=(us...*:Int)))->((∀us,t≠ .lst us)->vL wd t k=false)->(∀H',Same H H'->Q (.bl (vL wd t k)) H')->∃x,tyS H v=Y x/\if yA x "list" =true then zCx [kV k] H (λx H1=>∃c,x=V.bl c/\if c=true then∃p,v=V.ref p/\∃ys,SqL K H1 p ys/\∃i,kV k=V.int i/\Q (V.bl (decide (i<=(ys...*:Int)))) H1 else Q (V.bl false) H1) E0 else Q (V.bl false) H:=by
  intro wd i ek h1 h2 q;subst ek;let no:(∀us,t≠ .lst us)->Q (.bl false) H:=λhne=>by let:=q H (Same.refl H);rw[h2 hne] at this;exact this
  cases t with
  | lst us=>
   ext yM hv b xs r2_ hb hx;subst r2_;refine nEA ("list") (vW hb) (iP ∎ {_, .int i,O,O,λH2 g2=>{_,O, ?_}});rw[zJu hk i O];refine iP O {b,O,xs,SqL.of (g2 _ _ hb),i,O, ?_};let q2:=q H2 g2;rw[h1 us O] at q2;rw[hx...*];exact q2
  | dic ks us=>exact{_,hv.ty,iN (by simp[tyT,yA]) (no (by intro us z;cases z))}
  | tup us=>exact hp.elim
  | non=>exact{_,hv.ty,iN (by simp[tyT,yA]) (no (by intro us z;cases z))}
  | bl b=>exact{_,hv.ty,iN (by simp[tyT,yA]) (no (by intro us z;cases z))}
  | int b=>exact{_,hv.ty,iN (by simp[tyT,yA]) (no (by intro us z;cases z))}
  | str b=>exact{_,hv.ty,iN (by simp[tyT,yA]) (no (by intro us z;cases z))}
 cases wd with
 | tak=>exact iP O ⟨v,t,k,O,hv,hp,hz,hk,q⟩
 | put=>
  refine iN tPut ?_
  cases k with
  | inr x=>
   refine nEA ("str") O (iP ∎ (iP O {_,hv.ty, ?_}));let e:yA (tyT t) "dict" =vL .put t (.inr x):=by cases t<;>first | rfl |(simp[tyT,yA,vL])
   rw[e];exact q0
  | inl i=>exact{"int",O,iN ∎ (row .put i O (λus e=>by subst e;rfl) (λh=>by cases t<;>first | rfl | exact absurd O (h _)) q)}
 | ins=>
  refine iN tIns ?_
  cases k with
  | inr x=>
   refine nEA ("str") O (iP ∎ (iN pIns ?_));let e:vL .ins t (.inr x)=false:=by cases t<;>rfl
   rw[e] at q0;exact q0
  | inl i=>exact{"int",O,iN ∎ (row .ins i O (λus e=>by subst e;rfl) (λh=>by cases t<;>first | rfl | exact absurd O (h _)) q)}
def zZl:Sp:=λvs H Q _=>∃(a:V1)(ps:List (Key×V))(ks:List (List Nat))(us:List T)(w:Wd)(x:Str)(vn:V)(n:T),vs= [.ref a, .str w.s, .str x,vn]/\H a=Y (.dK ps)/\ps.map (·.1)=ks.map nK/\Reps H (ps.map (·.2)) us/\ks.Nodup/\ks...*=us...*/\us...*<=1000/\(w= .put\/w= .tak/\ts x∈ks)/\Rep H vn n/\∀p H',Same H H'->Rep H' (.ref p) (xF w (.dic ks us) (.inr x) n)->Q (.ref p) H'
theorem scRec:zS ["record","word","name","new","changed"] ["record","word","name","new"] (zK yCw):=by walk_at "sc"
theorem yCh(F:Fun K "record_changed" "record_changed" yCw f fd)(B:Bl mg):FnOk P w K mg base CX0 1 f fd ["record","word","name","new"] zZl:=by
 refine F.ok scRec (λvs H Q E h=>?_) (λc A o s H vs Q E hr h=>?_)
 ·ext xO h a ps ks us wd z_
  ext qI z_ x vn n r8_ _;subst r8_
  rfl
 ext xO h a ps ks us wd z_;ext yD z_ x vn n r8_ ha z_;ext yO z_ hkk hs nk hku hul z_;ext oAA z_ hw hn q;subst r8_;let nd:=scRec.nd;let hu:=vA hr;refine{_,(zF (pS 4 nd (yJ zIi O B.dict xA (zA (pv 0) zC)))
  (zF (zW (zU xC (pv 1) zN (zQ _)) (zG (wF (zKa (pv 4) (pv 2) ⟨O,O,O,O⟩))) (zG (zBd hu (pv 4) (pv 2) (pv 3) O)))
  (zG (zJ (pv 4))))), ?_}
 walk_at "st";lk;refine nEA ps ha (λl hl=>?_);let s1:=zD hl (.dK ps);let hl1:=zB (H:=H) (a:=l) (o:=.dK ps);let hla:∀o,Same H (upd (upd H l (.dK ps)) l o):=λo=>by rw[zGo];exact zD hl o
 let hpl:ps...*=us...*:=by let:=hs...*;rwa [mL] at this
 let ex:(Sum.inr x:Key)=nK (ts x):=by show(Sum.inr x:Key)=Sum.inr (tx (ts x));rw[vH]
 rcases hw with rfl |⟨rfl,hx⟩
 ·refine iN (by decide+kernel) {_,DPut.k (k:=Sum.inr x) hl1 (by rw[mS];lia), ?_}
  refine q l _ (hla _) ?_;rw[ex];obtain⟨p1,p2⟩:=zAy (p:=(ks,us)) (n:=ts x) (t:=n) hkk hs hn;exact{l,_,O,zB,p1,Reps.same (hla _) _ _ p2}
 ·refine iP O ?_
  refine oEA (i4 nk hkk hs hx) λxv hv1 _=>?_;refine{l,O, .inl {ps, .inl hl1},ps,nK (ts x),xv,hl1,by rw[<-ex];rfl,hv1, ?_};obtain⟨p1,p2⟩:=Reps.dropK (n:=ts x) hkk hs;refine q l _ (hla _) {l,_,O,zB,p1,Reps.same (hla _) _ _ p2}
def zZe:Sp:=λvs H Q _=>∃(a:V1)(xs:List V)(us:List T)(w:Wd)(i:Int)(vn:V)(n:T),vs= [.ref a, .str w.s, .int i,vn]/\H a=Y (.lst xs)/\Reps H xs us/\us...*<=100000/\0<=i/\Rep H vn n/\∀p H',Same H H'->Rep H' (.ref p) (xF w (.lst us) (.inl i) n)->Q (.ref p) H'
theorem scRow:zS ["row","word","place","new","ahead","behind"] ["row","word","place","new"] (zK yAi):=by walk_at "sc"
theorem yAx(F:Fun K "row_changed" "row_changed" yAi f fd)(B:Bl mg):FnOk P w K mg base CX0 1 f fd ["row","word","place","new"] zZe:=by
 refine F.ok scRow (λvs H Q E h=>?_) (λc A o s H vs Q E hr h=>?_)
 ·ext xO h a xs us wd i z_
  ext xV z_ vn n r7_ _;subst r7_
  rfl
 ext xO h a xs us wd i z_;ext yE z_ vn n r7_ ha hs z_;ext wC z_ hul hi hn q;subst r7_;let nd:=scRow.nd;refine{_,(zF (pS 4 nd (qD kZ (pv 0) jC (jB (pv 2))))
  (zF (pS 5 nd (zJr (zU xC (pv 1) zN (zQ _)) (qD kZ (pv 0) (jB (pv 2)) jC) (qD kZ (pv 0) (jB (zH yT (pv 2) zE)) jC)))
  (zF (zW (zU xC (pv 1) zN (zQ _)) (zG (zJ (zH gX (pv 4) (pv 5)))) zL)
  (zG (zJ (zH gX (zH gX (pv 4) (zT (zA (pv 3) zC))) (pv 5))))))), ?_}
 walk_at "st";lk;let hxl:=hs...*;refine{a,xs,O,SqL.of ha,λp1 hp1=>?_};rw[cutTo xs hi];let s1:=zD hp1 (.lst (xs.take i.toNat));let e1:=zB (H:=H) (a:=p1) (o:=.lst (xs.take i.toNat));generalize upd H p1 (.lst (xs.take i.toNat))=H1 at s1 e1⊢;let hT:Reps H (xs.take i.toNat) (us.take i.toNat):=Reps.take _ hs;let fin:∀(j:Nat)(p2:V1),H1 p2=none->(∀p H',Same H H'->Rep H' (.ref p) (.lst (us.take i.toNat++n::us.drop j))->Q (.ref p) H')->∀(p:V1),upd H1 p2 (.lst (xs.drop j)) p=none->zYc (V.ref p1) (V.ref p) (upd (upd H1 p2 (.lst (xs.drop j))) p (HO.lst [vn])) λx H1=>zYc x (V.ref p2) H1 Q:=λj p2 hp2 q p3 hp3=>by
  let s2:=zD hp2 (.lst (xs.drop j));let e2:=zB (H:=H1) (a:=p2) (o:=.lst (xs.drop j));generalize upd H1 p2 (.lst (xs.drop j))=H2 at s2 e2 hp3⊢;let s3:=zD hp3 (.lst [vn]);let e3:=zB (H:=H2) (a:=p3) (o:=.lst [vn]);generalize upd H2 p3 (.lst [vn])=H3 at s3 e3⊢;refine{p1,p3,_,_,O,O,s3 _ _ (s2 _ _ e1),e3,by rw[mS,sE,nL];lia,λp4 hp4=>?_};let s4:=zD hp4 (.lst (xs.take i.toNat++ [vn]));let e4:=zB (H:=H3) (a:=p4) (o:=.lst (xs.take i.toNat++ [vn]));generalize upd H3 p4 (.lst (xs.take i.toNat++ [vn]))=H4 at s4 e4⊢;refine{p4,p2,_,_,O,O,e4,s4 _ _ (s3 _ _ e2),by rw[mS,mM,sE,rN,nL];lia,λp5 hp5=>?_};let G:=s1.trans (s2.trans (s3.trans (s4.trans (zD hp5 (.lst (xs.take i.toNat++ [vn]++xs.drop j))))));refine q p5 _ G {p5,_,O,zB,Reps.same G _ _ ?_};rw[aG];exact Reps.append (show Reps H ([vn]++xs.drop j) (n::us.drop j) from{vn,_,O,hn,Reps.drop _ hs}) hT
 let i1:(i+1).toNat=i.toNat+1:=by lia
 cases wd with
 | put=>
  refine iN (by decide+kernel) {a,xs,O,SqL.of (s1 _ _ ha),λp2 hp2=>iN (by decide+kernel) ?_};rw[zGp xs ∅,i1] at*;exact fin _ p2 hp2 q
 | ins=>
  refine iP O {a,xs,O,SqL.of (s1 _ _ ha),λp2 hp2=>iN (by decide+kernel) ?_};rw[zGp xs hi] at*;exact fin _ p2 hp2 q
 | tak=>
  refine iN (by decide+kernel) {a,xs,O,SqL.of (s1 _ _ ha),λp2 hp2=>iP O ?_};rw[zGp xs ∅,i1] at*;let s2:=zD hp2 (.lst (xs.drop (i.toNat+1)));let e2:=zB (H:=H1) (a:=p2) (o:=.lst (xs.drop (i.toNat+1)));generalize upd H1 p2 (.lst (xs.drop (i.toNat+1)))=H2 at s2 e2⊢;refine{p1,p2,_,_,O,O,s2 _ _ e1,e2,by rw[mS,sE,rN];lia,λp3 hp3=>?_};let G:=s1.trans (s2.trans (zD hp3 (.lst (xs.take i.toNat++xs.drop (i.toNat+1)))));exact q p3 _ G {p3,_,O,zB,Reps.same G _ _ (Reps.append (Reps.drop _ hs) hT)}
def zRs:Sp:=λvs H Q _=>∃(v:V)(t:T)(w:Wd)(k:Key)(vn:V)(n:T)(m:Nat),vs= [v, .str w.s,kV k,vn]/\Rep H v t/\T.fewm m t/\m<=63/\T.sz t<=50000/\okK k/\vL w t k=true/\Rep H vn n/\∀v' H',Same H H'->Rep H' v' (xF w t k n)->Q v' H'
theorem scPart:zS ["holder","word","step","new"] ["holder","word","step","new"] (zK zTg):=by walk_at "sc"
theorem zWo(F:Fun K "part_changed" "part_changed" zTg f fd)(B:Bl mg)(Grecord_changed:Dn P w K mg base 1 "record_changed" ["record","word","name","new"] zZl)(Grow_changed:Dn P w K mg base 1 "row_changed" ["row","word","place","new"] zZe):FnOk P w K mg base CX0 2 f fd ["holder","word","step","new"] zRs:=by
 refine F.ok scPart (λvs H Q E h=>?_) (λc A o s H vs Q E hr h=>?_)
 ·ext xO h v t wd k vn z_
  ext xV z_ n m r7_ _;subst r7_
  rfl
 ext xO h v t wd k vn z_;ext yE z_ n m r7_ hv hf z_;ext yO z_ hm hz hk hc hn q;subst r7_;let nd:=scPart.nd;refine{_,(zF (zW (yF (pI B.isinstance zI B.dict xA (pv 0))) (zG (zJ (zR Grecord_changed hr ∅ O (zA (pv 0) (zA (pv 1) (zA (pv 2) (zA (pv 3) zC))))))) zL)
  (zG (zJ (zR Grow_changed hr ∅ O (zA (pv 0) (zA (pv 1) (zA (pv 2) (zA (pv 3) zC)))))))), ?_}
 walk_at "st";lk
 cases t with
 | dic ks us=>
  ext yE hv a ps r2_ ha hkk hs;subst r2_;let hku:=hf.2.2.1;let hkm:=hf.2.1;refine nEA ("dict") (qX ha) (iP ∎ ?_)
  cases k with
  | inl i=>cases wd<;>cases hc
  | inr x=>
   refine{a,ps,ks,us,wd,x,vn,n,O,ha,hkk,hs,hf.1,hku,∅, ?_,hn,λp H' g h=>q _ H' g h}
   cases wd with
   | put=>exact .inl O
   | ins=>cases hc
   | tak=>
    refine .inr {O, ?_};let hc':(if ts x∈ks then Y (xY (ts x) ks us) else none).isSome=true:=hc
    by_cases h:ts x∈ks
    ·exact h
    ·rw[mK h] at hc';cases hc'
 | lst us=>
  ext yM hv a xs r2_ ha hs;subst r2_;refine nEA ("list") (vW ha) (iN ∎ ?_)
  cases k with
  | inl i=>exact{a,xs,us,wd,i,vn,n,O,ha,hs,hf.1,hk.1,hn,λp H' g h=>q _ H' g h}
  | inr x=>cases wd<;>cases hc
 | tup us=>exact hf.elim
 | non=>cases wd<;>cases k<;>cases hc
 | bl b=>cases wd<;>cases k<;>cases hc
 | int b=>cases wd<;>cases k<;>cases hc
 | str b=>cases wd<;>cases k<;>cases hc
end
end K42
namespace K42
open PySem L2 PySem.W
seal L2.PSs L2.PS L2.PE L2.PT L2.PW L2.PA L2.PI L2.PG L2.PGs L2.PPs L2.PTs
def zZc(s:V6):V6:=match s with
 | .ClassDef _ _ _ (f::_) _ _ _ _ _ _ _=>f
 | _=>s
abbrev qO:V6:=zZc (top 21)
theorem zXz:zS ["self","text","at"] ["self","text","at"] (zK qO):=by walk_at "sc"
section
variable{P:V3}{w:V4}{K:PySem.W.Frag}{mg:Str->Option V0}{base:V5}{C B fI dT:V1}{nm:Str}{oc kV doc pm cdv ct:V0}{od an:Option V1}{osl:Array (Option V0)}
theorem zUw(lk:K.lookup fI=Y {oc,od, .func (fnOf "__init__" "NoPlace.__init__" (xW qO) (xJ qO) (zK qO) (.ref dT) kV doc pm an cdv ct),osl})(hcd:codeIn K cdv "NoPlace.__init__" =true)(c:zBy K nm C B fI)(b:zOo K B)(hmB:mg "CabinetError" =Y (.ref B)):
  FnOk P w K mg base CX0 1 fI (fnOf "__init__" "NoPlace.__init__" (xW qO) (xJ qO) (zK qO) (.ref dT) kV doc pm an cdv ct) ["self","text","at"] (zCw C):=by
 refine zOe (k:=0) lk hcd zXz (λvs H Q E h=>?_) λA outer s H vs Q E hr h=>?_
 ·obtain⟨x,v0,v,rfl,_⟩:=h
  rfl
 obtain⟨x,v0,v,rfl,hx,q⟩:=h;refine{_,(zF (wF (zJg c b O hmB (zA (pv 0) (zA (pv 1) zC)))) (zG (zWz c (pv 2) (pv 0)))), ?_};refine{x,v0,O,hx,x,O,hx,λd hd=>q d hd}
theorem zIn{o:Obj}{items:Array V0}{n:Nat}(hd:K.lookup dT=Y o)(hs:o.data= .seq items n)(h1:items.size=1):Binds K (fnOf "__init__" "NoPlace.__init__" (xW qO) (xJ qO) (zK qO) (.ref dT) kV doc pm an cdv ct) ["self","text","at"] []:=λs us hK hl=>by
 rw[pQ] at hl⊢;obtain⟨l⟩:=items
 match l,h1 with
 | [i0],_=>
  match us,hl with
  | [a,b,c],_=>exact binds_K hK O hd hs O O
end
def XAt(C:V1)(n:Int)(H:Hp)(E:XK):Prop:=∀d H',Same H H'->H' d=Y (.xd [("at", .int n)])->E (.ref C) ↥d H'
theorem XAt.of{C:V1}{n:Int}{H H1:Hp}{E:XK}{d:V1}(h:XAt C n H E)(g:Same H H1)(hd:H1 d=none):E (.ref C) ↥d (upd H1 d (.xd [("at", .int n)])):=h d _ (g.trans (zD hd _)) zB
theorem zEt(t:T)(ks:List Key):∃u,(goT t ks).getLast? =Y u/\u∈goT t ks:=by
 let h:=(zAo t ks).1
 cases e:(goT t ks).getLast? with
 | none=>rw[List.getLast?_eq_none_iff.mp e] at h;exact absurd h ∎
 | some u=>exact{u,O,List.mem_of_getLast? e}
theorem zHf{α:Type}{xs:List α}{v:α}(h:xs.getLast? =Y v):atI xs (-1)=Y v:=by
 rcases List.eq_nil_or_concat xs with e |⟨ys,y,e⟩
 ·rw[e] at h;cases h
 ·rw[List.concat_eq_append] at e
  subst e;rw[List.getLast?_concat] at h;cases h;exact wD _ _
theorem m9{H:Hp}{vs:List V}{us:List T}{u:T}(h:Reps H vs us)(hu:us.getLast? =Y u):∃v,vs.getLast? =Y v/\Rep H v u:=by
 let hl:=h...*;rw[bC] at hu;let hi:=(mO.mp hu).1;let hi':us...* - 1<vs...*:=by lia
 obtain⟨t,h1,h2⟩:=h.get (mT hi');rw[hu] at h1;cases h1;refine nEA _ ?_ h2;rw[bC,hl];exact mT hi'
abbrev sWc:V6:=top 30
abbrev sSl:V6:=top 31
abbrev sCs:V6:=top 29
theorem zWs(ks:List Key):kL (ks.map kV) none ↥(-1)=ks.dropLast.map kV:=by
 let e:HT.sIx (ks.map kV)...* (ks.map kV)...* ↥(-1)=ks...* - 1:=by
  show(if(-1:Int)<0 then((-1:Int)+((ks.map kV)...*:Int)).toNat else min (-1:Int).toNat (ks.map kV)...*)=_;rw[mQ ∎,mL]
  lia
 unfold kL;rw[e,HT.sIx_none,aL,Nat.sub_zero,List.dropLast_eq_take,List.map_take]
structure Tq(m:Nat)(H:Hp)(v:V)(t:T)(pa:V1)(ks:List Key):Prop where
 v:Rep H v t
 few:T.fewm m t
 m:m<62
 sz:T.sz t<=50000
 pa:H pa=Y (.lst (ks.map kV))
 ok:∀k∈ks,okK k
 l8:ks...*<=8
theorem Tq.pure{m:Nat}{H:Hp}{v:V}{t:T}{pa:V1}{ks:List Key}(h:Tq m H v t pa ks):T.pure t:=zAz _ t (mE _) (c5 (by let:=h.m;lia) _ h.few)
theorem zWy{t u:T}{k:Key}(hk:okK k)(hs:xG t k=Y u):vL .put t k=true:=by
 rcases kD hs with⟨us,i,rfl,rfl,h,_⟩|⟨ks,us,x,rfl,rfl,hm,rfl,_⟩
 ·let hi:=(mO.mp h).1
  let h0:0<=i/\i<=59:=hk;exact nP ∅
 ·rfl
section
variable{P:V3}{w:V4}{K:PySem.W.Frag}{mg:Str->Option V0}{base:V5}{f:V1}{fd:V7}{C:V1}
def yCf(C:V1):Sp:=λvs H Q E=>∃(wd:Wd)(vn:V),vs= [.str wd.s,vn]/\(wd= .put->∀H',Same H H'->Q vn H')/\(wd≠ .put->XAt C 0 H E)
theorem scWc:zS ["word","new"] ["word","new"] (zK sWc):=by walk_at "sc"
theorem ok_wc(F:Fun K "whole_changed" "whole_changed" sWc f fd)(B:Bl mg)(RNoPlace:Xr P w K mg base 1 "NoPlace" C):FnOk P w K mg base (CXE nC P w) 3 f fd ["word","new"] (yCf C):=by
 refine F.okx scWc (by walk_at "ln") λc A o s H vs Q E hr h=>?_;obtain⟨wd,vn,rfl,q,qx⟩:=h;let nd:=scWc.nd;refine{_,(zF (zW (zU zJq (pv 0) zN (zQ _)) (zG (zBq RNoPlace hr ∅ O O lvs (zA zN (zA zE zC)))) zL)
  (zG (zJ (pv 1)))), ?_}
 walk_at "st";unfold zCs;lk;let raise:wd≠ .put->∀d,H d=none->E (Value.ref C) ↥d (upd H d (HO.xd [(A5 "at",V.int 0)])):=λh d hd=>(qx h).of (Same.refl _) hd
 cases wd with
 | put=>exact{false,by decide+kernel,iN ∎ (q O H (Same.refl _))}
 | ins=>exact{true,by decide+kernel,iP O {_,_,⟨O,O⟩,raise (by intro z;cases z)}}
 | tak=>exact{true,by decide+kernel,iP O {_,_,⟨O,O⟩,raise (by intro z;cases z)}}
def yCs(C:V1):Sp:=λvs H Q E=>∃(v:V)(t:T)(pa:V1)(ks:List Key)(m:Nat),vs= [v, .ref pa]/\Tq m H v t pa ks/\(ks...*<=(goT t ks.dropLast)...*->∀p xs H',Same H H'->H' p=Y (.lst xs)->Reps H' xs (goT t ks.dropLast)->Q (.ref p) H')/\((goT t ks.dropLast)...*<ks...*->XAt C (((goT t ks.dropLast)...*:Int)- 1) H E)
theorem scSl:zS ["thing","path","stops","step"] ["thing","path"] (zK sSl):=by walk_at "sc"
theorem ok_sl(F:Fun K "stops_to_last" "stops_to_last" sSl f fd)(B:Bl mg)(Gleads_within:Dn P w K mg base 3 "leads_within" ["thing","step"] zQy)(RNoPlace:Xr P w K mg base 1 "NoPlace" C):FnOk P w K mg base (CXE nC P w) 4 f fd ["thing","path"] (yCs C):=by
 refine F.okx scSl (λvs H Q E h=>?_) (λc A o s H vs Q E hr h=>?_)
 ·ext xO h v t pa ks m z_
  ext oA z_ r5_ _;subst r5_
  rfl
 obtain⟨v,t,pa,ks,m,rfl,hT,q,qx⟩:=h;let nd:=scSl.nd;let hu:=vA hr;refine{_,(zF (pS 2 nd (zT (zA (pv 0) zC)))
  (zF (vO PassesOwn.leaving O (xQ (qD kZ (pv 1) jC (jB (wS xR zE)))) (yI (i:=3) nd O (nU O)) (zF (zW (wL (yF (zR Gleads_within hr ∅ O (zA (yB zP (pv 2) (wS xR zE) (λ_ _=>O)) (zA (pv 3) zC))))) (zG (zBq RNoPlace hr ∅ O O lvs (zA zN (zA (zH wU (zO yL O B.len yW (zA (pv 2) zC)) zE) zC)))) zL)
  (zG (wF (qT pA pV rA qC (pv 2) (zA (zGf (yB zP (yB zP (pv 2) (wS xR zE) (λ_ _=>O)) (pv 3) (λ_ _=>O)) (jU hu (yB zP (pv 2) (wS xR zE) (λ_ _=>O)) (pv 3) (λ_ _=>O))) zC))))))
  (zG (zJ (pv 2))))), ?_}
 walk_at "st";unfold zCs;lk;intro ps hps;let s1:=zD hps (.lst [v]);let e1:=zB (H:=H) (a:=ps) (o:=.lst [v]);let hz:=hT.sz;let h8:=hT.l8;generalize hH1:upd H ps (.lst [v])=H1 at s1 e1⊢;refine{pa,_,O,SqL.of (s1 _ _ hT.pa),λpl hpl=>{pl,O,{_,SqL.of zB}, ?_}};rw[zWs];let s2:=zD hpl (.lst (ks.dropLast.map kV));let e2:=zB (H:=H1) (a:=pl) (o:=.lst (ks.dropLast.map kV));generalize upd H1 pl (.lst (ks.dropLast.map kV))=H2 at s2 e2⊢;let hdl:ks.dropLast...*=ks...* - 1:=List.length_dropLast;let hks:∀k∈ks.dropLast,okK k:=λk hk=>hT.ok k (List.dropLast_subset ks hk);let hplps:pl≠ps:=λz=>by rw[z,e1] at hpl;cases hpl
 generalize ks.dropLast=ds at hdl hks e2 q qx⊢;let hgl:=zAo t ds;refine jF (K:=K) (a:=pl) (xs:=ds.map kV) (λi σ' H'=>∃o us u ys c,σ'= [Y v,Y (.ref pa),Y (.ref ps),o]/\Same H H'/\H' pl=Y (.lst (ds.map kV))/\H' ps=Y (.lst (ys++ [c]))/\Reps H ys us/\Rep H c u/\us...*=i/\goT t ds=us++goT u (ds.drop i)/\T.pure u/\T.sz u<=100000)
  {none,[],t,[],v,O,s1.trans s2,e2,s2 _ _ e1,O,hT.v,O,O,hT.pure,∅} (λi σ' H' _ h=>by
   ext xO h o us u ys c z_;ext wC z_ _ g h _;exact SqL.of h) ?_ ?_
 ·intro i x σ' H' hx z_
  ext xO z_ o us u ys c z_;ext yO z_ r5_ g hpl' hS hR z_;ext jM z_ hc hl hg hpu hzu;subst r5_;lk;let hyl:=hR...*;rw[nH] at hx
  cases hki:ds[i]? with
  | none=>rw[hki] at hx;cases hx
  | some k=>
   rw[hki] at hx;let ex:kV k=x:=mR hx;subst ex;let hik:=(mO.mp hki).1;let hdr:ds.drop i=k::ds.drop (i+1):=by
    rw[pB hik,(mO.mp hki).2]
   rw[hdr] at hg;refine zZ (SqL.of hS) (wD _ _) {c,u,k,O,Rep.same g _ _ hc,hpu,hzu,hks _ (mP hki),λH2 g2=>{_,O, ?_}};let hS2:=g2 _ _ hS;let gg:=g.trans g2
   cases hs:xG u k with
   | none=>
    let e:goT u (k::ds.drop (i+1))= [u]:=by show(match xG u k with | none=>[u] | some u'=>u::goT u' (ds.drop (i+1)))=_;rw[hs]
    rw[e] at hg;let hlen:(goT t ds)...*=i+1:=by rw[hg,mM,hl];rfl
    refine iP O {_,SqL.of hS2,_,_,⟨O,O⟩,λd hd=>?_};let qq:=(qx ∅).of gg hd;rw[hlen] at qq;rw[mM,hyl,hl,nL];exact qq
   | some u'=>
    let e:goT u (k::ds.drop (i+1))=u::goT u' (ds.drop (i+1)):=by show(match xG u k with | none=>[u] | some u'=>u::goT u' (ds.drop (i+1)))=_;rw[hs]
    rw[e] at hg;refine iN (by simp) {nU {O,_,SqL.of hS2}, ?_};let hend:∀c',Rep H c' u'->T.pure u'->T.sz u'<=100000->zHp (V.ref ps) [c'] H2 (λ_ H1=>Same H H1/\H1 pl=Y (.lst (ds.map kV))/\∃us' u1 ys' c1,H1 ps=Y (.lst (ys'++ [c1]))/\Reps H ys' us'/\Rep H c1 u1/\us'...*=i+1/\goT t ds=us'++goT u1 (ds.drop (i+1))/\T.pure u1/\T.sz u1<=100000):=λc' h1 h2 h3=>
     {ps,ys++ [c],c',O,O,hS2,by rw[mS,mM];show ys...*+1<_;lia,gg.put hps _,by rw[zM hplps];exact g2 _ _ hpl',us++ [u],u',ys++ [c],c',zB,Reps.snoc hc hR,h1,by rw[mM,hl];rfl,by rw[hg,aG];rfl,h2,h3}
    obtain⟨c',h1,h2,h3,⟨b,zs,j,rfl,hb,ej,hat⟩|⟨b,qs,rfl,hb,hvq⟩⟩:=zWn hc hpu hzu (hks _ (mP hki)) hs
    ·refine .inl ?_
     lk;refine zZ (SqL.of hS2) (wD _ _) ?_;rw[ej];exact zZ (SqL.of (gg _ _ hb)) hat (hend _ h1 h2 h3)
    ·refine .inr ?_
     lk;exact zZ (SqL.of hS2) (wD _ _) {b,O,c', .inl {qs,k, .inl (gg _ _ hb),O,hvq.symm},hend _ h1 h2 h3}
 ·intro σ' H' z_
  ext xO z_ o us u ys c z_;ext yO z_ r5_ g hpl' hS hR z_;ext jM z_ hc hl hg hpu hzu;subst r5_;lk;rw[mL,aQ] at hg;rw[mL] at hl;let hlen:(goT t ds)...*=ds...*+1:=by rw[hg,mM,hl];rfl
  refine q ∅ ps _ _ g hS ?_;rw[hg];exact Reps.snoc (Rep.same g _ _ hc) (Reps.same g _ _ hR)
def zVy(C:V1):Sp:=λvs H Q E=>∃(v:V)(t:T)(wd:Wd)(pa:V1)(ks:List Key)(vn:V)(n:T)(m:Nat),vs= [v, .str wd.s, .ref pa,vn]/\Tq m H v t pa ks/\Rep H vn n/\(∀r,chG wd (λs k=>xF wd s k n) t ks n= .inr r->∀v' H',Same H H'->Rep H' v' r->Q v' H')/\(∀j:Nat,chG wd (λs k=>xF wd s k n) t ks n= .inl j->XAt C (j:Int) H E)
theorem scCs:zS ["thing","word","path","new","stops","changed","place"] ["thing","word","path","new"] (zK sCs):=by walk_at "sc"
theorem ok_cs(F:FunD K "change_shared" "change_shared" sCs f fd)(B:Bl mg)(Gwhole_changedx:Dx nC P w K mg base 3 "whole_changed" ["word","new"] (yCf C))(Gstops_to_lastx:Dx nC P w K mg base 4 "stops_to_last" ["thing","path"] (yCs C))(Gcan_change:Dn P w K mg base 4 "can_change" ["holder","word","step"] spCc)(Gpart_changed:Dn P w K mg base 2 "part_changed" ["holder","word","step","new"] zRs)(RNoPlace:Xr P w K mg base 1 "NoPlace" C):FnOk P w K mg base (CXE nC P w) 5 f fd ["thing","word","path","new"] (zVy C):=by
 refine F.okx scCs (by walk_at "ln") λc A o s H vs Q E hr h=>?_;obtain⟨v,t,wd,pa,ks,vn,n,m,rfl,hT,hn,q,qx⟩:=h;let nd:=scCs.nd;refine{_,(zF (zW (wL (zIl (pv 2) (λ_=>O))) (zG (zJ (zJj Gwhole_changedx hr ∅ O lvs (zA (pv 1) (zA (pv 3) zC))))) zL)
  (zF (pS 4 nd (zJj Gstops_to_lastx hr ∅ O lvs (zA (pv 0) (zA (pv 2) zC))))
  (zF (zW (wL (yF (zR Gcan_change hr ∅ O (zA (yB zP (pv 4) (wS xR zE) (λ_ _=>O)) (zA (pv 1) (zA (yB zP (pv 2) (wS xR zE) (λ_ _=>O)) zC)))))) (zG (zBq RNoPlace hr ∅ O O lvs (zA zN (zA (zH wU (zO yL O B.len yW (zA (pv 2) zC)) zE) zC)))) zL)
  (zF (pS 5 nd (zR Gpart_changed hr ∅ O (zA (yB zP (pv 4) (wS xR zE) (λ_ _=>O)) (zA (pv 1) (zA (yB zP (pv 2) (wS xR zE) (λ_ _=>O)) (zA (pv 3) zC))))))
  (zF (vO PassesOwn.leaving O (zXh O B.range (zA (zH wU (zO yL O B.len yW (zA (pv 2) zC)) zE) (zA (wS xR zE) (zA (wS xR zE) zC)))) (yI (i:=6) nd O (nU O)) (zG (pS 5 nd (zR Gpart_changed hr ∅ O (zA (yB zP (pv 4) (pv 6) (λ_ _=>O)) (zA zN (zA (yB zP (pv 2) (pv 6) (λ_ _=>O)) (zA (pv 5) zC))))))))
  (zG (zJ (pv 5)))))))), ?_}
 walk_at "st";unfold zCs zYq;lk;refine nEA _ (.inl {_,SqL.of hT.pa,O}) ?_;let hz:=hT.sz;let h8:=hT.l8;let hm:=hT.m
 cases hk:ks.getLast? with
 | none=>
  let e0:ks= []:=List.getLast?_eq_none_iff.mp hk;subst e0;refine iP O {wd,vn,O,λe H' g=>?_,λe=>?_}
  ·subst e
   exact q n O vn H' g (Rep.same g _ _ hn)
  ·refine qx 0 ?_
   cases wd with
   | put=>exact absurd O e
   | ins=>rfl
   | tak=>rfl
 | some k=>
  let hne:ks≠ []:=λz=>by rw[z] at hk;cases hk
  let hpos:0<ks...*:=List.length_pos_iff.mpr hne;let hie:(ks.map kV).isEmpty=false:=by cases ks with | nil=>exact absurd O hne | cons _ _=>rfl
  let hch:∀pt:T->Key->T,chG wd pt t ks n=if(goT t ks.dropLast)...*<ks...* then .inl ((goT t ks.dropLast)...* - 1) else
    match (goT t ks.dropLast).getLast? with
    | none=>.inl 0
    | some s=>if vL wd s k=true then .inr (bld (goT t ks.dropLast) ks (ks...* - 1) (pt s k)) else .inl (ks...* - 1):=λpt=>by unfold chG;rw[hk]<;>rfl
  rw[hch] at q qx;let hgl:=zAo t ks.dropLast;let hdl:ks.dropLast...*=ks...* - 1:=List.length_dropLast;refine iN (by rw[hie];decide) {v,t,pa,ks,m,O,hT,λhle p xs H1 g1 hp1 hR=>?_,λhlt=>?_}
  ·let hnlt:¬(goT t ks.dropLast)...*<ks...*:=by lia
   rw[mK hnlt] at q qx;let hlen:(goT t ks.dropLast)...*=ks...*:=by lia
   refine oEA (zEt t ks.dropLast) λs hs hsm=>?_;rw[hs] at q qx;refine oEA (m9 hR hs) λxv hxv hxr=>?_;let hsi:(goT t ks.dropLast)[ks...* - 1]? =Y s:=by rw[bC,hlen] at hs;exact hs
   refine oAA (zDm ks.dropLast t _ s hT.few hsi) λs1 s2 s3=>?_;let hkm:k∈ks:=List.mem_of_getLast? hk;let hkl:atI (ks.map kV) (-1)=Y (kV k):=zHf (by rw[List.getLast?_map,hk];rfl);let sp:T.pure s:=zAz _ s (mE _) (c5 ∅ _ s1);refine zZ (SqL.of hp1) (zHf hxv) (zZ (SqL.of (g1 _ _ hT.pa)) hkl {xv,s,wd,k,O,hxr,sp,∅,hT.ok k hkm,λH2 g2=>{_,O, ?_}});let g12:=g1.trans g2
   by_cases hc:vL wd s k=true
   ·let q:=q _ (mQ hc)
    refine iN (by rw[hc];decide) (zZ (SqL.of (g2 _ _ hp1)) (zHf hxv) (zZ (SqL.of (g12 _ _ hT.pa)) hkl {xv,s,wd,k,vn,n,m,O,Rep.same g2 _ _ hxr,s1,∅,∅,hT.ok k hkm,hc,Rep.same g12 _ _ hn,λv' H3 g3 hv3=>?_}));let g13:=g12.trans g3;let hp3:=g3 _ _ (g2 _ _ hp1);let hpa3:=g13 _ _ hT.pa;let hR3:=Reps.same (g2.trans g3) _ _ hR;let hxl:=hR...*;refine nEA _ (SqL.of hpa3) ?_;rw[mL];refine nAA ∅ ∅ ?_;rw[show((ks...*:Int)- 2+1).toNat=ks...* - 1 by lia];refine zQq (λi σ' H'=>∃o c r,σ'= [Y v,Y (.str wd.s),Y (.ref pa),Y vn,Y (.ref p),Y c,o]/\Same H3 H'/\Rep H' c r/\i<=ks...* - 1/\bld (goT t ks.dropLast) ks (ks...* - 1 - i) r=bld (goT t ks.dropLast) ks (ks...* - 1) (xF wd s k n)) {_,v',_,O,Same.refl _,hv3,nS _,O} ?_ ?_
    ·intro i σ' H' hi z_
     ext yD z_ o c r r3_ g z_;ext oAA z_ hc' hil hb;subst r3_;lk;obtain⟨M,hM⟩:∃M,ks...* - 1 - i=M+1:={ks...* - 2 - i,∅};let hpl:(ks...*:Int)- 2 - (i:Int)=(M:Int):=by lia
     rw[hpl];refine yD (zJw ks.dropLast t M ∅) λk' u' u2 h1 h2 z_=>?_;ext oA z_ h3 h4;let hki:ks[M]? =Y k':=by
      rw[List.getElem?_dropLast,mQ ∅] at h1;exact h1
     refine oAA (zDm ks.dropLast t M u' hT.few h2) λa1 a2 a3=>?_;let hMx:M<xs...*:=by lia
     refine oEA (hR3.get (i:=M) (v:=xs[M]) (mT hMx)) λu1 hu1 hr1=>?_;rw[h2] at hu1;cases hu1;let hok:=hT.ok k' (mP hki);refine zZ (SqL.of (g _ _ hp3)) (zV (mT hMx)) (zZ (SqL.of (g _ _ hpa3)) (zV (j:=M) (by rw[nH,hki];rfl)) {_,u', .put,k',c,r,m,O,Rep.same g _ _ hr1,a1,∅,∅,hok,zWy hok h4,hc',λv4 H4 g4 hv4=>{_,v4,⟨O,O⟩,g.trans g4,_,hv4,∅, ?_}});let e1:(goT t ks.dropLast).getD M .non=u':=by rw[sD,h2];rfl
     let e2:ks.getD M (.inl 0)=k':=by rw[sD,hki];rfl
     rw[hM] at hb;let hb':bld (goT t ks.dropLast) ks M (xF .put ((goT t ks.dropLast).getD M .non) (ks.getD M (.inl 0)) r)=_:=hb;rw[e1,e2] at hb';rw[show ks...* - 1 - (i+1)=M by lia];exact hb'
    ·intro σ' H' z_
     ext yD z_ o c r r3_ g z_;ext oAA z_ hc' hil hb;subst r3_;lk;rw[show ks...* - 1 - (ks...* - 1)=0 by lia] at hb;let hb':r=_:=hb;rw[hb'] at hc';exact q c H' (g13.trans g) hc'
   ·let hcf:vL wd s k=false:=by cases hq:vL wd s k with | true=>exact absurd hq hc | false=>rfl
    let qx:=qx _ (mK hc);refine iP hcf {_,SqL.of (g12 _ _ hT.pa),_,_,⟨O,O⟩,λd hd=>?_};let qq:=qx.of g12 hd;rw[show(((ks...* - 1:Nat)):Int)=((ks.map kV)...*:Int)- 1 by rw[mL];lia] at qq;exact qq
  ·let qx:=qx _ (mQ hlt)
   rw[show((((goT t ks.dropLast)...* - 1:Nat)):Int)=((goT t ks.dropLast)...*:Int)- 1 by lia] at qx;exact qx
end
theorem zKf{t:T}{k:Key}{st:List T}{ks:List Key}:∀(m:Nat)(r:T),bld (t::st) (k::ks) (m+1) r=xF .put t k (bld st ks m r)
 | 0,r=>rfl
 | m+1,r=>by
  show bld (t::st) (k::ks) (m+1) (xF .put (st.getD m .non) (ks.getD m (.inl 0)) r)=_;rw[zKf m]
  rfl
theorem zLm{w:Wd}{n:T}:∀(ks:List Key)(t r:T),doT w n ks t=Y r->chG w (λs k=>xF w s k n) t ks n= .inr r
 | [],t,r,h=>by
  cases w with
  | put=>exact congrArg Sum.inr (mR h)
  | ins=>cases h
  | tak=>cases h
 | [k],t,r,h=>by
  let h':(if vL w t k=true then Y (xF w t k n) else none)=Y r:=h
  by_cases hc:vL w t k=true
  ·rw[mQ hc] at h'
   let e:=mR h';subst e;show(if 1<1 then Sum.inl 0 else(if vL w t k=true then Sum.inr (xF w t k n) else Sum.inl 0:Sum Nat T))=_;rw[mK ∎,mQ hc]
  ·rw[mK hc] at h';cases h'
 | k::k'::ks,t,r,h=>by
  rw[kK (by simp)] at h
  cases hs:xG t k with
  | none=>rw[hs] at h;cases h
  | some s=>
   rw[hs] at h;obtain⟨r',hr',e⟩:=rZ.mp h;subst e;let ih:=zLm (k'::ks) s r' hr';let hgo:goT t (k::(k'::ks).dropLast)=t::goT s (k'::ks).dropLast:=by
    show(match xG t k with | none=>[t] | some u=>t::goT u (k'::ks).dropLast)=_
    rw[hs]
   unfold chG at ih⊢;obtain⟨kl,hkl⟩:∃kl,(k'::ks).getLast? =Y kl:={_,cG (bT _ _)};let hkl2:(k::k'::ks).getLast? =Y kl:=by rw[tV];exact hkl
   rw[hkl] at ih;rw[hkl2];let hdl:(k::k'::ks).dropLast=k::(k'::ks).dropLast:=rfl;dsimp only at ih⊢;rw[hdl,hgo]
   by_cases c:(goT s (k'::ks).dropLast)...*<(k'::ks)...*
   ·rw[mQ c] at ih;cases ih
   rw[mK c] at ih;rw[mW,mW (as:=k'::ks),mK ∅];obtain⟨sl,hsl,_⟩:=zEt s (k'::ks).dropLast;let hsl2:(t::goT s (k'::ks).dropLast).getLast? =Y sl:=by
    cases hg:goT s (k'::ks).dropLast with
    | nil=>rw[hg] at hsl;cases hsl
    | cons a b=>rw[tV,<-hg];exact hsl
   rw[hsl] at ih;rw[hsl2];dsimp only at ih⊢
   by_cases hc:vL w sl kl=true
   ·rw[mQ hc] at ih⊢
    let e:=Sum.inr.inj ih;rw[show(k'::ks)...*+1 - 1=((k'::ks)...* - 1)+1 by rw[mW];lia,zKf,e]
   ·rw[mK hc] at ih;cases ih
end K42
namespace K42
open PySem L2 PySem.W
seal L2.PSs L2.PS L2.PE L2.PT L2.PW L2.PA L2.PI L2.PG L2.PGs L2.PPs L2.PTs
theorem zRp{w:Wd}{n:T}:∀(ks:List Key)(t:T),doT w n ks t=none->∃j:Nat,chG w (λs k=>xF w s k n) t ks n= .inl j
 | [],t,h=>by
  cases w with
  | put=>cases h
  | ins=>exact{0,O}
  | tak=>exact{0,O}
 | [k],t,h=>by
  let h':(if vL w t k=true then Y (xF w t k n) else none)=none:=h
  by_cases hc:vL w t k=true
  ·rw[mQ hc] at h';cases h'
  ·refine{0, ?_}
   show(if 1<1 then Sum.inl 0 else(if vL w t k=true then Sum.inr (xF w t k n) else Sum.inl 0:Sum Nat T))=_;rw[mK ∎,mK hc]
 | k::k'::ks,t,h=>by
  rw[kK (by simp)] at h;obtain⟨kl,hkl⟩:∃kl,(k'::ks).getLast? =Y kl:={_,cG (bT _ _)};let hkl2:(k::k'::ks).getLast? =Y kl:=by rw[tV];exact hkl
  let hdl:(k::k'::ks).dropLast=k::(k'::ks).dropLast:=rfl
  cases hs:xG t k with
  | none=>
   let hgo:goT t (k::(k'::ks).dropLast)= [t]:=by
    show(match xG t k with | none=>[t] | some u=>t::goT u (k'::ks).dropLast)=_
    rw[hs]
   refine{0, ?_};unfold chG;rw[hkl2];dsimp only;rw[hdl,hgo,mQ (by simp only[mW,pK];lia)]
   rfl
  | some s=>
   rw[hs] at h;let h':doT w n (k'::ks) s=none:=by
    cases e:doT w n (k'::ks) s with
    | none=>rfl
    | some r=>
     let h2:(doT w n (k'::ks) s).map (λr=>xF .put t k r)=none:=h;rw[e] at h2;cases h2
   obtain⟨j,ih⟩:=zRp (k'::ks) s h';let hgo:goT t (k::(k'::ks).dropLast)=t::goT s (k'::ks).dropLast:=by
    show(match xG t k with | none=>[t] | some u=>t::goT u (k'::ks).dropLast)=_
    rw[hs]
   unfold chG at ih⊢;rw[hkl] at ih;rw[hkl2];dsimp only at ih⊢;rw[hdl,hgo]
   by_cases c:(goT s (k'::ks).dropLast)...*<(k'::ks)...*
   ·rw[mQ (by rw[mW,mW (as:=k'::ks)];lia)]
    exact⟨_,O⟩
   rw[mK c] at ih;rw[mW,mW (as:=k'::ks),mK ∅];obtain⟨sl,hsl,_⟩:=zEt s (k'::ks).dropLast;let hsl2:(t::goT s (k'::ks).dropLast).getLast? =Y sl:=by
    cases hg:goT s (k'::ks).dropLast with
    | nil=>rw[hg] at hsl;cases hsl
    | cons a b=>rw[tV,<-hg];exact hsl
   rw[hsl] at ih;rw[hsl2];dsimp only at ih⊢
   by_cases hc:vL w sl kl=true
   ·rw[mQ hc] at ih;cases ih
   ·rw[mK hc]
    exact⟨_,O⟩
abbrev sAd:V6:=top 40
abbrev qP:V6:=zZc (top 22)
theorem zWc:zS ["self","text","number"] ["self","text","number"] (zK qP):=by walk_at "sc"
section
variable{P:V3}{w:V4}{K:PySem.W.Frag}{mg:Str->Option V0}{base:V5}{C B fI dT:V1}{nm:Str}{oc kV doc pm cdv ct:V0}{od an:Option V1}{osl:Array (Option V0)}
theorem zTb(lk:K.lookup fI=Y {oc,od, .func (fnOf "__init__" "NoDeed.__init__" (xW qP) (xJ qP) (zK qP) (.ref dT) kV doc pm an cdv ct),osl})(hcd:codeIn K cdv "NoDeed.__init__" =true)(c:zBy K nm C B fI)(hfl:findIn K (.ref C) "number" =Y none)(b:zOo K B)(hmB:mg "CabinetError" =Y (.ref B)):
  zJa P w K mg base 1 fI (fnOf "__init__" "NoDeed.__init__" (xW qP) (xJ qP) (zK qP) (.ref dT) kV doc pm an cdv ct) ["self","text","number"] (zMn C "number"):=by
 refine yDa (k:=0) lk hcd zWc (λvs H Q E h=>?_) λA outer s H vs Q E hr h=>?_
 ·obtain⟨x,v0,v,rfl,_⟩:=h
  rfl
 obtain⟨x,v0,v,rfl,hx,q⟩:=h;refine{_,(zF (wF (zJg c b O hmB (zA (pv 0) (zA (pv 1) zC)))) (zG (zUf c hfl (pv 2) (pv 0)))), ?_};refine{x,v0,O,hx,x,O,hx,λd hd=>q d hd}
theorem zJd{o:Obj}{items:Array V0}{n:Nat}(hd:K.lookup dT=Y o)(hs:o.data= .seq items n)(h1:items.size=1):Binds K (fnOf "__init__" "NoDeed.__init__" (xW qP) (xJ qP) (zK qP) (.ref dT) kV doc pm an cdv ct) ["self","text","number"] []:=λs us hK hl=>by
 rw[pQ] at hl⊢;obtain⟨l⟩:=items
 match l,h1 with
 | [i0],_=>
  match us,hl with
  | [a,b,c],_=>exact binds_K hK O hd hs O O
end
def XNo(C:V1)(j:Int)(H:Hp)(E:XK):Prop:=∀d H',Same H H'->H' d=Y (.xd [("number", .int j)])->E (.ref C) ↥d H'
theorem XNo.of{C:V1}{n:Int}{H H1:Hp}{E:XK}{d:V1}(h:XNo C n H E)(g:Same H H1)(hd:H1 d=none):E (.ref C) ↥d (upd H1 d (.xd [("number", .int n)])):=h d _ (g.trans (zD hd _)) zB
def Dlay(H:Hp)(v:V)(d:Dd):Prop:=∃tp pd r,v= .ref tp/\H tp=Y (.tup (.str d.1.s:: .ref pd::r))/\H pd=Y (.lst (d.2.1.map kV))/\((d.1= .tak/\r= [])\/(d.1≠ .tak/\∃x,r= [x]/\Rep H x d.2.2))
theorem Dlay.same{H H':Hp}{v:V}{d:Dd}(g:Same H H')(h:Dlay H v d):Dlay H' v d:=by
 ext yD h tp pd r h1 h2 z_;ext oA z_ h3 h4;exact{tp,pd,r,h1,g _ _ h2,g _ _ h3,h4.imp id fun⟨a,x,b,c⟩=>{a,x,b,Rep.same g _ _ c}}
section
variable{P:V3}{w:V4}{K:PySem.W.Frag}{mg:Str->Option V0}{base:V5}{f:V1}{fd:V7}{C C2:V1}
def yCm(C2:V1):Sp:=λvs H Q E=>∃(v x:V)(j:Int)(s:T)(d:Dd)(m:Nat),vs= [v,x, .int j]/\Rep H v s/\T.fewm m s/\m<62/\T.sz s<=50000/\Dlay H x d/\(∀k∈d.2.1,okS k)/\d.2.1...*<=8/\(∀r,doT d.1 d.2.2 d.2.1 s=Y r->∀v' H',Same H H'->Rep H' v' r->Q v' H')/\(doT d.1 d.2.2 d.2.1 s=none->XNo C2 j H E)
theorem scAd:zS ["thing","deed","number","new","refusal"] ["thing","deed","number"] (zK sAd):=by walk_at "sc"
theorem ok_ad(F:Fun K "after_deed" "after_deed" sAd f fd)(B:Bl mg)(Gx:Dx nC P w K mg base 5 "change_shared" ["thing","word","path","new"] (zVy C))(RNoDeed:Xh P w K mg base 1 "NoDeed" C2 "number")(RB:Xb K mg "NoPlace" C):FnOk P w K mg base (CXE aC P w) 6 f fd ["thing","deed","number"] (yCm C2):=by
 refine F.okx scAd (by walk_at "ln") λc A o s H vs Q E hr h=>?_;obtain⟨v,x,j,s,d,m,rfl,hv,hf,hm,hz,⟨tp,pd,rr,rfl,hp,hpd,hr4⟩,hok,hl8,q,qx⟩:=h;let nd:=scAd.nd;refine{_,(zF (pS 3 nd (zJr (zU kE (zO gD O B.len yW (zA (pv 1) zC)) zE (zQ _)) (yB kA (pv 1) zE (λ_ _=>O)) gQ))
  (zG (zMg (tb:=λE'=>zHr (jV (zVy C) [] E' (xH (vY 0) (xH (tOp (zRd K) (vY 1) (tC (.int 0))) (xH (tOp (zRd K) (vY 1) (tC (.int 1))) (xH (vY 3) qW)))))) (ta:=xH (tC (.str "a deed whose path doesn't lead as it wants it")) (xH (vY 2) qW)) (φ:=aC) (E:=E) (i:=4) (f:="number") RNoDeed RB hr ∅ O O nd O O (nU O) lvs (λ_=>mI) (λpins W E' σ l=>zUi (zZs Gx hr ∅ O l (zA (pv 0) (zA (yB kA (pv 1) zE (λ_ _=>O)) (zA (yB kA (pv 1) zE (λ_ _=>O)) (zA (pv 3) zC)))))) (λ_=>zA zN (zA (pv 2) zC))))), ?_}
 walk_at "st";unfold zId;lk;let hT:Tq m H v s pd d.2.1:={hv,hf,hm,hz,hpd,λk hk=>(hok k hk).k,hl8};let fx:∀(y:V)(n:T),doT d.1 n d.2.1 s=doT d.1 d.2.2 d.2.1 s->∀i:Nat,chG d.1 (λs k=>xF d.1 s k n) s d.2.1 n= .inl i->XAt C (i:Int) H (zMp C C2 4 (A5 "number") (xH (tC (V.str (A5 "a deed whose path doesn't lead as it wants it"))) (xH (vY 2) qW)) E [Y v,Y (V.ref tp),Y (V.int j),Y y,none]):=λy n en i hi=>by
  let hno:doT d.1 d.2.2 d.2.1 s=none:=by
   cases e:doT d.1 n d.2.1 s with
   | none=>rw[<-en];exact e
   | some r=>rw[zLm _ _ _ e] at hi;cases hi
  exact λdx H' g _=>{O,λx hx=>{zB,_,_,O,λd2 hd2=>(qx hno).of (g.trans (zD hx _)) hd2}}
 let fr:∀(n r:T),doT d.1 n d.2.1 s=doT d.1 d.2.2 d.2.1 s->chG d.1 (λs k=>xF d.1 s k n) s d.2.1 n= .inr r->∀v' H',Same H H'->Rep H' v' r->Q v' H':=λn r en hi=>by
  cases e:doT d.1 n d.2.1 s with
  | none=>obtain⟨i,hi'⟩:=zRp _ _ e;rw[hi'] at hi;cases hi
  | some r'=>
   rw[zLm _ _ _ e] at hi;let e2:=Sum.inr.inj hi;rw[e2] at e;exact q r (by rw[<-en];exact e)
 rcases hr4 with⟨hw,rfl⟩|⟨hw,y,rfl,hy⟩
 ·let en:doT d.1 .non d.2.1 s=doT d.1 d.2.2 d.2.1 s:=by rw[hw];exact zIa _ _
  exact{_, .inr (SqT.of hp),iN (by show¬(2:Int)<((2:Nat):Int);decide) (qK (SqT.of hp) (zV (j:=0) O) (qK (SqT.of hp) (zV (j:=1) O) {v,s,d.1,pd,d.2.1, .non, .non,m,O,hT,O,λr h=>fr _ r en h,fx _ _ en}))}
 ·exact{_, .inr (SqT.of hp),iP (by show(2:Int)<((3:Nat):Int);decide) (qK (SqT.of hp) (zV (j:=2) O) (qK (SqT.of hp) (zV (j:=0) O) (qK (SqT.of hp) (zV (j:=1) O) {v,s,d.1,pd,d.2.1,y,d.2.2,m,O,hT,hy,λr h=>fr _ r O h,fx _ _ O})))}
end
end K42
namespace K42
open PySem L2
seal L2.PSs L2.PS L2.PE L2.PT L2.PW L2.PA L2.PI L2.PG L2.PGs L2.PPs L2.PTs
abbrev yBo:V6:=top 11
abbrev yCz:V6:=top 13
abbrev sHp:V6:=top 14
abbrev sPo:V6:=top 15
abbrev sPz:V6:=top 16
abbrev sTh:V6:=top 12
noncomputable def vI(us:List T):List T:=(us.map wN).flatten
theorem zMd(us:List T)(u:T):vI (us++ [u])=vI us++wN u:=by simp[vI]
theorem zKk:∀us:List T,T.szs (us.filter wM)<=T.szs us
 | []=>mE _
 | u::us=>by
  let ih:=zKk us;show _<=T.sz u+T.szs us
  cases hh:wM u with
  | true=>
   rw[rR hh];show T.sz u+_<=_
   lia
  | false=>
   rw[rT (by rw[hh];decide)]
   lia
theorem zOf:∀us:List T,T.szs (vI (us.filter wM))+us...*<=T.szs us
 | []=>mE _
 | u::us=>by
  let ih:=zOf us;show _<=T.sz u+T.szs us;rw[mW]
  cases hh:wM u with
  | true=>
   rw[rR hh];let e:vI (u::us.filter wM)=wN u++vI (us.filter wM):=rfl;rw[e,d8];let:=(kX hh).2.1
   lia
  | false=>
   rw[rT (by rw[hh];decide)];let:=zZx u
   lia
theorem zKb(a:List T)(i:Nat):T.szs (a.take i)<=T.szs a:=by
 let:=szs_append (a.take i) (a.drop i);rw[bV] at this
 lia
noncomputable def zAh:T->Bool
 | .lst us=>decide (us...*<=60)
 | .dic ks _=>decide (ks...*<=30)
 | _=>true
noncomputable def thL:Nat->Nat->List T->Bool
 | 0,_,_=>false
 | n+1,z,us=>decide (z+us...*<=200)&& (us.all zAh && ((us.filter wM).isEmpty || thL n (z+us...*) (vI (us.filter wM))))
theorem zFz:∀us ws:List T,xZ (us++ws)=(xZ us && xZ ws)
 | [],_=>rfl
 | u::us,ws=>by
  show(lnar u && xZ (us++ws))=((lnar u && xZ us)&& xZ ws);rw[zFz us ws,Bool.and_assoc]
theorem zKc:∀us ws:List T,jN (us++ws)=jN us+jN ws
 | [],ws=>by show jN ws=0+jN ws;lia
 | u::us,ws=>by
  show lsz u+jN (us++ws)=(lsz u+jN us)+jN ws;rw[zKc us ws];lia
theorem zGc:∀us ws:List T,vC (us++ws)=max (vC us) (vC ws)
 | [],ws=>by show vC ws=max 0 (vC ws);lia
 | u::us,ws=>by
  show max (gL u) (vC (us++ws))=max (max (gL u) (vC us)) (vC ws);rw[zGc us ws];lia
theorem zCv{u:T}(h:wM u=false):gL u=0/\lsz u=1/\lnar u=true/\zAh u=true:=by
 cases u with
 | lst us=>cases h
 | dic ks us=>cases h
 | _=>exact⟨O,O,O,O⟩
theorem zUx{u:T}(h:wM u=true):lnar u=(zAh u && xZ (wN u)):=by
 cases u with
 | lst us=>rfl
 | dic ks us=>rfl
 | _=>cases h
theorem zBu(u:T)(us:List T):vI (u::us)=wN u++vI us:=rfl
theorem zIj:∀us:List T,xZ us=(us.all zAh && xZ (vI (us.filter wM)))
 | []=>rfl
 | u::us=>by
  let ih:=zIj us;show(lnar u && xZ us)=_;rw[List.all_cons,ih]
  cases hh:wM u with
  | true=>
   rw[rR hh,zBu,zFz,zUx hh];cases zAh u<;>cases us.all zAh<;>cases xZ (wN u)<;>rfl
  | false=>
   rw[rT (by rw[hh];decide),(zCv hh).2.2.1,(zCv hh).2.2.2,tW,tW]
theorem zOp:∀us:List T,jN us=us...*+jN (vI (us.filter wM))
 | []=>rfl
 | u::us=>by
  let ih:=zOp us;show lsz u+jN us=_;rw[mW]
  cases hh:wM u with
  | true=>
   rw[rR hh,zBu,zKc,(kX hh).2.2.2]
   lia
  | false=>
   rw[rT (by rw[hh];decide),(zCv hh).2.1]
   lia
theorem zMo(n:Nat):∀us:List T,vC us<n+1↔((us.filter wM)= []\/vC (vI (us.filter wM))<n)
 | []=>{λ_=>.inl O,λ_=>Nat.succ_pos n}
 | u::us=>by
  let ih:=zMo n us;let e:vC (u::us)=max (gL u) (vC us):=rfl;rw[e]
  cases hh:wM u with
  | true=>
   let k:=(kX hh).2.2.1;rw[rR hh,zBu,zGc];constructor
   ·intro h
    let h2:=ih.mp ∅;refine .inr ?_;rcases h2 with z | z
    ·rw[z]
     let e0:vC (vI [])=0:=rfl;rw[e0];lia
    ·lia
   ·intro h
    rcases h with z | z
    ·cases z
    ·let:=ih.mpr (.inr ∅)
     lia
  | false=>
   let k:=(zCv hh).1;rw[rT (by rw[hh];decide)];constructor
   ·exact λh=>ih.mp ∅
   ·intro h
    let:=ih.mpr h
    lia
theorem zJf:∀(n z:Nat)(us:List T),thL n z us=(xZ us && (decide (vC us<n)&& decide (z+jN us<=200)))
 | 0,z,us=>by
  rw[show decide (vC us<0)=false from nG ∅,sQ,tL]
  rfl
 | n+1,z,us=>by
  let e:thL (n+1) z us=(decide (z+us...*<=200)&& (us.all zAh && ((us.filter wM).isEmpty || thL n (z+us...*) (vI (us.filter wM))))):=rfl
  rw[e,zJf n,zIj us,zOp us,tX];let hd:=zMo n us;simp only[tP,Bool.or_eq_true,decide_eq_true_iff,List.isEmpty_iff];constructor
  ·rintro⟨h1,h2,h3⟩
   rcases h3 with z' |⟨h4,h5,h6⟩
   ·rw[z']
    let e0:jN (vI [])=0:=rfl;exact{⟨h2,O⟩,hd.mpr (.inl z'),by rw[e0];lia}
   ·exact{⟨h2,h4⟩,hd.mpr (.inr h5),∅}
  ·rintro⟨⟨h1,h2⟩,h3,h4⟩
   refine{∅,h1, ?_};rcases hd.mp h3 with z' | z'
   ·exact .inl z'
   ·exact .inr {h2,z',∅}
theorem zVz(t:T):thL 9 0 [t]=vT t:=by
 rw[zJf];let e1:xZ [t]=(lnar t && true):=rfl;let e2:vC [t]=max (gL t) 0:=rfl;let e3:jN [t]=lsz t+0:=rfl;rw[e1,e2,e3,Bool.and_true];unfold vT;rw[Bool.and_assoc]
 congr 1
 congr 1
 ·exact pX.mpr ∅
 ·exact pX.mpr ∅
theorem yBr{t u:T}(h:T.gk t)(hu:u∈wN t):T.gk u:=by
 cases t with
 | lst us=>exact d5 (show j9 us from h) hu
 | dic ks us=>exact d5 (show(∀k∈ks,yQ k=true)/\j9 us from h).2 hu
 | _=>cases hu
theorem zMl{t u:T}(h:T.few t)(hu:u∈wN t):T.few u:=by
 cases t with
 | lst us=>exact b9 h.2 hu
 | dic ks us=>exact b9 h.2.2.2 hu
 | _=>cases hu
section
variable{P:V3}{w:V4}{K:A6}{mg:Str->Option V0}{base:V5}{f:V1}{fd:V7}
def zYs:Sp:=λvs H Q _=>∃c:Nat,vs= [.str (tx [c])]/\∀H',Same H H'->Q (.bl (decide (c∈zAs))) H'
theorem zGr(c:Nat):c∈zAs↔32<=c/\c<=126/\c≠37:=by
 unfold zAs;rw[aX,nW];constructor
 ·rintro⟨⟨i,hi,rfl⟩,h⟩
  let:=tK.mp hi;simp at h
  lia
 ·rintro⟨h1,h2,h3⟩
  exact{{c - 32,tK.mpr ∅,∅},by simp[h3]}
theorem scSgn:zS ["sign"] ["sign"] (zK yBo):=by walk_at "sc"
theorem yDf(F:Fun K "is_text_sign" "is_text_sign" yBo f fd)(B:Bl5 mg):FnOk P w K mg base CX0 1 f fd ["sign"] zYs:=by
 refine F.ok scSgn (λvs H Q E h=>?_) (λc A o s H vs Q E hr h=>?_)
 ·ext oEA h c r1_ _
  subst r1_
  rfl
 ext oEA h c r1_ q;subst r1_;let nd:=scSgn.nd;refine nEA _ (zG (zJ (vK (zJx zGh zGh zN (pv 0) zN) (vZ (yR zJq (zO zSj O B.ord yCl (zA (pv 0) zC)) zE (zQ _)))))) ?_;walk_at "st";lk;let e1:ts (A5 " ")= [32]:=by decide+kernel
 let e2:ts (A5 "~")= [126]:=by decide+kernel
 let e3:ts (tx [c])= [c]:=rfl;let e4:(↑((#[c]:Array Nat).getD 0 0):Int)=(c:Int):=rfl;let l1:∀a b:Nat,([a]:List Nat)< [b]↔a<b:=λa b=>by
  constructor
  ·intro h
   cases h with
   | rel h=>exact h
   | cons h=>cases h
  ·exact λh=>.rel h
 let z:=q H (Same.refl H);rw[e1,e2,e3,e4]
 by_cases c1:c<32
 ·refine nEA false (by rw[nP ((l1 _ _).mpr c1)];rfl) (zOw ?_)
  rw[nG (λh=>by let:=(zGr c).mp h;lia)] at z;exact z
 ·refine nEA true (by rw[nG (λh=>c1 ((l1 _ _).mp h))];rfl) (zLf ?_)
  by_cases c2:126<c
  ·refine nEA false (by rw[nP ((l1 _ _).mpr c2)];rfl) (zOw ?_)
   rw[nG (λh=>by let:=(zGr c).mp h;lia)] at z;exact z
  ·refine nEA true (by rw[nG (λh=>c2 ((l1 _ _).mp h))];rfl) (zLf {O, ?_})
   let e:decide (c∈zAs)= !decide ((c:Int)=37):=by
    rw[tX,decide_eq_true_iff,zGr];simp
    lia
   rw[e] at z;exact z
theorem zKg(n:Nat):(List.replicate n true).all id=true:=by simp
theorem zJc(i:Nat):(List.replicate i true).map V.bl++ [V.bl true]=(List.replicate (i+1) true).map V.bl:=by rw[List.replicate_succ',nJ];rfl
def zZa:Sp:=λvs H Q _=>∃(v:V)(t:T),vs= [v]/\Rep H v t/\T.gk t/\T.few t/\T.sz t<=5000/\∀H',Same H H'->Q (.bl (zAh t)) H'
theorem scSnd:zS ["thing","kind"] ["thing"] (zK yCz):=by walk_at "sc"
theorem yBw(F:Fun K "is_sound_outside" "is_sound_outside" yCz f fd)(B:Bl5 mg)(M:Ms mg)(Gkind_of:Dn P w K mg base 1 "kind_of" ["thing"] zHk)(Gis_text_sign:Dn P w K mg base 1 "is_text_sign" ["sign"] zYs)(Gis_name:Dn P w K mg base 1 "is_name" ["thing"] zSi):FnOk P w K mg base CX0 2 f fd ["thing"] zZa:=by
 refine F.ok scSnd (λvs H Q E h=>?_) (λc A o s H vs Q E hr h=>?_)
 ·ext xV h v u r2_ _
  subst r2_
  rfl
 obtain⟨v,u,rfl,hv,hok,hfw,hz5,q⟩:=h;let nd:=scSnd.nd;refine{_,(zF (pS 1 nd (zR Gkind_of hr ∅ O (zA (pv 0) zC)))
  (zF (zW (zU xC (pv 1) zN (zQ _)) (zG (zJ (yR uW (zO zVh O B.abs yBb (zA (pv 0) zC)) (zH uD zE zE) (zQ _)))) zL)
  (zF (zW (zU xC (pv 1) zN (zQ _)) (zG (zJ (vK (yR uW (zO zAu O B.len yW (zA (pv 0) zC)) (zDn O M.MOST_IN_TEXT) (zQ _)) (vZ (zO (uB O) O B.all zEc (zA (xP (own:=["sign"]) (F:=[]) {O,tb_g%,tb_g%,tb_g%, .nil} O (zRr (pv 0)) (λ_ _ _ _=>yI (i:=0) (by show(wB ["sign"] []).Nodup;decide+kernel) O (nU O)) (λ_ _ _ _=>yX) (λ_ _ _ _=>(zR Gis_text_sign hr ∅ O (zA (pv 0) zC)))) zC)))))) zL)
  (zF (zW (zU xC (pv 1) zN (zQ _)) (zG (zJ (yR uW (zO yL O B.len yW (zA (pv 0) zC)) (zDn O M.MOST_IN_ROW) (zQ _)))) zL)
  (zF (zW (zU xC (pv 1) zN (zQ _)) (zG (zJ (vK (yR uW (zO zPk O B.len yW (zA (pv 0) zC)) (zDn O M.MOST_IN_RECORD) (zQ _)) (vZ (zO (uB O) O B.all zEc (zA (zCz (xP (own:=["name"]) (F:=[]) {O,tb_g%,tb_g%,tb_g%, .nil} O (zHz (pv 0)) (λ_ _ _ _=>yI (i:=0) (by show(wB ["name"] []).Nodup;decide+kernel) O (nU O)) (λ_ _ _ _=>yX) (λ_ _ _ _=>(zR Gis_name hr ∅ O (zA (pv 0) zC))))) zC)))))) zL)
  (zG (zJ (zMi (zHt (pv 1)))))))))), ?_}
 walk_at "st";lk;refine{v,_,O,(Rep.rp _ _ hv).ty,λH1 g1=>?_};let hv:=Rep.same g1 _ _ hv;let z:=q _ g1
 cases u with
 | lst us=>
  rw[show wE (tyT (T.lst us))= .str "row" from by show wE "list" =_;decide+kernel];ext yM hv a vs r2_ ha hs;subst r2_;let hl:=hs...*;refine{O,iN (by decide+kernel) {O,iN (by decide+kernel) {O,iP O {a,O,vs,SqL.of ha, ?_}}}};rw[show decide ((vs...*:Int)<=60)=decide (us...*<=60) from pX.mpr ∅];exact z
 | dic ks us=>
  rw[show wE (tyT (T.dic ks us))= .str "record" from by show wE "dict" =_;decide+kernel];ext yE hv a ps r2_ ha hk hs;subst r2_;let hnm:∀k∈ks,yQ k=true:=(show(∀k∈ks,yQ k=true)/\j9 us from hok).1;let hpl:ps...*=ks...*:=by let:=congrArg List.length hk;simpa using this
  refine{O,iN (by decide+kernel) {O,iN (by decide+kernel) {O,iN (by decide+kernel) {O,iP O {a,O,ps, .inl ha, ?_}}}}};let z0:Q (.bl (decide (ks...*<=30))) H1:=z
  by_cases h31:30<ks...*
  ·rw[mK (by rw[hpl];lia)]
   rw[nG ∅] at z0;exact z0
  let h30:ks...*<=30:=by lia
  rw[mQ (by rw[hpl];lia)];refine zVl a O ps (.inl {ha,λo=>?_});refine zBj (λi zs H'=>Same (upd H1 a (.frz o (.dK ps))) H'/\zs=(List.replicate i true).map V.bl) (by rw[mS];lia) {Same.refl _,O} (λi zs H' h=>h.1 _ _ zB) ?_ ?_
  ·rintro i kv zs H' hkv _ ⟨g,rfl⟩
   let hki:(ks.map nK)[i]? =Y kv.1:=by rw[<-hk,nH,hkv];rfl
   rw[nH] at hki;refine oEA (rZ.mp hki) λk hki e=>?_;let hkn:=hnm k (mP hki);let hlen:=zLd hkn;rw[<-e];lk;refine{_,"str",O,O,λx e=>?_,λH3 g3=>{g.trans g3, ?_}}
   ·let e':tx k=x:=V.str.inj e
    rw[<-e',jZ];lia
   ·show _++ [V.bl (yQ (ts (tx k)))]=_
    rw[vB,hkn];exact zJc i
  ·rintro zs H' _ ⟨g,rfl⟩ p hp
   let g2:=g.trans (zD hp (.lst ((List.replicate ps...* true).map V.bl)));refine qF p O _ (SqL.of (wZ zB (by intro o v z;cases z))) ?_;rw[zKg];let q2:Q (.bl (decide (ks...*<=30))) _:=q _ (g1.trans (kM (o:=o) ha g2));rw[nP h30] at q2;exact q2
 | non=>
  cases (show v=_ from hv);exact{by decide+kernel,iN (by decide+kernel) {by decide+kernel,iN (by decide+kernel) {by decide+kernel,iN (by decide+kernel) {by decide+kernel,iN (by decide+kernel) z}}}}
 | bl b=>
  cases (show v=_ from hv);rw[show wE (tyT (T.bl b))= .str "truth" from by show wE "bool" =_;decide+kernel];exact{O,iN (by decide+kernel) {O,iN (by decide+kernel) {O,iN (by decide+kernel) {O,iN (by decide+kernel) z}}}}
 | int i=>
  cases (show v=_ from hv);obtain⟨c1,c2⟩:=(show -(10 ^ 12)<=i/\i<=10 ^ 12 from hok);rw[show wE (tyT (T.int i))= .str "number" from by show wE "int" =_;decide+kernel];refine{O,iP O {i,O, ?_}};rw[show decide ((if i<0 then -i else i)<=1000000000000)=true from nP (by split<;>lia)];exact z
 | str b=>
  cases (show v=_ from hv);obtain⟨h30,hsg⟩:=(show b...*<=30/\∀c∈b,c∈zAs from hok);rw[show wE (tyT (T.str b))= .str "text" from by show wE "str" =_;decide+kernel];let hlen:=jZ b;refine{O,iN (by decide+kernel) {O,iP O {tx b,O,∅, ?_}}};rw[mQ ∅];refine nEA (tx b) O (zJz (λi ys H'=>Same H1 H'/\ys=(List.replicate i true).map V.bl) (by rw[mS,vB];lia) {Same.refl _,O} ?_ ?_)
  ·rintro i d ys H' hd _ ⟨hS,rfl⟩
   lk;refine{d,O,λH3 g3=>{hS.trans g3, ?_}};rw[vB] at hd;rw[nP (hsg d (mP hd))];exact zJc i
  ·rintro ys H' hl' ⟨hS,rfl⟩ p hp
   refine qF p O _ (SqL.of zB) ?_;rw[zKg];exact q _ (g1.trans (hS.trans (zD hp _)))
 | tup us=>exact(show False from hok).elim
def spHp:Sp:=λvs H Q _=>∃(v:V)(t:T),vs= [v]/\Rep H v t/\∀H',Same H H'->Q (.bl (wM t)) H'
theorem scHp:zS ["thing"] ["thing"] (zK sHp):=by walk_at "sc"
theorem ok_hp(F:Fun K "holds_parts" "holds_parts" sHp f fd)(B:Bl mg):FnOk P w K mg base CX0 1 f fd ["thing"] spHp:=by
 refine F.ok scHp (λvs H Q E h=>?_) (λc A o s H vs Q E hr h=>?_)
 ·ext xV h v u r2_ _
  subst r2_
  rfl
 ext yM h v u r2_ hv q;subst r2_;let nd:=scHp.nd;refine nEA _ (zG (zJ (zO (zKo (T:="list") (W:="dict") ∎ ∎) O B.isinstance zI (zA (pv 0) (zA (yZ (zA (xL (v:=.ty "list") O B.list yU O) (zA (xL (v:=.ty "dict") O B.dict xA O) zC))) zC))))) ?_;walk_at "st";lk;intro p hp;let g:=zD hp (.tup [V.ty "list",V.ty "dict"]);refine qQ v (tyT u) p ⟨O,O⟩ zB (nA ((Rep.rp _ _ (Rep.same g _ _ hv)).ty) ?_);let z:=q _ g;rw[<-zOn] at z;exact z
def spPo:Sp:=λvs H Q _=>∃(H0:Hp)(v:V)(t:T),vs= [v]/\Same H0 H/\Rep H0 v t/\wM t=true/\∀l ys H',Same H H'->H' l=Y (.lst ys)->Reps H0 ys (wN t)->Q (.ref l) H'
theorem scPo:zS ["thing"] ["thing"] (zK sPo):=by walk_at "sc"
theorem ok_po(F:Fun K "parts_of" "parts_of" sPo f fd)(B:Bl mg):FnOk P w K mg base CX0 1 f fd ["thing"] spPo:=by
 refine F.ok scPo (λvs H Q E h=>?_) (λc A o s H vs Q E hr h=>?_)
 ·ext qI h H0 v u r3_ _
  subst r3_
  rfl
 ext yD h H0 v u r3_ g0 z_;ext oAA z_ hv hh q;subst r3_;let nd:=scPo.nd;refine{_,(zF (zW (yF (zO (jG (T:="dict") ∎) O B.isinstance zI (zA (pv 0) (zA (xL (v:=.ty "dict") O B.dict xA O) zC)))) (zG (zJ (yJ (zJp O) O B.list yU (zA (yDm bH PySem.F.slot_dict_values PySem.F.type_dict_values zQn (pv 0)) zC)))) zL)
  (zG (zJ (yJ kS O B.list yU (zA (pv 0) zC))))), ?_}
 walk_at "st";lk;let hty:=(Rep.rp _ _ (Rep.same g0 _ _ hv)).ty
 cases u with
 | lst us=>
  ext yM hv a xs r2_ ha hs;subst r2_;exact nEA ("list") hty (iN (by decide+kernel) {a,O,xs, .inl (SqL.of (g0 _ _ ha)),λl hl=>q l xs _ (zD hl _) zB hs})
 | dic ks us=>
  ext yE hv a ps r2_ ha hk hs;subst r2_;refine nEA ("dict") hty (iP (by decide+kernel) ?_);let ha:=g0 _ _ ha;refine{{a,ps,O, .inl ha},a,ps,O,O, .inl ha,λp hp=>?_};let g:=zD hp (zKj p a);exact jY p O a zB ps (nA (.inl (g _ _ ha)) (λl hl=>q l _ _ (g.trans (zD hl _)) zB hs))
 | _=>cases hh
def spPz:Sp:=λvs H Q _=>∃(a:V1)(xs:List V)(us:List T),vs= [.ref a]/\H a=Y (.lst xs)/\Reps H xs us/\(∀u∈us,wM u=true)/\T.szs us<=10000/\∀l ys H',Same H H'->H' l=Y (.lst ys)->Reps H' ys (vI us)->Q (.ref l) H'
theorem zJn:∀us:List T,(∀u∈us,wM u=true)->(vI us)...*<=T.szs us
 | [],_=>mE _
 | u::us,h=>by
  let:=zJn us λx hx=>h x (mH _ hx);let e:vI (u::us)=wN u++vI us:=rfl;rw[e,mM];show _<=T.sz u+T.szs us;let h1:=c8 (wN u);let h2:=(kX (h u mF)).2.1
  lia
theorem scPz:zS ["holders","parts","holder"] ["holders"] (zK sPz):=by walk_at "sc"
theorem yCu(F:Fun K "parts_of_all" "parts_of_all" sPz f fd)(B:Bl mg)(Gparts_of:Dn P w K mg base 1 "parts_of" ["thing"] spPo):FnOk P w K mg base CX0 2 f fd ["holders"] spPz:=by
 refine F.ok scPz (λvs H Q E h=>?_) (λc A o s H vs Q E hr h=>?_)
 ·ext qI h a xs us r3_ _
  subst r3_
  rfl
 ext yD h a xs us r3_ ha z_;ext wC z_ hs hh hz q;subst r3_;let nd:=scPz.nd;refine{_,(zF (pS 1 nd (zT zC))
  (zF (vO PassesOwn.never O (xQ (pv 0)) (yI (i:=2) nd O (nU O)) (zG (wF (qT pA PySem.F.slot_list_extend PySem.F.type_list_extend zOu (pv 1) (zA (zR Gparts_of hr ∅ O (zA (pv 2) zC)) zC)))))
  (zG (zJ (pv 1))))), ?_}
 walk_at "st";lk;intro p hp;let g0:=zD hp (.lst []);refine{{_,SqL.of (g0 _ _ ha)}, ?_};refine jF (K:=K) (a:=a) (xs:=xs) (λi σ H2=>(∃o,σ= [Y (V.ref a),Y (V.ref p),o])/\Same H H2/\∃ys,H2 p=Y (.lst ys)/\Reps H ys (vI (us.take i))) {⟨_,O⟩,g0,[],zB,O} (λi σ H2 _ h=>SqL.of (h.2.1 _ _ ha)) ?_ ?_
 ·rintro i x σ H2 hx ⟨⟨o,rfl⟩,g,ys,hp2,hR⟩
  refine oEA (hs.get hx) λu hu hr'=>?_;let hm:=mP hu;lk;refine{nU {O,_,SqL.of hp2},H,x,u,O,g,hr',hh u hm,λl zs H3 g3 hl hZ=>?_};let h1:=hR...*;let h2:=hZ...*;let h3:=zJn (us.take (i+1)) λx hx=>hh x (tJ hx);let h4:=zKb us (i+1);let e:=zMd (us.take i) u;rw[<-yN hu] at e;let h5:=congrArg List.length e;rw[mM] at h5;refine{p,l,ys,zs,O,O,g3 _ _ hp2,hl,by rw[mS];lia,⟨_,O⟩,(g.trans g3).put hp _,ys++zs,zB, ?_};rw[e];exact Reps.append hZ hR
 ·rintro σ H2 ⟨⟨o,rfl⟩,g,ys,hp2,hR⟩
  lk;let hl:=hs...*;rw[hl,pE] at hR;exact q p ys H2 g hp2 (Reps.same g _ _ hR)
def zZk:Sp:=λvs H Q _=>∃(v:V)(t:T),vs= [v]/\Rep H v t/\T.gk t/\T.few t/\T.sz t<=5000/\∀H',Same H H'->Q (.bl (vT t)) H'
theorem scTh:zS ["thing","level","size","depth","holders"] ["thing"] (zK sTh):=by walk_at "sc"
theorem ok_th(F:Fun K "is_thing" "is_thing" sTh f fd)(B:Bl mg)(M:Ms mg)(Gis_sound_outside:Dn P w K mg base 2 "is_sound_outside" ["thing"] zZa)(Gholds_parts:Dn P w K mg base 1 "holds_parts" ["thing"] spHp)(Gparts_of_all:Dn P w K mg base 2 "parts_of_all" ["holders"] spPz):FnOk P w K mg base CX0 3 f fd ["thing"] zZk:=by
 refine F.ok scTh (λvs H Q E h=>?_) (λc A o s H vs Q E hr h=>?_)
 ·ext xV h v u r2_ _
  subst r2_
  rfl
 obtain⟨v,u,rfl,hv,hgk,hfw,hz5,q⟩:=h;let nd:=scTh.nd;refine{_,(zF (pS 1 nd (zT (zA (pv 0) zC)))
  (zF (pS 2 nd zE)
  (zF (pS 3 nd zE)
  (zF (zTj PassesOwn.never (zU uW (pv 3) (zDn O M.MOST_DEPTH) (zQ _)) (zF (zTa (i:=2) nd O (nU O) (zO yL O B.len yW (zA (pv 1) zC)) zUy)
  (zF (zW (j5 (zBa (zU kE (pv 2) (zDn O M.MOST_SIZE) (zQ _)) (zAb (wL (yF (zO (uB O) O B.all zEc (zA (xP (own:=["part"]) (F:=[]) {O,tb_g%,tb_g%,tb_g%, .nil} O (xQ (pv 1)) (λ_ _ _ _=>yI (i:=0) (by show(wB ["part"] []).Nodup;decide+kernel) O (nU O)) (λ_ _ _ _=>yX) (λ_ _ _ _=>(zR Gis_sound_outside hr ∅ O (zA (pv 0) zC)))) zC))))))) (zG (zJ qB)) zL)
  (zF (uT (i:=4) nd O (nU O) (own:=["part"]) (F:=[]) {O,tb_g%,tb_g%,tb_g%, .nil} O (xQ (pv 1)) (λ_ _ _ _=>yI (i:=0) (by show(wB ["part"] []).Nodup;decide+kernel) O (nU O)) (λ_ _ _ _=>(zWk (yF (zR Gholds_parts hr ∅ O (zA (pv 0) zC))))) (λ_ _ _ _=>(pv 0)))
  (zF (zW (wL (zIl (pv 4) (λ_=>O))) (zG (zJ qB)) zL)
  (zF (pS 1 nd (zR Gparts_of_all hr ∅ O (zA (pv 4) zC)))
  (zG (zTa (i:=3) nd O (nU O) zE zUy))))))))
  (zG (zJ qB)))))), ?_}
 walk_at "st";lk;intro p hp;let g0:=zD hp (.lst [v]);rw[<-zVz] at q;refine{λm σ H2=>∃(i z:Nat)(a:V1)(xs:List V)(us:List T)(o:Option V),m=9 - i/\i<=9/\σ= [Y v,Y (V.ref a),Y (V.int z),Y (V.int i),o]/\Same H H2/\H2 a=Y (.lst xs)/\Reps H2 xs us/\(∀t∈us,T.gk t/\T.few t)/\T.szs us<=5000/\z<=200/\thL (9 - i) z us=thL 9 0 [u], ?_};refine{{9,0,0,p,[v],[u],none,O,by decide,O,g0,zB,{v,[],O,Rep.same g0 _ _ hv,O},λt ht=>by rw[mG.mp ht];exact⟨hgk,hfw⟩, ?_,by decide,O}, ?_}
 ·show T.sz u+0<=5000
  lia
 rintro m σ H2 ⟨i,z,a,xs,us,o,rfl,hi,rfl,g,ha,hs,hgd,hsz,hz2,hb⟩;let hxl:=hs...*;let hul:=c8 us;lk
 by_cases h9:i=9
 ·subst h9
  rw[mK ∅];let e:thL (9 - 9) z us=false:=rfl;rw[e] at hb;rw[<-hb] at q;exact q _ g
 obtain⟨n,hn⟩:∃n,9 - i=n+1:={8 - i,∅};let hb2:(decide (z+us...*<=200)&& (us.all zAh && ((us.filter wM).isEmpty || thL n (z+us...*) (vI (us.filter wM)))))=thL 9 0 [u]:=by rw[hn] at hb;exact hb
 rw[mQ ∅];refine{λσ' H'=>∃(a':V1)(xs':List V)(us':List T)(o':Option V),σ'= [Y v,Y (V.ref a'),Y (V.int ((z+us...*:Nat):Int)),Y (V.int ((i+1:Nat):Int)),o']/\Same H H'/\H' a'=Y (.lst xs')/\Reps H' xs' us'/\(∀t∈us',T.gk t/\T.few t)/\T.szs us'<=5000/\z+us...*<=200/\thL n (z+us...*) us'=thL 9 0 [u], ?_, ?_}
 ·intro σ' H' z_
  ext yV z_ a' xs' us' o' r4_ z_;ext yO z_ g' ha' hs' h1 h2 z_;ext oA z_ h3 h4;subst r4_;exact{9 - (i+1),∅,i+1,O,∅,z+us...*,a',⟨o',O⟩,g',xs',ha',us',hs',h1,h2,h3,by rw[show 9 - (i+1)=n by lia];exact h4}
 ·lk
  simp only[tAug,ipI];lk;refine nEA xs (SqL.of ha) ?_
  by_cases h201:200<z+us...*
  ·rw[mQ (by rw[hxl];lia)]
   rw[nG ∅,sQ] at hb2;rw[<-hb2] at q;exact q _ g
  let h200:z+us...*<=200:=by lia
  rw[nP h200,tW] at hb2;rw[mK (by rw[hxl];lia)];refine{{xs,SqL.of ha},wO (K:=K) (xs:=xs) (λj ys H'=>Same H2 H'/\ys=((us.take j).map zAh).map V.bl) (by rw[mS];lia) {Same.refl _,O} (λj ys H' _ h=>SqL.of (h.1 _ _ ha)) ?_ ?_}
  ·rintro j x ys H' hx _ ⟨g3,rfl⟩
   refine oEA (hs.get hx) λu' hu hr'=>?_;let hm:=mP hu;lk;refine{x,u',O,Rep.same g3 _ _ hr',(hgd _ hm).1,(hgd _ hm).2,by let:=c6 hm;lia,λH4 g4=>{g3.trans g4, ?_}};rw[yN hu,nJ,nJ]
   rfl
  ·rintro ys H' _ ⟨g3,rfl⟩ p1 hp1
   rw[show us.take xs...*=us by rw[hxl,pE]];let g4:=g3.trans (zD hp1 (.lst ((us.map zAh).map V.bl)));refine qF p1 O _ (SqL.of zB) ?_;generalize upd H' p1 (.lst ((us.map zAh).map V.bl))=H3 at g4⊢;let eall:(us.map zAh).all id=us.all zAh:=by rw[cZ];rfl
   rw[eall]
   cases hall:us.all zAh with
   | false=>
    rw[hall,sQ] at hb2;rw[<-hb2] at q;rw[mQ O];exact q _ (g.trans g4)
   | true=>
   rw[hall,tW] at hb2;rw[mK ∎];let ha3:=g4 _ _ ha;let hs3:=Reps.same g4 _ _ hs;refine{{xs,SqL.of ha3},wO (K:=K) (xs:=xs) (λj ys H'=>Same H3 H'/\Reps H3 ys ((us.take j).filter wM)) (by rw[mS];lia) {Same.refl _,O} (λj ys H' _ h=>SqL.of (h.1 _ _ ha3)) ?_ ?_}
   ·rintro j x ys H' hx _ ⟨g5,hys⟩
    refine oEA (hs3.get hx) λu' hu hr'=>?_;lk;refine{x,u',O,Rep.same g5 _ _ hr',λH4 g6=>{wM u',O, ?_}};rw[yN hu,List.filter_append]
    cases hh:wM u' with
    | true=>
     rw[mQ O,rR hh];exact{g5.trans g6,Reps.snoc hr' hys}
    | false=>
     rw[mK ∎,rT (by rw[hh];decide),List.filter_nil,pQ];exact{g5.trans g6,hys}
   ·rintro ys H' _ ⟨g5,hys⟩ p2 hp2
    rw[hxl,pE] at hys;let g6:=g5.trans (zD hp2 (.lst ys));let hyl:=hys...*;refine nEA (!ys.isEmpty) (.inl {ys,SqL.of zB,O}) ?_;let hp2':upd H' p2 (.lst ys) p2=Y (.lst ys):=zB;generalize upd H' p2 (.lst ys)=H4 at g6 hp2'⊢
    cases ys with
    | nil=>
     let e0:us.filter wM= []:=List.length_eq_zero_iff.mp hyl.symm;rw[e0] at hb2;let hb3:true=thL 9 0 [u]:=hb2;rw[<-hb3] at q;exact iP O (q _ (g.trans (g4.trans g6)))
    | cons y0 ys=>
     refine iN (by simp) ?_;let hne:(us.filter wM).isEmpty=false:=by
      cases hf:us.filter wM with
      | nil=>rw[hf] at hyl;cases hyl
      | cons h0 _=>rfl
     rw[hne,Bool.false_or] at hb2;let hnx:=zOf us;let hfz:=zKk us;refine{p2,y0::ys,us.filter wM,O,hp2',Reps.same g6 _ _ hys,λu' hu'=>(aX.mp hu').2,∅,λl zs H5 g7 hl hz'=>?_};let hk:∀t∈vI (us.filter wM),T.gk t/\T.few t:=λt ht=>by
      refine oEA (List.mem_flatten.mp ht) λl' hl' hm=>?_;refine oEA (nW.mp hl') λx hx r2_=>?_;subst r2_;let hxu:=(aX.mp hx).1;exact{yBr (hgd x hxu).1 hm,zMl (hgd x hxu).2 hm}
     refine{_,O,_,_,O,O,l,{Y (V.ref p2), ?_},g.trans (g4.trans (g6.trans g7)),zs,hl,vI (us.filter wM),hz',hk,∅,h200,hb2};simp only[cR,cS,hxl,Int.natCast_add,Int.cast_ofNat_Int]
end
end K42
namespace K42
open PySem L2 PySem.W
seal L2.PSs L2.PS L2.PE L2.PT L2.PW L2.PA L2.PI L2.PG L2.PGs L2.PPs L2.PTs
abbrev yBz:V6:=top 28
abbrev sSo:V6:=top 39
abbrev zTr:V6:=top 38
theorem zPp{K:PySem.W.Frag}{l:V1}{xs:List V}{g:TG}{tb:TS}{D:jL}{σ:St}{H:Hp}(Pv:Nat->St->Hp->Prop)(h0:Pv 0 σ H)(hl:∀i σ H,Pv i σ H->SqL K H l xs)
  (hs:∀i x σ H p,xs[i]? =Y x->Pv i σ H->H p=none->g (.ref p) σ (upd H p (.tup [.int i,x])) λσ2 H2=>tb {D with nx:=Pv (i+1),ct:=Pv (i+1),bk:=D.nx} σ2 H2)
  (hd:∀σ H,Pv xs...* σ H->D.nx σ H):zVc g tb D σ (Ite K l) H:=by
 refine{λi k σ H=>k=xs...* - i/\i<=xs...*/\Pv i σ H,{_,O,nS _,h0}, ?_};rintro i k σ H ⟨rfl,h1,p⟩;let q1:=hl i σ H p
 by_cases e1:i<xs...*
 ·refine .inr {{xs,xs[i],q1,by simp[e1]},Pv (i+1),λσ' H' q=>{_,∅,O,e1,q}, ?_}
  intro v H' z_;ext yE z_ a x ha r3_ hx r5_;subst r3_ r5_;exact hs i x σ H a (hx xs q1) p ha
 ·let e:i=xs...*:=by lia
  subst e;exact .inl {{xs,q1,mE _},hd σ H p}
noncomputable def wY:Nat->List Dd->T->Sum Nat T
 | _,[],t=>.inr t
 | i,d::ds,t=>match doT d.1 d.2.2 d.2.1 t with
  | none=>.inl i
  | some r=>wY (i+1) ds r
theorem zCq{i:Nat}{d:Dd}{ds:List Dd}{t:T}(h:doT d.1 d.2.2 d.2.1 t=none):wY i (d::ds) t= .inl i:=by
 show(match doT d.1 d.2.2 d.2.1 t with | none=>Sum.inl i | some r=>wY (i+1) ds r)=_
 rw[h]
theorem zCu{i:Nat}{d:Dd}{ds:List Dd}{t r:T}(h:doT d.1 d.2.2 d.2.1 t=Y r):wY i (d::ds) t=wY (i+1) ds r:=by
 show(match doT d.1 d.2.2 d.2.1 t with | none=>Sum.inl i | some r=>wY (i+1) ds r)=_
 rw[h]
structure Od(d:Dd):Prop where
 s:∀k∈d.2.1,okS k
 l:d.2.1...*<=8
 f:T.fewm 31 d.2.2
 g:T.gk d.2.2
 dd:d.2.1...*+T.dep d.2.2<=15
 z:T.sz d.2.2<=200
structure RJ(m:Nat)(ds:List Dd)(s:T):Prop where
 f:T.fewm m s
 m0:31<=m
 m1:m+ds...*<61
 g:T.gk s
 d:T.dep s<=15
 z:T.sz s+200*ds...*<=5000
 o:∀d∈ds,Od d
theorem RJ.few{m:Nat}{ds:List Dd}{s:T}(h:RJ m ds s):T.few s:=c5 (by let:=h.m1;lia) _ h.f
theorem RJ.step{m:Nat}{d:Dd}{ds:List Dd}{s r:T}(h:RJ m (d::ds) s)(hd:doT d.1 d.2.2 d.2.1 s=Y r):RJ (m+1) ds r:=by
 let o:=h.o d mF;let h0:=h.m0;let h1:=h.m1;let hz:=h.z;let hdp:=h.d;let oz:=o.z;let od:=o.dd;rw[mW] at h1 hz;obtain⟨a,b,c,e⟩:=zGz ∅ (b7 h.m0 _ o.f) o.g _ _ _ hd h.f h.g o.s ∅;exact{a,∅,∅,b,∅,∅,λd' hd'=>h.o d' (mH _ hd')}
def Dlays(H:Hp)(xs:List V)(ds:List Dd):Prop:=xs...*=ds...*/\∀(i:Nat) v d,xs[i]? =Y v->ds[i]? =Y d->Dlay H v d
theorem Dlays.same{H H':Hp}{xs:List V}{ds:List Dd}(g:Same H H')(h:Dlays H xs ds):Dlays H' xs ds:={h.1,λi v d hv hd=>(h.2 i v d hv hd).same g}
theorem zAl{H H':Hp}{d:V1}{o:Obj}{xs:List V}(hd:H d=Y (.lst xs))(g:Same (upd H d (.frz o (.lst xs))) H'):Same H (L2.thaw H H'):=zFn λb u e=>by
 by_cases hb:b=d
 ·subst hb
  rw[hd] at e;cases e;exact .inr {{o,g _ _ zB},λ_ _ z=>by cases z}
 ·exact .inl (g _ _ (by rw[zM hb];exact e))
section
variable{P:V3}{w:V4}{K:PySem.W.Frag}{mg:Str->Option V0}{base:V5}{f:V1}{fd:V7}{C2 C3:V1}
def zRx(C3:V1):Sp:=λvs H Q E=>∃(v:V)(t:T),vs= [v]/\Rep H v t/\T.gk t/\T.few t/\T.sz t<=5000/\(vT t=true->∀H',Same H H'->Q v H')/\(vT t=false->∀H',Same H H'->E (.ref C3) none H')
theorem scSou:zS ["thing"] ["thing"] (zK yBz):=by walk_at "sc"
theorem yCd(F:Fun K "sound" "sound" yBz f fd)(Gis_thing:Dn P w K mg base 3 "is_thing" ["thing"] zZk)(RTooGreat:Xr0 K mg "TooGreat" C3):FnOk P w K mg base (CXE aC P w) 4 f fd ["thing"] (zRx C3):=by
 refine F.okx scSou (λvs H Q E h=>?_) (λc A o s H vs Q E hr h=>?_)
 ·ext xV h v t r2_ _
  subst r2_
  rfl
 obtain⟨v,t,rfl,hv,hg,hf,hz,q,qx⟩:=h;let nd:=scSou.nd;refine{_,(zF (zW (wL (yF (zR Gis_thing hr ∅ O (zA (pv 0) zC)))) (zG (zQk RTooGreat O O lvs (zA zN zC))) zL)
  (zG (zJ (pv 0)))), ?_}
 walk_at "st";unfold zIu;lk;refine{v,t,O,hv,hg,hf,hz,λH1 g1=>?_}
 cases ht:vT t with
 | false=>exact{false,O,iP O (qx ht _ g1)}
 | true=>exact{true,O,iN ∎ (q ht _ g1)}
def yAs(C2 C3:V1):Sp:=λvs H Q E=>∃(v:V)(pa:V1)(xs:List V)(t:T)(ds:List Dd)(m:Nat),vs= [v, .ref pa]/\Rep H v t/\H pa=Y (.lst xs)/\Dlays H xs ds/\RJ m ds t/\
 (∀r,wY 0 ds t= .inr r->vT r=true->∀l ys y H',Same H H'->H' l=Y (.lst (ys++ [y]))->Rep H' y r->T.few r->T.dep r<=15->T.sz r<=5000->Q (.ref l) H')/\
 (∀r,wY 0 ds t= .inr r->vT r=false->∀H',Same H H'->E (.ref C3) none H')/\(∀i:Nat,wY 0 ds t= .inl i->XNo C2 (i:Int) H E)
theorem scSo:zS ["thing","paper","stands","number","deed"] ["thing","paper"] (zK sSo):=by walk_at "sc"
theorem ok_so(F:Fun K "stands_of" "stands_of" sSo f fd)(B:Bl4 mg)(Gafter_deedx:Dx aC P w K mg base 6 "after_deed" ["thing","deed","number"] (yCm C2))(Gsoundx:Dx aC P w K mg base 6 "sound" ["thing"] (zRx C3)):FnOk P w K mg base (CXE aC P w) 7 f fd ["thing","paper"] (yAs C2 C3):=by
 refine F.okx scSo (by walk_at "ln") λc A o s H vs Q E hr h=>?_;obtain⟨v,pa,xs,t,ds,m,rfl,hv,hpa,hD,hI,q,qx,qn⟩:=h;let nd:=scSo.nd;let hu:=vA hr;refine{_,(zF (pS 2 nd (zT (zA (pv 0) zC)))
  (zF (vO PassesOwn.leaving O (zWt O B.enumerate (zA (pv 1) zC)) (zQv (n:=2) O (zBh (yI (i:=3) nd O (nU O)) (zBh (yI (i:=4) nd O (nU O)) zNd))) (zG (wF (qT pA pV rA qC (pv 2) (zA (zCr (zJj Gafter_deedx hr ∅ O lvs (zA (yB zP (pv 2) (wS xR zE) (λ_ _=>O)) (zA (pv 4) (zA (pv 3) zC))))) zC)))))
  (zF (wF (zJj Gsoundx hr ∅ O lvs (zA (yB zP (pv 2) (wS xR zE) (λ_ _=>O)) zC)))
  (zG (zJ (pv 2)))))), ?_}
 walk_at "st";unfold zZi;lk;intro ps hps;let s1:=zD hps (.lst [v]);let e1:=zB (H:=H) (a:=ps) (o:=.lst [v]);let hv1:Rep (xN (upd H ps (.lst [v])) ps) v t:=Rep.same (λb o e=>by
  let hb:b≠ps:=λz=>by subst z;rw[hps] at e;cases e
  rw[xK hb,zM hb];exact e) _ _ hv
 generalize upd H ps (.lst [v])=H1 at s1 e1 hv1⊢;let hxl:=hD.1;let hdl:ds...*<61:=by let:=hI.m1;lia
 refine{{_,SqL.of (s1 _ _ hpa)}, ?_};refine zPp (K:=K) (l:=pa) (xs:=xs) (λi σ H'=>∃(o1 o2:Option V)(ys:List V)(y:V)(s:T)(m':Nat),σ= [Y v,Y (.ref pa),Y (.ref ps),o1,o2]/\Same H H'/\H' ps=Y (.lst (ys++ [y]))/\ys...*=i/\Rep (xN H' ps) y s/\RJ m' (ds.drop i) s/\wY i (ds.drop i) s=wY 0 ds t) {_,_,[],v,t,m,O,s1,e1,O,hv1,hI,O} (λi σ H' h=>?_) ?_ ?_
 ·obtain⟨o1,o2,ys,y,s,m',rfl,g,_⟩:=h
  exact SqL.of (g _ _ hpa)
 ·rintro i x σ H2 p hx ⟨o1,o2,ys,y,s,m',rfl,g2,hps2,hyl,hy,hRI,hrn⟩ hp
  lk;let s3:=zD hp (.tup [V.int (i:Int),x]);let e3:=zB (H:=H2) (a:=p) (o:=.tup [V.int (i:Int),x]);let g3:=g2.trans s3;let hps3:=s3 _ _ hps2;let hy3:=Rep.same (xS (d:=ps) s3) _ _ hy;generalize upd H2 p (.tup [V.int (i:Int),x])=H3 at s3 e3 g3 hps3 hy3⊢;let hil:=(mO.mp hx).1;let hdi:ds[i]? =some ds[i]:=mT ∅;let hdr:ds.drop i=ds[i]::ds.drop (i+1):=pB ∅;rw[hdr] at hRI hrn;let hz:=hRI.z;let hm1:=hRI.m1;let od:=hRI.o _ mF;refine yBi _ (SqT.of e3) O _ _ (yCy O _ _ O O (nA (nU {O,_,SqL.of hps3}) ?_));unfold zHs zNo;refine{ps, .inr {_,hps3,λo=>?_}};let gf:Same H (upd H3 ps (.frz o (.lst (ys++ [y])))):=wQ g3 hps;lk;refine zZ (.inl (.inr ⟨o,zB⟩)) (wD _ _) {y,x,_,s,ds[i],m',O,Rep.same zAq _ _ hy3,hRI.f,∅,∅,(hD.2 i x _ hx hdi).same gf,od.s,od.l,λr' hdo v' Hc gc hv'=>?_,λhno=>?_}
  ·let gt:=zAl hps3 gc
   let hv6:Rep (xN (L2.thaw H3 Hc) ps) v' r':=Rep.off (gc _ _ zB) hv';rw[zCu hdo] at hrn;dsimp only;generalize L2.thaw H3 Hc=H6 at gt hv6⊢;refine{ps,ys++ [y],v',O,O,gt _ _ hps3,by rw[mS,mM,nL];lia, ?_};exact{⟨_,O⟩,wQ (g3.trans gt) hps,ys++ [y],v',zB,by rw[mM,nL];lia,r',by rw[jJ];exact hv6,{m'+1,hRI.step hdo},hrn}
  ·rw[zCq hno] at hrn
   exact λd H' g hd=>qn i hrn.symm d H' (gf.trans g) hd
 ·rintro σ H2 ⟨o1,o2,ys,y,s,m',rfl,g2,hps2,hyl,hy,hRI,hrn⟩
  lk;rw[hxl,aQ] at hrn hRI;let hz:=hRI.z;let hRd:=hRI.d;let hm1:=hRI.m1;refine zZ (SqL.of hps2) (wD _ _) {y,s,O,Rep.same wI _ _ hy,hRI.g,hRI.few,∅,λhgd H3 g3=>?_,λhgd H3 g3=>qx s hrn.symm hgd H3 (g2.trans g3)};exact q s hrn.symm hgd ps ys y H3 (g2.trans g3) (g3 _ _ hps2) (Rep.same g3 _ _ (Rep.same wI _ _ hy)) hRI.few ∅ ∅
def gR(C2 C3:V1):Sp:=λvs H Q E=>∃(v:V)(pa:V1)(xs:List V)(t:T)(ds:List Dd)(m:Nat),vs= [v, .ref pa]/\Rep H v t/\H pa=Y (.lst xs)/\Dlays H xs ds/\RJ m ds t/\
 (∀r,wY 0 ds t= .inr r->vT r=true->∀y H' D,Same H H'->Sp1 H' y r D->(∀b∈D,H b=none)->Q y H')/\
 (∀r,wY 0 ds t= .inr r->vT r=false->∀H',Same H H'->E (.ref C3) none H')/\(∀i:Nat,wY 0 ds t= .inl i->XNo C2 (i:Int) H E)
theorem scDone:zS ["thing","paper"] ["thing","paper"] (zK zTr):=by walk_at "sc"
theorem zMr(F:Fun K "done" "done" zTr f fd)(Gstands_ofx:Dx aC P w K mg base 25 "stands_of" ["thing","paper"] (yAs C2 C3))(Gcopied:Dn P w K mg base 25 "copied" ["thing"] (zUj 20)):FnOk P w K mg base (CXE aC P w) 26 f fd ["thing","paper"] (gR C2 C3):=by
 refine F.okx scDone (by walk_at "ln") λc A o s H vs Q E hr h=>?_;obtain⟨v,pa,xs,t,ds,m,rfl,hv,hpa,hD,hI,q,qx,qn⟩:=h;let nd:=scDone.nd;refine{_,(zG (zJ (zR Gcopied hr ∅ O (zA (yB zP (zJj Gstands_ofx hr ∅ O lvs (zA (pv 0) (zA (pv 1) zC))) (wS xR zE) (λ_ _=>O)) zC)))), ?_};walk_at "st";lk;refine{v,pa,xs,t,ds,m,O,hv,hpa,hD,hI,λr hr' hg l ys y H1 g1 hl hy hfw hd hz=>zZ (SqL.of hl) (wD _ _) {y,r,O,hy,zAz _ r (mE _) hfw,∅,∅,λv' H2 D g2 sp hD2=>q r hr' hg v' H2 D (g1.trans g2) sp λb hb=>yG g1 (hD2 b hb)},qx,qn}
end
end K42
namespace K42
open PySem L2
section
variable{P:V3}{w:V4}{K:A6}{mg:Str->Option V0}{base:V5}{f:V1}{fd:V7}
theorem zFt(F:Fun K "_law_thing_by" "_law_thing_by" zEe f fd)(B:Bl mg)(Gc:Dn P w K mg base 1 "_law_cell" ["_law_script","_law_k"] (qE K))(Gn:Dn P w K mg base 1 "_law_number_by" ["_law_more"] zOd)
  (Gt:Dn P w K mg base 2 "_law_text_by" ["_law_more"] zHi) (Gm:Dn P w K mg base 1 "_law_name_by" ["_law_more"] zEs) (b:Binds K fd ["_law_script","_law_k","_law_deep"] []) (kp:A7 K (.ref f)=true) (m:mg "_law_thing_by" =Y (.ref f)):
  ∀d:Nat,FnOk P w K mg base CX0 (3+d) f fd ["_law_script","_law_k","_law_deep"] (uO K d)
 | 0=>zQe F B Gc Gn Gt
 | d+1=>zOs F B Gc Gn Gt Gm {_,_,zFt F B Gc Gn Gt Gm b kp m d,b,kp,m}
def zAj(K:A6)(n:Nat):Sp:=λvs H Q E=>∃d,d<=n/\uO K d vs H Q E
theorem zPm{n:Nat}(h:∀d:Nat,FnOk P w K mg base CX0 (3+d) f fd ["_law_script","_law_k","_law_deep"] (uO K d)):FnOk P w K mg base CX0 (3+n) f fd ["_law_script","_law_k","_law_deep"] (zAj K n):=
 {λvs H Q E ⟨d,_,q⟩=>(h d).len vs H Q E q,λA outer s H args us vs Q E hr he hb hv ⟨d,hd,hs⟩=>(h d).run A outer s H args us vs Q E (hr.mono ∅) he hb hv hs}
end
noncomputable def kT:Key->T
 | .inl i=>.int i
 | .inr s=>.str (ts s)
theorem zRk{H:Hp}:∀ks:List Key,Sps H (ks.map kV) (ks.map kT) []
 | []=>⟨O,O⟩
 | k::ks=>{kV k,ks.map kV,[],[],O,O,by
   cases k with
   | inl i=>exact⟨O,O⟩
   | inr s=>exact{O,by show V.str s=V.str (tx (ts s));rw[vH]},zRk ks,λ_ h=>nomatch h}
theorem zOb{H:Hp}{pc:V1}{ks:List Key}(h:H pc=Y (.lst (ks.map kV))):Sp1 H (.ref pc) (.lst (ks.map kT)) [pc]:={pc,ks.map kV,[],O,h,O,by simp,zRk ks}
noncomputable def ddT:Dd->T
 |(.tak,ks,_)=>.tup [.str (ts Wd.tak.s), .lst (ks.map kT)]
 |(w,ks,n)=>.tup [.str (ts w.s), .lst (ks.map kT),n]
theorem zRc{H:Hp}(z:Str):Sp1 H (.str z) (.str (ts z)) []:={O,by rw[vH]}
theorem yBj{H:Hp}{tp pc:V1}{ks:List Key}{n:T}(h:H tp=Y (.tup [.str Wd.tak.s, .ref pc]))(hp:H pc=Y (.lst (ks.map kV))):Sp1 H (.ref tp) (ddT (.tak,ks,n)) [tp,pc]:=by
 let hne:tp≠pc:=λz=>by subst z;rw[h] at hp;cases hp
 refine{tp,_,[pc],O,h,O,λz=>hne (mG.mp z),{_,_,[],[pc],O,O,zRc _,{_,_,[pc],[],O,O,zOb hp,⟨O,O⟩,λ_ _ z=>nomatch z},λ_ z=>nomatch z}}
theorem yAm{H:Hp}{tp pc:V1}{ks:List Key}{w:Wd}{n:T}{x:V}{D:List V1}(hw:w≠ .tak)(h:H tp=Y (.tup [.str w.s, .ref pc,x]))(hp:H pc=Y (.lst (ks.map kV)))(hx:Sp1 H x n D)(h1:tp∉D)(h2:pc∉D):Sp1 H (.ref tp) (ddT (w,ks,n)) (tp::pc::D):=by
 let hne:tp≠pc:=λz=>by subst z;rw[h] at hp;cases hp
 let e:ddT (w,ks,n)= .tup [.str (ts w.s), .lst (ks.map kT),n]:=by
  cases w with
  | tak=>exact absurd O hw
  | _=>rfl
 rw[e];refine{tp,_,pc::D,O,h,O,λz=>(mD.mp z).elim hne h1,{_,_,[],pc::D,O,O,zRc _,{_,_,[pc],D,O,O,zOb hp,{_,_,D,[],O,by simp,hx,⟨O,O⟩,λ_ _ z=>nomatch z},λb hb=>by rw[mG.mp hb];exact h2},λ_ z=>nomatch z}}
theorem Sps.one{H:Hp}{v:V}{t:T}{D:List V1}(h:Sp1 H v t D):Sps H [v] [t] D:={v,[],D,[],O,by simp,h,⟨O,O⟩,λ_ _ z=>nomatch z}
seal L2.PSs L2.PS L2.PE L2.PT L2.PW L2.PA L2.PI L2.PG L2.PGs L2.PPs L2.PTs
abbrev sSa:V6:=top 62
section
variable{P:V3}{w:V4}{K:A6}{mg:Str->Option V0}{base:V5}{f:V1}{fd:V7}
def zZv:Sp:=λvs H Q _=>∃(v:V)(t:T)(m:Int),vs= [v, .int m]/\Rep H v t/\T.few t/\T.gk t/\0<=m/\m<2000000/\∀k H',Same H H'->okS k->Q (kV k) H'
theorem scSa:zS ["_law_there","_law_more"] ["_law_there","_law_more"] (zK sSa):=by walk_at "sc"
theorem ok_sa(F:Fun K "_law_step_at" "_law_step_at" sSa f fd)(B:Bl2 mg)(G_law_name_by:Dn P w K mg base 1 "_law_name_by" ["_law_more"] zEs):FnOk P w K mg base CX0 2 f fd ["_law_there","_law_more"] zZv:=by
 refine F.ok scSa (λvs H Q E h=>?_) (λc A o s H vs Q E hr h=>?_)
 ·ext qI h v t m r3_ _
  subst r3_
  rfl
 ext yD h v t m r3_ hv z_;ext jM z_ hf hgk h0 h1 q;subst r3_;let nd:=scSa.nd;let hu:=vA hr;refine{_,(zF (zW (yF (pI B.isinstance zI B.list yU (pv 0))) (zG (zJ (zO (zBi O) O B.min zLt (zA zE (zA (zH yC (pv 1) (zH yT (zO yL O B.len yW (zA (pv 0) zC)) zE)) zC))))) zL)
  (zF (zW (j5 (vR (yF (pI B.isinstance zI B.dict xA (pv 0))) (vR (zU kE (zO zBn O B.len yW (zA (pv 0) zC)) zE (zQ _)) (qR (zU kE (zH yC (pv 1) zE) zE (zQ _)))))) (zG (zJ (yB zP (zO (vS O) O B.sorted kC (zA (pv 0) zC)) (zH yC (zH yH (pv 1) zE) (zO zBn O B.len yW (zA (pv 0) zC))) (λ_ _=>O)))) zL)
  (zG (zJ (zR G_law_name_by hr ∅ O (zA (zH yH (pv 1) zE) zC)))))), ?_}
 walk_at "st";lk;let nm:zEs [V.int (m / 3)] H Q E0:={_,O,∅,∅,λx hx H' g=>q (.inr (tx x)) H' g (by show yQ (ts (tx x))=true;rw[vB];exact hx)}
 cases t with
 | lst us=>
  ext yM hv a xs r2_ ha hx;subst r2_;refine nEA ("list") (vW ha) ?_;rw[mQ ∎];refine zEx a O xs (SqL.of ha) ∅ (nEEA _ _ ⟨O,O⟩ (q (.inl _) H (Same.refl _) ?_));let e1:=rX m (show(xs...*:Int)+1≠0 by lia);show 0<=_/\_<=(59:Int);split<;>lia
 | dic ks us=>
  ext yE hv a ps r2_ ha hk hx;subst r2_;refine nEA ("dict") (qX ha) ?_;rw[mK ∎];refine nEA ("dict") (qX ha) ?_;rw[mQ ∎];refine qF a O ps ha ?_;split
  ·rename_i hp
   split
   ·refine jY a O ps (.inl ha) (ks.map tx) (nAA (by rw[hk,sB];rfl) (by rw[mL];exact hf.2.1) (λl ss hl hp1 hs1=>?_))
    let hkl:=congrArg List.length hk;rw[mL,mL] at hkl;let hsl:=hp1.length_eq;rw[mL] at hsl;refine zEx a O ps (zD hl _ _ _ ha) hp (zBf zB (rX _ ∅) (by rw[mL,hsl,<-hkl];exact rP _ hp) λx hx'=>?_);refine oEA (nW.mp hx') λz hz r2_=>?_;subst r2_;let hz':=hp1.mem_iff.mp hz;refine oEA (nW.mp hz') λk hkm r2_=>?_;subst r2_;exact q (.inr (tx k)) _ (zD hl _) (by show yQ (ts (tx k))=true;rw[vB];exact hgk.1 k hkm)
   ·exact nm
  ·exact nm
 | non=>exact{_,hv.ty,by rw[mK (by simp[tyT,yA])];exact{_,hv.ty,by rw[mK (by simp[tyT,yA])];exact nm}}
 | bl b=>exact{_,hv.ty,by rw[mK (by simp[tyT,yA])];exact{_,hv.ty,by rw[mK (by simp[tyT,yA])];exact nm}}
 | int b=>exact{_,hv.ty,by rw[mK (by simp[tyT,yA])];exact{_,hv.ty,by rw[mK (by simp[tyT,yA])];exact nm}}
 | str b=>exact{_,hv.ty,by rw[mK (by simp[tyT,yA])];exact{_,hv.ty,by rw[mK (by simp[tyT,yA])];exact nm}}
 | tup us=>exact hf.elim
abbrev sWk:V6:=top 61
def spWk(K:A6):Sp:=λvs H Q _=>∃(a:V1)(ns:List Int)(k:Int)(v:V)(t:T),vs= [.ref a, .int k,v]/\SqL K H a (ns.map V.int)/\ns...*<=63/\0<=k/\k<100000/\Rep H v t/\T.few t/\T.gk t/\∀(l p:V1)(ks:List Key)(x:V)(s:T)(H':Hp),Same H H'->H' l=Y (.lst [.ref p,x])->H' p=Y (.lst (ks.map kV))->ks...*<=7->(∀k∈ks,okS k)->Rep H x s->T.few s->T.gk s->Q (.ref l) H'
theorem scWk:zS ["_law_script","_law_k","_law_thing","_law_path","_law_j","_law_more","_law_step"] ["_law_script","_law_k","_law_thing"] (zK sWk):=by walk_at "sc"
theorem ok_wk(F:Fun K "_law_walk" "_law_walk" sWk f fd)(B:Bl2 mg)(G_law_cell:Dn P w K mg base 1 "_law_cell" ["_law_script","_law_k"] (qE K)):FnOk P w K mg base CX0 2 f fd ["_law_script","_law_k","_law_thing"] (spWk K):=by
 refine F.ok scWk (λvs H Q E h=>?_) (λc A o s H vs Q E hr h=>?_)
 ·ext xO h a ns k v t z_
  ext oA z_ r5_ _;subst r5_
  rfl
 ext xO h a ns k v t z_;ext yO z_ r5_ ha hns hk0 hk1 z_;ext wC z_ hv hf hgt q;subst r5_;let nd:=scWk.nd;let hu:=vA hr;refine{_,(zF (pS 3 nd (zT zC))
  (zF (vO PassesOwn.never O (xT O B.range (zA zE zC)) (yI (i:=4) nd O (nU O)) (zF (pS 5 nd (zR G_law_cell hr ∅ O (zA (pv 0) (zA (zH yT (pv 1) (pv 4)) zC))))
  (zF (zW (j5 (zBa (zU xC (zH yC (pv 5) zE) zE (zQ _)) (zBa (wL (yF (zO (qA (T:="list") (U:="dict") ∎ ∎) O B.isinstance zI (zA (pv 2) (zA (yZ (zA (xL (v:=.ty "list") O B.list yU O) (zA (xL (v:=.ty "dict") O B.dict xA O) zC))) zC))))) (zAb (zU xC (zO gP O B.len yW (zA (pv 2) zC)) zE (zQ _)))))) (zG (zJ (zT (zA (pv 3) (zA (pv 2) zC))))) zL)
  (zF (pS 6 nd (zO (zBi O) O B.min zLt (zA zE (zA (zH yC (zH yH (pv 5) zE) (zO gP O B.len yW (zA (pv 2) zC))) zC))))
  (zF (zW (yF (pI B.isinstance zI B.dict xA (pv 2))) (zG (pS 6 nd (yB zP (zO (vS O) O B.sorted kC (zA (pv 2) zC)) (pv 6) (λ_ _=>O)))) zL)
  (zF (wF (qT pA pV rA qC (pv 3) (zA (pv 6) zC)))
  (zG (pS 2 nd (zGf (yB zP (pv 2) (pv 6) (λ_ _=>O)) (jU hu (pv 2) (pv 6) (λ_ _=>O)))))))))))
  (zG (zJ (zT (zA (pv 3) (zA (pv 2) zC))))))), ?_}
 walk_at "st";lk;intro p hp;let s1:=zD hp (.lst []);refine qU (λi σ H'=>∃(y:V)(s:T)(ks:List Key)(o1 o2 o3:Option V),σ= [Y (V.ref a),Y (V.int k),Y y,Y (V.ref p),o1,o2,o3]/\Same H H'/\Rep H y s/\T.few s/\T.gk s/\H' p=Y (.lst (ks.map kV))/\ks...*=i/\(∀k∈ks,okS k)) {_,t,[],_,_,_,O,s1,hv,hf,hgt,zB,O,λ_ h=>nomatch h} ?_ ?_
 ·intro i σ H2 hi z_
  ext xO z_ y s ks o1 o2 z_;ext zAd z_ o3 r6_ g2 hy hfs z_;ext wC z_ hgs hp2 hl hok;subst r6_;lk;obtain⟨c,hc,hc0,hc1⟩:∃c:Int,vG ns (k+(0+(i:Int)))=c/\0<=c/\c<1000003:={_,O,wW _ _,qH _ _};refine{a,ns,_,O,g2.seq ha,hns,∅,∅,λH3 g3=>{c,by rw[hc], ?_}};rw[hc];let g4:=g2.trans g3;let ret:∀{H':Hp},Same H3 H'->∀l,H' l=none->Q (V.ref l) (upd H' l (.lst [V.ref p,y])):=λ{H'} g l hl2=>by
   let s3:=zD hl2 (.lst [V.ref p,y]);exact q l p ks y s _ (g4.trans (g.trans s3)) zB (s3 _ _ (g _ _ (g3 _ _ hp2))) ∅ hok hy hfs hgs
  by_cases h5:c % 5=0
  ·exact iP h5 (ret (Same.refl _))
  refine iN h5 λp1 hp1=>?_;let s5:=zD hp1 (.tup [V.ty "list",V.ty "dict"]);refine qQ y _ p1 ⟨O,O⟩ zB (nA ((Rep.same (g4.trans s5) _ _ hy).ty) ?_);let hp5:=s5 _ _ (g3 _ _ hp2);let ret5:=ret s5;let g5:=g4.trans s5;generalize upd H3 p1 (.tup [V.ty "list",V.ty "dict"])=H5 at s5 ret5 hp5 g5⊢;let hnp:H p=none:=hp
  cases s with
  | lst us=>
   refine iN (by simp only[tyT];decide+kernel) ?_;let hyo:=hy;ext yM hy b xs r2_ hb hx;subst r2_;let hxl:=hx...*;refine qF b O xs...* (.inl {xs,SqL.of (g5 _ _ hb),O}) ?_
   by_cases h0:(xs...*:Int)=0
   ·exact iP h0 ret5
   refine iN h0 {c,O,b,O,xs...*, .inl {xs,SqL.of (g5 _ _ hb),O},∅,_,_,⟨O,O⟩,_,(Rep.same g5 _ _ hyo).ty,iN (by simp only[tyT];decide+kernel) ?_};let e1:=rX (c / 5) h0;let e2:=rP (c / 5) (show(0:Int)<xs...* by lia);obtain⟨j,hj,hj1,hj2⟩:∃j:Nat,(if c / 5 % (xs...*:Int)<59 then c / 5 % (xs...*:Int) else 59)=(j:Int)/\j<xs...*/\j<=59:={(if c / 5 % (xs...*:Int)<59 then c / 5 % (xs...*:Int) else 59).toNat,by split<;>lia,by split<;>lia,by split<;>lia};rw[hj];refine oEA (hx.get (i:=j) (v:=xs[j]) (by simp[hj1])) λt' ht' hr'=>?_;refine{.inl {O,_,SqL.of hp5},p,_,_,O,O,hp5,by rw[mL,mS];lia, .inl ?_};let g6:Same H (upd H5 p (.lst (ks.map kV++ [V.int (j:Int)]))):=wQ g5 hnp;lk;refine zZ (SqL.of (g6 _ _ hb)) (zV (j:=j) (v:=xs[j]) (by simp[hj1])) {xs[j],⟨O,_,O⟩,g6,t',hr',b9 hfs.2 (mP ht'),d5 hgs (mP ht'),ks++ [.inl (j:Int)], ?_,by rw[mM,nL,hl], ?_}
   ·rw[zB];exact congrArg (λz=>Y (HO.lst z)) (zWu ks (.inl (j:Int)))
   ·intro k' hk'
    rcases mU.mp hk' with z | z
    ·exact hok _ z
    ·rw[mG.mp z];exact{∅,∅}
  | dic hs us=>
   refine iN (by simp only[tyT];decide+kernel) ?_;let hyo:=hy;ext yE hy b ps r2_ hb hkk hx;subst r2_;let hpl:ps...*=hs...*:=by let:=congrArg List.length hkk;simpa using this
   refine qF b O ps...* (.inr {ps,g5 _ _ hb,O}) ?_
   by_cases h0:(ps...*:Int)=0
   ·exact iP h0 ret5
   refine iN h0 {c,O,b,O,ps...*, .inr {ps,g5 _ _ hb,O},∅,_,_,⟨O,O⟩,_,(Rep.same g5 _ _ hyo).ty,iP (by simp only[tyT];decide+kernel) ?_};let e1:=rX (c / 5) h0;let e2:=rP (c / 5) (show(0:Int)<ps...* by lia);obtain⟨j,hj,hj1⟩:∃j:Int,(if c / 5 % (ps...*:Int)<59 then c / 5 % (ps...*:Int) else 59)=j/\0<=j/\j<ps...*:={_,O,by split<;>lia,by split<;>lia};rw[hj];refine jY b O ps (.inl (g5 _ _ hb)) (hs.map tx) (nAA (by rw[hkk,sB];rfl) (by rw[mL];exact hfs.2.1) (λl ss hl1 hp1 hs1=>?_));let s6:=zD hl1 (.lst (ss.map V.str));let hsl:=hp1.length_eq;rw[mL] at hsl;refine zBf zB hj1.1 (by rw[mL,hsl];lia) λx hx'=>?_;refine oEA (nW.mp hx') λz hz r2_=>?_;subst r2_;refine oEA (nW.mp (hp1.mem_iff.mp hz)) λkk hkm r2_=>?_;subst r2_;let hp6:=s6 _ _ hp5;let g6:=g5.trans s6;generalize upd H5 l (.lst (ss.map V.str))=H6 at hp6 g6⊢;refine{.inl {O,_,SqL.of hp6},p,_,_,O,O,hp6,by rw[mL,mS];lia, .inr ?_};let g7:Same H (upd H6 p (.lst (ks.map kV++ [V.str (tx kk)]))):=wQ g6 hnp;refine oEA (zXu hfs.1 hkk hx hb hkm) λy' hy1 hy2=>?_;unfold zFo;lk;refine zEx y' (hy1 _ g7) y' ⟨O,_,O⟩ g7 (zZu _ hy2 (b9 hfs.2.2.2 (wP hkm hfs.2.2.1)) (d5 hgs.2 (wP hkm hfs.2.2.1)) (ks++ [nK kk]) (nAA ?_ (by rw[mM,nL,hl]) ?_))
   ·rw[zB];exact congrArg (λz=>Y (HO.lst z)) (zWu ks (nK kk))
   ·intro k' hk'
    rcases mU.mp hk' with z | z
    ·exact hok _ z
    ·rw[mG.mp z];show yQ (ts (tx kk))=true;rw[vB];exact hgs.1 kk hkm
  | tup us=>exact hfs.elim
  | _=>exact iP (by simp only[tyT];decide+kernel) ret5
 ·intro σ H2 z_
  ext xO z_ y s ks o1 o2 z_;ext zAd z_ o3 r6_ g2 hy hfs z_;ext wC z_ hgs hp2 hl hok;subst r6_;lk;intro l hl2;let s3:=zD hl2 (.lst [V.ref p,y]);exact q l p ks y s _ (g2.trans s3) zB (s3 _ _ hp2) ∅ hok hy hfs hgs
end
abbrev sDe:V6:=top 63
mutual
theorem Nice.fewm{d:Nat}:∀(t:T),Nice d t->T.fewm 30 t
 | .lst us,h=>{by let:=h.2.1;lia,NiceL.fewm us h.2.2}
 | .dic ks us,h=>{h.2.2.2.1,by let:=h.2.1;let:=h.2.2.1;lia,h.2.2.1,NiceL.fewm us h.2.2.2.2.2}
 | .tup _,h=>h.elim
 | .non,_=>mI
 | .bl _,_=>mI
 | .int _,_=>mI
 | .str _,_=>mI
theorem NiceL.fewm{d:Nat}:∀(us:List T),NiceL d us->d9 30 us
 | [],_=>mI
 | t::us,h=>{Nice.fewm t h.1,NiceL.fewm us h.2}
end
theorem yBy{H:Hp}(k:Key):Rep H (kV k) (kT k):=by
 cases k with
 | inl i=>exact O
 | inr s=>show V.str s=V.str (tx (ts s));rw[vH]
theorem zHl{H:Hp}:∀ks:List Key,Reps H (ks.map kV) (ks.map kT)
 | []=>rfl
 | k::ks=>{kV k,_,O,yBy k,zHl ks}
theorem zGx:∀ks:List Key,d9 30 (ks.map kT)/\T.deps (ks.map kT)=0/\T.szs (ks.map kT)=ks...*
 | []=>⟨mI,O,O⟩
 | k::ks=>by
  obtain⟨h1,h2,h3⟩:=zGx ks;let e:T.fewm 30 (kT k)/\T.dep (kT k)=0/\T.sz (kT k)=1:=by cases k<;>exact⟨mI,O,O⟩
  refine nAA ⟨e.1,h1⟩ ?_ ?_
  ·show max (T.dep (kT k)) (T.deps (ks.map kT))=0
   rw[e.2.1,h2];rfl
  ·show T.sz (kT k)+T.szs (ks.map kT)=ks...*+1
   rw[e.2.2,h3];lia
structure DrI(ks:List Key)(u:T):Prop where
 l:ks...*<=8
 s:∀k∈ks,okS k
 f:T.fewm 30 u
 g:T.gk u
 d:T.dep u<=2
 z:T.sz u<=30
theorem DrI.od{w:Wd}{ks:List Key}{u:T}(h:DrI ks u):Od (w,ks,u):=
 {h.s,h.l,b7 ∎ _ h.f,h.g,by let:=h.l;let:=h.d;show ks...*+T.dep u<=15;lia,by let:=h.z;show T.sz u<=200;lia}
theorem Dlay.dr{H:Hp}{v:V}{d:Dd}(h:Dlay H v d)(o:Od d):∃p u,v= .ref p/\zYy H p d.1 d.2.1 u/\zZm d.2.1 u/\∀t,doT d.1 u d.2.1 t=doT d.1 d.2.2 d.2.1 t:=by
 obtain⟨tp,pd,r,rfl,h1,h2,h3⟩:=h;let hl:=o.l;let hdd:=o.dd;let hk:∀k∈d.2.1,okK k:=λk hk=>(o.s k hk).k;rcases h3 with⟨hw,rfl⟩|⟨hw,x,rfl,hx⟩
 ·obtain⟨e1,e2,e3⟩:=zGx d.2.1
  refine{tp, .lst (d.2.1.map kT),O,{pd,[],V.ref pd,h1,h2,O,by decide,{pd,_,O,h2,zHl _}},{∅,hk,c5 (m:=30) ∎ _ {by rw[mL];lia,e1}, ?_},λt=>?_}
  ·show T.deps (d.2.1.map kT)+1<20
   lia
  ·rw[hw];exact zIa _ _
 ·exact{tp,d.2.2,O,{pd,[x],x,h1,h2,O,mE _,hx},{∅,hk,c5 ∎ _ o.f,∅},λ_=>O}
section
variable{P:V3}{w:V4}{K:A6}{mg:Str->Option V0}{base:V5}{f:V1}{fd:V7}
def spDe(K:A6):Sp:=λvs H Q _=>∃(a:V1)(ns:List Int)(k:Int)(v:V)(t:T),vs= [.ref a, .int k,v]/\SqL K H a (ns.map V.int)/\ns...*<=63/\0<=k/\k<10000/\Rep H v t/\T.few t/\T.gk t/\∀(d:V1)(wd:Wd)(ks:List Key)(u:T)(H':Hp),Same H H'->Dlay H' (.ref d) (wd,ks,u)->DrI ks u->Q (.ref d) H'
theorem scDe:zS ["_law_script","_law_k","_law_thing","_law_pair","_law_path","_law_there","_law_more","_law_word"] ["_law_script","_law_k","_law_thing"] (zK sDe):=by walk_at "sc"
theorem ok_de{kk:Nat}(F:Fun K "_law_deed" "_law_deed" sDe f fd)(B:Bl2 mg)(G_law_cell:Dn P w K mg base kk "_law_cell" ["_law_script","_law_k"] (qE K))(G_law_walk:Dn P w K mg base kk "_law_walk" ["_law_script","_law_k","_law_thing"] (spWk K))(G_law_step_at:Dn P w K mg base kk "_law_step_at" ["_law_there","_law_more"] zZv)(G_law_thing_by:Dn P w K mg base kk "_law_thing_by" ["_law_script","_law_k","_law_deep"] (zAj K 3)):FnOk P w K mg base CX0 (kk+1) f fd ["_law_script","_law_k","_law_thing"] (spDe K):=by
 refine F.ok scDe (λvs H Q E h=>?_) (λc A o s H vs Q E hr h=>?_)
 ·ext xO h a ns k v t z_
  ext oA z_ r5_ _;subst r5_
  rfl
 ext xO h a ns k v t z_;ext yO z_ r5_ ha hns hk0 hk1 z_;ext wC z_ hv hf hgt q;subst r5_;let nd:=scDe.nd;let hu:=vA hr;let hu0:=hr.units0;refine{_,(zF (pS 3 nd (zR G_law_walk hr ∅ O (zA (pv 0) (zA (pv 1) (zA (pv 2) zC)))))
  (zF (pS 4 nd (yB zP (pv 3) zE (λ_ _=>O)))
  (zF (pS 5 nd (yB zP (pv 3) zE (λ_ _=>O)))
  (zF (pS 6 nd (zR G_law_cell hr ∅ O (zA (pv 0) (zA (zH yT (pv 1) zE) zC))))
  (zF (pS 7 nd (yB zP (zT (zA zN (zA zN (zA zN (zA zN zC))))) (zH yC (pv 6) zE) (λ_ _=>O)))
  (zF (kB (zW (j5 (zBa (yF (zO (qA (T:="list") (U:="dict") ∎ ∎) O B.isinstance zI (zA (pv 5) (zA (yZ (zA (xL (v:=.ty "list") O B.list yU O) (zA (xL (v:=.ty "dict") O B.dict xA O) zC))) zC)))) (zBa (zU (zNt hu0) (pv 4) (zT zC) (zQ _)) (zAb (zU xC (zH yC (zH yH (pv 6) zE) zE) zE (zQ _)))))) (zG (pS 4 nd (zH gX (pv 4) (zT (zA (zR G_law_step_at hr ∅ O (zA (pv 5) (zA (zR G_law_cell hr ∅ O (zA (pv 0) (zA (zH yT (pv 1) zE) zC))) zC))) zC))))) zL))
  (zF (kB (zW (j5 (vR (zU xC (pv 7) zN (zQ _)) (vR (yF (pI B.isinstance zI B.str qY (yB zP (pv 4) (wS xR zE) (λ_ _=>O)))) (qR (zU kE (zH yC (zH yH (pv 6) zE) zE) zE (zQ _)))))) (zG (pS 7 nd zN)) zL))
  (zF (kB (zW (zU xC (zH yC (zH yH (pv 6) zE) zE) zE (zQ _)) (zG (pS 4 nd (zH gX (qD kZ (pv 4) jC (jB (wS xR zE))) (zT (zA (yB zP (zT (zA zN (zA zE (zA zN (zA zE zC))))) (zH yC (zH yH (pv 6) zE) zE) (λ_ _=>O)) zC))))) zL))
  (zF (kB (zW (zU xC (zH yC (zH yH (pv 6) zE) zE) zE (zQ _)) (zG (pS 4 nd (zT zC))) zL))
  (zF (zW (zU xC (pv 7) zN (zQ _)) (zG (zJ (yZ (zA (pv 7) (zA (pv 4) zC))))) zL)
  (zG (zJ (yZ (zA (pv 7) (zA (pv 4) (zA (zR G_law_thing_by hr ∅ O (zA (pv 0) (zA (zH yT (pv 1) zE) (zA (zH yC (zH yH (pv 6) zE) zE) zC)))) zC)))))))))))))))), ?_}
 walk_at "st";refine cut6 λR hR=>?_;lk;unfold zLv;lk;refine{a,ns,k,v,t,O,ha,hns,hk0,∅,hv,hf,hgt,λl p0 ks0 x s H1 g1 hl1 hp1 hlen hok0 hx hfx hgx=>?_};refine zZ (SqL.of hl1) (zV (j:=0) O) (zZ (SqL.of hl1) (zV (j:=1) O) ?_);obtain⟨c,hc,hc0,hc1⟩:∃c:Int,vG ns (k+8)=c/\0<=c/\c<1000003:={_,O,wW _ _,qH _ _};refine{a,ns,_,O,g1.seq ha,hns,∅,∅,λH2 g2 pw hpw=>{c,by rw[hc], ?_}};rw[hc];refine zBf zB ∅ (by show _<((4:Nat):Int);lia) λwv hwv=>?_;obtain⟨wd,rfl⟩:∃wd:Wd,wv=V.str wd.s:=by
  simp only[mD,rQ,bG] at hwv;rcases hwv with rfl | rfl | rfl | rfl
  ·exact{.put,O}
  ·exact{.put,O}
  ·exact{.ins,O}
  ·exact{.tak,O}
 let g3:=g2.trans (zD hpw (.lst [V.str (A5 "put"),V.str (A5 "put"),V.str (A5 "insert"),V.str (A5 "take")]));generalize upd H2 pw (.lst [V.str (A5 "put"),V.str (A5 "put"),V.str (A5 "insert"),V.str (A5 "take")])=H3 at g3⊢;let gH3:=g1.trans g3;refine{λσ' H'=>∃(pd:V1)(ks:List Key)(wd:Wd),σ'= [Y (V.ref a),Y (V.int k),Y v,Y (V.ref l),Y (V.ref pd),Y x,Y (V.int c),Y (V.str wd.s)]/\Same H H'/\H' pd=Y (.lst (ks.map kV))/\ks...*<=8/\(∀k∈ks,okS k)/\ks≠ [], ?_, ?_}
 ·intro p hp
  let s4:=zD hp (.tup [V.ty "list",V.ty "dict"]);refine qQ x _ p ⟨O,O⟩ zB (nA ((Rep.same (gH3.trans s4) _ _ hx).ty) ?_);generalize upd H3 p (.tup [V.ty "list",V.ty "dict"])=H4 at s4⊢;let gH4:=gH3.trans s4;let ext:∀H5,Same H4 H5->qE K [V.ref a,V.int (k+9)] H5 (λx_6 H1=>zZv [x,x_6] H1 (λx_7 H1=>∀(p:V1),H1 p=none->zYc (V.ref p0) (V.ref p) (upd H1 p (HO.lst [x_7])) λx_8 H1=>∃(pd:V1)(ks:List Key)(wd':Wd),[Y (V.ref a),Y (V.int k),Y v,Y (V.ref l),Y x_8,Y x,Y (V.int c),Y (V.str wd.s)]= [Y (V.ref a),Y (V.int k),Y v,Y (V.ref l),Y (V.ref pd),Y x,Y (V.int c),Y (V.str wd'.s)]/\Same H H1/\H1 pd=Y (.lst (ks.map kV))/\ks...*<=8/\(∀k∈ks,okS k)/\ks≠ []) E0) E0:=λH5 g5=>by
   let gH5:=gH4.trans g5;let c0:=wW ns (k+9);let c1:=qH ns (k+9);refine{a,ns,_,O,gH5.seq ha,hns,∅,∅,λH6 g6=>{x,s,_,O,Rep.same (gH5.trans g6) _ _ hx,hfx,hgx,c0,∅,λkk H7 g7 hkk p7 hp7=>?_}};let g17:=(g3.trans (s4.trans (g5.trans (g6.trans g7))));let s8:=zD hp7 (.lst [kV kk]);refine{p0,p7,_,_,O,O,s8 _ _ (g17 _ _ hp1),zB,by rw[mL,nL,mS];lia,λpd hpd=>?_};let s9:=zD hpd (.lst (ks0.map kV++ [kV kk]));refine qQ pd (ks0++ [kk]) wd O (g1.trans (g17.trans (s8.trans s9))) (zSf ?_ (by rw[mM,nL];lia) (λk' hk'=>?_) (by simp))
   ·rw[zB];exact congrArg (λz=>Y (HO.lst z)) (zWu ks0 kk)
   ·rcases mU.mp hk' with z | z
    ·exact hok0 _ z
    ·rw[mG.mp z];exact hkk
  by_cases hh:(yA (tyT s) "list" || yA (tyT s) "dict")=true
  ·exact iP hh (ext _ (Same.refl _))
  refine iN hh λp2 hp2=>?_;let s5:=zD hp2 (.lst []);refine{p0,p2,_,O,O,SqL.of ((g3.trans (s4.trans s5)) _ _ hp1),SqL.of zB,_,O, ?_}
  by_cases h0:ks0= []
  ·exact iP (by rw[h0];rfl) (ext _ s5)
  refine iN (by cases ks0 with | nil=>exact absurd O h0 | cons _ _=>simp) {c,O, ?_}
  by_cases h9:c / 4 % 9=1
  ·exact iP h9 (ext _ s5)
  ·exact iN h9 {p0,ks0,wd,O,gH4.trans s5,(g3.trans (s4.trans s5)) _ _ hp1,∅,hok0,h0}
 ·intro σ4 H4 z_
  ext yD z_ pd ks wd r3_ gH4 z_;ext wC z_ hpd hlen hok hne;subst r3_;subst hR;refine zFa λR hR=>?_;lk;unfold zLv;lk;refine{λσ' H'=>∃(pd:V1)(ks:List Key)(wd:Wd),σ'= [Y (V.ref a),Y (V.int k),Y v,Y (V.ref l),Y (V.ref pd),Y x,Y (V.int c),Y (V.str wd.s)]/\Same H H'/\H' pd=Y (.lst (ks.map kV))/\ks...*<=8/\(∀k∈ks,okS k)/\ks≠ [], ?_, ?_}
  ·let same0:∀(wd':Wd),∃(pd':V1)(ks:List Key)(wd'':Wd),[Y (V.ref a),Y (V.int k),Y v,Y (V.ref l),Y (V.ref pd),Y x,Y (V.int c),Y (V.str wd'.s)]= [Y (V.ref a),Y (V.int k),Y v,Y (V.ref l),Y (V.ref pd'),Y x,Y (V.int c),Y (V.str wd''.s)]/\Same H H4/\H4 pd'=Y (.lst (ks.map kV))/\ks...*<=8/\(∀k∈ks,okS k)/\ks≠ []:=λwd'=>⟨pd,ks,wd',O,gH4,hpd,hlen,hok,hne⟩
   by_cases hi:wd.s=A5 "insert"
   ·refine iP hi ?_
    obtain⟨ks0,kl,rfl⟩:∃ks0 kl,ks=ks0++ [kl]:={ks.dropLast,ks.getLast hne,(aN hne).symm};refine zZ (SqL.of hpd) (v:=kV kl) (by rw[nJ];exact wD _ _) ?_
    cases kl with
    | inl i=>exact{"int",O,iN ∎ (same0 wd)}
    | inr z=>
     refine nEA ("str") O (iP ∎ ?_)
     by_cases h5:0<c / 36 % 5
     ·exact iP h5 (same0 .put)
     ·exact iN h5 (same0 wd)
   ·exact iN hi (same0 wd)
  ·intro σ5 H5 z_
   ext yD z_ pd ks wd r3_ gH5 z_;ext wC z_ hpd hlen hok hne;subst r3_;subst hR;refine zFa λR hR=>?_;lk;unfold zLv;lk;refine{λσ' H'=>∃(pd:V1)(ks:List Key),σ'= [Y (V.ref a),Y (V.int k),Y v,Y (V.ref l),Y (V.ref pd),Y x,Y (V.int c),Y (V.str wd.s)]/\Same H H'/\H' pd=Y (.lst (ks.map kV))/\ks...*<=8/\(∀k∈ks,okS k), ?_, ?_}
   ·by_cases h17:c / 180 % 17=1
    ·refine iP h17 {pd,_,O,SqL.of hpd,λpc hpc=>?_}
     obtain⟨ks0,kl,rfl⟩:∃ks0 kl,ks=ks0++ [kl]:={ks.dropLast,ks.getLast hne,(aN hne).symm};let ek:List.take (((ks0++ [kl]).map kV)...* - 1) ((ks0++ [kl]).map kV)=ks0.map kV:=by
      rw[nJ,mM,mL];exact List.take_left' (by simp)
     rw[zJo,ek];let s6:=zD hpc (.lst (ks0.map kV));let e6:=zB (H:=H5) (a:=pc) (o:=.lst (ks0.map kV));generalize upd H5 pc (.lst (ks0.map kV))=H6 at s6 e6⊢;intro p7 hp7;let s7:=zD hp7 (.lst [V.str (A5 "a"),V.int 59,V.str (A5 "zz9"),V.int 0]);refine zBf zB ∅ (by show _<((4:Nat):Int);lia) λwv hwv p8 hp8=>?_;obtain⟨kk,rfl,hkk⟩:∃kk,wv=kV kk/\okS kk:=by
      simp only[mD,rQ,bG] at hwv;rcases hwv with rfl | rfl | rfl | rfl
      ·exact nEA (.inr _) O (by show yQ (ts (A5 "a"))=true;decide+kernel)
      ·exact nEA (.inl 59) O (by show(0:Int)<=59/\(59:Int)<=59;decide)
      ·exact nEA (.inr _) O (by show yQ (ts (A5 "zz9"))=true;decide+kernel)
      ·exact nEA (.inl 0) O (by show(0:Int)<=0/\(0:Int)<=59;decide)
     generalize upd H6 p7 (.lst [V.str (A5 "a"),V.int 59,V.str (A5 "zz9"),V.int 0])=H7 at s7 hp8⊢;let s8:=zD hp8 (.lst [kV kk]);rw[mM,nL] at hlen;refine{pc,p8,_,_,O,O,s8 _ _ (s7 _ _ e6),zB,by rw[mL,nL,mS];lia,λpe hpe=>?_};let s9:=zD hpe (.lst (ks0.map kV++ [kV kk]));refine zEu pe (ks0++ [kk]) O (gH5.trans (s6.trans (s7.trans (s8.trans s9)))) ?_ (nA (by rw[mM,nL];lia) (λk' hk'=>?_))
     ·rw[zB];exact congrArg (λz=>Y (HO.lst z)) (zWu ks0 kk)
     ·rcases mU.mp hk' with z | z
      ·exact hok _ (nV _ z)
      ·rw[mG.mp z];exact hkk
    ·exact iN h17 ⟨pd,ks,O,gH5,hpd,hlen,hok⟩
   ·clear hpd hlen hok hne gH5 H5 ks pd
    intro σ5 H5 z_;ext yE z_ pd ks r2_ gH5 hpd z_;ext oA z_ hlen hok;subst r2_;subst hR;refine zFa λR hR=>?_;lk;unfold zLv;lk;refine{λσ' H'=>∃(pd:V1)(ks:List Key),σ'= [Y (V.ref a),Y (V.int k),Y v,Y (V.ref l),Y (V.ref pd),Y x,Y (V.int c),Y (V.str wd.s)]/\Same H H'/\H' pd=Y (.lst (ks.map kV))/\ks...*<=8/\(∀k∈ks,okS k), ?_, ?_}
    ·by_cases h29:c / 180 % 29=2
     ·exact iP h29 λp hp=>{p,[],O,gH5.trans (zD hp _),zB,by decide,λ_ h=>nomatch h}
     ·exact iN h29 ⟨pd,ks,O,gH5,hpd,hlen,hok⟩
    ·clear hpd hlen hok gH5 H5 ks pd
     intro σ5 H5 z_;ext yE z_ pd ks r2_ gH5 hpd z_;ext oA z_ hlen hok;subst r2_;subst hR;lk
     by_cases ht:wd.s=A5 "take"
     ·refine iP ht λd hd=>?_
      let s6:=zD hd (.tup [V.str wd.s,V.ref pd]);let hw:wd= .tak:=by
       cases wd with
       | tak=>rfl
       | put=>exact absurd ht ∎
       | ins=>exact absurd ht ∎
      exact q d wd ks .non _ (gH5.trans s6) {d,pd,[],O,zB,s6 _ _ hpd, .inl ⟨hw,O⟩} {∅,hok,mI,mI,nS _,by decide}
     ·obtain⟨dd,hdd,hd3⟩:∃dd:Nat,c / 7 % 3=(dd:Int)/\dd<=2:={(c / 7 % 3).toNat,∅,∅}
      rw[hdd];let p5:(5:Int)^ dd<=25:=by
       rcases(show dd=0\/dd=1\/dd=2 by lia) with z | z | z<;>subst z<;>decide
      let p0:=yCb dd;refine iN ht {dd,∅,a,ns,_,O,gH5.seq ha,hns,∅, ?_,λx H6 u g6 hx hn d hd=>?_}
      ·let:=Int.mul_le_mul (show k+10+2<=10020 by lia) p5 ∅ ∎
       lia
      ·let s6:=g6.trans (zD hd (.tup [V.str wd.s,V.ref pd,x]))
       let z1:=Nice.sz u hn;let z2:=Nice.dep u hn;let p25:5 ^ dd<=25:=by
        rcases(show dd=0\/dd=1\/dd=2 by lia) with z | z | z<;>subst z<;>decide
       exact q d wd ks u _ (gH5.trans s6) {d,pd,[x],O,zB,s6 _ _ hpd, .inr {λz=>ht (by let z':wd= .tak:=z;rw[z'];rfl),x,O,Rep.same (zD hd _) _ _ hx}} {∅,hok,Nice.fewm u hn,(kQ dd u ∅ hn).gk,∅,∅}
end
abbrev sBa:V6:=top 60
theorem zWa{b:Int}(h1: -(10 ^ 12)<=b)(h2:b<=10 ^ 12):b.natAbs.log2<1920:=by
 by_cases h:b.natAbs=0
 ·rw[h];decide
 ·refine(Nat.log2_lt h).mpr (Nat.lt_of_le_of_lt (show b.natAbs<=10 ^ 12 by lia) (nO (show 10 ^ 12<2 ^ 40 by decide) (Nat.pow_le_pow_right ∎ ∎)))
structure BaseI(t:T):Prop where
 f:T.fewm 30 t
 c:T.gk t
 d:T.dep t<=8
 z:T.sz t<=200
 n:lnar t=true
mutual
theorem Nice.lnar{d:Nat}:∀(t:T),Nice d t->lnar t=true
 | .lst us,h=>by
  show(decide (us...*<=60)&& xZ us)=true;rw[nP (by let:=h.2.1;lia),NiceL.lnar us h.2.2];rfl
 | .dic ks us,h=>by
  show(decide (ks...*<=30)&& xZ us)=true;rw[nP (by let:=h.2.1;let:=h.2.2.1;lia),NiceL.lnar us h.2.2.2.2.2];rfl
 | .tup _,h=>h.elim
 | .non,_=>rfl
 | .bl _,_=>rfl
 | .int _,_=>rfl
 | .str _,_=>rfl
theorem NiceL.lnar{d:Nat}:∀(us:List T),NiceL d us->xZ us=true
 | [],_=>rfl
 | t::us,h=>by
  show(K42.lnar t && xZ us)=true;rw[Nice.lnar t h.1,NiceL.lnar us h.2];rfl
end
theorem zQb{d:Nat}{t:T}(hd:d<=3)(h:Nice d t):BaseI t:=by
 let f:=kQ d t ∅ h;let z:=Nice.sz t h;let e:=Nice.dep t h;let p:5 ^ d<=125:=by
  rcases(show d=0\/d=1\/d=2\/d=3 by lia) with z | z | z | z<;>subst z<;>decide
 exact{Nice.fewm t h,f.gk,∅,∅,Nice.lnar t h}
theorem nam61:∀m:Fin 61,yQ (ts (A5 "n" ++A5 (toString ((m.val:Nat):Int))))=true:=by decide+kernel
theorem nam60{j:Int}(h0:0<=j)(h1:j<=60):yQ (ts (A5 "n" ++A5 (toString j)))=true:=by
 let:=nam61 {j.toNat,∅}
 rwa [show((j.toNat:Nat):Int)=j by lia] at this
theorem len61:∀m:Fin 61,(A5 (toString ((m.val:Nat):Int)))...*<=10:=by decide+kernel
theorem len60{j:Int}(h0:0<=j)(h1:j<=60):(A5 (toString j))...*<=10:=by
 let:=len61 {j.toNat,∅}
 rwa [show((j.toNat:Nat):Int)=j by lia] at this
theorem l9{α:Type}{H:Hp}{f:α->V}{g:α->T}(h:∀x,Rep H (f x) (g x)):∀l:List α,Reps H (l.map f) (l.map g)
 | []=>rfl
 | x::l=>{_,_,O,h x,l9 h l}
theorem zIk{us:List T}(h:∀u∈us,∃j:Int,u= .int j/\0<=j/\j<=60):d9 30 us/\j9 us/\T.deps us<=0/\T.szs us<=us...*/\xZ us=true:=by
 refine zYp (d6 λt ht=>?_) (i8 λt ht=>?_) (d7 λt ht=>?_) ?_ ?_
 ·obtain⟨j,rfl,_⟩:=h t ht
  exact mI
 ·refine xI (h t ht) λj r1_ h0 h1=>?_
  subst r1_;show _/\_
  lia
 ·obtain⟨j,rfl,_⟩:=h t ht
  exact mE _
 ·skip
  induction us with
  | nil=>exact mE _
  | cons u us ih=>
   obtain⟨j,rfl,_⟩:=h u mF;let:=ih λv hv=>h v (mH _ hv);show 1+T.szs us<=us...*+1
   lia
 ·skip
  induction us with
  | nil=>rfl
  | cons u us ih=>
   obtain⟨j,rfl,_⟩:=h u mF;exact ih λv hv=>h v (mH _ hv)
section
variable{P:V3}{w:V4}{K:A6}{mg:Str->Option V0}{base:V5}{f:V1}{fd:V7}
def spBa(K:A6):Sp:=λvs H Q _=>∃(a:V1)(ns:List Int)(k:Int),vs= [.ref a, .int k]/\SqL K H a (ns.map V.int)/\ns...*<=63/\0<=k/\k<7000/\∀(v:V)(t:T)(H':Hp),Same H H'->Rep H' v t->BaseI t->Q v H'
theorem scBa:zS ["_law_script","_law_k","_law_more","_law_deep","_law_j","_law_names","_law_row"] ["_law_script","_law_k"] (zK sBa):=by walk_at "sc"
theorem ok_ba{kk:Nat}(F:Fun K "_law_base" "_law_base" sBa f fd)(B:Bl2 mg)(G_law_cell:Dn P w K mg base kk "_law_cell" ["_law_script","_law_k"] (qE K))(G_law_thing_by:Dn P w K mg base kk "_law_thing_by" ["_law_script","_law_k","_law_deep"] (zAj K 3)):FnOk P w K mg base CX0 (kk+1) f fd ["_law_script","_law_k"] (spBa K):=by
 refine F.ok scBa (λvs H Q E h=>?_) (λc A o s H vs Q E hr h=>?_)
 ·ext qI h a ns k r3_ _
  subst r3_
  rfl
 ext yD h a ns k r3_ ha z_;ext wC z_ hns hk0 hk1 q;subst r3_;let nd:=scBa.nd;let hu:=vA hr;let hu0:=hr.units0;refine{_,(zF (pS 2 nd (zR G_law_cell hr ∅ O (zA (pv 0) (zA (pv 1) zC))))
  (zF (zW (zU jA (zH yC (pv 2) zE) zE (zQ _)) (zG (zJ (zR G_law_thing_by hr ∅ O (zA (pv 0) (zA (zH yT (pv 1) zE) (zA zE zC)))))) zL)
  (zF (zW (zU xC (zH yC (pv 2) zE) zE (zQ _)) (zG (zJ (xP (own:=["_law_j"]) (F:=[("_law_script",0),("_law_k",1)]) {O,tb_g%,tb_g%,tb_g%,(.cons O O O (.cons O O O .nil))} O (xT O B.range (zA (zH yC (zH yH (pv 2) zE) zE) zC)) (λ_ _ _ _=>yI (i:=0) (by show(wB ["_law_j"] [("_law_script",0),("_law_k",1)]).Nodup;decide+kernel) O (nU O)) (λ_ _ _ _=>yX) (λ_ _ _ _=>(zR G_law_thing_by hr ∅ O (zA (pv 1) (zA (zH yT (zH yT (pv 2) zE) (pv 0)) (zA (zH yC (pv 0) zE) zC)))))))) zL)
  (zF (pS 3 nd (zH yC (zH yH (pv 2) zE) zE))
  (zF (vO PassesOwn.never O (xT O B.range (zA zE zC)) (yI (i:=4) nd O (nU O)) (zG (pS 3 nd (zT (zA (pv 3) zC)))))
  (zF (pS 5 nd zEl)
  (zF (vO PassesOwn.never O (xT O B.range (zA (zH wU zE (zH yC (zH yH (pv 2) zE) zE)) zC)) (yI (i:=4) nd O (nU O)) (zG (zBd hu (pv 5) (zH qL zN (yJ zHa O B.str qY (zA (pv 4) zC))) (pv 4) O)))
  (zF (uT (i:=6) nd O (nU O) (own:=["_law_j"]) (F:=[]) {O,tb_g%,tb_g%,tb_g%, .nil} O (xT O B.range (zA (zH wU zE (zH yC (zH yH (pv 2) zE) zE)) zC)) (λ_ _ _ _=>yI (i:=0) (by show(wB ["_law_j"] []).Nodup;decide+kernel) O (nU O)) (λ_ _ _ _=>yX) (λ_ _ _ _=>(pv 0)))
  (zG (zJ (zNm (gO zN (pv 6) (gO zN (pv 3) (gO zN (pv 5) (gO zN (zCr (zR G_law_thing_by hr ∅ O (zA (pv 0) (zA (zH yT (pv 1) zE) (zA zE zC))))) zNs)))) (by rfl) (by rfl) (bT _ _) ∎))))))))))), ?_}
 walk_at "st";lk;obtain⟨c,hc,hc0,hc1⟩:∃c:Int,vG ns k=c/\0<=c/\c<1000003:={_,O,wW _ _,qH _ _};refine{a,ns,_,O,ha,hns,∅,∅,λH1 g1=>?_};rw[hc];refine nEA c O ?_;let p3:(k+1+2)*5 ^ 3<=1000000:=by
  rw[show(5:Int)^ 3=125 from O];lia
 by_cases h2:c % 5<2
 ·exact iP h2 {3,mE _,a,ns,_,O,g1.seq ha,hns,∅,p3,λv H2 t g2 hv hn=>q v t _ (g1.trans g2) hv (zQb (mE _) hn)}
 refine iN h2 {c,O, ?_}
 by_cases h3:c % 5=2
 ·refine iP h3 {c,O,∅,∅, ?_}
  let hle:(c / 5 % 31).toNat<=30:=by lia
  refine kH (λi ys H'=>Same H H'/\∃us,Reps H' ys us/\us...*=i/\∀t∈us,Nice 1 t) (by rw[mS];lia) {g1,[],O,O,λ_ h=>nomatch h} ?_ ?_
  ·rintro i ys H2 hi _ ⟨g2,us,hR,hl,hN⟩
   lk;obtain⟨dd,hdd,hd1⟩:∃dd:Nat,(0+(i:Int))% 2=(dd:Int)/\dd<=1:={((0+(i:Int))% 2).toNat,∅,∅};rw[hdd];refine{dd,∅,a,ns,_,O,g2.seq ha,hns,∅, ?_,λv H3 t g3 hv hn=>{g2.trans g3,us++ [t],Reps.snoc hv (Reps.same g3 _ _ hR),by rw[mM,nL,hl],λu hu=>?_}}
   ·let p5:(5:Int)^ dd<=5:=by
     rcases(show dd=0\/dd=1 by lia) with z | z<;>subst z<;>decide
    let:=Int.mul_le_mul (show k+1+(0+(i:Int))+2<=8000 by lia) p5 (by let:=yCb dd;lia) ∎
    lia
   ·rcases mU.mp hu with z | z
    ·exact hN u z
    ·rw[mG.mp z]
     rcases(show dd=0\/dd=1 by lia) with z | z
     ·subst z
      cases t with
      | lst _=>exact absurd hn.1 ∎
      | dic _ _=>exact absurd hn.1 ∎
      | tup _=>exact hn.elim
      | _=>exact hn
     ·subst z;exact hn
  ·rintro ys H2 _ ⟨g2,us,hR,hl,hN⟩ p hp
   let s3:=zD hp (.lst ys);let hdp:T.deps us<=1:=d7 λt ht=>Nice.dep t (hN t ht);let hsz:=NiceL.sz us (NiceL_iff.mpr hN);refine q _ (.lst us) _ (g2.trans s3) {p,ys,O,zB,Reps.same s3 _ _ hR} {{∅,d6 λt ht=>Nice.fewm t (hN t ht)},i8 λt ht=>(kQ 1 t ∎ (hN t ht)).gk, ?_, ?_, ?_}
   ·show T.deps us+1<=8
    lia
   ·show T.szs us+1<=200
    let:us...**5 ^ 1<=30*5:=Nat.mul_le_mul ∅ ∎
    lia
   ·show(decide (us...*<=60)&& xZ us)=true
    rw[nP ∅,NiceL.lnar us (NiceL_iff.mpr hN)];rfl
 refine iN h3 {c,O, ?_};refine qU (λi σ H'=>∃(y:V)(t:T)(o:Option V),σ= [Y (V.ref a),Y (V.int k),Y (V.int c),Y y,o,none,none]/\Same H H'/\Rep H' y t/\T.fewm 30 t/\T.gk t/\T.dep t<=i/\T.sz t<=i+1/\lnar t=true) {_, .int _,_,O,g1,O,mI,by show _/\_;lia,nS _,mE _,O} ?_ ?_
 ·intro i σ H2 hi z_
  ext yD z_ y t o r3_ g2 z_;ext yO z_ hy hf hcm hd hz hna;subst r3_;lk;intro p hp;let s3:=zD hp (.lst [y]);refine yDn _ ⟨O,_,O⟩ (g2.trans s3) (.lst [t]) {p,_,O,zB,{y,[],O,Rep.same s3 _ _ hy,O}} (zYp {by simp,hf,mI} ⟨hcm,mI⟩ ?_ ?_ ?_)
  ·show max (T.dep t) 0+1<=i+1
   lia
  ·show T.sz t+0+1<=i+1+1
   lia
  ·show(decide (1<=60)&& (lnar t && true))=true
   rw[hna];rfl
 ·intro σ H2 z_
  ext yD z_ yd td o r3_ g2 z_;ext yO z_ hy hf hcm hd hz hna;subst r3_;lk;intro pn hpn;let s3:=zD hpn (.dK []);let e3:=zB (H:=H2) (a:=pn) (o:=.dK []);let hy3:=Rep.same s3 _ _ hy;let g3:=g2.trans s3;let hyh:Rep (xN (upd H2 pn (.dK [])) pn) yd td:=by
   rw[jJ];exact Rep.same (λb o e=>by rw[xK λz=>by subst z;rw[hpn] at e;cases e];exact e) _ _ hy
  generalize upd H2 pn (.dK [])=H3 at s3 e3 hy3 g3 hyh⊢;let hn0:H pn=none:=yG g2 hpn;refine nAA ∅ ∅ ?_;let hle:(30 - c / 36 % 3).toNat<=30:=by lia
  refine qU (λi σ H'=>∃(o:Option V)(ps:List (Key×V))(ks:List (List Nat))(us:List T),σ= [Y (V.ref a),Y (V.int k),Y (V.int c),Y yd,o,Y (V.ref pn),none]/\Same H H'/\Rep (xN H' pn) yd td/\H' pn=Y (.dK ps)/\ps.map (·.1)=ks.map nK/\Reps H (ps.map (·.2)) us/\ks.Nodup/\ks...*=us...*/\(∀k∈ks,yQ k=true)/\us...*<=i/\∀u∈us,∃j:Int,u= .int j/\0<=j/\j<=60) {_,[],[],[],O,g3,hyh,e3,O,O,cK,O,zSq,mE _,λ_ h=>nomatch h} ?_ ?_
  ·intro i σ H5 hi z_
   ext yV z_ o5 ps ks us r4_ z_;ext yO z_ g5 hy5 hp5 hkk hs z_;ext jM z_ hnk hku hko hul hui;subst r4_;unfold zOq;lk;let hpl:ps...*=us...*:=by let:=hs...*;rwa [mL] at this
   obtain⟨j,hj,hj0,hj1⟩:∃j:Int,0+(i:Int)=j/\0<=j/\j<=60:={_,O,∅,∅};rw[hj];refine{zWa ∅ ∅, ?_};let l1:=len60 hj0 hj1;let l0:(A5 "n")...*=1:=by decide+kernel
   let hzn:=nam60 hj0 hj1;generalize A5 "n" ++A5 (toString j)=z at hzn⊢;let ex:(Sum.inr z:Key)=nK (ts z):=by show(Sum.inr z:Key)=Sum.inr (tx (ts z));rw[vH]
   refine zUe ∅ _ (DPut.k (k:=Sum.inr z) hp5 (by rw[mS];lia)) (wQ g5 hn0) (by rw[jJ];exact hy5) (nEA _ zB ?_);rw[ex];obtain⟨p1,p2⟩:=zAy (H:=H) (p:=(ks,us)) (n:=ts z) (v:=.int j) (t:=.int j) hkk hs O;obtain⟨q1,q2⟩:=zDj (ks:=ks) (us:=us) (n:=ts z) (t:=.int j) hku;exact zEx _ p1 _ p2 (zAe hnk) (zSf q1 (λk hk=>(putT_in.mp hk).elim (hko k) λe=>by rw[e];exact hzn) ∅ (λu hu=>(zAw hu).elim (hui u) λe=>⟨j,e,hj0,hj1⟩))
  ·intro σ H5 z_
   ext yV z_ o5 ps ks us r4_ z_;ext yO z_ g5 hy5 hp5 hkk hs z_;ext jM z_ hnk hku hko hul hui;subst r4_;lk;refine nAA ∅ ∅ ?_;let hl6:(60 - c / 108 % 3).toNat<=60:=by lia
   refine kH (λi ys H'=>H'=H5/\ys=(List.range i).map λj=>V.int (j:Nat)) (by rw[mS];lia) ⟨O,O⟩ ?_ ?_
   ·rintro i ys H6 hi _ ⟨rfl,rfl⟩
    lk;rw[List.range_succ,nJ];simp
   ·rintro ys H6 _ ⟨rfl,hys⟩ pw hpw
    generalize (60 - c / 108 % 3).toNat=n6 at hl6 hys;let s7:=zD hpw (.lst ys);let e7:=zB (H:=H6) (a:=pw) (o:=.lst ys);let g7:=g5.trans s7;let hp7:=s7 _ _ hp5;let hy7:Rep (upd H6 pw (.lst ys)) yd td:=Rep.same (λb o e=>s7 _ _ (wI _ _ e)) _ _ hy5;generalize upd H6 pw (.lst ys)=H7 at s7 e7 g7 hp7 hy7⊢;intro p hp;let s8:=zD hp (.dK []);let e8:=zB (H:=H7) (a:=p) (o:=.dK []);unfold zHs zNo;refine{p, .inl {[],e8,λo=>?_}};let gf:Same H7 (upd (upd H7 p (.dK [])) p (.frz o (.dK []))):=wQ s8 hp;lk;refine{2,by decide,a,ns,_,O,(g7.trans gf).seq ha,hns,∅,by rw[show(5:Int)^ 2=25 from O];lia,λv Hc t gc hv hn=>?_};let gt:=kM e8 gc;let e9:=zPr e8 (by intro o v z;cases z) gc;let hv9:Rep (xN (L2.thaw (upd H7 p (.dK [])) Hc) p) v t:=Rep.off (gc _ _ zB) hv;dsimp only;generalize L2.thaw (upd H7 p (.dK [])) Hc=H9 at gt e9 hv9⊢;refine nAEAA e9 ([(Sum.inr (A5 "r"),V.ref pw),(Sum.inr (A5 "d"),yd),(Sum.inr (A5 "n"),V.ref pn),(Sum.inr (A5 "z"),v)]) O (by simp) ?_;rw[jE _ [] (by show([Sum.inr (A5 "r"),Sum.inr (A5 "d"),Sum.inr (A5 "n"),Sum.inr (A5 "z")]:List Key).Nodup;decide+kernel),tZ];let gF:Same H7 (upd H9 p (.dK [(Sum.inr (A5 "r"),V.ref pw),(Sum.inr (A5 "d"),yd),(Sum.inr (A5 "n"),V.ref pn),(Sum.inr (A5 "z"),v)])):=wQ (s8.trans gt) hp;let hzF:Rep (upd H9 p (.dK [(Sum.inr (A5 "r"),V.ref pw),(Sum.inr (A5 "d"),yd),(Sum.inr (A5 "n"),V.ref pn),(Sum.inr (A5 "z"),v)])) v t:=Rep.same zAq _ _ hv9;let hpF:=zB (H:=H9) (a:=p) (o:=.dK [(Sum.inr (A5 "r"),V.ref pw),(Sum.inr (A5 "d"),yd),(Sum.inr (A5 "n"),V.ref pn),(Sum.inr (A5 "z"),v)]);generalize upd H9 p (.dK [(Sum.inr (A5 "r"),V.ref pw),(Sum.inr (A5 "d"),yd),(Sum.inr (A5 "n"),V.ref pn),(Sum.inr (A5 "z"),v)])=HF at gF hzF hpF⊢;let hr1:∀u∈(List.range n6).map (λj=>T.int ((j:Nat):Int)),∃j:Int,u= .int j/\0<=j/\j<=60:=λu hu=>by
     refine oEA (nW.mp hu) λj hj r2_=>?_;subst r2_;let:=tK.mp hj;exact zHv _ O ∅ ∅
    refine jM (zIk hr1) λr1 r2 r3 r4 r5=>?_;refine jM (zIk hui) λn1 n2 n3 n4 n5=>?_;rw[mL,bL] at r4;let tz:=Nice.sz t hn;let tdp:=Nice.dep t hn;let tz':T.sz t<=25:=tz;refine q _ (.dic [ts (A5 "r"),ts (A5 "d"),ts (A5 "n"),ts (A5 "z")] [.lst ((List.range n6).map λj=>T.int ((j:Nat):Int)),td, .dic ks us,t]) HF (g7.trans gF) {p,_,O,hpF, ?_, ?_} ?_
    ·simp only[mZ,sK,vH]
    ·refine{_,_,O,{pw,ys,O,gF _ _ e7, ?_},_,_,O,Rep.same gF _ _ hy7,_,_,O,{pn,ps,O,gF _ _ hp7,hkk,Reps.same (g7.trans gF) _ _ hs},_,_,O,hzF,O}
     rw[hys];exact l9 (f:=λj:Nat=>V.int (j:Int)) (g:=λj:Nat=>T.int (j:Int)) (λx=>show V.int _=V.int _ from O) _
    ·refine{{by decide+kernel,by decide,O,{by rw[mL,bL];lia,r1},hf,{hnk,∅,hku,n1},Nice.fewm t hn,mI},{by decide+kernel,r2,hcm,⟨hko,n2⟩,(kQ 2 t ∎ hn).gk,mI}, ?_, ?_, ?_}
     ·show max (T.deps _+1) (max (T.dep td) (max (T.deps us+1) (max (T.dep t) 0)))+1<=8
      lia
     ·show(T.szs _+1)+(T.sz td+((T.szs us+1)+(T.sz t+0)))+1<=200
      lia
     ·show(decide (4<=30)&& ((decide (((List.range n6).map λj=>T.int ((j:Nat):Int))...*<=60)&& xZ ((List.range n6).map λj=>T.int ((j:Nat):Int)))&& (lnar td && ((decide (ks...*<=30)&& xZ us)&& (lnar t && true)))))=true
      rw[r5,n5,hna,Nice.lnar t hn,nP (show ks...*<=30 by lia),mL,bL,nP hl6];rfl
abbrev sDs:V6:=top 64
theorem Dlay.off{H H':Hp}{p:V1}{o:Obj}{w:HO}{v:V}{d:Dd}(hp:H' p=Y (.frz o w))(h:Dlay H' v d):Dlay (xN (L2.thaw H H') p) v d:=by
 obtain⟨tp,pd,r,rfl,h1,h2,h3⟩:=h;refine{tp,pd,r,O, ?_, ?_,h3.imp id fun⟨a,x,b,c⟩=>{a,x,b,Rep.off hp c}}
 ·rw[xK λz=>by rw[z,hp] at h1;cases h1]
  exact wZ h1 λ_ _ z=>by cases z
 ·rw[xK λz=>by rw[z,hp] at h2;cases h2]
  exact wZ h2 λ_ _ z=>by cases z
theorem zPq{H H':Hp}{q:V1}:L2.thaw H (xN H' q)=xN (L2.thaw H H') q:=by
 funext b
 by_cases z:b=q
 ·subst z;rw[jT,zGk jT]
 ·rw[xK z]
  unfold L2.thaw;rw[xK z]
theorem zBz{H:Hp}{p q:V1}:xN (xN H p) q=xN (xN H q) p:=by
 funext b
 unfold xN
 by_cases z:b=q<;>by_cases y:b=p<;>simp[z,y]
theorem n8{H H':Hp}{p q:V1}{o:Obj}{w:HO}{v:V}{d:Dd}(hp:H' p=Y (.frz o w))(ne:p≠q)(h:Dlay (xN H' q) v d):Dlay (xN (xN (L2.thaw H H') p) q) v d:=by
 let z:=Dlay.off (H:=H) (show xN H' q p=Y (.frz o w) by rw[xK ne];exact hp) h;rw[zPq,zBz] at z;exact z
theorem Dlays.snoc{H:Hp}{xs:List V}{ds:List Dd}{v:V}{d:Dd}(h:Dlays H xs ds)(hd:Dlay H v d):Dlays H (xs++ [v]) (ds++ [d]):=by
 obtain⟨hl,h⟩:=h;refine{by rw[mM,mM,hl];rfl,λi v' d' hv hd'=>?_}
 by_cases c:i<xs...*
 ·rw[pL c] at hv
  rw[pL ∅] at hd';exact h i v' d' hv hd'
 ·rw[pH ∅] at hv
  rw[pH ∅,<-hl] at hd';let hlt:=(mO.mp hv).1;rw[nL] at hlt;let e:i - xs...*=0:=by lia
  rw[e] at hv hd';cases hv;cases hd';exact hd
theorem zBx{d:Dd}:∀(ds:List Dd)(i:Nat)(t u:T),wY i ds t= .inr u->wY i (ds++ [d]) t=match doT d.1 d.2.2 d.2.1 u with
  | none=>.inl (i+ds...*)
  | some r=>.inr r
 | [],i,t,u,h=>by
  let e:t=u:=Sum.inr.inj h;subst e;show(match doT d.1 d.2.2 d.2.1 t with | none=>Sum.inl i | some r=>wY (i+1) [] r)=_
  cases doT d.1 d.2.2 d.2.1 t<;>rfl
 | d0::ds,i,t,u,h=>by
  rw[dJ]
  cases e:doT d0.1 d0.2.2 d0.2.1 t with
  | none=>rw[zCq e] at h;cases h
  | some r=>
   rw[zCu e] at h⊢;rw[zBx ds (i+1) r u h,mW,show i+1+ds...*=i+(ds...*+1) by lia]
theorem zFm{d:Dd}{j:Nat}:∀(ds:List Dd)(i:Nat)(t:T),wY i ds t= .inl j->wY i (ds++ [d]) t= .inl j
 | [],i,t,h=>by cases h
 | d0::ds,i,t,h=>by
  rw[dJ]
  cases e:doT d0.1 d0.2.2 d0.2.1 t with
  | none=>rw[zCq e] at h⊢;exact h
  | some r=>
   rw[zCu e] at h⊢;exact zFm ds (i+1) r h
def TrR(ds:List Dd)(t:T)(o:V)(u:T):Prop:=(o= .non/\wY 0 ds t= .inr u)\/∃j:Nat,o= .int j/\wY 0 ds t= .inl j
theorem t0{ds:List Dd}{t u r:T}{d:Dd}(h:wY 0 ds t= .inr u)(hd:doT d.1 d.2.2 d.2.1 u=Y r):TrR (ds++ [d]) t .non r:=.inl {O,by rw[zBx ds 0 t u h,hd]}
theorem t6{ds:List Dd}{t u u':T}{d:Dd}(h:wY 0 ds t= .inr u)(hd:doT d.1 d.2.2 d.2.1 u=none):TrR (ds++ [d]) t (.int (ds...*:Nat)) u':=.inr {ds...*,O,by rw[zBx ds 0 t u h,hd,Nat.zero_add]}
theorem r9{ds:List Dd}{t u':T}{d:Dd}{j:Nat}(h:wY 0 ds t= .inl j):TrR (ds++ [d]) t (.int j) u':=.inr {j,O,zFm ds 0 t h}
def yDc(K:A6):Sp:=λvs H Q _=>∃(a:V1)(ns:List Int)(k:Int)(v:V)(n:Int)(t:T),vs= [.ref a, .int k,v, .int n]/\SqL K H a (ns.map V.int)/\ns...*<=63/\0<=k/\k<1000/\0<=n/\n<=12/\Rep H v t/\T.fewm 30 t/\T.gk t/\T.dep t<=9/\T.sz t<=300/\∀(l pp pr:V1)(o:V)(ps rs:List V)(x:V)(ds:List Dd)(t':T)(H':Hp),Same H H'->H' l=Y (.lst [.ref pp, .ref pr,o])->H' pp=Y (.lst ps)->Dlays H' ps ds->(∀d∈ds,Od d)->ds...*<=12->H' pr=Y (.lst (rs++ [x]))->Rep H' x t'->TrR ds t o t'->T.fewm 42 t'->T.gk t'->T.dep t'<=10->T.sz t'<=700->Q (.ref l) H'
theorem scDs:zS ["_law_script","_law_k","_law_thing","_law_many","_law_paper","_law_rows","_law_stopped","_law_j","_law_pair"] ["_law_script","_law_k","_law_thing","_law_many"] (zK sDs):=by walk_at "sc"
theorem ok_ds{kk:Nat}(F:Fun K "_law_deeds" "_law_deeds" sDs f fd)(B:Bl2 mg)(G_law_held:Dn P w K mg base kk "_law_held" ["_law_thing"] (zDz 20))(G_law_deed:Dn P w K mg base kk "_law_deed" ["_law_script","_law_k","_law_thing"] (spDe K))(G_law_deed_on:Dn P w K mg base kk "_law_deed_on" ["_law_thing","_law_deed_here"] yBn):FnOk P w K mg base CX0 (kk+1) f fd ["_law_script","_law_k","_law_thing","_law_many"] (yDc K):=by
 refine F.ok scDs (λvs H Q E h=>?_) (λc A o s H vs Q E hr h=>?_)
 ·ext xO h a ns k v n z_
  ext oEA z_ t r6_ _;subst r6_
  rfl
 ext xO h a ns k v n z_;ext zAd z_ t r6_ ha hns hk0 z_;ext yO z_ hk1 hn0 hn5 hv hf z_;ext wC z_ hgt hd hz q;subst r6_;let nd:=scDs.nd;let hu:=vA hr;let hu0:=hr.units0;refine{_,(zF (pS 4 nd (zT zC))
  (zF (pS 5 nd (zT (zA (zR G_law_held hr ∅ O (zA (pv 2) zC)) zC)))
  (zF (pS 6 nd gQ)
  (zF (vO PassesOwn.never O (xT O B.range (zA (pv 3) zC)) (yI (i:=7) nd O (nU O)) (zF (wF (qT pA pV rA qC (pv 4) (zA (zCr (zCr (zR G_law_deed hr ∅ O (zA (pv 0) (zA (zH yT (pv 1) (zH jI zE (pv 7))) (zA (yB zP (pv 5) (wS xR zE) (λ_ _=>O)) zC)))))) zC)))
  (zG (zW (uH (zKv (pv 6))) (zF (pS 8 nd (zR G_law_deed_on hr ∅ O (zA (yB zP (pv 5) (wS xR zE) (λ_ _=>O)) (zA (yB zP (pv 4) (wS xR zE) (λ_ _=>O)) zC))))
  (zG (zW (yF (yB zP (pv 8) zE (λ_ _=>O))) (zG (wF (qT pA pV rA qC (pv 5) (zA (yB zP (pv 8) zE (λ_ _=>O)) zC)))) (zG (pS 6 nd (pv 7)))))) zL))))
  (zG (zJ (zT (zA (pv 4) (zA (pv 5) (zA (pv 6) zC)))))))))), ?_}
 walk_at "st";lk;intro pp hpp;let s1:=zD hpp (.lst []);let e1:=zB (H:=H) (a:=pp) (o:=.lst []);generalize upd H pp (.lst [])=H1 at s1 e1⊢;refine{v,t,O,Rep.same s1 _ _ hv,c5 ∎ _ hf,∅,λx H2 D g2 sp hD pr hpr=>?_};let s3:=zD hpr (.lst [x]);let e3:=zB (H:=H2) (a:=pr) (o:=.lst [x]);let hx3:Rep (xN (xN (upd H2 pr (.lst [x])) pp) pr) x t:=by
  refine Sp1.rep _ _ _ (Sp1.keep _ _ _ (λb hb o _ e=>?_) (sp.same s3));rw[xK,xK]
  ·exact e
  ·intro z;subst z;rw[hD b hb] at e1;cases e1
  ·intro z;subst z
   obtain⟨o',ho'⟩:=Sp1.there _ _ _ sp hb;rw[hpr] at ho';cases ho'
 let npr:pr≠pp:=λz=>by subst z;rw[g2 _ _ e1] at hpr;cases hpr
 let g03:=s1.trans (g2.trans s3);let hpp3:=s3 _ _ (g2 _ _ e1);let hpr0:=yG (s1.trans g2) hpr;generalize upd H2 pr (.lst [x])=H3 at s3 e3 hx3 g03 hpp3⊢;refine nAA ∅ ∅ ?_;let hin:n.toNat<=12:=by lia
 refine qU (λi σ H'=>∃(ps rs:List V)(x:V)(t':T)(st:V)(o1 o2:Option V)(ds:List Dd),σ= [Y (V.ref a),Y (V.int k),Y v,Y (V.int n),Y (V.ref pp),Y (V.ref pr),Y st,o1,o2]/\TrR ds t st t'/\Same H H'/\H' pp=Y (.lst ps)/\H' pr=Y (.lst (rs++ [x]))/\Rep (xN (xN H' pp) pr) x t'/\Dlays (xN (xN H' pp) pr) ps ds/\(∀d∈ds,Od d)/\ds...*=i/\T.fewm (30+i) t'/\T.gk t'/\T.dep t'<=10/\T.sz t'<=300+30*i/\rs...*<=i) {[],[],x,t, .non,_,_,[],O, .inl ⟨O,O⟩,g03,hpp3,e3,hx3,{O,λi v d h=>by cases h},(λd h=>nomatch h),O,hf,hgt,∅,∅,mE _} ?_ ?_
 ·rintro i σ H5 hi ⟨ps,rs,y,u,st,o1,o2,ds,rfl,hst,g5,hp5,hr5,hy,hDl,hOd,hdl,hfu,hgu,hdu,hzu,hl2⟩
  let hl1:ps...*<=i:=by rw[hDl.1];lia
  lk;refine{.inl {O,_,SqL.of hp5}, ?_};unfold zHs zNo;refine{pp, .inr {ps,hp5,λo=>?_}};let hrf:upd H5 pp (.frz o (.lst ps)) pr=Y (.lst (rs++ [y])):=by rw[zM npr];exact hr5
  refine{pr, .inr {_,hrf,λo'=>?_}};let hsub:∀{w w':HO},Same (xN (xN H5 pp) pr) (upd (upd H5 pp w) pr w'):=λb u e=>by
   let n2:b≠pr:=λz=>by subst z;rw[jT] at e;cases e
   rw[xK n2] at e;rw[zM n2];exact zAq _ _ e
  let gf:Same H (upd (upd H5 pp (.frz o (.lst ps))) pr (.frz o' (.lst (rs++ [y])))):=wQ (wQ g5 hpp) hpr0;lk;refine zZ (.inl (.inr ⟨o',zB⟩)) (wD _ _) {a,ns,_,y,u,O,gf.seq ha,hns,∅,∅,Rep.same hsub _ _ hy,c5 ∅ _ hfu,hgu,λd wd ks z Hc gc hdd hI=>?_};let gi:Same (upd H5 pp (.frz o (.lst ps))) (L2.thaw (upd H5 pp (.frz o (.lst ps))) Hc):=zAl hrf gc;let hd5:Dlay (xN (L2.thaw (upd H5 pp (.frz o (.lst ps))) Hc) pr) (.ref d) (wd,ks,z):=Dlay.off (gc _ _ zB) hdd;let hpi:=gi _ _ (zB (H:=H5) (a:=pp) (o:=.frz o (.lst ps)));dsimp only;generalize L2.thaw (upd H5 pp (.frz o (.lst ps))) Hc=Hi at gi hd5 hpi⊢;let gt:=zAl hp5 gi;let hd7':Dlay (xN (xN (L2.thaw H5 Hi) pp) pr) (.ref d) (wd,ks,z):=n8 hpi npr.symm hd5;let hd6:Dlay (xN (L2.thaw H5 Hi) pp) (.ref d) (wd,ks,z):=hd7'.same wI;generalize L2.thaw H5 Hi=H6 at gt hd6 hd7'⊢;refine{pp,ps,_,O,O,gt _ _ hp5,by rw[mS];lia, ?_};let hy7:Rep (xN (xN (upd H6 pp (.lst (ps++ [V.ref d]))) pp) pr) y u:=by
   rw[jJ];exact Rep.same (xS (xS gt)) _ _ hy
  let hod:Od (wd,ks,z):=hI.od;let hd7:Dlay (upd H6 pp (.lst (ps++ [V.ref d]))) (.ref d) (wd,ks,z):=hd6.same zAq;let hDl7:Dlays (xN (xN (upd H6 pp (.lst (ps++ [V.ref d]))) pp) pr) (ps++ [V.ref d]) (ds++ [(wd,ks,z)]):=by
   rw[jJ];exact(hDl.same (xS (xS gt))).snoc hd7'
  let g7:Same H (upd H6 pp (.lst (ps++ [V.ref d]))):=wQ (g5.trans gt) hpp;let hp7:upd H6 pp (.lst (ps++ [V.ref d])) pp=_:=zB;let hr7:upd H6 pp (.lst (ps++ [V.ref d])) pr=Y (.lst (rs++ [y])):=by rw[zM npr];exact gt _ _ hr5
  generalize upd H6 pp (.lst (ps++ [V.ref d]))=H7 at hy7 hd7 hDl7 g7 hp7 hr7⊢;let hOd7:∀d'∈ds++ [(wd,ks,z)],Od d':=λd' h=>(mU.mp h).elim (hOd d') λy=>by rw[mG.mp y];exact hod
  let hdl7:(ds++ [((wd,ks,z):Dd)])...*=i+1:=by rw[mM,hdl];rfl
  obtain⟨p',u',ep,hdr,hdi,hdo'⟩:=hd7.dr hod;cases ep;dsimp only;let hIl:=hI.l;let hId:=hI.d;let hIz:=hI.z;rcases hst with⟨rfl,hrun⟩|⟨j,rfl,hrun⟩
  ·refine iP O (zZ (SqL.of hr7) (wD _ _) (zZ (SqL.of hp7) (wD _ _) ?_))
   refine{y,d,wd,ks,u,u',O,Rep.same (λb o e=>wI _ _ (wI _ _ e)) _ _ hy7,c5 ∅ _ hfu,∅,∅,hdr,hdi,λr hdo l x2 H8 g8 hl8 hx8=>?_,λhdo l x2 H8 g8 hl8=>?_}
   ·let g08:=g7.trans g8
    rw[hdo' u] at hdo;refine wC (zGz (m:=30+i) ∅ (b7 ∅ _ hI.f) hI.g ks u r hdo hfu hgu hI.s ∅) λb1 b2 b3 b4=>?_;refine zZ (SqL.of hl8) (zV (j:=0) O) {true,O, ?_};refine iP O {.inl {O,_,SqL.of (g8 _ _ hr7)},zZ (SqL.of hl8) (zV (j:=1) O) {pr,_,_,O,O,g8 _ _ hr7,by rw[mS,mM,nL];lia, ?_}};refine{ps++ [V.ref d],rs++ [y],x2,r, .non,⟨O,_,O⟩,ds++ [(wd,ks,z)],t0 hrun hdo,wQ g08 hpr0,by rw[zM npr.symm];exact g8 _ _ hp7,zB,Rep.same (λb o e=>?_) _ _ hx8,by rw[zBz,jJ,zBz];exact hDl7.same (xS (xS g8)),hOd7,hdl7,b1,b2,∅,∅,by rw[mM,nL];lia};let hb:=zDb e;let n1:b≠pp:=λz=>by subst z;rw[hb] at hp7;cases hp7
    let n2:b≠pr:=λz=>by subst z;rw[hb] at hr7;cases hr7
    rw[xK n2,xK n1,zM n2];rw[wV hb] at e;exact e
   ·let g08:=g7.trans g8
    rw[hdo' u] at hdo;refine zZ (SqL.of hl8) (zV (j:=0) O) {false,O, ?_};refine iN ∎ ?_;exact{ps++ [V.ref d],rs,y,u,_,⟨O,_,O⟩,ds++ [(wd,ks,z)],by rw[Int.zero_add,<-hdl];exact t6 hrun hdo,g08,g8 _ _ hp7,g8 _ _ hr7,Rep.same (xS (xS g8)) _ _ hy7,hDl7.same (xS (xS g8)),hOd7,hdl7,b7 ∅ _ hfu,hgu,∅,∅,∅}
  ·refine iN (by intro z;cases z) ?_
   exact{ps++ [V.ref d],rs,y,u,_,⟨O,_,O⟩,ds++ [(wd,ks,z)],r9 hrun,g7,hp7,hr7,hy7,hDl7,hOd7,hdl7,b7 ∅ _ hfu,hgu,∅,∅,∅}
 ·rintro σ H5 ⟨ps,rs,y,u,st,o1,o2,ds,rfl,hst,g5,hp5,hr5,hy,hDl,hOd,hdl,hfu,hgu,hdu,hzu,hl2⟩
  lk;intro l hl;let s6:=zD hl (.lst [V.ref pp,V.ref pr,st]);let gg:Same (xN (xN H5 pp) pr) (upd H5 l (.lst [V.ref pp,V.ref pr,st])):=λb o e=>s6 _ _ (wI _ _ (wI _ _ e));exact q l pp pr st ps rs y ds u _ (g5.trans s6) zB (s6 _ _ hp5) (hDl.same gg) hOd ∅ (s6 _ _ hr5) (Rep.same gg _ _ hy) hst (b7 ∅ _ hfu) hgu ∅ ∅
abbrev sMk:V6:=top 69
theorem zVv{α:Type}{l:List α}{i:Nat}{a:α}(h:l[i]? =Y a):l.drop i=a::l.drop (i+1):=by
 obtain⟨hi,e⟩:=mO.mp h;rw[pB hi,e]
theorem zWx{us:List T}{i:Nat}{t:T}(h:us[i]? =Y t):us.getD i .non=t:=by rw[sD,h];rfl
noncomputable def mkN:List Nat:=ts (A5 "mark")
noncomputable def omD(ks:List (List Nat))(r:List T×Int):T×Int:=(.dic (vE (ks,r.1) mkN (.int r.2)).1 (vE (ks,r.1) mkN (.int r.2)).2,r.2+1)
noncomputable def omT:Nat->T->Int->T×Int
 | 0,t,c=>(t,c)
 | n+1, .lst us,c=>zXe (gK (omT n) (List.range us...*) us c)
 | n+1, .dic ks us,c=>omD ks (gK (omT n) (ixs ks) us c)
 | n+1, .tup us,c=>mrkU (gK (omT n) (List.range us...*) us c)
 | _+1,t,c=>(t,c+1)
theorem mk_nK:(Sum.inr (A5 "mark"):Key)=nK mkN:=by
 show(Sum.inr _:Key)=Sum.inr (tx (ts _));rw[vH]
theorem zKz{m:Nat}:∀(n:Nat)(t:T)(c:Int),T.fewm m t/\T.sz t<=90000->T.dep t<n->T.fewm (m+1) (omT n t c).1/\T.dep (omT n t c).1<n
 | 0,_,_,_,h=>absurd h (rY _)
 | n+1, .lst us,c,hf,hd=>by
  let hz':T.szs us+1<=90000:=hf.2;let hd':T.deps us+1<n+1:=hd;obtain⟨h1,h2⟩:=zEg (f:=omT n) (A:=λt=>(T.fewm m t/\T.sz t<=90000)/\T.dep t<n) (B:=λt=>T.fewm (m+1) t/\T.dep t<n) (λt c h=>zKz n t c h.1 h.2) (List.range us...*) us c List.nodup_range (λi hi=>tK.mp hi) λi t hi=>by
   refine{λ_=>?_,λz=>absurd (tK.mpr (mO.mp hi).1) z};let hm:=mP hi;let:=b8 hm;let:=c6 hm;exact{{c7 hf.1.2 hm,∅},∅}
  show T.fewm (m+1) (zXe (gK (omT n) (List.range us...*) us c)).1/\T.dep (zXe (gK (omT n) (List.range us...*) us c)).1<n+1;generalize gK (omT n) (List.range us...*) us c=r at h1 h2⊢;let hall:∀t∈r.1++ [T.int r.2],T.fewm (m+1) t/\T.dep t<n:=λt ht=>by
   rcases mU.mp ht with z | z
   ·exact h1 t z
   ·rw[mG.mp z];exact{mI,show 0<n by lia}
  refine{{?_,d6 λt ht=>(hall t ht).1}, ?_}
  ·rw[mM,h2]
   let:=c8 us;show us...*+1<=_
   lia
  ·show T.deps (r.1++ [T.int r.2])+1<n+1
   let:=l7 (n:=n) ∅ λt ht=>(hall t ht).2
   lia
 | n+1, .dic ks us,c,hf,hd=>by
  obtain⟨⟨nk,h64,hl,hf⟩,hz⟩:=hf;let hz':T.szs us+1<=90000:=hz;let hd':T.deps us+1<n+1:=hd;obtain⟨h1,h2⟩:=zEg (f:=omT n) (A:=λt=>(T.fewm m t/\T.sz t<=90000)/\T.dep t<n) (B:=λt=>T.fewm (m+1) t/\T.dep t<n) (λt c h=>zKz n t c h.1 h.2) (ixs ks) us c (zFv nk) (λi hi=>by let:=yCg hi;lia) λi t hi=>by
   refine{λ_=>?_,λz=>absurd (zYd nk (by let:=(mO.mp hi).1;lia)) z};let hm:=mP hi;let:=b8 hm;let:=c6 hm;exact{{c7 hf hm,∅},∅}
  show T.fewm (m+1) (omD ks (gK (omT n) (ixs ks) us c)).1/\T.dep (omD ks (gK (omT n) (ixs ks) us c)).1<n+1;generalize gK (omT n) (ixs ks) us c=r at h1 h2⊢;let hall:∀t∈(vE (ks,r.1) mkN (.int r.2)).2,T.fewm (m+1) t/\T.dep t<n:=λt ht=>by
   rcases zAw ht with z | z
   ·exact h1 t z
   ·rw[z];exact{mI,show 0<n by lia}
  obtain⟨l1,l2⟩:=zDj (ks:=ks) (us:=r.1) (n:=mkN) (t:=.int r.2) (by rw[h2];exact hl);refine{{zAe nk,∅,l1,d6 λt ht=>(hall t ht).1}, ?_};show T.deps (vE (ks,r.1) mkN (.int r.2)).2+1<n+1;let:=l7 (n:=n) ∅ λt ht=>(hall t ht).2
  lia
 | n+1, .tup us,c,hf,hd=>hf.1.elim
 | n+1, .non,c,hf,hd=>⟨mI,hd⟩
 | n+1, .bl _,c,hf,hd=>⟨mI,hd⟩
 | n+1, .int _,c,hf,hd=>⟨mI,hd⟩
 | n+1, .str _,c,hf,hd=>⟨mI,hd⟩
def zTp(n:Nat):Sp:=λvs H Q _=>∃(v:V)(t:T)(D:List V1)(c:Int),vs= [v, .int c]/\Sp1 H v t D/\T.few t/\T.dep t<n/\∀H' D',Keep D H H'->Sp1 H' v (omT n t c).1 D'->(∀b∈D',b∈D)->Q (.int (omT n t c).2) H'
theorem scMk:zS ["_law_thing","_law_number","_law_one","_law_name"] ["_law_thing","_law_number"] (zK sMk):=by walk_at "sc"
def MkW(n:Nat)(H:Hp)(a:V1)(D':List V1)(o0:HO)(xs:List V)(us:List T)(is:List Nat)(c:Int)(i:Nat)(ci:Int)(H2:Hp):Prop:=
 ∃(usi:List T)(Di:List V1),Keep (a::D') H H2/\H2 a=Y o0/\Sps H2 xs usi Di/\(∀b∈Di,b∈D')/\usi...*=us...*/\gK (omT n) (is.drop i) usi ci=gK (omT n) is us c/\∀j∈is.drop i,usi[j]? =us[j]?
theorem MkW.next{n:Nat}{H:Hp}{a:V1}{D':List V1}{o0:HO}{xs:List V}{us:List T}{is:List Nat}{c:Int}{i j:Nat}{ci:Int}{H2:Hp}(h:MkW n H a D' o0 xs us is c i ci H2)(haD:a∉D')(hn:is.Nodup)(hj:is[i]? =Y j){t:T}(ht:us[j]? =Y t):
  ∃v D1,xs[j]? =Y v/\Sp1 H2 v t D1/\(∀b∈D1,b∈D')/\∀H3 D1',Keep D1 H2 H3->Sp1 H3 v (omT n t ci).1 D1'->(∀b∈D1',b∈D1)->MkW n H a D' o0 xs us is c (i+1) (omT n t ci).2 H3:=by
 ext yE h usi Di k2 ha2 hS z_;ext wC z_ hDi hl hmk hsame;let ed:=zVv hj;let hti:usi[j]? =Y t:=by rw[hsame j (by rw[ed];exact mF)];exact ht
 refine yE (hS.at hti) λv D1 g1 g2 g3 g4=>?_;refine zEu v D1 g1 g2 (λb hb=>hDi b (g3 b hb)) (λH3 D1' k3 hs hsub=>?_);obtain⟨D2,e1,e2⟩:=g4 H3 _ D1' hs hsub k3;refine{_,D2,k2.trans (k3.mono λb hb=>mH _ (hDi b (g3 b hb))),k3 _ _ (λz=>haD (hDi a (g3 a z))) ha2,e1,λb hb=>hDi b (e2 b hb),by rw[aY];exact hl, ?_,λj' hj'=>?_}
 ·rw[<-hmk,ed]
  show _=gK (omT n) (is.drop (i+1)) (usi.set j (omT n (usi.getD j .non) ci).1) (omT n (usi.getD j .non) ci).2;rw[zWx hti]
 ·let hne:j'≠j:=λz=>by
   let hnd:(is.drop i).Nodup:=hn.sublist (List.drop_sublist i is);rw[ed,pM] at hnd;exact hnd.1 (z▸hj')
  rw[tG (Ne.symm hne)];exact hsame j' (by rw[ed];exact mH _ hj')
theorem MkW.fin{n:Nat}{H:Hp}{a:V1}{D':List V1}{o0:HO}{xs:List V}{us:List T}{is:List Nat}{c:Int}{i:Nat}{ci:Int}{H2:Hp}(h:MkW n H a D' o0 xs us is c i ci H2)(hi:is...*<=i):
  ∃(usi:List T)(Di:List V1),Keep (a::D') H H2/\H2 a=Y o0/\Sps H2 xs usi Di/\(∀b∈Di,b∈D')/\usi...*=us...*/\gK (omT n) is us c=(usi,ci):=by
 ext yE h usi Di k2 ha2 hS z_;ext wC z_ hDi hl hmk _;rw[pT hi] at hmk;exact zEu usi Di k2 ha2 hS (nAA hDi hl hmk.symm)
theorem yAn{n:Nat}(F:Fun K "_law_own_marks" "_law_own_marks" sMk f fd)(B:Bl2 mg)(G_law_own_marks:Dn P w K mg base (1+n) "_law_own_marks" ["_law_thing","_law_number"] (zTp n)):FnOk P w K mg base CX0 (1+n+1) f fd ["_law_thing","_law_number"] (zTp (n+1)):=by
 refine F.ok scMk (λvs H Q E h=>?_) (λc A o s H vs Q E hr h=>?_)
 ·ext yV h v t D c r4_ _
  subst r4_
  rfl
 ext yV h v t D c r4_ z_;ext wC z_ hv hf hd q;subst r4_;let nd:=scMk.nd;let hu:=vA hr;refine{_,(zF (zW (yF (zO (qA (T:="list") (U:="tuple") ∎ ∎) O B.isinstance zI (zA (pv 0) (zA (yZ (zA (xL (v:=.ty "list") O B.list yU O) (zA (xL (v:=.ty "tuple") O B.tuple uC O) zC))) zC)))) (zG (vO PassesOwn.never O (xQ (yJ kS O B.list yU (zA (pv 0) zC))) (yI (i:=2) nd O (nU O)) (zG (pS 1 nd (zR G_law_own_marks hr ∅ O (zA (pv 2) (zA (pv 1) zC))))))) zL)
  (zF (zW (yF (pI B.isinstance zI B.dict xA (pv 0))) (zF (vO PassesOwn.never O (xQ (zO (vS O) O B.sorted kC (zA (pv 0) zC))) (yI (i:=3) nd O (nU O)) (zG (pS 1 nd (zR G_law_own_marks hr ∅ O (zA (jU hu (pv 0) (pv 3) (λ_ _=>O)) (zA (pv 1) zC))))))
  (zG (zBd hu (pv 0) zN (pv 1) O))) zL)
  (zF (zW (yF (pI B.isinstance zI B.list yU (pv 0))) (zG (wF (qT pA pV rA qC (pv 0) (zA (pv 1) zC)))) zL)
  (zG (zJ (zH yT (pv 1) zE)))))), ?_}
 walk_at "st";lk
 cases t with
 | lst us=>
  ext yD hv a xs D' r3_ ha z_;ext oAA z_ r5_ haD hs;subst r3_ r5_;intro p hp;let s1:=zD hp (.tup [V.ty "list",V.ty "tuple"]);let e1:=zB (H:=H) (a:=p) (o:=.tup [V.ty "list",V.ty "tuple"]);generalize upd H p (.tup [V.ty "list",V.ty "tuple"])=H1 at s1 e1⊢;let ha1:=s1 _ _ ha;let hul:=hf.1;let hxl:=hs...*;let hd':T.deps us+1<n+1:=hd;refine qQ _ ("list") p ⟨O,O⟩ e1 (nA (vW ha1) (iP ∎ {a,O,xs, .inl (SqL.of ha1),λl hl=>{{_,SqL.of zB}, ?_}}));let s2:=zD hl (.lst xs);let e2:=zB (H:=H1) (a:=l) (o:=.lst xs);let hl0:=yG s1 hl;generalize upd H1 l (.lst xs)=H2 at s2 e2⊢;let g2:=s1.trans s2;let hla:l∉a::D':=λz=>by
   rcases mD.mp z with z | z
   ·rw[z,ha] at hl0;cases hl0
   ·obtain⟨o,ho⟩:=Sps.there _ _ _ hs z
    rw[hl0] at ho;cases ho
  refine jF (K:=K) (a:=l) (xs:=xs) (λi σ H2=>∃o ci,σ= [Y (V.ref a),Y (.int ci),o,none]/\H2 l=Y (.lst xs)/\MkW n H a D' (.lst xs) xs us (List.range us...*) c i ci H2) {_,_,O,e2,us,D',Keep.of g2,g2 _ _ ha,hs.same g2,λ_ h=>h,O,O,λ_ _=>O} (λi σ H2 _ h=>by
   ext yM h o ci _ h _;exact SqL.of h) ?_ ?_
  ·intro i x σ H3 hx z_
   ext yM z_ o ci r2_ hl3 hW;subst r2_;let hi:i<us...*:=by let:=(mO.mp hx).1;lia
   let hm:=sR hi;let d1:=b8 hm;refine yE (hW.next haD List.nodup_range (j:=i) (by simp[hi]) (mT hi)) λv' D1 g1 g2 g3 g4=>?_;rw[hx] at g1;cases g1;lk;exact{x,us[i],D1,ci,O,g2,b9 hf.2 hm,∅,λH4 D1' k4 hs4 hsub=>{_,_,⟨O,O⟩,k4 _ _ (λz=>hla (mH _ (g3 l z))) hl3,g4 H4 D1' k4 hs4 hsub}}
  ·intro σ H3 z_
   ext yM z_ o ci r2_ hl3 hW;subst r2_;obtain⟨usi,Di,k3,ha3,hS,hDi,hli,hmk⟩:=hW.fin (by rw[bL];lia);lk;refine nEA ("list") (vW ha3) (iN ∎ {"list",vW ha3,iP ∎ {.inl {O,_,SqL.of ha3},a,xs, .int ci,O,O,ha3,by rw[mS];lia, ?_}});let e:omT (n+1) (.lst us) c=(.lst (usi++ [.int ci]),ci+1):=by
    show zXe (gK (omT n) (List.range us...*) us c)=_;rw[hmk];rfl
   let haDi:a∉Di:=λz=>haD (hDi a z);let:=q (upd H3 a (.lst (xs++ [.int ci]))) (a::Di) (k3.put _ mF);rw[e] at this;refine this {a,_,Di,O,zB,O,haDi, ?_} λb hb=>?_
   ·let:=Sps.snoc (show Sp1 (upd H3 a (.lst (xs++ [.int ci]))) (.int ci) (.int ci) [] from⟨O,O⟩) (Sps.keep _ _ _ (λb hb o _ e=>by rw[zM (show b≠a from λz=>haDi (z▸hb))];exact e) hS) (λ_ _ z=>nomatch z)
    rw[pQ] at this;exact this
   ·rcases mD.mp hb with z | z
    ·rw[z];exact mF
    ·exact mH _ (hDi b z)
 | dic ks us=>
  ext yD hv a ps D' r3_ ha z_;ext wC z_ hk r6_ haD hs;subst r3_ r6_;ext wC hf nk h64 hle hf;let hxl:=hs...*;rw[mL] at hxl;let hd':T.deps us+1<n+1:=hd;let nkp:(ps.map (·.1)).Nodup:=by rw[hk];exact kO nk
  intro p hp;let s1:=zD hp (.tup [V.ty "list",V.ty "tuple"]);let e1:=zB (H:=H) (a:=p) (o:=.tup [V.ty "list",V.ty "tuple"]);generalize upd H p (.tup [V.ty "list",V.ty "tuple"])=H1 at s1 e1⊢;let ha1:=s1 _ _ ha;refine qQ _ ("dict") p ⟨O,O⟩ e1 (nA (qX ha1) (iN ∎ {"dict",qX ha1,iP ∎ {a,O,ps, .inl ha1,ks.map tx,by rw[hk,sB];rfl,by rw[mL];exact h64,λl ss hl hp1 hs1=>{{_,SqL.of zB}, ?_}}}));let es:=zBg hp1 hs1;subst es;let s2':=zD hl (.lst (((wJ ks).map tx).map V.str));let e2:=zB (H:=H1) (a:=l) (o:=.lst (((wJ ks).map tx).map V.str));let hl0:=yG s1 hl;generalize upd H1 l (.lst (((wJ ks).map tx).map V.str))=H2 at s2' e2⊢;let s2:=s1.trans s2';let hla:l∉a::D':=λz=>by
   rcases mD.mp z with z | z
   ·rw[z,ha] at hl0;cases hl0
   ·obtain⟨o,ho⟩:=Sps.there _ _ _ hs z
    rw[hl0] at ho;cases ho
  refine jF (K:=K) (a:=l) (xs:=((wJ ks).map tx).map V.str) (λi σ H2=>∃o ci,σ= [Y (V.ref a),Y (.int ci),none,o]/\H2 l=Y (.lst (((wJ ks).map tx).map V.str))/\MkW n H a D' (.dK ps) (ps.map (·.2)) us (ixs ks) c i ci H2) {_,_,O,e2,us,D',Keep.of s2,s2 _ _ ha,hs.same s2,λ_ h=>h,O,O,λ_ _=>O} (λi σ H2 _ h=>by
   ext yM h o ci _ h _;exact SqL.of h) ?_ ?_
  ·intro i x σ H3 hx z_
   ext yM z_ o ci r2_ hl3 hW;subst r2_;obtain⟨k,hks,rfl⟩:∃k,(wJ ks)[i]? =Y k/\x= .str (tx k):=by
    rw[nH,nH] at hx
    cases hc:(wJ ks)[i]? with
    | none=>rw[hc] at hx;cases hx
    | some k=>rw[hc] at hx;exact{k,O,(mR hx).symm}
   let hkm:k∈ks:=mem_sortK.mp (mP hks);let hjk:=zCt hkm;let hj:ks.idxOf k<us...*:=by let:=sX hkm;lia
   let hm:=sR hj;let d1:=b8 hm;obtain⟨v',D1,g1,g2,g3,g4⟩:=hW.next haD (zFv nk) (j:=ks.idxOf k) (by unfold ixs;rw[nH,hks];rfl) (mT hj);obtain⟨kv,hkv,rfl⟩:∃kv,ps[ks.idxOf k]? =Y kv/\kv.2=v':=by
    rw[nH] at g1
    cases hc:ps[ks.idxOf k]? with
    | none=>rw[hc] at g1;cases g1
    | some kv=>rw[hc] at g1;exact{kv,O,mR g1}
   let hk1:kv.1=nK k:=by
    let h1:(ps.map (·.1))[ks.idxOf k]? =Y kv.1:=by rw[nH,hkv];rfl
    rw[hk,nH,hjk] at h1;exact(mR h1).symm
   let hvv:jD ps (nK k)=Y kv.2:=uQ nkp (by rw[hkv,<-hk1]);let ha3:H3 a=Y (.dK ps):=by obtain⟨_,_,_,h,_⟩:=hW;exact h
   lk;exact{kv.2, .inl {ps,nK k, .inl ha3,O,hvv.symm},kv.2,us[ks.idxOf k],D1,ci,O,g2,b9 hf hm,∅,λH4 D1' k4 hs4 hsub=>{_,_,⟨O,O⟩,k4 _ _ (λz=>hla (mH _ (g3 l z))) hl3,g4 H4 D1' k4 hs4 hsub}}
  ·intro σ H3 z_
   ext yM z_ o ci r2_ hl3 hW;subst r2_;obtain⟨usi,Di,k3,ha3,hS,hDi,hli,hmk⟩:=hW.fin (by rw[mL,mL];unfold ixs;rw[mL];exact mE _);lk;refine nEA _ (DPut.k (k:=Sum.inr (A5 "mark")) ha3 (by rw[mS];lia)) ?_;rw[mk_nK];obtain⟨hk5,D5,hS5,hD5⟩:=Sps.put (n:=mkN) (c:=ci) hk hS;let haD5:a∉D5:=λz=>haD (hDi a (hD5 a z));let k4:=k3.put (.dK (vM ps (nK mkN) (.int ci))) (a:=a) mF;let ha4:=zB (H:=H3) (a:=a) (o:=.dK (vM ps (nK mkN) (.int ci)));let hS6:Sps (upd H3 a (.dK (vM ps (nK mkN) (.int ci)))) ((vM ps (nK mkN) (.int ci)).map (·.2)) (vE (ks,usi) mkN (.int ci)).2 D5:=Sps.keep _ _ _ (λb hb o _ e=>by rw[zM (show b≠a from λz=>haD5 (z▸hb))];exact e) hS5;generalize upd H3 a (.dK (vM ps (nK mkN) (.int ci)))=H4 at k4 ha4 hS6⊢;refine nEA ("dict") (qX ha4) (iN ∎ ?_);let e:omT (n+1) (.dic ks us) c=(.dic (vE (ks,usi) mkN (.int ci)).1 (vE (ks,usi) mkN (.int ci)).2,ci+1):=by
    show omD ks (gK (omT n) (ixs ks) us c)=_;rw[hmk];rfl
   let:=q H4 (a::D5) k4;rw[e] at this;refine this ⟨a,_,D5,O,ha4,hk5,O,haD5,hS6⟩ λb hb=>?_;rcases mD.mp hb with z | z
   ·rw[z];exact mF
   ·exact mH _ (hDi b (hD5 b z))
 | tup us=>exact hf.elim
 | non=>
  let hv':v= .non:=hv.2;subst hv';refine λp hp=>{_,_,p,⟨O,O⟩,zB,O,iN ∎ {_,O,iN ∎ {_,O,iN ∎ ?_}}};exact q _ [] (Keep.of (zD hp _)) ⟨O,O⟩ (λ_ h=>nomatch h)
 | bl b=>
  let hv':v= .bl b:=hv.2;subst hv';refine λp hp=>{_,_,p,⟨O,O⟩,zB,O,iN ∎ {_,O,iN ∎ {_,O,iN ∎ ?_}}};exact q _ [] (Keep.of (zD hp _)) ⟨O,O⟩ (λ_ h=>nomatch h)
 | int b=>
  let hv':v= .int b:=hv.2;subst hv';refine λp hp=>{_,_,p,⟨O,O⟩,zB,O,iN ∎ {_,O,iN ∎ {_,O,iN ∎ ?_}}};exact q _ [] (Keep.of (zD hp _)) ⟨O,O⟩ (λ_ h=>nomatch h)
 | str b=>
  let hv':v= .str (tx b):=hv.2;subst hv';refine λp hp=>{_,_,p,⟨O,O⟩,zB,O,iN ∎ {_,O,iN ∎ {_,O,iN ∎ ?_}}};exact q _ [] (Keep.of (zD hp _)) ⟨O,O⟩ (λ_ h=>nomatch h)
theorem zZr(F:Fun K "_law_own_marks" "_law_own_marks" sMk f fd):FnOk P w K mg base CX0 1 f fd ["_law_thing","_law_number"] (zTp 0):=by
 refine F.ok scMk (λvs H Q E h=>?_) (λc A o s H vs Q E hr h=>?_)
 ·ext yV h v t D c r4_ _
  subst r4_
  rfl
 ext yV h v t D c r4_ z_;ext wC z_ hv hf hd _;subst r4_;exact absurd hd (rY _)
theorem zSg(F:Fun K "_law_own_marks" "_law_own_marks" sMk f fd)(B:Bl2 mg)(b:Binds K fd ["_law_thing","_law_number"] [])(kp:A7 K (.ref f)=true)(m:mg "_law_own_marks" =Y (.ref f)):∀n:Nat,FnOk P w K mg base CX0 (1+n) f fd ["_law_thing","_law_number"] (zTp n)
 | 0=>zZr F
 | n+1=>yAn F B {_,_,zSg F B b kp m n,b,kp,m}
abbrev sPc:V6:=top 68
abbrev sRo:V6:=top 66
def spPc:Sp:=λvs H Q _=>∃(a:V1)(xs:List V)(ds:List Dd),vs= [.ref a]/\H a=Y (.lst xs)/\Dlays H xs ds/\ds...*<=400/\(∀d∈ds,Od d)/\∀l ys D H',Same H H'->H l=none->H' l=Y (.lst ys)->Sps H' ys (ds.map ddT) D->(∀b∈D,H b=none/\b≠l)->Q (.ref l) H'
theorem scPc:zS ["_law_paper"] ["_law_paper"] (zK sPc):=by walk_at "sc"
theorem ok_pc{k:Nat}(F:Fun K "_law_paper_copy" "_law_paper_copy" sPc f fd)(B:Bl6 mg)(G_law_held:Dn P w K mg base k "_law_held" ["_law_thing"] (zDz 20)):FnOk P w K mg base CX0 (k+1) f fd ["_law_paper"] spPc:=by
 refine F.ok scPc (λvs H Q E h=>?_) (λc A o s H vs Q E hr h=>?_)
 ·ext qI h a xs ds r3_ _
  subst r3_
  rfl
 ext yD h a xs ds r3_ ha z_;ext wC z_ hD hl4 hok q;subst r3_;let nd:=scPc.nd;let hu:=vA hr;refine nEA _ (zG (zJ (xP (own:=["_law_deed_here"]) (F:=[]) {O,tb_g%,tb_g%,tb_g%, .nil} O (xQ (pv 0)) (λ_ _ _ _=>yI (i:=0) (by show(wB ["_law_deed_here"] []).Nodup;decide+kernel) O (nU O)) (λ_ _ _ _=>yX) (λ_ _ _ _=>(zH (zTf (K:=K) O) (yZ (zA (yB (zNu (K:=K) O) (pv 0) zE (λ_ _=>O)) (zA (yJ (qM (K:=K) O) O B.list yU (zA (yB (zNu (K:=K) O) (pv 0) zE (λ_ _=>O)) zC)) zC))) (yJ (zOy (K:=K) O) O B.tuple uC (zA (zR G_law_held hr ∅ O (zA (yJ (qM (K:=K) O) O B.list yU (zA (qD (zXt (K:=K) O) (pv 0) (jB zE) jC) zC)) zC)) zC))))))) ?_;walk_at "st";lk;let hxl:=hD.1;refine{{_,SqL.of ha},wO (K:=K) (xs:=xs) (λi ys H'=>Same H H'/\∃D,Sps H' ys ((ds.take i).map ddT) D/\∀b∈D,H b=none) (by rw[mS];lia) {Same.refl _,[],⟨O,O⟩,λ_ h=>nomatch h} (λi ys H' _ h=>SqL.of (h.1 _ _ ha)) ?_ ?_}
 ·rintro i v ys H2 hv _ ⟨g2,D,hS,hDn⟩
  lk;let hil:=(mO.mp hv).1;let hdi:ds[i]? =some ds[i]:=mT ∅;refine yD ((hD.2 i v _ hv hdi).same g2) λtp pd r r3_ hp z_=>?_;ext oA z_ hpd hr4;subst r3_;let okd:=hok _ (mP hdi);generalize ds[i]=d at hdi hp hpd hr4 okd;let fin:∀z H4 D1,Same H2 H4->Sp1 H4 z (ddT d) D1->(∀b∈D1,H2 b=none)->Same H H4/\∃D,Sps H4 (ys++ [z]) ((ds.take (i+1)).map ddT) D/\∀b∈D,H b=none:=λz H4 D1 g4 hz hn=>by
   refine zXd (g2.trans g4) (D++D1) ?_ (λb hb=>(mU.mp hb).elim (hDn b) λh=>yG g2 (hn b h));rw[yN hdi,nJ];refine Sps.snoc hz (hS.same g4) λb hb hb1=>?_;obtain⟨o,ho⟩:=Sps.there _ _ _ hS hb;rw[hn b hb1] at ho;cases ho
  refine qK (SqT.of hp) (zV (j:=0) O) (qK (SqT.of hp) (zV (j:=1) O) {pd,O,_, .inl (SqL.of hpd),λl hl p hp2=>?_});let s3:=zD hl (.lst (d.2.1.map kV));let e3:=zB (H:=H2) (a:=l) (o:=.lst (d.2.1.map kV));generalize upd H2 l (.lst (d.2.1.map kV))=H3 at s3 e3 hp2⊢;let s4:=zD hp2 (.tup [V.str d.1.s,V.ref l]);let e4:=zB (H:=H3) (a:=p) (o:=.tup [V.str d.1.s,V.ref l]);let el:=s4 _ _ e3;generalize upd H3 p (.tup [V.str d.1.s,V.ref l])=H4 at s4 e4 el⊢;let g4:=s3.trans s4;refine{tp,_,O,SqT.of (g4 _ _ hp), .inr {λz=>?_,λp3 hp3=>?_}}
  ·let z1:=z.1
   rw[show(2:Int)=((2:Nat):Int) from O,HT.sIx_nat,mW,mW] at z1
   lia
  rw[show kL (V.str d.1.s::V.ref pd::r) ↥2 none=r from zUo _ 2];let s5:=zD hp3 (.tup r);let e5:=zB (H:=H4) (a:=p3) (o:=.tup r);generalize upd H4 p3 (.tup r)=H5 at s5 e5⊢;refine qF p3 O r (.inr (SqT.of e5)) (λl2 hl2=>?_);let s6:=zD hl2 (.lst r);let e6:=zB (H:=H5) (a:=l2) (o:=.lst r);generalize upd H5 l2 (.lst r)=H6 at s6 e6⊢;let g26:=g4.trans (s5.trans s6);let l8:=okd.l;let ldd:=okd.dd;rcases hr4 with⟨hw,rfl⟩|⟨hw,x,rfl,hx⟩
  ·refine{.ref l2, .lst [],O,{l2,[],O,e6,O},{by decide,mI},by decide,λv' H7 D' g7 sp7 hD7=>?_}
   ext yD sp7 p7 ws D7 r3_ hp7 z_;ext oAA z_ r5_ np7 hs7;subst r3_ r5_;let ew:ws= []:=hs7.1;subst ew;refine zVl p7 O ([]) (.inl {SqL.of hp7,λp8 hp8=>?_});let s8:=zD hp8 (.tup []);let g48:=(s5.trans s6).trans (g7.trans s8);refine{p,p8,_,[],O,O,SqT.of (g48 _ _ e4),SqT.of zB,by simp,by rw[mS];show 2<=_;decide,λ_=>?_,λh=>absurd O h};obtain⟨w',ks,n⟩:=d;let hw':w'= .tak:=hw;subst hw';refine fin _ _ [p,l] (g4.trans g48) (yBj (g48 _ _ e4) (g48 _ _ el)) λb hb=>?_;rcases mD.mp hb with z | z
   ·rw[z];exact yG s3 hp2
   ·rw[mG.mp z];exact hl
  ·let hx6:=Rep.same g26 _ _ hx
   let hd20:T.dep d.2.2+1<20:=by lia
   refine{.ref l2, .lst [d.2.2],O,{l2,[x],O,e6,x,[],O,hx6,O},{by show 1<=100000;decide,(c5 ∎ _ okd.f),mI},by show max (T.dep d.2.2) 0+1<20;lia,λv' H7 D' g7 sp7 hD7=>?_};ext yD sp7 p7 ws D7 r3_ hp7 z_;ext oAA z_ r5_ np7 hs7;subst r3_ r5_;obtain⟨x',r',E1,E2,ew,eD,hx7,⟨e1,e2⟩,_⟩:=hs7;subst e1 e2;subst ew eD;refine zVl p7 O ([x']) (.inl {SqL.of hp7,λp8 hp8=>?_});let s8:=zD hp8 (.tup [x']);let e8:=zB (H:=H7) (a:=p8) (o:=.tup [x']);generalize upd H7 p8 (.tup [x'])=H8 at s8 e8⊢;let g48:=(s5.trans s6).trans (g7.trans s8);refine{p,p8,_,[x'],O,O,SqT.of (g48 _ _ e4),SqT.of e8,by simp,by rw[mS];show 3<=_;decide,(λh=>by cases h),λ_ p9 hp9=>?_};let s9:=zD hp9 (.tup ([V.str d.1.s,V.ref l]++ [x']));let e9:=zB (H:=H8) (a:=p9) (o:=.tup ([V.str d.1.s,V.ref l]++ [x']));generalize upd H8 p9 (.tup ([V.str d.1.s,V.ref l]++ [x']))=H9 at s9 e9⊢;let g49:=g48.trans s9;let hx9:=(hx7.same s8).same s9;obtain⟨w',ks,n⟩:=d;let new7:∀b∈E1,H6 b=none:=λb hb=>hD7 b (mH _ (nV _ hb));refine fin _ _ _ (g4.trans g49) (yAm hw e9 (g49 _ _ el) hx9 (λz=>?_) (λz=>?_)) λb hb=>?_
   ·obtain⟨o,ho⟩:=Sp1.there _ _ _ (hx7.same s8) z
    rw[hp9] at ho;cases ho
   ·let:=new7 l z
    rw[(s5.trans s6) _ _ el] at this;cases this
   ·rcases mD.mp hb with z | z
    ·rw[z];exact yG (g4.trans g48) hp9
    ·rcases mD.mp z with z | z
     ·rw[z];exact hl
     ·exact yG g26 (new7 b z)
 ·rintro ys H2 _ ⟨g2,D,hS,hDn⟩ l hl
  let s3:=zD hl (.lst ys);rw[hxl,pE] at hS;refine q l ys D _ (g2.trans s3) (yG g2 hl) zB (hS.same s3) λb hb=>{hDn b hb,λz=>?_};obtain⟨o,ho⟩:=Sps.there _ _ _ hS hb;rw[z,hl] at ho;cases ho
def yCa:Sp:=λvs H Q _=>∃(v:V)(pa:V1)(xs:List V)(t:T)(ds:List Dd)(m:Nat),vs= [v, .ref pa]/\Rep H v t/\H pa=Y (.lst xs)/\Dlays H xs ds/\RJ m ds t/\∀l pr rs x st u m' H',Same H H'->H' l=Y (.lst [.ref pa, .ref pr,st])->H' pr=Y (.lst (rs++ [x]))->Rep H' x u->TrR ds t st u->RJ m' [] u->Q (.ref l) H'
theorem RJ.less{m:Nat}{d:Dd}{ds:List Dd}{s:T}(h:RJ m (d::ds) s):RJ m ds s:={h.f,h.m0,by let:=h.m1;rw[mW] at this;lia,h.g,h.d,by let:=h.z;rw[mW] at this;lia,λd' hd'=>h.o d' (mH _ hd')}
theorem RJ.nil{m:Nat}:∀{ds:List Dd}{s:T},RJ m ds s->RJ m [] s
 | [],_,h=>h
 | _::_,_,h=>RJ.nil h.less
theorem scRo:zS ["_law_thing","_law_paper","_law_rows","_law_j","_law_pair"] ["_law_thing","_law_paper"] (zK sRo):=by walk_at "sc"
theorem ok_ro{k:Nat}(F:Fun K "_law_rows_of" "_law_rows_of" sRo f fd)(B:Bl2 mg)(G_law_held:Dn P w K mg base k "_law_held" ["_law_thing"] (zDz 20))(G_law_deed_on:Dn P w K mg base k "_law_deed_on" ["_law_thing","_law_deed_here"] yBn):FnOk P w K mg base CX0 (k+1) f fd ["_law_thing","_law_paper"] yCa:=by
 refine F.ok scRo (by walk_at "ln") λc A o s H vs Q E hr h=>?_;obtain⟨v,pa,xs,t,ds,m,rfl,hv,hpa,hD,hI,q⟩:=h;let nd:=scRo.nd;let hu:=vA hr;refine{_,(zF (pS 2 nd (zT (zA (zR G_law_held hr ∅ O (zA (pv 0) zC)) zC)))
  (zF (vO PassesOwn.never O (xT O B.range (zA (zO yL O B.len yW (zA (pv 1) zC)) zC)) (yI (i:=3) nd O (nU O)) (zF (pS 4 nd (zR G_law_deed_on hr ∅ O (zA (yB zP (pv 2) (wS xR zE) (λ_ _=>O)) (zA (yB zP (pv 1) (pv 3) (λ_ _=>O)) zC))))
  (zF (zW (wL (yF (yB zP (pv 4) zE (λ_ _=>O)))) (zG (zJ (zT (zA (pv 1) (zA (pv 2) (zA (pv 3) zC)))))) zL)
  (zG (wF (qT pA pV rA qC (pv 2) (zA (yB zP (pv 4) zE (λ_ _=>O)) zC)))))))
  (zG (zJ (zT (zA (pv 1) (zA (pv 2) (zA gQ zC)))))))), ?_}
 walk_at "st";lk;let hd8:=hI.d;let hm1:=hI.m1;refine{v,t,O,hv,hI.few,∅,λx H1 D g1 sp hDn pr hpr=>?_};let s2:=zD hpr (.lst [x]);let e2:=zB (H:=H1) (a:=pr) (o:=.lst [x]);let hpr0:=yG g1 hpr;let hx2:Rep (xN (upd H1 pr (.lst [x])) pr) x t:=Rep.same (λb o e=>by
  let hb:b≠pr:=λz=>by subst z;rw[hpr] at e;cases e
  rw[xK hb,zM hb];exact e) _ _ (Sp1.rep _ _ _ sp)
 let g2:=g1.trans s2;generalize upd H1 pr (.lst [x])=H2 at s2 e2 hx2 g2⊢;let hxl:=hD.1;refine zDl xs (SqL.of (g2 _ _ hpa)) ∅ ∅ ?_;refine qU (λi σ H'=>∃(rs:List V)(y:V)(s:T)(o1 o2:Option V)(m':Nat),σ= [Y v,Y (V.ref pa),Y (V.ref pr),o1,o2]/\Same H H'/\H' pr=Y (.lst (rs++ [y]))/\rs...*<=i/\Rep (xN H' pr) y s/\RJ m' (ds.drop i) s/\wY i (ds.drop i) s=wY 0 ds t) {[],x,t,_,_,m,O,g2,e2,mE _,hx2,hI,O} ?_ ?_
 ·rintro i σ H5 hi ⟨rs,y,s,o1,o2,m',rfl,g5,hr5,hrl,hy,hRI,hrn⟩
  lk;let hil:i<xs...*:=by lia
  let hv5:xs[i]? =some xs[i]:=mT hil;let hdi:ds[i]? =some ds[i]:=mT ∅;let hdr:ds.drop i=ds[i]::ds.drop (i+1):=pB ∅;rw[hdr] at hRI hrn;let hz:=hRI.z;let hd:=hRI.d;let hm:=hRI.m1;obtain⟨tp,u,etp,hDR,hDI,heq⟩:=((hD.2 i _ _ hv5 hdi).same g5).dr (hRI.o _ mF);rw[show(0:Int)+(i:Int)=(i:Int) by lia];refine zZ (SqL.of hr5) (wD _ _) (zZ (SqL.of (g5 _ _ hpa)) (zV hv5) ?_);rw[etp];refine{y,tp,ds[i].1,ds[i].2.1,s,u,O,Rep.same wI _ _ hy,hRI.few,∅,∅,hDR,hDI,λr' hdo l x2 H8 g8 hl8 hx8=>?_,λhn l x2 H8 g8 hl8=>?_}
  ·rw[heq s] at hdo
   rw[zCu hdo] at hrn;refine zZ (SqL.of hl8) (zV (j:=0) O) {true,O,iN ∎ {.inl {O,_,SqL.of (g8 _ _ hr5)},zZ (SqL.of hl8) (zV (j:=1) O) {pr,_,_,O,O,g8 _ _ hr5,by rw[mS,mM,nL];lia, ?_}}};refine{⟨_,O⟩,wQ (g5.trans g8) hpr0,rs++ [y],x2,zB,by rw[mM,nL];lia,r',Rep.same (λb o e=>?_) _ _ hx8,{_,hRI.step hdo},hrn};let hb:=zDb e;let n2:b≠pr:=λz=>by subst z;rw[hb] at hr5;cases hr5
   rw[xK n2,zM n2];rw[wV hb] at e;exact e
  ·rw[heq s] at hn
   rw[zCq hn] at hrn;refine zZ (SqL.of hl8) (zV (j:=0) O) {false,O,iP O λl3 hl3=>?_};let s9:=zD hl3 (.lst [V.ref pa,V.ref pr,V.int (i:Int)]);let g9:=g8.trans s9;exact q l3 pr rs y _ s m' _ (g5.trans g9) zB (g9 _ _ hr5) (Rep.same g9 _ _ (Rep.same wI _ _ hy)) (.inr ⟨i,O,hrn.symm⟩) hRI.nil
 ·rintro σ H5 ⟨rs,y,s,o1,o2,m',rfl,g5,hr5,hrl,hy,hRI,hrn⟩
  lk;rw[show(xs...*:Int).toNat=ds...* by lia,aQ] at hrn hRI;intro l hl;let s6:=zD hl (.lst [V.ref pa,V.ref pr,V.non]);exact q l pr rs y _ s m' _ (g5.trans s6) zB (s6 _ _ hr5) (Rep.same s6 _ _ (Rep.same wI _ _ hy)) (.inl ⟨O,hrn.symm⟩) hRI
abbrev sPu:V6:=top 65
theorem i3{H:Hp}{tp pd:V1}{ks:List Key}{x:V}{n:T}(w:Wd)(hw:w≠ .tak)(h:H tp=Y (.tup [.str w.s, .ref pd,x]))(hp:H pd=Y (.lst (ks.map kV)))(hx:Rep H x n):Dlay H (.ref tp) (w,ks,n):={tp,pd,[x],O,h,hp, .inr ⟨hw,x,O,hx⟩}
theorem m6{H:Hp}{tp pd:V1}{ks:List Key}(h:H tp=Y (.tup [.str Wd.tak.s, .ref pd]))(hp:H pd=Y (.lst (ks.map kV))):Dlay H (.ref tp) (.tak,ks, .non):={tp,pd,[],O,h,hp, .inl ⟨O,O⟩}
theorem k7{H:Hp}{ys:List V}:∀{es:List Dd}{xs:List V}{ds:List Dd},Dlays H ys es->Dlays H xs ds->Dlays H (xs++ys) (ds++es):=λ{es xs ds} h2 h1=>by
 obtain⟨hl,h⟩:=h1;obtain⟨hl2,h'⟩:=h2;refine{by rw[mM,mM];lia,λi v d hv hd=>?_}
 by_cases c:i<xs...*
 ·rw[pL c] at hv
  rw[pL ∅] at hd;exact h i v d hv hd
 ·rw[pH ∅] at hv
  rw[pH ∅,<-hl] at hd;exact h' _ v d hv hd
theorem Dlays.nil{H:Hp}:Dlays H [] []:={O,λi v d h=>by cases h}
theorem Dlays.one{H:Hp}{v:V}{d:Dd}(h:Dlay H v d):Dlays H [v] [d]:=Dlays.snoc (xs:=[]) (ds:=[]) Dlays.nil h
theorem cutD(m:Int)(h:m=0\/m=1\/m=2):∃ks:List Key,kL [V.str (A5 "d"),V.int 0,V.int 0,V.int 0,V.int 0,V.int 0,V.int 0] none ↥(7 - m)=ks.map kV/\(∀k∈ks,okS k)/\ks...*<=7:=by
 let key:∀n:Nat,∀k∈(.inr (A5 "d")::List.replicate n (.inl 0):List Key),okS k:=λn k hk=>by
  rcases mD.mp hk with z | z
  ·rw[z];show yQ (ts (A5 "d"))=true;decide+kernel
  ·rw[(cU.mp z).2];exact{by decide,by decide}
 rcases h with rfl | rfl | rfl
 ·exact{.inr (A5 "d")::List.replicate 6 (.inl 0),O,key 6,by decide}
 ·exact{.inr (A5 "d")::List.replicate 5 (.inl 0),O,key 5,by decide}
 ·exact{.inr (A5 "d")::List.replicate 4 (.inl 0),O,key 4,by decide}
theorem nb{a b:Nat}(h:Nat.ble a b=true):a<=b:=Nat.le_of_ble_eq_true h
abbrev nR:Key:=.inr (A5 "r")
abbrev nN:Key:=.inr (A5 "n")
abbrev nX:Key:=.inr (A5 "x")
theorem okR:okS nR:=by show yQ (ts (A5 "r"))=true;decide+kernel
theorem okN:okS nN:=by show yQ (ts (A5 "n"))=true;decide+kernel
theorem okX:okS nX:=by show yQ (ts (A5 "x"))=true;decide+kernel
abbrev nY:Key:=.inr (A5 "y")
abbrev nD:Key:=.inr (A5 "d")
abbrev nZ:Key:=.inr (A5 "z")
abbrev n3:Key:=.inr (A5 "n3")
theorem okY:okS nY:=by show yQ (ts (A5 "y"))=true;decide+kernel
theorem okD:okS nD:=by show yQ (ts (A5 "d"))=true;decide+kernel
theorem okZ:okS nZ:=by show yQ (ts (A5 "z"))=true;decide+kernel
theorem ok3:okS n3:=by show yQ (ts (A5 "n3"))=true;decide+kernel
theorem rep0{H:Hp}:∀n:Nat,Reps H (List.replicate n [V.int 0]).flatten (List.replicate n (.int 0))
 | 0=>rfl
 | n+1=>{V.int 0,_,O,O,rep0 n}
theorem few0:∀n:Nat,d9 31 (List.replicate n (.int 0))
 | 0=>mI
 | n+1=>{mI,few0 n}
theorem gk0:∀n:Nat,j9 (List.replicate n (.int 0))
 | 0=>mI
 | n+1=>{{by decide,by decide},gk0 n}
theorem zPv{a b:Key}(ha:okS a)(hb:okS b):∀k∈ [a,b],okS k:=λk hk=>by
 rcases mD.mp hk with z | z
 ·rw[z];exact ha
 ·rw[mG.mp z];exact hb
theorem zPx{a:Key}(ha:okS a):∀k∈ [a],okS k:=λk hk=>by rw[mG.mp hk];exact ha
theorem yDj{a b c:Dd}(ha:Od a)(hb:Od b)(hc:Od c):∀d∈ [a,b,c],Od d:=λd hd=>by
 rcases mD.mp hd with z | z
 ·rw[z];exact ha
 ·rcases mD.mp z with z | z
  ·rw[z];exact hb
  ·rw[mG.mp z];exact hc
theorem Dlays.cons{H:Hp}{v:V}{d:Dd}{xs:List V}{ds:List Dd}(h:Dlay H v d)(h2:Dlays H xs ds):Dlays H (v::xs) (d::ds):=k7 (xs:=[v]) (ds:=[d]) h2 (Dlays.one h)
structure Dpr(H:Hp)(l:V1)(n:Nat):Prop where
 ex:∃xs ds,H l=Y (.lst xs)/\Dlays H xs ds/\(∀d∈ds,Od d)/\ds...*=n
theorem Dpr.same{H H':Hp}{l:V1}{n:Nat}(g:Same H H')(h:Dpr H l n):Dpr H' l n:=by
 obtain⟨xs,ds,a,b,c,d⟩:=h.ex;exact{xs,ds,g _ _ a,b.same g,c,d}
def spPu(K:A6):Sp:=λvs H Q _=>∃(a:V1)(ns:List Int)(k:Int)(v:V),vs= [.ref a, .int k,v]/\SqL K H a (ns.map V.int)/\ns...*<=63/\0<=k/\k<1000/\∀(l:V1)(xs:List V)(ds:List Dd)(H':Hp),Same H H'->H' l=Y (.lst xs)->Dlays H' xs ds->(∀d∈ds,Od d)->ds...*<=11->Q (.ref l) H'
theorem scPu:zS ["_law_script","_law_k","_law_thing","_law_more","_law_deep","_law_some","_law_cures"] ["_law_script","_law_k","_law_thing"] (zK sPu):=by walk_at "sc"
theorem ok_pu{kk:Nat}(F:Fun K "_law_pushing" "_law_pushing" sPu f fd)(B:Bl2 mg)(G_law_cell:Dn P w K mg base kk "_law_cell" ["_law_script","_law_k"] (qE K)):FnOk P w K mg base CX0 (kk+1) f fd ["_law_script","_law_k","_law_thing"] (spPu K):=by
 refine F.ok scPu (by walk_at "ln") λc A o s H vs Q E hr h=>?_;obtain⟨a,ns,k,v,rfl,ha,hns,hk0,hk1,q⟩:=h;let nd:=scPu.nd;let hu:=vA hr;let hu0:=hr.units0;refine{_,(zF (pS 3 nd (zR G_law_cell hr ∅ O (zA (pv 0) (zA (pv 1) zC))))
  (zF (kB (pS 4 nd (yZ (zA zN (zA (qD kZ (zT (zA zN (zA zE (zA zE (zA zE (zA zE (zA zE (zA zE zC)))))))) jC (jB (zH wU zE (zH yC (zH yH (pv 3) zE) zE)))) (zA (zT (zA (zT (zA (zT (zA (pv 3) zC)) zC)) zC)) zC))))))
  (zF (kB (gY (i:=5) nd O (aT O) (zT (zA (yZ (zA zN (zA (zT (zA zN (zA (zH yC (pv 3) zE) zC))) (zA (pv 3) zC)))) (zA (yZ (zA zN (zA (zT (zA zN (zA zE zC))) (zA (zT (zA (pv 3) zC)) zC)))) (zA (yZ (zA zN (zA (zT (zA zN (zA zN zC))) (zA zE zC)))) zC))))))
  (zF (kB (gY (i:=5) nd O (aT O) (zH gX (pv 5) (zT (zA (yZ (zA zN (zA (zT (zA zN (zA zN zC))) (zA (zT zC) zC)))) (zA (pv 4) (zA (yZ (zA zN (zA (zT (zA zN zC)) (zA (pv 3) zC)))) (zA (yZ (zA zN (zA (zT (zA zN (zA (zH yC (pv 3) zE) zC))) zC))) zC))))))))
  (zF (kB (gY (i:=5) nd O (aT O) (zH gX (pv 5) (zT (zA (yZ (zA zN (zA (zT (zA zN (zA zN zC))) zC))) (zA (yZ (zA zN (zA (zT (zA zN zC)) (zA (zH zSo (zT (zA zE zC)) zE) zC)))) zC))))))
  (zF (kB (pS 6 nd (zT (zA (yZ (zA zN (zA (zT (zA zN zC)) (zA (zT zC) zC)))) (zA (yZ (zA zN (zA (zT (zA zN zC)) (zA zEl zC)))) (zA (yZ (zA zN (zA (zT (zA zN zC)) (zA zE zC)))) (zA (yZ (zA zN (zA (zT (zA zN zC)) (zA zE zC)))) zC)))))))
  (zG (zJ (zH gX (xP (own:=["_law_j"]) (F:=[("_law_some",5),("_law_script",0),("_law_k",1)]) {O,tb_g%,tb_g%,tb_g%,(.cons O O O (.cons O O O (.cons O O O .nil)))} O (xT O B.range (zA (zH yT zE (zH yC (zH yH (pv 3) zE) zE)) zC)) (λ_ _ _ _=>yI (i:=0) (by show(wB ["_law_j"] [("_law_some",5),("_law_script",0),("_law_k",1)]).Nodup;decide+kernel) O (nU O)) (λ_ _ _ _=>yX) (λ_ _ _ _=>(yB (zSl (K:=K) O) (pv 1) (zH yC (zR G_law_cell hr ∅ O (zA (pv 2) (zA (zH yT (zH yT (pv 3) zE) (pv 0)) zC))) zE) (λ_ _=>O)))) (zH zSo (pv 6) (zH yC (zH yH (pv 3) zE) zE))))))))))), ?_}
 walk_at "st";lk;refine{a,ns,k,O,ha,hns,hk0,∅,λH1 g1=>?_};let hc0:=wW ns k;let hc1:=qH ns k;dsimp only;generalize vG ns k=c at hc0 hc1⊢;unfold zLv;lk;refine{λσ' H'=>∃(dp:V1)(dd:Dd),σ'= [Y (.ref a),Y (.int k),Y v,Y (.int c),Y (.ref dp),none,none]/\Same H H'/\Dlay H' (.ref dp) dd/\Od dd, ?_, ?_}
 ·intro p0 hp0
  let s0:=zD hp0 (HO.lst [V.str (A5 "d"),V.int 0,V.int 0,V.int 0,V.int 0,V.int 0,V.int 0]);let e0:=zB (H:=H1) (a:=p0) (o:=HO.lst [V.str (A5 "d"),V.int 0,V.int 0,V.int 0,V.int 0,V.int 0,V.int 0]);generalize upd H1 p0 (HO.lst [V.str (A5 "d"),V.int 0,V.int 0,V.int 0,V.int 0,V.int 0,V.int 0])=H2 at s0 e0⊢;obtain⟨ks,hks,hko,hkl⟩:=cutD (c / 9 % 3) ∅;refine{p0,_,O,SqL.of e0,λpl hpl=>?_};rw[hks];let s1:=zD hpl (.lst (ks.map kV));let e1:=zB (H:=H2) (a:=pl) (o:=.lst (ks.map kV));generalize upd H2 pl (.lst (ks.map kV))=H3 at s1 e1⊢;intro pa0 ha0;let ga0:=zD ha0 (HO.lst [V.int c]);let ea0:=zB (H:=H3) (a:=pa0) (o:=HO.lst [V.int c]);generalize upd H3 pa0 (HO.lst [V.int c])=Ka0 at ga0 ea0⊢;intro pa1 ha1;let ga1:=zD ha1 (HO.lst [V.ref pa0]);let ea1:=zB (H:=Ka0) (a:=pa1) (o:=HO.lst [V.ref pa0]);generalize upd Ka0 pa1 (HO.lst [V.ref pa0])=Ka1 at ga1 ea1⊢;intro pa2 ha2;let ga2:=zD ha2 (HO.lst [V.ref pa1]);let ea2:=zB (H:=Ka1) (a:=pa2) (o:=HO.lst [V.ref pa1]);generalize upd Ka1 pa2 (HO.lst [V.ref pa1])=Ka2 at ga2 ea2⊢;intro pa3 ha3;let ga3:=zD ha3 (HO.tup [V.str (A5 "put"),V.ref pl,V.ref pa2]);let ea3:=zB (H:=Ka2) (a:=pa3) (o:=HO.tup [V.str (A5 "put"),V.ref pl,V.ref pa2]);generalize upd Ka2 pa3 (HO.tup [V.str (A5 "put"),V.ref pl,V.ref pa2])=Ka3 at ga3 ea3⊢;let ta3:Same Ka3 Ka3:=Same.refl _;let ta2:=ga3.trans ta3;let ta1:=ga2.trans ta2;let ta0:=ga1.trans ta1;let ta:Same H3 Ka3:=ga0.trans ta0;refine{pa3,(.put,ks, .lst [.lst [.lst [.int c]]]),O,g1.trans (s0.trans (s1.trans ta)),i3 .put (by intro z;cases z) ea3 (ta _ _ e1) ?_,{hko,pC hkl ∎, ?_, ?_, ?_, ?_}}
  ·exact{pa2,_,O,ta2 _ _ ea2,_,[],O,{pa1,_,O,ta1 _ _ ea1,_,[],O,{pa0,_,O,ta0 _ _ ea0,_,[],O,O,O},O},O}
  ·exact{nb O,{{nb O,{{nb O,⟨mI,mI⟩},mI}},mI}}
  ·exact{{{{∅,∅},mI},mI},mI}
  ·show ks...*+3<=15
   lia
  ·show 4<=200
   decide
 ·rintro σ1 H2 ⟨dp,dd,rfl,g2,hdp,hod⟩
  lk;refine{λσ' H'=>∃(l:V1),σ'= [Y (.ref a),Y (.int k),Y v,Y (.int c),Y (.ref dp),Y (.ref l),none]/\Same H H'/\Dlay H' (.ref dp) dd/\Dpr H' l 3, ?_, ?_}
  ·skip
   intro pb0 hb0;let gb0:=zD hb0 (HO.lst [V.str (A5 "r"),V.int (c % 40)]);let eb0:=zB (H:=H2) (a:=pb0) (o:=HO.lst [V.str (A5 "r"),V.int (c % 40)]);generalize upd H2 pb0 (HO.lst [V.str (A5 "r"),V.int (c % 40)])=Kb0 at gb0 eb0⊢;intro pb1 hb1;let gb1:=zD hb1 (HO.tup [V.str (A5 "insert"),V.ref pb0,V.int c]);let eb1:=zB (H:=Kb0) (a:=pb1) (o:=HO.tup [V.str (A5 "insert"),V.ref pb0,V.int c]);generalize upd Kb0 pb1 (HO.tup [V.str (A5 "insert"),V.ref pb0,V.int c])=Kb1 at gb1 eb1⊢;intro pb2 hb2;let gb2:=zD hb2 (HO.lst [V.str (A5 "r"),V.int 0]);let eb2:=zB (H:=Kb1) (a:=pb2) (o:=HO.lst [V.str (A5 "r"),V.int 0]);generalize upd Kb1 pb2 (HO.lst [V.str (A5 "r"),V.int 0])=Kb2 at gb2 eb2⊢;intro pb3 hb3;let gb3:=zD hb3 (HO.lst [V.int c]);let eb3:=zB (H:=Kb2) (a:=pb3) (o:=HO.lst [V.int c]);generalize upd Kb2 pb3 (HO.lst [V.int c])=Kb3 at gb3 eb3⊢;intro pb4 hb4;let gb4:=zD hb4 (HO.tup [V.str (A5 "insert"),V.ref pb2,V.ref pb3]);let eb4:=zB (H:=Kb3) (a:=pb4) (o:=HO.tup [V.str (A5 "insert"),V.ref pb2,V.ref pb3]);generalize upd Kb3 pb4 (HO.tup [V.str (A5 "insert"),V.ref pb2,V.ref pb3])=Kb4 at gb4 eb4⊢;intro pb5 hb5;let gb5:=zD hb5 (HO.lst [V.str (A5 "n"),V.str (A5 "x")]);let eb5:=zB (H:=Kb4) (a:=pb5) (o:=HO.lst [V.str (A5 "n"),V.str (A5 "x")]);generalize upd Kb4 pb5 (HO.lst [V.str (A5 "n"),V.str (A5 "x")])=Kb5 at gb5 eb5⊢;intro pb6 hb6;let gb6:=zD hb6 (HO.tup [V.str (A5 "put"),V.ref pb5,V.int 1]);let eb6:=zB (H:=Kb5) (a:=pb6) (o:=HO.tup [V.str (A5 "put"),V.ref pb5,V.int 1]);generalize upd Kb5 pb6 (HO.tup [V.str (A5 "put"),V.ref pb5,V.int 1])=Kb6 at gb6 eb6⊢;intro pb7 hb7;let gb7:=zD hb7 (HO.lst [V.ref pb1,V.ref pb4,V.ref pb6]);let eb7:=zB (H:=Kb6) (a:=pb7) (o:=HO.lst [V.ref pb1,V.ref pb4,V.ref pb6]);generalize upd Kb6 pb7 (HO.lst [V.ref pb1,V.ref pb4,V.ref pb6])=Kb7 at gb7 eb7⊢;let tb7:Same Kb7 Kb7:=Same.refl _;let tb6:=gb7.trans tb7;let tb5:=gb6.trans tb6;let tb4:=gb5.trans tb5;let tb3:=gb4.trans tb4;let tb2:=gb3.trans tb3;let tb1:=gb2.trans tb2;let tb0:=gb1.trans tb1;let tb:Same H2 Kb7:=gb0.trans tb0;refine{pb7,O,g2.trans tb,hdp.same tb,{_,[(.ins,[nR, .inl (c % 40)], .int c),(.ins,[nR, .inl 0], .lst [.int c]),(.put,[nN,nX], .int 1)],eb7, ?_, ?_,O}}
   ·refine Dlays.cons (i3 .ins (by intro z;cases z) (tb1 _ _ eb1) (tb0 _ _ eb0) O) (Dlays.cons (i3 .ins (by intro z;cases z) (tb4 _ _ eb4) (tb2 _ _ eb2) {pb3,_,O,tb3 _ _ eb3,_,[],O,O,O}) (Dlays.one (i3 .put (by intro z;cases z) (tb6 _ _ eb6) (tb5 _ _ eb5) O)))
   ·refine yDj {zPv okR {∅,∅},nb O,mI,{∅,∅},nb O,nb O} {zPv okR {by decide,by decide},nb O,{nb O,mI,mI},{{∅,∅},mI},nb O,nb O} {zPv okN okX,nb O,mI,{by decide,by decide},nb O,nb O}
  ·rintro σ1 H3 ⟨l,rfl,g3,hdp3,hl3⟩
   lk;refine{λσ' H'=>∃(l:V1),σ'= [Y (.ref a),Y (.int k),Y v,Y (.int c),Y (.ref dp),Y (.ref l),none]/\Same H H'/\Dpr H' l 7, ?_, ?_}
   ·skip
    intro pc0 hc0;let gc0:=zD hc0 (HO.lst [V.str (A5 "n"),V.str (A5 "y")]);let ec0:=zB (H:=H3) (a:=pc0) (o:=HO.lst [V.str (A5 "n"),V.str (A5 "y")]);generalize upd H3 pc0 (HO.lst [V.str (A5 "n"),V.str (A5 "y")])=Kc0 at gc0 ec0⊢;intro pc1 hc1;let gc1:=zD hc1 (HO.lst []);let ec1:=zB (H:=Kc0) (a:=pc1) (o:=HO.lst []);generalize upd Kc0 pc1 (HO.lst [])=Kc1 at gc1 ec1⊢;intro pc2 hc2;let gc2:=zD hc2 (HO.tup [V.str (A5 "put"),V.ref pc0,V.ref pc1]);let ec2:=zB (H:=Kc1) (a:=pc2) (o:=HO.tup [V.str (A5 "put"),V.ref pc0,V.ref pc1]);generalize upd Kc1 pc2 (HO.tup [V.str (A5 "put"),V.ref pc0,V.ref pc1])=Kc2 at gc2 ec2⊢;intro pc3 hc3;let gc3:=zD hc3 (HO.lst [V.str (A5 "d")]);let ec3:=zB (H:=Kc2) (a:=pc3) (o:=HO.lst [V.str (A5 "d")]);generalize upd Kc2 pc3 (HO.lst [V.str (A5 "d")])=Kc3 at gc3 ec3⊢;intro pc4 hc4;let gc4:=zD hc4 (HO.tup [V.str (A5 "put"),V.ref pc3,V.int c]);let ec4:=zB (H:=Kc3) (a:=pc4) (o:=HO.tup [V.str (A5 "put"),V.ref pc3,V.int c]);generalize upd Kc3 pc4 (HO.tup [V.str (A5 "put"),V.ref pc3,V.int c])=Kc4 at gc4 ec4⊢;intro pc5 hc5;let gc5:=zD hc5 (HO.lst [V.str (A5 "r"),V.int (c % 40)]);let ec5:=zB (H:=Kc4) (a:=pc5) (o:=HO.lst [V.str (A5 "r"),V.int (c % 40)]);generalize upd Kc4 pc5 (HO.lst [V.str (A5 "r"),V.int (c % 40)])=Kc5 at gc5 ec5⊢;intro pc6 hc6;let gc6:=zD hc6 (HO.tup [V.str (A5 "take"),V.ref pc5]);let ec6:=zB (H:=Kc5) (a:=pc6) (o:=HO.tup [V.str (A5 "take"),V.ref pc5]);generalize upd Kc5 pc6 (HO.tup [V.str (A5 "take"),V.ref pc5])=Kc6 at gc6 ec6⊢;intro pc7 hc7;let gc7:=zD hc7 (HO.lst [V.ref pc2,V.ref dp,V.ref pc4,V.ref pc6]);let ec7:=zB (H:=Kc6) (a:=pc7) (o:=HO.lst [V.ref pc2,V.ref dp,V.ref pc4,V.ref pc6]);generalize upd Kc6 pc7 (HO.lst [V.ref pc2,V.ref dp,V.ref pc4,V.ref pc6])=Kc7 at gc7 ec7⊢;let tc7:Same Kc7 Kc7:=Same.refl _;let tc6:=gc7.trans tc7;let tc5:=gc6.trans tc6;let tc4:=gc5.trans tc5;let tc3:=gc4.trans tc4;let tc2:=gc3.trans tc3;let tc1:=gc2.trans tc2;let tc0:=gc1.trans tc1;let tc:Same H3 Kc7:=gc0.trans tc0;obtain⟨xs,ds,x1,x2,x3,x4⟩:=hl3.ex;let hxl:=x2.1;refine{l,pc7,_,_,O,O,tc _ _ x1,ec7,by rw[mS];show xs...*+4<=_;lia,λq1 hq1=>?_};let gq:=zD hq1 (.lst (xs++ [V.ref pc2,V.ref dp,V.ref pc4,V.ref pc6]));refine{q1,O,g3.trans (tc.trans gq),{_,ds++ [(.put,[nN,nY], .lst []),dd,(.put,[nD], .int c),(.tak,[nR, .inl (c % 40)], .non)],zB, ?_, ?_,by rw[mM,x4];rfl}}
    ·exact Dlays.same gq (k7 (Dlays.cons (i3 .put (by intro z;cases z) (tc2 _ _ ec2) (tc0 _ _ ec0) {pc1,[],O,tc1 _ _ ec1,O}) (Dlays.cons (hdp3.same tc) (Dlays.cons (i3 .put (by intro z;cases z) (tc4 _ _ ec4) (tc3 _ _ ec3) O) (Dlays.one (m6 (tc6 _ _ ec6) (tc5 _ _ ec5)))))) (x2.same tc))
    ·intro d hd
     rcases mU.mp hd with z | z
     ·exact x3 d z
     ·rcases mD.mp z with z | z
      ·rw[z];exact{zPv okN okY,nb O,{nb O,mI},mI,nb O,nb O}
      ·exact yDj (b:=(.put,[nD], .int c)) (c:=(.tak,[nR, .inl (c % 40)], .non)) hod {zPx okD,nb O,mI,{∅,∅},nb O,nb O} {zPv okR {∅,∅},nb O,mI,mI,nb O,nb O} d z
   ·rintro σ1 H4 ⟨l,rfl,g4,hl4⟩
    lk;refine{λσ' H'=>∃(l:V1),σ'= [Y (.ref a),Y (.int k),Y v,Y (.int c),Y (.ref dp),Y (.ref l),none]/\Same H H'/\Dpr H' l 9, ?_, ?_}
    ·skip
     intro pd0 hd0;let gd0:=zD hd0 (HO.lst [V.str (A5 "n"),V.str (A5 "n3")]);let ed0:=zB (H:=H4) (a:=pd0) (o:=HO.lst [V.str (A5 "n"),V.str (A5 "n3")]);generalize upd H4 pd0 (HO.lst [V.str (A5 "n"),V.str (A5 "n3")])=Kd0 at gd0 ed0⊢;intro pd1 hd1;let gd1:=zD hd1 (HO.tup [V.str (A5 "take"),V.ref pd0]);let ed1:=zB (H:=Kd0) (a:=pd1) (o:=HO.tup [V.str (A5 "take"),V.ref pd0]);generalize upd Kd0 pd1 (HO.tup [V.str (A5 "take"),V.ref pd0])=Kd1 at gd1 ed1⊢;intro pd2 hd2;let gd2:=zD hd2 (HO.lst [V.str (A5 "z")]);let ed2:=zB (H:=Kd1) (a:=pd2) (o:=HO.lst [V.str (A5 "z")]);generalize upd Kd1 pd2 (HO.lst [V.str (A5 "z")])=Kd2 at gd2 ed2⊢;intro pd3 hd3;let gd3:=zD hd3 (HO.lst [V.int 0]);let ed3:=zB (H:=Kd2) (a:=pd3) (o:=HO.lst [V.int 0]);generalize upd Kd2 pd3 (HO.lst [V.int 0])=Kd3 at gd3 ed3⊢;let td3:Same Kd3 Kd3:=Same.refl _;let td2:=gd3.trans td3;let td1:=gd2.trans td2;let td0:=gd1.trans td1;let td:Same H4 Kd3:=gd0.trans td0;refine{pd3,59,_,O,O,ed3,by decide,by decide,by rw[mS];show 1*59<=_;decide,λpz hpz=>?_};let gz:=zD hpz (.lst (List.replicate (59:Int).toNat [V.int 0]).flatten);let ez:=zB (H:=Kd3) (a:=pz) (o:=.lst (List.replicate (59:Int).toNat [V.int 0]).flatten);generalize upd Kd3 pz (.lst (List.replicate (59:Int).toNat [V.int 0]).flatten)=H6 at gz ez⊢;intro pe0 he0;let ge0:=zD he0 (HO.tup [V.str (A5 "put"),V.ref pd2,V.ref pz]);let ee0:=zB (H:=H6) (a:=pe0) (o:=HO.tup [V.str (A5 "put"),V.ref pd2,V.ref pz]);generalize upd H6 pe0 (HO.tup [V.str (A5 "put"),V.ref pd2,V.ref pz])=Ke0 at ge0 ee0⊢;intro pe1 he1;let ge1:=zD he1 (HO.lst [V.ref pd1,V.ref pe0]);let ee1:=zB (H:=Ke0) (a:=pe1) (o:=HO.lst [V.ref pd1,V.ref pe0]);generalize upd Ke0 pe1 (HO.lst [V.ref pd1,V.ref pe0])=Ke1 at ge1 ee1⊢;let te1:Same Ke1 Ke1:=Same.refl _;let te0:=ge1.trans te1;let te:Same H6 Ke1:=ge0.trans te0;let gt:=td.trans (gz.trans te);let gu:=gz.trans te;obtain⟨xs,ds,x1,x2,x3,x4⟩:=hl4.ex;let hxl:=x2.1;refine{l,pe1,_,_,O,O,gt _ _ x1,ee1,by rw[mS];show xs...*+2<=_;lia,λq1 hq1=>?_};let gq:=zD hq1 (.lst (xs++ [V.ref pd1,V.ref pe0]));refine{q1,O,g4.trans (gt.trans gq),{_,ds++ [(.tak,[nN,n3], .non),(.put,[nZ], .lst (List.replicate 59 (.int 0)))],zB, ?_, ?_,by rw[mM,x4];rfl}}
     ·exact Dlays.same gq (k7 (Dlays.cons (m6 (gu _ _ (td1 _ _ ed1)) (gu _ _ (td0 _ _ ed0))) (Dlays.one (i3 .put (by intro z;cases z) (te0 _ _ ee0) (gu _ _ (td2 _ _ ed2)) {pz,_,O,te _ _ ez,rep0 59}))) (x2.same gt))
     ·intro d hd
      rcases mU.mp hd with z | z
      ·exact x3 d z
      ·rcases mD.mp z with z | z
       ·rw[z];exact{zPv okN ok3,nb O,mI,mI,nb O,nb O}
       ·rw[mG.mp z];exact{zPx okZ,nb O,{nb O,few0 59},gk0 59,nb O,nb O}
    ·rintro σ1 H5 ⟨l,rfl,g5,hl5⟩
     lk;refine{λσ' H'=>∃(lc:V1),σ'= [Y (.ref a),Y (.int k),Y v,Y (.int c),Y (.ref dp),Y (.ref l),Y (.ref lc)]/\Same H H'/\Dpr H' l 9/\Dpr H' lc 4, ?_, ?_}
     ·skip
      intro pf0 hf0;let gf0:=zD hf0 (HO.lst [V.str (A5 "r")]);let ef0:=zB (H:=H5) (a:=pf0) (o:=HO.lst [V.str (A5 "r")]);generalize upd H5 pf0 (HO.lst [V.str (A5 "r")])=Kf0 at gf0 ef0⊢;intro pf1 hf1;let gf1:=zD hf1 (HO.lst []);let ef1:=zB (H:=Kf0) (a:=pf1) (o:=HO.lst []);generalize upd Kf0 pf1 (HO.lst [])=Kf1 at gf1 ef1⊢;intro pf2 hf2;let gf2:=zD hf2 (HO.tup [V.str (A5 "put"),V.ref pf0,V.ref pf1]);let ef2:=zB (H:=Kf1) (a:=pf2) (o:=HO.tup [V.str (A5 "put"),V.ref pf0,V.ref pf1]);generalize upd Kf1 pf2 (HO.tup [V.str (A5 "put"),V.ref pf0,V.ref pf1])=Kf2 at gf2 ef2⊢;intro pf3 hf3;let gf3:=zD hf3 (HO.lst [V.str (A5 "n")]);let ef3:=zB (H:=Kf2) (a:=pf3) (o:=HO.lst [V.str (A5 "n")]);generalize upd Kf2 pf3 (HO.lst [V.str (A5 "n")])=Kf3 at gf3 ef3⊢;intro pf4 hf4;let gf4:=zD hf4 (HO.dK []);let ef4:=zB (H:=Kf3) (a:=pf4) (o:=HO.dK []);generalize upd Kf3 pf4 (HO.dK [])=Kf4 at gf4 ef4⊢;intro pf5 hf5;let gf5:=zD hf5 (HO.tup [V.str (A5 "put"),V.ref pf3,V.ref pf4]);let ef5:=zB (H:=Kf4) (a:=pf5) (o:=HO.tup [V.str (A5 "put"),V.ref pf3,V.ref pf4]);generalize upd Kf4 pf5 (HO.tup [V.str (A5 "put"),V.ref pf3,V.ref pf4])=Kf5 at gf5 ef5⊢;intro pf6 hf6;let gf6:=zD hf6 (HO.lst [V.str (A5 "d")]);let ef6:=zB (H:=Kf5) (a:=pf6) (o:=HO.lst [V.str (A5 "d")]);generalize upd Kf5 pf6 (HO.lst [V.str (A5 "d")])=Kf6 at gf6 ef6⊢;intro pf7 hf7;let gf7:=zD hf7 (HO.tup [V.str (A5 "put"),V.ref pf6,V.int 1]);let ef7:=zB (H:=Kf6) (a:=pf7) (o:=HO.tup [V.str (A5 "put"),V.ref pf6,V.int 1]);generalize upd Kf6 pf7 (HO.tup [V.str (A5 "put"),V.ref pf6,V.int 1])=Kf7 at gf7 ef7⊢;intro pf8 hf8;let gf8:=zD hf8 (HO.lst [V.str (A5 "z")]);let ef8:=zB (H:=Kf7) (a:=pf8) (o:=HO.lst [V.str (A5 "z")]);generalize upd Kf7 pf8 (HO.lst [V.str (A5 "z")])=Kf8 at gf8 ef8⊢;intro pf9 hf9;let gf9:=zD hf9 (HO.tup [V.str (A5 "put"),V.ref pf8,V.int 2]);let ef9:=zB (H:=Kf8) (a:=pf9) (o:=HO.tup [V.str (A5 "put"),V.ref pf8,V.int 2]);generalize upd Kf8 pf9 (HO.tup [V.str (A5 "put"),V.ref pf8,V.int 2])=Kf9 at gf9 ef9⊢;intro pf10 hf10;let gf10:=zD hf10 (HO.lst [V.ref pf2,V.ref pf5,V.ref pf7,V.ref pf9]);let ef10:=zB (H:=Kf9) (a:=pf10) (o:=HO.lst [V.ref pf2,V.ref pf5,V.ref pf7,V.ref pf9]);generalize upd Kf9 pf10 (HO.lst [V.ref pf2,V.ref pf5,V.ref pf7,V.ref pf9])=Kf10 at gf10 ef10⊢;let tf10:Same Kf10 Kf10:=Same.refl _;let tf9:=gf10.trans tf10;let tf8:=gf9.trans tf9;let tf7:=gf8.trans tf8;let tf6:=gf7.trans tf7;let tf5:=gf6.trans tf6;let tf4:=gf5.trans tf5;let tf3:=gf4.trans tf4;let tf2:=gf3.trans tf3;let tf1:=gf2.trans tf2;let tf0:=gf1.trans tf1;let tf:Same H5 Kf10:=gf0.trans tf0;refine{pf10,O,g5.trans tf,hl5.same tf,{_,[(.put,[nR], .lst []),(.put,[nN], .dic [] []),(.put,[nD], .int 1),(.put,[nZ], .int 2)],ef10, ?_, ?_,O}}
      ·exact Dlays.cons (i3 .put (by intro z;cases z) (tf2 _ _ ef2) (tf0 _ _ ef0) {pf1,[],O,tf1 _ _ ef1,O}) (Dlays.cons (i3 .put (by intro z;cases z) (tf5 _ _ ef5) (tf3 _ _ ef3) {pf4,[],O,tf4 _ _ ef4,O,O}) (Dlays.cons (i3 .put (by intro z;cases z) (tf7 _ _ ef7) (tf6 _ _ ef6) O) (Dlays.one (i3 .put (by intro z;cases z) (tf9 _ _ ef9) (tf8 _ _ ef8) O))))
      ·intro d hd
       rcases mD.mp hd with z | z
       ·rw[z];exact{zPx okR,nb O,{nb O,mI},mI,nb O,nb O}
       ·exact yDj (a:=(.put,[nN], .dic [] [])) (b:=(.put,[nD], .int 1)) (c:=(.put,[nZ], .int 2)) {zPx okN,nb O,{cK,nb O,O,mI},{(λ_ h=>nomatch h),mI},nb O,nb O} {zPx okD,nb O,mI,{by decide,by decide},nb O,nb O} {zPx okZ,nb O,mI,{by decide,by decide},nb O,nb O} d z
     ·rintro σ1 H6 ⟨lc,rfl,g6,hl6,hlc6⟩
      lk;obtain⟨xs,ds,x1,x2,x3,x4⟩:=hl6.ex;obtain⟨ys0,cs,y1,y2,y3,y4⟩:=hlc6.ex;let hx9:=x2.1;let hy4:=y2.1;refine{∅,∅,kH (λi ys H'=>Same H6 H'/\∃es,Dlays H6 ys es/\(∀d∈es,Od d)/\es...*=i) (by rw[mS];lia) {Same.refl _,[],Dlays.nil,(λd h=>nomatch h),O} ?_ ?_}
      ·rintro i ys H' hi _ ⟨g7,es,d1,d2,d3⟩
       lk;refine{a,ns,_,O,(g6.trans g7).seq ha,hns,∅,∅,λH8 g8=>?_};let hc2:=wW ns (k+1+(0+(i:Int)));generalize vG ns (k+1+(0+(i:Int)))=c2 at hc2⊢;obtain⟨j,hj,hj9⟩:∃j:Nat,c2 % 9=(j:Int)/\j<9:={(c2 % 9).toNat,∅,∅};refine{c2,O, ?_};rw[hj];let hjx:xs[j]? =some xs[j]:=mT ∅;let hjd:ds[j]? =some ds[j]:=mT ∅;refine zZ (SqL.of ((g7.trans g8) _ _ x1)) (zV hjx) {g7.trans g8,es++ [ds[j]],d1.snoc (x2.2 j _ _ hjx hjd),λd hd=>?_,by rw[mM,d3];rfl};rcases mU.mp hd with z | z
       ·exact d2 d z
       ·rw[mG.mp z];exact x3 _ (mP hjd)
      ·rintro ys H' _ ⟨g7,es,d1,d2,d3⟩ p hp
       let s8:=zD hp (.lst ys);let e8:=zB (H:=H') (a:=p) (o:=.lst ys);let g8:=g7.trans s8;generalize upd H' p (.lst ys)=H8 at s8 e8 g8⊢;obtain⟨fs,f1,f2,f3⟩:∃fs,Dlays H6 (List.replicate (c / 189 % 2).toNat ys0).flatten fs/\(∀d∈fs,Od d)/\fs...*<=4:=by
        rcases(show c / 189 % 2=0\/c / 189 % 2=1 by lia) with z | z
        ·rw[z];exact{[],Dlays.nil,(λd h=>nomatch h),by decide}
        ·rw[z]
         refine{cs, ?_,y3,∅};show Dlays H6 (ys0++ []) cs;rw[pQ];exact y2
       let hfl:=f1.1;let hyl:=d1.1;refine{lc,_,_,O,O,g8 _ _ y1,∅,∅, ?_,λp2 hp2=>?_}
       ·rw[mS]
        rcases(show c / 189 % 2=0\/c / 189 % 2=1 by lia) with z | z<;>rw[z]<;>simp<;>lia
       let s9:=zD hp2 (.lst (List.replicate (c / 189 % 2).toNat ys0).flatten);let e9:=zB (H:=H8) (a:=p2) (o:=.lst (List.replicate (c / 189 % 2).toNat ys0).flatten);generalize upd H8 p2 (.lst (List.replicate (c / 189 % 2).toNat ys0).flatten)=H9 at s9 e9⊢;refine{p,p2,_,_,O,O,s9 _ _ e8,e9,by rw[mS];lia,λp3 hp3=>?_};let s10:=zD hp3 (.lst (ys++(List.replicate (c / 189 % 2).toNat ys0).flatten));let g10:=g8.trans (s9.trans s10);refine q p3 _ (es++fs) _ (g6.trans g10) zB (Dlays.same g10 (k7 f1 d1)) (λd hd=>(mU.mp hd).elim (d2 d) (f2 d)) (by rw[mM];lia)
abbrev sDr:V6:=top 67
def Tri(H:Hp)(tr:V1)(t:T)(ds:List Dd)(o:V)(u:T):Prop:=∃(pp pr:V1)(xs rs:List V)(x:V),H tr=Y (.lst [.ref pp, .ref pr,o])/\H pp=Y (.lst xs)/\Dlays H xs ds/\H pr=Y (.lst (rs++ [x]))/\Rep H x u/\TrR ds t o u/\(∀d∈ds,Od d)/\ds...*<=12/\T.gk u/\T.fewm 60 u/\T.dep u<=15/\T.sz u<=5000
theorem Tri.same{H H':Hp}{tr:V1}{t u:T}{ds:List Dd}{o:V}(g:Same H H')(h:Tri H tr t ds o u):Tri H' tr t ds o u:=by
 obtain⟨pp,pr,xs,rs,x,a,b,c,d,e,r⟩:=h;exact{pp,pr,xs,rs,x,g _ _ a,g _ _ b,c.same g,g _ _ d,Rep.same g _ _ e,r}
theorem BaseI.rj{t:T}{ds:List Dd}(h:BaseI t)(ho:∀d∈ds,Od d)(hl:ds...*<=12):RJ 31 ds t:=
 {b7 ∎ _ h.f,mE _,∅,h.c,by let:=h.d;lia,by let:=h.z;lia,ho}
def spDr(K:A6):Sp:=λvs H Q _=>∃(a:V1)(ns:List Int),vs= [.ref a, .int 12]/\SqL K H a (ns.map V.int)/\ns...*<=63/\∀(l tr:V1)(v o:V)(t u:T)(ds:List Dd)(H':Hp),Same H H'->H' l=Y (.lst [v, .ref tr])->Rep H' v t->BaseI t->Tri H' tr t ds o u->Q (.ref l) H'
theorem scDr:zS ["_law_script","_law_many","_law_thing"] ["_law_script","_law_many"] (zK sDr):=by walk_at "sc"
theorem ok_dr{kk:Nat}(F:Fun K "_law_drawn" "_law_drawn" sDr f fd)(B:Bl2 mg)(G_law_cell:Dn P w K mg base kk "_law_cell" ["_law_script","_law_k"] (qE K))(G_law_base:Dn P w K mg base kk "_law_base" ["_law_script","_law_k"] (spBa K))(G_law_rows_of:Dn P w K mg base kk "_law_rows_of" ["_law_thing","_law_paper"] yCa)(G_law_pushing:Dn P w K mg base kk "_law_pushing" ["_law_script","_law_k","_law_thing"] (spPu K))(G_law_deeds:Dn P w K mg base kk "_law_deeds" ["_law_script","_law_k","_law_thing","_law_many"] (yDc K)):FnOk P w K mg base CX0 (kk+1) f fd ["_law_script","_law_many"] (spDr K):=by
 refine F.ok scDr (by walk_at "ln") λc A o s H vs Q E hr h=>?_;obtain⟨a,ns,rfl,ha,hns,q⟩:=h;let nd:=scDr.nd;let hu:=vA hr;refine{_,(zF (pS 2 nd (zR G_law_base hr ∅ O (zA (pv 0) (zA zE zC))))
  (zF (zW (j5 (vR (yF (pI B.isinstance zI B.dict xA (pv 2))) (vR (uH (zDc hu zN (pv 2))) (vR (uH (zDc hu zN (pv 2))) (qR (zU kE (zH yC (zR G_law_cell hr ∅ O (zA (pv 0) (zA zE zC))) zE) zE (zQ _))))))) (zG (zJ (zT (zA (pv 2) (zA (zR G_law_rows_of hr ∅ O (zA (pv 2) (zA (zR G_law_pushing hr ∅ O (zA (pv 0) (zA zE (zA (pv 2) zC)))) zC))) zC))))) zL)
  (zG (zJ (zT (zA (pv 2) (zA (zR G_law_deeds hr ∅ O (zA (pv 0) (zA zE (zA (pv 2) (zA (zH yC (zR G_law_cell hr ∅ O (zA (pv 0) (zA zE zC))) (zH yT (pv 1) zE)) zC))))) zC))))))), ?_}
 walk_at "st";lk;refine{a,ns,0,O,ha,hns,by decide,by decide,λv t H1 g1 hv hB=>?_};lk;let ha1:=g1.seq ha
 -- the deeds are drawn
 let drawn:∀H2,Same H1 H2->qE K [V.ref a,V.int 5] H2 (λx H3=>∃i,x=V.int i/\yDc K [V.ref a,V.int 600,v,V.int (i % 13)] H3 (λx H4=>∀p,H4 p=none->Q (V.ref p) (upd H4 p (HO.lst [v,x]))) E0) E0:=λH2 g2=>by
  refine{a,ns,5,O,g2.seq ha1,hns,by decide,by decide,λH3 g3=>{_,O, ?_}};let hc0:=wW ns 5;generalize vG ns 5=c at hc0⊢;let g13:=g2.trans g3;refine⟨a,ns,600,v,_,t,O,g13.seq ha1,hns,by decide,by decide,∅,∅,Rep.same g13 _ _ hv,hB.f,hB.c,by let:=hB.d;lia,by let:=hB.z;lia,λl pp pr o ps rs x ds u H4 g4 hl hp hD hO hn hr hx hT f42 gk4 d4 z4 p hp5=>?_⟩;let g5:=g4.trans (zD hp5 (.lst [v, .ref l]));exact q p l v o t u ds _ (g1.trans (g13.trans g5)) zB (Rep.same (g13.trans g5) _ _ hv) hB (Tri.same (zD hp5 _) ⟨pp,pr,ps,rs,x,hl,hp,hD,hr,hx,hT,hO,hn,gk4,b7 ∎ _ f42,∅,∅⟩)
 let d0:=drawn H1 (Same.refl _);refine{_,Rep.ty hv, ?_}
 cases t with
 | dic ks us=>
  refine iP O ?_;let hv0:=hv;obtain⟨b,ps,rfl,hb,hk,hs⟩:=hv;refine{b,_,O, .inl {ps, .inr (A5 "r"), .inl hb,O,O},_,O, ?_};split
  ·refine{b,_,O, .inl {ps, .inr (A5 "d"), .inl hb,O,O},_,O, ?_}
   split
   ·refine{a,ns,3,O,ha1,hns,by decide,by decide,λH2 g2=>{_,O, ?_}}
    split
    ·refine{a,ns,500, .ref b,O,g2.seq ha1,hns,by decide,by decide,λl xs ds H3 g3 hl hD hO hn=>?_}
     let g13:=g2.trans g3;refine{.ref b,l,xs,_,ds,31,O,Rep.same g13 _ _ hv0,hl,hD,hB.rj hO ∅,λl2 pr rs x st u m' H4 g4 hl2 hpr hx hT hJ p hp5=>?_};let g5:=g4.trans (zD hp5 (.lst [.ref b, .ref l2]));let j1:=hJ.m1;let j2:=hJ.z;let j3:=hJ.d;exact q p l2 (.ref b) st _ u ds _ (g1.trans (g13.trans g5)) zB (Rep.same (g13.trans g5) _ _ hv0) hB (Tri.same (zD hp5 _) {l,pr,xs,rs,x,hl2,g4 _ _ hl,hD.same g4,hpr,hx,hT,hO,∅,hJ.g,b7 ∅ _ hJ.f,∅,∅})
    ·exact drawn H2 g2
   ·exact d0
  ·exact d0
 | _=>exact iN (by intro z;cases z) d0
end
end K42
namespace L2
open PySem PySem.Spec PyProof.Rows PySem.W
theorem bt_VE:A1 "ValueError" =Y (.type "ValueError"):=by decide+kernel
theorem zQh{X:Cx}{T:String}:wH X (.builtin "isinstance") (λvs H Q=>∃x C b,vs= [.ref x, .ty T]/\Caught H x C/\zBk X.K C/\kitOne X.K (.ref C) (.type T)=Y b/\Q (.bl b) H):=by
 intro pins s σ H xs us Q I r h;obtain⟨x,C,b,rfl,hc,G,hk,q⟩:=h;obtain⟨u,w',rfl,ru,rw'⟩:=uZ r;cases (show u=Value.ref x from ru);cases (show w'=Value.type T from rw');obtain⟨ob,od,J⟩:=hc.inst I;exact kia_one (zFq G) I.kIn ⟨ob,od,J⟩ hk (by intro z;cases z) λtk=>{.bl b,H,I.tok _,O,q}
end L2
namespace K42
open PySem L2 PySem.W
seal L2.PSs L2.PS L2.PE L2.PT L2.PW L2.PA L2.PI L2.PG L2.PGs L2.PPs L2.PTs
abbrev sTo:V6:=top 71
structure Tf(K:Frag)(mg:Str->Option V0)(Bs C2 C3:V1):Prop where
 mB:mg "CabinetError" =Y (.ref Bs)
 m5:mg "NoDeed" =Y (.ref C2)
 m2:mg "TooGreat" =Y (.ref C3)
 mV:mg "ValueError" =none
 x5:exmOne K (.ref C2) (.ref Bs)=Y true
 x2:exmOne K (.ref C3) (.ref Bs)=Y true
 e55:exmOne K (.ref C2) (.ref C2)=Y true
 e25:exmOne K (.ref C3) (.ref C2)=Y false
 e22:exmOne K (.ref C3) (.ref C3)=Y true
 G5:zBk K C2
 G2:zBk K C3
 fn:findIn K (.ref C2) "number" =Y none
 k55:kitOne K (.ref C2) (.ref C2)=Y true
 k25:kitOne K (.ref C3) (.ref C2)=Y false
 k22:kitOne K (.ref C3) (.ref C3)=Y true
 k2V:kitOne K (.ref C3) (.type "ValueError")=Y true
abbrev rIntB:List V->Hp->VK->Prop:=λxs H Q=>∃k,xs= [.bl k]/\Q (.int (if k then 1 else 0)) H
abbrev rXi(K:Frag):List V->Hp->VK->Prop:=λvs H Q=>∃x C D b,vs= [.ref x, .ref D]/\Caught H x C/\zBk K C/\kitOne K (.ref C) (.ref D)=Y b/\Q (.bl b) H
abbrev rXt(K:Frag)(T:String):List V->Hp->VK->Prop:=λvs H Q=>∃x C b,vs= [.ref x, .ty T]/\Caught H x C/\zBk K C/\kitOne K (.ref C) (.type T)=Y b/\Q (.bl b) H
abbrev tGr(t:TE):TS:=zHr (zVi (xH (tOp zYm (tC (.str (A5 "TooGreat"))) (tCB rIntB (xH t qW))) qW))
abbrev tNo(C2:V1):TS:=zHr (zVi (xH (tC (.str (A5 "NoDeed"))) (xH (tXAt C2 (A5 "number") (vY 3)) qW)))
abbrev tS1(K:Frag)(C2 C3:V1):TS:=jR (zYg (tB (tCB (rXi K) (xH (vY 3) (xH (tC (.ref C2)) qW)))) (tNo C2) zNg) (tGr (tCB (rXi K) (xH (vY 3) (xH (tC (.ref C3)) qW))))
section
variable{P:V3}{w:V4}{K:PySem.W.Frag}{mg:Str->Option V0}{base:V5}{f:V1}{fd:V7}{Bs C2 C3:V1}
def yCe:Sp:=λvs H Q _=>∃(v:V)(pa:V1)(xs:List V)(t:T)(ds:List Dd)(m:Nat)(wy:Int),vs= [v, .ref pa, .int wy]/\Rep H v t/\H pa=Y (.lst xs)/\Dlays H xs ds/\RJ m ds t/\
 (∀r,wY 0 ds t= .inr r->vT r=true->∀l y H' D,Same H H'->H l=none->H' l=Y (.lst [y])->Sp1 H' y r D->(∀b∈D,H b=none/\b≠l)->Q (.ref l) H')/\
 (∀r,wY 0 ds t= .inr r->vT r=false->∀p H',Same H H'->H' p=Y (.tup [.str (A5 "TooGreat")])->Q (.ref p) H')/\
 (∀i:Nat,wY 0 ds t= .inl i->∀p H',Same H H'->H' p=Y (.tup [.str (A5 "NoDeed"), .int (i:Int)])->Q (.ref p) H')
theorem scTo:zS ["_law_thing","_law_paper","_law_way","e"] ["_law_thing","_law_paper","_law_way"] (zK sTo):=by walk_at "sc"
theorem ok_to(F:Fun K "_law_told" "_law_told" sTo f fd)(B:Bl mg)(W:Tf K mg Bs C2 C3)(Gd:Dx aC P w K mg base 26 "done" ["thing","paper"] (gR C2 C3)):FnOk P w K mg base CX0 27 f fd ["_law_thing","_law_paper","_law_way"] yCe:=by
 refine F.ok scTo (by walk_at "ln") λc A o s H vs Q E hr h=>?_;obtain⟨v,pa,xs,t,ds,m,wy,rfl,hv,hpa,hD,hI,q,qx,qn⟩:=h;let nd:=scTo.nd;refine{_,(zF (zW (zU xC (pv 2) zE (zQ _))
   (zG (yDl (φ:=aC) (ts:=tS1 K C2 C3) (tb:=λE=>zHr (zQr (xH (jV (gR C2 C3) [] E (xH (vY 0) (xH (vY 1) qW))) qW))) O O W.mB nd (i:=3) O O O O O
    (λpins W' E hp=>zG (zJ (zT (zA (zZb Gd hr ∅ O hp (zA (pv 0) (zA (pv 1) zC))) zC))))
    (λv=>zF (zW (yF (zO zIv O B.isinstance zI (zA (pv 3) (zA (zCl (v:=.ref C2) O W.m5 O) zC)))) (zG (zJ (yZ (zA zN (zA (zSu W.G5 W.fn (pv 3)) zC))))) zL)
     (zG (zJ (yZ (zA (zH zCh zN (yJ xM O B.int vF (zA (zO zIv O B.isinstance zI (zA (pv 3) (zA (zCl (v:=.ref C3) O W.m2 O) zC))) zC))) zC)))))))
   zL)
  (zG (zXx (φ:=aC) (ts1:=tNo C2) (ts2:=tGr (tCB (rXt K "ValueError") (xH (vY 3) (xH (tC (.ty "ValueError")) qW)))) (tb:=λE=>zHr (zQr (xH (jV (gR C2 C3) [] E (xH (vY 0) (xH (vY 1) qW))) qW))) O O W.m5 O W.m2 nd (i1:=3) (i2:=3) O O O O O O O
    (λpins W' E hp=>zG (zJ (zT (zA (zZb Gd hr ∅ O hp (zA (pv 0) (zA (pv 1) zC))) zC))))
    (λv=>zG (zJ (yZ (zA zN (zA (zSu W.G5 W.fn (pv 3)) zC)))))
    (λv=>zG (zJ (yZ (zA (zH zCh zN (yJ xM O B.int vF (zA (zO (zQh (T:="ValueError")) O B.isinstance zI (zA (pv 3) (zA (xL (v:=.ty "ValueError") O W.mV bt_VE O) zC))) zC))) zC))))))), ?_}
 walk_at "st";unfold tTry zZf;lk;let hdone:∀E':XK,(∀r,wY 0 ds t= .inr r->vT r=false->∀H',Same H H'->E' (.ref C3) none H')->(∀i:Nat,wY 0 ds t= .inl i->XNo C2 (i:Int) H E')->gR C2 C3 [v,V.ref pa] H (λx H1=>∀(p:V1),H1 p=none->Q (V.ref p) (upd H1 p (HO.lst [x]))) E':=λE' h1 h2=>
  {v,pa,xs,t,ds,m,O,hv,hpa,hD,hI,λr hr' hg y H1 D g sp hDn p hp=>q r hr' hg p y _ D (g.trans (zD hp _)) (yG g hp) zB (sp.same (zD hp _)) λb hb=>{hDn b hb,λz=>by
   obtain⟨o,ho⟩:=Sp1.there _ _ _ sp hb;rw[z,hp] at ho;cases ho},h1,h2}
 let hno:∀(D0:jL),D0.rt=Q->∀i:Nat,wY 0 ds t= .inl i->∀dd H1,Same H H1->H1 dd=Y (.xd [("number", .int (i:Int))])->∀x,H1 x=none->tNo C2 D0 [none,none,none,Y (.ref x)] (upd H1 x (exF x C2 ↥dd)):=λD0 hrt i hi dd H1 g1 hdd x hx=>by
  let hne:dd≠x:=λz=>by rw[z,hx] at hdd;cases hdd
  let g2:=g1.trans (zD hx (exF x C2 ↥dd));let hx2:upd H1 x (exF x C2 ↥dd) x=Y (exF x C2 ↥dd):=zB;let hd2:upd H1 x (exF x C2 ↥dd) dd=Y (.xd [("number", .int (i:Int))]):=by rw[zM hne];exact hdd
  generalize upd H1 x (exF x C2 ↥dd)=H2 at g2 hx2 hd2⊢;refine{x,dd,_,(i:Int),O,hx2,hd2,O, ?_};refine{by rw[mS];show 2<=_;decide,λp hp=>?_};rw[hrt];exact qn i hi p _ (g2.trans (zD hp _)) zB
 let hgr:∀(D0:jL)(te:TE),D0.rt=Q->∀r,wY 0 ds t= .inr r->vT r=false->∀H1,Same H H1->∀x,H1 x=none->(∀R:VK,R (.bl true) (upd H1 x (exF x C3 none))->te [none,none,none,Y (.ref x)] (upd H1 x (exF x C3 none)) R)->tGr te D0 [none,none,none,Y (.ref x)] (upd H1 x (exF x C3 none)):=λD0 te hrt r hr' hg H1 g1 x hx hte=>by
  show te _ _ _;refine hte _ {true,O,_,1,O,O,by decide,by decide,by decide, ?_};refine{by rw[mS];show 1<=_;decide,λp hp=>?_};rw[hrt];refine qx r hr' hg p _ (g1.trans ((zD hx _).trans (zD hp _))) ?_;rw[zB];show Y (HO.tup [V.str (tx (ts (A5 "TooGreat")++ []))])=_;rw[pQ,vH]
 let hc2:∀(H1:Hp)(x:V1),Caught (upd H1 x (exF x C3 none)) x C3:=λH1 x=>.inl zB;let hs:([none,none,none,none]:St)...*=4:=rfl
 by_cases h0:wy=0
 ·refine iP h0 (hdone _ (λr hr' hg H1 g1=>{C3,O,W.x2,λx hx=>?_}) λi hi dd H1 g1 hdd=>{C2,O,W.x5,λx hx=>?_})
  ·refine{x,C3,C2,false,O,hc2 H1 x,W.G2,W.k25,false,O, ?_}
   refine hgr ?D (tCB (rXi K) (xH (vY 3) (xH (tC (.ref C3)) qW))) ?hD r hr' hg H1 g1 x hx λR hR=>{x,C3,C3,true,O,hc2 H1 x,W.G2,W.k22,hR}
   case hD=>rfl
  ·let hne:dd≠x:=λz=>by rw[z,hx] at hdd;cases hdd
   let hcc:Caught (upd H1 x (exF x C2 ↥dd)) x C2:=.inr {dd,_,zB,by rw[zM hne];exact hdd};refine{x,C2,C2,true,O,hcc,W.G5,W.k55,true,O, ?_};exact hno _ O i hi dd H1 g1 hdd x hx
 ·refine iN h0 (hdone _ (λr hr' hg H1 g1=>{C3,O, .inr {W.e25,W.e22,λx hx=>?_}}) λi hi dd H1 g1 hdd=>{C2,O, .inl {W.e55,λx hx=>?_}})
  ·refine hgr ?D (tCB (rXt K "ValueError") (xH (vY 3) (xH (tC (.ty "ValueError")) qW))) ?hD r hr' hg H1 g1 x hx λR hR=>{x,C3,true,O,hc2 H1 x,W.G2,W.k2V,hR}
   case hD=>rfl
  ·exact hno _ O i hi dd H1 g1 hdd x hx
end
end K42
namespace K42
open PySem L2
seal L2.PSs L2.PS L2.PE L2.PT L2.PW L2.PA L2.PI L2.PG L2.PGs L2.PPs L2.PTs
abbrev sSh:V6:=top 70
abbrev sDu:V6:=top 72
mutual
theorem zVj:∀t:T,T.few t->o6 t
 | .lst us,h=>zEv us h.2
 | .dic ks us,h=>by
  let z:=zEv us h.2.2.2;exact⟨h.1,h.2.2.1,mI,z⟩
 | .tup _,h=>h.elim
 | .non,_=>mI
 | .bl _,_=>mI
 | .int _,_=>mI
 | .str _,_=>mI
theorem zEv:∀us:List T,j4 us->m3 us
 | [],_=>mI
 | t::us,h=>{zVj t h.1,zEv us h.2}
end
section
variable{P:V3}{w:V4}{K:A6}{mg:Str->Option V0}{base:V5}{f:V1}{fd:V7}
def spDu:Sp:=λvs H Q _=>∃(tr:V1)(t u:T)(ds:List Dd)(o:V),vs= [.ref tr]/\Tri H tr t ds o u/\
 (∀i:Nat,wY 0 ds t= .inl i->∀p H',Same H H'->H' p=Y (.tup [.str (A5 "NoDeed"), .int (i:Int)])->Q (.ref p) H')/\
 (∀r,wY 0 ds t= .inr r->vT r=false->∀p H',Same H H'->H' p=Y (.tup [.str (A5 "TooGreat")])->Q (.ref p) H')/\
 (∀r,wY 0 ds t= .inr r->vT r=true->∀l x H',Same H H'->H' l=Y (.lst [x])->Rep H' x r->Q (.ref l) H')
theorem scDu:zS ["_law_drawn_here"] ["_law_drawn_here"] (zK sDu):=by walk_at "sc"
theorem ok_du{kk:Nat}(F:Fun K "_law_due" "_law_due" sDu f fd)(B:Bl2 mg)(G_law_good:Dn P w K mg base kk "_law_good" ["_law_thing"] spLG):FnOk P w K mg base CX0 (kk+1) f fd ["_law_drawn_here"] spDu:=by
 refine F.ok scDu (by walk_at "ln") λc A o s H vs Q E hr h=>?_;obtain⟨tr,t,u,ds,o,rfl,⟨pp,pr,xs,rs,x,h1,h2,h3,h4,h5,hT,hO,hl,gk,fw,hd,hz⟩,qn,qx,q⟩:=h;let nd:=scDu.nd;refine{_,(zF (zW (uH (zHt (yB zP (pv 0) zE (λ_ _=>O)))) (zG (zJ (yZ (zA zN (zA (yB zP (pv 0) zE (λ_ _=>O)) zC))))) zL)
  (zF (zW (wL (yF (zR G_law_good hr ∅ O (zA (yB zP (yB zP (pv 0) zE (λ_ _=>O)) (wS xR zE) (λ_ _=>O)) zC)))) (zG (zJ (yZ (zA zN zC)))) zL)
  (zG (zJ (zT (zA (yB zP (yB zP (pv 0) zE (λ_ _=>O)) (wS xR zE) (λ_ _=>O)) zC)))))), ?_}
 walk_at "st";lk;refine zZ (SqL.of h1) (zV (j:=2) O) ?_;rcases hT with⟨rfl,hrun⟩|⟨j,rfl,hrun⟩
 ·refine{false,O,iN ∎ (zZ (SqL.of h1) (zV (j:=1) O) (zZ (SqL.of h4) (wD _ _) {x,u,O,h5,zVj _ (c5 ∎ _ fw),∅,∅,λH1 g1=>{vT u,O, ?_}}))}
  cases hg:vT u with
  | false=>exact iP O λp hp=>qx u hrun hg p _ (g1.trans (zD hp _)) zB
  | true=>exact iN ∎ (zZ (SqL.of (g1 _ _ h1)) (zV (j:=1) O) (zZ (SqL.of (g1 _ _ h4)) (wD _ _) λp hp=>q u hrun hg p x _ (g1.trans (zD hp _)) zB (Rep.same (g1.trans (zD hp _)) _ _ h5)))
 ·exact{true,O,iP O (zZ (SqL.of h1) (zV (j:=2) O) λp hp=>qn j hrun p _ (zD hp _) zB)}
def spSh(K:A6):Sp:=λvs H Q _=>∃(a tr:V1)(ns:List Int)(v o:V)(t u:T)(ds:List Dd),vs= [.ref a,v, .ref tr]/\SqL K H a (ns.map V.int)/\ns...*<=63/\Rep H v t/\BaseI t/\Tri H tr t ds o u/\∀(l:V1)(o':V)(u':T)(ds':List Dd)(H':Hp),Same H H'->Tri H' l t ds' o' u'->Q (.ref l) H'
theorem scSh:zS ["_law_script","_law_thing","_law_drawn_here","_law_one","_law_paper","_law_j","_law_deed_here"] ["_law_script","_law_thing","_law_drawn_here"] (zK sSh):=by walk_at "sc"
theorem ok_sh{kk:Nat}(F:Fun K "_law_shared" "_law_shared" sSh f fd)(B:Bl2 mg)(G_law_cell:Dn P w K mg base kk "_law_cell" ["_law_script","_law_k"] (qE K))(G_law_rows_of:Dn P w K mg base kk "_law_rows_of" ["_law_thing","_law_paper"] yCa):FnOk P w K mg base CX0 (kk+1) f fd ["_law_script","_law_thing","_law_drawn_here"] (spSh K):=by
 refine F.ok scSh (by walk_at "ln") λc A o s H vs Q E hr h=>?_;obtain⟨a,tr,ns,v,o,t,u,ds,rfl,ha,hns,hv,hB,⟨pp,pr,xs,rs,x,h1,h2,h3,h4,h5,hT,hO,hl,gk,fw,hd,hz⟩,q⟩:=h;let nd:=scSh.nd;let hu:=vA hr;refine{_,(zF (pS 3 nd (zT (zA (zH yC (zH yH (zR G_law_cell hr ∅ O (zA (pv 0) (zA zE zC))) zE) zE) (zA (zNm (gO zN (zT zC) zNs) (by rfl) (by rfl) (bT _ _) ∎) zC))))
  (zF (pS 4 nd (zT zC))
  (zF (vO PassesOwn.never O (xT O B.range (zA (zO yL O B.len yW (zA (yB zP (pv 2) zE (λ_ _=>O)) zC)) zC)) (yI (i:=5) nd O (nU O)) (zF (pS 6 nd (yB zP (yB zP (pv 2) zE (λ_ _=>O)) (pv 5) (λ_ _=>O)))
  (zF (zW (j5 (vR (zU xC (zO gD O B.len yW (zA (pv 6) zC)) zE (zQ _)) (qR (zU kE (zH yC (zR G_law_cell hr ∅ O (zA (pv 0) (zA (zH yT zE (pv 5)) zC))) zE) zE (zQ _))))) (zG (pS 6 nd (zH zNi (qD zNr (pv 6) jC (jB zE)) (yZ (zA (pv 3) zC))))) zL)
  (zG (wF (qT pA pV rA qC (pv 4) (zA (pv 6) zC)))))))
  (zG (zJ (zR G_law_rows_of hr ∅ O (zA (pv 1) (zA (pv 4) zC)))))))), ?_}
 walk_at "st";lk;refine{a,ns,8,O,ha,hns,by decide,by decide,λH1 g1=>?_};let hc0:=wW ns 8;generalize vG ns 8=c at hc0⊢;lk;intro p hp p1 hp1;let n1:p≠p1:=λz=>by rw[<-z,zB] at hp1;cases hp1
 let hp1':H1 p1=none:=by rw[zM n1.symm] at hp1;exact hp1
 refine{by rw[zM n1];exact zB,[(.inr (A5 "a"), .ref p1)],O,nb O, ?_};let s2:Same H1 (upd (upd (upd H1 p (HO.dK [])) p1 (HO.lst [])) p (HO.dK (vQ [] [(.inr (A5 "a"), .ref p1)]))):=λb o' e=>by
  let b1:b≠p:=λz=>by rw[z,hp] at e;cases e
  let b2:b≠p1:=λz=>by rw[z,hp1'] at e;cases e
  rw[zM b1,zM b2,zM b1];exact e
 let e2:upd (upd (upd H1 p (HO.dK [])) p1 (HO.lst [])) p (HO.dK (vQ [] [(.inr (A5 "a"), .ref p1)])) p=Y (.dK [(.inr (A5 "a"), .ref p1)]):=zB;let e3:upd (upd (upd H1 p (HO.dK [])) p1 (HO.lst [])) p (HO.dK (vQ [] [(.inr (A5 "a"), .ref p1)])) p1=Y (.lst []):=by rw[zM n1.symm];exact zB
 generalize upd (upd (upd H1 p (HO.dK [])) p1 (HO.lst [])) p (HO.dK (vQ [] [(.inr (A5 "a"), .ref p1)]))=H2 at s2 e2 e3⊢;intro p2 hp2;let s3:=zD hp2 (HO.lst [V.int (c / 3 % 5),V.ref p]);let e4:=zB (H:=H2) (a:=p2) (o:=HO.lst [V.int (c / 3 % 5),V.ref p]);generalize upd H2 p2 (HO.lst [V.int (c / 3 % 5),V.ref p])=H3 at s3 e4⊢;let hone:Rep H3 (.ref p2) (.lst [.int (c / 3 % 5), .dic [ts (A5 "a")] [.lst []]]):={p2,_,O,e4,_,_,O,O,_,[],O,{p,_,O,s3 _ _ e2,by simp[nK,vH],{_,[],O,{p1,[],O,s3 _ _ e3,O},O}},O};let g3:=g1.trans (s2.trans s3);intro p3 hp3;let s4:=zD hp3 (HO.lst []);let e5:=zB (H:=H3) (a:=p3) (o:=HO.lst []);generalize upd H3 p3 (HO.lst [])=H4 at s4 e5⊢;let hp30:=hp3;let hxl:=h3.1;refine zZ (SqL.of (s4 _ _ (g3 _ _ h1))) (zV (j:=0) O) {pp,O,xs,SqL.of (s4 _ _ (g3 _ _ h2)),∅,∅, ?_};refine qU (λi σ H'=>∃(o1 o2:Option V)(ys:List V)(es:List Dd),σ= [Y (V.ref a),Y v,Y (V.ref tr),Y (V.ref p2),Y (V.ref p3),o1,o2]/\Same H3 H'/\H' p3=Y (.lst ys)/\Dlays (xN H' p3) ys es/\(∀d∈es,Od d)/\es...*=i) {_,_,[],[],O,s4,e5,{O,λi v d h=>by cases h},(λd h=>nomatch h),O} ?_ ?_
 ·rintro i σ H5 hi ⟨o1,o2,ys,es,rfl,g5,hp5,hD5,hO5,hl5⟩
  lk;let hil:i<xs...*:=by lia
  let hv5:xs[i]? =some xs[i]:=mT hil;let hdi:ds[i]? =some ds[i]:=mT ∅;let g35:=g3.trans g5;let hyl:=hD5.1;refine zZ (SqL.of (g35 _ _ h1)) (zV (j:=0) O) ?_;rw[show(0:Int)+(i:Int)=(i:Int) by lia];refine zZ (SqL.of (g35 _ _ h2)) (zV hv5) ?_;let hh3:∀{b:V1}{o':HO},H3 b=Y o'->xN H5 p3 b=Y o':=λ{b o'} e=>by
   rw[xK λz=>by rw[z,hp30] at e;cases e];exact g5 _ _ e
  let sh3:Same H3 (xN H5 p3):=λb o' e=>hh3 e;let od:=hO _ (mP hdi);let hdl:=(h3.2 i _ _ hv5 hdi);let app:∀(y:V)(d:Dd)(Hx:Hp),Same H5 Hx->Dlay (xN Hx p3) y d->Od d->tyV K "list" (V.ref p3) Hx/\zHp (V.ref p3) [y] Hx λ_ H1=>(∃x_2,Y y=x_2)/\Same H3 H1/\∃x,H1 p3=Y (HO.lst x)/\∃x_2,Dlays (xN H1 p3) x x_2/\(∀(d:Dd),d∈x_2->Od d)/\x_2...*=i+1:=λy d Hx gx hy ho=>by
   refine{nU {O,_,SqL.of (gx _ _ hp5)},p3,ys,y,O,O,gx _ _ hp5,by rw[mS];lia,⟨_,O⟩,wQ (g5.trans gx) hp30,_,zB,es++ [d], ?_,λd' hd'=>?_,by rw[mM,hl5];rfl}
   ·rw[jJ]
    exact Dlays.snoc (hD5.same (xS gx)) hy
   ·rcases mU.mp hd' with z | z
    ·exact hO5 d' z
    ·rw[mG.mp z];exact ho
  obtain⟨tp,pd,r,etp,k1,k2,k3⟩:=hdl;let old:∀Hx,Same H5 Hx->Dlay (xN Hx p3) (.ref tp) ds[i]:=λHx gx=>(show Dlay H (.ref tp) ds[i] from⟨tp,pd,r,O,k1,k2,k3⟩).same (g3.trans (sh3.trans (xS gx)));rw[etp];refine{tp,O,_, .inr (SqT.of (g35 _ _ k1)), ?_};rcases k3 with⟨hw,rfl⟩|⟨hw,y,rfl,hy⟩
  ·exact iN (by show¬((2:Nat):Int)=3;decide) (app _ _ H5 (Same.refl _) (old H5 (Same.refl _)) od)
  ·refine iP O {a,ns,_,O,g35.seq ha,hns,∅,∅,λH6 g6=>{_,O, ?_}}
   split
   ·refine{tp,_,O,SqT.of (g6 _ _ (g35 _ _ k1)), .inr {λz=>?_,λq1 hq1=>?_}}
    ·let z2:=z.2
     rw[show(2:Int)=((2:Nat):Int) from O,HT.sIx_nat] at z2;exact absurd z2 (by show¬min 2 3=3;decide)
    ·rw[show kL [V.str ds[i].1.s,V.ref pd,y] none ↥2= [V.str ds[i].1.s,V.ref pd] from O]
     let t1:=zD hq1 (HO.tup [V.str ds[i].1.s,V.ref pd]);let u1:=zB (H:=H6) (a:=q1) (o:=HO.tup [V.str ds[i].1.s,V.ref pd]);generalize upd H6 q1 (HO.tup [V.str ds[i].1.s,V.ref pd])=H7 at t1 u1⊢;intro q2 hq2;let t2:=zD hq2 (HO.tup [V.ref p2]);let u2:=zB (H:=H7) (a:=q2) (o:=HO.tup [V.ref p2]);generalize upd H7 q2 (HO.tup [V.ref p2])=H8 at t2 u2⊢;refine{q1,q2,_,_,O,O,SqT.of (t2 _ _ u1),SqT.of u2,by simp,by rw[mS];show 2+1<=_;decide,λz=>(by cases z),λ_ q3 hq3=>?_};let t3:=zD hq3 (HO.tup ([V.str ds[i].1.s,V.ref pd]++ [V.ref p2]));let u3:=zB (H:=H8) (a:=q3) (o:=HO.tup ([V.str ds[i].1.s,V.ref pd]++ [V.ref p2]));generalize upd H8 q3 (HO.tup ([V.str ds[i].1.s,V.ref pd]++ [V.ref p2]))=H9 at t3 u3⊢;let g9:=g6.trans (t1.trans (t2.trans t3));let nq:q3≠p3:=λz=>by rw[z] at u3;rw[g9 _ _ hp5] at u3;cases u3
     let h39:Same H3 (xN H9 p3):=sh3.trans (xS g9);refine app _ (ds[i].1,ds[i].2.1, .lst [.int (c / 3 % 5), .dic [ts (A5 "a")] [.lst []]]) H9 g9 {q3,pd,[.ref p2],O,by rw[xK nq];exact u3,h39 _ _ (g3 _ _ k2), .inr {hw, .ref p2,O,Rep.same h39 _ _ hone}} {od.s,od.l, ?_, ?_, ?_, ?_}
     ·exact{nb O,mI,{by simp,nb O,O,{nb O,mI},mI},mI}
     ·exact{{∅,∅},{λk hk=>by rw[mG.mp hk];decide+kernel,mI,mI},mI}
     ·let:=od.l
      show ds[i].2.1...*+3<=15
      lia
     ·exact nb O
   ·exact app _ _ H6 g6 (old H6 g6) od
 ·rintro σ H5 ⟨o1,o2,ys,es,rfl,g5,hp5,hD5,hO5,hl5⟩
  lk;rw[show(xs...*:Int).toNat=xs...* by lia] at hl5;let sh5:Same (xN H5 p3) H5:=wI;refine{v,p3,ys,t,es,31,O,Rep.same (g3.trans g5) _ _ hv,hp5,hD5.same sh5,hB.rj hO5 ∅,λl pr' rs' x' st u' m' H6 g6 hl6 hpr hx' hTr hJ=>?_};let j1:=hJ.m1;let j2:=hJ.z;let j3:=hJ.d;exact q l st u' es H6 (g3.trans (g5.trans g6)) {p3,pr',ys,rs',x',hl6,g6 _ _ hp5,(hD5.same sh5).same g6,hpr,hx',hTr,hO5,∅,hJ.g,b7 ∅ _ hJ.f,∅,∅}
end
noncomputable def alk(t t':T):Bool:=decide (wG (zY t) (zY t')=0)
theorem zDi:∀(n:Nat)(t:T),T.few t->T.dep t<n->wG (zY t) (zY t)=0
 | 0,_,_,h=>absurd h (rY _)
 | n+1,t,hf,hd=>by
  cases t with
  | non=>decide+kernel
  | bl b=>cases b<;>decide+kernel
  | int i=>show wG (.int i) (.int i)=0;rw[wG];unfold sgI;rw[mK ∅];rfl
  | str x=>show wG (.str x) (.str x)=0;rw[zMx,zCb]
  | lst us=>
   let hd':T.deps us+1<n+1:=hd;refine(zXy us us).mpr {O,λi t t' h1 h2=>?_};rw[h1] at h2;cases h2;let hm:=mP h1;let:=b8 hm;exact zDi n t (b9 hf.2 hm) ∅
  | dic ks us=>
   let hd':T.deps us+1<n+1:=hd;ext wC hf nk _ hle hf;refine(zXl nk).mpr {O,λk hk=>{hk, ?_}};let hm:=wP hk hle;let:=b8 hm;exact zDi n _ (b9 hf hm) ∅
  | tup us=>exact hf.elim
theorem zDv{t:T}(h:T.few t):alk t t=true:=nP (zDi (T.dep t+1) t h (dB _))
noncomputable def dlT(d:Dd):T:=match ddT d with
 | .tup us=>.lst us
 | t=>t
theorem yBq(d:Dd):∃us,ddT d= .tup us/\dlT d= .lst us:=by
 obtain⟨w,ks,n⟩:=d;cases w<;>exact⟨_,O,O⟩
theorem Od.row{d:Dd}(h:Od d):T.fewm 31 (dlT d)/\T.dep (dlT d)<=17/\T.sz (dlT d)<=220:=by
 obtain⟨w,ks,n⟩:=d;let fn:T.fewm 31 n:=h.f;let l8:ks...*<=8:=h.l;let ld:ks...*+T.dep n<=15:=h.dd;let z2:T.sz n<=200:=h.z;obtain⟨e1,e2,e3⟩:=zGx ks;let fp:T.fewm 31 (.lst (ks.map kT)):={by rw[mL];lia,i6 ∎ _ e1};let three:∀z:Str,T.fewm 31 (.lst [.str (ts z), .lst (ks.map kT),n])/\T.dep (.lst [.str (ts z), .lst (ks.map kT),n])<=17/\T.sz (.lst [.str (ts z), .lst (ks.map kT),n])<=220:=λz=>by
  refine{{by show 3<=100000;decide,mI,fp,fn,mI}, ?_, ?_}
  ·show max 0 (max (T.deps (ks.map kT)+1) (max (T.dep n) 0))+1<=17
   lia
  ·show 1+((T.szs (ks.map kT)+1)+(T.sz n+0))+1<=220
   lia
 cases w with
 | put=>exact three _
 | ins=>exact three _
 | tak=>
  refine{{by show 2<=100000;decide,mI,fp,mI}, ?_, ?_}
  ·show max 0 (max (T.deps (ks.map kT)+1) 0)+1<=17
   lia
  ·show 1+((T.szs (ks.map kT)+1)+0)+1<=220
   lia
theorem zWj{ds:List Dd}(h:∀d∈ds,Od d)(hl:ds...*<=12):T.fewm 31 (.lst (ds.map dlT))/\T.dep (.lst (ds.map dlT))<=18/\T.sz (.lst (ds.map dlT))<=5000:=by
 refine nAA {by rw[mL];lia,d6 λt ht=>?_} ?_ ?_
 ·obtain⟨d,hd,rfl⟩:=nW.mp ht
  exact(h d hd).row.1
 ·let:T.deps (ds.map dlT)<=17:=d7 λt ht=>by
   obtain⟨d,hd,rfl⟩:=nW.mp ht;exact(h d hd).row.2.1
  show T.deps (ds.map dlT)+1<=18
  lia
 ·let key:∀ds:List Dd,(∀d∈ds,Od d)->T.szs (ds.map dlT)<=220*ds...*:=λds=>by
   induction ds with
   | nil=>exact λ_=>nS _
   | cons d ds ih=>
    intro h;let:=ih λd' hd'=>h d' (mH _ hd');let:=(h d mF).row.2.2;show T.sz (dlT d)+T.szs (ds.map dlT)<=220*(ds...*+1)
    lia
  let:=key ds h;show T.szs (ds.map dlT)+1<=5000
  lia
theorem Dlay.lst{H:Hp}{v:V}{d:Dd}(h:Dlay H v d):∃p us,v= .ref p/\H p=Y (.tup us)/\∀l H2,Same H H2->H2 l=Y (.lst us)->Rep H2 (.ref l) (dlT d):=by
 obtain⟨tp,pd,r,rfl,h1,h2,h3⟩:=h;refine{tp,_,O,h1,λl H2 g hl=>?_};obtain⟨w,ks,n⟩:=d;let hs:V.str w.s=V.str (tx (ts w.s)):=by rw[vH]
 let hpd:Rep H2 (.ref pd) (.lst (ks.map kT)):={pd,_,O,g _ _ h2,zHl ks};rcases h3 with⟨hw,rfl⟩|⟨hw,x,rfl,hx⟩
 ·let hw':w= .tak:=hw
  subst hw';exact{l,_,O,hl,_,_,O,hs,_,[],O,hpd,O}
 ·let e:dlT (w,ks,n)= .lst [.str (ts w.s), .lst (ks.map kT),n]:=by
   cases w with
   | tak=>exact absurd O hw
   | _=>rfl
  rw[e];exact{l,_,O,hl,_,_,O,hs,_,_,O,hpd,_,[],O,Rep.same g _ _ hx,O}
theorem zNe{H:Hp}:∀{ks:List Key}{xs:List V},Reps H xs (ks.map kT)->xs=ks.map kV
 | [],xs,h=>h
 | k::ks,xs,h=>by
  ext yM h v r r2_ h1 h2;subst r2_;rw[zNe h2]
  cases k with
  | inl i=>exact congrArg (· ::ks.map kV) (show v=V.int i from h1)
  | inr s=>
   let e:v=V.str (tx (ts s)):=h1;rw[vH] at e;exact congrArg (· ::ks.map kV) e
theorem zSy{H:Hp}{v:V}{d:Dd}(h:Rep H v (ddT d)):Dlay H v d:=by
 obtain⟨w,ks,n⟩:=d;let two:∀r,Rep H v (.tup (.str (ts w.s):: .lst (ks.map kT)::r))->∃tp pd xs,v= .ref tp/\H tp=Y (.tup (.str w.s:: .ref pd::xs))/\H pd=Y (.lst (ks.map kV))/\Reps H xs r:=λr h=>by
  obtain⟨tp,xs,rfl,hp,v1,r1,rfl,e1,v2,r2,rfl,⟨pd,ps,rfl,hpd,hps⟩,hr⟩:=h;let e1:v1=V.str (tx (ts w.s)):=e1;rw[vH] at e1;rw[zNe hps] at hpd;subst e1;exact qQ tp pd r2 O hp (nA hpd hr)
 cases w with
 | tak=>
  refine yD (two [] h) λtp pd xs h1 h2 z_=>?_;ext oA z_ h3 h4;let e:xs= []:=h4;subst e;exact{tp,pd,[],h1,h2,h3, .inl ⟨O,O⟩}
 | put=>
  obtain⟨tp,pd,xs,h1,h2,h3,x,r,e,h4,h5⟩:=two [n] h;let e':r= []:=h5;subst e e';exact{tp,pd,[x],h1,h2,h3,aT {(by intro z;cases z),x,O,h4}}
 | ins=>
  obtain⟨tp,pd,xs,h1,h2,h3,x,r,e,h4,h5⟩:=two [n] h;let e':r= []:=h5;subst e e';exact{tp,pd,[x],h1,h2,h3,aT {(by intro z;cases z),x,O,h4}}
theorem Dlays.of{H:Hp}{xs:List V}{ds:List Dd}(h:Reps H xs (ds.map ddT)):Dlays H xs ds:=by
 let hl:=h...*;rw[mL] at hl;refine{hl,λi v d hv hd=>?_};obtain⟨t,ht,hr⟩:=h.get hv;rw[nH,hd] at ht;rw[<-mR ht] at hr;exact zSy hr
def LsI(H:Hp)(D:List V1)(ys:List V)(ds:List Dd)(i:Nat)(zs:List V)(H2:Hp):Prop:=Same H H2/\∃E Dr,Sps H (ys.drop i) ((ds.drop i).map ddT) Dr/\(∀b∈Dr,b∈D)/\Sps H2 zs ((ds.take i).map dlT) E/\(∀b∈E,b∉Dr)/\∀b∈E,b∈D\/H b=none
theorem o8{H:Hp}{D:List V1}{ys:List V}{ds:List Dd}(h:Sps H ys (ds.map ddT) D):LsI H D ys ds 0 [] H:={Same.refl _,[],D,h,λ_ z=>z,⟨O,O⟩,(λ_ z=>nomatch z),(λ_ z=>nomatch z)}
theorem LsI.step{H:Hp}{D:List V1}{ys:List V}{ds:List Dd}{i:Nat}{zs:List V}{H2:Hp}(h:LsI H D ys ds i zs H2)(hl:ys...*=ds...*){v:V}(hv:ys[i]? =Y v):∃p us,v= .ref p/\H2 p=Y (.tup us)/\∀l,H2 l=none->LsI H D ys ds (i+1) (zs++ [.ref l]) (upd H2 l (.lst us)):=by
 obtain⟨g,E,Dr,hS,hDr,hE,hdis,hnew⟩:=h;let hil:=(mO.mp hv).1;let hdi:ds[i]? =some ds[i]:=mT ∅;let e1:ys.drop i=v::ys.drop (i+1):=by rw[pB hil,(mO.mp hv).2]
 let e2:ds.drop i=ds[i]::ds.drop (i+1):=pB ∅;rw[e1,e2,mZ] at hS;ext yV hS v' r' D1 D2 ev z_;ext wC z_ eD h1 h2 h3;injection ev with ev1 ev2;subst ev1 ev2 eD;obtain⟨us,t1,t2⟩:=yBq ds[i];rw[t1] at h1;ext yD h1 p xs Dp r3_ hp z_;ext oAA z_ r5_ np hsx;subst r3_ r5_;refine nEEAA p xs O (g _ _ hp) (λl hl2=>?_);let s3:=zD hl2 (.lst xs);let nl:∀b,b∈Dp->b≠l:=λb hb z=>by
  obtain⟨o,ho⟩:=Sps.there _ _ _ hsx hb;let:=g _ _ ho;rw[z,hl2] at this;cases this
 let hl0:H l=none:=yG g hl2;let nE:l∉E:=λz=>by
  obtain⟨o,ho⟩:=Sps.there _ _ _ hE z;rw[hl2] at ho;cases ho
 refine{g.trans s3,E++l::Dp,D2,h2,λb hb=>hDr b (nI _ hb), ?_,λb hb hb2=>?_,λb hb=>?_}
 ·rw[yN hdi,nJ]
  refine Sps.snoc (show Sp1 _ (.ref l) (dlT ds[i]) (l::Dp) from ?_) (hE.same s3) λb hb z=>?_
  ·rw[t2]
   exact{l,xs,Dp,O,zB,O,λz=>nl l z O,(hsx.same g).same s3}
  ·rcases mD.mp z with z | z
   ·exact nE (z▸hb)
   ·exact hdis b hb (nV _ (mH _ z))
 ·rcases mU.mp hb with z | z
  ·exact hdis b z (nI _ hb2)
  ·rcases mD.mp z with z | z
   ·obtain⟨o,ho⟩:=Sps.there _ _ _ h2 hb2
    rw[z,hl0] at ho;cases ho
   ·exact h3 b (mH _ z) hb2
 ·rcases mU.mp hb with z | z
  ·exact hnew b z
  ·rcases mD.mp z with z | z
   ·rw[z];exact .inr hl0
   ·exact .inl (hDr b (nV _ (mH _ z)))
theorem LsI.end{H:Hp}{D:List V1}{ys:List V}{ds:List Dd}{zs:List V}{H2:Hp}(h:LsI H D ys ds ys...* zs H2)(hl:ys...*=ds...*){l:V1}(hl2:H2 l=none):∃E,Same H (upd H2 l (.lst zs))/\Sp1 (upd H2 l (.lst zs)) (.ref l) (.lst (ds.map dlT)) (l::E)/\H l=none/\∀b∈l::E,b∈D\/H b=none:=by
 obtain⟨g,E,Dr,_,_,hE,_,hnew⟩:=h;let s3:=zD hl2 (.lst zs);rw[hl,pE] at hE;let nE:l∉E:=λz=>by
  obtain⟨o,ho⟩:=Sps.there _ _ _ hE z;rw[hl2] at ho;cases ho
 refine zDl E (g.trans s3) {l,zs,E,O,zB,O,nE,hE.same s3} (yG g hl2) (λb hb=>?_);rcases mD.mp hb with z | z
 ·rw[z];exact .inr (yG g hl2)
 ·exact hnew b z
abbrev zHy:V6:=top 73
mutual
theorem zKx:∀t:T,m8 t<=2*T.dep t
 | .lst us=>by let:=zCo us;show i9 us+1<=2*(T.deps us+1);lia
 | .dic _ us=>by let:=zCo us;show i9 us+2<=2*(T.deps us+1);lia
 | .tup us=>by let:=zCo us;show i9 us+1<=2*(T.deps us+1);lia
 | .non=>nS _
 | .bl _=>nS _
 | .int _=>nS _
 | .str _=>nS _
theorem zCo:∀us:List T,i9 us<=2*T.deps us
 | []=>nS _
 | t::us=>by
  let:=zKx t;let:=zCo us;show max (m8 t) (i9 us)<=2*max (T.dep t) (T.deps us)
  lia
end
theorem zFf{H H1 H2:Hp}{D:List V1}(g:Same H H1)(k:Keep D H1 H2)(hD:∀b∈D,H b=none):Same H H2:=λb o e=>k b o (λz=>by rw[hD b z] at e;cases e) (g _ _ e)
theorem zGw{H H':Hp}{v:V}{t:T}{D E:List V1}(h:Sp1 H v t D)(k:Keep E H H')(hD:∀b∈D,b∉E):Sp1 H' v t D:=Sp1.keep _ _ _ (λb hb o _ e=>k b o (hD b hb) e) h
theorem zAa{n:Nat}{H:Hp}{v u:V}{t t':T}{Q:VK}(hv:Rep H v t)(hu:Rep H u t')(hf:T.few t)(hf':T.few t')(hd:2*T.dep t<=n)(hd':2*T.dep t'<=n)(q:∀H',Same H H'->Q (.bl (alk t t')) H'):zLl n [v,u] H Q E0:={v,u,t,t',O,hv,hu,hf,hf',by let:=zKx t;lia,by let:=zKx t';lia,q}
section
variable{P:V3}{w:V4}{K:A6}{mg:Str->Option V0}{base:V5}{f:V1}{fd:V7}{C2 C3:V1}
def yCk:Sp:=λvs H Q _=>∃(v:V)(pa:V1)(xs:List V)(t r:T)(ds:List Dd)(m:Nat),vs= [v, .ref pa]/\Rep H v t/\H pa=Y (.lst xs)/\Dlays H xs ds/\RJ m ds t/\wY 0 ds t= .inr r/\vT r=true/\∀y H' D,Same H H'->Sp1 H' y r D->(∀b∈D,H b=none)->Q y H'
theorem dn_of{k:Nat}{ps:List Str}(F:FnOk P w K mg base (CXE aC P w) k f fd ps (gR C2 C3)):FnOk P w K mg base CX0 k f fd ps yCk:=by
 let key:∀vs H Q E,yCk vs H Q E->gR C2 C3 vs H Q E0:=λvs H Q E ⟨v,pa,xs,t,r,ds,m,e,h1,h2,h3,h4,h5,h6,q⟩=>
  {v,pa,xs,t,ds,m,e,h1,h2,h3,h4,(λr' hr _=>by rw[h5] at hr;rw[<-Sum.inr.inj hr];exact q),(λr' hr hg=>by rw[h5] at hr;rw[<-Sum.inr.inj hr,h6] at hg;cases hg),(λi hi=>by rw[h5] at hi;cases hi)}
 refine{λvs H Q E h=>F.len vs H Q E0 (key _ _ _ _ h),λA outer s H args us vs Q E hr he hb hv hs=>sJ (F.run A outer s H args us vs Q E0 hr he hb hv (key _ _ _ _ hs)) λr s' h=>?_}
 cases r with
 | error e=>
  obtain⟨x,T,C,d,a0,H',_,_,_,_,_,_,_,_,_,_,z⟩:=h;exact z.elim
 | ok fl=>cases fl<;>exact h
abbrev rLst(K:A6):List V->Hp->VK->Prop:=λxs H Q=>∃p,xs= [V.ref p]/\∃x,(SqL K H p x\/SqT K H p x)/\∀(l:V1),H l=none->Q (V.ref l) (upd H l (HO.lst x))
theorem uR{Hx:Hp}{pp:V1}{xs:List V}{ds:List Dd}{σ:St}{Q':VK}(hp:Hx pp=Y (.lst xs))(hD:Dlays Hx xs ds)(hl:ds...*<=12)(q:∀lq H',Same Hx H'->Rep H' (.ref lq) (.lst (ds.map dlT))->Q' (.ref lq) H'):
  (∃xs,SqL K Hx pp xs)/\wX [A5 "_law_deed_here"] [] (qV 0) zBe (tCB (rLst K) (xH (vY 0) qW)) σ Q' (Itl K pp) Hx:=by
 let hxl:=hD.1;refine{{_,SqL.of hp},wO (K:=K) (xs:=xs) (λi zs H'=>Same Hx H'/\Reps H' zs ((ds.take i).map dlT)) (by rw[mS];lia) {Same.refl _,O} (λi zs H' _ h=>SqL.of (h.1 _ _ hp)) ?_ ?_}
 ·rintro i v zs H' hv _ ⟨g,hz⟩
  let hil:=(mO.mp hv).1;let hdi:ds[i]? =some ds[i]:=mT ∅;obtain⟨p,us,rfl,h1,h2⟩:=(hD.2 i v _ hv hdi).lst;refine{p,O,us, .inr (SqT.of (g _ _ h1)),λl hl=>?_};let s:=zD hl (.lst us);refine{g.trans s, ?_};rw[yN hdi,nJ];exact Reps.snoc (h2 l _ (g.trans s) zB) (Reps.same s _ _ hz)
 ·rintro zs H' _ ⟨g,hz⟩ l hl
  let s:=zD hl (.lst zs);rw[hxl,pE] at hz;exact q l _ (g.trans s) {l,zs,O,zB,Reps.same s _ _ hz}
def zNw(K:A6):Sp:=λvs H Q _=>∃(a:V1)(ns:List Int),vs= [.ref a]/\SqL K H a (ns.map V.int)/\ns...*<=63/\∀H',Q (.bl true) H'
theorem scLaw:zS ["_law_script","_law_drawn_here","_law_thing","_law_paper","_law_due_here","_law_held_here","_law_result","_law_handed","_law_first","_law_told_here","_law_one","_law_again"] ["_law_script"] (zK zHy):=by walk_at "sc"
theorem zZq{k:Nat}(F:Fun K "law" "law" zHy f fd)(B:Bl6 mg)(G_law_cell:Dn P w K mg base k "_law_cell" ["_law_script","_law_k"] (qE K))(G_law_drawn:Dn P w K mg base k "_law_drawn" ["_law_script","_law_many"] (spDr K))(G_law_shared:Dn P w K mg base k "_law_shared" ["_law_script","_law_thing","_law_drawn_here"] (spSh K))(G_law_due:Dn P w K mg base k "_law_due" ["_law_drawn_here"] spDu)(G_law_held:Dn P w K mg base k "_law_held" ["_law_thing"] (zDz 20))(G_law_told:Dn P w K mg base k "_law_told" ["_law_thing","_law_paper","_law_way"] yCe)(G_law_same:Dn P w K mg base k "_law_same" ["_law_one","_law_other"] (zLl 40))(G_law_paper_copy:Dn P w K mg base k "_law_paper_copy" ["_law_paper"] spPc)(Gdone:Dn P w K mg base k "done" ["thing","paper"] yCk)(G_law_own_marks:Dn P w K mg base k "_law_own_marks" ["_law_thing","_law_number"] (zTp 20)):FnOk P w K mg base CX0 (k+1) f fd ["_law_script"] (zNw K):=by
 refine F.ok scLaw (λvs H Q E h=>?_) (λc A o s H vs Q E hr h=>?_)
 ·ext xV h a ns r2_ _
  subst r2_
  rfl
 ext yE h a ns r2_ ha hns q;subst r2_;let nd:=scLaw.nd;let hu:=vA hr;let hu0:=hr.units0;let hu64:=hr.units;refine{_,(zF (pS 1 nd (zR G_law_drawn hr ∅ O (zA (pv 0) (zA zE zC))))
  (zF (pS 2 nd (yB zP (pv 1) zE (λ_ _=>O)))
  (zF (kB (zW (zU xC (zH yC (zR G_law_cell hr ∅ O (zA (pv 0) (zA zE zC))) zE) zE (zQ _)) (zG (pS 1 nd (zT (zA (pv 2) (zA (zR G_law_shared hr ∅ O (zA (pv 0) (zA (pv 2) (zA (yB zP (pv 1) zE (λ_ _=>O)) zC)))) zC))))) zL))
  (zF (pS 3 nd (yB zP (yB zP (pv 1) zE (λ_ _=>O)) zE (λ_ _=>O)))
  (zF (pS 4 nd (zR G_law_due hr ∅ O (zA (yB zP (pv 1) zE (λ_ _=>O)) zC)))
  (zF (pS 5 nd (zR G_law_held hr ∅ O (zA (zT (zA (pv 2) (zA (xP (own:=["_law_deed_here"]) (F:=[]) {O,tb_g%,tb_g%,tb_g%, .nil} O (xQ (pv 3)) (λ_ _ _ _=>yI (i:=0) (by show(wB ["_law_deed_here"] []).Nodup;decide+kernel) O (nU O)) (λ_ _ _ _=>yX) (λ_ _ _ _=>(yJ (qM (K:=K) O) O B.list yU (zA (pv 0) zC)))) zC))) zC)))
  (zF (pS 6 nd (zR G_law_told hr ∅ O (zA (pv 2) (zA (pv 3) (zA (zH yC (zR G_law_cell hr ∅ O (zA (pv 0) (zA zE zC))) zE) zC)))))
  (zF (zW (yF (pI B.isinstance zI B.tuple uC (pv 4))) (zG (zJ (vK (yR (zYh hu64) (pv 6) (pv 4) (zQ _)) (vZ (zR G_law_same hr ∅ O (zA (pv 5) (zA (zT (zA (pv 2) (zA (xP (own:=["_law_deed_here"]) (F:=[]) {O,tb_g%,tb_g%,tb_g%, .nil} O (xQ (pv 3)) (λ_ _ _ _=>yI (i:=0) (by show(wB ["_law_deed_here"] []).Nodup;decide+kernel) O (nU O)) (λ_ _ _ _=>yX) (λ_ _ _ _=>(yJ (qM (K:=K) O) O B.list yU (zA (pv 0) zC)))) zC))) zC))))))) zL)
  (zF (zW (j5 (zBa (wL (yF (pI B.isinstance zI B.list yU (pv 6)))) (zAb (wL (yF (zR G_law_same hr ∅ O (zA (yB zP (pv 6) zE (λ_ _=>O)) (zA (yB zP (pv 4) zE (λ_ _=>O)) zC)))))))) (zG (zJ qB)) zL)
  (zF (pS 7 nd (zT (zA (zR G_law_held hr ∅ O (zA (pv 2) zC)) (zA (zR G_law_paper_copy hr ∅ O (zA (pv 3) zC)) zC))))
  (zF (pS 8 nd (zR Gdone hr ∅ O (zA (yB zP (pv 7) zE (λ_ _=>O)) (zA (yB zP (pv 7) zE (λ_ _=>O)) zC))))
  (zF (wF (zR G_law_own_marks hr ∅ O (zA (zT (zA (yB zP (pv 7) zE (λ_ _=>O)) (zA (xP (own:=["_law_deed_here"]) (F:=[]) {O,tb_g%,tb_g%,tb_g%, .nil} O (xQ (yB zP (pv 7) zE (λ_ _=>O))) (λ_ _ _ _=>yI (i:=0) (by show(wB ["_law_deed_here"] []).Nodup;decide+kernel) O (nU O)) (λ_ _ _ _=>yX) (λ_ _ _ _=>(yJ (qM (K:=K) O) O B.list yU (zA (pv 0) zC)))) zC))) (zA zE zC))))
  (zF (zW (wL (yF (zR G_law_same hr ∅ O (zA (pv 8) (zA (yB zP (pv 4) zE (λ_ _=>O)) zC))))) (zG (zJ qB)) zL)
  (zF (pS 9 nd (zT (zA (yB zP (pv 6) zE (λ_ _=>O)) (zA (zR G_law_held hr ∅ O (zA (yB zP (pv 4) zE (λ_ _=>O)) zC)) zC))))
  (zF (vO PassesOwn.never O (xQ (pv 9)) (yI (i:=10) nd O (nU O)) (zG (wF (zR G_law_own_marks hr ∅ O (zA (pv 10) (zA zE zC))))))
  (zF (zW (wL (yF (zR G_law_same hr ∅ O (zA (yB zP (pv 9) zE (λ_ _=>O)) (zA (yB zP (pv 9) zE (λ_ _=>O)) zC))))) (zG (zJ qB)) zL)
  (zF (zW (wL (yF (zR G_law_same hr ∅ O (zA (pv 5) (zA (zT (zA (pv 2) (zA (xP (own:=["_law_deed_here"]) (F:=[]) {O,tb_g%,tb_g%,tb_g%, .nil} O (xQ (pv 3)) (λ_ _ _ _=>yI (i:=0) (by show(wB ["_law_deed_here"] []).Nodup;decide+kernel) O (nU O)) (λ_ _ _ _=>yX) (λ_ _ _ _=>(yJ (qM (K:=K) O) O B.list yU (zA (pv 0) zC)))) zC))) zC))))) (zG (zJ qB)) zL)
  (zF (pS 11 nd (zR Gdone hr ∅ O (zA (pv 2) (zA (pv 3) zC))))
  (zG (zJ (vK (zR G_law_same hr ∅ O (zA (pv 11) (zA (yB zP (pv 4) zE (λ_ _=>O)) zC))) (vZ (zR G_law_same hr ∅ O (zA (zR Gdone hr ∅ O (zA (pv 11) (zA (zT zC) zC))) (zA (yB zP (pv 4) zE (λ_ _=>O)) zC))))))))))))))))))))))))), ?_}
 walk_at "st";refine zLh λR hR=>?_;lk;refine⟨a,ns,O,ha,hns,λl tr v o t u ds H1 g1 hl hv hB hT=>zZ (SqL.of hl) (zV (j:=0) rfl) ?_⟩;subst hR;refine zFa λR hR=>?_;unfold zLv;lk;refine⟨λσ' H'=>∃(l tr:V1)(o:V)(u:T)(ds:List Dd),σ'= [Y (.ref a),Y (.ref l),Y v,none,none,none,none,none,none,none,none,none]/\Same H1 H'/\H' l=Y (.lst [v, .ref tr])/\Tri H' tr t ds o u, ?_, ?_⟩
 ·refine{a,ns,8,O,g1.seq ha,hns,by decide,by decide,λH2 g2=>{_,O, ?_}}
  split
  ·refine zZ (SqL.of (g2 _ _ hl)) (zV (j:=1) O) {a,tr,ns,v,o,t,u,ds,O,(g1.trans g2).seq ha,hns,Rep.same g2 _ _ hv,hB,hT.same g2,λl2 o' u' ds' H3 g3 hT' p hp=>?_}
   let s4:=zD hp (.lst [v, .ref l2]);exact{p,l2,o',u',ds',O,g2.trans (g3.trans s4),zB,hT'.same s4}
  ·exact{l,tr,o,u,ds,O,g2,g2 _ _ hl,hT.same g2}
 clear hT hl o u ds tr l;rintro σ1 H2 ⟨l,tr,o,u,ds,rfl,g2,hl,hT⟩;subst hR;refine zLh λR hR=>?_;lk;obtain⟨pp,pr,xs,rs,x,t1,t2,t3,t4,t5,tT,tO,tl,tg,tf,td,tz⟩:=id hT;let hRJ:RJ 31 ds t:=hB.rj tO tl;let hv2:=Rep.same g2 _ _ hv;let hxl:=t3.1;obtain⟨fX,dX,zX⟩:=zWj tO tl;let bd:=hB.d;let bf:=b7 (show 30<=31 by decide) _ hB.f;let fW:T.fewm 31 (.lst [t, .lst (ds.map dlT)]):={by show 2<=100000;decide,bf,fX,mI};let fW':=c5 ∎ _ fW;let dW:T.dep (.lst [t, .lst (ds.map dlT)])<=19:=by show max (T.dep t) (max (T.dep (.lst (ds.map dlT))) 0)+1<=19;lia
 let alkW:alk (.lst [t, .lst (ds.map dlT)]) (.lst [t, .lst (ds.map dlT)])=true:=zDv fW';refine zZ (SqL.of hl) (zV (j:=1) O) (zZ (SqL.of t1) (zV (j:=0) O) (zZ (SqL.of hl) (zV (j:=1) O) ?_));let tupl:∀(pd:V1)(H3:Hp)(ws:List V)(tt:T),Same H2 H3->H3 pd=Y (.tup ws)->(∀Hx,Same H3 Hx->∀pe,Hx pe=Y (.tup ws)->Rep Hx (.ref pe) tt)->xU tt tt=Y 0->T.dep tt<=60->tyT tt= "tuple"->
   (∀Hx Q',Same H3 Hx->(∀pe Hy,Same Hx Hy->Hy pe=Y (.tup ws)->Q' (.ref pe) Hy)->yCe [v, .ref pp, .int (vG ns 9 % 2)] Hx Q' E0)->
   R {nx:=λx H'=>Q V.non H',rt:=Q} [Y (V.ref a),Y (V.ref l),Y v,Y (.ref pp),Y (.ref pd),none,none,none,none,none,none,none] H3:=λpd H3 ws tt g3 hpd hrep hcmp hdep hty htold=>by
  subst hR;refine zLh λR hR=>?_;lk;refine uR (g3 _ _ t2) (t3.same g3) tl λlq H4 g4 hq p hp=>?_;let s5:=zD hp (.lst [v, .ref lq]);let e5:=zB (H:=H4) (a:=p) (o:=.lst [v, .ref lq]);generalize upd H4 p (.lst [v, .ref lq])=H5 at s5 e5⊢;let g25:=g3.trans (g4.trans s5);refine{.ref p, .lst [t, .lst (ds.map dlT)],O,{p,_,O,e5,v,_,O,Rep.same g25 _ _ hv2,_,[],O,Rep.same s5 _ _ hq,O},fW',∅,λvh H6 Dh g6 sph hDh=>?_};let hh6:=Sp1.rep _ _ _ sph;refine{a,ns,9,O,(g1.trans (g2.trans (g25.trans g6))).seq ha,hns,by decide,by decide,λH7 g7=>{_,O, ?_}};let g37:=g4.trans (s5.trans (g6.trans g7));refine htold H7 _ g37 λpe H8 g8 hpe=>?_;subst hR;refine zFa λR hR=>?_;lk;let g38:=g37.trans g8;let g28:=g3.trans g38;let hrd:=hrep H8 g38 pd (g38 _ _ hpd);refine{_,Rep.ty hrd, ?_};rw[hty];refine iP O {tt,tt,0,hrep H8 g38 pe hpe,hrd,hcmp,hdep,true,O,iP O ?_};refine uR (g28 _ _ t2) (t3.same g28) tl λlq2 H9 g9 hq9 p9 hp9=>?_;let s10:=zD hp9 (.lst [v, .ref lq2]);let g10:=g9.trans s10;exact zAa (t':=.lst [t, .lst (ds.map dlT)]) (Rep.same (g7.trans (g8.trans g10)) _ _ hh6) {p9,_,O,zB,v,_,O,Rep.same (g28.trans g10) _ _ hv2,_,[],O,Rep.same s10 _ _ hq9,O} fW' fW' ∅ ∅ λH' _=>by rw[alkW];exact q H'
 refine{tr,t,u,ds,o,O,hT,λi hi pd H3 g3 hpd=>?_,λr hr' hg pd H3 g3 hpd=>?_,λr hr' hg pd y H3 g3 hpd hy=>?_}
 ·refine tupl pd H3 _ (.tup [.str (ts (A5 "NoDeed")), .int (i:Int)]) g3 hpd (λHx _ pe hpe=>{pe,_,O,hpe,_,_,O,(by show V.str _=V.str _;rw[vH]),_,[],O,O,O}) (by simp[xU,gJ,kN,zBc]) (nb O) O λHx Q' gx hQ=>?_
  exact{v,pp,xs,t,ds,31,_,O,Rep.same (g3.trans gx) _ _ hv2,gx _ _ (g3 _ _ t2),t3.same (g3.trans gx),hRJ,(λr hr'=>by rw[hi] at hr';cases hr'),(λr hr'=>by rw[hi] at hr';cases hr'),λi' hi' p Hy gy hp=>hQ p Hy gy (by rw[hi] at hi';cases hi';exact hp)}
 ·refine tupl pd H3 _ (.tup [.str (ts (A5 "TooGreat"))]) g3 hpd (λHx _ pe hpe=>{pe,_,O,hpe,_,[],O,(by show V.str _=V.str _;rw[vH]),O}) (by simp[xU,gJ,kN,zBc]) (nb O) O λHx Q' gx hQ=>?_
  exact{v,pp,xs,t,ds,31,_,O,Rep.same (g3.trans gx) _ _ hv2,gx _ _ (g3 _ _ t2),t3.same (g3.trans gx),hRJ,(λr2 hr2 hg2=>by rw[hr'] at hr2;cases hr2;rw[hg] at hg2;cases hg2),(λr2 hr2 hg2 p Hy gy hp=>hQ p Hy gy hp),λi' hi'=>by rw[hr'] at hi';cases hi'}
 ·let eu:u=r:=by
   rcases tT with⟨_,z⟩|⟨j,_,z⟩
   ·rw[hr'] at z;exact(Sum.inr.inj z).symm
   ·rw[hr'] at z;cases z
  subst eu;let fu:=c5 ∎ _ tf;let pu:=zAz _ u (mE _) fu;let alkU:alk u u=true:=zDv fu;subst hR;refine zLh λR hR=>?_;lk;refine uR (g3 _ _ t2) (t3.same g3) tl λlq H4 g4 hq p hp=>?_;let s5:=zD hp (.lst [v, .ref lq]);let e5:=zB (H:=H4) (a:=p) (o:=.lst [v, .ref lq]);generalize upd H4 p (.lst [v, .ref lq])=H5 at s5 e5⊢;let g25:=g3.trans (g4.trans s5);refine{.ref p, .lst [t, .lst (ds.map dlT)],O,{p,_,O,e5,v,_,O,Rep.same g25 _ _ hv2,_,[],O,Rep.same s5 _ _ hq,O},fW',∅,λvh H6 Dh g6 sph hDh=>?_};let hh6:=Sp1.rep _ _ _ sph;refine{a,ns,9,O,(g1.trans (g2.trans (g25.trans g6))).seq ha,hns,by decide,by decide,λH7 g7=>{_,O, ?_}};let g37:=g4.trans (s5.trans (g6.trans g7));let g27:=g3.trans g37;refine{v,pp,xs,t,ds,31,_,O,Rep.same g27 _ _ hv2,g27 _ _ t2,t3.same g27,hRJ,λr2 hr2 hg2 l0 y0 H8 D8 g8 hl0 hl8 sp8 hD8=>?_,(λr2 hr2 hg2=>by rw[hr'] at hr2;cases hr2;rw[hg] at hg2;cases hg2),λi' hi'=>by rw[hr'] at hi';cases hi'};let er:u=r2:=by rw[hr'] at hr2;exact Sum.inr.inj hr2
  subst er;let g38:=g37.trans g8;let hy8:=Rep.same g38 _ _ hy;let hpd8:=g38 _ _ hpd;subst hR;refine zLh λR hR=>?_;lk;refine{"list",vW hpd8,iN ∎ {"list",vW hl8,iN ∎ (zZ (SqL.of hl8) (zV (j:=0) O) (zZ (SqL.of hpd8) (zV (j:=0) O) (zAa (Sp1.rep _ _ _ sp8) hy8 fu fu ∅ ∅ λH9 g9=>{_,O,iN (by rw[alkU];decide) ?_})))}};subst hR;refine zLh λR hR=>?_;lk;let g29:=g3.trans (g38.trans g9);let hbf:=c5 ∎ _ hB.f;refine{v,t,O,Rep.same g29 _ _ hv2,hbf,∅,λvt H10 Dt g10 spt hDt=>?_};let g210:=g29.trans g10;refine{pp,xs,ds,O,g210 _ _ t2,t3.same g210,∅,tO,λlc cs D2 H11 g11 hlc hlc11 hsc hDc p0 hp0=>?_};let s12:=zD hp0 (.lst [vt, .ref lc]);let e12:=zB (H:=H11) (a:=p0) (o:=.lst [vt, .ref lc]);generalize upd H11 p0 (.lst [vt, .ref lc])=H12 at s12 e12⊢;let hcl:=Dlays.of (Sps.rep _ _ _ hsc);let hcl1:=hcl.1;refine zZ (SqL.of e12) (zV (j:=0) O) (zZ (SqL.of e12) (zV (j:=1) O) {vt,lc,cs,t,u,ds,31,O,Sp1.rep _ _ _ (Sp1.same (g11.trans s12) spt),s12 _ _ hlc11,hcl.same s12,hRJ,hr',hg,λy9 H13 D13 g13 sp13 hD13=>?_});subst hR;refine zFa λR hR=>?_;lk;let hp0':=g13 _ _ e12;let g1113:=s12.trans g13;refine zZ (SqL.of hp0') (zV (j:=0) O) (zZ (SqL.of hp0') (zV (j:=1) O) {lc,O, ?_});let hlc13:=g1113 _ _ hlc11;let hsc13:=hsc.same g1113;refine{{_,SqL.of hlc13},wO (K:=K) (xs:=cs) (λi zs H'=>LsI H13 D2 cs ds i zs H') (by rw[mS];lia) (o8 hsc13) (λi zs H' _ h=>SqL.of (h.1 _ _ hlc13)) ?_ ?_}
  ·rintro i v zs H' hv _ h
   obtain⟨p,us,rfl,hp,hq⟩:=h.step hcl1 hv;lk;exact nEA us (.inr (SqT.of hp)) (λl hl=>hq l hl)
  rintro zs H' _ h lk hlk;obtain⟨Ek,gk,spk,hlk13,hEk⟩:=h.end hcl1 hlk;generalize upd H' lk (.lst zs)=H14 at gk spk⊢;clear h hlk;intro p2 hp2;let s15:=zD hp2 (.lst [vt, .ref lk]);let e15:=zB (H:=H14) (a:=p2) (o:=.lst [vt, .ref lk]);generalize upd H14 p2 (.lst [vt, .ref lk])=H15 at s15 e15⊢;let g1015:Same H10 H15:=g11.trans (g1113.trans (gk.trans s15));let spt15:=Sp1.same g1015 spt;let spk15:=Sp1.same s15 spk
  -- what lies where
  let newK:∀b∈lk::Ek,H10 b=none:=λb hb=>(hEk b hb).elim (λz=>(hDc b z).1) λz=>yG g11 (yG g1113 z);let djt:∀b∈Dt,b∉lk::Ek:=λb hb z=>by
   obtain⟨o,ho⟩:=Sp1.there _ _ _ spt hb;rw[newK b z] at ho;cases ho
  let there15:∀b,b∈Dt\/b∈lk::Ek->b≠p2:=λb hb z=>by
   rcases hb with y | y
   ·obtain⟨o,ho⟩:=Sp1.there _ _ _ (Sp1.same (g11.trans (g1113.trans gk)) spt) y
    rw[z,hp2] at ho;cases ho
   ·obtain⟨o,ho⟩:=Sp1.there _ _ _ spk y
    rw[z,hp2] at ho;cases ho
  let spW:Sp1 H15 (.ref p2) (.lst [t, .lst (ds.map dlT)]) (p2::(Dt++(lk::Ek))):=by
   refine{p2,_,Dt++(lk::Ek),O,e15,O,λz=>?_,{vt,[.ref lk],Dt,lk::Ek,O,O,spt15,Sps.one spk15,djt}};rcases mU.mp z with y | y
   ·exact there15 _ (.inl y) O
   ·exact there15 _ (.inr y) O
  refine{.ref p2,_,_,0,O,spW,fW',∅,λH16 D16 k16 _ _=>?_};let reg9:∀b∈p2::(Dt++(lk::Ek)),H9 b=none:=λb hb=>by
   rcases mD.mp hb with y | y
   ·rw[y];exact yG (g10.trans (g11.trans (g1113.trans gk))) hp2
   ·rcases mU.mp y with y | y
    ·exact hDt b y
    ·exact yG g10 (newK b y)
  let g916:Same H9 H16:=zFf (g10.trans g1015) k16 reg9;let sp16:Sp1 H16 y9 u D13:=by
   refine zGw (Sp1.same (gk.trans s15) sp13) k16 λb hb z=>?_;let n12:=hD13 b hb;rcases mD.mp z with y | y
   ·obtain⟨o,ho⟩:=Sp1.there _ _ _ (Sp1.same gk sp13) hb
    rw[y,hp2] at ho;cases ho
   ·rcases mU.mp y with y | y
    ·obtain⟨o,ho⟩:=Sp1.there _ _ _ (Sp1.same (g11.trans s12) spt) y
     rw[n12] at ho;cases ho
    ·rcases hEk b y with y | y
     ·obtain⟨o,ho⟩:=Sps.there _ _ _ (hsc.same s12) y
      rw[n12] at ho;cases ho
     ·obtain⟨o,ho⟩:=Sp1.there _ _ _ sp13 hb
      rw[y] at ho;cases ho
  let g316:=g38.trans (g9.trans g916);let g816:=g9.trans g916;subst hR;refine zLh λR hR=>?_;lk;refine zZ (SqL.of (g316 _ _ hpd)) (zV (j:=0) O) (zAa (Sp1.rep _ _ _ sp16) (Rep.same g316 _ _ hy) fu fu ∅ ∅ λH17 g17=>{_,O,iN (by rw[alkU];decide) ?_});let g817:=g816.trans g17;let g317:=g316.trans g17;refine zZ (SqL.of (g817 _ _ hl8)) (zV (j:=0) O) (zZ (SqL.of (g317 _ _ hpd)) (zV (j:=0) O) {y,u,O,Rep.same g317 _ _ hy,fu,∅,λvd H18 Dd g18 spd hDd p3 hp3=>?_});let s19:=zD hp3 (.lst [y0,vd]);let e19:=zB (H:=H18) (a:=p3) (o:=.lst [y0,vd]);generalize upd H18 p3 (.lst [y0,vd])=H19 at s19 e19⊢;let g1719:=g18.trans s19;let g819:=g817.trans g1719;let spy:=Sp1.same g819 sp8;let spd19:=Sp1.same s19 spd;let dyd:∀b∈D8,b∉Dd:=λb hb z=>by
   obtain⟨o,ho⟩:=Sp1.there _ _ _ (Sp1.same g817 sp8) hb;rw[hDd b z] at ho;cases ho
  let np3:p3∉D8/\p3∉Dd:=by
   refine{λz=>?_,λz=>?_}
   ·obtain⟨o,ho⟩:=Sp1.there _ _ _ (Sp1.same (g817.trans g18) sp8) z
    rw[hp3] at ho;cases ho
   ·obtain⟨o,ho⟩:=Sp1.there _ _ _ spd z
    rw[hp3] at ho;cases ho
  subst hR;refine zFa λR hR=>?_;lk;refine{{_,SqL.of e19}, ?_};refine jF (K:=K) (a:=p3) (xs:=[y0,vd]) (λi σ' H'=>∃(o1:Option V)(Dy De:List V1),σ'= [Y (V.ref a),Y (V.ref l),Y v,Y (V.ref pp),Y (V.ref pd),Y vh,Y (V.ref l0),Y (V.ref p0),Y y9,Y (V.ref p3),o1,none]/\Keep (D8++Dd) H19 H'/\Sp1 H' y0 (if 1<=i then(omT 20 u 0).1 else u) Dy/\(∀b∈Dy,b∈D8)/\Sp1 H' vd (if 2<=i then(omT 20 u 0).1 else u) De/\∀b∈De,b∈Dd) {_,D8,Dd,O,λ_ _ _ e=>e,spy,λ_ z=>z,spd19,λ_ z=>z} (λi σ' H' _ h=>?_) ?_ ?_
  ·obtain⟨o1,Dy,De,rfl,kp,_⟩:=h
   exact SqL.of (kp _ _ (λz=>(mU.mp z).elim np3.1 np3.2) e19)
  ·rintro i x σ' H' hx ⟨o1,Dy,De,rfl,kp,sy,hDy,se,hDe⟩
   lk;let hi2:=(mO.mp hx).1;rcases(show i=0\/i=1 by let z:i<2:=hi2;lia) with rfl | rfl
   ·let ex:y0=x:=mR hx
    subst ex;refine{y0,u,Dy,0,O,sy,fu,∅,λH2' D' k2' sy' sub=>{λb o' hb e=>k2' b o' (λz=>hb (nV _ (hDy b z))) (kp b o' hb e),D',sy',λb hb=>hDy b (sub b hb),De,zGw se k2' λb hb z=>dyd b (hDy b z) (hDe b hb),hDe}}
   ·let ex:vd=x:=mR hx
    subst ex;refine{vd,u,De,0,O,se,fu,∅,λH2' D' k2' se' sub=>{λb o' hb e=>k2' b o' (λz=>hb (nI _ (hDe b z))) (kp b o' hb e),Dy,zGw sy k2' λb hb z=>dyd b (hDy b hb) (hDe b z),hDy,D',se',λb hb=>hDe b (sub b hb)}}
  rintro σ' H20 ⟨o1,Dy,De,rfl,kp,sy,hDy,se,hDe⟩;let g720:Same H7 H20:=zFf (g8.trans g819) kp λb hb=>by
   rcases mU.mp hb with z | z
   ·exact(hD8 b z).1
   ·exact yG (g8.trans g817) (hDd b z)
  let g320:=g37.trans g720;let g220:=g3.trans g320;let sy2:Sp1 H20 y0 (omT 20 u 0).1 Dy:=sy;let se2:Sp1 H20 vd (omT 20 u 0).1 De:=se;let h320:H20 p3=Y (.lst [y0,vd]):=kp _ _ (λz=>(mU.mp z).elim np3.1 np3.2) e19;obtain⟨fY,dY⟩:=zKz (m:=60) 20 u 0 {tf,∅} ∅;let fY':=c5 ∎ _ fY;let alkY:=zDv fY';show R {nx:=λx H'=>Q V.non H',rt:=Q} [Y (V.ref a),Y (V.ref l),Y v,Y (V.ref pp),Y (V.ref pd),Y vh,Y (V.ref l0),Y (V.ref p0),Y y9,Y (V.ref p3),o1,none] H20;clear spy spd19 dyd np3 sy se kp;subst hR;refine zFa λR hR=>?_;lk;refine zZ (SqL.of h320) (zV (j:=0) O) (zZ (SqL.of h320) (zV (j:=1) O) (zAa (Sp1.rep _ _ _ sy2) (Sp1.rep _ _ _ se2) fY' fY' ∅ ∅ λH21 g21=>{_,O,iN (by rw[alkY];decide) ?_}));let g221:=g220.trans g21;subst hR;refine zFa λR hR=>?_;lk;let g721:=g720.trans g21;refine uR (g221 _ _ t2) (t3.same g221) tl λlq2 H22 g22 hq22 p4 hp4=>?_;let s23:=zD hp4 (.lst [v, .ref lq2]);let g2123:=g22.trans s23;refine zAa (t':=.lst [t, .lst (ds.map dlT)]) (Rep.same (g7.trans (g721.trans g2123)) _ _ hh6) {p4,_,O,zB,v,_,O,Rep.same (g221.trans g2123) _ _ hv2,_,[],O,Rep.same s23 _ _ hq22,O} fW' fW' ∅ ∅ λH24 g24=>{_,O,iN (by rw[alkW];decide) ?_};let g224:=g221.trans (g2123.trans g24);let g324:=g320.trans (g21.trans (g2123.trans g24));subst hR;refine zFa λR hR=>?_;lk;refine{v,pp,xs,t,u,ds,31,O,Rep.same g224 _ _ hv2,g224 _ _ t2,t3.same g224,hRJ,hr',hg,λya H25 D25 g25' sp25 _=>?_};let g325:=g324.trans g25';subst hR;lk;refine zZ (SqL.of (g325 _ _ hpd)) (zV (j:=0) O) (zAa (Sp1.rep _ _ _ sp25) (Rep.same g325 _ _ hy) fu fu ∅ ∅ λH26 g26=>{true,by rw[alkU],iP O λp5 hp5=>?_});let s27:=zD hp5 (.lst []);let e27:=zB (H:=H26) (a:=p5) (o:=.lst []);generalize upd H26 p5 (.lst [])=H27 at s27 e27⊢;let g2527:=g26.trans s27;refine{ya,p5,[],u,u,[],60,O,Sp1.rep _ _ _ (Sp1.same g2527 sp25),e27,{O,λi v d h=>by cases h},{tf,by decide,by decide,tg,td,by show T.sz u+200*0<=5000;lia,λd h=>nomatch h},O,hg,λyb H28 D28 g28' sp28 _=>?_};let g328:=g325.trans (g2527.trans g28');refine zZ (SqL.of (g328 _ _ hpd)) (zV (j:=0) O) (zAa (Sp1.rep _ _ _ sp28) (Rep.same g328 _ _ hy) fu fu ∅ ∅ λH29 _=>?_);rw[alkU];exact q H29
end
end K42
namespace K42
open PySem L2 PySem.W
section
variable{K:Frag}{dT:V1}{kV doc pm cdv ct:V0}{an:Option V1}
theorem biCs{o:Obj}{i0:V0}{n:Nat}(hd:K.lookup dT=Y o)(hs:o.data= .seq #[i0] n):Binds K (fnOf "change_shared" "change_shared" (xW sCs) (xJ sCs) (zK sCs) (.ref dT) kV doc pm an cdv ct) ["thing","word","path","new"] []:=by
 refine λs us hK hl=>?_;rw[pQ] at hl⊢;rcases us with _ |⟨a,_ |⟨b,_ |⟨c,_ |⟨d,_ |⟨e,r⟩⟩⟩⟩⟩
 case cons.cons.cons.cons.nil=>exact binds_K hK O hd hs O O
 all_goals exact absurd hl (by simp)
end
end K42
namespace K42
open PySem L2 PySem.W
def FA(K:A6)(x:Str)(st:V6)(f:V1):Prop:=A8 K A0 x=Y ↥(.ref f)/\∃oc od kV dc pm an cd ct sl,K.lookup f=Y {oc,od, .func (W.fnOf x x (xW st) (xJ st) (zK st) .none kV dc pm an cd ct),sl}/\A9 K cd x=true/\A7 K (.ref f)=true
theorem FA.out{K:A6}{h:V5}{mg:Str->Option V0}{x:Str}{st:V6}{f:V1}(a:FA K x st f)(X:K.In h)(G:h.Ns A0 mg):mg x=Y (.ref f)/\(∃fd,Fun K x x st f fd)/\A7 K (.ref f)=true:=by
 obtain⟨a,oc,od,kV,dc,pm,an,cd,ct,sl,l,c,k⟩:=a;exact nAA (sI X G a) {_,zTd l c k} k
theorem zCg{P:V3}{w:V4}{K:A6}{mg:Str->Option V0}{base:V5}{k j:Nat}{x:Str}{ps:List Str}{sp:Sp}(h:Dn P w K mg base k x ps sp)(l:k<=j):Dn P w K mg base j x ps sp:=by
 obtain⟨_,_,z,b,p,m⟩:=h;exact{_,_,FnOk.mono z l,b,p,m}
theorem dn_mk{P:V3}{w:V4}{K:A6}{mg:Str->Option V0}{base:V5}{k:Nat}{x:Str}{ps:List Str}{sp:Sp}{f:V1}{fd:V7}(m:mg x=Y (.ref f))(p:A7 K (.ref f)=true)(o:FnOk P w K mg base CX0 k f fd ps sp)(b:Binds K fd ps []):Dn P w K mg base k x ps sp:=⟨_,_,o,b,p,m⟩
theorem all_mk{l:W.OpenLaw}{w:V4}{K:A6}{h:V5}{mg:Str->Option V0}{fa f0 f1 f2 f3 f4 f5 f6 f7 f8 f9 f10 f11 f12 f13 f14 f15 f16 f17 f18 f19 f20 f21 f22 f23 f24 f25 f26 f27 f28 f29 f30 f31 f32 f33 f34 f35 f36 f37 f38 f39 f40 f41 f42 f43 f44 f45 f46 f47 f48 f49 f50 f51 f52 f53:V1}(X:K.In h)(G:h.Ns A0 mg)(hfa:mg "law" =Y (.ref fa))
  {od53 an53:Option V1} {sl53:Array (Option V0)} {oc53 kV53 dc53 pm53 cd53 ct53:V0}
  {u0:Tok}
  {u1:Tok}
  {v0:Tok}
  {v1:Tok}
  {v2:Tok}
  {v3:Tok}
  {v4:Tok}
  {v5:Tok}
  {xB x1c x2c x5c:V1} {pN pF pD:V1} {pq:Str} {pbs:List V0} {psn:List Str} {psub:List V0} {pab:Bool} {pcol:Option Bool} {pdd:Option V1} {pk0 pk1 pk2 pk3 pk5:Option V0} {pod pan:Option V1} {psl:Array (Option V0)} {poc pkV pdc ppm pcd pct:V0} {pdo:Option V1} {pdc' pdv:V0} {pdn:Nat} {pds:Array (Option V0)} {dN dF dD:V1} {dq:Str} {dbs:List V0} {dsn:List Str} {dsub:List V0} {dab:Bool} {dcol:Option Bool} {ddd:Option V1} {dk0 dk1 dk2 dk3 dk5:Option V0} {dod dan:Option V1} {dsl:Array (Option V0)} {doc dkV ddc dpm dcd dct:V0} {ddo:Option V1} {ddc' ddv:V0} {ddn:Nat} {dds:Array (Option V0)} {tN:V1} {tq:Str} {tbs:List V0} {tsn:List Str} {tsub:List V0} {tab:Bool} {tcol:Option Bool} {tdd:Option V1} {tk0 tk1 tk2 tk3 tk5:Option V0} {hF hD:V1} {hoc hkV hdc hpm hcd hct htc:V0} {hod han hto:Option V1} {hsl hts:Array (Option V0)} {htn:Nat}
  (a0:FA K "kind_of" zHg f0)
  (a1:FA K "is_name" zHe f1)
  (a2:FA K "is_text_sign" yBo f2)
  (a3:FA K "is_thing" sTh f3)
  (a4:FA K "is_sound_outside" yCz f4)
  (a5:FA K "holds_parts" sHp f5)
  (a6:FA K "parts_of" sPo f6)
  (a7:FA K "parts_of_all" sPz f7)
  (a8:FA K "copied" sCp f8)
  (a9:FA K "is_place" zLq f9)
  (a10:FA K "leads_on" sLo f10)
  (a11:FA K "sound" yBz f11)
  (a12:FA K "whole_changed" sWc f12)
  (a13:FA K "stops_to_last" sSl f13)
  (a14:FA K "leads_within" sLw f14)
  (a15:FA K "can_change" sCc f15)
  (a16:FA K "part_changed" zTg f16)
  (a17:FA K "record_changed" yCw f17)
  (a18:FA K "row_changed" yAi f18)
  (a19:FA K "done" zTr f19)
  (a20:FA K "stands_of" sSo f20)
  (a21:FA K "after_deed" sAd f21)
  (a22:FA K "_law_cell" zSv f22)
  (a23:FA K "_law_name_by" zRa f23)
  (a24:FA K "_law_signs" zKp f24)
  (a25:FA K "_law_text_by" zRl f25)
  (a26:FA K "_law_number_by" yBv f26)
  (a27:FA K "_law_thing_by" zEe f27)
  (a28:FA K "_law_kind" zUb f28)
  (a29:FA K "_law_rows_compare" zOc f29)
  (a30:FA K "_law_compare" zRt f30)
  (a31:FA K "_law_same" zTx f31)
  (a32:FA K "_law_inner" zLe f32)
  (a33:FA K "_law_depth" zEn f33)
  (a34:FA K "_law_size" zIm f34)
  (a35:FA K "_law_narrow" zAx f35)
  (a36:FA K "_law_good" zMh f36)
  (a37:FA K "_law_held" sCo f37)
  (a38:FA K "_law_put_in" sPi f38)
  (a39:FA K "_law_deed_on" sDo f39)
  (a40:FA K "_law_base" sBa f40)
  (a41:FA K "_law_walk" sWk f41)
  (a42:FA K "_law_step_at" sSa f42)
  (a43:FA K "_law_deed" sDe f43)
  (a44:FA K "_law_deeds" sDs f44)
  (a45:FA K "_law_pushing" sPu f45)
  (a46:FA K "_law_rows_of" sRo f46)
  (a47:FA K "_law_drawn" sDr f47)
  (a48:FA K "_law_paper_copy" sPc f48)
  (a49:FA K "_law_own_marks" sMk f49)
  (a50:FA K "_law_shared" sSh f50)
  (a51:FA K "_law_told" sTo f51)
  (a52:FA K "_law_due" sDu f52)
  (a53:A8 K A0 "law" =Y ↥(.ref f53))
  (l53:K.lookup f53=Y {oc53,od53, .func (W.fnOf "law" "law" (xW zHy) (xJ zHy) (zK zHy) .none kV53 dc53 pm53 an53 cd53 ct53),sl53})
  (c53:A9 K cd53 "law" =true)
  (k53:A7 K (.ref f53)=true)
  (z0:A8 K A0 "len" =Y none)
  (z1:A8 K A0 "range" =Y none)
  (z2:A8 K A0 "isinstance" =Y none)
  (z3:A8 K A0 "all" =Y none)
  (z4:A8 K A0 "sum" =Y none)
  (z5:A8 K A0 "int" =Y none)
  (z6:A8 K A0 "str" =Y none)
  (z7:A8 K A0 "bool" =Y none)
  (z8:A8 K A0 "list" =Y none)
  (z9:A8 K A0 "dict" =Y none)
  (z10:A8 K A0 "tuple" =Y none)
  (y0:A8 K A0 "max" =Y none)
  (y1:A8 K A0 "min" =Y none)
  (y2:A8 K A0 "sorted" =Y none)
  (r0:A8 K A0 "enumerate" =Y none)
  (q0:A8 K A0 "abs" =Y none)
  (q1:A8 K A0 "ord" =Y none)
  (zz0:A8 K A0 "zip" =Y none)
  (s0:A8 K A0 "LETTERS" =Y ↥(.str (A5 "abcdefghijklmnopqrstuvwxyz") u0))
  (s1:A8 K A0 "NAME_SIGNS" =Y ↥(.str (A5 "abcdefghijklmnopqrstuvwxyz0123456789") u1))
  (n0:A8 K A0 "MOST_IN_NAME" =Y ↥(.int 12 v0))
  (n1:A8 K A0 "MOST_IN_TEXT" =Y ↥(.int 30 v1))
  (n2:A8 K A0 "MOST_IN_ROW" =Y ↥(.int 60 v2))
  (n3:A8 K A0 "MOST_IN_RECORD" =Y ↥(.int 30 v3))
  (n4:A8 K A0 "MOST_DEPTH" =Y ↥(.int 8 v4))
  (n5:A8 K A0 "MOST_SIZE" =Y ↥(.int 200 v5))
  (ha:A8 K A0 "change_shared" =Y ↥(.ref hF))
  (hs:K.lookup hF=Y {hoc,hod, .func (W.fnOf "change_shared" "change_shared" (xW sCs) (xJ sCs) (zK sCs) (.ref hD) hkV hdc hpm han hcd hct),hsl})
  (ht:A9 K hcd "change_shared" =true)
  (hk:A7 K (.ref hF)=true)
  (hu:K.lookup hD=Y {htc,hto, .seq #[.none] htn,hts})
  (xaB:A8 K A0 "CabinetError" =Y ↥(.ref xB))
  (xaV:A8 K A0 "ValueError" =Y none)
  (xb1:W.tailIn K veMro (.ref xB::veMro)=true)
  (xc0:W.specialIn K (.ref xB) "__getattribute__" =Y ↥(.builtin "type.__getattribute__"))
  (xc1:W.readsIn K xB (.type "type")=true)
  (xc2:W.findCls K (.ref xB) (.type "type") "__init__" =Y (.val (.builtin "ValueError.__init__")))
  (xe6:W.specialIn K (.builtin "object.__class__") "__get__" =Y ↥(.builtin "getset_descriptor.__get__"))
  (xe7:W.takesIn K (.builtin "object.__class__")=Y true)
  (pa:A8 K A0 "NoPlace" =Y ↥(.ref x1c))
  (pb0:K.lookup x1c=Y (excClassObj "NoPlace" pq x1c pN pbs (.ref xB::veMro) true psn psub pab pcol pdd pk0 pk1 pk2 pk3 pk5 "ValueError.__new__"))
  (pb2:W.findIn K (.ref x1c) "__init__" =Y ↥(.ref pF))
  (pb3:W.typeIn K (.ref pF)=Y (.type "function"))
  (pb4:W.findIn K (.ref x1c) "__setattr__" =Y ↥(.builtin "object.__setattr__"))
  (pb5:W.findIn K (.ref x1c) "at" =Y none)
  (pb6:A7 K (.ref x1c)=true)
  (pd0:K.lookup pF=Y {poc,pod, .func (W.fnOf "__init__" "NoPlace.__init__" (xW qO) (xJ qO) (zK qO) (.ref pD) pkV pdc ppm pan pcd pct),psl})
  (pd1:A9 K pcd "NoPlace.__init__" =true)
  (pd2:K.lookup pD=Y {pdc',pdo, .seq #[pdv] pdn,pds})
  (da:A8 K A0 "NoDeed" =Y ↥(.ref x5c))
  (db0:K.lookup x5c=Y (excClassObj "NoDeed" dq x5c dN dbs (.ref xB::veMro) true dsn dsub dab dcol ddd dk0 dk1 dk2 dk3 dk5 "ValueError.__new__"))
  (db2:W.findIn K (.ref x5c) "__init__" =Y ↥(.ref dF))
  (db3:W.typeIn K (.ref dF)=Y (.type "function"))
  (db4:W.findIn K (.ref x5c) "__setattr__" =Y ↥(.builtin "object.__setattr__"))
  (db5:W.findIn K (.ref x5c) "at" =Y none)
  (db6:A7 K (.ref x5c)=true)
  (dd0:K.lookup dF=Y {doc,dod, .func (W.fnOf "__init__" "NoDeed.__init__" (xW qP) (xJ qP) (zK qP) (.ref dD) dkV ddc dpm dan dcd dct),dsl})
  (dd1:A9 K dcd "NoDeed.__init__" =true)
  (dd2:K.lookup dD=Y {ddc',ddo, .seq #[ddv] ddn,dds})
  (dfn:W.findIn K (.ref x5c) "number" =Y none)
  (de0:W.findIn K (.ref x5c) "__getattribute__" =Y ↥(.builtin "BaseException.__getattribute__"))
  (de1:W.findIn K (.ref x5c) "__getattr__" =Y none)
  (de2:W.mroIn K x5c (.type "BaseException")=Y true)
  (de3:W.mroIn K x5c (.type "object")=Y true)
  (de4:W.hasDictIn K x5c=true)
  (de5:W.findIn K (.ref x5c) "__class__" =Y ↥(.builtin "object.__class__"))
  (ta:A8 K A0 "TooGreat" =Y ↥(.ref x2c))
  (tb0:K.lookup x2c=Y (excClassObj "TooGreat" tq x2c tN tbs (.ref xB::veMro) true tsn tsub tab tcol tdd tk0 tk1 tk2 tk3 tk5 "ValueError.__new__"))
  (tb2:W.nsOkIn K tN=true)
  (tb3:A8 K tN "__init__" =Y none)
  (tb6:A7 K (.ref x2c)=true)
  (te0:W.findIn K (.ref x2c) "__getattribute__" =Y ↥(.builtin "BaseException.__getattribute__"))
  (te1:W.findIn K (.ref x2c) "__getattr__" =Y none)
  (te2:W.mroIn K x2c (.type "BaseException")=Y true)
  (te3:W.mroIn K x2c (.type "object")=Y true)
  (te4:W.hasDictIn K x2c=true)
  (te5:W.findIn K (.ref x2c) "__class__" =Y ↥(.builtin "object.__class__"))
  (xf1:W.exmOne K (.ref x1c) (.ref x1c)=Y true)
  (xf5:W.exmOne K (.ref x5c) (.ref xB)=Y true)
  (xf2:W.exmOne K (.ref x2c) (.ref xB)=Y true)
  (xf55:W.exmOne K (.ref x5c) (.ref x5c)=Y true)
  (xf25:W.exmOne K (.ref x2c) (.ref x5c)=Y false)
  (xf22:W.exmOne K (.ref x2c) (.ref x2c)=Y true)
  (xg55:W.kitOne K (.ref x5c) (.ref x5c)=Y true)
  (xg25:W.kitOne K (.ref x2c) (.ref x5c)=Y false)
  (xg22:W.kitOne K (.ref x2c) (.ref x2c)=Y true)
  (xg2V:W.kitOne K (.ref x2c) (.type "ValueError")=Y true):
  ∃fd:V7,(∀(s:V2)(v:V0),BindsTo s fd {[v],[]} [("_law_script",v)])/\∀base:V5,K.In base->base.Ns A0 mg->FnOk l.prog w K mg base CX0 107 fa fd ["_law_script"] (zNw K):=by
 let e:=hfa.symm.trans (sI X G a53);cases e;let F0:=(a0.out X G).2.1.choose_spec;let F1:=(a1.out X G).2.1.choose_spec;let F2:=(a2.out X G).2.1.choose_spec;let F3:=(a3.out X G).2.1.choose_spec;let F4:=(a4.out X G).2.1.choose_spec;let F5:=(a5.out X G).2.1.choose_spec;let F6:=(a6.out X G).2.1.choose_spec;let F7:=(a7.out X G).2.1.choose_spec;let F8:=(a8.out X G).2.1.choose_spec;let F9:=(a9.out X G).2.1.choose_spec;let F10:=(a10.out X G).2.1.choose_spec;let F11:=(a11.out X G).2.1.choose_spec;let F12:=(a12.out X G).2.1.choose_spec;let F13:=(a13.out X G).2.1.choose_spec;let F14:=(a14.out X G).2.1.choose_spec;let F15:=(a15.out X G).2.1.choose_spec;let F16:=(a16.out X G).2.1.choose_spec;let F17:=(a17.out X G).2.1.choose_spec;let F18:=(a18.out X G).2.1.choose_spec;let F19:=(a19.out X G).2.1.choose_spec;let F20:=(a20.out X G).2.1.choose_spec;let F21:=(a21.out X G).2.1.choose_spec;let F22:=(a22.out X G).2.1.choose_spec;let F23:=(a23.out X G).2.1.choose_spec;let F24:=(a24.out X G).2.1.choose_spec;let F25:=(a25.out X G).2.1.choose_spec;let F26:=(a26.out X G).2.1.choose_spec;let F27:=(a27.out X G).2.1.choose_spec;let F28:=(a28.out X G).2.1.choose_spec;let F29:=(a29.out X G).2.1.choose_spec;let F30:=(a30.out X G).2.1.choose_spec;let F31:=(a31.out X G).2.1.choose_spec;let F32:=(a32.out X G).2.1.choose_spec;let F33:=(a33.out X G).2.1.choose_spec;let F34:=(a34.out X G).2.1.choose_spec;let F35:=(a35.out X G).2.1.choose_spec;let F36:=(a36.out X G).2.1.choose_spec;let F37:=(a37.out X G).2.1.choose_spec;let F38:=(a38.out X G).2.1.choose_spec;let F39:=(a39.out X G).2.1.choose_spec;let F40:=(a40.out X G).2.1.choose_spec;let F41:=(a41.out X G).2.1.choose_spec;let F42:=(a42.out X G).2.1.choose_spec;let F43:=(a43.out X G).2.1.choose_spec;let F44:=(a44.out X G).2.1.choose_spec;let F45:=(a45.out X G).2.1.choose_spec;let F46:=(a46.out X G).2.1.choose_spec;let F47:=(a47.out X G).2.1.choose_spec;let F48:=(a48.out X G).2.1.choose_spec;let F49:=(a49.out X G).2.1.choose_spec;let F50:=(a50.out X G).2.1.choose_spec;let F51:=(a51.out X G).2.1.choose_spec;let F52:=(a52.out X G).2.1.choose_spec;let Flaw:=zTd (st:=zHy) l53 c53 k53;let B:Bl mg:={pP X G z0,pP X G z1,pP X G z2,pP X G z3,pP X G z4,pP X G z5,pP X G z6,pP X G z7,pP X G z8,pP X G z9,pP X G z10};let B2:Bl2 mg:={B,pP X G y0,pP X G y1,pP X G y2};let B4:Bl4 mg:={B2,pP X G r0};let B5:Bl5 mg:={B2,pP X G q0,pP X G q1};let B6:Bl6 mg:={B2,pP X G zz0};let M:Ms mg:={{_,sI X G s0},{_,sI X G s1},{_,sI X G n0},{_,sI X G n1},{_,sI X G n2},{_,sI X G n3},{_,sI X G n4},{_,sI X G n5}};refine{W.fnOf "law" "law" (xW zHy) (xJ zHy) (zK zHy) .none kV53 dc53 pm53 an53 cd53 ct53,λs v=>.of_eq O,λbase _ _=>?_};let D {k x ps sp f fd}:=@dn_mk l.prog w K mg base k x ps sp f fd;let Gcell:=D (a22.out X G).1 (a22.out X G).2.2 (zXk F22 B) (F22.binds (by walk_at "b2"));let Gnum:=D (a26.out X G).1 (a26.out X G).2.2 (yAr F26) (F26.binds (by walk_at "b1"));let Gname:=D (a23.out X G).1 (a23.out X G).2.2 (zXv F23 B) (F23.binds (by walk_at "b1"));let Gsigns:=D (a24.out X G).1 (a24.out X G).2.2 (zTn F24) (F24.binds (by walk_at "b0"));let Gtext:=D (a25.out X G).1 (a25.out X G).2.2 (zWb F25 B Gsigns) (F25.binds (by walk_at "b1"));let Gthing:=D (a27.out X G).1 (a27.out X G).2.2 (zPm (n:=3) (zFt F27 B Gcell Gnum Gtext Gname (F27.binds (by walk_at "b3")) (a27.out X G).2.2 (a27.out X G).1)) (F27.binds (by walk_at "b3"));let Gco:=D (a37.out X G).1 (a37.out X G).2.2 (zQu F37 B (F37.binds (by walk_at "b1")) (a37.out X G).2.2 (a37.out X G).1 20) (F37.binds (by walk_at "b1"));let Gkind:=D (a28.out X G).1 (a28.out X G).2.2 (zXi F28 B) (F28.binds (by walk_at "b1"));let Gcmp:=D (a30.out X G).1 (a30.out X G).2.2 (zMy F30 F29 B2 Gkind (F30.binds (by walk_at "b2")) (a30.out X G).2.2 (a30.out X G).1 (F29.binds (by walk_at "b2")) (a29.out X G).2.2 (a29.out X G).1 40) (F30.binds (by walk_at "b2"));let Gsame:=D (a31.out X G).1 (a31.out X G).2.2 (zXb F31 B2 Gkind Gcmp) (F31.binds (by walk_at "b2"));let Gkr:=D (a0.out X G).1 (a0.out X G).2.2 (zEh F0 B) (F0.binds (by walk_at "b1"));let Gcp:=D (a8.out X G).1 (a8.out X G).2.2 (zVn F8 B (F8.binds (by walk_at "b1")) (a8.out X G).2.2 (a8.out X G).1 20) (F8.binds (by walk_at "b1"));let Gnr:=D (a32.out X G).1 (a32.out X G).2.2 (zUz F32 B) (F32.binds (by walk_at "b1"));let Gdp:=D (a33.out X G).1 (a33.out X G).2.2 (zFl F33 B2 Gnr (F33.binds (by walk_at "b1")) (a33.out X G).2.2 (a33.out X G).1 20) (F33.binds (by walk_at "b1"));let Gsz:=D (a34.out X G).1 (a34.out X G).2.2 (zJi F34 B Gnr (F34.binds (by walk_at "b1")) (a34.out X G).2.2 (a34.out X G).1 20) (F34.binds (by walk_at "b1"));let Gnw:=D (a35.out X G).1 (a35.out X G).2.2 (zDt F35 B Gnr (F35.binds (by walk_at "b1")) (a35.out X G).2.2 (a35.out X G).1 20) (F35.binds (by walk_at "b1"));let Ggd:=D (a36.out X G).1 (a36.out X G).2.2 (FnOk.mono (zVo F36 B Gnw Gdp Gsz) (show 23<=41 by decide)) (F36.binds (by walk_at "b1"));let Gsa:=D (a42.out X G).1 (a42.out X G).2.2 (FnOk.mono (ok_sa F42 B2 Gname) (show 2<=6 by decide)) (F42.binds (by walk_at "b2"));let Gwk:=D (a41.out X G).1 (a41.out X G).2.2 (FnOk.mono (ok_wk F41 B2 Gcell) (show 2<=6 by decide)) (F41.binds (by walk_at "b3"));let Gcell6:=zCg Gcell (show _<=6 by decide);let Gde:=D (a43.out X G).1 (a43.out X G).2.2 (FnOk.mono (ok_de F43 B2 Gcell6 Gwk Gsa Gthing) (show 7<=23 by decide)) (F43.binds (by walk_at "b3"));let Gpi:=D (a38.out X G).1 (a38.out X G).2.2 (FnOk.mono (ok_pi F38 B Gco) (show 1+20+1<=22 by decide)) (F38.binds (by walk_at "b4"));let Gco22:=zCg Gco (show _<=22 by decide);let Gdo:=D (a39.out X G).1 (a39.out X G).2.2 (ok_do F39 B Gco22 Gpi) (F39.binds (by walk_at "b2"));let Gco23:=zCg Gco (show _<=23 by decide);let Gds:=D (a44.out X G).1 (a44.out X G).2.2 (FnOk.mono (ok_ds F44 B2 Gco23 Gde Gdo) (show 24<=41 by decide)) (F44.binds (by walk_at "b4"));let Gba:=D (a40.out X G).1 (a40.out X G).2.2 (FnOk.mono (ok_ba F40 B2 Gcell6 Gthing) (show 7<=41 by decide)) (F40.binds (by walk_at "b2"));let Gcell41:=zCg Gcell (show _<=41 by decide);let Gro:=D (a46.out X G).1 (a46.out X G).2.2 (FnOk.mono (ok_ro F46 B2 Gco23 Gdo) (show 24<=41 by decide)) (F46.binds (by walk_at "b2"));let Gpu:=D (a45.out X G).1 (a45.out X G).2.2 (FnOk.mono (ok_pu F45 B2 Gcell6) (show 7<=41 by decide)) (F45.binds (by walk_at "b3"));let Gdr:=D (a47.out X G).1 (a47.out X G).2.2 (FnOk.mono (ok_dr F47 B2 Gcell41 Gba Gro Gpu Gds) (show 42<=106 by decide)) (F47.binds (by walk_at "b2"));let Gsh:=D (a50.out X G).1 (a50.out X G).2.2 (FnOk.mono (ok_sh F50 B2 Gcell41 Gro) (show 42<=106 by decide)) (F50.binds (by walk_at "b3"));let Gdu:=D (a52.out X G).1 (a52.out X G).2.2 (FnOk.mono (ok_du F52 B2 Ggd) (show 42<=106 by decide)) (F52.binds (by walk_at "b1"));let GkT:=D (a0.out X G).1 (a0.out X G).2.2 (yCp (zEh F0 B)) (F0.binds (by walk_at "b1"));let Gplace:=D (a9.out X G).1 (a9.out X G).2.2 (zVb F9 B M GkT) (F9.binds (by walk_at "b1"));let Glo:=D (a10.out X G).1 (a10.out X G).2.2 (ok_lo F10 B) (F10.binds (by walk_at "b2"));let Glw:=D (a14.out X G).1 (a14.out X G).2.2 (ok_lw F14 B Glo Gplace) (F14.binds (by walk_at "b2"));let Gcc:=D (a15.out X G).1 (a15.out X G).2.2 (ok_cc F15 B Glw Gplace) (F15.binds (by walk_at "b3"));let Grec:=D (a17.out X G).1 (a17.out X G).2.2 (yCh F17 B) (F17.binds (by walk_at "b4"));let Grow:=D (a18.out X G).1 (a18.out X G).2.2 (yAx F18 B) (F18.binds (by walk_at "b4"));let Gpart:=D (a16.out X G).1 (a16.out X G).2.2 (zWo F16 B Grec Grow) (F16.binds (by walk_at "b4"));let mB:=sI X G xaB;let XC:zBy K "NoPlace" x1c xB pF:={⟨pN,_,pb0,_,_,_,_,_,_,_,_,_,_,_,_,_,O⟩,{_,by unfold W.clsIn;rw[pb0],O,O},xb1,pb2,pb3,pb4,pb5,pb6};let XD:zBy K "NoDeed" x5c xB dF:={⟨dN,_,db0,_,_,_,_,_,_,_,_,_,_,_,_,_,O⟩,{_,by unfold W.clsIn;rw[db0],O,O},xb1,db2,db3,db4,db5,db6};let XB:zOo K xB:=⟨xc0,xc1,xc2⟩;let RN:Xr l.prog w K mg base 1 "NoPlace" x1c:={_,_,_,_,_,XC,zUw pd0 pd1 XC XB mB,zIn pd2 O O,sI X G pa};let RB:Xb K mg "NoPlace" x1c:={_,_,_,XC,sI X G pa,xf1};let RD:Xh l.prog w K mg base 1 "NoDeed" x5c "number":={_,_,_,_,_,XD,zTb dd0 dd1 XD dfn XB mB,zJd dd2 O O,sI X G da};let RT:Xr0 K mg "TooGreat" x2c:={_,_,{{tN,_,tb0,⟨_,_,_,_,_,_,_,_,_,_,_,_,_,O⟩,tb2,tb3},xb1,tb6},sI X G ta};let TF:Tf K mg xB x5c x2c:={mB,sI X G da,sI X G ta,pP X G xaV,xf5,xf2,xf55,xf25,xf22,⟨de0,de1,de2,de3,de4,de5,xe6,xe7⟩,⟨te0,te1,te2,te3,te4,te5,xe6,xe7⟩,dfn,xg55,xg25,xg22,xg2V};let Gwc:Dx nC l.prog w K mg base 3 "whole_changed" ["word","new"] (yCf x1c):={_,_,ok_wc F12 B RN,(F12.binds (by walk_at "b2")),(a12.out X G).2.2,(a12.out X G).1};let Gsl:Dx nC l.prog w K mg base 4 "stops_to_last" ["thing","path"] (yCs x1c):={_,_,ok_sl F13 B Glw RN,(F13.binds (by walk_at "b2")),(a13.out X G).2.2,(a13.out X G).1};let FCs:FunD K "change_shared" "change_shared" sCs hF (W.fnOf "change_shared" "change_shared" (xW sCs) (xJ sCs) (zK sCs) (.ref hD) hkV hdc hpm han hcd hct):={{hoc,hod, .ref hD,hkV,hdc,hpm,han,hcd,hct,hsl,O,hs,ht}};let mCs:=sI X G ha;let Gcs:Dx nC l.prog w K mg base 5 "change_shared" ["thing","word","path","new"] (zVy x1c):={_,_,ok_cs FCs B Gwc Gsl Gcc Gpart RN,biCs hu O,hk,mCs};let Gad:Dx aC l.prog w K mg base 6 "after_deed" ["thing","deed","number"] (yCm x5c):={_,_,ok_ad F21 B Gcs RD RB,(F21.binds (by walk_at "b3")),(a21.out X G).2.2,(a21.out X G).1};let Gin:=D (a1.out X G).1 (a1.out X G).2.2 (zKq F1 B M) (F1.binds (by walk_at "b1"));let Gsg:=D (a2.out X G).1 (a2.out X G).2.2 (yDf F2 B5) (F2.binds (by walk_at "b1"));let Gsnd:=D (a4.out X G).1 (a4.out X G).2.2 (yBw F4 B5 M Gkr Gsg Gin) (F4.binds (by walk_at "b1"));let Ghp:=D (a5.out X G).1 (a5.out X G).2.2 (ok_hp F5 B) (F5.binds (by walk_at "b1"));let Gpo:=D (a6.out X G).1 (a6.out X G).2.2 (ok_po F6 B) (F6.binds (by walk_at "b1"));let Gpz:=D (a7.out X G).1 (a7.out X G).2.2 (yCu F7 B Gpo) (F7.binds (by walk_at "b1"));let Gth:=D (a3.out X G).1 (a3.out X G).2.2 (ok_th F3 B M Gsnd Ghp Gpz) (F3.binds (by walk_at "b1"));let Gsou:Dx aC l.prog w K mg base 6 "sound" ["thing"] (zRx x2c):={_,_,FnOk.mono (yCd F11 Gth RT) (show 4<=6 by decide),(F11.binds (by walk_at "b1")),(a11.out X G).2.2,(a11.out X G).1};let Gso:Dx aC l.prog w K mg base 25 "stands_of" ["thing","paper"] (yAs x5c x2c):={_,_,FnOk.mono (ok_so F20 B4 Gad Gsou) (show 7<=25 by decide),(F20.binds (by walk_at "b2")),(a20.out X G).2.2,(a20.out X G).1};let Gcp25:=zCg Gcp (show _<=25 by decide);let Gdonex:Dx aC l.prog w K mg base 26 "done" ["thing","paper"] (gR x5c x2c):={_,_,zMr F19 Gso Gcp25,(F19.binds (by walk_at "b2")),(a19.out X G).2.2,(a19.out X G).1};let Gdone:=D (a19.out X G).1 (a19.out X G).2.2 (FnOk.mono (dn_of (zMr F19 Gso Gcp25)) (show 26<=106 by decide)) (F19.binds (by walk_at "b2"));let Gto:=D (a51.out X G).1 (a51.out X G).2.2 (FnOk.mono (ok_to F51 B TF Gdonex) (show 27<=106 by decide)) (F51.binds (by walk_at "b3"));let Gmk:=D (a49.out X G).1 (a49.out X G).2.2 (FnOk.mono (zSg F49 B2 (F49.binds (by walk_at "b2")) (a49.out X G).2.2 (a49.out X G).1 20) (show 1+20<=106 by decide)) (F49.binds (by walk_at "b2"));let Gpc:=D (a48.out X G).1 (a48.out X G).2.2 (FnOk.mono (ok_pc F48 B6 Gco) (show 1+20+1<=106 by decide)) (F48.binds (by walk_at "b1"));let Gco106:=zCg Gco (show _<=106 by decide);let Gsame106:=zCg Gsame (show _<=106 by decide);let Gcell106:=zCg Gcell (show _<=106 by decide);exact zZq Flaw B6 Gcell106 Gdr Gsh Gdu Gco106 Gto Gsame106 Gpc Gdone Gmk
theorem walk{l:W.OpenLaw}{q:V3}{loose:List Str}{XP:(Str->Option V0)->V5->Prop}{YP:V4->V5->Prop}{d:DefRec}{K:Params->A6}(hn:l.most=Y 63)(hdf:d.params.defaults= [])
  (hY:∀(w:V4)(h:V5),YP w h->(K w.params).In h)
  (F:∀(w:V4)(mg:Str->Option V0)(fa:V1)(h:V5),(K w.params).In h->h.Ns A0 mg->mg d.name=Y (.ref fa)->
   ∃fd:V7,(∀(s:V2)(u:V0),BindsTo s fd {[u],[]} [("_law_script",u)])/\∀base:V5,(K w.params).In base->base.Ns A0 mg->FnOk l.prog w (K w.params) mg base CX0 107 fa fd ["_law_script"] (zNw (K w.params))):
  W.WalkO q loose XP YP l.row.toRowW d [] (λf vs=>PySem.call f vs):=
 L2.zOm (n:=63) (k:=107) (x:="_law_script") (CX:=λ_=>CX0) (sp:=λw=>zNw (K w.params)) hn ∎ hdf {O,by decide,by decide} hY F (λ_ _ a ns hl _ hS=>{a,ns,O,hS,hl,λ_=>O}) λ_ _ _ _ _ z=>z
end K42
end
end
end
namespace PySem.W.Fast
def tw5979524840244071864:=()
def tw17967935340699138625:=()
def tw15022969045102191548:=()
def tw17123030648884721851:=()
def tw13971633899116543715:=()
def tw7947966248021979670:=()
def tw9352922430316708354:=()
def tw2741495167106311929:=()
def tw1848245067865465988:=()
def tw15016085116645069262:=()
def tw11705672639161059359:=()
def tw5723993641085134527:=()
def tw13353715449347036577:=()
def tw10524172607694941016:=()
def tw16105695472830463672:=()
def tw14056399625839404571:=()
def tw17164755796639620362:=()
def tw5932577629824214993:=()
def tw1873195122612718673:=()
def tw12075486748154501306:=()
def tw5553880526993291642:=()
def tw12997789488915007380:=()
def tw12808794469550262633:=()
def tw7287884715746705390:=()
def tw618904204086874932:=()
def tw2498119609545786860:=()
def tw17428888926115196948:=()
def tw9828368682004951466:=()
def tw12644631702987829966:=()
def tw11116195119905016449:=()
def tw1067439745901096634:=()
def tw16885498208908376855:=()
def tw17254450462001156192:=()
def tw7844405956342444429:=()
def tw11590582940054364527:=()
def tw201821975818614889:=()
def tw17842092380589252465:=()
def tw3834823363811929330:=()
def tw9745947352948403677:=()
def tw12904609882989299274:=()
def tw420025818583795997:=()
def tw14345739404666771616:=()
def tw1484996908560347495:=()
def tw6746343679707285310:=()
def tw1734433610127074345:=()
def tw11479027758787018487:=()
def tw5450975186864681953:=()
def tw5292267405199305907:=()
def tw9104248172892536215:=()
def tw11099442030376635143:=()
def tw6780104536243396151:=()
def tw4584233198461856668:=()
def tw12507532092717019345:=()
def tw13278112767323922388:=()
def tw11207704678490826008:=()
def tw13099464073418796750:=()
def tw8870770794459986100:=()
def tw13639965573551018167:=()
def tw15768550946167200625:=()
def tw4391383872921895881:=()
def tw12678219574987878527:=()
def tw18334134593127500312:=()
def tw8736964339982281278:=()
def tw2590791877208973490:=()
def tw13402349749808076027:=()
def tw276417005360515848:=()
def tw7861131993075735946:=()
def tw6614198597713053325:=()
def tw1787534920264077234:=()
def tw5609582325273932824:=()
def tw7275216277144582828:=()
def tw13702031889967317748:=()
def tw3850216979582810779:=()
def tw4161405774869558054:=()
def tw8895922623894741842:=()
def tw15520178424434223331:=()
def tw18130872443123270280:=()
def tw5905441651145145586:=()
def tw1038067120580007257:=()
def tw7082788531112169859:=()
def tw16134387919360312223:=()
def tw7083807998928798580:=()
def tw17551235114406137883:=()
def tw11674369170545399618:=()
def tw13280555179160251931:=()
def tw3600092970971586828:=()
def tw2834916169982788966:=()
def tw5453352420573283724:=()
def tw13592518065668599076:=()
def tw1504831695449437691:=()
def tw8754461453697606955:=()
def tw9232668711937621618:=()
def tw9719188634967850668:=()
def tw9908541569878953677:=()
def tw39830886772716988:=()
def tw196437908190684365:=()
def tw4924465489931862994:=()
def tw6541517785551907159:=()
def tw11760669689010408931:=()
def tw13254633403460249646:=()
def tw8445511746247822549:=()
def tw10576492384972870174:=()
def tw15612887177356217917:=()
def tw5239133658060377046:=()
def tw15439655532922503611:=()
def tw1696650033343055453:=()
def tw1742495574816852945:=()
def tw5312135152336725662:=()
def tw239129260421686756:=()
def tw5600471027869461383:=()
def tw5965546374434469962:=()
def tw13856242870636978091:=()
def tw12568966497267771917:=()
def tw1007912672273801565:=()
def tw4019286138981650846:=()
def tw15824148972629751544:=()
def tw2124942423073422011:=()
def tw2742531400222338666:=()
def tw4281852112023339914:=()
def tw4665366323586282188:=()
def tw4135795113136612566:=()
def tw2073505474828368469:=()
def tw12839956322107951445:=()
def tw3417549661197364780:=()
def tw5106432193977008034:=()
def tw9873586481435952517:=()
def tw4986491674120178873:=()
def tw15978120115268078210:=()
def tw1475635212455229995:=()
def tw4068636240062783234:=()
def tw17913459132792417037:=()
def tw14716044494955176949:=()
def tw18202738335647159519:=()
def tw7333772786620180013:=()
def tw3846484673810174391:=()
def tw17623701016882410156:=()
def tw14063932426154917992:=()
def tw16352151511664753995:=()
def tw9384881141225189065:=()
def tw1770357774709093337:=()
def tw508899414902232717:=()
def tw8303019681630227161:=()
def tw5051414780533325139:=()
def tw6705983618686728325:=()
def tw5979079200309928675:=()
def tw11228609531299762814:=()
def tw15997991275539339189:=()
def tw7900408959781219490:=()
def tw12540585586271429842:=()
def tw17371198150596600713:=()
def tw6185503675543031952:=()
def tw8978378280211334717:=()
def tw16150591218968018166:=()
def tw14125031653089541975:=()
def tw2725232427879105088:=()
def tw15015314664431889991:=()
def tw6348119387672761169:=()
def tw10702144529419822351:=()
def tw4256973886064261708:=()
def tw6729922202028432196:=()
def tw2490839954871307976:=()
def tw6140346334280786169:=()
def tw8394681454393779043:=()
def tw6200379082257928997:=()
def tw10170561621014904731:=()
def tw1394977533233019759:=()
def tw13031295757788490121:=()
def tw10054491336432821213:=()
def tw12090700588459347219:=()
def tw13779834803275105507:=()
def tw17451329702881139776:=()
def tw10847540908566567807:=()
def tw16870176776960193208:=()
def tw14718718081106004399:=()
def tw5890736260638486705:=()
def tw3939670548554735603:=()
def tw10413098853221832887:=()
def tw14003765598929496019:=()
def tw3248427935336251822:=()
def tw13381668235051638193:=()
def tw9570579546343074886:=()
def tw13823688614148565106:=()
def tw12797028854223711215:=()
def tw14185463723028469810:=()
def tw10712658912948687624:=()
def tw13698763736794133953:=()
def tw6600711229264221713:=()
def tw7486035269943637281:=()
def tw5656344959234120604:=()
def tw10291740314941004268:=()
def tw6373833402209223098:=()
def tw1791866047922646372:=()
def tw9592509655348007639:=()
def tw14635912112550442721:=()
def tw16617690160536420542:=()
def tw10340498363059326804:=()
def tw8521780182057749885:=()
def tw17005491337426013348:=()
def tw4833979383486926775:=()
def tw2719982035649234046:=()
def tw4857560335197275865:=()
def tw14759192532507633821:=()
def tw7727613773813629174:=()
def tw16481637279638910231:=()
def tw9653518318865134461:=()
def tw12028452898220337452:=()
def tw1635132229516093976:=()
def tw15951835559696214351:=()
def tw3799574527301818954:=()
def tw12998094539577643602:=()
def tw17831556546729953191:=()
def tw17287536061063461370:=()
def tw9118105595054122873:=()
def tw4928105394874023384:=()
def tw11488754377128660303:=()
def tw7833321660141204888:=()
def tw3899816565440833004:=()
def tw8594403584282706673:=()
def tw9641130790487921546:=()
def tw4440401458686436760:=()
def tw113543023175871853:=()
def tw13696530768114873093:=()
def tw3764131954006993027:=()
def tw3632654930565552347:=()
def tw4507204971891604899:=()
def tw14160923233203197421:=()
def tw8219604600151860097:=()
def tw7994308359291565011:=()
def tw4589142371214135763:=()
def tw4381406936063858178:=()
def tw2913519733460249790:=()
def tw4884633733500115698:=()
def tw7732408420781215728:=()
def tw237782829474150939:=()
def tw17830208804981586310:=()
def tw10006000241750732332:=()
def tw11163509856612897176:=()
end PySem.W.Fast
open PySem PySem.W PyProof.Rows
set_option maxRecDepth 100000 in
set_option maxHeartbeats 0 in
theorem PySem.Challenge.cw_cabinet_k42_papers_done_holds : PySem.Challenge.rw_cabinet_k42_papers_done.Holds := by
  w_on;o_law;k_head;(case hw=>w_witness2)
  k_fill
  refine K42.walk (l:=PySem.Challenge.rw_cabinet_k42_papers_done) rfl rfl (fun w h Y=>PySem.W.kIn_of Y) ?F
  case F=>
    intro w mg fa h KX G hmg;refine' K42.all_mk KX G hmg ?a0 ?a1 ?a2 ?a3 ?a4 ?a5 ?a6 ?a7 ?a8 ?a9 ?a10 ?a11 ?a12 ?a13 ?a14 ?a15 ?a16 ?a17 ?a18 ?a19 ?a20 ?a21 ?a22 ?a23 ?a24 ?a25 ?a26 ?a27 ?a28 ?a29 ?a30 ?a31 ?a32 ?a33 ?a34 ?a35 ?a36 ?a37 ?a38 ?a39 ?a40 ?a41 ?a42 ?a43 ?a44 ?a45 ?a46 ?a47 ?a48 ?a49 ?a50 ?a51 ?a52 ?a53 ?l53 ?c53 ?k53 ?z0 ?z1 ?z2 ?z3 ?z4 ?z5 ?z6 ?z7 ?z8 ?z9 ?z10 ?y0 ?y1 ?y2 ?r0 ?q0 ?q1 ?zz0 ?s0 ?s1 ?n0 ?n1 ?n2 ?n3 ?n4 ?n5 ?ha ?hs ?ht ?hk ?hu ?xaB ?xaV ?xb1 ?xc0 ?xc1 ?xc2 ?xe6 ?xe7 ?pa ?pb0 ?pb2 ?pb3 ?pb4 ?pb5 ?pb6 ?pd0 ?pd1 ?pd2 ?da ?db0 ?db2 ?db3 ?db4 ?db5 ?db6 ?dd0 ?dd1 ?dd2 ?dfn ?de0 ?de1 ?de2 ?de3 ?de4 ?de5 ?ta ?tb0 ?tb2 ?tb3 ?tb6 ?te0 ?te1 ?te2 ?te3 ?te4 ?te5 ?xf1 ?xf5 ?xf2 ?xf55 ?xf25 ?xf22 ?xg55 ?xg25 ?xg22 ?xg2V
    case a0 | a1 | a2 | a3 | a4 | a5 | a6 | a7 | a8 | a9 | a10 | a11 | a12 | a13 | a14 | a15 | a16 | a17 | a18 | a19 | a20 | a21 | a22 | a23 | a24 | a25 | a26 | a27 | a28 | a29 | a30 | a31 | a32 | a33 | a34 | a35 | a36 | a37 | a38 | a39 | a40 | a41 | a42 | a43 | a44 | a45 | a46 | a47 | a48 | a49 | a50 | a51 | a52=>exact⟨by k_is,_,_,_,_,_,_,_,_,_,by k_is,by k_is,by k_is⟩
    case a53 | l53 | c53 | k53 | z0 | z1 | z2 | z3 | z4 | z5 | z6 | z7 | z8 | z9 | z10 | y0 | y1 | y2 | r0 | q0 | q1 | zz0 | s0 | s1 | n0 | n1 | n2 | n3 | n4 | n5 | ha | hs | ht | hk | hu | xaB | xaV=>k_is
    case xb1=>first | rfl | kernel_rfl
    case xc0 | xc1 | xc2 | xe6 | xe7 | pa | pb0 | pb2 | pb3 | pb4 | pb5 | pb6 | pd0 | pd1 | pd2 | da | db0 | db2 | db3 | db4 | db5 | db6 | dd0 | dd1 | dd2 | dfn | de0 | de1 | de2 | de3 | de4 | de5 | ta | tb0=>k_is
    case tb2=>first | rfl | kernel_rfl
    case tb3 | tb6 | te0 | te1 | te2 | te3 | te4 | te5=>k_is
    case xf1 | xf5 | xf2 | xf55 | xf25 | xf22 | xg55 | xg25 | xg22 | xg2V=>first | rfl | kernel_rfl
