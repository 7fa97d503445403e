import PyProof.Rows.All
import Wide.All
import OpenK.AllK
import Wide.FinOn
import Lean
import PyProof.EqAt
import PyProof.EqKinds
import PyProof.TupleCall
import PyProof.StrReplace2
import PyProof.DictItems
import PyProof.EnumStmt
import PyProof.EnumFor
import PyProof.DictItemsLoops
import PyProof.ZipIter
import PyProof.IsRules
import PyProof.Rows.SortRev
import KE.KIntText
import OpenK.KRaise
import KE.TryInHelper
import PyProof.RulesRaise
import PyProof.Rows.RaiseClass
import PyProof.RaisesMany
import PyProof.ExcClass3
import PyProof.ExcBaseAll.ValueError
import KE.KTryMore
import PyProof.InstStoreFacts
import OpenK.KMake
import PyProof.ExcAttrAll.ValueError
import KE.KIsAll
import OpenK.KWalk
import OpenK.KDescr
import PyProof.PureStr
import PyProof.ExcStr
import PyProof.CallStr
import KE.KCallOwn
import KE.KSortTup
import PyProof.Rows.StrCut
import PyProof.StrBlock
import KE.IntTextLaws
import PyProof.DictValues
import PyProof.DictWalks
import PyProof.Rows.Range3
import KE.KDictOf
import PySem.Challenge.RW_cabinet_k45_untouched
set_option compiler.extract_closed false
set_option Elab.async false
set_option linter.all false
set_option maxRecDepth 100000
set_option maxHeartbeats 4000000
namespace L2
open PySem PySem.Spec PyProof.Rows
abbrev mB:=@List.length_map
abbrev mC:=@True.intro
abbrev mE:=@Nat.le_refl
abbrev mF:=@List.mem_of_getElem?
abbrev mG:=@List.mem_cons
abbrev mH:=@wpAny_bind
abbrev mI:=@List.mem_cons_of_mem
abbrev mJ:=@if_neg
abbrev mK:=@List.mem_cons_self
abbrev mL:=@Nat.zero_le
abbrev mM:=@List.length_singleton
abbrev mN:=@List.map_cons
abbrev mO:=@List.length_append
abbrev mP:=@List.map_append
abbrev mQ:=@sizeLine_eq
abbrev mS:=@Heap.get?_push_of_some
abbrev mT:=@Heap.lt_size
abbrev mU:=@List.getElem?_map
abbrev mV:=@List.size_toArray
abbrev mW:=@if_pos
abbrev mX:=@Option.some.inj
abbrev mY:=@Nat.le_trans
abbrev mZ:=@wpAny_pure
abbrev nA:=@Bool.false_ne_true
abbrev nB:=@List.getElem?_eq_some_iff
abbrev nC:=@Nat.lt_of_lt_of_le
abbrev nD:=@List.mem_append
abbrev nE:=@Nat.le_of_ble_eq_true
abbrev nF:=@List.length_cons
abbrev nG:=@List.mem_append_right
abbrev nH:=@Or.inl
abbrev nI:=@Heap.get?_push_size
abbrev nJ:=@Nat.ne_of_lt
abbrev nL:=@List.mem_map
abbrev nM:=@List.mem_singleton
abbrev nN:=@Nat.succ_le_succ
abbrev nO:=@List.not_mem_nil
abbrev nP:=@decide_eq_false
abbrev nQ:=@PySem.F.plainAttrs_list
abbrev nR:=@List.getElem?_append_right
abbrev nS:=@List.getElem?_eq_getElem
abbrev nT:=@List.take_length
abbrev nU:=@List.length_drop
abbrev nV:=@W.mg_of
abbrev nW:=@List.getElem?_cons_zero
abbrev nX:=@List.getElem?_append_left
abbrev nY:=@List.length_nil
abbrev nZ:=@Heap.get?_update_other
abbrev pA:=@List.nodup_cons
abbrev pB:=@decide_eq_true_eq
abbrev pC:=@List.map_map
abbrev pE:=@List.all_eq_true
abbrev pF:=@List.mem_append_left
abbrev pG:=@W.mg_none_of
abbrev pH:=@Int.emod_lt_of_pos
abbrev pJ:=@List.drop_eq_getElem_cons
abbrev pK:=@List.map_nil
abbrev pL:=@decide_eq_true
abbrev pM:=@PySem.F.slot_list_append
abbrev pN:=@or_false
abbrev pO:=@Int.emod_nonneg
abbrev pP:=@PyProof.Rows.callWith_type1
abbrev pQ:=@Nat.ne_of_gt
abbrev pR:=@List.getD_eq_getElem?_getD
abbrev pT:=@List.take_of_length_le
abbrev pU:=@Nat.le_succ_of_le
abbrev pV:=@PySem.mem_of_lookup
abbrev pW:=@List.map_congr_left
abbrev pX:=@Nat.not_lt_zero
abbrev pY:=@Bool.and_eq_true
abbrev pZ:=@Nat.le_add_right
abbrev rA:=@PySem.F.type_list_append
abbrev rB:=@List.mem_of_mem_drop
abbrev rC:=@Bool.eq_iff_iff
abbrev rD:=@List.length_reverse
abbrev rE:=@Option.map_eq_some_iff
abbrev rF:=@wpAny_mono
abbrev rG:=@wpAny_holding
abbrev rH:=@List.length_replicate
abbrev rJ:=@List.append_nil
abbrev rK:=@Nat.mul_le_mul_right
abbrev rL:=@wpAny_truthy_bool
abbrev rM:=@Nat.lt_irrefl
abbrev rN:=@wpAny_getItem_str_slice
abbrev rO:=@PySem.F.slot_list_index
abbrev rP:=@List.length_pos_iff
abbrev rQ:=@List.lookup_cons
abbrev rR:=@F.plain_max_loop
abbrev rT:=@Nat.le_succ
abbrev rV:=@List.drop_eq_nil_of_le
abbrev rW:=@List.drop_of_length_le
abbrev rX:=@W.kia_one
abbrev rY:=@List.nil_append
abbrev rZ:=@of_decide_eq_true
abbrev sA:=@wpAny_dictEntries
abbrev sB:=@Around.under_plainId
abbrev sC:=@Array.getElem?_eq_getElem
abbrev sD:=@Nat.mul_le_mul
abbrev sE:=@List.nodup_nil
abbrev sF:=@List.length_take
abbrev sG:=@List.replicate_succ
abbrev sH:=@Nat.mul_le_mul_left
abbrev sI:=@PySem.F.type_list_index
abbrev sJ:=@wpAny_Call_Name_kw
abbrev sK:=@List.find?_cons
abbrev sL:=@List.foldl_cons
abbrev sM:=@wpAny_pyNext_list_item
abbrev sN:=@List.eq_nil_of_length_eq_zero
abbrev sO:=@Nat.le_of_lt
abbrev sP:=@Bool.false_and
abbrev sQ:=@wpAny_pyNext_list_end
abbrev sR:=@List.drop_zero
abbrev sS:=@wpAny_tryCatch
abbrev sT:=@List.take_append_drop
abbrev sU:=@List.dropLast_concat_getLast
abbrev sV:=@Nat.not_succ_le_zero
abbrev sW:=@Bool.not_eq_true
abbrev sX:=@plainId_quiet
abbrev sY:=@beq_eq_false_iff_ne
abbrev sZ:=@List.filterMap_cons
abbrev tD:=@Array.length_toList
abbrev tE:=@wpAny_passesOwn
abbrev tF:=@codeAny_builtin
abbrev tG:=@Nat.le_add_left
abbrev tH:=@List.mem_or_eq_of_mem_set
abbrev tI:=@tupleKind_room_in1
abbrev tJ:=@call_meets
abbrev tK:=@Int.eq_ofNat_of_zero_le
abbrev tL:=@List.getElem?_cons_succ
abbrev tM:=@wpAny_pyIter_list
abbrev tN:=@List.reverse_cons
abbrev tO:=@List.flatten_cons
abbrev tP:=@List.append_assoc
abbrev tQ:=@Calls.callWith_builtin
abbrev tR:=@List.any_eq_true
abbrev tS:=@Nat.min_eq_right
abbrev tT:=@List.mem_reverse
abbrev tU:=@Heap.get?_update_self
abbrev tV:=@Array.getElem?_toList
abbrev tW:=@List.mem_iff_getElem?
abbrev tX:=@List.eraseIdx_eq_take_drop_succ
abbrev tY:=@List.getElem?_set_ne
abbrev tZ:=@codeAny_mono
abbrev aA:=@List.length_set
abbrev aB:=@Nat.lt_trans
abbrev aD:=@Nat.min_eq_left
abbrev aE:=@post_val_or_str
abbrev aF:=@List.mem_of_mem_take
abbrev aG:=@F.slot_dict_itemiterator_iter
abbrev aH:=@List.mem_range
abbrev aI:=@if_false
abbrev aJ:=@Heap.size_push
abbrev aK:=@wpAny_seqItems
abbrev aL:=@W.kitx_dict
abbrev aM:=@Or.inr
abbrev aN:=@Bool.false_eq_true
abbrev aO:=@Nat.add_sub_cancel
abbrev aP:=@List.pairwise_cons
abbrev aQ:=@List.idxOf_lt_length_of_mem
abbrev aR:=@List.prefix_append
abbrev aS:=@Option.isSome_map
abbrev aT:=@if_true
abbrev aU:=@List.filter_cons
abbrev aV:=@Nat.le_of_eq
abbrev aW:=@Nat.min_le_right
abbrev aX:=@Txt.slice_le
abbrev aY:=@List.getElem_mem
abbrev aZ:=@F.entry_max_loop
abbrev bA:=@wpAny_call_entry
abbrev bB:=@Bool.or_true
abbrev bC:=@Int.zero_add
abbrev bE:=@List.cons_ne_nil
abbrev bF:=@decide_eq_decide
abbrev bG:=@Nat.add_zero
abbrev bH:=@eq_false
abbrev bI:=@wpAny_execs_nil
abbrev bJ:=@List.of_mem_zip
abbrev bK:=@wpAny_updateSeq
abbrev bL:=@List.range_succ
abbrev bM:=@exists_eq_left'
abbrev bN:=@W.kitx_list
abbrev bO:=@wpAny_letGo
abbrev bP:=@Nat.mul_add
abbrev Key:=Sum Int Str
def zCp:Key→Value→Bool
 | .inl k,v=>Value.isInt k v
 | .inr x,v=>Value.isStrOf x v
def keyH(w:World):Key→Int
 | .inl k=>hashInt k
 | .inr x=>hashStr w x
theorem xH:∀{k:Key}{v:Value},zCp k v=true→(∃i t,k=Sum.inl i∧v=Value.int i t)∨(∃x t,k=Sum.inr x∧v=Value.str x t)
 | .inl i,v,h=>by
  obtain⟨t,e⟩:=Value.isInt_shape (k:=i) (v:=v) h;exact .inl ⟨i,t,rfl,e⟩
 | .inr x,v,h=>by
  obtain⟨t,e⟩:=Value.isStrOf_shape (x:=x) (v:=v) h;exact .inr ⟨x,t,rfl,e⟩
theorem zMi(i:Int)(t:Tok):zCp (.inl i) (.int i t)=true:=by simp[zCp,Value.isInt]
theorem zLq(x:Str)(t:Tok):zCp (.inr x) (.str x t)=true:=by simp[zCp,Value.isStrOf]
theorem zSq(a b:Int):decide ((Sum.inl a:Key)=Sum.inl b)=(a==b):=by
 by_cases e:a=b
 ·subst e;simp
 ·have h:¬(Sum.inl a:Key)=Sum.inl b:=fun q=>e (Sum.inl.inj q)
  rw[nP h];exact(sY.mpr e).symm
theorem zUk(a b:Str):decide ((Sum.inr a:Key)=Sum.inr b)=decide (a=b):=by
 by_cases e:a=b
 ·subst e;simp
 ·have h:¬(Sum.inr a:Key)=Sum.inr b:=fun q=>e (Sum.inr.inj q)
  rw[nP h,nP e]
theorem zUg(a:Int)(b:Str):decide ((Sum.inl a:Key)=Sum.inr b)=false:=nP (fun q=>nomatch q)
theorem zUq(a:Str)(b:Int):decide ((Sum.inr a:Key)=Sum.inl b)=false:=nP (fun q=>nomatch q)
def yS(prog:Program)(w:World):PySem.KeyKind prog w Key where
 is:=zCp
 hash:=keyH w
 inj:=fun v a b ha hb=>by
  rcases xH ha with⟨i,t,rfl,rfl⟩|⟨x,t,rfl,rfl⟩
  ·rcases xH hb with⟨j,u,rfl,e⟩|⟨y,u,rfl,e⟩
   ·injection e with e1 _;rw[e1]
   ·exact nomatch e
  ·rcases xH hb with⟨j,u,rfl,e⟩|⟨y,u,rfl,e⟩
   ·exact nomatch e
   ·injection e with e1 _;rw[e1]
 byValue:=fun k v h=>by
  rcases xH h with⟨i,t,rfl,rfl⟩|⟨x,t,rfl,rfl⟩<;>rfl
 pyHash:=fun hv h=>by
  rcases xH hv with⟨i,t,rfl,rfl⟩|⟨x,t,rfl,rfl⟩
  ·exact wpAny_pyHash_int h
  ·exact wpAny_pyHash_str h
 eqBool:=fun hu hv h=>by
  rcases xH hu with⟨i,t,rfl,rfl⟩|⟨x,t,rfl,rfl⟩
  ·rcases xH hv with⟨j,u,rfl,rfl⟩|⟨y,u,rfl,rfl⟩
   ·rw[zSq] at h;exact wpAny_eqBool_int h
   ·rw[zUg] at h;exact SeqAt.EqAt.int_str i t y u _ _ _ _ h
  ·rcases xH hv with⟨j,u,rfl,rfl⟩|⟨y,u,rfl,rfl⟩
   ·rw[zUq] at h;exact SeqAt.EqAt.str_int x t j u _ _ _ _ h
   ·rw[zUk] at h;exact wpAny_eqBool_str h
 «strs»:=fun k x t v h=>by
  rcases xH h with⟨i,u,rfl,e⟩|⟨y,u,rfl,e⟩
  ·exact nomatch e
  ·injection e with e1 _
   subst e1;cases v<;>rfl
theorem zGy(prog:Program)(w:World)(i:Int)(t:Tok):(yS prog w).is (.inl i) (.int i t)=true:=zMi i t
theorem zHp(prog:Program)(w:World)(x:Str)(t:Tok):(yS prog w).is (.inr x) (.str x t)=true:=zLq x t
inductive V where
 | non | bl (b:Bool)| int (i:Int)| str (x:Str)| byt (b:Array UInt8)| flt (b:UInt64)| ref (a:Addr)| ty (n:String)
 deriving DecidableEq
def RelV:V→Value→Prop
 | .non,u=>u=Value.none
 | .bl b,u=>u=Value.bool b
 | .int i,u=>∃t,u=Value.int i t
 | .str x,u=>∃t,u=Value.str x t
 | .byt b,u=>∃t,u=Value.bytes b t
 | .flt b,u=>∃t,u=Value.float b t
 | .ref a,u=>u=Value.ref a
 | .ty n,u=>u=Value.type n
abbrev Vals:List V→List Value→Prop:=Paired RelV
theorem Vals.length{xs:List V}{us:List Value}(r:Vals xs us):xs.length=us.length:=Paired.length r
theorem Vals.get:∀{xs:List V}{us:List Value}{i:Nat}{x:V},Vals xs us→xs[i]? =some x→∃u,us[i]? =some u∧RelV x u
 | _,_,_,_, .nil,e=>by simp at e
 | _,_,0,_, .cons r _,e=>by simp at e;subst e;exact⟨_,rfl,r⟩
 | _,_,i+1,x, .cons _ t,e=>by
  obtain⟨u,h1,h2⟩:=Vals.get (i:=i) (x:=x) t (by simpa using e);exact⟨u,by simpa using h1,h2⟩
theorem Vals.set{x:V}{u:Value}(r:RelV x u):∀{xs:List V}{us:List Value}(i:Nat),Vals xs us→Vals (xs.set i x) (us.set i u)
 | _,_,_, .nil=>.nil
 | _,_,0, .cons _ t=>.cons r t
 | _,_,i+1, .cons q t=>.cons q (Vals.set r i t)
theorem Vals.append:∀{xs ys:List V}{us ws:List Value},Vals xs us→Vals ys ws→Vals (xs++ys) (us++ws)
 | _,_,_,_, .nil,s=>s
 | _,_,_,_, .cons r t,s=>.cons r (Vals.append t s)
theorem Vals.take:∀{xs:List V}{us:List Value}(n:Nat),Vals xs us→Vals (xs.take n) (us.take n)
 | _,_,0,_=>.nil
 | _,_,_+1, .nil=>.nil
 | _,_,n+1, .cons r t=>.cons r (Vals.take n t)
theorem Vals.drop:∀{xs:List V}{us:List Value}(n:Nat),Vals xs us→Vals (xs.drop n) (us.drop n)
 | _,_,0,r=>r
 | _,_,_+1, .nil=>.nil
 | _,_,n+1, .cons _ t=>Vals.drop n t
def RelO:Option V→Option Value→Prop
 | some v,some u=>RelV v u
 | none,none=>True
 | _,_=>False
def KV{κ:Type}:List (κ×V)→List (κ×Value)→Prop:=Paired fun(p:κ×V) (q:κ×Value)=>p.1=q.1∧RelV p.2 q.2
def kV:Key→V
 | .inl i=>.int i
 | .inr x=>.str x
inductive HO where
 /-- a list -/
 | lst (xs:List V)
 /-- a tuple (never changes)-/
 | tup (xs:List V)
 /-- a dict whose keys are ints and texts;one whose keys are tuples of ints and texts (the empty one is both)-/
 | dK (kvs:List (Key×V))| dT (kvs:List (List Key×V))
 /-- a set of ints:its members,its size -/
 | set (S:Int→Bool) (n:Nat)
 /-- an instance of the class at C,its dict at dx,its attributes -/
 | ins (C dx:Addr) (fs:List (Str×V))
 /-- the dict of the instance at x -/
 | own (x:Addr)
 /-- the dict of an exception -/
 | xd (fs:List (Str×V))
 /-- a bound method,f of x -/
 | met (f x:Addr)
 /-- a range object lo,lo+1, .. below hi -/
 | rng (lo hi:Int)
 /-- a thing that is known to the object (the script;a dict while a loop walks it):read,never written while it is so -/
 | frz (o:Obj) (u:HO)
 /-- a code object's table -/
 | tbl (ps:Array Value)
 /-- any other thing,by what is true of its one object (a def of one's own:SetO a S n:=HO.ext fun h=>..)-/
 | ext (φ:Heap→Prop)
abbrev Hp:=Addr→Option HO
def upd(H:Hp)(a:Addr)(o:HO):Hp:=fun b=>if b=a then some o else H b
theorem zB{H:Hp}{a:Addr}{o:HO}:upd H a o a=some o:=by unfold upd;rw[mW rfl]
theorem zR{H:Hp}{a b:Addr}{o:HO}(h:b≠a):upd H a o b=H b:=by unfold upd;rw[mJ h]
theorem ne_of{H:Hp}{a b:Addr}{o u:HO}(h:H a=some o)(h':H b=some u)(d:o≠u):a≠b:=by
 intro e;subst e;rw[h] at h';exact d (mX h')
theorem yK{H:Hp}{a b:Addr}{o:HO}(h:H a=some o)(h':H b=none):a≠b:=by
 intro e;subst e;rw[h] at h';cases h'
section
variable(P:Program)(w:World)
def ObjOk(H:Hp)(h:Heap)(a:Addr):HO→Prop
 | .lst xs=>xs.length≤sizeLine∧∃(its:List Value)(n:Nat),Vals xs its∧h.get? a=some {cls:=.type "list",data:=.seq its.toArray n}
 | .tup xs=>xs.length≤sizeLine∧∃its:List Value,Vals xs its∧IsTup h a its.toArray
 | .dK kvs=>kvs.length≤sizeLine∧(a==sysModules)=false∧∃vs,KV kvs vs∧h.DictOf (yS P w) a vs
 | .dT kvs=>kvs.length≤sizeLine∧(a==sysModules)=false∧∃xs:List (List Key×Addr×Value),
   Paired (fun(p:List Key×V) (q:List Key×Addr×Value)=>p.1=q.1∧H q.2.1=some (.tup (p.1.map kV))∧RelV p.2 q.2.2) kvs xs∧
   ∃o es ep,h.get? a=some o∧o.ExactDict∧o.data= .dict es ep∧es.toList=xs.map (entryOfKey (tupleKind (yS P w)))∧(xs.map (·.1)).Nodup
 | .set S n=>h.SetOf (intKind P w) a S n
 | .ins C dx fs=>H dx=some (.own a)∧fs.length≤1000∧dx≠a∧h.get? a=some (W.instObj C dx)∧
   ∃mA,h.Ns1 dx mA∧(∀f,RelO (fs.lookup f) (mA f))∧PySem.Within mA (fs.map (·.1))
 | .own _=>∃o,h.get? a=some o
 | .xd fs=>∃mA,h.Ns1 a mA∧∀f,RelO (fs.lookup f) (mA f)
 | .rng lo hi=>∃t u v,h.get? a=some {cls:=.type "range",data:=.fields #[.int lo t, .int hi u, .int 1 v]}
 | .frz o u=>h.get? a=some o∧ObjOk H h a u
 | .tbl ps=>h.get? a=some {cls:=.none,data:=.fields ps}
 | .met f x=>h.get? a=some (W.methodObj (.ref f) (.ref x))
 | .ext φ=>φ h∧(∃o,h.get? a=some o)∧∀h1 h2:Heap,φ h1→(∀o,h1.get? a=some o→h2.get? a=some o)→φ h2
def HOk(H:Hp)(h:Heap):Prop:=∀a o,H a=some o→ObjOk P w H h a o
end
section
variable{P:Program}{w:World}{H H':Hp}{h h':Heap}{a:Addr}{o:HO}
theorem ObjOk.lt(x:ObjOk P w H h a o):a<h.objs.size:=by
 cases o with
 | lst xs=>obtain⟨_,_,_,_,e⟩:=x;exact mT e
 | tup xs=>obtain⟨_,_,_,p⟩:=x;exact p.lt
 | dK kvs=>obtain⟨_,_,_,_,o,_,_,e,_⟩:=x;exact mT e
 | dT kvs=>obtain⟨_,_,_,_,o,_,_,e,_⟩:=x;exact mT e
 | set S n=>obtain⟨o,_,_,_,e,_⟩:=x;exact mT e
 | ins C dx fs=>obtain⟨_,_,_,e,_⟩:=x;exact mT e
 | own y=>obtain⟨_,e⟩:=x;exact mT e
 | xd fs=>obtain⟨_,⟨_,_,_,e,_⟩,_⟩:=x;exact mT e
 | rng lo hi=>obtain⟨_,_,_,e⟩:=x;exact mT e
 | frz ob u=>obtain⟨e,_⟩:=x;exact mT e
 | tbl ps=>exact mT (show h.get? a=some _ from x)
 | met f y=>exact mT (show h.get? a=some _ from x)
 | ext φ=>obtain⟨_,⟨_,e⟩,_⟩:=x;exact mT e
theorem Paired.mapP{α β:Type}{F G:α→β→Prop}:∀{l₁:List α}{l₂:List β},Paired F l₁ l₂→(∀a b,F a b→G a b)→Paired G l₁ l₂
 | _,_, .nil,_=>.nil
 | _,_, .cons r t,f=>.cons (f _ _ r) (Paired.mapP t f)
theorem ObjOk.stay(x:ObjOk P w H h a o)(k:∀b u,(b=a∨H b=some (.own a))→h.get? b=some u→h'.get? b=some u)
  (ho:∀b,H b=some (.own a)→H' b=some (.own a)) (ht:∀b xs,H b=some (.tup xs)→H' b=some (.tup xs)):ObjOk P w H' h' a o:=by
 induction o with
 | lst xs=>obtain⟨z,its,n,r,e⟩:=x;exact⟨z,its,n,r,k _ _ (.inl rfl) e⟩
 | tup xs=>obtain⟨z,its,r,ob,e,c⟩:=x;exact⟨z,its,r,ob,k _ _ (.inl rfl) e,c⟩
 | dK kvs=>obtain⟨z,y,vs,r,ob,es,ep,e,c⟩:=x;exact⟨z,y,vs,r,ob,es,ep,k _ _ (.inl rfl) e,c⟩
 | dT kvs=>
  obtain⟨z,y,xs,r,ob,es,ep,e,c⟩:=x;exact⟨z,y,xs,Paired.mapP r fun p q z=>⟨z.1,ht _ _ z.2.1,z.2.2⟩,ob,es,ep,k _ _ (.inl rfl) e,c⟩
 | set S n=>obtain⟨ob,es,ep,t,e,c⟩:=x;exact⟨ob,es,ep,t,k _ _ (.inl rfl) e,c⟩
 | ins C dx fs=>
  obtain⟨d,z,ne,e,mA,⟨od,es,ep,e2,c⟩,r⟩:=x;exact⟨ho _ d,z,ne,k _ _ (.inl rfl) e,mA,⟨od,es,ep,k _ _ (.inr d) e2,c⟩,r⟩
 | own y=>obtain⟨ob,e⟩:=x;exact⟨ob,k _ _ (.inl rfl) e⟩
 | xd fs=>obtain⟨mA,⟨od,es,ep,e,c⟩,r⟩:=x;exact⟨mA,⟨od,es,ep,k _ _ (.inl rfl) e,c⟩,r⟩
 | rng lo hi=>obtain⟨t,u,v,e⟩:=x;exact⟨t,u,v,k _ _ (.inl rfl) e⟩
 | frz ob u ih=>obtain⟨e,q⟩:=x;exact⟨k _ _ (.inl rfl) e,ih q⟩
 | tbl ps=>
  have e:h.get? a=some {cls:=.none,data:=.fields ps}:=x;show h'.get? a=some {cls:=.none,data:=.fields ps};exact k a _ (.inl rfl) e
 | met f y=>
  have e:h.get? a=some (W.methodObj (.ref f) (.ref y)):=x;show h'.get? a=some (W.methodObj (.ref f) (.ref y));exact k a _ (.inl rfl) e
 | ext φ=>obtain⟨p,⟨o,e⟩,st⟩:=x;exact⟨st _ _ p fun o q=>k _ _ (.inl rfl) q,⟨o,k _ _ (.inl rfl) e⟩,st⟩
theorem HOk.lt(x:HOk P w H h)(e:H a=some o):a<h.objs.size:=(x a o e).lt
theorem HOk.fresh(x:HOk P w H h)(e:h.objs.size≤a):H a=none:=by
 cases q:H a with
 | none=>rfl
 | some u=>exact absurd (nC (x.lt q) e) (rM _)
theorem HOk.kept(x:HOk P w H h)(k:∀b u,h.get? b=some u→h'.get? b=some u):HOk P w H h':=fun a o e=>
 (x a o e).stay (fun b u _ q=>k b u q) (fun _ q=>q) fun _ _ q=>q
theorem HOk.laid(x:HOk P w H h)(k:∀b u,h.get? b=some u→h'.get? b=some u)(hp:h.objs.size≤a)(new:ObjOk P w (upd H a o) h' a o):HOk P w (upd H a o) h':=fun b u e=>by
 have hn:=x.fresh hp
 by_cases hb:b=a
 ·subst hb;rw[zB] at e;cases e;exact new
 ·rw[zR hb] at e
  exact(x b u e).stay (fun c v _ q=>k c v q) (fun c q=>by rw[zR (yK q hn)];exact q) fun c xs q=>by rw[zR (yK q hn)];exact q
end
def Rd(H:Hp)(a:Addr)(u:HO):Prop:=H a=some u∨∃o,H a=some (.frz o u)
theorem Rd.ok{P:Program}{w:World}{H:Hp}{h:Heap}{a:Addr}{u:HO}(r:Rd H a u)(x:HOk P w H h):ObjOk P w H h a u:=by
 rcases r with r |⟨o,r⟩
 ·exact x a u r
 ·obtain⟨_,q⟩:=x a _ r
  exact q
def Mut:Option HO→Prop
 | some (.lst _)=>True
 | some (.dK _)=>True
 | some (.dT _)=>True
 | some (.set _ _)=>True
 | some (.ins _ _ _)=>True
 | some (.ext _)=>True
 | _=>False
section
variable{P:Program}{w:World}{H:Hp}{h h':Heap}{x e:Addr}{o':HO}
theorem HOk.write(ok:HOk P w H h)(mu:Mut (H x))(he:e=x∨H e=some (.own x))(k:∀b u,b≠e→h.get? b=some u→h'.get? b=some u)(heo:∃u,h'.get? e=some u)
  (new:ObjOk P w (upd H x o') h' x o'):HOk P w (upd H x o') h':=fun b u q=>by
 have nown:∀c y,H c=some (.own y)→c≠x:=fun c y r z=>by subst z;rw[r] at mu;exact mu
 have ntup:∀c xs,H c=some (.tup xs)→c≠x:=fun c xs r z=>by subst z;rw[r] at mu;exact mu
 by_cases hb:b=x
 ·subst hb;rw[zB] at q;cases q;exact new
 ·rw[zR hb] at q
  by_cases hbe:b=e
  ·have q':H b=some (.own x):=by
    rcases he with z | z
    ·exact absurd (hbe.trans z) hb
    ·rw[hbe];exact z
   rw[q] at q';cases q';obtain⟨v,hv⟩:=heo;exact⟨v,by rw[hbe];exact hv⟩
  ·refine(ok b u q).stay (fun c v hc r=>k c v ?_ r) (fun c r=>by rw[zR (nown c b r)];exact r) fun c xs r=>by rw[zR (ntup c xs r)];exact r
   rcases hc with rfl | hc
   ·exact hbe
   ·rintro rfl
    rcases he with z | z
    ·exact nown c b hc z
    ·rw[hc] at z;cases z;exact hb rfl
end
structure Un(fs ex:List Addr)(H H':Hp)(h h':Heap):Prop where
 keep:∀b o,h.get? b=some o→H b=none→b∉fs→b∉ex→h'.get? b=some o
 slot:∀b o,h.get? b=some o→H b=none→b∈fs→b∉ex→∃sl,h'.get? b=some {o with slots:=sl}
 free:∀b o,h.get? b=some o→H b=none→b∉ex→H' b=none
 there:∀b o,h.get? b=some o→b∉ex→∃o',h'.get? b=some o'
 tups:∀b xs,H b=some (.tup xs)→H' b=some (.tup xs)
 frzs:∀b o u,H b=some (.frz o u)→H' b=some (.frz o u)
 tbls:∀b ps,H b=some (.tbl ps)→∃more,H' b=some (.tbl (ps++more))
section
variable{fs fs' ex ex':List Addr}{H H1 H2:Hp}{h h1 h2 h':Heap}{a x e:Addr}{o:HO}
theorem Un.any(u:Un fs ex H H1 h h1){b:Addr}{ob:Obj}(q:h.get? b=some ob)(n:H b=none)(hx:b∉ex):∃sl,h1.get? b=some {ob with slots:=sl}:=by
 by_cases hb:b∈fs
 ·exact u.slot b ob q n hb hx
 ·exact⟨ob.slots,u.keep b ob q n hb hx⟩
theorem Un.kept(k:∀b u,h.get? b=some u→h'.get? b=some u):Un fs ex H H h h':=
 ⟨fun b ob q _ _ _=>k b ob q,fun b ob q _ _ _=>⟨ob.slots,k b ob q⟩,fun _ _ _ n _=>n,fun b ob q _=>⟨ob,k b ob q⟩,fun _ _ q=>q,fun _ _ _ q=>q,fun _ ps q=>⟨#[],by rw[q];simp⟩⟩
theorem Un.refl:Un fs ex H H h h:=Un.kept fun _ _ q=>q
theorem Un.laid(k:∀b u,h.get? b=some u→h'.get? b=some u)(hp:h.objs.size≤a)(hn:H a=none):Un fs ex H (upd H a o) h h' where
 keep:=fun b u q _ _ _=>k b u q
 slot:=fun b u q _ _ _=>⟨u.slots,k b u q⟩
 free:=fun b u q n _=>by rw[zR (nJ (nC (mT q) hp))];exact n
 there:=fun b u q _=>⟨u,k b u q⟩
 tups:=fun b xs q=>by rw[zR (yK q hn)];exact q
 frzs:=fun b u xs q=>by rw[zR (yK q hn)];exact q
 tbls:=fun b ps q=>⟨#[],by rw[zR (yK q hn),q];simp⟩
theorem Un.write(mu:Mut (H x))(he:e=x∨H e=some (.own x))(k:∀b u,b≠e→h.get? b=some u→h'.get? b=some u)(heo:∃u,h'.get? e=some u):Un fs ex H (upd H x o) h h':=by
 have hx:∀b,H b=none→b≠x:=fun b n z=>by subst z;rw[n] at mu;exact mu
 have hb:∀b,H b=none→b≠e:=fun b n z=>by
  subst z;rcases he with r | r
  ·exact hx b n r
  ·rw[n] at r;cases r
 have hm:∀b u,H b=some u→¬Mut (some u)→b≠x:=fun b u q nm z=>by subst z;rw[q] at mu;exact nm mu
 refine⟨fun b u q n _ _=>k b u (hb b n) q,fun b u q n _ _=>⟨u.slots,k b u (hb b n) q⟩,fun b u q n _=>by rw[zR (hx b n)];exact n,fun b u q _=>?_,
  fun b xs q=>by rw[zR (hm b _ q fun z=>z)];exact q,fun b u xs q=>by rw[zR (hm b _ q fun z=>z)];exact q,fun b ps q=>⟨#[],by rw[zR (hm b _ q fun z=>z),q];simp⟩⟩
 by_cases hbe:b=e
 ·subst hbe;exact heo
 ·exact⟨u,k b u hbe q⟩
end
def trk(h:Heap)(H:Hp):List Addr:=(List.range h.objs.size).filter fun a=>(H a).isSome
def zFh(h:Heap)(H:Hp):Heap:=W.hideAll h (trk h H)
theorem zLw(h:Heap)(H:Hp):(zFh h H).objs.size=h.objs.size:=W.hideAll_size _ _
theorem zNo{h:Heap}{H:Hp}{b:Addr}{o:Obj}(e:h.get? b=some o)(n:H b=none):(zFh h H).get? b=some o:=
 W.hideAll_get _ e fun hm=>by
  have q:(H b).isSome=true:=(List.mem_filter.mp hm).2;rw[n] at q;simp at q
theorem zQd{h:Heap}{H:Hp}{b:Addr}{o:Obj}(e:(zFh h H).get? b=some o):h.get? b=some o∧H b=none:=by
 have e':h.get? b=some o:=W.of_hideAll (trk h H) e;refine⟨e', ?_⟩
 cases q:H b with
 | none=>rfl
 | some x=>
  have hm:b∈trk h H:=List.mem_filter.mpr ⟨aH.mpr (mT e'),by simp[q]⟩;have z:(zFh h H).get? b=none:=W.hideAll_none (trk h H) hm;rw[z] at e;cases e
def zRj(g h:Heap)(L:Addr):List (Addr×Obj):=(List.range h.objs.size).filterMap fun a=>if a=L∨(g.get? a).isSome=true then none else(h.get? a).map fun o=>(a,o)
def kA(g h:Heap)(L d:Addr):List (Addr×Obj):=(zRj g h L).filter fun p=>decide (p.1≠d)
structure Mod(K:W.Frag)(mg:Str→Option Value)(base:Heap):Prop where
 kin:K.In base
 glob:base.Ns mainGlobals mg
 blt:∃mb,base.Ns builtinsNs mb∧∀x:Str,x≠ "__name__"→mb x=bootBuiltins x
 nolimit:base.NoLimit
structure Cx where
 prog:Program
 w:World
 K:W.Frag
 mg:Str→Option Value
 base:Heap
 A:Around
 N:List Str
 s₀:Shared
 H₀:Hp
 env:Env
 outer:List Env
 stack:List Env
 ex:List Addr
 fn:Str→Bool
 calm:Bool
 pn:List (Addr×Obj)
 xe:Value→Shared→Prop
def frs(l:List Env):List Addr:=l.filterMap (·.frame)
abbrev Cx.fs(X:Cx):List Addr:=frs X.outer
def Vis(sc:Scope)(x:Str):Prop:=sc.names.lookup x=some .local∨sc.names.lookup x=some .cell∨sc.names.lookup x=some .free
def Loc(sc:Scope)(x:Str):Prop:=sc.names.lookup x=some .local∨sc.names.lookup x=some .cell
def Look(env:Env)(h:Heap)(m:Str→Option Value)(x:Str)(u:Value):Prop:=
 (env.kindOf x=some .local∧m x=some u)∨((env.kindOf x=some .cell∨env.kindOf x=some .free)∧∃c,env.cells.lookup x=some c∧h.IsCell c (some u))
structure Cx.Ok(X:Cx):Prop where
 mod:Mod X.K X.mg X.base
 kind:X.env.scope.kind= .function
 glob:X.env.globals=mainGlobals
 blt:X.env.builtins=builtinsNs
 above:X.s₀.heap.objs.size≤X.env.locals
 inj:∀x y c,X.env.cells.lookup x=some c→X.env.cells.lookup y=some c→x=y
 has:∀x,(X.env.kindOf x=some .cell∨X.env.kindOf x=some .free)→∃c,X.env.cells.lookup x=some c
 cab:∀x c,X.fn x=true→X.env.cells.lookup x=some c→X.s₀.heap.objs.size≤c
 hd:X.calm=true→X.A.handled=none
 frames:X.A.frames=some X.stack
 stk:X.stack=X.outer∨(X.stack=X.env::X.outer∧X.env.frame=some X.env.locals)
 exf:∀b∈X.ex,b≠X.env.locals∧∀x c,X.env.cells.lookup x=some c→c≠b
 bs:∀b o,X.base.get? b=some o→X.s₀.heap.get? b=some o∧X.H₀ b=none
 bsz:X.base.objs.size≤X.s₀.heap.objs.size
 noex:∀b o,X.base.get? b=some o→b∉X.ex
 exfs:∀b∈X.ex,b∉X.fs
 funs:X.s₀.heap.FunFrames X.base X.outer
 frf:∀b∈X.fs,X.H₀ b=none
structure Inv(X:Cx)(pins:List (Addr×Obj))(σ:List (Option V))(H:Hp)(s:Shared):Prop where
 ok:X.Ok
 os:s.os=X.s₀.os
 bare:AllBare s.gens
 base:Un X.fs X.ex X.H₀ H X.s₀.heap s.heap
 loc:∃m,s.heap.Ns X.env.locals m∧∀(i:Nat)(x:Str)(v:V),X.N[i]? =some x→σ[i]? =some (some v)→Vis X.env.scope x→∃u,RelV v u∧Look X.env s.heap m x u
 cell:∀x c,X.env.cells.lookup x=some c→∃v,s.heap.IsCell c v
 free:H X.env.locals=none
 freeC:∀x c,X.env.cells.lookup x=some c→H c=none
 pin:∀p∈X.pn++pins,s.heap.get? p.1=some p.2∧H p.1=none∧p.1≠X.env.locals∧p.1∉X.fs∧∀v,p.2.data≠ .cell v
 hok:HOk X.prog X.w H s.heap
 len:σ.length=X.N.length
section
variable{X:Cx}{pins:List (Addr×Obj)}{σ:List (Option V)}{H H':Hp}{s:Shared}{h':Heap}
theorem Cx.Ok.nofr(ok:X.Ok){b:Addr}{o:Obj}(e:X.base.get? b=some o):b∉X.fs:=fun hb=>by
 have:=(ok.funs.mem hb).1;rw[e] at this;cases this
theorem Inv.bs(I:Inv X pins σ H s):∀b o,X.base.get? b=some o→s.heap.get? b=some o∧H b=none:=fun b o e=>
 ⟨I.base.keep b o (I.ok.bs b o e).1 (I.ok.bs b o e).2 (I.ok.nofr e) (I.ok.noex b o e),I.base.free b o (I.ok.bs b o e).1 (I.ok.bs b o e).2 (I.ok.noex b o e)⟩
theorem Inv.bk(I:Inv X pins σ H s):∀b o,X.base.get? b=some o→s.heap.get? b=some o:=fun b o e=>(I.bs b o e).1
theorem Inv.mod(I:Inv X pins σ H s):Mod X.K X.mg X.base:=I.ok.mod
theorem Inv.kIn(I:Inv X pins σ H s):X.K.In s.heap:=I.ok.mod.kin.keeps I.bk
theorem Inv.lt(I:Inv X pins σ H s):X.env.locals<s.heap.objs.size:=let ⟨_,hn,_⟩:=I.loc;hn.lt
theorem Inv.sz(I:Inv X pins σ H s):X.s₀.heap.objs.size≤s.heap.objs.size:=mY I.ok.above (sO I.lt)
theorem Inv.nofs(I:Inv X pins σ H s){a:Addr}(h:s.heap.objs.size≤a):a∉X.fs:=fun hb=>by
 obtain⟨_,o,ho,_⟩:=I.ok.funs.mem hb;exact absurd (nC (mT ho) (mY I.sz h)) (rM _)
theorem Inv.cne(I:Inv X pins σ H s):∀x c,X.env.cells.lookup x=some c→c≠X.env.locals:=fun x c e z=>by
 obtain⟨v,o,ho,hd⟩:=I.cell x c e;obtain⟨m,⟨o',es,ep,ho',hd',_⟩,_⟩:=I.loc;rw[z,ho'] at ho;cases ho;rw[hd'] at hd;cases hd
theorem Inv.funs(I:Inv X pins σ H s):s.heap.FunFrames X.base X.outer:=by
 have all:∀(l:List Env),(∀b∈frs l,b∈X.fs)→X.s₀.heap.FunFrames X.base l→s.heap.FunFrames X.base l:=by
  intro l
  induction l with
  | nil=>intro _ _;trivial
  | cons env r ih=>
   intro hs hl;obtain⟨hk,⟨L,o,hf,hn,ho,hd⟩,hr⟩:=hl;have hL:L∈X.fs:=hs L (by unfold frs;rw[sZ,hf];exact mK);obtain⟨sl,e⟩:=I.base.slot L o ho (I.ok.frf L hL) hL fun z=>I.ok.exfs L z hL;exact⟨hk,⟨L,_,hf,hn,e,hd⟩,ih (fun b hb=>hs b (by unfold frs;rw[sZ,hf];exact mI _ hb)) hr⟩
 exact all X.outer (fun _ hb=>hb) I.ok.funs
theorem Inv.stack(I:Inv X pins σ H s):s.heap.FunFrames X.base X.stack:=by
 rcases I.ok.stk with e |⟨e,hf⟩
 ·rw[e];exact I.funs
 ·rw[e]
  obtain⟨m,hn,_⟩:=I.loc;refine .cons (by rw[I.ok.kind];decide) hf hn ?_ I.funs;exact Heap.get?_none_of_le (mY I.ok.bsz I.ok.above)
theorem Inv.stkSub(I:Inv X pins σ H s):∀b∈frs X.stack,b∈X.env.locals::X.fs:=fun b hb=>by
 rcases I.ok.stk with e |⟨e,hf⟩
 ·rw[e] at hb;exact mI _ hb
 ·rw[e] at hb
  unfold frs at hb;rw[sZ,hf] at hb;exact hb
theorem Inv.stkFree(I:Inv X pins σ H s):∀b∈frs X.stack,H b=none:=fun b hb=>by
 rcases mG.mp (I.stkSub b hb) with e | hb
 ·rw[e];exact I.free
 ·obtain⟨_,o,ho,_⟩:=I.ok.funs.mem hb
  exact I.base.free b o ho (I.ok.frf b hb) fun z=>I.ok.exfs b z hb
theorem Inv.step{g':Array GenState}{t':Nat}{d':Drawn}{ch:List Addr}(I:Inv X pins σ H s)
  (hch:∀b∈ch,(b∈X.ex∨X.s₀.heap.objs.size≤b)∧b≠X.env.locals∧(∀x c,X.env.cells.lookup x=some c→c≠b)∧∀p∈X.pn++pins,p.1≠b)
  (keep:∀b o,b≠X.env.locals→b∉X.fs→b∉ch→s.heap.get? b=some o→H b=none→h'.get? b=some o)
  (slot:∀b o,b≠X.env.locals→b∈X.fs→b∉ch→s.heap.get? b=some o→H b=none→∃sl,h'.get? b=some {o with slots:=sl}) (free:∀b o,b∉ch→s.heap.get? b=some o→H b=none→H' b=none)
  (there:∀b o,b∉ch→s.heap.get? b=some o→∃o',h'.get? b=some o')
  (tups:∀b xs,H b=some (.tup xs)→H' b=some (.tup xs)) (frzs:∀b o u,H b=some (.frz o u)→H' b=some (.frz o u)) (tbls:∀b ps,H b=some (.tbl ps)→∃more,H' b=some (.tbl (ps++more)))
  (ns:∀m,s.heap.Ns X.env.locals m→h'.Ns X.env.locals m) (hok:HOk X.prog X.w H' h') (hg:AllBare g'):
  Inv X pins σ H' {s with heap:=h',gens:=g',drawn:=d',toks:=t'}:=by
 have neL:∀b o,X.s₀.heap.get? b=some o→b≠X.env.locals:=fun b o e=>nJ (nC (mT e) I.ok.above);have neC:∀b o,X.s₀.heap.get? b=some o→b∉X.ex→b∉ch:=fun b o e hx hb=>by
  rcases(hch b hb).1 with z | z
  ·exact hx z
  ·exact absurd (nC (mT e) z) (rM _)
 have cellK:∀x c,X.env.cells.lookup x=some c→∀v,s.heap.IsCell c v→h'.IsCell c v:=fun x c e v ⟨o,ho,hd⟩=>by
  have nch:c∉ch:=fun z=>(hch c z).2.2.1 x c e rfl
  by_cases hc:c∈X.fs
  ·obtain⟨sl,q⟩:=slot c o (I.cne x c e) hc nch ho (I.freeC x c e)
   exact⟨_,q,hd⟩
  ·exact⟨o,keep c o (I.cne x c e) hc nch ho (I.freeC x c e),hd⟩
 refine⟨I.ok,I.os,hg,⟨fun b o e n hb hx=>?_,fun b o e n hb hx=>?_,fun b o e n hx=>?_,fun b o e hx=>?_,fun b xs e=>tups b xs (I.base.tups b xs e),fun b o xs e=>frzs b o xs (I.base.frzs b o xs e),fun b ps e=>?_⟩, ?_,fun x c e=>?_, ?_,fun x c e=>?_,fun p hp=>?_,hok,I.len⟩
 ·exact keep b o (neL b o e) hb (neC b o e hx) (I.base.keep b o e n hb hx) (I.base.free b o e n hx)
 ·obtain⟨sl,e1⟩:=I.base.slot b o e n hb hx
  obtain⟨sl',e2⟩:=slot b _ (neL b o e) hb (neC b o e hx) e1 (I.base.free b o e n hx);exact⟨sl',e2⟩
 ·obtain⟨o',e1⟩:=I.base.there b o e hx
  exact free b o' (neC b o e hx) e1 (I.base.free b o e n hx)
 ·obtain⟨o',e1⟩:=I.base.there b o e hx
  exact there b o' (neC b o e hx) e1
 ·obtain⟨m1,e1⟩:=I.base.tbls b ps e
  obtain⟨m2,e2⟩:=tbls b _ e1;exact⟨m1++m2,by rw[e2,Array.append_assoc]⟩
 ·obtain⟨m,hn,hl⟩:=I.loc
  refine⟨m,ns m hn,fun i x v e1 e2 e3=>?_⟩;obtain⟨u,r,l⟩:=hl i x v e1 e2 e3;refine⟨u,r, ?_⟩;rcases l with l |⟨k,c,e,z⟩
  ·exact .inl l
  ·exact .inr ⟨k,c,e,cellK x c e _ z⟩
 ·obtain⟨v,z⟩:=I.cell x c e
  exact⟨v,cellK x c e v z⟩
 ·obtain⟨m,⟨o,_,_,ho,_⟩,_⟩:=I.loc
  exact free _ o (fun z=>(hch _ z).2.1 rfl) ho I.free
 ·obtain⟨v,o,ho,hd⟩:=I.cell x c e
  exact free c o (fun z=>(hch c z).2.2.1 x c e rfl) ho (I.freeC x c e)
 ·obtain⟨e,n,ne,nf,d⟩:=I.pin p hp
  have nch:p.1∉ch:=fun z=>(hch p.1 z).2.2.2 p hp rfl;exact⟨keep p.1 p.2 ne nf nch e n,free p.1 p.2 nch e n,ne,nf,d⟩
theorem Inv.un{t':Nat}(I:Inv X pins σ H s)(u:Un X.fs [] H H' s.heap h')(hok:HOk X.prog X.w H' h'):Inv X pins σ H' {s with heap:=h',toks:=t'}:=by
 obtain⟨m,⟨o,es,ep,ho,r⟩,_⟩:=id I.loc;obtain⟨sl,hL⟩:=u.any ho I.free (by simp);exact I.step (g':=s.gens) (d':=s.drawn) (ch:=[]) (fun _ z=>nomatch z) (fun b o _ hb _ e n=>u.keep b o e n hb (by simp)) (fun b o _ hb _ e n=>u.slot b o e n hb (by simp)) (fun b o _ e n=>u.free b o e n (by simp)) (fun b o _ e=>u.there b o e (by simp)) u.tups u.frzs u.tbls (fun m' hm=>by
  obtain⟨o',es',ep',ho',r'⟩:=hm;rw[ho] at ho';cases ho';exact⟨_,es',ep',hL,r'⟩) hok I.bare
theorem Inv.call{g':Array GenState}{t':Nat}{d':Drawn}{ch:List Addr}(I:Inv X pins σ H s)(u:Un (frs X.stack) ch H H' s.heap h')(hok:HOk X.prog X.w H' h')(hg:AllBare g')
  (hch:∀b∈ch,(b∈X.ex∨X.s₀.heap.objs.size≤b)∧b≠X.env.locals∧(∀x c,X.env.cells.lookup x=some c→c≠b)∧∀p∈X.pn++pins,p.1≠b):
  Inv X pins σ H' {s with heap:=h',gens:=g',drawn:=d',toks:=t'}:=by
 obtain⟨m,⟨o,es,ep,ho,r⟩,_⟩:=id I.loc;obtain⟨sl,hL⟩:=u.any ho I.free fun z=>(hch _ z).2.1 rfl;exact I.step (ch:=ch) hch (fun b o hL hb hc e n=>u.keep b o e n (fun z=>(mG.mp (I.stkSub b z)).elim hL hb) hc) (fun b o _ _ hc e n=>u.any e n hc) (fun b o hc e n=>u.free b o e n hc) (fun b o hc e=>u.there b o e hc) u.tups u.frzs u.tbls (fun m' hm=>by
  obtain⟨o',es',ep',ho',r'⟩:=hm;rw[ho] at ho';cases ho';exact⟨_,es',ep',hL,r'⟩) hok hg
theorem Inv.turned{t':Nat}{it:Addr}(I:Inv X pins σ H s)(k:∀b o,b≠it→s.heap.get? b=some o→h'.get? b=some o)(hn:H it=none)(hL:it≠X.env.locals)
  (h1:it∈X.ex∨X.s₀.heap.objs.size≤it) (h2:∀x c,X.env.cells.lookup x=some c→c≠it) (h3:∀p∈X.pn++pins,p.1≠it):Inv X pins σ H {s with heap:=h',toks:=t'}:=by
 have nit:∀b u,H b=some u→b≠it:=fun b u e z=>by rw[z,hn] at e;cases e
 refine I.step (g':=s.gens) (d':=s.drawn) (ch:=[it]) (fun b hb=>?_) (fun b o _ _ hc e _=>k b o (fun z=>hc (by simp[z])) e) (fun b o _ _ hc e _=>⟨o.slots,k b o (fun z=>hc (by simp[z])) e⟩) (fun _ _ _ _ n=>n)
  (fun b o hc e=>⟨o,k b o (fun z=>hc (by simp[z])) e⟩) (fun _ _ e=>e) (fun _ _ _ e=>e) (fun b ps e=>⟨#[],by rw[e];simp⟩) (fun m hm=>?_) (fun b u e=>?_) I.bare
 ·have e:b=it:=by simpa using hb
  subst e;exact⟨h1,hL,h2,h3⟩
 ·obtain⟨o,es,ep,ho,r⟩:=hm
  exact⟨o,es,ep,k _ o (Ne.symm hL) ho,r⟩
 ·refine(I.hok b u e).stay (fun c v hc q=>k c v ?_ q) (fun _ q=>q) fun _ _ q=>q
  rcases hc with z | z
  ·rw[z];exact nit b u e
  ·exact nit c _ z
theorem Inv.tok(I:Inv X pins σ H s)(t:Nat):Inv X pins σ H {s with toks:=t}:=I.un (h':=s.heap) (t':=t) Un.refl I.hok
theorem Inv.kept{t':Nat}(I:Inv X pins σ H s)(k:∀b u,s.heap.get? b=some u→h'.get? b=some u):Inv X pins σ H {s with heap:=h',toks:=t'}:=I.un (Un.kept k) (I.hok.kept k)
theorem Inv.laid{a:Addr}{o:HO}{t':Nat}(I:Inv X pins σ H s)(k:∀b u,s.heap.get? b=some u→h'.get? b=some u)(hp:s.heap.objs.size≤a)(new:ObjOk X.prog X.w (upd H a o) h' a o):
  Inv X pins σ (upd H a o) {s with heap:=h',toks:=t'}:=I.un (Un.laid k hp (I.hok.fresh hp)) (I.hok.laid k hp new)
theorem Inv.write{x e:Addr}{o:HO}{t':Nat}(I:Inv X pins σ H s)(mu:Mut (H x))(he:e=x∨H e=some (.own x))(k:∀b u,b≠e→s.heap.get? b=some u→h'.get? b=some u)(heo:∃u,h'.get? e=some u)
  (new:ObjOk X.prog X.w (upd H x o) h' x o):Inv X pins σ (upd H x o) {s with heap:=h',toks:=t'}:=I.un (Un.write mu he k heo) (I.hok.write mu he k heo new)
theorem Inv.weak{σ':List (Option V)}(I:Inv X pins σ H s)(hl:σ'.length=σ.length)(w:∀(i:Nat) v,σ'[i]? =some (some v)→σ[i]? =some (some v)):Inv X pins σ' H s:=
 ⟨I.ok,I.os,I.bare,I.base,let ⟨m,hn,hl'⟩:=I.loc;⟨m,hn,fun i x v e1 e2 e3=>hl' i x v e1 (w i v e2) e3⟩,I.cell,I.free,I.freeC,I.pin,I.hok,hl.trans I.len⟩
theorem Inv.pins_of{pins':List (Addr×Obj)}(I:Inv X pins σ H s)(h:∀p∈pins',s.heap.get? p.1=some p.2∧H p.1=none∧p.1≠X.env.locals∧p.1∉X.fs∧∀v,p.2.data≠ .cell v):Inv X pins' σ H s:=
 ⟨I.ok,I.os,I.bare,I.base,I.loc,I.cell,I.free,I.freeC,fun p hp=>(nD.mp hp).elim (fun z=>I.pin p (pF _ z)) (h p),I.hok,I.len⟩
theorem zGl{N:List Str}(hN:N.Nodup){i j:Nat}{x:Str}(a:N[i]? =some x)(b:N[j]? =some x):i=j:=by
 obtain⟨h1,e1⟩:=nB.mp a;obtain⟨h2,e2⟩:=nB.mp b;exact(List.getElem_inj hN).mp (e1.trans e2.symm)
theorem zEc{M:Model}{A:Around}{E:Value→Shared→Prop}{i:Nat}{x:Str}{v:V}{u:Value}{Q:Unit→Shared→Prop}(I:Inv X pins σ H s)(hN:X.N.Nodup)(hi:X.N[i]? =some x)(hx:Loc X.env.scope x)(r:RelV v u)
  (h:∀s',Inv X pins (σ.set i (some v)) H s'→(∃a,Heap.SameBut a s.heap s'.heap∧(a=X.env.locals∨X.env.cells.lookup x=some a))→Q () s') (hf:X.fn x=true∨X.env.scope.names.lookup x=some .local:=by first | exact .inl rfl | exact .inr rfl | assumption):wpAny M A (storeName X.env x u) Q E s:=by
 obtain⟨m,hn,hl⟩:=id I.loc;have hcls:(X.env.scope.kind== .class ||(X.env.scope.kind== .module && X.env.locals !=X.env.globals))=false:=by rw[I.ok.kind];rfl
 have hiσ:i<σ.length:=by rw[I.len];exact(nB.mp hi).1
 have cne:=I.cne;have tracked:∀{a:Addr}{h':Heap},(∃o,s.heap.get? a=some o∧H a=none)→Heap.SameBut a s.heap h'→HOk X.prog X.w H h':=fun {a h'} ha hs b ob e=>by
  obtain⟨_,_,hfree⟩:=ha;refine(I.hok b ob e).stay (fun c w' hc q=>(hs.2 c ?_).trans q) (fun _ q=>q) fun _ _ q=>q;rintro rfl;rcases hc with rfl | hc
  ·rw[hfree] at e;cases e
  ·rw[hfree] at hc;cases hc
 rcases hx with hk | hk
 ·refine wpAny_storeName_local hk hn (fun h' hn' hs=>?_) hcls
  obtain⟨oL,_,_,hoL,_⟩:=id hn;refine h _ ⟨I.ok,I.os,I.bare,⟨fun b o e n hb hx=>?_,fun b o e n hb hx=>?_,I.base.free,fun b o e hx=>?_,I.base.tups,I.base.frzs,I.base.tbls⟩,⟨_,hn',fun j y v' e1 e2 e3=>?_⟩,fun y c e=>?_,I.free,I.freeC,fun p hp=>?_,tracked ⟨oL,hoL,I.free⟩ hs,by simpa using I.len⟩ ⟨_,hs, .inl rfl⟩
  ·exact(hs.2 b (nJ (nC (mT e) I.ok.above))).trans (I.base.keep b o e n hb hx)
  ·obtain⟨sl,e1⟩:=I.base.slot b o e n hb hx
   exact⟨sl,(hs.2 b (nJ (nC (mT e) I.ok.above))).trans e1⟩
  ·obtain⟨o',e1⟩:=I.base.there b o e hx
   exact⟨o',(hs.2 b (nJ (nC (mT e) I.ok.above))).trans e1⟩
  ·by_cases hj:j=i
   ·subst hj
    rw[hi] at e1;cases e1;rw[List.getElem?_set_self hiσ] at e2;cases e2;exact⟨u,r, .inl ⟨hk,by simp⟩⟩
   ·rw[tY (Ne.symm hj)] at e2
    obtain⟨u',r',q⟩:=hl j y v' e1 e2 e3;refine⟨u',r', ?_⟩;rcases q with⟨k,e⟩|⟨k,c,e,z⟩
    ·refine .inl ⟨k, ?_⟩
     have:y≠x:=fun e=>hj (zGl hN e1 (e▸hi));simp[this,e]
    ·exact .inr ⟨k,c,e,z.sameBut hs (cne y c e)⟩
  ·obtain⟨w',z⟩:=I.cell y c e
   exact⟨w',z.sameBut hs (cne y c e)⟩
  ·obtain⟨e,n,ne,nf,d⟩:=I.pin p hp
   exact⟨(hs.2 p.1 ne).trans e,n,ne,nf,d⟩
 ·have hfn:X.fn x=true:=by
   rcases hf with z | z
   ·exact z
   ·rw[z] at hk;cases hk
  obtain⟨c,hc⟩:=I.ok.has x (.inl hk);obtain⟨w',z⟩:=I.cell x c hc;refine wpAny_storeName_cell I.ok.kind hk hc z (fun h' hc' hs=>?_);obtain⟨oc,hoc,hocd⟩:=id z;refine h {s with heap:=h'} ⟨I.ok,I.os,I.bare,⟨fun b o e n hb hx=>?_,fun b o e n hb hx=>?_,I.base.free,fun b o e hx=>?_,I.base.tups,I.base.frzs,I.base.tbls⟩,⟨m,hn.sameBut hs (Ne.symm (cne x c hc)),fun j y v' e1 e2 e3=>?_⟩,fun y c' e=>?_,I.free,I.freeC,fun p hp=>?_,tracked ⟨oc,hoc,I.freeC x c hc⟩ hs,by simpa using I.len⟩ ⟨c,hs, .inr hc⟩
  ·exact(hs.2 b (nJ (nC (mT e) (I.ok.cab x c hfn hc)))).trans (I.base.keep b o e n hb hx)
  ·obtain⟨sl,e1⟩:=I.base.slot b o e n hb hx
   exact⟨sl,(hs.2 b (nJ (nC (mT e) (I.ok.cab x c hfn hc)))).trans e1⟩
  ·obtain⟨o',e1⟩:=I.base.there b o e hx
   exact⟨o',(hs.2 b (nJ (nC (mT e) (I.ok.cab x c hfn hc)))).trans e1⟩
  ·by_cases hj:j=i
   ·subst hj
    rw[hi] at e1;cases e1;rw[List.getElem?_set_self hiσ] at e2;cases e2;exact⟨u,r, .inr ⟨.inl hk,c,hc,hc'⟩⟩
   ·rw[tY (Ne.symm hj)] at e2
    obtain⟨u',r',q⟩:=hl j y v' e1 e2 e3;refine⟨u',r', ?_⟩;rcases q with q |⟨k,c',e,z'⟩
    ·exact .inl q
    ·refine .inr ⟨k,c',e,z'.sameBut hs ?_⟩
     rintro rfl;exact hj (zGl hN e1 (I.ok.inj _ _ _ e hc▸hi))
  ·by_cases hcc:c'=c
   ·subst hcc;exact⟨_,hc'⟩
   ·obtain⟨w2,z2⟩:=I.cell y c' e
    exact⟨w2,z2.sameBut hs hcc⟩
  ·obtain⟨e,n,ne,nf,d⟩:=I.pin p hp
   refine⟨(hs.2 p.1 ?_).trans e,n,ne,nf,d⟩;intro q;rw[q,hoc] at e;have q':oc=p.2:=mX e;exact d w' (by rw[←q'];exact hocd)
theorem zCq{M:Model}{A:Around}{E:Value→Shared→Prop}{i:Nat}{x:Str}{v:V}{u:Value}{Q:Unit→Shared→Prop}(I:Inv X pins σ H s)(hN:X.N.Nodup)(hi:X.N[i]? =some x)(hx:Loc X.env.scope x)(r:RelV v u)
  (h:∀s',Inv X pins (σ.set i (some v)) H s'→Q () s') (hf:X.fn x=true∨X.env.scope.names.lookup x=some .local:=by first | exact .inl rfl | exact .inr rfl | assumption):wpAny M A (storeName X.env x u) Q E s:=
 zEc I hN hi hx r (fun s' I' _=>h s' I') hf
theorem Inv.call'{s':Shared}{ch:List Addr}(I:Inv X pins σ H s)(ho:s'.os=s.os)(u:Un (frs X.stack) ch H H' s.heap s'.heap)(hok:HOk X.prog X.w H' s'.heap)(hg:AllBare s'.gens)
  (hch:∀b∈ch,(b∈X.ex∨X.s₀.heap.objs.size≤b)∧b≠X.env.locals∧(∀x c,X.env.cells.lookup x=some c→c≠b)∧∀p∈X.pn++pins,p.1≠b):Inv X pins σ H' s':=by
 obtain⟨h',g',d',t',o'⟩:=s';have e:o'=s.os:=ho;subst e;exact I.call (g':=g') (t':=t') (d':=d') u hok hg hch
end
abbrev XK:=Value→Option Addr→Hp→Prop
abbrev St:=List (Option V)
abbrev VK:=V→Hp→Prop
abbrev TE:=St→Hp→VK→Prop
abbrev TT:=St→Hp→(Bool→Hp→Prop)→Prop
abbrev TA:=St→Hp→(List V→Hp→Prop)→Prop
structure zAk where
 nx:St→Hp→Prop
 rt:VK
 bk:St→Hp→Prop:=fun _ _=>False
 ct:St→Hp→Prop:=fun _ _=>False
abbrev TS:=zAk→St→Hp→Prop
def EP(X:Cx)(pins:List (Addr×Obj))(σ:St)(Q:VK)(u:Value)(s':Shared):Prop:=∃v H',Inv X pins σ H' s'∧RelV v u∧Q v H'
def TP(X:Cx)(pins:List (Addr×Obj))(σ:St)(Q:Bool→Hp→Prop)(b:Bool)(s':Shared):Prop:=∃H',Inv X pins σ H' s'∧Q b H'
def AP(X:Cx)(pins:List (Addr×Obj))(σ:St)(Q:List V→Hp→Prop)(us:List Value)(s':Shared):Prop:=∃vs H',Inv X pins σ H' s'∧Vals vs us∧Q vs H'
def SP(X:Cx)(pins:List (Addr×Obj))(D:zAk)(f:Flow)(s':Shared):Prop:=
 match f with
 | .next=>∃σ' H',Inv X pins σ' H' s'∧D.nx σ' H'
 | .brk=>∃σ' H',Inv X pins σ' H' s'∧D.bk σ' H'
 | .cont=>∃σ' H',Inv X pins σ' H' s'∧D.ct σ' H'
 | .ret u=>∃v σ' H',Inv X pins σ' H' s'∧RelV v u∧D.rt v H'
def PE(X:Cx)(e:Expr)(t:TE):Prop:=
 ∀(pins:List (Addr×Obj))(s:Shared)(σ:St)(H:Hp)(Q:VK),Inv X pins σ H s→t σ H Q→wpAny (model X.prog X.w) X.A (eval e X.env) (EP X pins σ Q) X.xe s
def PT(X:Cx)(e:Expr)(t:TT):Prop:=
 ∀(pins:List (Addr×Obj))(s:Shared)(σ:St)(H:Hp)(Q:Bool→Hp→Prop),Inv X pins σ H s→t σ H Q→wpAny (model X.prog X.w) X.A (isTrue e X.env (eval e X.env)) (TP X pins σ Q) X.xe s
def PW(X:Cx)(e:Expr)(t:TT):Prop:=
 ∀(whole:Sem Value)(pins:List (Addr×Obj))(s:Shared)(σ:St)(H:Hp)(Q:Bool→Hp→Prop),Inv X pins σ H s→t σ H Q→wpAny (model X.prog X.w) X.A (isTrue e X.env whole) (TP X pins σ Q) X.xe s
theorem PW.pt{X:Cx}{e:Expr}{t:TT}(h:PW X e t):PT X e t:=h _
def PA(X:Cx)(es:List Expr)(t:TA):Prop:=
 ∀(pos:Pos)(pins:List (Addr×Obj))(s:Shared)(σ:St)(H:Hp)(Q:List V→Hp→Prop),Inv X pins σ H s→t σ H Q→wpAny (model X.prog X.w) X.A (spliced (backTo pos (starEach es X.env))) (AP X pins σ Q) X.xe s
def PS(X:Cx)(st:Stmt)(t:TS):Prop:=
 ∀(pins:List (Addr×Obj))(s:Shared)(σ:St)(H:Hp)(D:zAk),Inv X pins σ H s→t D σ H→wpAny (model X.prog X.w) X.A (exec st X.env) (SP X pins D) X.xe s
def PSs(X:Cx)(st:List Stmt)(t:TS):Prop:=
 ∀(pins:List (Addr×Obj))(s:Shared)(σ:St)(H:Hp)(D:zAk),Inv X pins σ H s→t D σ H→wpAny (model X.prog X.w) X.A (execs st X.env) (SP X pins D) X.xe s
theorem thn{α:Type}{t:Sem α}{Q Q':α→Shared→Prop}{M:Model}{A:Around}{E:Value→Shared→Prop}{s:Shared}(h:wpAny M A t Q E s)(hQ:∀a s,Q a s→Q' a s):wpAny M A t Q' E s:=rF h hQ fun _ _ x=>x
section
variable{X:Cx}
def jU(i:Nat):TE:=fun σ H Q=>∃v,σ[i]? =some (some v)∧Q v H
def tC(v:V):TE:=fun _ H Q=>Q v H
theorem zTv{i:Nat}{x:Str}{pos:Pos}(hN:X.N[i]? =some x)(hv:Vis X.env.scope x)(hd:(x==("__debug__" :Str))=false:=by decide)(hcd:(x==("__classdict__" :Str))=false:=by decide):PE X (.Name x pos) (jU i):=by
 intro pins s σ H Q I h;obtain⟨v,e,h⟩:=h;obtain⟨m,hn,hl⟩:=I.loc;obtain⟨u,r,l⟩:=hl i x v hN e hv;have fin:EP X pins σ Q u s:=⟨v,H,I,r,h⟩;rcases l with⟨hk,hm⟩|⟨hk,c,hc,hcell⟩
 ·exact wpAny_Name (wpAny_loadName_local I.ok.kind hk hn hm fin) hd
 ·rcases hk with hk | hk
  ·exact wpAny_Name (wpAny_loadName_cell I.ok.kind hk hc hcell fin) hd
  ·exact wpAny_Name (wpAny_loadName_free I.ok.kind hk hc hcell fin hcd) hd
theorem zE{i j pos}:PE X (.Constant (.int i) j pos) (tC (.int i)):=fun _ _ _ H _ I h=>wpAny_Constant_int ⟨.int i,H,I.tok _,⟨_,rfl⟩,h⟩
theorem wV{b j pos}:PE X (.Constant (.bool b) j pos) (tC (.bl b)):=fun _ _ _ H _ I h=>Constant_bool ⟨.bl b,H,I,rfl,h⟩
theorem qI{j pos}:PE X (.Constant .none j pos) (tC .non):=fun _ _ _ H _ I h=>Constant_none ⟨.non,H,I,rfl,h⟩
theorem zV{x j pos}:PE X (.Constant (.str x) j pos) (tC (.str x)):=fun _ _ _ H _ I h=>Calls.Constant_str ⟨.str x,H,I.tok _,⟨_,rfl⟩,h⟩
def Gl(X:Cx)(x:Str):Prop:=X.env.kindOf x=some .globalImplicit
theorem zKg{E:Value→Shared→Prop}{pins:List (Addr×Obj)}{s:Shared}{σ:St}{H:Hp}{x:Str}{u:Value}{pos:Pos}{Q:Value→Shared→Prop}(I:Inv X pins σ H s)(hg:Gl X x)(hm:X.mg x=some u)(h:Q u s)
  (hd:(x==("__debug__" :Str))=false:=by decide):wpAny (model X.prog X.w) X.A (eval (.Name x pos) X.env) Q E s:=
 Calls.Name_function_global I.ok.kind hg (Calls.loadGlobal_global (by rw[I.ok.glob];exact I.mod.glob.keeps I.bk) hm h) hd
theorem jG{E:Value→Shared→Prop}{pins:List (Addr×Obj)}{s:Shared}{σ:St}{H:Hp}{x:Str}{u:Value}{pos:Pos}{Q:Value→Shared→Prop}(I:Inv X pins σ H s)(hg:Gl X x)(hm:X.mg x=none)(hv:bootBuiltins x=some u)(h:Q u s)
  (hn:x≠ "__name__":=by decide) (hd:(x==("__debug__" :Str))=false:=by decide):wpAny (model X.prog X.w) X.A (eval (.Name x pos) X.env) Q E s:=by
 obtain⟨mb,h1,h2⟩:=I.mod.blt;exact Calls.Name_function_global I.ok.kind hg (Calls.loadGlobal_builtin (by rw[I.ok.glob];exact I.mod.glob.keeps I.bk) hm (by rw[I.ok.blt];exact h1.keeps I.bk) ((h2 x hn).trans hv) h) hd
theorem xU{x:Str}{v:V}{u:Value}{pos:Pos}(hg:Gl X x)(hm:X.mg x=none)(hv:bootBuiltins x=some u)(r:RelV v u)(hn:x≠ "__name__":=by decide)(hd:(x==("__debug__" :Str))=false:=by decide):PE X (.Name x pos) (tC v):=
 fun _ _ _ H _ I h=>jG I hg hm hv ⟨v,H,I,r,h⟩ hn hd
variable{a b:Expr}{ta tb:TE}{pos:Pos}
def PC(X:Cx)(op:CmpOp)(a b:Expr)(t:TE):Prop:=
 ∀(pins:List (Addr×Obj))(s:Shared)(σ:St)(H:Hp)(Q:VK),Inv X pins σ H s→t σ H Q→
  wpAny (model X.prog X.w) X.A (eval a X.env) (fun v s₁=>wpAny (model X.prog X.w) X.A (eval b X.env) (fun u s₂=>wpAny (model X.prog X.w) X.A (compareOp op v u) (EP X pins σ Q) X.xe s₂) X.xe s₁) X.xe s
theorem zGn(b:Expr){op:CmpOp}(h:op≠ .In)(h2:op≠ .NotIn):behindInMarks op b=false:=by
 have e1:(op==CmpOp.In)=false:=by cases op<;>first | rfl | exact absurd rfl h
 have e2:(op==CmpOp.NotIn)=false:=by cases op<;>first | rfl | exact absurd rfl h2
 cases b<;>simp[behindInMarks,e1,e2]
def zUf(ta:TE):TE:=fun σ H Q=>ta σ H fun x H1=>Q (.bl (decide (x= .non))) H1
def zOn(ta:TE):TE:=fun σ H Q=>ta σ H fun x H1=>Q (.bl (!decide (x= .non))) H1
theorem RelV.none_iff{x:V}{v:Value}(r:RelV x v):(v==Value.none)=decide (x= .non):=by
 cases x with
 | non=>cases r;rfl
 | bl _=>cases r;rfl
 | int _=>obtain⟨t,rfl⟩:=r;rfl
 | str _=>obtain⟨t,rfl⟩:=r;rfl
 | byt _=>obtain⟨t,rfl⟩:=r;rfl
 | flt _=>obtain⟨t,rfl⟩:=r;rfl
 | ref _=>cases r;rfl
 | ty _=>cases r;rfl
theorem zFx{j pos'}(ha:PE X a ta):PC X .Is a (.Constant .none j pos') (zUf ta):=by
 intro pins s σ H Q I h;refine thn (ha pins s σ H _ I h) fun v s1 ⟨x,H1,I1,r1,q1⟩=>?_;exact Constant_none (is_none_gen ⟨.bl _,H1,I1,by rw[r1.none_iff];rfl,q1⟩)
theorem zRc{j pos'}(ha:PE X a ta):PC X .IsNot a (.Constant .none j pos') (zOn ta):=by
 intro pins s σ H Q I h;refine thn (ha pins s σ H _ I h) fun v s1 ⟨x,H1,I1,r1,q1⟩=>?_;exact Constant_none (isnot_none_gen ⟨.bl _,H1,I1,by rw[r1.none_iff];rfl,q1⟩)
def tB(t:TE):TT:=fun σ H Q=>t σ H fun x H1=>∃c,x= .bl c∧Q c H1
theorem zPg{op:CmpOp}{t:TE}(h:PC X op a b t)(h1:behindInMarks op b=false:=by first | exact zGn _ (by decide) (by decide)| rfl):PE X (.Compare a [op] [b] pos) t:=fun pins s σ H Q I hw=>wpAny_Compare1 (h pins s σ H Q I hw) h1
theorem jC{op:CmpOp}{t:TE}(h:PC X op a b t)(h1:behindInMarks op b=false:=by first | exact zGn _ (by decide) (by decide)| rfl):PT X (.Compare a [op] [b] pos) (tB t):=by
 intro pins s σ H Q I hw;refine wpAny_isTrue_Compare1 (thn (h pins s σ H _ I hw) fun v s1 h1=>thn h1 fun u s2 h2=>thn h2 fun c s3 ⟨x,H1,I1,r1,q1⟩=>?_) h1;obtain⟨d,rfl,q⟩:=q1;cases r1;exact rL ⟨H1,I1,q⟩
theorem zY{e:Expr}{t:TE}(h:PE X e t)(he:∀whole,isTrue e X.env whole=(do let v ←whole;standAt e.pos;holding [v] (truthy v)):=by intro _;rfl):PT X e (tB t):=by
 intro pins s σ H Q I hw;refine isTrue_plain (thn (h pins s σ H _ I hw) fun v s1 ⟨x,H1,I1,r1,q1⟩=>?_) (he _);obtain⟨d,rfl,q⟩:=q1;cases r1;exact rL ⟨H1,I1,q⟩
variable{tA tB':TT}{kA:List Expr}
def zTy(t u:TT):TT:=fun σ H Q=>t σ H fun c H1=>if c=true then u σ H1 Q else Q false H1
def tOr(t u:TT):TT:=fun σ H Q=>t σ H fun c H1=>if c=true then Q true H1 else u σ H1 Q
def zUd(t:TT):TT:=fun σ H Q=>t σ H fun c H1=>Q (!c) H1
theorem xT(ha:PT X a tA):PW X (.BoolOp .And [a] pos) tA:=by
 intro wh pins s σ H Q I h;refine isTrue_and (thn (ha pins s σ H Q I h) fun c s1 e=>?_)
 cases c with
 | true=>exact isTrue_and_nil e
 | false=>exact e
theorem zAs(ha:PT X a tA):PW X (.BoolOp .Or [a] pos) tA:=by
 intro wh pins s σ H Q I h;refine isTrue_or (thn (ha pins s σ H Q I h) fun c s1 e=>?_)
 cases c with
 | false=>exact isTrue_or_nil e
 | true=>exact e
theorem xO(ha:PT X a tA)(hb:PW X (.BoolOp .And (b::kA) pos) tB'):PW X (.BoolOp .And (a::b::kA) pos) (zTy tA tB'):=by
 intro wh pins s σ H Q I h;refine isTrue_and (thn (ha pins s σ H _ I h) fun c s1 ⟨H1,I1,q1⟩=>?_)
 cases c with
 | true=>exact hb wh pins s1 σ H1 Q I1 q1
 | false=>exact⟨H1,I1,q1⟩
theorem uR(ha:PT X a tA)(hb:PW X (.BoolOp .Or (b::kA) pos) tB'):PW X (.BoolOp .Or (a::b::kA) pos) (tOr tA tB'):=by
 intro wh pins s σ H Q I h;refine isTrue_or (thn (ha pins s σ H _ I h) fun c s1 ⟨H1,I1,q1⟩=>?_)
 cases c with
 | true=>exact⟨H1,I1,q1⟩
 | false=>exact hb wh pins s1 σ H1 Q I1 q1
theorem vS(ha:PT X a tA):PT X (.UnaryOp .Not a pos) (zUd tA):=by
 intro pins s σ H Q I h;exact isTrue_not (ha pins s σ H (fun c H1=>Q (!c) H1) I h)
def zKl(ta tb:TE):TE:=fun σ H Q=>ta σ H fun x H1=>∃c,x= .bl c∧if c=true then tb σ H1 Q else Q (.bl false) H1
def tOrV(ta tb:TE):TE:=fun σ H Q=>ta σ H fun x H1=>∃c,x= .bl c∧if c=true then Q (.bl true) H1 else tb σ H1 Q
def zNj(ta:TE):TE:=fun σ H Q=>ta σ H fun x H1=>∃c,x= .bl c∧Q (.bl (!c)) H1
theorem zFg{op}{t:TE}(h:PE X a t):PE X (.BoolOp op [a] pos) t:=fun pins s σ H Q I hw=>BoolOp_one (h pins s σ H Q I hw)
theorem zAg(ha:PE X a ta)(hb:PE X (.BoolOp .And (b::kA) pos) tb):PE X (.BoolOp .And (a::b::kA) pos) (zKl ta tb):=by
 intro pins s σ H Q I h;refine BoolOp_and (thn (ha pins s σ H _ I h) fun v s1 ⟨x,H1,I1,r1,q1⟩=>?_);obtain⟨c,rfl,q1⟩:=q1;cases r1;refine rL ?_
 cases c with
 | true=>exact hb pins s1 σ H1 Q I1 q1
 | false=>exact⟨.bl false,H1,I1,rfl,q1⟩
theorem zSm(ha:PE X a ta):PE X (.UnaryOp .Not a pos) (zNj ta):=by
 intro pins s σ H Q I h;refine UnaryOp_ (thn (ha pins s σ H _ I h) fun v s1 ⟨x,H1,I1,r1,q1⟩=>?_);obtain⟨c,rfl,q1⟩:=q1;cases r1;exact not_of (rL ⟨.bl (!c),H1,I1,rfl,q1⟩)
def tIf(t:TT)(ta tb:TE):TE:=fun σ H Q=>t σ H fun c H1=>if c=true then ta σ H1 Q else tb σ H1 Q
end
def SqL(K:W.Frag)(H:Hp)(a:Addr)(xs:List V):Prop:=
 Rd H a (.lst xs)∨
  ∃(o:Obj)(its:Array Value)(n:Nat),K.lookup a=some o∧o.cls= .type "list"∧o.dict=none∧o.data= .seq its n∧its.size≤sizeLine∧Vals xs its.toList
def SqT(K:W.Frag)(H:Hp)(a:Addr)(xs:List V):Prop:=
 Rd H a (.tup xs)∨
  ∃(o:Obj)(its:Array Value)(n:Nat),K.lookup a=some o∧o.cls= .type "tuple"∧o.data= .seq its n∧its.size≤sizeLine∧Vals xs its.toList
def absV:Value→Option V
 | .none=>some .non
 | .bool b=>some (.bl b)
 | .int i _=>some (.int i)
 | .str x _=>some (.str x)
 | .bytes b _=>some (.byt b)
 | .float b _=>some (.flt b)
 | .ref a=>some (.ref a)
 | .type n=>some (.ty n)
 | _=>none
theorem RelV.abs{x:V}{u:Value}(r:RelV x u):absV u=some x:=by
 cases x with
 | non=>cases r;rfl
 | bl _=>cases r;rfl
 | int _=>obtain⟨t,rfl⟩:=r;rfl
 | str _=>obtain⟨t,rfl⟩:=r;rfl
 | byt _=>obtain⟨t,rfl⟩:=r;rfl
 | flt _=>obtain⟨t,rfl⟩:=r;rfl
 | ref _=>cases r;rfl
 | ty _=>cases r;rfl
theorem RelV.inj{x y:V}{u:Value}(r:RelV x u)(q:RelV y u):x=y:=mX (r.abs.symm.trans q.abs)
theorem Vals.inj:∀{xs ys:List V}{us:List Value},Vals xs us→Vals ys us→xs=ys
 | _,_,_, .nil, .nil=>rfl
 | _,_,_, .cons r t, .cons r' t'=>by rw[r.inj r',Vals.inj t t']
section
variable{X:Cx}{pins:List (Addr×Obj)}{σ:St}{H:Hp}{s:Shared}{a:Addr}{xs ys:List V}
theorem SqL.of{K:W.Frag}(h:H a=some (.lst xs)):SqL K H a xs:=.inl (.inl h)
theorem SqT.of{K:W.Frag}(h:H a=some (.tup xs)):SqT K H a xs:=.inl (.inl h)
theorem Inv.list(I:Inv X pins σ H s)(h:SqL X.K H a xs):∃its:List Value,Vals xs its∧PlainL s.heap a its.toArray∧xs.length≤sizeLine:=by
 rcases h with h |⟨o,its,n,hk,hc,hd,hs,hz,r⟩
 ·obtain⟨z,its,n,r,e⟩:=h.ok I.hok
  exact⟨its,r,⟨_,n,e,rfl,rfl,rfl⟩,z⟩
 ·refine⟨its.toList,r,⟨o,n,I.kIn a o hk,hc,hd,by simpa using hs⟩, ?_⟩
  have e:=r.length;simp only[tD] at e
  lia
theorem Inv.tuple(I:Inv X pins σ H s)(h:SqT X.K H a xs):∃its:List Value,Vals xs its∧IsTup s.heap a its.toArray∧xs.length≤sizeLine:=by
 rcases h with h |⟨o,its,n,hk,hc,hs,hz,r⟩
 ·obtain⟨z,its,r,p⟩:=h.ok I.hok
  exact⟨its,r,p,z⟩
 ·refine⟨its.toList,r,⟨o,I.kIn a o hk,hc,n,by simpa using hs⟩, ?_⟩
  have e:=r.length;simp only[tD] at e
  lia
theorem Inv.list_inj(I:Inv X pins σ H s)(h:SqL X.K H a xs)(h':SqL X.K H a ys):xs=ys:=by
 obtain⟨its,r,⟨o,n,e,_,_,d⟩,_⟩:=I.list h;obtain⟨its',r',⟨o',n',e',_,_,d'⟩,_⟩:=I.list h';rw[e] at e';cases e';rw[d] at d';injection d' with d1 _;have:its=its':=by simpa using congrArg Array.toList d1
 subst this;exact r.inj r'
end
abbrev Cx.wish(X:Cx)(E:Value→Shared→Prop):Cx:={X with xe:=E}
abbrev Cx.nox(X:Cx):Cx:=X.wish fun _ _=>False
theorem Cx.Ok.wish{X:Cx}(ok:X.Ok)(E:Value→Shared→Prop):(X.wish E).Ok:=
 ⟨ok.mod,ok.kind,ok.glob,ok.blt,ok.above,ok.inj,ok.has,ok.cab,ok.hd,ok.frames,ok.stk,ok.exf,ok.bs,ok.bsz,ok.noex,ok.exfs,ok.funs,ok.frf⟩
theorem Cx.Ok.unwish{X:Cx}{E:Value→Shared→Prop}(ok:(X.wish E).Ok):X.Ok:=
 ⟨ok.mod,ok.kind,ok.glob,ok.blt,ok.above,ok.inj,ok.has,ok.cab,ok.hd,ok.frames,ok.stk,ok.exf,ok.bs,ok.bsz,ok.noex,ok.exfs,ok.funs,ok.frf⟩
section
variable{X:Cx}{pins:List (Addr×Obj)}{σ:St}{H:Hp}{s:Shared}{E:Value→Shared→Prop}
theorem Inv.wish(I:Inv X pins σ H s)(E:Value→Shared→Prop):Inv (X.wish E) pins σ H s:=⟨I.ok.wish E,I.os,I.bare,I.base,I.loc,I.cell,I.free,I.freeC,I.pin,I.hok,I.len⟩
theorem Inv.unwish(I:Inv (X.wish E) pins σ H s):Inv X pins σ H s:=⟨I.ok.unwish,I.os,I.bare,I.base,I.loc,I.cell,I.free,I.freeC,I.pin,I.hok,I.len⟩
theorem SP.unwish{D:zAk}{f:Flow}{s':Shared}(h:SP (X.wish E) pins D f s'):SP X pins D f s':=by
 cases f with
 | next=>obtain⟨σ',H',I,q⟩:=h;exact⟨σ',H',I.unwish,q⟩
 | brk=>obtain⟨σ',H',I,q⟩:=h;exact⟨σ',H',I.unwish,q⟩
 | cont=>obtain⟨σ',H',I,q⟩:=h;exact⟨σ',H',I.unwish,q⟩
 | ret u=>obtain⟨v,σ',H',I,r,q⟩:=h;exact⟨v,σ',H',I.unwish,r,q⟩
theorem PSs.nox{st:List Stmt}{t:TS}(h:PSs X.nox st t):PSs X st t:=fun pins s σ H D I hw=>
 rF (h pins s σ H D (I.wish _) hw) (fun _ _ q=>q.unwish) fun _ _ z=>False.elim z
end
section
variable{X:Cx}{st:Stmt}{kA:List Stmt}{t u:TS}{e:Expr}{te:TE}{pos:Pos}
def zOp:TS:=fun D σ H=>D.nx σ H
def zSc(t u:TS):TS:=fun D σ H=>t {D with nx:=u D} σ H
theorem zL:PSs X [] zOp:=fun _ _ σ H _ I h=>bI ⟨σ,H,I,h⟩
theorem zF(h1:PS X st t)(h2:PSs X kA u):PSs X (st::kA) (zSc t u):=by
 intro pins s σ H D I h;refine wpAny_execs_cons (thn (h1 pins s σ H {D with nx:=u D} I h) fun f s1 q=>?_)
 cases f with
 | next=>
  obtain⟨σ',H',I',q⟩:=q;exact h2 pins s1 σ' H' D I' q
 | ret v=>exact q
 | brk=>exact q
 | cont=>exact q
theorem zG(h1:PS X st t):PSs X [st] t:=by
 intro pins s σ H D I h;refine wpAny_execs_cons (thn (h1 pins s σ H D I h) fun f s1 q=>?_)
 cases f with
 | next=>exact bI q
 | ret v=>exact q
 | brk=>exact q
 | cont=>exact q
theorem Inv.quiet{pins:List (Addr×Obj)}{σ:St}{H:Hp}{s:Shared}(I:Inv X pins σ H s):interactive X.env=false:=by simp[interactive,I.ok.kind]
def zOd(te:TE):TS:=fun D σ H=>te σ H fun _ H1=>D.nx σ H1
theorem wZ(he:PE X e te)(hs:swapsWith e none pos.line X.env=pure false:=by rfl):PS X (.Expr e pos) (zOd te):=by
 intro pins s σ H D I h;exact wpAny_Expr_any (thn (he pins s σ H _ I h) fun v s1 ⟨x,H1,I1,r1,q1⟩=>⟨σ,H1,I1,q1⟩) I.quiet hs
def zTd(te:TE):TS:=fun D σ H=>te σ H D.rt
theorem zK(he:PE X e te):PS X (.Return (some e) pos) (zTd te):=by
 intro pins s σ H D I h;exact wpAny_Return_some (thn (he pins s σ H _ I h) fun v s1 ⟨x,H1,I1,r1,q1⟩=>⟨x,σ,H1,I1,r1,q1⟩)
def zRz:TS:=fun D _ H=>D.rt .non H
def zTc(c:TT)(t u:TS):TS:=fun D σ H=>c σ H fun b H1=>if b=true then t D σ H1 else u D σ H1
theorem zS{c:Expr}{a b:List Stmt}{tc:TT}(hc:PT X c tc)(ha:PSs X a t)(hb:PSs X b u):PS X (.If c a b pos) (zTc tc t u):=by
 intro pins s σ H D I h;refine wpAny_If (thn (hc pins s σ H _ I h) fun d s1 ⟨H1,I1,q1⟩=>?_)
 cases d with
 | true=>exact ha pins s1 σ H1 D I1 q1
 | false=>exact hb pins s1 σ H1 D I1 q1
def zIl:TS:=fun _ _ _=>False
theorem gE{sts:List Stmt}:PSs X sts zIl:=fun _ _ _ _ _ _ h=>h.elim
end
abbrev TG:=V→St→Hp→(St→Hp→Prop)→Prop
abbrev TGs:=List V→St→Hp→(St→Hp→Prop)→Prop
def PG(X:Cx)(target:Expr)(t:TG):Prop:=
 ∀(pins:List (Addr×Obj))(s:Shared)(σ:St)(H:Hp)(v:V)(u:Value)(Q:St→Hp→Prop),Inv X pins σ H s→RelV v u→t v σ H Q→
  wpAny (model X.prog X.w) X.A (assign target X.env u) (fun _ s'=>∃σ' H',Inv X pins σ' H' s'∧Q σ' H') X.xe s
def PGs(X:Cx)(ts:List Expr)(t:TGs):Prop:=
 ∀(pins:List (Addr×Obj))(s:Shared)(σ:St)(H:Hp)(vs:List V)(us:List Value)(Q:St→Hp→Prop),Inv X pins σ H s→Vals vs us→t vs σ H Q→
  wpAny (model X.prog X.w) X.A (assignInOrder ((assignEach ts X.env).map (·.2)) us) (fun _ s'=>∃σ' H',Inv X pins σ' H' s'∧Q σ' H') X.xe s
abbrev zTs:=V→V→V→Hp→(Hp→Prop)→Prop
def PSet(X:Cx)(t:zTs):Prop:=
 ∀(pins:List (Addr×Obj))(s:Shared)(σ:St)(H:Hp)(o i v:V)(ov iv u:Value)(Q:Hp→Prop),Inv X pins σ H s→RelV o ov→RelV i iv→RelV v u→t o i v H Q→
  wpAny (model X.prog X.w) X.A (setItem ov iv u) (fun _ s'=>∃H',Inv X pins σ H' s'∧Q H') X.xe s
abbrev TIp:=V→V→Hp→VK→Prop
def PIp(X:Cx)(op:Operator)(t:TIp):Prop:=
 ∀(pins:List (Addr×Obj))(s:Shared)(σ:St)(H:Hp)(x y:V)(v u:Value)(Q:VK),Inv X pins σ H s→RelV x v→RelV y u→t x y H Q→
  wpAny (model X.prog X.w) X.A (inplaceOp op v u) (EP X pins σ Q) X.xe s
section
variable{X:Cx}{pos:Pos}
def vN(i:Nat):TG:=fun v σ H Q=>Q (σ.set i (some v)) H
theorem yF{i:Nat}{x:Str}(hN:X.N.Nodup)(hi:X.N[i]? =some x)(hx:Loc X.env.scope x)(hf:X.fn x=true∨X.env.scope.names.lookup x=some .local:=by first | exact .inl rfl | exact .inr rfl | assumption):PG X (.Name x pos) (vN i):=by
 intro pins s σ H v u Q I r h;exact wpAny_assign_Name (zCq I hN hi hx r (fun s' I'=>⟨_,H,I',h⟩) hf)
def zRg:TGs:=fun vs σ H Q=>vs= []∧Q σ H
def zGp(t:TG)(u:TGs):TGs:=fun vs σ H Q=>∃v r,vs=v::r∧t v σ H fun σ' H'=>u r σ' H' Q
theorem zFf:PGs X [] zRg:=by
 intro pins s σ H vs us Q I r h;obtain⟨e,h⟩:=h;subst e;cases r;exact assignInOrder_nil ⟨σ,H,I,h⟩
theorem jA{e:Expr}{es:List Expr}{t:TG}{u:TGs}(h1:PG X e t)(h2:PGs X es u)
  (hs:(assignEach (e::es) X.env).map (·.2)=assign e X.env::(assignEach es X.env).map (·.2):=by rfl):PGs X (e::es) (zGp t u):=by
 intro pins s σ H vs us Q I r h;obtain⟨v,vr,e1,h⟩:=h;subst e1
 cases r with
 | cons r rr=>
  rw[hs];refine assignInOrder_cons (thn (h1 pins s σ H _ _ _ I r h) fun _ s1 ⟨σ1,H1,I1,q1⟩=>?_);exact h2 pins s1 σ1 H1 _ _ Q I1 rr q1
def zOf(K:W.Frag)(n:Nat)(t:TGs):TG:=fun v σ H Q=>∃a xs,v= .ref a∧SqT K H a xs∧xs.length=n∧t xs σ H Q
theorem zNn{es:List Expr}{k:Nat}{t:TGs}{n:Nat}(hc:X.calm=true)(h:PGs X es t)
  (hn:(assignEach es X.env).length=n:=by rfl) (hst:(assignEach es X.env).findIdx? (·.1)=none:=by rfl):PG X (.Tuple es k pos) (zOf X.K n t):=by
 intro pins s σ H v u Q I r hw;obtain⟨a,xs,e1,hq,hl,hw⟩:=hw;subst e1;cases r;obtain⟨its,rv,ht,hz⟩:=I.tuple hq;refine assign_Tuple_tuple (I.ok.hd hc) ht (by simp[hn,←hl,rv.length]) hst fun h' hx=>?_;have I1:Inv X pins σ H {s with heap:=h'}:=I.kept (t':=s.toks) fun b o e=>hx b o (nJ (mT e)) e;exact h pins _ σ H xs _ Q I1 (by simpa using rv) hw
def gSub(to ti:TE)(t:zTs):TG:=fun v σ H Q=>to σ H fun o H1=>ti σ H1 fun i H2=>t o i v H2 fun H3=>Q σ H3
theorem zSb{o i:Expr}{to ti:TE}{t:zTs}(ho:PE X o to)(hi:PE X i ti)(hs:PSet X t)
  (ha:∀v,assign (.Subscript o i pos) X.env v=(do
   let ov ←holding [v] (eval o X.env);let iv ←holding [v,ov] (eval i X.env)
   standAt pos
   holding [v,ov,iv] (setItem ov iv v)
   release [v,ov,iv] []):=by intro _;rfl):PG X (.Subscript o i pos) (gSub to ti t):=by
 intro pins s σ H v u Q I r h;rw[ha];refine mH (rG (thn (ho pins s σ H _ I h) fun ov s1 ⟨x,H1,I1,r1,q1⟩=>?_));refine mH (rG (thn (hi pins s1 σ H1 _ I1 q1) fun iv s2 ⟨y,H2,I2,r2,q2⟩=>?_));refine mH (wpAny_standAt (mH (rG (thn (hs pins s2 σ H2 x y v ov iv u _ I2 r1 r2 r q2) fun _ s3 ⟨H3,I3,q3⟩=>?_))));exact wpAny_release ⟨σ,H3,I3,q3⟩
def zMc(te:TE)(g:TG):TS:=fun D σ H=>te σ H fun x H1=>g x σ H1 D.nx
theorem zSk{tg e:Expr}{te:TE}{g:TG}(he:PE X e te)(hg:PG X tg g)(hs:swapsWithSole [tg] e pos.line X.env=pure false:=by rfl)(hw:swappedStores [tg] e X.env=pure none:=by rfl)
  (h1:(assignEach [tg] X.env).map (·.2)= [assign tg X.env]:=by rfl):PS X (.Assign [tg] e pos) (zMc te g):=by
 intro pins s σ H D I h;refine wpAny_Assign_stores (thn (he pins s σ H _ I h) fun v s1 ⟨x,H1,I1,r1,q1⟩=>?_) hs hw;rw[h1];exact thn (hg pins s1 σ H1 x v _ I1 r1 q1) fun _ s2 q=>q
theorem uZ{i:Nat}{x:Str}{e:Expr}{te:TE}{pos':Pos}(hN:X.N.Nodup)(hi:X.N[i]? =some x)(hx:Loc X.env.scope x)(he:PE X e te)(hs:swapsWith e (some (.Name x pos')) pos.line X.env=pure false:=by rfl)(hf:X.fn x=true∨X.env.scope.names.lookup x=some .local:=by first | exact .inl rfl | exact .inr rfl | assumption):
  PS X (.Assign [.Name x pos'] e pos) (zMc te (vN i)):=by
 intro pins s σ H D I h;refine wpAny_Assign_Name (thn (he pins s σ H _ I h) fun v s1 ⟨y,H1,I1,r1,q1⟩=>?_) hs;exact zCq I1 hN hi hx r1 (fun s2 I2=>⟨_,H1,I2,q1⟩) hf
def tAug(i:Nat)(te:TE)(ti:TIp):TS:=fun D σ H=>∃x,σ[i]? =some (some x)∧te σ H fun y H1=>ti x y H1 fun z H2=>D.nx (σ.set i (some z)) H2
theorem zUo{i:Nat}{x:Str}{e:Expr}{te:TE}{op:Operator}{ti:TIp}{pos':Pos}(hN:X.N.Nodup)(hi:X.N[i]? =some x)(hx:Loc X.env.scope x)(he:PE X e te)(ho:PIp X op ti)(hf:X.fn x=true∨X.env.scope.names.lookup x=some .local:=by first | exact .inl rfl | exact .inr rfl | assumption):
  PS X (.AugAssign (.Name x pos') op e pos) (tAug i te ti):=by
 intro pins s σ H D I h;obtain⟨v,e1,h⟩:=h;obtain⟨m,hn,hl⟩:=I.loc;have vis:Vis X.env.scope x:=by rcases hx with k | k;exact .inl k;exact .inr (.inl k)
 obtain⟨u,r,l⟩:=hl i x v hi e1 vis;refine wpAny_AugAssign_Name ?_;have go:wpAny (model X.prog X.w) X.A (eval e X.env) (fun w s₂=>wpAny (model X.prog X.w) X.A (inplaceOp op u w) (fun r s₃=>wpAny (model X.prog X.w) X.A (storeName X.env x r) (fun _=>SP X pins D .next) X.xe s₃) X.xe s₂) X.xe s:=by
  refine thn (he pins s σ H _ I h) fun w s1 ⟨y,H1,I1,r1,q1⟩=>?_;refine thn (ho pins s1 σ H1 v y u w _ I1 r r1 q1) fun z s2 ⟨zv,H2,I2,r2,q2⟩=>?_;exact zCq I2 hN hi hx r2 (fun s3 I3=>⟨_,H2,I3,q2⟩) hf
 rcases l with⟨hk,hm⟩|⟨hk,c,hc,hcell⟩
 ·exact wpAny_loadName_local I.ok.kind hk hn hm go
 ·rcases hk with hk | hk
  ·exact wpAny_loadName_cell I.ok.kind hk hc hcell go
  ·rcases hx with k | k
   ·have:X.env.scope.names.lookup x=some .free:=hk
    rw[k] at this;cases this
   ·have:X.env.scope.names.lookup x=some .free:=hk
    rw[k] at this;cases this
def ipI(f:Int→Int→Int):TIp:=fun x y H Q=>∃i j,x= .int i∧y= .int j∧Q (.int (f i j)) H
theorem zSx:PIp X .Add (ipI fun i j=>i+j):=by
 intro pins s σ H x y v u Q I r1 r2 h;obtain⟨i,j,e1,e2,q⟩:=h;subst e1;subst e2;obtain⟨t,rfl⟩:=r1;obtain⟨t',rfl⟩:=r2;exact iadd_int ⟨.int _,H,I.tok _,⟨_,rfl⟩,q⟩
end
structure It where
 go:Nat→Hp→Prop
 yld:Nat→Hp→V→Hp→Prop
 stop:Nat→Hp→Prop
def zBc(X:Cx)(pins:List (Addr×Obj))(H:Hp)(b:Addr):Prop:=
 H b=none∧b≠X.env.locals∧b∉X.fs∧(b∈X.ex∨X.s₀.heap.objs.size≤b)∧(∀x c,X.env.cells.lookup x=some c→c≠b)∧∀p∈X.pn++pins,p.1≠b
theorem Inv.fpOk{X:Cx}{pins:List (Addr×Obj)}{σ:St}{H H':Hp}{s:Shared}{b:Addr}(I:Inv X pins σ H s)(hb:s.heap.objs.size≤b)(hn:H' b=none):zBc X pins H' b:=by
 refine⟨hn,pQ (nC I.lt hb),I.nofs hb, .inr (mY I.sz hb),fun x c e z=>?_,fun p hp z=>?_⟩
 ·obtain⟨v,q⟩:=I.cell x c e
  exact absurd (nC q.lt (by rw[z];exact hb)) (rM _)
 ·exact absurd (nC (mT (I.pin p hp).1) (by rw[z];exact hb)) (rM _)
structure zFt(P:Program)(w:World)(K:W.Frag)(tg:Expr)(J:It)(fp:List Addr)(it:Addr)(tn:Nat→Heap→Prop):Prop where
 mem:it∈fp
 obj:∀i h,tn i h→∀b∈fp,∃o,h.get? b=some o∧∀v,o.data≠ .cell v
 keep:∀i h h',tn i h→(∀b∈fp,∀o,h.get? b=some o→h'.get? b=some o)→tn i h'
 item:∀(X:Cx),X.prog=P→X.w=w→X.K=K→X.calm=true→∀(i:Nat)(pins:List (Addr×Obj))(s:Shared)(σ:St)(H:Hp)(E:Value→Shared→Prop),Inv X pins σ H s→(∀b∈fp,zBc X pins H b)→tn i s.heap→J.go i H→
  wpAny (model P w) X.A (pyNext (.ref it)) (fun r s1=>∃u,r=some u∧
   wpAny (model P w) X.A (letOwnedTupleGo tg (.ref it) u) (fun _ s2=>∃x H',Inv X pins σ H' s2∧RelV x u∧J.yld i H x H'∧tn (i+1) s2.heap∧∀b∈fp,H' b=none) E s1) E s
 done:∀(X:Cx),X.prog=P→X.w=w→X.K=K→X.calm=true→∀(i:Nat)(pins:List (Addr×Obj))(s:Shared)(σ:St)(H:Hp)(E:Value→Shared→Prop),Inv X pins σ H s→(∀b∈fp,zBc X pins H b)→tn i s.heap→J.stop i H→
  wpAny (model P w) X.A (pyNext (.ref it)) (fun r s1=>r=none∧Inv X pins σ H s1) E s
 self:∀(A:Around)(i:Nat)(s:Shared)(Q:Value→Shared→Prop)(E:Value→Shared→Prop),tn i s.heap→Q (.ref it) s→wpAny (model P w) A (pyIter (.ref it)) Q E s
abbrev TI:=St→Hp→(It→Hp→Prop)→Prop
def PIE(X:Cx)(pins:List (Addr×Obj))(σ:St)(tg:Expr)(R:It→Hp→Prop)(itv:Value)(s2:Shared):Prop:=
 ∃(it:Addr)(fp:List Addr)(tn:Nat→Heap→Prop)(J:It)(H':Hp),itv= .ref it∧Inv X pins σ H' s2∧zFt X.prog X.w X.K tg J fp it tn∧tn 0 s2.heap∧(∀b∈fp,zBc X pins H' b)∧R J H'
def PI(X:Cx)(tg iter:Expr)(wi:TI):Prop:=
 ∀(pins:List (Addr×Obj))(s:Shared)(σ:St)(H:Hp)(R:It→Hp→Prop),Inv X pins σ H s→wi σ H R→
  wpAny (model X.prog X.w) X.A (eval iter X.env) (fun v s1=>wpAny (model X.prog X.w) X.A (pyIter v) (PIE X pins σ tg R) X.xe s1) X.xe s
theorem zJj{M:Model}{A:Around}{E:Value→Shared→Prop}{s:Shared}{tg:Expr}{it:Addr}{u:Value}{o:Obj}{n:String}{vs:Array Value}{Q:Unit→Shared→Prop}(ho:s.heap.get? it=some o)(hc:o.cls= .type n)(hd:o.data= .fields vs)
    (hn: ["enumerate","zip","dict_itemiterator","dict_reverseitemiterator","odict_iterator","itertools.zip_longest","itertools.pairwise"].contains n=false) (hQ:Q () s):wpAny M A (letOwnedTupleGo tg (.ref it) u) Q E s:=by
  unfold letOwnedTupleGo;cases tg<;>first
    | exact mZ hQ
    |(cases u<;>first
        | exact mZ hQ
        | (refine mH (wpAny_load ho ?_)
           rw[hc,hd];show wpAny M A (if(["enumerate","zip","dict_itemiterator","dict_reverseitemiterator","odict_iterator","itertools.zip_longest","itertools.pairwise"].contains n && vs[0]? ==some (rawInt _))=true then _ else _) Q E s;rw[mJ (by intro h;rw[hn,sP] at h;cases h)];exact mZ hQ))
def Itl(K:W.Frag)(a:Addr):It:=
 ⟨fun i H=>∃xs x,SqL K H a xs∧xs[i]? =some x,fun i H x H'=>H'=H∧∀xs,SqL K H a xs→xs[i]? =some x,fun i H=>∃xs,SqL K H a xs∧xs.length≤i⟩
def Itr(lo:Int)(n:Nat):It:=⟨fun i _=>i<n,fun i H x H'=>H'=H∧x= .int (lo+i),fun i _=>n≤i⟩
theorem zLd{P:Program}{w:World}{K:W.Frag}{tg:Expr}(a it:Addr):zFt P w K tg (Itl K a) [it] it (fun i h=>h.IsListIter it a i) where
 mem:=by simp
 obj:=fun i h st b hb=>by
  have e:b=it:=by simpa using hb
  subst e;obtain⟨o,e,c,d⟩:=st;exact⟨o,e,fun v z=>by rw[d] at z;cases z⟩
 keep:=fun i h h' st k=>st.at fun o e=>k it (by simp) o e
 item:=by
  intro X hP hw hK hc i pins s σ H E I hf st hg;subst hP hw hK;obtain⟨xs,x,hq,hx⟩:=hg;obtain⟨its,rv,p,hz⟩:=I.list hq;obtain⟨u,hu,ru⟩:=rv.get hx;obtain⟨f0,f1,f2,f3,f4,f5⟩:=hf it (by simp);refine sM st p.isList (x:=u) (by simpa using hu) fun h' st' sb=>?_;have I1:Inv X pins σ H {s with heap:=h'}:=I.turned (t':=s.toks) (fun b o hb e=>(sb.2 b hb).trans e) f0 f1 f3 f4 f5;obtain⟨o,e,c,d⟩:=id st';exact⟨u,rfl,zJj (s:={s with heap:=h'}) e c d (by decide) ⟨x,H,I1,ru,⟨rfl,fun ys hy=>by rw[I.list_inj hy hq];exact hx⟩,st',fun b hb=>(hf b hb).1⟩⟩
 done:=by
  intro X hP hw hK hc i pins s σ H E I hf st hg;subst hP hw hK;obtain⟨xs,hq,hx⟩:=hg;obtain⟨its,rv,p,hz⟩:=I.list hq;obtain⟨f0,f1,f2,f3,f4,f5⟩:=hf it (by simp);have hl:=rv.length;exact sQ (I.ok.hd hc) st p.isList (by simp;lia) fun h' eb=>⟨rfl,I.turned (t':=s.toks) (fun b o hb e=>eb b o hb e) f0 f1 f3 f4 f5⟩
 self:=fun _ _ _ _ _ st h=>wpAny_pyIter_listiter st h
theorem zIj{P:Program}{w:World}{K:PySem.W.Frag}{tg:Expr}(it:Addr)(lo:Int)(n:Nat):zFt P w K tg (Itr lo n) [it] it (fun i h=>IsRangeIter h it (lo+(i:Nat)*1) ((n:Int)- (i:Nat)) 1) where
 mem:=by simp
 obj:=fun i h st b hb=>by
  have e:b=it:=by simpa using hb
  subst e;exact⟨_,st,fun v z=>by
   have z':Data.fields _=Data.cell v:=z;cases z'⟩
 keep:=fun i h h' st k=>k it (by simp) _ st
 item:=by
  intro X hP hw hK hc i pins s σ H E I hf st hg;subst hP hw hK;obtain⟨f0,f1,f2,f3,f4,f5⟩:=hf it (by simp);have W:=Walks.range (prog:=X.prog) (w:=X.w) (I.ok.hd hc) it lo 1 n;refine W.item i s _ _ hg st fun v h' tk hv st' kk=>?_;obtain⟨t,rfl⟩:=hv;have I1:Inv X pins σ H {s with heap:=h',toks:=tk}:=I.turned (fun b o hb e=>kk b o (by simpa using hb) e) f0 f1 f3 f4 f5;refine⟨_,rfl,zJj (s:={s with heap:=h',toks:=tk}) (n:="range_iterator") st' rfl rfl (by decide) ⟨.int (lo+i),H,I1,⟨t, ?_⟩,⟨rfl,rfl⟩,st',fun b hb=>(hf b hb).1⟩⟩;rw[Int.mul_one]
 done:=by
  intro X hP hw hK hc i pins s σ H E I hf st hg;subst hP hw hK;obtain⟨f0,f1,f2,f3,f4,f5⟩:=hf it (by simp);exact wpAny_pyNext_range_end (I.ok.hd hc) st (by have:n≤i:=hg;lia) fun h' eb=>⟨rfl,I.turned (t':=s.toks) (fun b o hb e=>eb b o hb e) f0 f1 f3 f4 f5⟩
 self:=fun _ _ _ _ _ st h=>wpAny_pyIter_rangeiter st h
section
variable{X:Cx}{tg:Expr}
def zNq(K:W.Frag)(tl:TE):TI:=fun σ H R=>tl σ H fun x H1=>∃a,x= .ref a∧(∃xs,SqL K H1 a xs)∧R (Itl K a) H1
theorem xM{l:Expr}{tl:TE}(hl:PE X l tl):PI X tg l (zNq X.K tl):=by
 intro pins s σ H R I h;refine thn (hl pins s σ H _ I h) fun v s1 ⟨x,H1,I1,r1,q1⟩=>?_;obtain⟨a,e,⟨xs,hq⟩,q⟩:=q1;subst e;cases r1;obtain⟨its,rv,p,hz⟩:=I1.list hq;refine tM p.isList ?_;refine⟨s1.heap.objs.size,[s1.heap.objs.size],_,_,H1,rfl,I1.kept (t':=s1.toks) fun b o e=>mS _ e,zLd a _,⟨_,nI _ rfl,rfl,rfl⟩,fun b hb=>?_,q⟩;have e:b=s1.heap.objs.size:=by simpa using hb
 subst e;exact I1.fpOk (mE _) (I1.hok.fresh (mE _))
theorem zGr{pins:List (Addr×Obj)}{σ:St}{H:Hp}{s:Shared}{R:It→Hp→Prop}{E:Value→Shared→Prop}{lo hi:Int}{t u v:Tok}{tk:Nat}(I:Inv X pins σ H s)(h1: -(2 ^ 62)≤lo)(h2:lo<2 ^ 62)(h3: -(2 ^ 62)≤hi)(h4:hi<2 ^ 62)
  (q:R (Itr lo (hi - lo).toNat) H):wpAny (model X.prog X.w) X.A (pyIter (.ref s.heap.objs.size)) (PIE X pins σ tg R) E {s with heap:=s.heap.push {cls:=.type "range",data:=.fields #[.int lo t, .int hi u, .int 1 v]},toks:=tk}:=by
 refine wpAny_pyIter_range (IsRange.new ..) (small_one h1 h2 h3 h4) ?_;have I1:Inv X pins σ H {s with heap:=s.heap.push {cls:=.type "range",data:=.fields #[.int lo t, .int hi u, .int 1 v]},toks:=tk}:=I.kept fun b o e=>mS _ e;refine⟨(s.heap.push {cls:=.type "range",data:=.fields #[.int lo t, .int hi u, .int 1 v]}).objs.size,[(s.heap.push {cls:=.type "range",data:=.fields #[.int lo t, .int hi u, .int 1 v]}).objs.size],_,_,H,rfl,
  I1.kept (t':=tk) fun b o e=>mS _ e,zIj _ lo (hi - lo).toNat, ?_,fun b hb=>?_,q⟩
 ·have e1:lo+((0:Nat):Int)*1=lo:=by simp
  have e2:(((hi - lo).toNat:Nat):Int)- ((0:Nat):Int)=Builtin.Range.rangeSize lo hi 1:=by rw[rangeSize_one];split<;>lia
  show IsRangeIter _ _ (lo+((0:Nat):Int)*1) ((((hi - lo).toNat:Nat):Int)- ((0:Nat):Int)) 1;rw[e1,e2];exact nI _ rfl
 ·have e:b=(s.heap.push {cls:=.type "range",data:=.fields #[.int lo t, .int hi u, .int 1 v]}).objs.size:=by simpa using hb
  subst e;exact I1.fpOk (mE _) (I1.hok.fresh (mE _))
def zNx(ta:TA):TI:=fun σ H R=>ta σ H fun vs H1=>∃j:Int,vs= [.int j]∧-(2 ^ 62)≤j∧j<2 ^ 62∧R (Itr 0 j.toNat) H1
def zRt(ta:TA):TI:=fun σ H R=>ta σ H fun vs H1=>∃i j:Int,vs= [.int i, .int j]∧(-(2 ^ 62)≤i∧i<2 ^ 62∧-(2 ^ 62)≤j∧j<2 ^ 62)∧R (Itr i (j - i).toNat) H1
theorem xJ{a:Expr}{ta:TA}{p pos:Pos}(hg:Gl X "range")(hm:X.mg "range" =none)(ha:PA X [a] ta)(hs:starEach [a] X.env= [(false,eval a X.env)]:=by rfl):PI X tg (.Call (.Name "range" p) [a] [] pos) (zNx ta):=by
 intro pins s σ H R I h;refine Call_ (jG I hg hm boot_range (pP (thn (ha pos pins s σ H _ I h) fun us s1 ⟨vs,H1,I1,r1,q1⟩=>?_) hs rfl));obtain⟨j,e,q1,q2,q⟩:=q1;subst e
 cases r1 with
 | cons r rr=>
  cases rr;obtain⟨t,rfl⟩:=r;exact call_range_1 (zGr I1 (by lia) (by lia) q1 q2 (by simpa using q))
theorem zEs{a b:Expr}{ta:TA}{p pos:Pos}(hg:Gl X "range")(hm:X.mg "range" =none)(ha:PA X [a,b] ta)(hs:starEach [a,b] X.env= [(false,eval a X.env),(false,eval b X.env)]:=by rfl)(hs2:starEach [b] X.env= [(false,eval b X.env)]:=by rfl):
  PI X tg (.Call (.Name "range" p) [a,b] [] pos) (zRt ta):=by
 intro pins s σ H R I h;refine Call_ (jG I hg hm boot_range (pP (thn (ha pos pins s σ H _ I h) fun us s1 ⟨vs,H1,I1,r1,q1⟩=>?_) (by rw[hs,hs2]) (by rw[hs2];rfl)));obtain⟨i,j,e,⟨q1,q2,q3,q4⟩,q⟩:=q1;subst e
 cases r1 with
 | cons r rr=>
  cases rr with
  | cons r' rr=>
   cases rr;obtain⟨t,rfl⟩:=r;obtain⟨t',rfl⟩:=r';exact call_range_2 (zGr I1 q1 q2 q3 q4 q)
def tFor(wi:TI)(g:TG)(tb:TS):TS:=fun D σ H=>wi σ H fun J H1=>∃W:Nat→Nat→St→Hp→Prop,(∃m,W 0 m σ H1)∧∀i m σ H,W i m σ H→
 (J.stop i H∧D.nx σ H)∨(J.go i H∧∃N:St→Hp→Prop,(∀σ' H',N σ' H'→∃m',m'<m∧W (i+1) m' σ' H')∧∀x H',J.yld i H x H'→g x σ H' fun σ2 H2=>tb {D with nx:=N,ct:=N,bk:=D.nx} σ2 H2)
def zDh(fp:List Addr)(h:Heap):List (Addr×Obj):=fp.filterMap fun b=>(h.get? b).map fun o=>(b,o)
theorem jF{fp:List Addr}{h:Heap}{b:Addr}{o:Obj}(hb:b∈fp)(e:h.get? b=some o):(b,o)∈zDh fp h:=List.mem_filterMap.mpr ⟨b,hb,by rw[e];rfl⟩
theorem zKz{fp:List Addr}{h:Heap}{p:Addr×Obj}(hp:p∈zDh fp h):p.1∈fp∧h.get? p.1=some p.2:=by
 obtain⟨b,hb,e⟩:=List.mem_filterMap.mp hp
 cases q:h.get? b with
 | none=>rw[q] at e;cases e
 | some o=>
  rw[q] at e;have e':(b,o)=p:=mX e;subst e';exact⟨hb,q⟩
theorem Inv.pinned{pins:List (Addr×Obj)}{σ:St}{H:Hp}{s:Shared}{fp:List Addr}(I:Inv X pins σ H s)(hf:∀b∈fp,zBc X pins H b)(ho:∀b∈fp,∃o,s.heap.get? b=some o∧∀v,o.data≠ .cell v):Inv X (pins++zDh fp s.heap) σ H s:=
 I.pins_of fun p hp=>(nD.mp hp).elim (fun z=>I.pin p (nG _ z)) fun z=>by
  obtain⟨hb,e⟩:=zKz z;obtain⟨f0,f1,f2,_⟩:=hf p.1 hb;obtain⟨o,e',d⟩:=ho p.1 hb;rw[e] at e';cases e';exact⟨e,f0,f1,f2,d⟩
theorem Inv.unpinned{pins pl:List (Addr×Obj)}{σ:St}{H:Hp}{s:Shared}(I:Inv X (pins++pl) σ H s):Inv X pins σ H s:=I.pins_of fun p hp=>I.pin p (nG _ (pF _ hp))
theorem wT{iter:Expr}{body:List Stmt}{wi:TI}{g:TG}{tb:TS}{pos:Pos}(hp:PassesOwn (model X.prog X.w) X.A X.env X.xe)(hc:X.calm=true)(hi:PI X tg iter wi)(hg:PG X tg g)(hb:PSs X body tb)
  (hs:∀x,foldedSetIterable iter X.env x=pure x:=by intro _;rfl):PS X (.For tg iter body [] pos) (tFor wi g tb):=by
 intro pins s σ H D I h;refine wpAny_For (thn (hi pins s σ H _ I h) fun v s1 h1=>thn h1 fun itv s2 h2=>?_) hs;obtain⟨it,fp,tn,J,H2,e,I2,T,st2,f2,W,⟨m0,w0⟩,turn⟩:=h2;subst e
 -- what stays true of the iterator's objects through the loop
 have stat:∀{H':Hp},(∀b∈fp,H' b=none)→∀b∈fp,zBc X pins H' b:=fun hn b hb=>⟨hn b hb,(f2 b hb).2⟩;refine codeAny_forLoop_any (fun n s'=>∃i σ' H',Inv X pins σ' H' s'∧tn i s'.heap∧(∀b∈fp,H' b=none)∧W i n σ' H') ?_ m0 ⟨0,σ,H2,I2,st2,fun b hb=>(f2 b hb).1,w0⟩;rintro n s3 ⟨i,σ3,H3,I3,st3,fr3,w3⟩;rcases turn i n σ3 H3 w3 with⟨stop,qn⟩|⟨go,N,hN,step⟩
 ·refine tE hp (thn (T.done X rfl rfl rfl hc i pins s3 σ3 H3 X.xe I3 (stat fr3) st3 stop) fun r s4 ⟨hr,I4⟩=>?_)
  subst hr;exact bI ⟨σ3,H3,I4,qn⟩
 ·refine tE hp (thn (T.item X rfl rfl rfl hc i pins s3 σ3 H3 X.xe I3 (stat fr3) st3 go) fun r s4 ⟨u,hr,h4⟩=>?_)
  subst hr;refine tE hp (thn h4 fun _ s5 ⟨x,H5,I5,r5,y5,st5,fr5⟩=>?_);have I5':=I5.pinned (stat fr5) (T.obj _ _ st5);refine tE hp (thn (hg _ s5 σ3 H5 x u _ I5' r5 (step x H5 y5)) fun _ s6 ⟨σ6,H6,I6,q6⟩=>?_);refine tE hp (thn (hb _ s6 σ6 H6 _ I6 q6) fun f s7 q7=>?_);have again:∀{σ7:St}{H7:Hp},Inv X (pins++zDh fp s5.heap) σ7 H7 s7→N σ7 H7→∃m,m<n∧∃i σ' H',Inv X pins σ' H' s7∧tn i s7.heap∧(∀b∈fp,H' b=none)∧W i m σ' H':=fun {σ7 H7} I7 n7=>by
   obtain⟨m',hm,w7⟩:=hN σ7 H7 n7;refine⟨m',hm,i+1,σ7,H7,I7.unpinned,T.keep _ _ _ st5 fun b hb o e=>(I7.pin (b,o) (nG _ (nG _ (jF hb e)))).1,fun b hb=>?_,w7⟩;obtain⟨o,e,d⟩:=T.obj _ _ st5 b hb;exact(I7.pin (b,o) (nG _ (nG _ (jF hb e)))).2.1
  cases f with
  | next=>obtain⟨σ7,H7,I7,n7⟩:=q7;exact again I7 n7
  | cont=>obtain⟨σ7,H7,I7,n7⟩:=q7;exact again I7 n7
  | brk=>obtain⟨σ7,H7,I7,q7⟩:=q7;exact⟨σ7,H7,I7.unpinned,q7⟩
  | ret v=>obtain⟨x7,σ7,H7,I7,r7,q7⟩:=q7;exact⟨x7,σ7,H7,I7.unpinned,r7,q7⟩
end
theorem zNr{K:PySem.W.Frag}{a:Addr}{xs:List V}{g:TG}{tb:TS}{D:zAk}{σ:St}{H:Hp}(Pv:Nat→St→Hp→Prop)(h0:Pv 0 σ H)(hl:∀i σ H,i≤xs.length→Pv i σ H→SqL K H a xs)
  (hs:∀i x σ H,xs[i]? =some x→Pv i σ H→g x σ H fun σ2 H2=>tb {D with nx:=Pv (i+1),ct:=Pv (i+1),bk:=D.nx} σ2 H2) (hd:∀σ H,Pv xs.length σ H→D.nx σ H):
  ∃W:Nat→Nat→St→Hp→Prop,(∃m,W 0 m σ H)∧∀i m σ H,W i m σ H→
   ((Itl K a).stop i H∧D.nx σ H)∨((Itl K a).go i H∧∃N:St→Hp→Prop,(∀σ' H',N σ' H'→∃m',m'<m∧W (i+1) m' σ' H')∧∀x H',(Itl K a).yld i H x H'→g x σ H' fun σ2 H2=>tb {D with nx:=N,ct:=N,bk:=D.nx} σ2 H2):=by
 refine⟨fun i m σ H=>m=xs.length - i∧i≤xs.length∧Pv i σ H,⟨xs.length,by simp,mL _,h0⟩, ?_⟩;rintro i m σ H ⟨rfl,hi,p⟩;have q:=hl i σ H hi p
 by_cases hlt:i<xs.length
 ·refine .inr ⟨⟨xs,xs[i],q,by simp[hlt]⟩,Pv (i+1),fun σ' H' p'=>⟨xs.length - (i+1),by lia,rfl,hlt,p'⟩,fun x H' y=>?_⟩
  obtain⟨e,y⟩:=y;subst e;exact hs i x σ _ (y xs q) p
 ·have e:i=xs.length:=by lia
  subst e;exact .inl ⟨⟨xs,q,mE _⟩,hd σ H p⟩
theorem zLe{lo:Int}{n:Nat}{g:TG}{tb:TS}{D:zAk}{σ:St}{H:Hp}(Pv:Nat→St→Hp→Prop)(h0:Pv 0 σ H)
  (hs:∀i σ H,i<n→Pv i σ H→g (.int (lo+i)) σ H fun σ2 H2=>tb {D with nx:=Pv (i+1),ct:=Pv (i+1),bk:=D.nx} σ2 H2) (hd:∀σ H,Pv n σ H→D.nx σ H):
  ∃W:Nat→Nat→St→Hp→Prop,(∃m,W 0 m σ H)∧∀i m σ H,W i m σ H→
   ((Itr lo n).stop i H∧D.nx σ H)∨((Itr lo n).go i H∧∃N:St→Hp→Prop,(∀σ' H',N σ' H'→∃m',m'<m∧W (i+1) m' σ' H')∧∀x H',(Itr lo n).yld i H x H'→g x σ H' fun σ2 H2=>tb {D with nx:=N,ct:=N,bk:=D.nx} σ2 H2):=by
 refine⟨fun i m σ H=>m=n - i∧i≤n∧Pv i σ H,⟨n,by simp,mL _,h0⟩, ?_⟩;rintro i m σ H ⟨rfl,hi,p⟩
 by_cases hlt:i<n
 ·refine .inr ⟨hlt,Pv (i+1),fun σ' H' p'=>⟨n - (i+1),by lia,rfl,hlt,p'⟩,fun x H' y=>?_⟩
  obtain⟨e,y⟩:=y;subst e y;exact hs i σ _ hlt p
 ·have e:i=n:=by lia
  subst e;exact .inl ⟨mE _,hd σ H p⟩
abbrev R2:=V→V→Hp→VK→Prop
def OpR(X:Cx)(f:Value→Value→Sem Value)(r:R2):Prop:=
 ∀(pins:List (Addr×Obj))(s:Shared)(σ:St)(H:Hp)(x y:V)(v u:Value)(Q:VK),Inv X pins σ H s→RelV x v→RelV y u→r x y H Q→
  wpAny (model X.prog X.w) X.A (f v u) (EP X pins σ Q) X.xe s
def UnR(X:Cx)(f:Value→Sem Value)(r:V→Hp→VK→Prop):Prop:=
 ∀(pins:List (Addr×Obj))(s:Shared)(σ:St)(H:Hp)(x:V)(v:Value)(Q:VK),Inv X pins σ H s→RelV x v→r x H Q→
  wpAny (model X.prog X.w) X.A (f v) (EP X pins σ Q) X.xe s
def wW(X:Cx)(f:Value)(r:List V→Hp→VK→Prop):Prop:=
 ∀(pins:List (Addr×Obj))(s:Shared)(σ:St)(H:Hp)(xs:List V)(us:List Value)(Q:VK),Inv X pins σ H s→Vals xs us→r xs H Q→
  wpAny (model X.prog X.w) X.A (call f us) (EP X pins σ Q) X.xe s
def tOp(r:R2)(ta tb:TE):TE:=fun σ H Q=>ta σ H fun x H1=>tb σ H1 fun y H2=>r x y H2 Q
def tUn(r:V→Hp→VK→Prop)(ta:TE):TE:=fun σ H Q=>ta σ H fun x H1=>r x H1 Q
def rI(C:Int→Int→Prop)(g:Int→Int→V):R2:=fun x y H Q=>∃i j,x= .int i∧y= .int j∧C i j∧Q (g i j) H
def rI0(g:Int→Int→V):R2:=fun x y H Q=>∃i j,x= .int i∧y= .int j∧Q (g i j) H
def rU(g:Int→V):V→Hp→VK→Prop:=fun x H Q=>∃i,x= .int i∧Q (g i) H
section
variable{X:Cx}{a b c:Expr}{ta tb tc:TE}{pos:Pos}
theorem zUi(ha:PE X a ta)(hb:PE X b tb){pins:List (Addr×Obj)}{s:Shared}{σ:St}{H:Hp}{R:V→V→Hp→Prop}(I:Inv X pins σ H s)
  (h:ta σ H fun x H1=>tb σ H1 fun y H2=>R x y H2) {Q:Value→Shared→Prop} {f:Value→Value→Sem Value}
  (hf:∀v u s2 x y H2,Inv X pins σ H2 s2→RelV x v→RelV y u→R x y H2→wpAny (model X.prog X.w) X.A (f v u) Q X.xe s2):
  wpAny (model X.prog X.w) X.A (eval a X.env) (fun v s₁=>wpAny (model X.prog X.w) X.A (eval b X.env) (fun u s₂=>wpAny (model X.prog X.w) X.A (f v u) Q X.xe s₂) X.xe s₁) X.xe s:=by
 refine thn (ha pins s σ H _ I h) fun v s1 ⟨x,H1,I1,r1,q1⟩=>?_;refine thn (hb pins s1 σ H1 _ I1 q1) fun u s2 ⟨y,H2,I2,r2,q2⟩=>?_;exact hf v u s2 x y H2 I2 r1 r2 q2
theorem zH{op:Operator}{r:R2}(ho:OpR X (binaryOp op) r)(ha:PE X a ta)(hb:PE X b tb):PE X (.BinOp a op b pos) (tOp r ta tb):=by
 intro pins s σ H Q I h;exact wpAny_BinOp (zUi ha hb I h fun v u s2 x y H2 I2 rx ry q=>ho pins s2 σ H2 x y v u Q I2 rx ry q)
theorem vC{op:UnaryOp}{r:V→Hp→VK→Prop}(ho:UnR X (unaryOp op) r)(ha:PE X a ta):PE X (.UnaryOp op a pos) (tUn r ta):=by
 intro pins s σ H Q I h;exact UnaryOp_ (thn (ha pins s σ H _ I h) fun v s1 ⟨x,H1,I1,r1,q1⟩=>ho pins s1 σ H1 x v Q I1 r1 q1)
theorem opI{f:Value→Value→Sem Value}{C:Int→Int→Prop}{g:Int→Int→Int}
  (rule:∀(i j:Int)(t u:Tok)(s:Shared)(Q:Value→Shared→Prop)(E:Value→Shared→Prop),C i j→Q (.int (g i j) s.toks) {s with toks:=s.toks+1}→wpAny (model X.prog X.w) X.A (f (.int i t) (.int j u)) Q E s):
  OpR X f (rI C fun i j=>.int (g i j)):=by
 intro pins s σ H x y v u Q I rx ry h;obtain⟨i,j,rfl,rfl,hc,q⟩:=h;obtain⟨t,rfl⟩:=rx;obtain⟨t',rfl⟩:=ry;exact rule i j t t' s _ _ hc ⟨.int (g i j),H,I.tok _,⟨_,rfl⟩,q⟩
theorem opI0{f:Value→Value→Sem Value}{g:Int→Int→Int}
  (rule:∀(i j:Int)(t u:Tok)(s:Shared)(Q:Value→Shared→Prop)(E:Value→Shared→Prop),Q (.int (g i j) s.toks) {s with toks:=s.toks+1}→wpAny (model X.prog X.w) X.A (f (.int i t) (.int j u)) Q E s):
  OpR X f (rI0 fun i j=>.int (g i j)):=by
 intro pins s σ H x y v u Q I rx ry h;obtain⟨i,j,rfl,rfl,q⟩:=h;obtain⟨t,rfl⟩:=rx;obtain⟨t',rfl⟩:=ry;exact rule i j t t' s _ _ ⟨.int (g i j),H,I.tok _,⟨_,rfl⟩,q⟩
theorem zQf{f:Value→Value→Sem Value}{g:Int→Int→Bool}
  (rule:∀(i j:Int)(t u:Tok)(s:Shared)(Q:Value→Shared→Prop)(E:Value→Shared→Prop),Q (.bool (g i j)) s→wpAny (model X.prog X.w) X.A (f (.int i t) (.int j u)) Q E s):
  OpR X f (rI0 fun i j=>.bl (g i j)):=by
 intro pins s σ H x y v u Q I rx ry h;obtain⟨i,j,rfl,rfl,q⟩:=h;obtain⟨t,rfl⟩:=rx;obtain⟨t',rfl⟩:=ry;exact rule i j t t' s _ _ ⟨.bl (g i j),H,I,rfl,q⟩
def zTm(i j:Int):Prop:=0<j∧j<1073741824
def zUl(i j:Int):Prop:=0≤j∧j≤1000000∧i.natAbs<2 ^ 64
def CMul(i j:Int):Prop:=(-(2 ^ 64)<i∧i<2 ^ 64)∨(-(2 ^ 64)<j∧j<2 ^ 64)
theorem CMul.ok{i j:Int}(h:CMul i j):IntMulOk i j:=by
 rcases h with⟨h1,h2⟩|⟨h1,h2⟩
 ·exact .of_left (intBits_le_64 h1 h2)
 ·exact .of_right (intBits_le_64 h1 h2)
theorem yR:OpR X (binaryOp .Add) (rI0 fun i j=>.int (i+j)):=opI0 fun _ _ _ _ _ _ _ q=>add_int q
theorem xS:OpR X (binaryOp .Sub) (rI0 fun i j=>.int (i - j)):=opI0 fun _ _ _ _ _ _ _ q=>sub_int q
theorem vR:OpR X (binaryOp .Mult) (rI CMul fun i j=>.int (i*j)):=opI fun _ _ _ _ _ _ _ hc q=>mul_int q hc.ok
theorem zW:OpR X (binaryOp .FloorDiv) (rI zTm fun i j=>.int (i / j)):=opI fun i j _ _ _ _ _ hc q=>by
 have h1:(0:Int)<j:=hc.1;have h2:j<1073741824:=hc.2;exact floordiv_int (by lia) (by rw[Int.fdiv_eq_ediv_of_nonneg i (by lia)];exact q) (.inl (PyProof.noPylong_small (by lia)))
theorem zU:OpR X (binaryOp .Mod) (rI (fun _ j=>0<j) fun i j=>.int (i % j)):=opI fun i j _ _ _ _ _ hc q=>by
 have h1:(0:Int)<j:=hc;exact mod_int' (by lia) (by rw[Int.fmod_eq_emod_of_nonneg i (by lia)];exact q)
theorem gT:OpR X (binaryOp .Pow) (rI zUl fun i j=>.int (i ^ j.toNat)):=opI fun _ _ _ _ _ _ _ hc q=>pow_int_small hc.1 hc.2.1 hc.2.2 q
theorem unI{f:Value→Sem Value}{g:Int→Int}
  (rule:∀(i:Int)(t:Tok)(s:Shared)(Q:Value→Shared→Prop)(E:Value→Shared→Prop),Q (.int (g i) s.toks) {s with toks:=s.toks+1}→wpAny (model X.prog X.w) X.A (f (.int i t)) Q E s):
  UnR X f (rU fun i=>.int (g i)):=by
 intro pins s σ H x v Q I rx h;obtain⟨i,rfl,q⟩:=h;obtain⟨t,rfl⟩:=rx;exact rule i t s _ _ ⟨.int (g i),H,I.tok _,⟨_,rfl⟩,q⟩
theorem xZ:UnR X (unaryOp .USub) (rU fun i=>.int (-i)):=unI fun _ _ _ _ _ q=>neg_int q
def zRo:V→V→Bool
 | .non, .non=>true | .non, .int _=>true | .int _, .non=>true | .non, .bl _=>true | .bl _, .non=>true | .non, .str _=>true | .str _, .non=>true
 | .int _, .int _=>true | .bl _, .bl _=>true | .str _, .str _=>true | .byt _, .byt _=>true
 | .int _, .str _=>true | .str _, .int _=>true | .bl _, .str _=>true | .str _, .bl _=>true
 | _,_=>false
def rEq:R2:=fun x y H Q=>zRo x y=true∧Q (.bl (decide (x=y))) H
def rNe:R2:=fun x y H Q=>zRo x y=true∧Q (.bl (!decide (x=y))) H
theorem zJw{i j:Int}:decide (V.int i=V.int j)=(i==j):=by
 rw[rC];simp
theorem zOc{i j:Bool}:decide (V.bl i=V.bl j)=(i==j):=by
 rw[rC];simp
theorem zJz{i j:Str}:decide (V.str i=V.str j)=(i==j):=by
 rw[rC];simp
theorem zJe{i j:Array UInt8}:decide (V.byt i=V.byt j)=(i.toList==j.toList):=by
 rw[rC];cases i;cases j;simp
theorem yQ{pins:List (Addr×Obj)}{σ:St}{H:Hp}{s:Shared}{Q:VK}{k k':Bool}(I:Inv X pins σ H s)(q:Q (.bl k) H)(e:k=k'):EP X pins σ Q (.bool k') s:=by
 subst e;exact⟨.bl k,H,I,rfl,q⟩
theorem yX:OpR X (compareOp .Eq) rEq:=by
 intro pins s σ H x y v u Q I rx ry h;obtain⟨hs,q⟩:=h
 cases x with
 | non=>
  cases rx
  cases y with
  | non=>cases ry;exact PySem.EqNone.eq_none_none (yQ I q (by simp))
  | bl j=>cases ry;exact PySem.EqNone.eq_none_bool (yQ I q (by simp))
  | int j=>obtain⟨t',rfl⟩:=ry;exact PySem.EqNone.eq_none_int (yQ I q (by simp))
  | str j=>obtain⟨t',rfl⟩:=ry;exact PySem.EqNone.eq_none_str (yQ I q (by simp))
  | _=>exact absurd (show false=true from hs) nA
 | bl i=>
  cases rx
  cases y with
  | non=>cases ry;exact PySem.EqNone.eq_bool_none (yQ I q (by simp))
  | bl j=>cases ry;exact eq_bool (yQ I q zOc)
  | str j=>obtain⟨t',rfl⟩:=ry;exact PySem.EqMixed.eq_bool_str (yQ I q (by simp))
  | _=>exact absurd (show false=true from hs) nA
 | int i=>
  obtain⟨t,rfl⟩:=rx
  cases y with
  | non=>cases ry;exact PySem.EqNone.eq_int_none (yQ I q (by simp))
  | int j=>obtain⟨t',rfl⟩:=ry;exact eq_int (yQ I q zJw)
  | str j=>obtain⟨t',rfl⟩:=ry;exact PySem.EqMixed.eq_int_str (yQ I q (by simp))
  | _=>exact absurd (show false=true from hs) nA
 | str i=>
  obtain⟨t,rfl⟩:=rx
  cases y with
  | non=>cases ry;exact PySem.EqNone.eq_str_none (yQ I q (by simp))
  | bl j=>cases ry;exact PySem.EqMixed.eq_str_bool (yQ I q (by simp))
  | int j=>obtain⟨t',rfl⟩:=ry;exact PySem.EqMixed.eq_str_int (yQ I q (by simp))
  | str j=>obtain⟨t',rfl⟩:=ry;exact eq_str (yQ I q zJz)
  | _=>exact absurd (show false=true from hs) nA
 | byt i=>
  obtain⟨t,rfl⟩:=rx
  cases y with
  | byt j=>obtain⟨t',rfl⟩:=ry;exact W.eq_bytes (yQ I q zJe)
  | _=>exact absurd (show false=true from hs) nA
 | _=>cases y<;>exact absurd (show false=true from hs) nA
theorem zBu:OpR X (compareOp .NotEq) rNe:=by
 intro pins s σ H x y v u Q I rx ry h;obtain⟨hs,q⟩:=h
 cases x with
 | non=>
  cases rx
  cases y with
  | non=>cases ry;exact PySem.EqNone.ne_none_none (yQ I q (by simp))
  | bl j=>cases ry;exact PySem.EqNone.ne_none_bool (yQ I q (by simp))
  | int j=>obtain⟨t',rfl⟩:=ry;exact PySem.EqNone.ne_none_int (yQ I q (by simp))
  | str j=>obtain⟨t',rfl⟩:=ry;exact PySem.EqNone.ne_none_str (yQ I q (by simp))
  | _=>exact absurd (show false=true from hs) nA
 | bl i=>
  cases rx
  cases y with
  | non=>cases ry;exact PySem.EqNone.ne_bool_none (yQ I q (by simp))
  | bl j=>cases ry;exact ne_bool (yQ I q (congrArg not zOc))
  | str j=>obtain⟨t',rfl⟩:=ry;exact PySem.EqMixed.ne_bool_str (yQ I q (by simp))
  | _=>exact absurd (show false=true from hs) nA
 | int i=>
  obtain⟨t,rfl⟩:=rx
  cases y with
  | non=>cases ry;exact PySem.EqNone.ne_int_none (yQ I q (by simp))
  | int j=>obtain⟨t',rfl⟩:=ry;exact ne_int (yQ I q (congrArg not zJw))
  | str j=>obtain⟨t',rfl⟩:=ry;exact PySem.EqMixed.ne_int_str (yQ I q (by simp))
  | _=>exact absurd (show false=true from hs) nA
 | str i=>
  obtain⟨t,rfl⟩:=rx
  cases y with
  | non=>cases ry;exact PySem.EqNone.ne_str_none (yQ I q (by simp))
  | bl j=>cases ry;exact PySem.EqMixed.ne_str_bool (yQ I q (by simp))
  | int j=>obtain⟨t',rfl⟩:=ry;exact PySem.EqMixed.ne_str_int (yQ I q (by simp))
  | str j=>obtain⟨t',rfl⟩:=ry;exact ne_str (yQ I q (congrArg not zJz))
  | _=>exact absurd (show false=true from hs) nA
 | byt i=>
  obtain⟨t,rfl⟩:=rx
  cases y with
  | byt j=>obtain⟨t',rfl⟩:=ry;exact W.ne_bytes (yQ I q (congrArg not zJe))
  | _=>exact absurd (show false=true from hs) nA
 | _=>cases y<;>exact absurd (show false=true from hs) nA
theorem vX:OpR X (compareOp .Lt) (rI0 fun i j=>.bl (decide (i<j))):=zQf fun _ _ _ _ _ _ _ q=>lt_int q
theorem op_le:OpR X (compareOp .LtE) (rI0 fun i j=>.bl (decide (i≤j))):=zQf fun _ _ _ _ _ _ _ q=>le_int q
theorem qU:OpR X (compareOp .Gt) (rI0 fun i j=>.bl (decide (j<i))):=zQf fun _ _ _ _ _ _ _ q=>gt_int q
theorem op_ge:OpR X (compareOp .GtE) (rI0 fun i j=>.bl (decide (j≤i))):=zQf fun _ _ _ _ _ _ _ q=>ge_int q
theorem zN(b:Expr){op:CmpOp}(h:op≠ .In:=by decide)(h2:op≠ .NotIn:=by decide):behindInMarks op b=false:=by
 have e1:(op==CmpOp.In)=false:=by cases op<;>first | rfl | exact absurd rfl h
 have e2:(op==CmpOp.NotIn)=false:=by cases op<;>first | rfl | exact absurd rfl h2
 cases b<;>simp[behindInMarks,e1,e2]
theorem yV{op:CmpOp}{r:R2}(ho:OpR X (compareOp op) r)(ha:PE X a ta)(hb:PE X b tb)(hm:behindInMarks op b=false):PE X (.Compare a [op] [b] pos) (tOp r ta tb):=by
 intro pins s σ H Q I h;exact wpAny_Compare1 (zUi ha hb I h fun v u s2 x y H2 I2 rx ry q=>ho pins s2 σ H2 x y v u Q I2 rx ry q) hm
def zJk(t:TE):TT:=fun σ H Q=>t σ H fun x H'=>∃k,x= .bl k∧Q k H'
theorem zP{op:CmpOp}{r:R2}(ho:OpR X (compareOp op) r)(ha:PE X a ta)(hb:PE X b tb)(hm:behindInMarks op b=false):PT X (.Compare a [op] [b] pos) (zJk (tOp r ta tb)):=by
 intro pins s σ H Q I h;refine wpAny_isTrue_Compare1 (thn (ha pins s σ H _ I h) fun v s1 ⟨x,H1,I1,r1,q1⟩=>thn (hb pins s1 σ H1 _ I1 q1) fun u s2 ⟨y,H2,I2,r2,q2⟩=>
  thn (ho pins s2 σ H2 x y v u _ I2 r1 r2 q2) fun c s3 ⟨z,H3,I3,r3,k,e,q3⟩=>?_) hm
 subst e;cases r3;exact rL ⟨H3,I3,q3⟩
def zPk(r r':R2)(ta tb tc:TE):TE:=fun σ H Q=>ta σ H fun x H1=>tb σ H1 fun y H2=>r x y H2 fun z H3=>∃k,z= .bl k∧
 (if k=true then tc σ H3 fun w' H4=>r' y w' H4 Q else Q (.bl false) H3)
theorem zCv:(sizeLine:Nat)<2 ^ 63:=by rw[mQ];decide
theorem wS:OpR X (binaryOp .Add) (fun x y H Q=>∃i j,x= .str i∧y= .str j∧i.length+j.length≤sizeLine∧Q (.str (i++j)) H):=by
 intro pins s σ H x y v u Q I rx ry h;obtain⟨i,j,rfl,rfl,hz,q⟩:=h;obtain⟨t,rfl⟩:=rx;obtain⟨t',rfl⟩:=ry;exact add_str (fun t' tk=>⟨.str (i++j),H,I.tok _,⟨_,rfl⟩,q⟩) hz
theorem jR{x:V}{us:List Value}(r:Vals [x] us):∃u,us= [u]∧RelV x u:=by
 cases r with
 | cons r1 r2=>cases r2;exact⟨_,rfl,r1⟩
theorem zEw{x y:V}{us:List Value}(r:Vals [x,y] us):∃u w',us= [u,w']∧RelV x u∧RelV y w':=by
 cases r with
 | cons r1 r2=>
  cases r2 with
  | cons r3 r4=>cases r4;exact⟨_,_,rfl,r1,r3⟩
theorem qA(hc:X.calm=true):wW X (.builtin "min") (fun xs H Q=>∃i j,xs= [.int i, .int j]∧Q (.int (if j<i then j else i)) H):=by
 intro pins s σ H xs us Q I r h;obtain⟨i,j,rfl,q⟩:=h;obtain⟨u,w',rfl,⟨t,rfl⟩,⟨t',rfl⟩⟩:=zEw r;refine min_two_ints (I.ok.hd hc) fun h' tk k=>⟨_,H,I.kept k, ?_,q⟩
 by_cases hj:j<i
 ·rw[mW hj,mW hj];exact⟨_,rfl⟩
 ·rw[mJ hj,mJ hj];exact⟨_,rfl⟩
theorem zDt:wW X (.type "int") (fun xs H Q=>(∃i,xs= [.int i]∧Q (.int i) H)∨∃k,xs= [.bl k]∧Q (.int (if k then 1 else 0)) H):=by
 intro pins s σ H xs us Q I r h;rcases h with⟨i,rfl,q⟩|⟨k,rfl,q⟩
 ·obtain⟨u,rfl,t,rfl⟩:=jR r
  exact call_int_int ⟨.int i,H,I,⟨_,rfl⟩,q⟩
 ·obtain⟨u,rfl,r1⟩:=jR r
  cases r1;exact call_int_bool ⟨.int (if k then 1 else 0),H,I.tok _,⟨_,rfl⟩,q⟩
theorem gZ:wW X (.type "str") (fun xs H Q=>∃i,xs= [.int i]∧i.natAbs.log2<1920∧Q (.str (toString i)) H):=by
 intro pins s σ H xs us Q I r h;obtain⟨i,rfl,hz,q⟩:=h;obtain⟨u,rfl,t,rfl⟩:=jR r;exact PySem.P.str_of_int hz ⟨.str _,H,I.tok _,⟨_,rfl⟩,q⟩
end
structure ObjM(h:Heap)(x dx C:Addr)(mA:Str→Option Value):Prop where
 obj:h.get? x=some (W.instObj C dx)
 ns:h.Ns1 dx mA
 ne:dx≠x
theorem zLr{h:Heap}{dx:Addr}{mA:Str→Option Value}(n:h.Ns1 dx mA):∃od,h.get? dx=some od∧∀name,W.lookIn name od=some (mA name):=by
 obtain⟨o,es,ep,ho,hd,hk,_,hm⟩:=n;refine⟨o,ho,fun name=>?_⟩;have e:=hm name;unfold nsFind findBy at e;rw[←Array.find?_toList] at e;unfold W.lookIn;rw[hd];dsimp only;split
 ·rename_i y q
  rw[q] at e;exact congrArg some e
 ·rename_i q
  rw[q] at e;have a:es.toList.any (·.refKey)=false:=by
   rw[List.any_eq_false];intro y hy;obtain⟨z,t,hkey⟩:=hk y (Array.mem_toList_iff.mp hy);simp[DictEntry.refKey,hkey]
  have a':¬es.toList.any (·.refKey)=true:=by rw[a];exact nA
  rw[mJ a'];exact congrArg some e
theorem ObjM.look{h:Heap}{x dx C:Addr}{mA:Str→Option Value}(I:ObjM h x dx C mA):∃od,W.InstAt h x (W.instObj C dx) C (some od)∧∀name,W.lookIn name od=some (mA name):=
 let ⟨od,ho,hl⟩:=zLr I.ns
 ⟨od,⟨I.obj,rfl,rfl,ho⟩,hl⟩
section
variable{prog:Program}{w:World}{A:Around}{E:Value→Shared→Prop}{s:Shared}{K:W.Frag}{x dx C f:Addr}{mA:Str→Option Value}{name:Str}{v:Value}
end
theorem RelO.some_of{v:V}{o:Option Value}(r:RelO (some v) o):∃u,o=some u∧RelV v u:=by
 cases o with
 | none=>exact(show False from r).elim
 | some u=>exact⟨u,rfl,r⟩
section
variable{P:Program}{w:World}{H H':Hp}{h h':Heap}{a C dx:Addr}{fs fs':List (Str×V)}
theorem zQx(hok:HOk P w H h)(e:H a=some (.ins C dx fs)):∃mA,ObjM h a dx C mA∧(∀f,RelO (fs.lookup f) (mA f))∧PySem.Within mA (fs.map (·.1))∧fs.length≤1000∧H dx=some (.own a):=by
 obtain⟨d,z,ne,ob,mA,n,r,q⟩:=(show ObjOk P w H h a (.ins C dx fs) from hok a _ e);exact⟨mA,⟨ob,n,ne⟩,r,q,z,d⟩
end
structure Cls(K:W.Frag)(C:Addr):Prop where
 pg:W.plainGet K C Str.empty=true
 hd:W.hasDictIn K C=true
 po:W.plainOver K C=true
 sa:W.findIn K (.ref C) "__setattr__" =some (some (.builtin "object.__setattr__"))
theorem Cls.get{K:W.Frag}{C:Addr}(c:Cls K C)(f:Str):W.plainGet K C f=true:=c.pg
structure Con(K:W.Frag)(C:Addr)(f:Str)(v:V)(u:Value):Prop where
 at_:W.findIn K (.ref C) f=some (some u)
 rel:RelV v u
 get:W.specialIn K u "__get__" =some none
 cp:W.copiedNames.contains f=false
structure Meth(K:W.Frag)(C:Addr)(m:Str)(f:Addr):Prop where
 at_:W.findIn K (.ref C) m=some (some (.ref f))
 fn:W.isFn K (.ref f)=true
 kp:W.keepIn K (.ref f)=true
section
variable{X:Cx}{pins:List (Addr×Obj)}{σ:St}{H:Hp}{s:Shared}{a C dx:Addr}{fs:List (Str×V)}{f:Str}{v:V}{A:Around}{E:Value→Shared→Prop}
end
section
variable{X:Cx}{o e value:Expr}{f:Str}{pos pos' tpos:Pos}{ta tv:TE}
end
section
variable{X:Cx}{pins:List (Addr×Obj)}{σ:St}{H:Hp}{s:Shared}{A:Around}{E:Value→Shared→Prop}{Q:Value→Shared→Prop}{c:Value}{b:Bool}
inductive zAl (K:W.Frag) (H:Hp):V→Value→Prop where
 | non:zAl K H .non (.type "NoneType")
 | bl (x:Bool):zAl K H (.bl x) (.type "bool")
 | int (i:Int):zAl K H (.int i) (.type "int")
 | str (x:Str):zAl K H (.str x) (.type "str")
 | flt (x:UInt64):zAl K H (.flt x) (.type "float")
 | lst {a:Addr} {xs:List V} (e:H a=some (.lst xs)):zAl K H (.ref a) (.type "list")
 | frz {a:Addr} {o:Obj} {xs:List V} (e:H a=some (.frz o (.lst xs))):zAl K H (.ref a) (.type "list")
 | tup {a:Addr} {xs:List V} (e:H a=some (.tup xs)):zAl K H (.ref a) (.type "tuple")
 | dK {a:Addr} {kvs:List (Key×V)} (e:H a=some (.dK kvs)):zAl K H (.ref a) (.type "dict")
 | dT {a:Addr} {kvs:List (List Key×V)} (e:H a=some (.dT kvs)):zAl K H (.ref a) (.type "dict")
 | ins {a C dx:Addr} {fs:List (Str×V)} (e:H a=some (.ins C dx fs)) (cl:Cls K C) (ha:W.findIn K (.ref C) "__class__" =some (some (.builtin "object.__class__")))
   (hn:W.specialIn K (.builtin "object.__class__") "__get__" =some (some (.builtin "getset_descriptor.__get__"))) (htk:W.takesIn K (.builtin "object.__class__")=some true)
   (hm:W.mroIn K C (.type "object")=some true):zAl K H (.ref a) (.ref C)
theorem zLu{x:V}{u t:Value}(I:Inv X pins σ H s)(rx:RelV x u)(ty:zAl X.K H x t)(e:W.kitOne X.K t c=some b)(h:∀tk,Q (.bool b) {s with toks:=tk}):
  wpAny (model X.prog X.w) A (call (.builtin "isinstance") [u,c]) Q E s:=by
 cases ty with
 | non=>cases (show u=Value.none from rx);exact rX W.kitx_none I.kIn mC e (fun z=>nomatch z) h
 | bl y=>cases (show u=Value.bool y from rx);exact rX W.kitx_bool I.kIn mC e (fun z=>nomatch z) h
 | int i=>obtain⟨t,q⟩:=(show∃t,u=Value.int i t from rx);cases q;exact rX W.kitx_int I.kIn mC e (fun z=>nomatch z) h
 | str y=>obtain⟨t,q⟩:=(show∃t,u=Value.str y t from rx);cases q;exact rX W.kitx_str I.kIn mC e (fun z=>nomatch z) h
 | flt y=>obtain⟨t,q⟩:=(show∃t,u=Value.float y t from rx);cases q;exact rX W.kitx_float I.kIn mC e (fun z=>nomatch z) h
 | @lst a xs ea=>
  cases (show u=Value.ref a from rx);obtain⟨_,_,n,_,h1⟩:=(show ObjOk X.prog X.w H s.heap a (.lst xs) from I.hok a _ ea);exact rX bN I.kIn ⟨_,h1,rfl⟩ e (fun z=>nomatch z) h
 | @frz a ob xs ea=>
  cases (show u=Value.ref a from rx);obtain⟨_,_,_,n,_,h1⟩:=(show ObjOk X.prog X.w H s.heap a (.frz ob (.lst xs)) from I.hok a _ ea);exact rX bN I.kIn ⟨_,h1,rfl⟩ e (fun z=>nomatch z) h
 | @tup a xs ea=>
  cases (show u=Value.ref a from rx);obtain⟨_,_,_,p⟩:=(show ObjOk X.prog X.w H s.heap a (.tup xs) from I.hok a _ ea);obtain⟨o,h1,h2,_⟩:=p;exact rX W.kitx_tuple I.kIn ⟨o,h1,h2⟩ e (fun z=>nomatch z) h
 | @dK a kvs ea=>
  cases (show u=Value.ref a from rx);obtain⟨_,_,vs,_,p⟩:=(show ObjOk X.prog X.w H s.heap a (.dK kvs) from I.hok a _ ea);obtain⟨o,es,ep,h1,h2,_⟩:=p;exact rX aL I.kIn ⟨o,h1,h2.1⟩ e (fun z=>nomatch z) h
 | @dT a kvs ea=>
  cases (show u=Value.ref a from rx);obtain⟨_,_,xs,_,o,es,ep,h1,h2,_⟩:=(show ObjOk X.prog X.w H s.heap a (.dT kvs) from I.hok a _ ea);exact rX aL I.kIn ⟨o,h1,h2.1⟩ e (fun z=>nomatch z) h
 | @ins a C dx fs ea cl ha hn htk hm=>
  cases (show u=Value.ref a from rx);obtain⟨mA,O,_⟩:=zQx I.hok ea;obtain⟨od,J,_⟩:=O.look;exact rX (W.kitx_own (cl.get _) cl.hd ha hn htk hm) I.kIn J e (fun z=>nomatch z) h
end
structure Room(k:Nat)(A:Around):Prop where
 hd:A.handled=none
 dp:A.depth+3*k+5<recursionLimit
 un:A.units+16*k+200<cLine
theorem Room.mono{j k:Nat}{A:Around}(r:Room k A)(h:j≤k):Room j A:=⟨r.hd,by have:=r.dp;lia,by have:=r.un;lia⟩
theorem Room.deeper{k:Nat}{A:Around}(r:Room (k+1) A)(env:Env):Room k (A.deeper env):=
 ⟨r.hd,by have:=r.dp;show A.depth+1+3*k+5<_;lia,by have:=r.un;show A.units+3+16*k+200<_;lia⟩
theorem Room.depth{k:Nat}{A:Around}(r:Room k A):A.depth<recursionLimit:=by have:=r.dp;lia
theorem Room.units{k:Nat}{A:Around}(r:Room k A):A.units+64<cLine:=by have:=r.un;lia
theorem Room.units0{k:Nat}{A:Around}(r:Room k A):A.units<cLine:=by have:=r.un;lia
def zCe:TA:=fun _ H Q=>Q [] H
def jO(ta:TE)(tr:TA):TA:=fun σ H Q=>ta σ H fun x H1=>tr σ H1 fun xs H2=>Q (x::xs) H2
section
variable{X:Cx}{e:Expr}{es:List Expr}{te:TE}{t:TA}{pos:Pos}
theorem zD:PA X [] zCe:=fun _ _ _ _ H Q I h=>Calls.spliced_nil ⟨[],H,I, .nil,h⟩
theorem zA(ha:PE X e te)(hr:PA X es t)(hs:starEach (e::es) X.env=(false,eval e X.env)::starEach es X.env:=by rfl):PA X (e::es) (jO te t):=by
 intro pos pins s σ H Q I h;rw[hs];show wpAny _ _ (spliced ((false,eval e X.env)::backTo pos (starEach es X.env))) _ _ s;refine Calls.spliced_cons (thn (ha pins s σ H _ I h) fun u s1 ⟨x,H1,I1,r1,q1⟩=>?_);exact thn (hr pos pins s1 σ H1 _ I1 q1) fun us s2 ⟨xs,H2,I2,r2,q2⟩=>⟨x::xs,H2,I2, .cons r1 r2,q2⟩
def zSt(t:TA):TE:=fun σ H Q=>t σ H fun xs H1=>xs.length≤sizeLine∧∀p,H1 p=none→Q (.ref p) (upd H1 p (.tup xs))
def zQi(t:TA):TE:=fun σ H Q=>t σ H fun xs H1=>xs.length≤sizeLine∧∀p,H1 p=none→Q (.ref p) (upd H1 p (.lst xs))
theorem wM{x1}(h:PA X es t):PE X (.Tuple es x1 pos) (zSt t):=by
 intro pins s σ H Q I hq;refine wpAny_Tuple_spliced (thn (h pos pins s σ H _ I hq) fun us s1 ⟨xs,H1,I1,r,z,q⟩=>⟨by rw[←r.length];exact z, ?_⟩);have hf:H1 s1.heap.objs.size=none:=I1.hok.fresh (mE _);refine⟨.ref s1.heap.objs.size,upd H1 s1.heap.objs.size (.tup xs),I1.laid (t':=s1.toks) (fun b u e=>mS _ e) (mE _) ?_,rfl,q _ hf⟩;exact⟨z,us,r,⟨_,nI _ rfl,rfl,_,rfl⟩⟩
theorem zX(h:PA X es t):PE X (.List es pos) (zQi t):=by
 intro pins s σ H Q I hq;refine wpAny_List_spliced (thn (h pos pins s σ H _ I hq) fun us s1 ⟨xs,H1,I1,r,z,q⟩=>⟨by rw[←r.length];exact z, ?_⟩);have hf:H1 s1.heap.objs.size=none:=I1.hok.fresh (mE _);refine⟨.ref s1.heap.objs.size,upd H1 s1.heap.objs.size (.lst xs),I1.laid (t':=s1.toks) (fun b u e=>mS _ e) (mE _) ?_,rfl,q _ hf⟩;exact⟨z,us,0,r,nI _ rfl⟩
end
abbrev Sp:=List V→Hp→VK→XK→Prop
abbrev CXT:=List Env→Hp→Shared→XK→Value→Shared→Prop
structure zPi(P:Program)(w:World)(K:W.Frag)(mg:Str→Option Value)(base:Heap)(A:Around)(outer:List Env)(s:Shared)(H:Hp):Prop where
 frames:A.frames=some outer
 mod:Mod K mg base
 bs:∀b o,base.get? b=some o→s.heap.get? b=some o∧H b=none
 bsz:base.objs.size≤s.heap.objs.size
 funs:s.heap.FunFrames base outer
 frf:∀b∈frs outer,H b=none
 hok:HOk P w H s.heap
 bare:AllBare s.gens
def CE(outer:List Env)(P:Program)(w:World)(H:Hp)(s:Shared)(Q:VK)(u:Value)(s':Shared):Prop:=
 ∃v H',s'.os=s.os∧AllBare s'.gens∧Un (frs outer) [] H H' s.heap s'.heap∧HOk P w H' s'.heap∧RelV v u∧Q v H'
def CR(CX:CXT)(outer:List Env)(P:Program)(w:World)(H:Hp)(s:Shared)(Q:VK)(E:XK)(r:Result)(s':Shared):Prop:=
 match r with
 | .ok (.ret u)=>CE outer P w H s Q u s'
 | .ok _=>False
 | .error e=>CX outer H s E e s'
structure FnOk(P:Program)(w:World)(K:W.Frag)(mg:Str→Option Value)(base:Heap)(CX:CXT)(k:Nat)(f:Addr)(fd:FuncData)(ps:List Str)(sp:Sp):Prop where
 len:∀vs H Q E,sp vs H Q E→vs.length=ps.length
 run:∀(A:Around)(outer:List Env)(s:Shared)(H:Hp)(args:Args)(us:List Value)(vs:List V)(Q:VK)(E:XK),Room k A→zPi P w K mg base A outer s H→BindsTo s fd args (ps.zip us)→Vals vs us→sp vs H Q E→
  codeAny (model P w) A (.call (.ref f) args) (CR CX outer P w H s Q E) s
theorem FnOk.mono{P:Program}{w:World}{K:W.Frag}{mg:Str→Option Value}{base:Heap}{CX:CXT}{j k:Nat}{f:Addr}{fd:FuncData}{ps:List Str}{sp:Sp}(F:FnOk P w K mg base CX j f fd ps sp)(h:j≤k):
  FnOk P w K mg base CX k f fd ps sp:=⟨F.len,fun A outer s H args us vs Q E hr=>F.run A outer s H args us vs Q E (hr.mono h)⟩
section
variable{X:Cx}{pins:List (Addr×Obj)}{σ:St}{H:Hp}{s s':Shared}
theorem Inv.env0(I:Inv X pins σ H s):zPi X.prog X.w X.K X.mg X.base X.A X.stack s H:=
 ⟨I.ok.frames,I.ok.mod,I.bs,mY I.ok.bsz I.sz,I.stack,I.stkFree,I.hok,I.bare⟩
theorem Inv.after{Q:VK}{u:Value}(I:Inv X pins σ H s)(h:CE X.stack X.prog X.w H s Q u s'):EP X pins σ Q u s':=by
 obtain⟨v,H',os,bare,un,hok,r,q⟩:=h;obtain⟨hh,g,d,t,os'⟩:=s';obtain rfl:os'=s.os:=os;exact⟨v,H',I.call (h':=hh) (g':=g) (d':=d) (t':=t) (ch:=[]) un hok bare (fun b z=>absurd z (by simp)),r,q⟩
end
def uH(sp:Sp)(dvs:List V)(E:XK)(t:TA):TE:=fun σ H Q=>t σ H fun vs H1=>sp (vs++dvs) H1 Q E
def Binds(K:W.Frag)(fd:FuncData)(ps:List Str)(ds:List Value):Prop:=
 ∀(s:Shared)(us:List Value),K.In s.heap→(us++ds).length=ps.length→BindsTo s fd ⟨us,[]⟩ (ps.zip (us++ds))
theorem Binds.all{K:W.Frag}{fd:FuncData}{ps:List Str}(h:∀us:List Value,us.length=ps.length→bindArgs fd ⟨us,[]⟩=pure (ps.zip us)):Binds K fd ps []:=fun s us _ hl=>by
 rw[rJ] at hl⊢;exact .of_eq (h us hl)
def zFn(CX:CXT)(X:Cx)(E:XK):Prop:=∀(pins:List (Addr×Obj))(σ:St)(H:Hp)(s:Shared)(e:Value)(s':Shared),Inv X pins σ H s→CX X.stack H s E e s'→X.xe e s'
section
variable{X:Cx}{CX:CXT}{k:Nat}{f C:Addr}{fd:FuncData}{ps:List Str}{sp:Sp}{dvs:List V}{ds:List Value}{E:XK}{x m:Str}{p pos apos:Pos}{e o:Expr}{es:List Expr}{ta:TE}{t:TA}
theorem zNz{pins:List (Addr×Obj)}{σ:St}{H:Hp}{s:Shared}{Q:VK}{us:List Value}{vs:List V}(F:FnOk X.prog X.w X.K X.mg X.base CX k f fd ps sp)(hr:Room k X.A)(hb:Binds X.K fd ps ds)(hd:Vals dvs ds)(hx:zFn CX X E)
  (I:Inv X pins σ H s) (r:Vals vs us) (h:sp (vs++dvs) H Q E):wpAny (model X.prog X.w) X.A (call (.ref f) us) (EP X pins σ Q) X.xe s:=by
 have r2:Vals (vs++dvs) (us++ds):=r.append hd;have hl:(us++ds).length=ps.length:=by rw[←r2.length];exact F.len _ _ _ _ h
 refine wpAny_call (tZ (F.run X.A X.stack s H ⟨us,[]⟩ (us++ds) (vs++dvs) Q E hr I.env0 (hb s us I.kIn hl) r2 h) fun r s' hq=>?_)
 cases r with
 | error e=>exact hx pins σ H s e s' I hq
 | ok fl=>
  cases fl with
  | ret u=>exact I.after hq
  | next=>exact False.elim hq
  | brk=>exact False.elim hq
  | cont=>exact False.elim hq
theorem zQz(F:FnOk X.prog X.w X.K X.mg X.base CX k f fd ps sp)(hr:Room k X.A)(hg:Gl X x)(hm:X.mg x=some (.ref f))(hk:W.keepIn X.K (.ref f)=true)(hb:Binds X.K fd ps ds)(hd:Vals dvs ds)(hx:zFn CX X E)
  (ha:PA X (e::es) t) (hdb:(x==("__debug__" :Str))=false:=by decide) (he:starEach (e::es) X.env=(false,eval e X.env)::starEach es X.env:=by rfl) (hpl:(backTo pos (starEach es X.env)).any (·.1)=false:=by rfl):
  PE X (.Call (.Name x p) (e::es) [] pos) (uH sp dvs E t):=by
 intro pins s σ H Q I h;refine sJ (zKg I hg hm ?_ hdb);refine W.callWith_K (h₀:=X.base) I.ok.mod.kin hk (thn (ha pos pins s σ H _ I h) fun us s1 ⟨vs,H1,I1,r,q⟩=>⟨I1.kIn, ?_⟩) he hpl;exact zNz F hr hb hd hx I1 r q
theorem zNu(F:FnOk X.prog X.w X.K X.mg X.base CX k f fd ps sp)(hr:Room k X.A)(hg:Gl X x)(hm:X.mg x=some (.ref f))(hk:W.keepIn X.K (.ref f)=true)(hb:Binds X.K fd ps ds)(hd:Vals dvs ds)(hx:zFn CX X E)
  (hdb:(x==("__debug__" :Str))=false:=by decide):PE X (.Call (.Name x p) [] [] pos) (uH sp dvs E zCe):=by
 intro pins s σ H Q I h;refine sJ (zKg I hg hm ?_ hdb);exact W.callWith_K0 I.kIn hk (zNz (us:=[]) F hr hb hd hx I .nil h)
structure Mk(K:W.Frag)(C f:Addr):Prop where
 makes:W.makesIn K C=true
 init:W.findIn K (.ref C) "__init__" =some (some (.ref f))
 fn:W.isFn K (.ref f)=true
 kp:W.keepIn K (.ref C)=true
end
section
variable{X:Cx}{CX:CXT}{k:Nat}{f C:Addr}{fd:FuncData}{ps ks:List Str}{sp:Sp}{E:XK}{x m:Str}{p pos apos kpos:Pos}{e o:Expr}{es:List Expr}{kws:List Keyword}{te ta:TE}{t tk:TA}{nm:Option Str}
structure KBinds(K:W.Frag)(fd:FuncData)(ps ks:List Str)(g:List Value→List Value→List Value)(gV:List V→List V→List V):Prop where
 to:∀(s:Shared)(us ws:List Value),K.In s.heap→(g us ws).length=ps.length→BindsTo s fd ⟨us,ks.zip ws⟩ (ps.zip (g us ws))
 rel:∀{vs:List V}{us:List Value}{zs:List V}{ws:List Value},Vals vs us→Vals zs ws→Vals (gV vs zs) (g us ws)
variable{g:List Value→List Value→List Value}{gV:List V→List V→List V}
end
structure yE(N P:List Str)(sc:Scope):Prop where
 kind:sc.kind= .function
 co:sc.isCoroutine=false
 gen:sc.isGenerator=false
 nd:N.Nodup
 pre:N.take P.length=P
 par:∀x∈P,sc.names.lookup x=some .local∨sc.names.lookup x=some .cell
 nofree:∀y∈sc.names,y.2≠ .free
theorem zDz{kindOf:Str→Option NameKind}{x:Str}:∀{binds:List (Str×Value)}{m:Str→Option Value},(∀v,(x,v)∉binds)→bindL kindOf binds m x=m x
 | [],_,_=>rfl
 |(n,v)::r,m,h=>by
  unfold bindL;rw[zDz fun w hw=>h w (mI _ hw)];split
  ·have:x≠n:=by rintro rfl;exact h v mK
   simp[this]
  ·rfl
theorem zEq{kindOf:Str→Option NameKind}{x:Str}:∀{binds:List (Str×Value)}{m:Str→Option Value},(∀v,(x,v)∉binds)→bindC kindOf binds m x=m x
 | [],_,_=>rfl
 |(n,v)::r,m,h=>by
  unfold bindC;rw[zEq fun w hw=>h w (mI _ hw)];split
  ·rfl
  ·have:x≠n:=by rintro rfl;exact h v mK
   simp[this]
theorem zDy{kindOf:Str→Option NameKind}{x:Str}{v:Value}:∀{P:List Str}{vs:List Value}{i:Nat}{m:Str→Option Value},P.Nodup→P[i]? =some x→vs[i]? =some v→kindOf x=some .local→
  bindL kindOf (P.zip vs) m x=some v
 | [],_,_,_,_,h,_,_=>by simp at h
 | _::_,[],_,_,_,_,h,_=>by simp at h
 | p::P,w::vs,0,m,nd,h1,h2,hk=>by
  simp at h1 h2;subst h1;subst h2;show bindL kindOf ((p,w)::P.zip vs) m p=_;unfold bindL;rw[zDz fun v hv=>(pA.mp nd).1 (bJ hv).1,mW hk];simp
 | p::P,w::vs,i+1,m,nd,h1,h2,hk=>by
  show bindL kindOf ((p,w)::P.zip vs) m x=_;unfold bindL;exact zDy (i:=i) (pA.mp nd).2 (by simpa using h1) (by simpa using h2) hk
theorem zEn{kindOf:Str→Option NameKind}{x:Str}{v:Value}:∀{P:List Str}{vs:List Value}{i:Nat}{m:Str→Option Value},P.Nodup→P[i]? =some x→vs[i]? =some v→kindOf x≠some .local→
  bindC kindOf (P.zip vs) m x=some v
 | [],_,_,_,_,h,_,_=>by simp at h
 | _::_,[],_,_,_,_,h,_=>by simp at h
 | p::P,w::vs,0,m,nd,h1,h2,hk=>by
  simp at h1 h2;subst h1;subst h2;show bindC kindOf ((p,w)::P.zip vs) m p=_;unfold bindC;rw[zEq fun v hv=>(pA.mp nd).1 (bJ hv).1,mJ hk];simp
 | p::P,w::vs,i+1,m,nd,h1,h2,hk=>by
  show bindC kindOf ((p,w)::P.zip vs) m x=_;unfold bindC;exact zEn (i:=i) (pA.mp nd).2 (by simpa using h1) (by simpa using h2) hk
def uS(N:List Str)(vs:List V):St:=vs.map some++List.replicate (N.length - vs.length) none
def zIf(CX:CXT)(P:Program)(w:World)(K:W.Frag)(mg:Str→Option Value)(base:Heap)(N:List Str)(qual:Str)(scope:Scope)(f:Addr)(cd:Value)(A:Around)(outer:List Env)(s:Shared)(H:Hp)(E:XK):Cx where
 prog:=P
 w:=w
 K:=K
 mg:=mg
 base:=base
 A:=A.deeper (envOfC qual scope s.heap.objs.size f cd)
 N:=N
 s₀:=s
 H₀:=H
 env:=envOfC qual scope s.heap.objs.size f cd
 outer:=outer
 stack:=envOfC qual scope s.heap.objs.size f cd::outer
 ex:=[]
 calm:=true
 fn:=fun _=>true
 pn:=[]
 xe:=fun e s'=>wpAny (model P w) (A.deeper (envOfC qual scope s.heap.objs.size f cd)) (leaving (envOfC qual scope s.heap.objs.size f cd) e) (fun _ s''=>CX outer H s E e s'') (fun e' s''=>CX outer H s E e' s'') s'
theorem zHi{sc:Scope}{n:Nat}{x:Str}(h:sc.names.lookup x=some .cell):∃c,(cellsFrom n sc.names []).lookup x=some c:=by
 have q:=W.cellsFrom_some sc.names n [] (.inl h);exact Option.isSome_iff_exists.mp q
theorem zLb{CX:CXT}{P:Program}{w:World}{K:W.Frag}{mg:Str→Option Value}{base:Heap}{N ps:List Str}{qual:Str}{scope:Scope}{f:Addr}{cd:Value}{A:Around}{outer:List Env}{s s1:Shared}{H:Hp}{E:XK}{us:List Value}{vs:List V}
  (S:yE N ps scope) (hd:A.handled=none) (e0:zPi P w K mg base A outer s H) (hl:vs.length=ps.length) (r:Vals vs us)
  (x:InCallC s s.heap.objs.size (bindL (envOfC qual scope s.heap.objs.size f cd).kindOf (ps.zip us) fun _=>none) (cellsFrom (s.heap.objs.size+1) scope.names []) (bindC (envOfC qual scope s.heap.objs.size f cd).kindOf (ps.zip us) fun _=>none) s1):
  Inv (zIf CX P w K mg base N qual scope f cd A outer s H E) [] (uS N vs) H s1:=by
 have hpl:ps.length≤N.length:=by have:=congrArg List.length S.pre;rw[sF] at this;lia
 obtain⟨h1,tk,rfl,hk⟩:=x.done;have noA:∀b:Addr,b∉(zIf CX P w K mg base N qual scope f cd A outer s H E).ex:=fun b z=>absurd (show b∈([]:List Addr) from z) (by simp);refine⟨⟨e0.mod,S.kind,rfl,rfl,mE _,fun y z c h1 h2=>?_,fun y hy=>?_,fun y c _ h=>?_,fun _=>hd,Around.frames_deeper e0.frames, .inr ⟨rfl,rfl⟩,fun b z=>absurd z (noA b),e0.bs,e0.bsz,fun b _ _=>noA b,fun b z=>absurd z (noA b),e0.funs,e0.frf⟩,
  rfl,e0.bare,Un.kept hk,⟨_,x.toInCall.ns,fun i y v h1 h2 h3=>?_⟩,fun y c h=>⟨_,x.cell y c h⟩,e0.hok.fresh (mE _),fun y c h=>?_,fun p hp=>absurd (show p∈([]:List (Addr×Obj)) from hp) (by simp),e0.hok.kept hk, ?_⟩
 ·exact name_of_addr x.apart (pV h1) (pV h2)
 ·have hy:scope.names.lookup y=some .cell∨scope.names.lookup y=some .free:=hy
  rcases hy with hy | hy
  ·exact zHi hy
  ·exact absurd rfl (S.nofree _ (pV hy))
 ·exact sO (x.above y c (pV h))
 ·have hi:i<vs.length:=by
   unfold uS at h2
   by_cases hi:i<vs.length
   ·exact hi
   ·rw[nR (by simpa using hi)] at h2
    rw[List.getElem?_replicate] at h2;split at h2<;>cases h2
  have ha:vs[i]? =some v:=by
   unfold uS at h2;rw[nX (by simpa using hi),mU] at h2
   cases e:vs[i]? with
   | none=>rw[e] at h2;cases h2
   | some a=>rw[e] at h2;cases h2;rfl
  obtain⟨u,hu,rv⟩:=r.get ha;have hp:ps[i]? =some y:=by
   rw[←S.pre,List.getElem?_take_of_lt (by lia)];exact h1
  have ndP:ps.Nodup:=by rw[←S.pre];exact S.nd.sublist (List.take_sublist _ _)
  refine⟨u,rv, ?_⟩;rcases S.par y (mF hp) with k | k
  ·exact .inl ⟨k,zDy ndP hp hu k⟩
  ·obtain⟨c,e⟩:=zHi (n:=s.heap.objs.size+1) k
   refine .inr ⟨.inl k,c,e, ?_⟩;have q:=x.cell y c e;rw[zEn ndP hp hu (by show scope.names.lookup y≠_;rw[k];decide)] at q;exact q
 ·exact e0.hok.fresh (sO (x.above y c (pV h)))
 ·unfold uS
  show _=N.length;rw[mO,mB,rH]
  lia
theorem fn_of{CX:CXT}{P:Program}{w:World}{K:W.Frag}{mg:Str→Option Value}{base:Heap}{k:Nat}{f:Addr}{name qual:Str}{params:Arguments}{body:List Stmt}{scope:Scope}{dV kV doc pm cdv ct oc:Value}{an od:Option Addr}
  {osl:Array (Option Value)} {N ps:List Str} {sp:Sp} (lk:K.lookup f=some ⟨oc,od, .func (W.fnOf name qual params body scope dV kV doc pm an cdv ct),osl⟩) (hcd:W.codeIn K cdv qual=true) (S:yE N ps scope)
  (len:∀vs H Q E,sp vs H Q E→vs.length=ps.length)
  (hbody:∀(A:Around)(outer:List Env)(s:Shared)(H:Hp)(vs:List V)(Q:VK)(E:XK),Room k (A.deeper (envOfC qual scope s.heap.objs.size f cdv))→sp vs H Q E→
   ∃t,PSs (zIf CX P w K mg base N qual scope f cdv A outer s H E) body t∧t {nx:=fun _ H'=>Q .non H',rt:=Q} (uS N vs) H):
  FnOk P w K mg base CX (k+1) f (W.fnOf name qual params body scope dV kV doc pm an cdv ct) ps sp:=by
 refine⟨len,fun A outer s H args us vs Q E hr e0 hb r hsp=>?_⟩;have hl:=len _ _ _ _ hsp;have KX:K.In s.heap:=e0.mod.kin.keeps fun b o e=>(e0.bs b o e).1;have lim:s.heap.NoLimit:=e0.mod.nolimit.keeps fun b o e=>(e0.bs b o e).1;have hkind:∀y∈ps.zip us,scope.names.lookup y.1=some .local∨(scope.names.lookup y.1=some .cell∧((cellsFrom (s.heap.objs.size+1) scope.names []).lookup y.1).isSome=true):=fun⟨n,v⟩ hy=>by
  rcases S.par n (bJ hy).1 with q | q
  ·exact .inl q
  ·exact .inr ⟨q,W.cellsFrom_some _ _ _ (.inl q)⟩
 refine codeAny_call_function hr.depth (KX _ _ lk) rfl S.co S.gen rfl (W.codeRec_of KX hcd) (hb _ _ _ _ ?_);refine wpAny_newFunctionEnv_cells S.kind hkind fun env he s1 x=>?_;subst he;refine⟨lim.keeps x.toInCall.keep,codeAny_func ?_⟩;obtain⟨t,ht,hq⟩:=hbody A outer s H vs Q E (hr.deeper _) hsp;have I:Inv (zIf CX P w K mg base N qual scope f cdv A outer s H E) [] (uS N vs) H s1:=zLb S hr.hd e0 hl r x;refine rF (ht [] s1 (uS N vs) H _ I hq) (fun fl s' hs=>?_) fun e s' hs=>hs;have fin:∀{σ':St}{H':Hp}{v:V}{u:Value},Inv (zIf CX P w K mg base N qual scope f cdv A outer s H E) [] σ' H' s'→RelV v u→Q v H'→CE outer P w H s Q u s':=
  fun {σ' H' v u} J rv q=>⟨v,H',J.os,J.bare,J.base,J.hok,rv,q⟩
 cases fl with
 | ret u=>
  obtain⟨v,σ',H',J,rv,q⟩:=hs;exact fin J rv q
 | next=>
  obtain⟨σ',H',J,q⟩:=hs;exact fin (v:=V.non) (u:=Value.none) J rfl q
 | brk=>
  obtain⟨_,_,_,q⟩:=hs;exact False.elim q
 | cont=>
  obtain⟨_,_,_,q⟩:=hs;exact False.elim q
section
variable{X:Cx}{x:Str}{p pos:Pos}{e:Expr}{es:List Expr}{t:TA}{id T:String}{r:List V→Hp→VK→Prop}
def tCB(r:List V→Hp→VK→Prop)(t:TA):TE:=fun σ H Q=>t σ H fun vs H1=>r vs H1 Q
theorem zM(hc:wW X (.builtin id) r)(hg:Gl X x)(hm:X.mg x=none)(hv:bootBuiltins x=some (.builtin id))(ha:PA X (e::es) t)(hn:x≠ "__name__":=by decide)(hdb:(x==("__debug__" :Str))=false:=by decide)
  (he:starEach (e::es) X.env=(false,eval e X.env)::starEach es X.env:=by rfl) (hpl:(backTo pos (starEach es X.env)).any (·.1)=false:=by rfl):PE X (.Call (.Name x p) (e::es) [] pos) (tCB r t):=by
 intro pins s σ H Q I h;refine sJ (jG I hg hm hv ?_ hn hdb);exact PyProof.Rows.callWith_builtin1 (thn (ha pos pins s σ H _ I h) fun us s1 ⟨vs,H1,I1,r1,q1⟩=>hc pins s1 σ H1 vs us Q I1 r1 q1) he hpl
theorem yM(hc:wW X (.type T) r)(hg:Gl X x)(hm:X.mg x=none)(hv:bootBuiltins x=some (.type T))(ha:PA X (e::es) t)(hn:x≠ "__name__":=by decide)(hdb:(x==("__debug__" :Str))=false:=by decide)
  (he:starEach (e::es) X.env=(false,eval e X.env)::starEach es X.env:=by rfl) (hpl:(backTo pos (starEach es X.env)).any (·.1)=false:=by rfl):PE X (.Call (.Name x p) (e::es) [] pos) (tCB r t):=by
 intro pins s σ H Q I h;refine sJ (jG I hg hm hv ?_ hn hdb);exact pP (thn (ha pos pins s σ H _ I h) fun us s1 ⟨vs,H1,I1,r1,q1⟩=>hc pins s1 σ H1 vs us Q I1 r1 q1) he hpl
end
end L2
namespace HT
open PySem PyProof.Rows
section
open PySem.SeqAt
open PySem.AutoSeq1 (wpAny_loadPart')
open PySem.MeetsSeq PySem.MeetsSeq2 PySem.MeetsSeq3
end
section
variable{prog:Program}{w:World}{A:Around}{E:Value→Shared→Prop}{s:Shared}
def sIx(n d:Nat):Option Int→Nat
 | none=>d
 | some v=>if v<0 then(v+(n:Int)).toNat else min v.toNat n
theorem sIx_nat(n d k:Nat):sIx n d (some (k:Int))=min k n:=by
 show(if(k:Int)<0 then((k:Int)+(n:Int)).toNat else min (k:Int).toNat n)=min k n;rw[if_neg (by lia),Int.toNat_natCast]
end
end HT
namespace L2
open PySem PySem.Spec PyProof.Rows
abbrev TO:=St→Hp→(Option Int→Hp→Prop)→Prop
def PO(X:Cx)(e:Option Expr)(t:TO):Prop:=
 ∀(pins:List (Addr×Obj))(s:Shared)(σ:St)(H:Hp)(Q:Option Int→Hp→Prop),Inv X pins σ H s→t σ H Q→
  wpAny (model X.prog X.w) X.A (evalPart e X.env) (fun u s'=>∃o H',Inv X pins σ H' s'∧IsPart u o∧Q o H') X.xe s
def zBn:TO:=fun _ H Q=>Q none H
def zKi(t:TE):TO:=fun σ H Q=>t σ H fun x H1=>∃i,x= .int i∧Q (some i) H1
theorem zIm{ns:List Int}:∀{us:List Value},Vals (ns.map V.int) us→IntsAre us ns:=by
 induction ns with
 | nil=>intro us r;rw[pK] at r;cases r;exact .nil
 | cons n ns ih=>
  intro us r;rw[mN] at r
  cases r with
  | cons r1 r2=>
   obtain⟨t,e⟩:=r1;subst e;exact .cons n t (ih r2)
section
variable{X:Cx}{e:Expr}{te:TE}{lo hi:Option Expr}{tl th:TO}{pos p2:Pos}
theorem wD:PO X none zBn:=by
 intro pins s σ H Q I h;rw[evalPart_none];exact mZ ⟨none,H,I, .none,h⟩
theorem xG(h:PE X e te):PO X (some e) (zKi te):=by
 intro pins s σ H Q I hw;rw[evalPart_some];refine thn (h pins s σ H _ I hw) fun u s1 ⟨x,H1,I1,r1,q1⟩=>?_;obtain⟨i,rfl,q⟩:=q1;obtain⟨t,rfl⟩:=r1;exact⟨some i,H1,I1, .int i t,q⟩
def SlR(X:Cx)(r:V→Option Int→Option Int→Hp→VK→Prop):Prop:=
 ∀(pins:List (Addr×Obj))(s:Shared)(σ:St)(H:Hp)(x:V)(v vl vu:Value)(lo hi:Option Int)(sl:Addr)(Q:VK),Inv X pins σ H s→RelV x v→s.heap.IsSliceOf sl vl vu .none→IsPart vl lo→IsPart vu hi→r x lo hi H Q→
  ∃T id,typeLookup (.type T) "__getitem__" =pure (some (.builtin id))∧s.TypeIs v T∧wpAny (model X.prog X.w) X.A (getItem v (.ref sl)) (EP X pins σ Q) X.xe s
def tSl(r:V→Option Int→Option Int→Hp→VK→Prop)(te:TE)(tl th:TO):TE:=fun σ H Q=>te σ H fun x H1=>tl σ H1 fun l H2=>th σ H2 fun u H3=>r x l u H3 Q
theorem xR{r:V→Option Int→Option Int→Hp→VK→Prop}(hr:SlR X r)(he:PE X e te)(hl:PO X lo tl)(hu:PO X hi th):PE X (.Subscript e (.Slice lo hi none p2) pos) (tSl r te tl th):=by
 intro pins s σ H Q I h;refine Subscript_ (thn (he pins s σ H _ I h) fun v s1 ⟨x,H1,I1,r1,q1⟩=>?_);refine wpAny_Slice (thn (hl pins s1 σ H1 _ I1 q1) fun vl s2 ⟨l,H2,I2,pl,q2⟩=>thn (hu pins s2 σ H2 _ I2 q2) fun vu s3 ⟨u,H3,I3,pu,q3⟩=>?_);rw[evalPart_none];refine mZ ?_;have I4:Inv X pins σ H3 {s3 with heap:=s3.heap.push {cls:=.type "slice",data:=.fields #[vl,vu, .none]}}:=I3.kept (t':=s3.toks) fun b ob q=>mS _ q;obtain⟨T,id,hT,ht,hg⟩:=hr pins {s3 with heap:=s3.heap.push {cls:=.type "slice",data:=.fields #[vl,vu, .none]}} σ H3 x v vl vu l u s3.heap.objs.size Q I4 r1 (Heap.IsSliceOf.new ..) pl pu q3;show wpAny (model X.prog X.w) X.A (subscriptTail e (.Slice lo hi none p2) v (.ref s3.heap.objs.size)) (EP X pins σ Q) X.xe {s3 with heap:=s3.heap.push {cls:=.type "slice",data:=.fields #[vl,vu, .none]}};exact tail_any (ops:=[.ref s3.heap.objs.size,v]) ht hT hg (by with_unfolding_all rfl)
def zBe(xs:List V)(lo hi:Option Int):List V:=(xs.drop (HT.sIx xs.length 0 lo)).take (HT.sIx xs.length xs.length hi - HT.sIx xs.length 0 lo)
theorem zGu(xs:List V)(lo hi:Option Int):(zBe xs lo hi).length≤xs.length:=by
 unfold zBe;rw[sF,nU]
 lia
end
def ixN(n:Nat)(i:Int):Option Nat:=if 0≤i then(if i<n then some i.toNat else none) else if -(n:Int)≤i then some (i+n).toNat else none
def atI{α:Type}(xs:List α)(i:Int):Option α:=(ixN xs.length i).bind fun j=>xs[j]?
theorem zFm{n:Nat}{i:Int}{j:Nat}(h:ixN n i=some j):seqIndex? i n=some j∧j<n∧-(n:Int)≤i∧i<n:=by
 unfold ixN at h
 by_cases h0:0≤i
 ·rw[mW h0] at h
  by_cases h1:i<n
  ·rw[mW h1] at h
   have e:i.toNat=j:=mX h;exact⟨by rw[seqIndex_of h0 h1,e],by lia,by lia,h1⟩
  ·rw[mJ h1] at h;cases h
 ·rw[mJ h0] at h
  by_cases h1: -(n:Int)≤i
  ·rw[mW h1] at h
   have e:(i+n).toNat=j:=mX h;exact⟨by rw[seqIndex_neg (by lia) h1,e],by lia,h1,by lia⟩
  ·rw[mJ h1] at h;cases h
theorem zFr{α:Type}{xs:List α}{i:Int}{v:α}(h:atI xs i=some v):∃j,seqIndex? i xs.length=some j∧xs[j]? =some v∧j<xs.length∧-(xs.length:Int)≤i∧i<xs.length:=by
 unfold atI at h
 cases e:ixN xs.length i with
 | none=>rw[e] at h;cases h
 | some j=>
  rw[e] at h;obtain⟨h1,h2,h3,h4⟩:=zFm e;exact⟨j,h1,h,h2,h3,h4⟩
theorem yJ{α:Type}{xs:List α}{j:Nat}{v:α}(h:xs[j]? =some v):atI xs (j:Int)=some v:=by
 have hj:j<xs.length:=(nB.mp h).1;have e:ixN xs.length (j:Int)=some j:=by
  unfold ixN;rw[mW (by lia),mW (by lia)];simp
 unfold atI;rw[e];exact h
theorem qW{α:Type}(xs:List α)(v:α):atI (xs++ [v]) (-1)=some v:=by
 have hl:(xs++ [v]).length=xs.length+1:=by simp
 have e:ixN (xs++ [v]).length (-1)=some xs.length:=by
  unfold ixN;rw[hl,mJ (by decide),mW (by lia)]
  congr 1
  lia
 unfold atI;rw[e];show(xs++ [v])[xs.length]? =some v;simp
def zQp(b:Expr):Prop:=∀o i,subscripted b false o i=operate [o,i] (getItem o i)
def IxR(X:Cx)(r:R2):Prop:=
 ∀(value slice:Expr)(pins:List (Addr×Obj))(s:Shared)(σ:St)(H:Hp)(x y:V)(v u:Value)(Q:VK),Inv X pins σ H s→RelV x v→RelV y u→r x y H Q→
  subscripted slice false v u=operate [v,u] (getItem v u)→wpAny (model X.prog X.w) X.A (subscriptTail value slice v u) (EP X pins σ Q) X.xe s
def MtR(X:Cx)(id:String)(r:V→List V→Hp→VK→Prop):Prop:=
 ∀(pins:List (Addr×Obj))(s:Shared)(σ:St)(H:Hp)(x:V)(xs:List V)(v:Value)(us:List Value)(Q:VK),Inv X pins σ H s→RelV x v→Vals xs us→r x xs H Q→
  wpAny (model X.prog X.w) X.A (call (.builtin id) (v::us)) (EP X pins σ Q) X.xe s
section
variable{X:Cx}{a b:Expr}{ta tb:TE}{pos:Pos}
theorem yI{r:R2}(hr:IxR X r)(ha:PE X a ta)(hb:PE X b tb)(hs:zQp b):PE X (.Subscript a b pos) (tOp r ta tb):=by
 intro pins s σ H Q I h;exact Subscript_ (zUi ha hb I h fun v u s2 x y H2 I2 rx ry q=>hr a b pins s2 σ H2 x y v u Q I2 rx ry q (hs _ _))
def zQq(K:W.Frag):R2:=fun x y H Q=>∃p xs i v,x= .ref p∧y= .int i∧SqL K H p xs∧atI xs i=some v∧Q v H
def zMs(K:W.Frag):R2:=fun x y H Q=>∃p xs i v,x= .ref p∧y= .int i∧SqT K H p xs∧atI xs i=some v∧Q v H
def rIxS:R2:=fun x y H Q=>∃z i c,x= .str z∧y= .int i∧z.length≤sizeLine∧atI z.cps.toList i=some c∧Q (.str ⟨#[c]⟩) H
theorem yA:IxR X (zQq X.K):=by
 intro value slice pins s σ H x y v u Q I rx ry h hs;obtain⟨p,xs,i,z,rfl,rfl,hq,he,q⟩:=h;cases rx;obtain⟨t,rfl⟩:=ry;obtain⟨its,r,pl,hz⟩:=I.list hq;obtain⟨j,h1,h2,h3,h4,h5⟩:=zFr he;obtain⟨w,ew,rw'⟩:=r.get h2;have hl:=r.length;have hn:=zCv;have fin:EP X pins σ Q w s:=⟨z,H,I,rw',q⟩
 by_cases h0:0≤i
 ·have hj:i.toNat=j:=by
   rw[seqIndex_of h0 h5] at h1;exact mX h1
  exact item_listR pl.isList h0 (by lia) (by rw[hj];simpa using ew) fin hs
 ·have hj:(i+(its.toArray.size:Int)).toNat=j:=by
   rw[seqIndex_neg (by lia) h4] at h1;rw[mV,←hl];exact mX h1
  exact subscriptTail_builtinR (x:=w) pl.isList.typeIs slot_list_getitem.lookup
   (wpAny_getItem_list_neg (Q:=fun r s'=>r=w∧EP X pins σ Q r s') pl.isList (by lia) (by rw[mV]<;>lia) (by lia) (by rw[hj];simpa using ew) ⟨rfl,fin⟩) hs
theorem gW:IxR X (zMs X.K):=by
 intro value slice pins s σ H x y v u Q I rx ry h hs;obtain⟨p,xs,i,z,rfl,rfl,hq,he,q⟩:=h;cases rx;obtain⟨t,rfl⟩:=ry;obtain⟨its,r,pl,hz⟩:=I.tuple hq;obtain⟨j,h1,h2,h3,h4,h5⟩:=zFr he;obtain⟨w,ew,rw'⟩:=r.get h2;have hl:=r.length;have hn:=zCv;have fin:EP X pins σ Q w s:=⟨z,H,I,rw',q⟩;exact subscriptTail_builtinR (x:=w) pl.typeIs slot_tuple_getitem.lookup
  (getItem_tuple (j:=j) (Q:=fun r s'=>r=w∧EP X pins σ Q r s') pl (by lia) (by lia) (by rw[mV,←hl];exact h1) (by simpa using ew) ⟨rfl,fin⟩) hs
theorem zBr:IxR X rIxS:=by
 intro value slice pins s σ H x y v u Q I rx ry h hs;obtain⟨z,i,c,rfl,rfl,hz,he,q⟩:=h;obtain⟨t,rfl⟩:=rx;obtain⟨t',rfl⟩:=ry;obtain⟨j,h1,h2,h3,h4,h5⟩:=zFr he;have hl:z.cps.toList.length=z.length:=by simp[Str.length]
 rw[hl] at h1 h4 h5;have hn:=zCv;exact tail_any (typeIs_str s z t) slot_str_getitem.lookup (getItem_str (c:=c) (by
  have e1:decide (i< -(2 ^ 63:Int))=false:=nP (by lia);have e2:decide (i≥2 ^ 63)=false:=nP (by lia);rw[e1,e2,Bool.or_false]) (by rw[h1];simpa using h2) ⟨.str ⟨#[c]⟩,H,I.tok _,⟨_,rfl⟩,q⟩) hs
theorem zJa(its:List Value)(n j:Nat)(u:Value):Obj.mapSeq (·.setIfInBounds j u) {cls:=.type "list",data:=.seq its.toArray n}={cls:=.type "list",data:=.seq (its.set j u).toArray n}:=by
 simp[Obj.mapSeq]
theorem Inv.lst{pins:List (Addr×Obj)}{σ:St}{H:Hp}{s:Shared}{p:Addr}{xs:List V}(I:Inv X pins σ H s)(h:H p=some (.lst xs)):
  ∃(its:List Value)(n:Nat),Vals xs its∧s.heap.get? p=some {cls:=.type "list",data:=.seq its.toArray n}∧xs.length≤sizeLine:=by
 obtain⟨z,its,n,r,e⟩:=I.hok p _ h;exact⟨its,n,r,e,z⟩
theorem Inv.lstUpd{pins:List (Addr×Obj)}{σ:St}{H:Hp}{s:Shared}{p:Addr}{xs ys:List V}{its its':List Value}{n n':Nat}{f:Obj→Obj}(I:Inv X pins σ H s)(h:H p=some (.lst xs))
  (ho:s.heap.get? p=some {cls:=.type "list",data:=.seq its.toArray n}) (hf:f {cls:=.type "list",data:=.seq its.toArray n}={cls:=.type "list",data:=.seq its'.toArray n'}) (r:Vals ys its') (hz:ys.length≤sizeLine) (t:Nat):
  Inv X pins σ (upd H p (.lst ys)) {s with heap:=s.heap.update p f,toks:=t}:=by
 have e:(s.heap.update p f).get? p=some {cls:=.type "list",data:=.seq its'.toArray n'}:=by
  rw[tU f ho (by rw[hf]<;>rfl),hf]
 refine I.write (x:=p) (e:=p) (by rw[h];trivial) (.inl rfl) (fun b u hb q=>(nZ _ _ (Ne.symm hb)).trans q) ⟨_,e⟩ ?_;exact⟨hz,its',n',r,e⟩
def rSetL:V→V→V→Hp→(Hp→Prop)→Prop:=fun o i v H Q=>∃p xs k j,o= .ref p∧i= .int k∧H p=some (.lst xs)∧ixN xs.length k=some j∧Q (upd H p (.lst (xs.set j v)))
theorem zNh:PSet X rSetL:=by
 intro pins s σ H o i v ov iv u Q I ro ri rv h;obtain⟨p,xs,k,j,rfl,rfl,hp,hj,q⟩:=h;cases ro;obtain⟨t,rfl⟩:=ri;obtain⟨its,n,r,ho,hz⟩:=I.lst hp;obtain⟨h1,h2,h3,h4⟩:=zFm hj;have hl:=r.length;have hn:=zCv;have I':Inv X pins σ (upd H p (.lst (xs.set j v))) {s with heap:=s.heap.update p (Obj.mapSeq (·.setIfInBounds j u))}:=
  I.lstUpd hp ho (zJa its n j u) (r.set rv j) (by rw[aA];exact hz) s.toks
 by_cases h0:0≤k
 ·have hk:k.toNat=j:=by
   rw[seqIndex_of h0 h4] at h1;exact mX h1
  exact W.ki_setAt ho h0 (by lia) (by rw[mV,←hl];exact h4) (by rw[hk];exact⟨_,I',q⟩)
 ·have hk:(k+(its.toArray.size:Int)).toNat=j:=by
   rw[seqIndex_neg (by lia) h3] at h1;rw[mV,←hl];exact mX h1
  exact W.ki_setBack ho (by lia) (by rw[mV,←hl];exact h3) (by lia) (by rw[hk];exact⟨_,I',q⟩)
theorem zFq(lo hi:Option Int)(n:Nat):(sliceBounds lo hi none n).1=((HT.sIx n 0 lo:Nat):Int)∧(sliceBounds lo hi none n).2.1=((HT.sIx n n hi:Nat):Int)∧(sliceBounds lo hi none n).2.2=1:=by
 refine⟨?_, ?_,rfl⟩
 ·cases lo with
  | none=>simp[sliceBounds,HT.sIx]
  | some i=>
   simp only[sliceBounds,HT.sIx,Option.getD_none,show(1:Int)>0 by decide,aT]
   by_cases h:i<0
   ·simp only[h,aT]<;>lia
   ·simp only[h,aI]<;>lia
 ·cases hi with
  | none=>simp[sliceBounds,HT.sIx]
  | some i=>
   simp only[sliceBounds,HT.sIx,Option.getD_none,show(1:Int)>0 by decide,aT]
   by_cases h:i<0
   ·simp only[h,aT]<;>lia
   ·simp only[h,aI]<;>lia
theorem zDj(its:List Value)(lo hi:Option Int):slicePick its.toArray lo hi none=((its.drop (HT.sIx its.length 0 lo)).take (HT.sIx its.length its.length hi - HT.sIx its.length 0 lo)).toArray:=by
 obtain⟨h1,h2,h3⟩:=zFq lo hi its.toArray.size;unfold slicePick;rw[h1,h2,h3];simp only[sliceRange_one,pick_run,mV]<;>rfl
def zUh(K:W.Frag):V→Option Int→Option Int→Hp→VK→Prop:=fun x lo hi H Q=>∃a xs,x= .ref a∧SqL K H a xs∧∀p,H p=none→Q (.ref p) (upd H p (.lst (zBe xs lo hi)))
theorem vJ:SlR X (zUh X.K):=by
 intro pins s σ H x v vl vu lo hi sl Q I rx hs pl pu h;obtain⟨a,xs,rfl,hx,q⟩:=h;cases rx;obtain⟨its,r,ht,hz⟩:=I.list hx;have hlen:=r.length;refine⟨"list",_,slot_list_getitem.lookup,ht.isList.typeIs, ?_⟩;refine wpAny_getItem_list_slice ht.isList hs pl pu .none (by simp) ?_ (by rw[mV]<;>lia);rw[zDj,←hlen];refine⟨.ref s.heap.objs.size,_,I.laid (t':=s.toks) (o:=.lst (zBe xs lo hi)) (fun b ob q=>mS _ q) (mE _) ?_,rfl,q _ (I.hok.fresh (mE _))⟩;exact⟨mY (zGu xs lo hi) hz,_,0,(r.drop (HT.sIx xs.length 0 lo)).take (HT.sIx xs.length xs.length hi - HT.sIx xs.length 0 lo),nI _ rfl⟩
def jT:V→Bool
 | .non=>true
 | .bl _=>true
 | .int _=>true
 | .str _=>true
 | _=>false
def eqV:V→V→Bool
 | .non, .non=>true
 | .bl a, .bl b=>a==b
 | .bl a, .int b=>(if a then 1 else 0)==b
 | .int a, .bl b=>a==(if b then 1 else 0)
 | .int a, .int b=>a==b
 | .str a, .str b=>a==b
 | _,_=>false
theorem zSn{A:Around}{s:Shared}{y x:V}{u v:Value}(ry:RelV y u)(rx:RelV x v)(fy:jT y=true)(fx:jT x=true):SeqAt.EqAt A s u v (eqV y x):=by
 cases y with
 | non=>
  cases ry
  cases x with
  | non=>cases rx;exact SeqAt.EqAt.same _
  | bl b=>cases rx;exact SeqAt.EqAt.none_bool b
  | int b=>obtain⟨t,rfl⟩:=rx;exact SeqAt.EqAt.none_int b t
  | str b=>obtain⟨t,rfl⟩:=rx;exact SeqAt.EqAt.none_str b t
  | _=>exact absurd (show false=true from fx) nA
 | bl a=>
  cases ry
  cases x with
  | non=>cases rx;exact SeqAt.EqAt.bool_none a
  | bl b=>cases rx;exact SeqAt.EqAt.bool_bool a b
  | int b=>obtain⟨t,rfl⟩:=rx;exact SeqAt.EqAt.bool_int a b t
  | str b=>obtain⟨t,rfl⟩:=rx;exact SeqAt.EqAt.bool_str a b t
  | _=>exact absurd (show false=true from fx) nA
 | int a=>
  obtain⟨t',rfl⟩:=ry
  cases x with
  | non=>cases rx;exact SeqAt.EqAt.int_none a t'
  | bl b=>cases rx;exact SeqAt.EqAt.int_bool a t' b
  | int b=>obtain⟨t,rfl⟩:=rx;exact SeqAt.EqAt.int_int a t' b t
  | str b=>obtain⟨t,rfl⟩:=rx;exact SeqAt.EqAt.int_str a t' b t
  | _=>exact absurd (show false=true from fx) nA
 | str a=>
  obtain⟨t',rfl⟩:=ry
  cases x with
  | non=>cases rx;exact SeqAt.EqAt.str_none a t'
  | bl b=>cases rx;exact SeqAt.EqAt.str_bool a t' b
  | int b=>obtain⟨t,rfl⟩:=rx;exact SeqAt.EqAt.str_int a t' b t
  | str b=>obtain⟨t,rfl⟩:=rx;exact SeqAt.EqAt.str_str a t' b t
  | _=>exact absurd (show false=true from fx) nA
 | _=>exact absurd (show false=true from fy) nA
theorem zEy:wW X (.builtin "len") (fun xs H Q=>∃p ys,xs= [.ref p]∧(SqL X.K H p ys∨SqT X.K H p ys)∧Q (.int ys.length) H):=by
 intro pins s σ H xs us Q I r h;obtain⟨p,ys,rfl,hq,q⟩:=h;obtain⟨u,rfl,rx⟩:=jR r;cases rx;have hn:=zCv;rcases hq with hq | hq
 ·obtain⟨its,r',pl,hz⟩:=I.list hq
  have hlen:=r'.length;exact Calls.call_len_list pl.isList (by simp only[mV]<;>lia) ⟨.int ys.length,H,I.tok _,⟨s.toks+1,by rw[mV,hlen]⟩,q⟩
 ·obtain⟨its,r',pl,hz⟩:=I.tuple hq
  have hlen:=r'.length;exact len_tuple pl (by simp only[mV]<;>lia) ⟨.int ys.length,H,I.tok _,⟨s.toks+1,by rw[mV,hlen]⟩,q⟩
theorem zDi:wW X (.type "tuple") (fun xs H Q=>∃p ys,xs= [.ref p]∧((SqL X.K H p ys∧∀l,H l=none→Q (.ref l) (upd H l (.tup ys)))∨(SqT X.K H p ys∧Q (.ref p) H))):=by
 intro pins s σ H xs us Q I r h;obtain⟨p,ys,rfl,h⟩:=h;obtain⟨u,rfl,rx⟩:=jR r;cases rx;rcases h with⟨hq,q⟩|⟨hq,q⟩
 ·obtain⟨its,r',pl,hz⟩:=I.list hq
  have hlen:=r'.length;refine call_tuple_list pl.isList (fun h' kp=>?_) (by simp only[mV]<;>lia);have I1:Inv X pins σ H {s with heap:=h'}:=I.kept (t':=s.toks) kp;have I2:Inv X pins σ (upd H h'.objs.size (.tup ys)) {s with heap:=h'.push {cls:=.type "tuple",data:=.seq its.toArray}}:=
   I1.laid (t':=s.toks) (fun b o e=>mS _ e) (mE _) (show ObjOk X.prog X.w _ _ _ (.tup ys) from⟨hz,its,r',IsTup.new _ _⟩)
  exact⟨.ref h'.objs.size,_,I2,rfl,q _ (I1.hok.fresh (mE _))⟩
 ·obtain⟨its,r',pl,hz⟩:=I.tuple hq
  exact call_tuple_same pl ⟨.ref p,H,I,rfl,q⟩
def tyV(K:W.Frag)(T:String)(x:V)(H:Hp):Prop:=match x with
 | .str _=>T= "str"
 | .int _=>T= "int"
 | .ref p=>(T= "list"∧∃xs,SqL K H p xs)∨(T= "tuple"∧∃o,K.lookup p=some o∧o.cls= .type "tuple"∧o.dict=none)∨
   (T= "dict"∧((∃kvs,H p=some (.dK kvs))∨∃kvs,H p=some (.dT kvs)))∨(T= "set"∧∃S n,H p=some (.set S n))
 | _=>False
theorem zMk{pins:List (Addr×Obj)}{σ:St}{H:Hp}{s:Shared}{T:String}{x:V}{v:Value}(I:Inv X pins σ H s)(r:RelV x v)(ty:tyV X.K T x H):
  s.TypeIs v T∧∀a,v= .ref a→∃ob,s.heap.get? a=some ob∧ob.dict=none:=by
 cases x with
 | str z=>
  obtain⟨t,rfl⟩:=r;cases (show T= "str" from ty);exact⟨typeIs_str s z t,fun _ e=>nomatch e⟩
 | int i=>
  obtain⟨t,rfl⟩:=r;cases (show T= "int" from ty);exact⟨typeIs_int s i t,fun _ e=>nomatch e⟩
 | ref p=>
  cases r;rcases ty with⟨rfl,xs,hq⟩|⟨rfl,o,hk,hc,hd⟩|⟨rfl,hk⟩|⟨rfl,S,n,hk⟩
  ·obtain⟨its,_,pl,_⟩:=I.list hq
   refine⟨pl.isList.typeIs,fun a e=>?_⟩;cases e;obtain⟨o,n,e,c,hd,_⟩:=pl;exact⟨o,e,hd⟩
  ·refine⟨⟨o,I.kIn p o hk,hc⟩,fun a e=>?_⟩
   cases e;exact⟨o,I.kIn _ o hk,hd⟩
  ·have z:∃o,s.heap.get? p=some o∧o.ExactDict:=by
    rcases hk with⟨kvs,hk⟩|⟨kvs,hk⟩
    ·obtain⟨_,_,_,_,o,_,_,e,ex,_⟩:=I.hok p _ hk
     exact⟨o,e,ex⟩
    ·obtain⟨_,_,_,_,o,_,_,e,ex,_⟩:=I.hok p _ hk
     exact⟨o,e,ex⟩
   obtain⟨o,e,ex⟩:=z;refine⟨⟨o,e,ex.1⟩,fun a e2=>?_⟩;cases e2;exact⟨o,e,ex.2.1⟩
  ·obtain⟨o,_,_,_,e,ex,_⟩:=I.hok p _ hk
   refine⟨⟨o,e,ex.1⟩,fun a e2=>?_⟩;cases e2;exact⟨o,e,ex.2.1⟩
 | _=>exact False.elim ty
def zTq(K:W.Frag)(T:String)(r:V→List V→Hp→VK→Prop)(to:TE):TE:=fun σ H Q=>to σ H fun x H1=>tyV K T x H1∧r x [] H1 Q
def tBM(K:W.Frag)(T:String)(r:V→List V→Hp→VK→Prop)(to:TE)(t:TA):TE:=fun σ H Q=>to σ H fun x H1=>tyV K T x H1∧t σ H1 fun xs H2=>r x xs H2 Q
variable{o e:Expr}{es:List Expr}{to:TE}{t:TA}{name:Str}{apos cpos:Pos}{T id:String}{r:V→List V→Hp→VK→Prop}
theorem zTg(pa:PlainAttrs T)(slot:Slot T name id)(hty:typeOf (.builtin id)=pure (.type "method_descriptor"))(hm:MtR X id r)(ho:PE X o to)
  (hbase:attributeBase o name X.env (eval o X.env)=eval o X.env:=by rfl) (hline:(apos.endLine==cpos.line)=true:=by rfl):PE X (.Call (.Attribute o name apos) [] [] cpos) (zTq X.K T r to):=by
 intro pins s σ H Q I h;refine wpAny_Call_method0_late hbase hline (thn (ho pins s σ H _ I h) fun v s1 ⟨x,H1,I1,r1,ty,q1⟩=>?_);obtain⟨h1,h2⟩:=zMk I1 r1 ty;exact⟨T,id,pa,slot,hty,h1,h2,tQ rfl (PySem.evalArgs_none (hm pins s1 σ H1 x [] v [] Q I1 r1 .nil q1))⟩
theorem vY(pa:PlainAttrs T)(slot:Slot T name id)(hty:typeOf (.builtin id)=pure (.type "method_descriptor"))(hm:MtR X id r)(ho:PE X o to)(ha:PA X (e::es) t)
  (hbase:attributeBase o name X.env (eval o X.env)=eval o X.env:=by rfl)
  (hfew:((backTo cpos (starEach (e::es) X.env)).all (fun x=>!x.1)&& (backToKw cpos (keywordEach [] X.env)).all (fun x=>x.1.isSome)
   && decide ((e::es).length+([]:List Keyword).length+(if([]:List Keyword).isEmpty then 0 else 1)<30))=true:=by rfl)
  (hline:(apos.endLine==cpos.line)=true:=by rfl) (hs:starEach (e::es) X.env=(false,eval e X.env)::starEach es X.env:=by rfl) (hplain:(backTo cpos (starEach es X.env)).any (·.1)=false:=by rfl):
  PE X (.Call (.Attribute o name apos) (e::es) [] cpos) (tBM X.K T r to t):=by
 intro pins s σ H Q I h;refine wpAny_Call_method_late hbase hfew hline rfl (thn (ho pins s σ H _ I h) fun v s1 ⟨x,H1,I1,r1,ty,q1⟩=>?_);obtain⟨h1,h2⟩:=zMk I1 r1 ty;refine⟨T,id,pa,slot,hty,h1,h2, ?_⟩;have hA:=ha cpos pins s1 σ H1 _ I1 q1;rw[hs] at hA⊢;refine tQ (by show(false ||(backTo cpos (starEach es X.env)).any (·.1))=false;rw[hplain]<;>rfl) (Calls.evalArgs_plain ?_)
 exact thn hA fun us s2 ⟨vs,H2,I2,r2,q2⟩=>hm pins s2 σ H2 x vs v us Q I2 r1 r2 q2
/- xs.append(e),list.index on a module's tuple .. are MtR facts of 06m -/
end
def MtM(X:Cx)(id:String)(r:V→List V→Hp→VK→Prop):Prop:=
 ∀(pins:List (Addr×Obj))(s:Shared)(σ:St)(H:Hp)(x:V)(xs:List V)(v:Value)(us:List Value)(Q:VK),Inv X pins σ H s→RelV x v→Vals xs us→r x xs H Q→
  wpAny (model X.prog X.w) X.A (call (.builtin id) (v::us)) (EP X pins σ Q) X.xe s
theorem Vals.one:∀{x:V}{us:List Value},Vals [x] us→∃u,us= [u]∧RelV x u
 | _,_, .cons r .nil=>⟨_,rfl,r⟩
theorem Vals.two:∀{x y:V}{us:List Value},Vals [x,y] us→∃u v,us= [u,v]∧RelV x u∧RelV y v
 | _,_,_, .cons r (.cons q .nil)=>⟨_,_,rfl,r,q⟩
theorem Vals.eraseIdx:∀{xs:List V}{us:List Value}(i:Nat),Vals xs us→Vals (xs.eraseIdx i) (us.eraseIdx i)
 | _,_,_, .nil=>.nil
 | _,_,0, .cons _ t=>t
 | _,_,i+1, .cons r t=>.cons r (Vals.eraseIdx i t)
theorem Vals.reverse{xs:List V}{us:List Value}(h:Vals xs us):Vals xs.reverse us.reverse:=by
 induction h with
 | nil=>exact .nil
 | cons r t ih=>rw[tN,tN];exact Vals.append ih (.cons r .nil)
theorem zEp{α:Type}:∀(l:List α)(i:Nat),(l.eraseIdx i).length≤l.length
 | [],_=>mE _
 | _::_,0=>rT _
 | _::r,i+1=>nN (zEp r i)
section
variable{X:Cx}{pins:List (Addr×Obj)}{σ:St}{H:Hp}{s:Shared}{l b:Addr}{xs ys zs:List V}
theorem Inv.lset{its its':List Value}{n:Nat}{f:Array Value→Array Value}{t':Nat}(I:Inv X pins σ H s)(hH:H l=some (.lst xs))
  (e:s.heap.get? l=some {cls:=.type "list",data:=.seq its.toArray n}) (hf:f its.toArray=its'.toArray) (hv:Vals ys its') (hz:ys.length≤sizeLine):
  Inv X pins σ (upd H l (.lst ys)) {s with heap:=s.heap.update l (Obj.mapSeq f),toks:=t'}:=by
 have q:=PySem.IsL.update e f;rw[hf] at q;refine I.write (x:=l) (e:=l) (by rw[hH];exact trivial) (.inl rfl) (fun b' u hb hu=>(nZ s.heap (Obj.mapSeq f) (Ne.symm hb)).trans hu) ⟨_,q⟩ ?_;exact⟨hz,its',_,hv,q⟩
theorem Inv.lnew{its:List Value}{t':Nat}(I:Inv X pins σ H s)(hv:Vals ys its)(hz:ys.length≤sizeLine):
  Inv X pins σ (upd H s.heap.objs.size (.lst ys)) {s with heap:=s.heap.push {cls:=.type "list",data:=.seq its.toArray},toks:=t'}:=
 I.laid (fun _ _ q=>mS _ q) (mE _) ⟨hz,its,0,hv,nI _ rfl⟩
theorem Inv.fresh(I:Inv X pins σ H s):H s.heap.objs.size=none:=I.hok.fresh (mE _)
theorem Inv.lstM(I:Inv X pins σ H s)(hH:H l=some (.lst xs)):xs.length≤sizeLine∧∃(its:List Value)(n:Nat),Vals xs its∧xs.length=its.length∧s.heap.get? l=some {cls:=.type "list",data:=.seq its.toArray n}:=by
 obtain⟨z,its,n,r,e⟩:=I.hok l _ hH;exact⟨z,its,n,r,r.length,e⟩
theorem zOy{n:Nat}(h:n≤sizeLine):Builtin.List.listTooLong n=false:=by
 unfold Builtin.List.listTooLong;exact nP (by lia)
end
section
variable{X:Cx}
def zRd:V→List V→Hp→VK→Prop:=fun x vs H Q=>∃l xs y,x= .ref l∧vs= [y]∧H l=some (.lst xs)∧xs.length<sizeLine∧Q .non (upd H l (.lst (xs++ [y])))
theorem qB:MtM X "list.append" zRd:=by
 intro pins s σ H x vs v us Q I rx rv h;obtain⟨l,xs,y,rfl,rfl,hH,hz,q⟩:=h;cases rx;obtain⟨u,rfl,ru⟩:=rv.one;obtain⟨z,its,n,r,hl,e⟩:=I.lstM hH;refine tJ F.slot_list_append ⟨_,e,rfl⟩ F.entry_list_append (F.args_list_append_2 _ _) (PySem.list_append l its.toArray n u (by rw[mV];lia)) ⟨e, ?_⟩;refine⟨.non,_,I.lset (its':=its++ [u]) hH e (by simp) (r.append (.cons ru .nil)) ?_,rfl,q⟩;rw[mO,mM]
 lia
def zPq:V→List V→Hp→VK→Prop:=fun x vs H Q=>∃l b xs zs,x= .ref l∧vs= [.ref b]∧H l=some (.lst xs)∧H b=some (.lst zs)∧xs.length+zs.length≤sizeLine∧Q .non (upd H l (.lst (xs++zs)))
theorem zEm:MtM X "list.extend" zPq:=by
 intro pins s σ H x vs v us Q I rx rv h;obtain⟨l,b,xs,zs,rfl,rfl,hH,hB,hz,q⟩:=h;cases rx;obtain⟨u,rfl,ru⟩:=rv.one;cases ru;obtain⟨z,its,n,r,hl,e⟩:=I.lstM hH;obtain⟨z2,its2,n2,r2,hl2,e2⟩:=I.lstM hB;have hsz:its.toArray.size+its2.toArray.size≤sizeLine:=by rw[mV,mV];lia
 have hlong:¬(!its.toArray.isEmpty && Builtin.List.listTooLong (its.toArray.size+its2.toArray.size))=true:=by
  rw[zOy hsz,Bool.and_false];exact nA
 refine tJ F.slot_list_extend ⟨_,e,rfl⟩ F.entry_list_extend (F.args_list_extend_2 _ _)
  (AutoSeq1.list_extend_list_list_0 l its.toArray n b its2.toArray n2 hlong (by rw[mV];lia) (by lia)) ⟨e,e2, ?_⟩
 refine⟨.non,_,I.lset (its':=its++its2) hH e (by simp) (r.append r2) ?_,rfl,q⟩;rw[mO]
 lia
def zTh:V→List V→Hp→VK→Prop:=fun x vs H Q=>∃l xs i k y,x= .ref l∧vs= [.int i]∧H l=some (.lst xs)∧-(2 ^ 63)≤i∧i<2 ^ 63∧seqIndex? i xs.length=some k∧xs[k]? =some y∧Q y (upd H l (.lst (xs.eraseIdx k)))
theorem zNy:MtM X "list.pop" zTh:=by
 intro pins s σ H x vs v us Q I rx rv h;obtain⟨l,xs,i,k,y,rfl,rfl,hH,h1,h2,hk,hy,q⟩:=h;cases rx;obtain⟨u,rfl,ru⟩:=rv.one;obtain⟨t,rfl⟩:=ru;obtain⟨z,its,n,r,hl,e⟩:=I.lstM hH;obtain⟨w,hw,rw'⟩:=r.get hy;refine tJ F.slot_list_pop ⟨_,e,rfl⟩ F.entry_list_pop (F.args_list_pop_2 _ _)
  (MeetsSeq.list_pop_at l its.toArray n i t k w (fitsIndex_both h1 h2) (by rw[mV,←hl];exact hk) (by rw[←tV];exact hw) (by rw[mV];lia)) ⟨e, ?_⟩
 refine⟨y,_,I.lset (its':=its.eraseIdx k) hH e ?_ (r.eraseIdx k) ?_,rw',q⟩
 ·show its.toArray.eraseIdxIfInBounds k=(its.eraseIdx k).toArray
  rw[List.eraseIdxIfInBounds_toArray]
 ·have:=zEp xs k
  lia
def rCat:R2:=fun x y H Q=>∃l b xs zs,x= .ref l∧y= .ref b∧H l=some (.lst xs)∧H b=some (.lst zs)∧xs.length+zs.length≤sizeLine∧∀p,H p=none→Q (.ref p) (upd H p (.lst (xs++zs)))
theorem vT:OpR X (binaryOp .Add) rCat:=by
 intro pins s σ H x y v u Q I rx ry h;obtain⟨l,b,xs,zs,rfl,rfl,hH,hB,hz,q⟩:=h;cases rx;cases ry;obtain⟨z,its,n,r,hl,e⟩:=I.lstM hH;obtain⟨z2,its2,n2,r2,hl2,e2⟩:=I.lstM hB;refine PySem.P.add_list e e2 ?_ (by rw[mV,mV];lia);have ea:its.toArray++its2.toArray=(its++its2).toArray:=by simp
 rw[ea];exact⟨.ref _,_,I.lnew (t':=s.toks) (r.append r2) (by rw[mO];lia),rfl,q _ I.fresh⟩
end
section
variable{prog:Program}{w:World}{A:Around}{E:Value→Shared→Prop}{s:Shared}
set_option maxRecDepth 100000 in
end
section
variable{X:Cx}
end
section
variable{κ:Type} [DecidableEq κ]
def qF(kvs:List (κ×V))(k:κ):Option V:=(kvs.find? fun kv=>decide (kv.1=k)).map (·.2)
def vB(kvs:List (κ×V))(k:κ)(v:V):List (κ×V):=
 if(kvs.any fun kv=>decide (kv.1=k))=true then kvs.map (fun kv=>if kv.1=k then(kv.1,v) else kv) else kvs++ [(k,v)]
def dropK(kvs:List (κ×V))(k:κ):List (κ×V):=kvs.filter fun kv=>decide (kv.1≠k)
theorem uT{p:κ×V}{r:List (κ×V)}{k:κ}(e:p.1=k):qF (p::r) k=some p.2:=by simp[qF,sK,e]
theorem kC{p:κ×V}{r:List (κ×V)}{k:κ}(e:¬p.1=k):qF (p::r) k=qF r k:=by simp[qF,sK,e]
theorem uQ(k:κ):∀kvs:List (κ×V),(kvs.any fun kv=>decide (kv.1=k))=(qF kvs k).isSome
 | []=>rfl
 | p::r=>by
  rw[List.any_cons]
  by_cases e:p.1=k
  ·simp only[uT e,pL e,Bool.true_or,Option.isSome_some]
  ·rw[kC e,nP e,Bool.false_or];exact uQ k r
theorem kO(kvs:List (κ×V))(k:κ)(v:V):(vB kvs k v).length≤kvs.length+1:=by
 unfold vB;split
 ·rw[mB];lia
 ·rw[mO,nF,nY];lia
theorem zMr{kvs:List (κ×V)}{k:κ}(v:V)(h:qF kvs k=none):vB kvs k v=kvs++ [(k,v)]:=by
 unfold vB;rw[uQ,h];exact mJ (by decide)
theorem RelO.isSome_eq{o:Option V}{u:Option Value}(r:RelO o u):o.isSome=u.isSome:=by
 cases o with
 | none=>cases u with
  | none=>rfl
  | some _=>exact(show False from r).elim
 | some _=>cases u with
  | none=>exact(show False from r).elim
  | some _=>rfl
theorem KV.val{kvs:List (κ×V)}{vs:List (κ×Value)}(r:KV kvs vs)(k:κ):RelO (qF kvs k) (valueAt vs k):=by
 unfold KV at r
 induction r with
 | nil=>exact mC
 | @cons p q ps qs h t ih=>
  obtain⟨h1,h2⟩:=h
  by_cases e:p.1=k
  ·have e':q.1=k:=h1.symm.trans e
   have b:valueAt (q::qs) k=some q.2:=by simp[valueAt,sK,e']
   rw[uT e,b];exact h2
  ·have e':¬q.1=k:=fun z=>e (h1.trans z)
   have b:valueAt (q::qs) k=valueAt qs k:=by simp[valueAt,sK,e']
   rw[kC e,b];exact ih
theorem KV.any{kvs:List (κ×V)}{vs:List (κ×Value)}(r:KV kvs vs)(k:κ):(kvs.any fun kv=>decide (kv.1=k))=vs.any fun kv=>decide (kv.1=k):=by
 unfold KV at r
 induction r with
 | nil=>rfl
 | cons h t ih=>rw[List.any_cons,List.any_cons,ih,h.1]
theorem KV.repl{kvs:List (κ×V)}{vs:List (κ×Value)}(r:KV kvs vs)(k:κ){y:V}{u:Value}(ry:RelV y u):
  KV (kvs.map fun kv=>if kv.1=k then(kv.1,y) else kv) (vs.map fun kv=>if kv.1=k then(kv.1,u) else kv):=by
 unfold KV at r⊢
 induction r with
 | nil=>exact .nil
 | @cons p q ps qs h t ih=>
  rw[mN,mN];refine .cons ?_ ih;obtain⟨h1,h2⟩:=h
  by_cases e:p.1=k
  ·rw[mW e,mW (h1.symm.trans e)];exact⟨h1,ry⟩
  ·rw[mJ e,mJ (fun z=>e (h1.trans z))];exact⟨h1,h2⟩
theorem KV.put{kvs:List (κ×V)}{vs:List (κ×Value)}(r:KV kvs vs)(k:κ){y:V}{u:Value}(ry:RelV y u):KV (vB kvs k y) (stored vs k u):=by
 unfold vB stored;rw[r.any k]
 by_cases e:(vs.any fun kv=>decide (kv.1=k))=true
 ·rw[mW e,mW e];exact r.repl k ry
 ·rw[mJ e,mJ e];exact Paired.snoc r ⟨rfl,ry⟩
theorem KV.drop{kvs:List (κ×V)}{vs:List (κ×Value)}(r:KV kvs vs)(k:κ):KV (dropK kvs k) (without vs k):=by
 unfold KV at r⊢;unfold dropK without
 induction r with
 | nil=>exact .nil
 | @cons p q ps qs h t ih=>
  obtain⟨h1,h2⟩:=h;rw[aU,aU]
  by_cases e:p.1=k
  ·have a:¬decide (p.1≠k)=true:=by simp[e]
   have b:¬decide (q.1≠k)=true:=by simp[h1.symm.trans e]
   rw[mJ a,mJ b];exact ih
  ·have e':¬q.1=k:=fun z=>e (h1.trans z)
   have a:decide (p.1≠k)=true:=by simp[e]
   have b:decide (q.1≠k)=true:=by simp[e']
   rw[mW a,mW b];exact .cons ⟨h1,h2⟩ ih
theorem KV.keys{kvs:List (κ×V)}{vs:List (κ×Value)}(r:KV kvs vs):kvs.map (·.1)=vs.map (·.1):=by
 unfold KV at r
 induction r with
 | nil=>rfl
 | cons h t ih=>rw[mN,mN,ih,h.1]
theorem KV.length{kvs:List (κ×V)}{vs:List (κ×Value)}(r:KV kvs vs):kvs.length=vs.length:=Paired.length r
theorem zOg(kvs:List (κ×V))(k:κ):(dropK kvs k).length≤kvs.length:=List.length_filter_le _ _
end
theorem zAx{P:Program}{w:World}{k:Key}{u:Value}(r:RelV (kV k) u):(yS P w).is k u=true:=by
 cases k with
 | inl i=>obtain⟨t,e⟩:=(show∃t,u=Value.int i t from r);subst e;exact zGy P w i t
 | inr x=>obtain⟨t,e⟩:=(show∃t,u=Value.str x t from r);subst e;exact zHp P w x t
theorem zEr{P:Program}{w:World}:∀{ks:List Key}{us:List Value},Vals (ks.map kV) us→ItemsAre (yS P w) ks us
 | [],_,r=>by rw[pK] at r;cases r;exact .nil
 | k::ks,_,r=>by
  rw[mN] at r
  cases r with
  | cons h t=>exact .cons (zAx h) (zEr t)
abbrev KT(H:Hp):List (List Key×V)→List (List Key×Addr×Value)→Prop:=Paired fun p q=>p.1=q.1∧H q.2.1=some (.tup (p.1.map kV))∧RelV p.2 q.2.2
theorem KT.val{H:Hp}{kvs:List (List Key×V)}{xs:List (List Key×Addr×Value)}(r:KT H kvs xs)(k:List Key):RelO (qF kvs k) ((atKey xs k).map (·.2)):=by
 induction r with
 | nil=>exact mC
 | @cons p q ps qs h t ih=>
  obtain⟨h1,_,h2⟩:=h
  by_cases e:p.1=k
  ·have e':q.1=k:=h1.symm.trans e
   have b:atKey (q::qs) k=some q.2:=by simp[atKey,sK,e']
   rw[uT e,b];exact h2
  ·have e':¬q.1=k:=fun z=>e (h1.trans z)
   have b:atKey (q::qs) k=atKey qs k:=by simp[atKey,sK,e']
   rw[kC e,b];exact ih
theorem KT.repl{H:Hp}{kvs:List (List Key×V)}{xs:List (List Key×Addr×Value)}(r:KT H kvs xs)(k:List Key){y:V}{u:Value}(ry:RelV y u):
  KT H (kvs.map fun kv=>if kv.1=k then(kv.1,y) else kv) (xs.map (putAt k u)):=by
 induction r with
 | nil=>exact .nil
 | @cons p q ps qs h t ih=>
  rw[mN,mN];refine .cons ?_ ih;obtain⟨h1,h2,h3⟩:=h;unfold putAt
  by_cases e:p.1=k
  ·rw[mW e,mW (h1.symm.trans e)];exact⟨h1,h2,ry⟩
  ·rw[mJ e,mJ (fun z=>e (h1.trans z))];exact⟨h1,h2,h3⟩
theorem KT.put{H:Hp}{kvs:List (List Key×V)}{xs:List (List Key×Addr×Value)}(r:KT H kvs xs)(k:List Key){b:Addr}{y:V}{u:Value}(hb:H b=some (.tup (k.map kV)))(ry:RelV y u):
  KT H (vB kvs k y) (storedH xs k b u):=by
 have e:(kvs.any fun kv=>decide (kv.1=k))=(atKey xs k).isSome:=by
  rw[uQ,(r.val k).isSome_eq,aS]
 unfold vB storedH;rw[e]
 by_cases q:(atKey xs k).isSome=true
 ·rw[mW q,mW q];exact r.repl k ry
 ·rw[mJ q,mJ q];exact Paired.snoc r ⟨rfl,hb,ry⟩
theorem KT.keeps{H H':Hp}{kvs:List (List Key×V)}{xs:List (List Key×Addr×Value)}(r:KT H kvs xs)(ht:∀b ys,H b=some (.tup ys)→H' b=some (.tup ys)):KT H' kvs xs:=
 Paired.mapP r fun _ _ z=>⟨z.1,ht _ _ z.2.1,z.2.2⟩
section
variable{P:Program}{w:World}{H:Hp}{h:Heap}{a:Addr}
theorem zRv{u:HO}(ok:HOk P w H h)(e:Rd H a u):ObjOk P w H h a u:=e.ok ok
theorem gK{kvs:List (Key×V)}(ok:HOk P w H h)(e:Rd H a (.dK kvs)):kvs.length≤sizeLine∧(a==sysModules)=false∧∃vs,KV kvs vs∧h.DictOf (yS P w) a vs:=
 show ObjOk P w H h a (.dK kvs) from zRv ok e
theorem zDx{kvs:List (Key×V)}(ok:HOk P w H h)(e:H a=some (.dK kvs)):kvs.length≤sizeLine∧(a==sysModules)=false∧∃vs,KV kvs vs∧h.DictOf (yS P w) a vs:=gK ok (.inl e)
theorem zCw{ks:List Key}(ok:HOk P w H h)(e:H a=some (.tup (ks.map kV))):(tupleKind (yS P w)).is h ks a:=by
 obtain⟨_,its,r,o,h1,h2,n,h3⟩:=(show ObjOk P w H h a (.tup (ks.map kV)) from ok a _ e);exact⟨o,its.toArray,n,h1,h2,h3,by simpa using zEr r⟩
theorem zEg{kvs:List (List Key×V)}(ok:HOk P w H h)(e:Rd H a (.dT kvs)):kvs.length≤sizeLine∧(a==sysModules)=false∧
  ∃xs,KT H kvs xs∧h.DictOfH (tupleKind (yS P w)) a xs:=by
 obtain⟨z,y,xs,r,o,es,ep,h1,h2,h3,h4,h5⟩:=(show ObjOk P w H h a (.dT kvs) from zRv ok e);refine⟨z,y,xs,r,o,es,ep,h1,h2,h3,h4,fun x hx=>?_,h5⟩;have all:∀{l:List (List Key×V)}{m:List (List Key×Addr×Value)},KT H l m→∀x∈m,(tupleKind (yS P w)).is h x.1 x.2.1:=by
  intro l m q
  induction q with
  | nil=>intro x hx;exact nomatch hx
  | @cons p q ps qs hq t ih=>
   intro x hx;rcases mG.mp hx with e | hx
   ·subst e
    exact zCw ok (by rw[←hq.1];exact hq.2.1)
   ·exact ih x hx
 exact all r x hx
theorem dt_of{kvs:List (List Key×V)}(ok:HOk P w H h)(e:H a=some (.dT kvs)):kvs.length≤sizeLine∧(a==sysModules)=false∧
  ∃xs,KT H kvs xs∧h.DictOfH (tupleKind (yS P w)) a xs:=zEg ok (.inl e)
end
def zDg(H:Hp)(a:Addr)(y:V)(r:Option V):Prop:=
 (∃kvs k,Rd H a (.dK kvs)∧y=kV k∧r=qF kvs k)∨∃kvs k b,Rd H a (.dT kvs)∧y= .ref b∧H b=some (.tup (k.map kV))∧r=qF kvs k
def DPut(H:Hp)(a:Addr)(y v:V)(H':Hp):Prop:=
 (∃kvs k,H a=some (.dK kvs)∧y=kV k∧kvs.length<sizeLine∧H'=upd H a (.dK (vB kvs k v)))∨
 ∃kvs k b,H a=some (.dT kvs)∧y= .ref b∧H b=some (.tup (k.map kV))∧kvs.length<sizeLine∧H'=upd H a (.dT (vB kvs k v))
theorem DPut.k{H:Hp}{a:Addr}{kvs:List (Key×V)}{k:Key}{v:V}(e:H a=some (.dK kvs))(hl:kvs.length<sizeLine):DPut H a (kV k) v (upd H a (.dK (vB kvs k v))):=.inl ⟨kvs,k,e,rfl,hl,rfl⟩
section
variable{X:Cx}{pins:List (Addr×Obj)}{σ:St}{H:Hp}{s:Shared}{a:Addr}{y v:V}{u r:Value}{o:Option V}{A:Around}{E:Value→Shared→Prop}
theorem Inv.big(I:Inv X pins σ H s):sysModules<s.heap.objs.size:=by
 have h:mainGlobals<s.heap.objs.size:=(I.mod.glob.keeps I.bk).lt;exact aB (by decide) h
theorem zLp{Q:Value→Shared→Prop}(hu:A.units+1<cLine)(I:Inv X pins σ H s)(g:zDg H a y (some v))(ry:RelV y u)(h:∀w' s',Inv X pins σ H s'→RelV v w'→Q w' s'):
  wpAny (model X.prog X.w) A (getItem (.ref a) u) Q E s:=by
 rcases g with⟨kvs,k,e,ey,l⟩|⟨kvs,k,b,e,ey,eb,l⟩
 ·subst ey
  obtain⟨z,hd,vs,rel,dd⟩:=gK I.hok e;obtain⟨w',hw,rw'⟩:=RelO.some_of (v:=v) (o:=valueAt vs k) (by rw[l];exact rel.val k);exact wpAny_getItem_of (zAx ry) dd.mapOf hw (h w' _ (I.tok _) rw')
 ·subst ey
  cases (show u=Value.ref b from ry);obtain⟨z,hd,xs,rel,dd⟩:=zEg I.hok e;obtain⟨w',hw,rw'⟩:=RelO.some_of (v:=v) (o:=(atKey xs k).map (·.2)) (by rw[l];exact rel.val k);obtain⟨p,hp,hp2⟩:=rE.mp hw;refine wpAny_getItem_heap (tI hu) (zCw I.hok eb) dd hp ?_;rw[hp2];exact h w' _ (I.tok _) rw'
theorem d_in{Q:Value→Shared→Prop}(hu:A.units+1<cLine)(I:Inv X pins σ H s)(g:zDg H a y o)(ry:RelV y u)(h:∀s',Inv X pins σ H s'→Q (.bool o.isSome) s'):
  wpAny (model X.prog X.w) A (compareOp .In u (.ref a)) Q E s:=by
 rcases g with⟨kvs,k,e,ey,l⟩|⟨kvs,k,b,e,ey,eb,l⟩
 ·subst ey
  obtain⟨z,hd,vs,rel,dd⟩:=gK I.hok e;refine wpAny_in_of (zAx ry) hd dd.mapOf ?_;rw[←(rel.val k).isSome_eq,←l];exact h _ (I.tok _)
 ·subst ey
  cases (show u=Value.ref b from ry);obtain⟨z,hd,xs,rel,dd⟩:=zEg I.hok e;refine wpAny_in_heap (tI hu) (zCw I.hok eb) hd dd ?_;have q:=(rel.val k).isSome_eq;rw[aS] at q;rw[←q,←l];exact h _ (I.tok _)
theorem zQa{Q:Value→Shared→Prop}(hu:A.units+1<cLine)(I:Inv X pins σ H s)(g:zDg H a y o)(ry:RelV y u)(h:∀s',Inv X pins σ H s'→Q (.bool (!o.isSome)) s'):
  wpAny (model X.prog X.w) A (compareOp .NotIn u (.ref a)) Q E s:=by
 rcases g with⟨kvs,k,e,ey,l⟩|⟨kvs,k,b,e,ey,eb,l⟩
 ·subst ey
  obtain⟨z,hd,vs,rel,dd⟩:=gK I.hok e;refine wpAny_notIn_of (zAx ry) hd dd.mapOf ?_;rw[←(rel.val k).isSome_eq,←l];exact h _ (I.tok _)
 ·subst ey
  cases (show u=Value.ref b from ry);obtain⟨z,hd,xs,rel,dd⟩:=zEg I.hok e;refine wpAny_notIn_heap (tI hu) (zCw I.hok eb) hd dd ?_;have q:=(rel.val k).isSome_eq;rw[aS] at q;rw[←q,←l];exact h _ (I.tok _)
theorem zBk{h':Heap}{t':Nat}{ob:HO}(I:Inv X pins σ H s)(mu:Mut (H a))(hs:Heap.SameBut a s.heap h')(he:∃q,h'.get? a=some q)(new:ObjOk X.prog X.w (upd H a ob) h' a ob):
  Inv X pins σ (upd H a ob) {s with heap:=h',toks:=t'}:=
 I.write (x:=a) (e:=a) mu (.inl rfl) (fun b q hb z=>(hs.2 b hb).trans z) he new
theorem zFp{P:Program}{w:World}{H':Hp}{h':Heap}{kvs:List (Key×V)}{vs:List (Key×Value)}(z:kvs.length≤sizeLine)(hd:(a==sysModules)=false)(rel:KV kvs vs)(dd:h'.DictOf (yS P w) a vs):
  ObjOk P w H' h' a (.dK kvs):=⟨z,hd,vs,rel,dd⟩
theorem zMa{H':Hp}{Q:Unit→Shared→Prop}(hu:A.units+1<cLine)(I:Inv X pins σ H s)(g:DPut H a y v H')(ry:RelV y u)(rv:RelV v r)(h:∀s',Inv X pins σ H' s'→Q () s'):
  wpAny (model X.prog X.w) A (setItem (.ref a) u r) Q E s:=by
 rcases g with⟨kvs,k,e,ey,l,eH⟩|⟨kvs,k,b,e,ey,eb,l,eH⟩
 ·subst ey eH
  obtain⟨z,hd,vs,rel,dd⟩:=zDx I.hok e;have hz:vs.length≤sizeLine:=by rw[←rel.length];exact z
  have hl:(vB kvs k v).length≤sizeLine:=by have:=kO kvs k v;lia
  refine wpAny_setItem_pairs (hsz:=hz) (zAx ry) dd fun h' dd' hs=>h _ ?_;have he:∃q,h'.get? a=some q:=let ⟨q,_,_,hq,_⟩:=dd';⟨q,hq⟩;exact zBk I (by rw[e];exact mC) hs he (zFp hl hd (rel.put k rv) dd')
 ·subst ey eH
  cases (show u=Value.ref b from ry);obtain⟨z,hd,xs,rel,dd⟩:=dt_of I.hok e;have hz:xs.length≤sizeLine:=by rw[←Paired.length rel];exact z
  have hl:(vB kvs k v).length≤sizeLine:=by have:=kO kvs k v;lia
  refine wpAny_setItem_heap (hsz:=hz) (tI hu) (zCw I.hok eb) dd fun h' dd' hs=>h _ ?_;obtain⟨q,es,ep,hq,h2,h3,h4,_,h5⟩:=dd';refine zBk I (by rw[e];exact mC) hs ⟨q,hq⟩ ⟨hl,hd,_,(rel.put k eb rv).keeps fun c ys ec=>?_,q,es,ep,hq,h2,h3,h4,h5⟩;rw[zR (ne_of ec e (fun z=>nomatch z))];exact ec
end
section
variable{X:Cx}{pins:List (Addr×Obj)}{σ:St}{H:Hp}{s:Shared}{a:Addr}{kvs:List (Key×V)}{k:Key}{u:Value}{A:Around}{E:Value→Shared→Prop}
theorem d_pop{v:V}{more:List Value}{Q:Value→Shared→Prop}(I:Inv X pins σ H s)(e:H a=some (.dK kvs))(ry:RelV (kV k) u)(l:qF kvs k=some v)(hm:more= []∨∃x,more= [x])
  (h:∀w' s',Inv X pins σ (upd H a (.dK (dropK kvs k))) s'→RelV v w'→Q w' s'):wpAny (model X.prog X.w) A (call (.builtin "dict.pop") (.ref a::u::more)) Q E s:=by
 obtain⟨z,hd,vs,rel,dd⟩:=zDx I.hok e;obtain⟨w',hw,rw'⟩:=RelO.some_of (v:=v) (o:=valueAt vs k) (by rw[←l];exact rel.val k);have hp:(keyPart u).isSome=true:=by
  cases k with
  | inl i=>obtain⟨t,q⟩:=(show∃t,u=Value.int i t from ry);subst q;rfl
  | inr x=>obtain⟨t,q⟩:=(show∃t,u=Value.str x t from ry);subst q;rfl
 have ha:argsOk "dict.pop" ⟨.ref a::u::more,[]⟩:=by
  rcases hm with q |⟨x,q⟩
  ·subst q;exact PySem.F.args_dict_pop_2 _ _
  ·subst q;exact PySem.F.args_dict_pop_3 _ _ _
 refine call_meetsIn PySem.F.slot_dict_pop dd.typeIs PySem.F.entry_dict_pop ha (meets_dict_pop_there (yS X.prog X.w) a (zAx ry) more hm hp)
  ⟨vs,w',dd,by rw[←rel.length];exact z,hw,fun h' dd' hs=>h w' _ ?_ rw'⟩
 have he:∃q,h'.get? a=some q:=let ⟨q,_,_,hq,_⟩:=dd';⟨q,hq⟩;exact zBk I (by rw[e];exact mC) hs he (zFp (mY (zOg kvs k) z) hd (rel.drop k) dd')
theorem zRu{Q:Value→Shared→Prop}(I:Inv X pins σ H s)(e:Rd H a (.dK kvs))(h:∀t s',Inv X pins σ H s'→Q (.int kvs.length t) s'):wpAny (model X.prog X.w) A (call (.builtin "len") [.ref a]) Q E s:=by
 obtain⟨z,hd,vs,rel,dd⟩:=gK I.hok e;refine call_len_dict hd dd (by rw[←rel.length];rw[mQ] at z;lia) ?_;rw[←rel.length];exact h _ _ (I.tok _)
end
def NoSl(i:Expr):Prop:=∀ov iv,subscripted i false ov iv=operate [ov,iv] (getItem ov iv)
theorem zQr{prog:Program}{w:World}{A:Around}{E:Value→Shared→Prop}{s:Shared}{env:Env}{value slice:Expr}{pos:Pos}{T id:String}{Q:Value→Shared→Prop}
  (hl:typeLookup (.type T) "__getitem__" =pure (some (.builtin id))) (hs:NoSl slice)
  (h:wpAny (model prog w) A (eval value env) (fun o s₁=>wpAny (model prog w) A (eval slice env) (fun i s₂=>s₂.TypeIs o T∧wpAny (model prog w) A (getItem o i) Q E s₂) E s₁) E s):
  wpAny (model prog w) A (eval (.Subscript value slice pos) env) Q E s:=by
 refine Subscript_ (rF h (fun o s₁ h₁=>rF h₁ (fun i s₂ h₂=>?_) fun _ _ x=>x) fun _ _ x=>x);obtain⟨hT,h₂⟩:=h₂;unfold subscriptTail;refine mH ?_;rw[getitemInPython_of_ne hT.not_modules];refine mH (wpAny_specialOf hT hl ?_);have fin:wpAny (model prog w) A (subscripted slice false o i) (fun r s₃=>wpAny (model prog w) A (letTemporaryGo value o r>>=fun _=>pure r) Q E s₃) E s₂:=by
  rw[hs o i];exact wpAny_operating (rF h₂ (fun r s₃ h₃=>mH (wpAny_letTemporaryGo (mZ h₃))) fun _ _ x=>x)
 first
  | exact mZ (mH fin)
  | exact mH (mZ (mH fin))
  | exact mH fin
theorem zHz{X:Cx}{pins:List (Addr×Obj)}{σ:St}{H:Hp}{s:Shared}{a:Addr}{y:V}{o:Option V}(I:Inv X pins σ H s)(g:zDg H a y o):s.TypeIs (.ref a) "dict":=by
 rcases g with⟨kvs,k,e,_,_⟩|⟨kvs,k,b,e,_,_,_⟩
 ·obtain⟨_,_,vs,_,dd⟩:=gK I.hok e
  exact dd.typeIs
 ·obtain⟨_,_,xs,_,dd⟩:=zEg I.hok e
  exact dd.typeIs
def gN(td ty:TE):TE:=fun σ H Q=>td σ H fun x H1=>ty σ H1 fun y H2=>∃a v,x= .ref a∧zDg H2 a y (some v)∧Q v H2
def zLa(ty td:TE):TE:=fun σ H Q=>ty σ H fun y H1=>td σ H1 fun x H2=>∃a o,x= .ref a∧zDg H2 a y o∧Q (.bl o.isSome) H2
def zJv(ty td:TE):TE:=fun σ H Q=>ty σ H fun y H1=>td σ H1 fun x H2=>∃a o,x= .ref a∧zDg H2 a y o∧Q (.bl (!o.isSome)) H2
def zJl(td ty tv:TE):TS:=fun D σ H=>tv σ H fun v H1=>td σ H1 fun x H2=>ty σ H2 fun y H3=>∃a H4,x= .ref a∧DPut H3 a y v H4∧D.nx σ H4
section
variable{X:Cx}{o i e value:Expr}{pos pos' tpos:Pos}{td ty tv:TE}
theorem xL(hu:X.A.units+1<cLine)(ho:PE X o td)(hi:PE X i ty)(hs:NoSl i):PE X (.Subscript o i pos) (gN td ty):=by
 intro pins s σ H Q I h;refine zQr PySem.F.slot_dict_getitem.lookup hs (thn (ho pins s σ H _ I h) fun u s1 ⟨x,H1,I1,rx,q1⟩=>thn (hi pins s1 σ H1 _ I1 q1) fun iv s2 ⟨y,H2,I2,ry,a,v,ex,g,q2⟩=>?_);subst ex;obtain rfl:u=Value.ref a:=rx;exact⟨zHz I2 g,zLp hu I2 g ry fun w' s3 I3 rw'=>⟨v,H2,I3,rw',q2⟩⟩
theorem zCd(hu:X.A.units+1<cLine)(hi:PE X i ty)(ho:PE X o td):PC X .In i o (zLa ty td):=by
 intro pins s σ H Q I h;refine thn (hi pins s σ H _ I h) fun iv s1 ⟨y,H1,I1,ry,q1⟩=>thn (ho pins s1 σ H1 _ I1 q1) fun u s2 ⟨x,H2,I2,rx,a,ov,ex,g,q2⟩=>?_;subst ex;obtain rfl:u=Value.ref a:=rx;exact d_in hu I2 g ry fun s3 I3=>⟨.bl ov.isSome,H2,I3,rfl,q2⟩
theorem zLc(hu:X.A.units+1<cLine)(hi:PE X i ty)(ho:PE X o td):PC X .NotIn i o (zJv ty td):=by
 intro pins s σ H Q I h;refine thn (hi pins s σ H _ I h) fun iv s1 ⟨y,H1,I1,ry,q1⟩=>thn (ho pins s1 σ H1 _ I1 q1) fun u s2 ⟨x,H2,I2,rx,a,ov,ex,g,q2⟩=>?_;subst ex;obtain rfl:u=Value.ref a:=rx;exact zQa hu I2 g ry fun s3 I3=>⟨.bl (!ov.isSome),H2,I3,rfl,q2⟩
theorem kU(hu:X.A.units+1<cLine)(ho:PE X o td)(hi:PE X i ty)(hv:PE X value tv)(hs:swapsWith value (some (.Subscript o i pos')) pos.line X.env=pure false):
  PS X (.Assign [.Subscript o i pos'] value pos) (zJl td ty tv):=by
 intro pins s σ H D I h;refine wpAny_Assign_Subscript (thn (hv pins s σ H _ I h) fun r s1 ⟨v,H1,I1,rv,q1⟩=>thn (ho pins s1 σ H1 _ I1 q1) fun u s2 ⟨x,H2,I2,rx,q2⟩=>thn (hi pins s2 σ H2 _ I2 q2) fun iv s3 ⟨y,H3,I3,ry,a,H4,ex,g,q3⟩=>?_) hs;subst ex;obtain rfl:u=Value.ref a:=rx;exact zMa hu I3 g ry rv fun s4 I4=>⟨σ,H4,I4,q3⟩
end
theorem zGz{P:Program}{w:World}{H:Hp}(h:Heap)(hb:sysModules<h.objs.size):ObjOk P w H (h.push {cls:=.type "dict",data:=.dict #[]}) h.objs.size (.dK []):=
 ⟨mL _,sY.mpr (Ne.symm (nJ hb)),[], .nil,Heap.DictOf.new h⟩
def zIn:TE:=fun _ H Q=>∀p,H p=none→Q (.ref p) (upd H p (.dK []))
section
variable{X:Cx}{pos:Pos}
theorem vM:PE X (.Dict [] [] pos) zIn:=fun pins s σ H Q I h=>
 wpAny_Dict_empty ⟨.ref s.heap.objs.size,_,I.laid (a:=s.heap.objs.size) (o:=.dK []) (t':=s.toks) (fun _ _ q=>mS _ q) (mE _) (zGz s.heap I.big),rfl,h _ (I.hok.fresh (mE _))⟩
end
def zCa:List (TE×TE)→St→Hp→(List (V×V)→Hp→Prop)→Prop
 | [],_,H,Q=>Q [] H
 |(tk,tv)::r,σ,H,Q=>tk σ H fun x H1=>tv σ H1 fun y H2=>zCa r σ H2 fun ps H3=>Q ((x,y)::ps) H3
abbrev VV:List (V×V)→List (Value×Value)→Prop:=Paired fun p q=>RelV p.1 q.1∧RelV p.2 q.2
def PPs(X:Cx)(pos:Pos)(keys:List (Option Expr))(values:List Expr)(trs:List (TE×TE)):Prop:=
 ∀(pins:List (Addr×Obj))(s:Shared)(σ:St)(H:Hp)(Q:List (V×V)→Hp→Prop),Inv X pins σ H s→zCa trs σ H Q→
  wpAny (model X.prog X.w) X.A (evalPairs (pairTrees keys values X.env pos)) (fun vs s'=>∃ps H',Inv X pins σ H' s'∧VV ps vs∧Q ps H') X.xe s
theorem zFv{X:Cx}{pos:Pos}:PPs X pos [] [] []:=fun pins s σ H Q I h=>pairTrees_nil_walk ⟨[],H,I, .nil,h⟩
theorem qZ{X:Cx}{pos:Pos}{k v:Expr}{ks:List (Option Expr)}{vs:List Expr}{tk tv:TE}{trs:List (TE×TE)}(hk:PE X k tk)(hv:PE X v tv)(hr:PPs X pos ks vs trs):
  PPs X pos (some k::ks) (v::vs) ((tk,tv)::trs):=fun pins s σ H Q I h=>
 pairTrees_cons_walk (thn (hk pins s σ H _ I h) fun u s1 ⟨x,H1,I1,rx,q1⟩=>thn (hv pins s1 σ H1 _ I1 q1) fun w2 s2 ⟨y,H2,I2,ry,q2⟩=>
  thn (hr pins s2 σ H2 _ I2 q2) fun ws s3 ⟨ps,H3,I3,rel,q3⟩=>⟨(x,y)::ps,H3,I3, .cons ⟨rx,ry⟩ rel,q3⟩)
def wK(kvs more:List (Key×V)):List (Key×V):=more.foldl (fun acc kv=>vB acc kv.1 kv.2) kvs
theorem KV.merge:∀{more:List (Key×V)}{rs:List (Key×Value)}{kvs:List (Key×V)}{vs:List (Key×Value)},KV more rs→KV kvs vs→KV (wK kvs more) (merged vs rs):=by
 intro more rs kvs vs r;unfold KV at r
 induction r generalizing kvs vs with
 | nil=>intro q;exact q
 | @cons p q ps qs h t ih=>
  intro r0;have e:KV (vB kvs p.1 p.2) (stored vs q.1 q.2):=by
   have:=r0.put p.1 h.2;rw[←h.1];exact this
  exact ih e
theorem qQ:∀(more kvs:List (Key×V)),(wK kvs more).length≤kvs.length+more.length
 | [],kvs=>by show kvs.length≤kvs.length+0;lia
 | p::r,kvs=>by
  have h1:=qQ r (vB kvs p.1 p.2);have h2:=kO kvs p.1 p.2;show(wK (vB kvs p.1 p.2) r).length≤_;rw[nF];lia
theorem zCh{P:Program}{w:World}:∀{kvs:List (Key×V)}{ws:List (Value×Value)},VV (kvs.map fun kv=>(kV kv.1,kv.2)) ws→∃rs,Carries (yS P w) ws rs∧KV kvs rs
 | [],_,r=>by rw[pK] at r;cases r;exact⟨[],mC, .nil⟩
 | p::kvs,_,r=>by
  rw[mN] at r
  cases r with
  | @cons a b as bs h t=>
   obtain⟨rs,c,q⟩:=zCh (P:=P) (w:=w) t;obtain⟨b1,b2⟩:=b;exact⟨(p.1,b2)::rs,⟨zAx h.1,rfl,c⟩, .cons ⟨rfl,h.2⟩ q⟩
def zOh(trs:List (TE×TE)):TE:=fun σ H Q=>∀p,H p=none→zCa trs σ (upd H p (.dK [])) fun ps H2=>H2 p=some (.dK [])∧∃kvs:List (Key×V),ps=kvs.map (fun kv=>(kV kv.1,kv.2))∧kvs.length≤15∧Q (.ref p) (upd H2 p (.dK (wK [] kvs)))
theorem zFa{X:Cx}{pos:Pos}{keys:List (Option Expr)}{values:List Expr}{trs:List (TE×TE)}(h:PPs X pos keys values trs)(hall:keys.all (·.isSome)=true)(hl:keys.length=values.length)(h0:keys≠ [])
  (h15:keys.length≤15):PE X (.Dict keys values pos) (zOh trs):=by
 intro pins s σ H Q I q;have hn:=I.hok.fresh (mE s.heap.objs.size);have I1:=I.laid (a:=s.heap.objs.size) (o:=.dK []) (h':=s.heap.push {cls:=.type "dict",data:=.dict #[]}) (t':=s.toks) (fun _ _ q=>mS _ q) (mE _) (zGz s.heap I.big);refine wpAny_Dict_walk (knd:=yS X.prog X.w) hall hl h0 h15 (thn (h pins _ σ _ _ I1 (q _ hn)) fun ws s2 ⟨ps,H2,I2,rel,e,kvs,ep,lk,q2⟩=>?_);subst ep;obtain⟨rs,c,rk⟩:=zCh (P:=X.prog) (w:=X.w) rel;obtain⟨z,hd,vs0,r0,dd⟩:=zDx I2.hok e;cases r0;refine⟨rs,c,dd,fun h' dd' hs=>⟨.ref s.heap.objs.size,_, ?_,rfl,q2⟩⟩;have hz:(wK [] kvs).length≤sizeLine:=by
  have h1:=qQ kvs [];rw[nY] at h1;rw[mQ];lia
 have he:∃q,h'.get? s.heap.objs.size=some q:=let ⟨q,_,_,hq,_⟩:=dd';⟨q,hq⟩;exact zBk I2 (by rw[e];exact mC) hs he (zFp hz hd (rk.merge .nil) dd')
structure M1(X:Cx)(o:Expr)(m:Str)(apos:Pos)(e:Expr)(cpos:Pos):Prop where
 base:attributeBase o m X.env (eval o X.env)=eval o X.env
 few:((backTo cpos (starEach [e] X.env)).all (fun x=>!x.1)&& (backToKw cpos (keywordEach [] X.env)).all (fun x=>x.1.isSome)
  && decide (([e]:List Expr).length+([]:List Keyword).length+(if([]:List Keyword).isEmpty then 0 else 1)<30))=true
 line:(apos.endLine==cpos.line)=true
 trees:backTo cpos (starEach [e] X.env)= [(false,eval e X.env)]
structure M2(X:Cx)(o:Expr)(m:Str)(apos:Pos)(e f:Expr)(cpos:Pos):Prop where
 base:attributeBase o m X.env (eval o X.env)=eval o X.env
 few:((backTo cpos (starEach [e,f] X.env)).all (fun x=>!x.1)&& (backToKw cpos (keywordEach [] X.env)).all (fun x=>x.1.isSome)
  && decide (([e,f]:List Expr).length+([]:List Keyword).length+(if([]:List Keyword).isEmpty then 0 else 1)<30))=true
 line:(apos.endLine==cpos.line)=true
 trees:backTo cpos (starEach [e,f] X.env)= [(false,eval e X.env),(false,eval f X.env)]
def IsD(H:Hp)(a:Addr):Prop:=(∃kvs,Rd H a (.dK kvs))∨∃kvs,Rd H a (.dT kvs)
theorem zSh{X:Cx}{pins:List (Addr×Obj)}{σ:St}{H:Hp}{s:Shared}{a:Addr}(I:Inv X pins σ H s)(d:IsD H a):
  s.TypeIs (.ref a) "dict"∧(∀b,Value.ref a= .ref b→∃ob,s.heap.get? b=some ob∧ob.dict=none)∧(a==sysModules)=false:=by
 rcases d with⟨kvs,e⟩|⟨kvs,e⟩
 ·obtain⟨_,hd,vs,_,dd⟩:=gK I.hok e
  refine⟨dd.typeIs,fun b q=>?_,hd⟩;cases q;obtain⟨ob,_,_,h1,h2,_⟩:=dd;exact⟨ob,h1,h2.2.1⟩
 ·obtain⟨_,hd,xs,_,dd⟩:=zEg I.hok e
  refine⟨dd.typeIs,fun b q=>?_,hd⟩;cases q;obtain⟨ob,_,_,h1,h2,_⟩:=dd;exact⟨ob,h1,h2.2.1⟩
section
variable{X:Cx}{pins:List (Addr×Obj)}{σ:St}{H:Hp}{s:Shared}{a:Addr}{y d:V}{u r:Value}{o:Option V}{A:Around}{E:Value→Shared→Prop}
end
def zNp(td ty:TE):TE:=fun σ H Q=>td σ H fun x H1=>∃a,x= .ref a∧IsD H1 a∧ty σ H1 fun y H2=>∃kvs k v,H2 a=some (.dK kvs)∧y=kV k∧qF kvs k=some v∧Q v (upd H2 a (.dK (dropK kvs k)))
section
variable{X:Cx}{o e f:Expr}{apos cpos:Pos}{td ty tx:TE}
theorem zPd(ho:PE X o td)(he:PE X e ty)(m:M1 X o "pop" apos e cpos):PE X (.Call (.Attribute o "pop" apos) [e] [] cpos) (zNp td ty):=by
 intro pins s σ H Q I h;refine wpAny_Call_method m.base m.few m.line PySem.F.plainAttrs_dict PySem.F.slot_dict_pop PySem.F.type_dict_pop (thn (ho pins s σ H _ I h) fun u s1 ⟨x,H1,I1,rx,a,ex,d,q1⟩=>?_);subst ex;obtain rfl:u=Value.ref a:=rx;obtain⟨t1,t2,_⟩:=zSh I1 d;refine⟨t1,t2, ?_⟩;rw[m.trees];refine tQ rfl (Calls.evalArgs_plain (Calls.spliced_cons (thn (he pins s1 σ H1 _ I1 q1) fun iv s2 ⟨y,H2,I2,ry,kvs,k,v,ea,ey,l,q2⟩=>Calls.spliced_nil ?_)));subst ey;exact d_pop I2 ea ry l (.inl rfl) fun w' s3 I3 rw'=>⟨v,_,I3,rw',q2⟩
end
section
variable{X:Cx}{pins:List (Addr×Obj)}{σ:St}{H:Hp}{s:Shared}{a:Addr}{kvs:List (Key×V)}{A:Around}{E:Value→Shared→Prop}
end
section
variable{X:Cx}{pins:List (Addr×Obj)}{σ:St}{H:Hp}{s:Shared}{a:Addr}{y:V}{u:Value}{A:Around}{E:Value→Shared→Prop}
end
end L2
namespace Att
open PySem PySem.W PySem.Calls PyProof.Rows
theorem zBb{P:Params}{h:Heap}:∀(ns:List Int)(vs:List Value),WellAll P h vs (ns.map WData.int)→IntsAre vs ns:=by
 intro ns
 induction ns with
 | nil=>
  intro vs w;rw[List.map_nil] at w;cases w;exact .nil
 | cons n ns ih=>
  intro vs w;rw[List.map_cons] at w
  cases w with
  | cons a b=>
   cases a;exact .cons _ _ (ih _ b)
theorem zLi{l:OpenLaw}{n:Nat}(hn:l.most=some n){P:Params}{h:Heap}{args:List WData}{vals:List Value}
  (hpre:l.row.toRowW.claim.pre args=true) (hwl:WellAll P h vals args):
  ∃a vs ns,vals= [Value.ref a]∧args= [WData.list (ns.map WData.int)]∧h.get? a=some {cls:=.type "list",data:=.seq vs.toArray}∧IntsAre vs ns∧ns.length≤n:=by
 have hsh:WShape.hasAll [] args [.list .int]=true:=(pre_splitW hpre).1;have hc:l.pre.holds [] {args:=args}=true:=(pre_splitW hpre).2;obtain⟨d,r,rfl,h1,h2⟩:=hasAllW_cons hsh;obtain rfl:=hasAllW_nil h2;obtain⟨xs,rfl,h3⟩:=hasW_list h1;obtain⟨ns,rfl⟩:=items_int h3;have hlen:ns.length≤n:=by
  unfold OpenLaw.pre at hc;have h4:(WTm.not (.lt (.lit (.int (n:Int))) (.len (.arg 0)))).holds [] {args:=[.list (ns.map .int)]}=true:=by
   have h4:=(holds_andW hc).1;rw[hn] at h4;exact h4
  have h5:=condW_of h4 (w_not (w_lt w_lit (w_len_list (w_arg rfl))));rw[List.length_map] at h5;refine Nat.le_of_not_lt fun q=>?_;have q':(n:Int)<((ns.length:Nat):Int):=by lia
  first
   |(rw[decide_eq_true q'] at h5;exact absurd h5 (by decide))
   |(simp at h5;lia)
 cases hwl with
 | cons w1 w2=>
  cases w2
  cases w1 with
  | list ho hall=>exact⟨_,_,ns,rfl,rfl,ho,zBb ns _ hall,hlen⟩
theorem zKs(l:OpenLaw)(args:List WData):l.row.toRowW.claim.post args (.bool true) args=true:=
 postW_of (r:=l.row.toRowW) (X:=(true==true))
  (show WShape.has [] (.bool true) .bool=true by first | rfl | decide | simp[WShape.has,WShape.arms,WShape.armsAll])
  (show(WTm.eq .res (.lit (.bool true))).value [] {args:=args,res:=some (.bool true),after:=args}=some (.bool (true==true)) from w_eq_bool (w_res rfl) w_lit) rfl
theorem attach_call{l:OpenLaw}{n:Nat}{q:Program}{loose:List Str}{XP:(Str→Option Value)→Heap→Prop}{YP:World→Heap→Prop}{d:DefRec}
  (hn:l.most=some n) (hdf:d.params.defaults= [])
  (call:∀(w:World)(s₀ s₁:Shared)(mg mb:Str→Option Value)(fa:Addr)(o:Obj)(pm cd doc:Value)(a:Addr)(vs:List Value)(ns:List Int),
   Ground q loose [] XP w s₀ mg mb s₁.heap→YP w s₁.heap→
   s₁.heap.get? fa=some o→o.data= .func (docDef d.name d.params d.body d.scope pm cd doc)→s₁.heap.CodeRec cd d.name→mg d.name=some (.ref fa)→
   s₁.heap.get? a=some {cls:=.type "list",data:=.seq vs.toArray}→IntsAre vs ns→ns.length≤n→s₁.gens= #[]→
   codeAny (model l.prog w) callerA (.call (.ref fa) ⟨[.ref a],[]⟩) (fun r s'=>r= .ok (.ret (.bool true))∧OldK s₁.heap s'.heap∧s'.os=s₁.os∧AllBare s'.gens) s₁):
  WalkO q loose XP YP l.row.toRowW d [] (fun f vs=>PySem.call f vs):=by
 intro w s₀ s₁ mg mb G Y fa o pm cd doc dV kV ho hd hcd hD hmg hg args vals as hpre hlay hrd hwl hlo;obtain rfl:dV= .none:=Dflts.none hD hdf;obtain rfl:kV= .none:=Dflts.noKw hD;obtain⟨a,vs,ns,rfl,rfl,hobj,hints,hlen⟩:=zLi hn hpre hwl;refine enter_call (codeAny_mono (call w s₀ s₁ mg mb fa o pm cd doc a vs ns G Y ho (fd_plain hd) hcd hmg hobj hints hlen hg) fun r s' hq=>?_);obtain⟨rfl,h2,h3,h4⟩:=hq;exact⟨.inl ⟨.bool true, .bool true,[],rfl,fun _=>rfl, .bool true,zKs l _,fun _=>⟨List.Pairwise.nil,fun _ hm=>(nomatch hm)⟩⟩,h2,h3,h4⟩
section
variable{prog:Program}{w:World}{A:Around}{E:Value→Shared→Prop}{s:Shared}{K:Frag}
end
end Att
namespace L2
open PySem PySem.Spec PyProof.Rows
theorem zEa:∀{vs:List Value}{ns:List Int},IntsAre vs ns→Vals (ns.map V.int) vs
 | _,_, .nil=>.nil
 | _,_, .cons n t h=>.cons ⟨t,rfl⟩ (zEa h)
def zUa(H:Hp):Prop:=∀b,H b=none∨∃o xs,H b=some (.frz o (.lst xs))
theorem zOq{P:Program}{w:World}{K:W.Frag}{mg mb:Str→Option Value}{CX:CXT}{k:Nat}{fa a:Addr}{fd:FuncData}{x:Str}{sp:Sp}{s₁:Shared}{vs:List Value}{ns:List Int}
  (KX:K.In s₁.heap) (hns:s₁.heap.Ns mainGlobals mg) (hb:s₁.heap.Ns builtinsNs mb) (hbb:∀x:Str,x≠ "__name__"→mb x=bootBuiltins x) (hlim:s₁.heap.NoLimit) (hg:s₁.gens= #[])
  (ha:s₁.heap.get? a=some {cls:=.type "list",data:=.seq vs.toArray}) (hi:IntsAre vs ns) (hl:ns.length≤sizeLine) (hr:Room k callerA)
  (F:∀base:Heap,K.In base→base.Ns mainGlobals mg→FnOk P w K mg base CX k fa fd [x] sp) (hbind:∀(s:Shared)(u:Value),BindsTo s fd ⟨[u],[]⟩ [(x,u)])
  (hsp:∀H:Hp,zUa H→SqL K H a (ns.map V.int)→sp [.ref a] H (fun v _=>v= .bl true) fun _ _ _=>False)
  (hCX:∀H e s',CX [] H s₁ (fun _ _ _=>False) e s'→False):
  codeAny (model P w) callerA (.call (.ref fa) ⟨[.ref a],[]⟩) (fun r s'=>r= .ok (.ret (.bool true))∧OldK s₁.heap s'.heap∧s'.os=s₁.os∧AllBare s'.gens) s₁:=by
 have rv:=zEa hi;have lenV:=hi.length
 -- from an abstract heap in which nothing but the script may be tracked
 have core:∀H:Hp,zUa H→SqL K H a (ns.map V.int)→HOk P w H s₁.heap→(∀b,H b≠none→b=a)→(H a≠none→K.lookup a=none)→
   codeAny (model P w) callerA (.call (.ref fa) ⟨[.ref a],[]⟩) (fun r s'=>r= .ok (.ret (.bool true))∧OldK s₁.heap s'.heap∧s'.os=s₁.os∧AllBare s'.gens) s₁:=by
  intro H hO hS hok hA hK;have base_of:∀{b:Addr}{o:Obj},s₁.heap.get? b=some o→H b=none→(zFh s₁.heap H).get? b=some o:=fun e n=>zNo e n;have noA:∀{b:Addr}{o:Obj}{es:Array DictEntry}{ep:Nat},s₁.heap.get? b=some o→o.data= .dict es ep→H b=none:=fun {b o es ep} e d=>by
   cases q:H b with
   | none=>rfl
   | some u=>
    have e':b=a:=hA b (by rw[q];simp);subst e';rw[ha] at e;cases e;have d':Data.seq vs.toArray _=Data.dict es ep:=d;cases d'
  have nsK:∀{b:Addr}{m:Str→Option Value},s₁.heap.Ns b m→(zFh s₁.heap H).Ns b m:=fun {b m} ⟨o,es,ep,e,d,r⟩=>⟨o,es,ep,base_of e (noA e d),d,r⟩;have hKb:K.In (zFh s₁.heap H):=fun b o e=>base_of (KX b o e) (by
   cases q:H b with
   | none=>rfl
   | some u=>
    have e':b=a:=hA b (by rw[q];simp);subst e';rw[hK (by rw[q];simp)] at e;cases e)
  have hM:Mod K mg (zFh s₁.heap H):=⟨hKb,nsK hns,⟨mb,nsK hb,hbb⟩,let ⟨mc,h1,h2⟩:=hlim;⟨mc,nsK h1,h2⟩⟩;have e0:zPi P w K mg (zFh s₁.heap H) callerA [] s₁ H:=⟨rfl,hM,fun b o e=>zQd e,aV (zLw _ _),trivial,fun b hb=>absurd (show b∈([]:List Addr) from hb) (by simp),hok, .of_eq hg⟩;refine tZ ((F _ hKb (nsK hns)).run callerA [] s₁ H ⟨[.ref a],[]⟩ [.ref a] [.ref a] _ _ hr e0 (hbind s₁ (.ref a)) (.cons rfl .nil) (hsp H hO hS)) fun r s' h=>?_
  cases r with
  | error e=>exact(hCX H e s' h).elim
  | ok fl=>
   cases fl with
   | next=>exact False.elim h
   | brk=>exact False.elim h
   | cont=>exact False.elim h
   | ret u=>
    obtain⟨v,H',os,bare,un,hok',r',q⟩:=h;have q':v= .bl true:=q;subst q';obtain rfl:u=Value.bool true:=r';refine⟨rfl,OldK.of_keep fun b o e=>?_,os,bare⟩
    cases q:H b with
    | none=>exact un.keep b o e q (by intro z;exact absurd (show b∈([]:List Addr) from z) (by simp)) (by simp)
    | some u=>
     rcases hO b with z |⟨ob,xs,z⟩
     ·rw[q] at z;cases z
     ·have z2:=un.frzs b ob _ z
      obtain⟨e1,_⟩:=hok b _ z;obtain⟨e2,_⟩:=hok' b _ z2;rw[e] at e1;cases e1;exact e2
 cases hk:K.lookup a with
 | some o=>
  -- the script is one of the module's own objects
  have e:=KX a o hk;rw[ha] at e;cases e;refine core (fun _=>none) (fun _=>.inl rfl) (.inr ⟨_,vs.toArray,_,hk,rfl,rfl,rfl,by rw[mV,lenV];exact hl,by simpa using rv⟩) (fun b u z=>by have z':(none:Option HO)=some u:=z;cases z') (fun b z=>absurd rfl z) fun z=>absurd rfl z
 | none=>
  refine core (fun b=>if b=a then some (.frz {cls:=.type "list",data:=.seq vs.toArray} (.lst (ns.map V.int))) else none) (fun b=>?_) (.inl (.inr ⟨{cls:=.type "list",data:=.seq vs.toArray},mW rfl⟩)) (fun b u z=>?_) (fun b z=>?_) fun _=>hk
  ·by_cases hb:b=a
   ·exact .inr ⟨_,_,mW hb⟩
   ·exact .inl (mJ hb)
  ·by_cases hb:b=a
   ·have z':=(mW hb).symm.trans z
    cases z';subst hb;exact⟨ha,by rw[mB];exact hl,vs,_,rv,ha⟩
   ·have z':=(mJ hb).symm.trans z
    cases z'
  ·by_cases hb:b=a
   ·exact hb
   ·exact absurd (mJ hb) z
abbrev KOf{K:W.Frag}{h:Heap}(_:K.In h):W.Frag:=K
theorem zKp{l:W.OpenLaw}{n k:Nat}{q:Program}{loose:List Str}{XP:(Str→Option Value)→Heap→Prop}{YP:World→Heap→Prop}{d:DefRec}{K:Params→W.Frag}{CX:World→CXT}{sp:World→Sp}{x:Str}
  (hn:l.most=some n) (hn2:n≤sizeLine) (hdf:d.params.defaults= []) (hr:Room k callerA)
  (hY:∀(w:World)(h:Heap),YP w h→(K w.params).In h)
  (F:∀(w:World)(mg:Str→Option Value)(fa:Addr)(h:Heap),(K w.params).In h→h.Ns mainGlobals mg→mg d.name=some (.ref fa)→
   ∃fd:FuncData,(∀(s:Shared)(u:Value),BindsTo s fd ⟨[u],[]⟩ [(x,u)])∧
    ∀base:Heap,(K w.params).In base→base.Ns mainGlobals mg→FnOk l.prog w (K w.params) mg base (CX w) k fa fd [x] (sp w))
  (hsp:∀(w:World)(H:Hp)(a:Addr)(ns:List Int),ns.length≤n→zUa H→SqL (K w.params) H a (ns.map V.int)→sp w [.ref a] H (fun v _=>v= .bl true) fun _ _ _=>False)
  (hCX:∀(w:World)(H:Hp)(s:Shared)(e:Value)(s':Shared),CX w [] H s (fun _ _ _=>False) e s'→False):
  W.WalkO q loose XP YP l.row.toRowW d [] (fun f vs=>PySem.call f vs):=by
 refine Att.attach_call hn hdf fun w s₀ s₁ mg mb fa o pm cd doc a vs ns G Y ho hd hcd hmg hobj hints hlen hg=>?_;have KX:=hY w _ Y;obtain⟨fd,hb,hF⟩:=F w mg fa _ KX G.T.g hmg;exact zOq KX G.T.g G.T.b G.T.builtins G.T.nolimit hg hobj hints (mY hlen hn2) hr hF hb (fun H hO hS=>hsp w H a ns hlen hO hS) fun H e s'=>hCX w H s₁ e s'
end L2
/- THE LAST THEOREM (shape;LID,My.*are yours):
   My.Adr:a structure of the addresses that your layer names (classes,functions);My.Txt K t:a structure (Prop) of the equations over K;
   My.txt_mk:{K} {implicit addresses ..} (e1:nsIn K mainGlobals "law" =some (some (.ref f))) (e2:K.lookup f=some ⟨oc,od, .func (fnOf "law" "law" params body scope dV kV doc pm an cdv ct),sl⟩) (e3:codeIn K cdv "law" =true) .. :∃t,My.Txt K t
set_option maxRecDepth 100000 in
set_option maxHeartbeats 0 in
theorem PySem.Challenge.cw_LID_holds : PySem.Challenge.rw_LID.Holds := by
  w_on;o_law;k_head;(case hw=>w_witness2)
  k_fill
  refine L2.zKp (l:=PySem.Challenge.rw_LID) (n:=63) (k:=40) (x:="script") (CX:=fun w=>..) (sp:=fun _=>My.sp_law) rfl (by decide) rfl ⟨rfl,by decide,by decide⟩ (fun w h Y=>PySem.W.kIn_of Y) ?F ?S ?C
  case F=>
    intro w mg fa h KX G hmg;have T:∃t,My.Txt (L2.KOf KX) t:=by
      dsimp only[L2.KOf]                          -- K must stand as «<heap const>w.params» for k_is;refine' My.txt_mk ?e1 ?e2 ?e3 ..
      (case e1=>PySem.W.k_is)                    -- in the order:a name ->its address ->its object ->its parts
      (case e2=>PySem.W.k_is)
      ..
    obtain⟨t,T⟩:=T;have e0:=hmg.symm.trans (PySem.W.mg_of KX G T.law);cases e0                                       -- fa is the law's own address;exact⟨_,fun s u=>.of_eq rfl,fun base kb nb=>My.law_fn T kb nb⟩     -- if «.of_eq rfl» comes too early:refine' ⟨_, ?b,fun base kb nb=>My.law_fn T kb nb⟩;exact fun s u=>.of_eq rfl
  case S=>exact fun w H a ns hl hO hS=>..
  case C=>exact ..
(the tactic k_is has no namespace:write k_is)-/
namespace L2
open PySem PySem.Spec PyProof.Rows
def yC(s:Stmt):Arguments:=match s with
 | .FunctionDef _ a _ _ _ _ _ _ _ _=>a
 | _=>{posonlyargs:=[],args:=[],vararg:=none,kwonlyargs:=[],kw_defaults:=[],kwarg:=none,defaults:=[]}
def yB(s:Stmt):List Stmt:=match s with
 | .FunctionDef _ _ b _ _ _ _ _ _ _=>b
 | _=>[]
def zJ(s:Stmt):Scope:=match s with
 | .FunctionDef _ _ _ _ _ _ sc _ _ _=>sc
 | _=>{kind:=.function,names:=[],isGenerator:=false,isCoroutine:=false}
abbrev CX0:CXT:=fun _ _ _ _ _ _=>False
abbrev E0:XK:=fun _ _ _=>False
theorem zRy{X:Cx}:zFn CX0 X E0:=fun _ _ _ _ _ _ _ h=>h.elim
structure Fun(K:W.Frag)(x qual:Str)(st:Stmt)(f:Addr)(fd:FuncData):Prop where
 ex:∃(oc:Value)(od:Option Addr)(kV doc pm:Value)(an:Option Addr)(cdv ct:Value)(osl:Array (Option Value)),
  fd=W.fnOf x qual (yC st) (yB st) (zJ st) .none kV doc pm an cdv ct∧K.lookup f=some ⟨oc,od, .func fd,osl⟩∧W.codeIn K cdv qual=true
 kp:W.keepIn K (.ref f)=true
section
variable{P:Program}{w:World}{K:W.Frag}{mg:Str→Option Value}{base:Heap}
theorem Fun.ok{x qual:Str}{st:Stmt}{f:Addr}{fd:FuncData}{N ps:List Str}{k:Nat}{sp:Sp}(F:Fun K x qual st f fd)(S:yE N ps (zJ st))(len:∀vs H Q E,sp vs H Q E→vs.length=ps.length)
  (hbody:∀(cdv:Value)(A:Around)(outer:List Env)(s:Shared)(H:Hp)(vs:List V)(Q:VK)(E:XK),Room k (A.deeper (envOfC qual (zJ st) s.heap.objs.size f cdv))→sp vs H Q E→
   ∃t,PSs (zIf CX0 P w K mg base N qual (zJ st) f cdv A outer s H E).nox (yB st) t∧t {nx:=fun _ H'=>Q .non H',rt:=Q} (uS N vs) H):FnOk P w K mg base CX0 (k+1) f fd ps sp:=by
 obtain⟨oc,od,kV,doc,pm,an,cdv,ct,osl,rfl,lk,hcd⟩:=F.ex;refine fn_of lk hcd S len fun A outer s H vs Q E hr hsp=>?_;obtain⟨t,h,q⟩:=hbody cdv A outer s H vs Q E hr hsp;exact⟨t,h.nox,q⟩
theorem Fun.binds{x qual:Str}{st:Stmt}{f:Addr}{fd:FuncData}{ps:List Str}(F:Fun K x qual st f fd)
  (h:∀(kV doc pm:Value)(an:Option Addr)(cdv ct:Value)(us:List Value),us.length=ps.length→bindArgs (W.fnOf x qual (yC st) (yB st) (zJ st) .none kV doc pm an cdv ct) ⟨us,[]⟩=pure (ps.zip us)):Binds K fd ps []:=by
 obtain⟨oc,od,kV,doc,pm,an,cdv,ct,osl,rfl,lk,hcd⟩:=F.ex;exact .all (h kV doc pm an cdv ct)
theorem yL{x qual:Str}{st:Stmt}{f:Addr}{oc:Value}{od an:Option Addr}{osl:Array (Option Value)}{kV doc pm cdv ct:Value}(l:K.lookup f=some ⟨oc,od, .func (W.fnOf x qual (yC st) (yB st) (zJ st) .none kV doc pm an cdv ct),osl⟩)
  (c:W.codeIn K cdv qual=true) (k:W.keepIn K (.ref f)=true):Fun K x qual st f (W.fnOf x qual (yC st) (yB st) (zJ st) .none kV doc pm an cdv ct):=⟨⟨oc,od,kV,doc,pm,an,cdv,ct,osl,rfl,l,c⟩,k⟩
end
theorem wC{A:Around}{k:Nat}(hr:Room k A):A.units+1<cLine:=Nat.lt_of_le_of_lt (Nat.add_le_add_left (by decide:1≤64) _) hr.units
section
variable{X:Cx}
theorem pv(i:Nat){x:Str}{pos:Pos}(hN:X.N[i]? =some x:=by rfl)(hv:Vis X.env.scope x:=by first | exact nH rfl | exact aM (nH rfl)| exact aM (aM rfl))(hd:(x==("__debug__" :Str))=false:=by decide)
  (hcd:(x==("__classdict__" :Str))=false:=by decide):PE X (.Name x pos) (jU i):=zTv hN hv hd hcd
theorem zFi{A B:Prop}(h:B):if false=true then A else B:=by
 rw[mJ nA];exact h
theorem zFs{A B:Prop}(h:A):if true=true then A else B:=by
 rw[mW rfl];exact h
def Same(H H':Hp):Prop:=∀b o,H b=some o→H' b=some o
theorem Same.refl(H:Hp):Same H H:=fun _ _ h=>h
theorem Same.trans{H H1 H2:Hp}(a:Same H H1)(b:Same H1 H2):Same H H2:=fun c o h=>b c o (a c o h)
theorem Same.seq{K:W.Frag}{H H':Hp}{a:Addr}{xs:List V}(e:Same H H')(h:SqL K H a xs):SqL K H' a xs:=by
 rcases h with(h |⟨o,h⟩)| h
 ·exact .inl (.inl (e _ _ h))
 ·exact .inl (.inr ⟨o,e _ _ h⟩)
 ·exact .inr h
theorem zAp:wW X (.builtin "len") (fun xs H Q=>∃a kvs,xs= [V.ref a]∧H a=some (.dK kvs)∧Q (.int kvs.length) H):=by
 intro pins s σ H xs us Q I r h;obtain⟨a,kvs,rfl,ha,q⟩:=h;obtain⟨u,rfl,ru⟩:=jR r;cases ru;exact zRu I (.inl ha) fun t s' I'=>⟨.int kvs.length,H,I',⟨t,rfl⟩,q⟩
end
section
variable{κ:Type} [DecidableEq κ]
theorem zPt{kvs:List (κ×V)}{k:κ}{v:V}(h:qF kvs k=some v):k∈kvs.map (·.1):=by
 have q:(kvs.any fun kv=>decide (kv.1=k))=true:=by
  rw[uQ,h]
  all_goals rfl
 obtain⟨p,hp,e⟩:=tR.mp q;exact nL.mpr ⟨p,hp,rZ e⟩
theorem zGf:∀{l:List κ}{k:κ},l.Nodup→¬k∈l→(l++ [k]).Nodup
 | [],k,_,_=>by simp
 | a::r,k,h,hk=>by
  obtain⟨h1,h2⟩:=pA.mp h;show(a::(r++ [k])).Nodup;refine pA.mpr ⟨fun m=>?_,zGf h2 fun m=>hk (mG.mpr (aM m))⟩;rcases nD.mp m with q | q
  ·exact h1 q
  ·exact hk (mG.mpr (nH (nM.mp q).symm))
end
abbrev ts(x:Str):List Nat:=x.cps.toList
abbrev tx(l:List Nat):Str:=⟨l.toArray⟩
theorem vV(l:List Nat):ts (tx l)=l:=rfl
theorem jW(x:Str):tx (ts x)=x:=by cases x;simp[tx,ts]
theorem zBp(x:Str):x.length=(ts x).length:=by simp[Str.length,ts]
theorem vE(l:List Nat):(tx l).length=l.length:=by simp[Str.length,tx]
theorem zBl{x y:Str}(h:ts x=ts y):x=y:=by rw[←jW x,←jW y,h]
theorem zAb(a b:List Nat):tx a++tx b=tx (a++b):=by
 apply zBl;show(a.toArray++b.toArray).toList=a++b;simp
theorem zDn(xs:Array Nat):∀(k:Nat)(acc:Array Nat),((List.replicate k xs).foldl (· ++ ·) acc).toList=acc.toList++(List.replicate k xs.toList).flatten
 | 0,acc=>by simp
 | k+1,acc=>by
  rw[sG,sL,zDn xs k (acc++xs)];simp[sG]
theorem zSr(x:Str)(n:Int):Txt.mul x n=tx (List.replicate n.toNat (ts x)).flatten:=by
 apply zBl;rw[vV];unfold Txt.mul
 by_cases h1:n<1
 ·rw[mW h1]
  have e:n.toNat=0:=by lia
  rw[e];rfl
 ·rw[mJ h1]
  by_cases h2:(n==1 || x.length==0)=true
  ·rw[mW h2]
   rcases(Bool.or_eq_true _ _).mp h2 with h3 | h3
   ·have e:n=1:=by simpa using h3
    subst e;simp
   ·have e:x.length=0:=by simpa using h3
    rw[zBp] at e;have e2:ts x= []:=sN e;show ts x=_;rw[e2];simp
  ·rw[mJ h2]
   show((List.replicate n.toNat x.cps).foldl (· ++ ·) #[]).toList=_;rw[zDn];simp
section
variable{X:Cx}
def zMz:R2:=fun x y H Q=>∃z n,x= .str z∧y= .int n∧z.length≤1000∧-1000≤n∧n≤1000∧Q (.str (tx (List.replicate n.toNat (ts z)).flatten)) H
theorem jN:OpR X (binaryOp .Mult) zMz:=by
 intro pins s σ H x y v u Q I rx ry h;obtain⟨z,n,rfl,rfl,hz,h0,h1,q⟩:=h;obtain⟨t,rfl⟩:=rx;obtain⟨t',rfl⟩:=ry;refine SB.mul ⟨by rw[nP (by lia),nP (by lia)];rfl,fun a _ b=>?_,fun a _=>?_⟩ fun t' k=>⟨.str (Txt.mul z n),H,I.tok _,⟨_,rfl⟩,by rw[zSr];exact q⟩
 ·have h2:(9223372036854775:Int)≤(2 ^ 63 - 1:Int)/ n:=Int.le_ediv_of_mul_le (by lia) (by lia)
  lia
 ·unfold PySem.Builtin.Str.tooLong
  have e:z.length*n.toNat≤1000*1000:=sD hz (by lia);exact nP (by rw[mQ];lia)
theorem zIq{ys:List Str}:∀{us:List Value},Vals (ys.map V.str) us→StrsAre us ys:=by
 induction ys with
 | nil=>intro us r;rw[pK] at r;cases r;exact .nil
 | cons n ns ih=>
  intro us r;rw[mN] at r
  cases r with
  | cons r1 r2=>
   obtain⟨t,e⟩:=r1;subst e;exact .cons n t (ih r2)
theorem zCy(g:Str):∀(ps:List Str)(acc:Array Nat),(ps.foldl (fun a p=>a++g.cps++p.cps) acc).toList=acc.toList++(ps.map fun p=>ts g++ts p).flatten
 | [],acc=>by simp
 | p::ps,acc=>by
  rw[sL,zCy g ps];simp
theorem zOm(ys:List Str):Txt.join (tx []) ys=tx (ys.map ts).flatten:=by
 apply zBl;show((ys.drop 1).foldl (fun acc p=>acc++(tx []).cps++p.cps) (ys.headD Str.empty).cps).toList=_;rw[zCy]
 cases ys with
 | nil=>rfl
 | cons y r=>
  show ts y++(List.map (fun p=>ts (tx [])++ts p) r).flatten=ts y++(List.map ts r).flatten;simp only[vV,rY]
def rJoin(K:W.Frag):V→List V→Hp→VK→Prop:=fun x vs H Q=>∃(p:Addr)(ys:List Str),x= .str (tx [])∧vs= [.ref p]∧SqL K H p (ys.map V.str)∧((ys.map ts).flatten).length≤100000∧Q (.str (tx (ys.map ts).flatten)) H
theorem zQc(ys:List Str):(ys.map (·.length)).sum=((ys.map ts).flatten).length:=by
 induction ys with
 | nil=>rfl
 | cons y r ih=>rw[mN,List.sum_cons,ih,mN,tO,mO,zBp]
theorem zKn:MtR X "str.join" (rJoin X.K):=by
 intro pins s σ H x vs v us Q I rx rv h;obtain⟨p,ys,rfl,rfl,hq,hz,q⟩:=h;obtain⟨t,rfl⟩:=rx;obtain⟨u,rfl,ru⟩:=rv.one;cases ru;obtain⟨its,r,pl,_⟩:=I.list hq;refine join_list (ys:=ys) pl.isList (by simpa using zIq r) ?_ fun t' k=>⟨.str (Txt.join (tx []) ys),H,I.tok _,⟨_,rfl⟩,by rw[zOm];exact q⟩;rw[zQc,show(tx []).length=0 from rfl,Nat.mul_zero]
 lia
theorem zIa(a b n:Nat):PySem.Builtin.Str.strSliceIndices (some (a:Int)) (some (b:Int)) 1 n=PySem.Builtin.Str.strSliceIndices (some ((min a n:Nat):Int)) (some ((min b n:Nat):Int)) 1 n:=by
 have h1:¬((a:Int)<0):=by lia
 have h2:¬((b:Int)<0):=by lia
 have h3:¬(((min a n:Nat):Int)<0):=by lia
 have h4:¬(((min b n:Nat):Int)<0):=by lia
 have e1:max (0:Int) (min (a:Int) (n:Int))=max (0:Int) (min ((min a n:Nat):Int) (n:Int)):=by lia
 have e2:max (0:Int) (min (b:Int) (n:Int))=max (0:Int) (min ((min b n:Nat):Int) (n:Int)):=by lia
 unfold PySem.Builtin.Str.strSliceIndices;simp only[h1,h2,h3,h4,aI,show((1:Int)>0)=True from by simp,aT];rw[e1,e2]
theorem zNg{a b n:Nat}(h:b<a)(hb:a≤n):PySem.Builtin.Str.strSliceIndices (some (a:Int)) (some (b:Int)) 1 n= []:=by
 have h1:¬((a:Int)<0):=by lia
 have h2:¬((b:Int)<0):=by lia
 have e1:max (0:Int) (min (a:Int) (n:Int))=a:=by lia
 have e2:max (0:Int) (min (b:Int) (n:Int))=b:=by lia
 have h3:¬((a:Int)<(b:Int)):=by lia
 simp only[PySem.Builtin.Str.strSliceIndices,PySem.sliceRange,h1,h2,aI,e1,e2,show((1:Int)>0)=True from by simp,aT,h3]
 rfl
theorem zRh{α:Type}(l:List α)(a b:Nat):(l.drop (min a l.length)).take (min b l.length - min a l.length)=(l.take b).drop a:=by
 rw[List.drop_take]
 by_cases ha:a≤l.length
 ·rw[aD ha]
  by_cases hb:b≤l.length
  ·rw[aD hb]
  ·rw[tS (by lia),pT (by rw[nU];lia),pT (by rw[nU];lia)]
 ·have e1:min a l.length=l.length:=tS (by lia)
  rw[e1,rV (mE _),rV (as:=l) (i:=a) (by lia),List.take_nil,List.take_nil]
theorem zDm(x:Str)(a b:Nat):Txt.slice x (some (a:Int)) (some (b:Int))=tx (((ts x).take b).drop a):=by
 have hl:x.length=(ts x).length:=zBp x
 by_cases h:min a x.length≤min b x.length
 ·have e:=StrLaws.sliceText_nat x h (aW _ _)
  have e2:Txt.slice x (some (a:Int)) (some (b:Int))=StrLaws.sliceText x (some ((min a x.length:Nat):Int)) (some ((min b x.length:Nat):Int)):=by
   unfold Txt.slice StrLaws.sliceText;rw[zIa a b]
  rw[e2,e,hl,zRh]
 ·have h1:min b x.length=b:=by lia
  have h2:b<a:=by lia
  have e:PySem.Builtin.Str.strSliceIndices (some (a:Int)) (some (b:Int)) 1 x.length= []:=by
   rw[zIa a b,h1];exact zNg (by lia) (aW _ _)
  unfold Txt.slice;rw[e,mJ (by simp;lia)];apply zBl;rw[vV,rV (by rw[sF];lia)]
  rfl
theorem zHw(x:Str)(j:Nat):Txt.slice x none (some (j:Int))=tx ((ts x).take j):=by
 have e:Txt.slice x none (some (j:Int))=Txt.slice x (some ((0:Nat):Int)) (some (j:Int)):=by
  unfold Txt.slice;rw[StrLaws.sliceIdx_none_lo];rfl
 rw[e,zDm,sR]
theorem zIz(x:Str)(i:Nat):Txt.slice x (some (i:Int)) none=tx ((ts x).drop i):=by
 have e:Txt.slice x (some (i:Int)) none=Txt.slice x (some (i:Int)) (some (x.length:Int)):=by
  unfold Txt.slice;rw[StrLaws.sliceIdx_none_hi]
 rw[e,zDm,pT (by rw[←zBp];exact mE _)]
def rSlS:V→Option Int→Option Int→Hp→VK→Prop:=fun x lo hi H Q=>∃z,x= .str z∧z.length≤sizeLine∧Q (.str (Txt.slice z lo hi)) H
theorem zIc:SlR X rSlS:=by
 intro pins s σ H x v vl vu lo hi sl Q I rx hs pl pu h;obtain⟨z,rfl,hz,q⟩:=h;obtain⟨t,rfl⟩:=rx;refine⟨"str",_,F.slot_str_getitem.lookup,typeIs_str _ _ _, ?_⟩;have fin:∀t' k,EP X pins σ Q (.str (Txt.slice z lo hi) t') {s with toks:=k}:=fun t' k=>⟨.str (Txt.slice z lo hi),H,I.tok _,⟨_,rfl⟩,q⟩;obtain⟨o,ho,hc,hd⟩:=hs
 cases pl with
 | none=>
  cases pu with
  | none=>exact rN (l:=none) (u:=none) (st:=none) ⟨o,ho,hc,hd⟩ rfl (aE ⟨mY (aX z _ _) hz,fin⟩)
  | int j uj=>exact rN (l:=none) (u:=some (j,uj)) (st:=none) ⟨o,ho,hc,hd⟩ rfl (aE ⟨mY (aX z _ _) hz,fin⟩)
 | int i ui=>
  cases pu with
  | none=>exact rN (l:=some (i,ui)) (u:=none) (st:=none) ⟨o,ho,hc,hd⟩ rfl (aE ⟨mY (aX z _ _) hz,fin⟩)
  | int j uj=>exact rN (l:=some (i,ui)) (u:=some (j,uj)) (st:=none) ⟨o,ho,hc,hd⟩ rfl (aE ⟨mY (aX z _ _) hz,fin⟩)
def rInC(neg:Bool):R2:=fun x y H Q=>∃c j,x= .str (tx [c])∧y= .str j∧Q (.bl (if neg then !decide (c∈ts j) else decide (c∈ts j))) H
def Its(x:Str):It:=⟨fun i _=>i<(ts x).length,fun i H y H'=>H'=H∧∃c,(ts x)[i]? =some c∧y= .str (tx [c]),fun i _=>(ts x).length≤i⟩
def iStr(tl:TE):TI:=fun σ H R=>tl σ H fun x H1=>∃z,x= .str z∧R (Its z) H1
theorem zHa{bs:List Bool}:∀{us:List Value},Vals (bs.map V.bl) us→PyProof.Rows.LSm.BoolsAre us bs:=by
 induction bs with
 | nil=>intro us r;rw[pK] at r;cases r;exact .nil
 | cons n ns ih=>
  intro us r;rw[mN] at r
  cases r with
  | cons r1 r2=>
   cases (show _=Value.bool n from r1);exact .cons n (ih r2)
theorem uN(hc:X.calm=true):wW X (.builtin "all") (fun xs H Q=>∃(p:Addr)(bs:List Bool),xs= [.ref p]∧SqL X.K H p (bs.map V.bl)∧Q (.bl (bs.all id)) H):=by
 intro pins s σ H xs us Q I r h;obtain⟨p,bs,rfl,hq,q⟩:=h;obtain⟨u,rfl,rx⟩:=jR r;cases rx;obtain⟨its,rv,pl,hz⟩:=I.list hq;have hl:=pl.isList;have hb:=zHa rv;have hlt:p<s.heap.objs.size:=by obtain⟨_,e,_⟩:=hl;exact mT e
 refine call_all_walk (tM hl ?_);refine⟨s.heap.objs.size,[s.heap.objs.size,p],[s.heap.objs.size],its.toArray.size,_,_,fun i=>(bs[i]?).getD true,rfl,Walks.list (A:=X.A.in1) (I.ok.hd hc) _ p (nJ hlt) its.toArray,
  ⟨⟨_,nI _ rfl,rfl,rfl⟩,hl.push _⟩,fun i v s' Q' E' hP hQ=>?_,fun h' tk hk=>?_⟩
 ·obtain⟨b,e,rfl⟩:=hb.get i v (by simpa using hP)
  simp only[e,Option.getD_some] at hQ;exact rL hQ
 ·have e:((List.range its.toArray.size).all fun i=>(bs[i]?).getD true)=bs.all id:=by
   rw[mV,hb.length];exact PyProof.Rows.LSm.range_all bs
  rw[e];exact⟨.bl _,H,I.kept (PyProof.Rows.LSm.kept_iter hk),rfl,q⟩
theorem zOi(hc:X.calm=true):wW X (.builtin "sum") (fun xs H Q=>∃(p:Addr)(ns:List Int),xs= [.ref p]∧SqL X.K H p (ns.map V.int)∧Q (.int ns.sum) H):=by
 intro pins s σ H xs us Q I r h;obtain⟨p,ns,rfl,hq,q⟩:=h;obtain⟨u,rfl,rx⟩:=jR r;cases rx;obtain⟨its,rv,pl,hz⟩:=I.list hq;have hi:=zIm rv;obtain⟨xs,hx⟩:=hi.allInts.items;have hl':s.heap.IsList p (intItems xs):=hx▸pl.isList;refine sum_intListG (I.ok.hd hc) hl' fun h' tk t' hk=>?_;have e1:ns=xs.toList.map (·.1):=by
  rw[←nums_intItems,←hx];exact(show numsOf its.toArray.toList=ns from hi.numsOf).symm
 have e2:preSum (numAt xs) xs.size=ns.sum:=by
  rw[preSum_eq,pT (by simp),e1]
 rw[e2];exact⟨.int _,H,I.kept hk,⟨_,rfl⟩,q⟩
def zBd:List V→List V→Bool
 | [],[]=>true
 | x::xs,y::ys=>eqV x y && zBd xs ys
 | _,_=>false
theorem gS:∀(xs ys:List V),xs.length=ys.length→(List.range xs.length).all (fun j=>match xs[j]?,ys[j]? with | some a,some b=>eqV a b | _,_=>true)=zBd xs ys
 | [],[],_=>rfl
 | x::xs,y::ys,h=>by
  have ih:=gS xs ys (by simpa using h);rw[nF,List.range_succ_eq_map,List.all_cons,List.all_map];show(eqV x y && _)=(eqV x y && zBd xs ys);rw[←ih]
  congr 1
theorem zBv:∀{xs ys:List V},xs.length≠ys.length→zBd xs ys=false
 | [],[],h=>absurd rfl h
 | [],_::_,_=>rfl
 | _::_,[],_=>rfl
 | x::xs,y::ys,h=>by
  have ih:=zBv (xs:=xs) (ys:=ys) (by simpa using h);show(eqV x y && zBd xs ys)=false;rw[ih,Bool.and_false]
def zPb(K:W.Frag)(neg:Bool):R2:=fun x y H Q=>∃a b xs ys,x= .ref a∧y= .ref b∧SqL K H a xs∧SqL K H b ys∧xs.all jT=true∧ys.all jT=true∧Q (.bl (if neg then !zBd xs ys else zBd xs ys)) H
theorem Vals.some_at{xs:List V}{us:List Value}(r:Vals xs us){j:Nat}(h:j<us.length):∃x,xs[j]? =some x∧RelV x us[j]:=by
 have hl:=r.length;obtain⟨x,e⟩:∃x,xs[j]? =some x:=⟨xs[j],by simp[hl,h]⟩;obtain⟨u,hu,ru⟩:=r.get e;have e2:us[j]? =some us[j]:=by simp[h]
 rw[e2] at hu;cases hu;exact⟨x,e,ru⟩
theorem zHg{A:Around}{s:Shared}{xs ys:List V}{us ws:List Value}(r:Vals xs us)(q:Vals ys ws)(fx:xs.all jT=true)(fy:ys.all jT=true):
  ∀j(h1:j<us.toArray.size)(h2:j<ws.toArray.size),SeqAt.EqAt A s us.toArray[j] ws.toArray[j] ((fun j=>match xs[j]?,ys[j]? with | some a,some b=>eqV a b | _,_=>true) j):=fun j h1 h2=>by
 obtain⟨x,e1,r1⟩:=r.some_at (j:=j) (by simpa using h1);obtain⟨y,e2,r2⟩:=q.some_at (j:=j) (by simpa using h2);have f1:jT x=true:=pE.mp fx x (mF e1);have f2:jT y=true:=pE.mp fy y (mF e2);have z:=zSn (A:=A) (s:=s) r1 r2 f1 f2;simp only[e1,e2]
 simpa using z
theorem zPu(hu:X.A.units<cLine):OpR X (compareOp .Eq) (zPb X.K false):=by
 intro pins s σ H x y v u Q I rx ry h;obtain⟨a,b,xs,ys,rfl,rfl,ha,hb,fx,fy,q⟩:=h;cases rx;cases ry;obtain⟨its,r1,pl1,_⟩:=I.list ha;obtain⟨its2,r2,pl2,_⟩:=I.list hb;have l1:=r1.length;have l2:=r2.length
 by_cases e:xs.length=ys.length
 ·refine SeqAt.eq_listAt pl1.isList pl2.isList (by simp only[mV];lia) hu (zHg r1 r2 fx fy) ⟨.bl _,H,I,rfl, ?_⟩
  rw[mV,←l1,gS xs ys e];exact q
 ·refine SeqAt.eq_list_lengthsAt pl1.isList pl2.isList (by simp only[mV];simpa [←l1,←l2] using e) hu ⟨.bl _,H,I,rfl, ?_⟩
  have z:=zBv e
  simpa [z] using q
theorem zPw(hu:X.A.units<cLine):OpR X (compareOp .NotEq) (zPb X.K true):=by
 intro pins s σ H x y v u Q I rx ry h;obtain⟨a,b,xs,ys,rfl,rfl,ha,hb,fx,fy,q⟩:=h;cases rx;cases ry;obtain⟨its,r1,pl1,_⟩:=I.list ha;obtain⟨its2,r2,pl2,_⟩:=I.list hb;have l1:=r1.length;have l2:=r2.length
 by_cases e:xs.length=ys.length
 ·refine SeqAt.RcNeAt.lists pl1.isList pl2.isList (by simp only[mV];lia) hu (zHg r1 r2 fx fy) X.prog X.w X.xe _ ⟨.bl _,H,I,rfl, ?_⟩
  rw[mV,←l1,gS xs ys e];exact q
 ·refine SeqAt.RcNeAt.lists_lengths pl1.isList pl2.isList (by simp only[mV];simpa [←l1,←l2] using e) hu X.prog X.w X.xe _ ⟨.bl _,H,I,rfl, ?_⟩
  have z:=zBv e
  simpa [z] using q
def tyS(H:Hp):V→Option String
 | .non=>some "NoneType"
 | .bl _=>some "bool"
 | .int _=>some "int"
 | .str _=>some "str"
 | .ref a=>match H a with
  | some (.lst _)=>some "list"
  | some (.tup _)=>some "tuple"
  | some (.dK _)=>some "dict"
  | _=>none
 | _=>none
def zO(t T:String):Bool:=t==T ||(t== "bool" && T== "int")
theorem zMo{K:W.Frag}{H:Hp}{x:V}{t:String}(h:tyS H x=some t):zAl K H x (.type t):=by
 cases x with
 | non=>cases h;exact .non
 | bl b=>cases h;exact .bl b
 | int i=>cases h;exact .int i
 | str z=>cases h;exact .str z
 | ref a=>
  have h':(match H a with | some (.lst _)=>some "list" | some (.tup _)=>some "tuple" | some (.dK _)=>some "dict" | _=>none)=some t:=h
  cases e:H a with
  | none=>rw[e] at h';cases h'
  | some o=>
   rw[e] at h'
   cases o with
   | lst xs=>cases h';exact .lst e
   | tup xs=>cases h';exact .tup e
   | dK kvs=>cases h';exact .dK e
   | _=>cases h'
 | byt b=>cases h
 | flt b=>cases h
 | ty n=>cases h
def tyL:List String:=["NoneType","bool","int","str","list","tuple","dict"]
def kitB(t T:String):Option Bool:=if(Value.type t==Value.type T)=true then some true else if W.kitMeta T=true then(fastBuiltinMro t).map (·.contains (.type T)) else none
theorem zRi:(tyL.all fun t=>tyL.all fun T=>kitB t T==some (zO t T))=true:=by decide+kernel
theorem zFu{K:W.Frag}{t T:String}(h1:t∈tyL)(h2:T∈tyL):W.kitOne K (.type t) (.type T)=some (zO t T):=by
 have a:=pE.mp (pE.mp zRi t h1) T h2;have b:kitB t T=some (zO t T):=by simpa using a
 exact b
theorem wQ{H:Hp}{x:V}{t:String}(h:tyS H x=some t):t∈tyL:=by
 cases x<;>first |(cases h;simp[tyL];done)|(cases h;done)| skip
 rename_i a;have h':(match H a with | some (.lst _)=>some "list" | some (.tup _)=>some "tuple" | some (.dK _)=>some "dict" | _=>none)=some t:=h
 split at h'<;>first |(cases h';simp[tyL];done)|(cases h';done)
theorem zQt{pins:List (Addr×Obj)}{σ:St}{H:Hp}{s:Shared}{x:V}{u:Value}{t:String}(I:Inv X pins σ H s)(rx:RelV x u)(h:tyS H x=some t):
  ∃φ:Heap→Prop,W.KitX X.K u (.type t) φ∧φ s.heap∧u≠ .builtin "__main__.__loader__#opaque":=by
 cases zMo (K:=X.K) h with
 | non=>cases (show u=Value.none from rx);exact⟨_,W.kitx_none,mC,fun z=>nomatch z⟩
 | bl y=>cases (show u=Value.bool y from rx);exact⟨_,W.kitx_bool,mC,fun z=>nomatch z⟩
 | int i=>obtain⟨t,q⟩:=(show∃t,u=Value.int i t from rx);cases q;exact⟨_,W.kitx_int,mC,fun z=>nomatch z⟩
 | str y=>obtain⟨t,q⟩:=(show∃t,u=Value.str y t from rx);cases q;exact⟨_,W.kitx_str,mC,fun z=>nomatch z⟩
 | flt y=>obtain⟨t,q⟩:=(show∃t,u=Value.float y t from rx);cases q;exact⟨_,W.kitx_float,mC,fun z=>nomatch z⟩
 | @lst a xs ea=>
  cases (show u=Value.ref a from rx);obtain⟨_,_,n,_,h1⟩:=(show ObjOk X.prog X.w H s.heap a (.lst xs) from I.hok a _ ea);exact⟨_,bN,⟨_,h1,rfl⟩,fun z=>nomatch z⟩
 | @frz a ob xs ea=>
  cases (show u=Value.ref a from rx);obtain⟨_,_,_,n,_,h1⟩:=(show ObjOk X.prog X.w H s.heap a (.frz ob (.lst xs)) from I.hok a _ ea);exact⟨_,bN,⟨_,h1,rfl⟩,fun z=>nomatch z⟩
 | @tup a xs ea=>
  cases (show u=Value.ref a from rx);obtain⟨_,_,_,p⟩:=(show ObjOk X.prog X.w H s.heap a (.tup xs) from I.hok a _ ea);obtain⟨o,h1,h2,_⟩:=p;exact⟨_,W.kitx_tuple,⟨o,h1,h2⟩,fun z=>nomatch z⟩
 | @dK a kvs ea=>
  cases (show u=Value.ref a from rx);obtain⟨_,_,vs,_,p⟩:=(show ObjOk X.prog X.w H s.heap a (.dK kvs) from I.hok a _ ea);obtain⟨o,es,ep,h1,h2,_⟩:=p;exact⟨_,aL,⟨o,h1,h2.1⟩,fun z=>nomatch z⟩
 | @dT a kvs ea=>
  cases (show u=Value.ref a from rx);obtain⟨_,_,xs,_,o,es,ep,h1,h2,_⟩:=(show ObjOk X.prog X.w H s.heap a (.dT kvs) from I.hok a _ ea);exact⟨_,aL,⟨o,h1,h2.1⟩,fun z=>nomatch z⟩
theorem qX{T U:String}(hT:T∈tyL)(hU:U∈tyL):wW X (.builtin "isinstance") (fun xs H Q=>∃x t p,xs= [x, .ref p]∧H p=some (.tup [.ty T, .ty U])∧tyS H x=some t∧Q (.bl (zO t T || zO t U)) H):=by
 intro pins s σ H xs us Q I r h;obtain⟨x,t,p,rfl,hp,ht,q⟩:=h;obtain⟨u,w',rfl,ru,rw'⟩:=zEw r;cases (show w'=Value.ref p from rw');obtain⟨φ,Z,hφ,hne⟩:=zQt I ru ht;obtain⟨_,its,rv,pl⟩:=(show ObjOk X.prog X.w H s.heap p (.tup [.ty T, .ty U]) from I.hok p _ hp);obtain⟨v1,v2,e,r1,r2⟩:=zEw rv;subst e;cases (show v1=Value.type T from r1);cases (show v2=Value.type U from r2);obtain⟨o,ho,hc,n,hd⟩:=pl;obtain⟨oc,od,odt,osl⟩:=o;cases (show oc=Value.type "tuple" from hc);cases (show odt=Data.seq _ n from hd);refine W.kia_tup Z I.kIn hφ ho (b:=zO t T || zO t U) ?_ hne fun tk=>⟨.bl _,H,I.tok _,rfl,q⟩
 have k1:=zFu (K:=X.K) (wQ ht) hT;have k2:=zFu (K:=X.K) (wQ ht) hU;simp only[W.kitAny,k1,k2];cases zO t T<;>cases zO t U<;>rfl
theorem zCk{T:String}(hT:T∈tyL):wW X (.builtin "isinstance") (fun xs H Q=>∃x t,xs= [x, .ty T]∧tyS H x=some t∧Q (.bl (zO t T)) H):=by
 intro pins s σ H xs us Q I r h;obtain⟨x,t,rfl,ht,q⟩:=h;obtain⟨u,w',rfl,ru,rw'⟩:=zEw r;cases (show w'=Value.type T from rw');exact zLu I ru (zMo ht) (zFu (wQ ht) hT) fun tk=>⟨.bl _,H,I.tok _,rfl,q⟩
end
theorem yO:bootBuiltins "len" =some (.builtin "len"):=by decide+kernel
theorem zI:bootBuiltins "isinstance" =some (.builtin "isinstance"):=by decide+kernel
theorem zFc:bootBuiltins "all" =some (.builtin "all"):=by decide+kernel
theorem zTn:bootBuiltins "sum" =some (.builtin "sum"):=by decide+kernel
theorem zAn:bootBuiltins "min" =some (.builtin "min"):=by decide+kernel
theorem zTe:bootBuiltins "max" =some (.builtin "max"):=by decide+kernel
theorem wH:bootBuiltins "sorted" =some (.builtin "sorted"):=by decide+kernel
theorem wA:bootBuiltins "int" =some (.type "int"):=by decide+kernel
theorem qN:bootBuiltins "str" =some (.type "str"):=by decide+kernel
theorem zFy:bootBuiltins "bool" =some (.type "bool"):=by decide+kernel
theorem xB:bootBuiltins "list" =some (.type "list"):=by decide+kernel
theorem yP:bootBuiltins "dict" =some (.type "dict"):=by decide+kernel
theorem zGm:bootBuiltins "tuple" =some (.type "tuple"):=by decide+kernel
structure Bl(mg:Str→Option Value):Prop where
 len:mg "len" =none
 range:mg "range" =none
 isinstance:mg "isinstance" =none
 all:mg "all" =none
 sum:mg "sum" =none
 int:mg "int" =none
 str:mg "str" =none
 bool:mg "bool" =none
 list:mg "list" =none
 dict:mg "dict" =none
 tuple:mg "tuple" =none
structure Dn(P:Program)(w:World)(K:W.Frag)(mg:Str→Option Value)(base:Heap)(k:Nat)(x:Str)(ps:List Str)(sp:Sp):Prop where
 ex:∃(f:Addr)(fd:FuncData),FnOk P w K mg base CX0 k f fd ps sp∧Binds K fd ps []∧W.keepIn K (.ref f)=true∧mg x=some (.ref f)
section
variable{X:Cx}{k j:Nat}{x:Str}{ps:List Str}{sp:Sp}{e:Expr}{es:List Expr}{t:TA}{p pos:Pos}
theorem zT(D:Dn X.prog X.w X.K X.mg X.base k x ps sp)(hr:Room j X.A)(hj:k≤j)(hg:Gl X x)(ha:PA X (e::es) t)(hdb:(x==("__debug__" :Str))=false:=by decide)
  (he:starEach (e::es) X.env=(false,eval e X.env)::starEach es X.env:=by rfl) (hpl:(backTo pos (starEach es X.env)).any (·.1)=false:=by rfl):PE X (.Call (.Name x p) (e::es) [] pos) (uH sp [] E0 t):=by
 obtain⟨f,fd,h1,h2,h3,h4⟩:=D.ex;exact zQz h1 (hr.mono hj) hg h4 h3 h2 .nil zRy ha hdb he hpl
theorem zTu(D:Dn X.prog X.w X.K X.mg X.base k x ps sp)(hr:Room j X.A)(hj:k≤j)(hg:Gl X x)(hdb:(x==("__debug__" :Str))=false:=by decide):PE X (.Call (.Name x p) [] [] pos) (uH sp [] E0 zCe):=by
 obtain⟨f,fd,h1,h2,h3,h4⟩:=D.ex;exact zNu h1 (hr.mono hj) hg h4 h3 h2 .nil zRy hdb
end
theorem zIg{α β:Type}{l:List α}{f:α→β→Sem (ForInStep β)}(g:β→α→β)(h:∀x∈l,∀c,f x c=pure (.yield (g c x))):∀b:β,forIn l b f=pure (l.foldl g b):=by
 induction l with
 | nil=>intro b;rfl
 | cons a r ih=>
  intro b;rw[List.forIn_cons,h a mK];show forIn r (g b a) f=_;rw[ih (fun x hx=>h x (mI _ hx)) (g b a)]
  rfl
def wR(env:Env)(cs:List (Str×Addr))(x:Str×NameKind):List (Str×Addr):=
 if(x.2==NameKind.free)=true then(match env.cells.lookup x.1 with | some a=>(x.1,a)::cs | none=>cs) else cs
def clo(env:Env)(names:List (Str×NameKind)):List (Str×Addr):=names.foldl (wR env) []
theorem kJ{scope:Scope}{env:Env}(h:∀x∈scope.names,x.2= .free→∃c,env.cells.lookup x.1=some c):closureFor scope env=pure (clo env scope.names):=by
 simp only[closureFor];rw[zIg (wR env) (fun x hx c=>by
  obtain⟨n,k⟩:=x
  by_cases hk:k= .free
  ·subst hk
   obtain⟨a,e⟩:=h _ hx rfl;have e':env.cells.lookup n=some a:=e;simp[wR,cellOf,e']
  ·have e:(k==NameKind.free)=false:=by simpa using hk
   simp[wR,e])]
 rfl
theorem zJp{env:Env}:∀(names:List (Str×NameKind))(cs:List (Str×Addr)),(∀p∈cs,env.cells.lookup p.1=some p.2)→∀p∈names.foldl (wR env) cs,env.cells.lookup p.1=some p.2
 | [],_,h=>h
 | x::r,cs,h=>by
  refine zJp r (wR env cs x) fun p hp=>?_;unfold wR at hp;split at hp
  ·split at hp
   ·rename_i a e
    rcases mG.mp hp with z | z
    ·rw[z];exact e
    ·exact h p z
   ·exact h p hp
  ·exact h p hp
theorem zGg{env:Env}{p:Str×Addr}:∀(names:List (Str×NameKind))(cs:List (Str×Addr)),p∈cs→p∈names.foldl (wR env) cs
 | [],_,h=>h
 | x::r,cs,h=>by
  refine zGg r (wR env cs x) ?_;unfold wR;split
  ·split
   ·exact mI _ h
   ·exact h
  ·exact h
theorem zJs{env:Env}{n:Str}{c:Addr}(e:env.cells.lookup n=some c):∀(names:List (Str×NameKind))(cs:List (Str×Addr)),(n,NameKind.free)∈names→(n,c)∈names.foldl (wR env) cs
 | [],_,h=>nomatch h
 | x::r,cs,h=>by
  rcases mG.mp h with z | z
  ·subst z
   refine zGg r _ ?_;unfold wR;rw[mW (by rfl)];show(n,c)∈(match env.cells.lookup n with | some a=>(n,a)::cs | none=>cs)
   rw[e];exact mK
  ·exact zJs e r _ z
theorem qE{α:Type}{n:Str}{c:α}:∀{l:List (Str×α)},(n,c)∈l→∃c',l.lookup n=some c'
 | [],h=>nomatch h
 |(m,d)::r,h=>by
  by_cases e:n=m
  ·subst e;exact⟨d,by simp[rQ]⟩
  ·rcases mG.mp h with z | z
   ·cases z;exact absurd rfl e
   ·obtain⟨c',q⟩:=qE z
    have e2:(n==m)=false:=by simpa using e
    exact⟨c',by rw[rQ,e2];exact q⟩
theorem zOk{env:Env}{names:List (Str×NameKind)}{n:Str}{c:Addr}(h:(clo env names).lookup n=some c):env.cells.lookup n=some c:=
 zJp names [] (fun _ z=>nomatch z) (n,c) (pV h)
theorem zDe{env:Env}{names:List (Str×NameKind)}{n:Str}{c:Addr}(e:env.cells.lookup n=some c)(h:(n,NameKind.free)∈names):(clo env names).lookup n=some c:=by
 obtain⟨c',q⟩:=qE (zJs e names [] h);have q':(clo env names).lookup n=some c':=q;have z:=zOk q';rw[e] at z;rw[q',←z]
inductive FreeOk (X:Cx) (scope:Scope):List (Str×Nat)→Prop where
 | nil:FreeOk X scope []
 | cons {x:Str} {i:Nat} {r:List (Str×Nat)} (h1:X.N[i]? =some x) (h2:X.env.kindOf x=some .cell) (h3:scope.names.lookup x=some .free) (h:FreeOk X scope r):FreeOk X scope ((x,i)::r)
theorem FreeOk.mem{X:Cx}{scope:Scope}:∀{F:List (Str×Nat)},FreeOk X scope F→∀p∈F,X.N[p.2]? =some p.1∧X.env.kindOf p.1=some .cell∧scope.names.lookup p.1=some .free
 | _, .nil,_,h=>nomatch h
 | _, .cons h1 h2 h3 h,p,hp=>by
  rcases mG.mp hp with z | z
  ·subst z;exact⟨h1,h2,h3⟩
  ·exact h.mem p z
structure CompSc(X:Cx)(scope:Scope)(own:List Str)(F:List (Str×Nat)):Prop where
 kind:scope.kind= .function
 nocell:(scope.names.all fun y=>!(y.2==NameKind.cell))=true
 loc:(scope.names.all fun y=>!(y.2==NameKind.local)||(scope.names.lookup y.1==some NameKind.local))=true
 fr:(scope.names.all fun y=>!(y.2==NameKind.free)||(X.env.scope.names.lookup y.1==some NameKind.cell))=true
 free:FreeOk X scope F
def xK(own:List Str)(F:List (Str×Nat)):List Str:=own++F.map (·.1)
def gP(own:List Str)(F:List (Str×Nat))(σ:St):St:=own.map (fun _=>Option.none)++F.map (fun p=>(σ[p.2]?).join)
def xY(X:Cx)(own:List Str)(F:List (Str×Nat))(scope:Scope)(C:Addr)(s₃:Shared)(H₃:Hp)(ex:List Addr):Cx where
 prog:=X.prog
 w:=X.w
 K:=X.K
 mg:=X.mg
 base:=X.base
 A:=X.A
 N:=xK own F
 s₀:=s₃
 H₀:=H₃
 env:=compEnvC scope (clo X.env scope.names) C X.env
 outer:=X.stack
 stack:=X.stack
 ex:=ex
 fn:=fun _=>false
 calm:=X.calm
 pn:=[]
 xe:=fun _ _=>False
theorem CompSc.nc{X:Cx}{scope:Scope}{own:List Str}{F:List (Str×Nat)}(S:CompSc X scope own F):∀y∈scope.names,y.2≠ .cell:=fun y hy e=>by
 have q:=pE.mp S.nocell y hy;rw[e] at q;exact absurd q (by decide)
theorem CompSc.lc{X:Cx}{scope:Scope}{own:List Str}{F:List (Str×Nat)}(S:CompSc X scope own F):∀y∈scope.names,y.2= .local→scope.names.lookup y.1=some .local:=fun y hy e=>by
 have q:=pE.mp S.loc y hy;rw[e] at q
 simpa using q
theorem CompSc.fc{X:Cx}{scope:Scope}{own:List Str}{F:List (Str×Nat)}(S:CompSc X scope own F):∀y∈scope.names,y.2= .free→X.env.kindOf y.1=some .cell:=fun y hy e=>by
 have q:=pE.mp S.fr y hy;rw[e] at q;have q':X.env.scope.names.lookup y.1=some NameKind.cell:=by simpa using q
 exact q'
theorem zGe{scope:Scope}{env:Env}(hc:∀y∈scope.names,y.2≠ .cell){x:Str}(h:(relabel scope env).names.lookup x=some .cell∨(relabel scope env).names.lookup x=some .free):(x,NameKind.free)∈scope.names:=by
 have go:∀k,(relabel scope env).names.lookup x=some k→k= .cell∨k= .free→(x,NameKind.free)∈scope.names:=fun k e hk=>by
  have m:=pV e;unfold relabel at m;obtain⟨⟨n,k0⟩,hm,e2⟩:=nL.mp m
  by_cases hf:k0= .free
  ·subst hf
   dsimp only at e2;split at e2<;>(cases e2;exact hm)
  ·have e3:(k0==NameKind.free)=false:=by simpa using hf
   simp only[e3,sP,aN,aI] at e2;cases e2;rcases hk with z | z
   ·exact absurd z (hc _ hm)
   ·exact absurd z hf
 rcases h with h | h
 ·exact go _ h (.inl rfl)
 ·exact go _ h (.inr rfl)
theorem vU{env:Env}(hf:env.scope.kind= .function):∀{names:List (Str×NameKind)}{x:Str},names.lookup x=some .free→env.kindOf x=some .cell→
  (names.map fun(n,k)=>if(k==NameKind.free && env.scope.kind== .function && env.kindOf n==some .cell) then(n,NameKind.cell) else(n,k)).lookup x=some .cell
 | [],_,h,_=>by simp at h
 |(n,k)::r,x,h,hx=>by
  have ih:=@vU env hf r x;rw[mN]
  by_cases e:x=n
  ·subst e
   have hk:k= .free:=by simpa [rQ] using h
   subst hk;have c:(NameKind.free==NameKind.free && env.scope.kind== .function && env.kindOf x==some .cell)=true:=by rw[hf,hx];rfl
   show List.lookup x ((if(NameKind.free==NameKind.free && env.scope.kind== .function && env.kindOf x==some .cell)=true then(x,NameKind.cell) else(x,NameKind.free))::_)=_;rw[mW c];simp[rQ]
  ·have e2:(x==n)=false:=by simpa using e
   have h':r.lookup x=some .free:=by rw[rQ,e2] at h;exact h
   have q:=ih h' hx;dsimp only;split
   ·rw[rQ,e2];exact q
   ·rw[rQ,e2];exact q
section
variable{X:Cx}{pins:List (Addr×Obj)}{σ:St}{H:Hp}{s:Shared}
theorem Inv.freeCells{scope:Scope}{own:List Str}{F:List (Str×Nat)}(I:Inv X pins σ H s)(S:CompSc X scope own F):∀x∈scope.names,x.2= .free→∃c,X.env.cells.lookup x.1=some c:=fun x hx e=>
 I.ok.has x.1 (.inl (S.fc x hx e))
theorem Inv.notStk(I:Inv X pins σ H s){b:Addr}(h1:b≠X.env.locals)(h2:b∉X.fs):b∉frs X.stack:=fun z=>(mG.mp (I.stkSub b z)).elim h1 h2
theorem zIp{scope:Scope}{own:List Str}{F:List (Str×Nat)}{fp:List Addr}{h1:Heap}{tk:Nat}(I:Inv X pins σ H s)(S:CompSc X scope own F)(hf:∀b∈fp,zBc X pins H b)(hlt:∀b∈fp,b<s.heap.objs.size){s3:Shared}
  (e3:s3={s with heap:=s.heap.push {cls:=.type "list",data:=.seq ([]:List Value).toArray}})
  (hns:h1.Ns s3.heap.objs.size (fun _=>none)) (hk:∀b o,s3.heap.get? b=some o→h1.get? b=some o):
  Inv (xY X own F scope s3.heap.objs.size s3 H (s.heap.objs.size::fp)) [] (gP own F σ) H {s3 with heap:=h1,toks:=tk}:=by
 have sz3:s3.heap.objs.size=s.heap.objs.size+1:=by rw[e3];exact aJ ..
 have k3:∀b o,s.heap.get? b=some o→s3.heap.get? b=some o:=fun b o e=>by rw[e3];exact mS _ e
 have I3:Inv X pins σ H s3:=by rw[e3];exact I.kept (t':=s.toks) fun b o e=>mS _ e
 have lkup:∀x c,(clo X.env scope.names).lookup x=some c→X.env.cells.lookup x=some c:=fun x c e=>zOk e;have base_lt:∀b o,X.base.get? b=some o→b<X.s₀.heap.objs.size:=fun b o e=>nC (mT e) I.ok.bsz;have kf:X.env.scope.kind= .function:=I.ok.kind;refine⟨⟨I.ok.mod,S.kind,I.ok.glob,I.ok.blt,mE _,fun x y c h1 h2=>I.ok.inj x y c (lkup x c h1) (lkup y c h2),fun x hx=>?_,fun x c hx _=>(nomatch hx),I.ok.hd,I.ok.frames, .inl rfl,fun b hb=>?_,fun b o e=>?_, ?_,fun b o e hb=>?_,fun b hb=>?_,I3.stack,fun b hb=>I.stkFree b hb⟩,
  rfl,I3.bare,Un.kept hk,⟨_,hns,fun i x v e1 e2 e3'=>?_⟩,fun x c e=>?_, ?_,fun x c e=>I.freeC x c (lkup x c e),fun p hp=>absurd (show p∈([]:List (Addr×Obj)) from hp) (by simp),I3.hok.kept hk, ?_⟩
 ·have hm:=zGe S.nc hx
  obtain⟨c,e⟩:=I.freeCells S _ hm rfl;exact⟨c,zDe e hm⟩
 ·rcases mG.mp hb with z | z
  ·subst z
   refine⟨fun q=>?_,fun x c e q=>?_⟩
   ·have q':s.heap.objs.size=s3.heap.objs.size:=q
    lia
   ·obtain⟨v,u⟩:=I.cell x c (lkup x c e)
    exact absurd u.lt (by rw[q];exact rM _)
  ·refine⟨fun q=>?_,fun x c e=>(hf b z).2.2.2.2.1 x c (lkup x c e)⟩
   exact nJ (nC (hlt b z) (show s.heap.objs.size≤s3.heap.objs.size by lia)) q
 ·obtain⟨a1,a2⟩:=I.bs b o e
  exact⟨k3 b o a1,a2⟩
 ·exact mY (mY I.ok.bsz I.sz) (by show s.heap.objs.size≤s3.heap.objs.size;lia)
 ·have l1:=base_lt b o e
  rcases mG.mp hb with z | z
  ·exact absurd (nC l1 I.sz) (by rw[z];exact rM _)
  ·rcases(hf b z).2.2.2.1 with q | q
   ·exact I.ok.noex b o e q
   ·exact absurd l1 (Nat.not_lt.mpr q)
 ·rcases mG.mp hb with z | z
  ·subst z
   exact I.notStk (pQ I.lt) (I.nofs (mE _))
  ·exact I.notStk (hf b z).2.1 (hf b z).2.2.1
 ·-- a name that is seen
  have hi:own.length≤i:=by
   by_cases z:i<own.length
   ·rw[gP,nX (by simpa using z),mU] at e2
    cases q:own[i]? with
    | none=>rw[q] at e2;cases e2
    | some y=>rw[q] at e2;cases e2
   ·lia
  rw[gP,nR (by simpa using hi),mU] at e2;have e1':(own++F.map (·.1))[i]? =some x:=e1;rw[nR hi,mU] at e1';simp only[mB] at e2
  cases q:F[i - own.length]? with
  | none=>rw[q] at e2;cases e2
  | some p=>
   rw[q] at e1' e2;simp only[Option.map_some,Option.some.injEq] at e1' e2;obtain⟨f1,f2,f3⟩:=S.free.mem p (mF q);subst e1';obtain⟨m,hn,hl⟩:=I.loc;have e4:σ[p.2]? =some (some v):=by
    cases r:σ[p.2]? with
    | none=>rw[r] at e2;cases e2
    | some o=>rw[r] at e2;exact congrArg some e2
   obtain⟨u,ru,l⟩:=hl p.2 p.1 v f1 e4 (.inr (.inl f2));refine⟨u,ru, .inr ⟨.inl (vU kf f3 f2), ?_⟩⟩;rcases l with⟨l,_⟩|⟨_,c,ec,z⟩
   ·rw[f2] at l;cases l
   ·refine⟨c,zDe ec (pV f3), ?_⟩
    obtain⟨oc,ho,hd⟩:=z;exact⟨oc,hk _ _ (k3 _ _ ho),hd⟩
 ·obtain⟨v,oc,ho,hd⟩:=I.cell x c (lkup x c e)
  exact⟨v,oc,hk _ _ (k3 _ _ ho),hd⟩
 ·exact I.hok.fresh (by show s.heap.objs.size≤s3.heap.objs.size;lia)
 ·show(gP own F σ).length=(xK own F).length
  simp[gP,xK]
theorem zLj{scope:Scope}{own:List Str}{F:List (Str×Nat)}{fp:List Addr}{s3 s4:Shared}{σ':St}{H':Hp}{ys:List V}{its:List Value}{n:Nat}(I:Inv X pins σ H s)(hf:∀b∈fp,zBc X pins H b)
  (e3:s3={s with heap:=s.heap.push {cls:=.type "list",data:=.seq ([]:List Value).toArray}})
  (J:Inv (xY X own F scope s3.heap.objs.size s3 H (s.heap.objs.size::fp)) [] σ' H' s4) (hz:ys.length≤sizeLine) (hv:Vals ys its)
  (ha:s4.heap.get? s.heap.objs.size=some {cls:=.type "list",data:=.seq its.toArray n}) (hn:H' s.heap.objs.size=none):Inv X pins σ (upd H' s.heap.objs.size (.lst ys)) s4:=by
 have sz3:s3.heap.objs.size=s.heap.objs.size+1:=by rw[e3];exact aJ ..
 have k3:∀b o,s.heap.get? b=some o→s3.heap.get? b=some o:=fun b o e=>by rw[e3];exact mS _ e
 have U:Un (frs X.stack) (s.heap.objs.size::fp) H H' s3.heap s4.heap:=J.base;have ne:∀b o,s.heap.get? b=some o→b≠s.heap.objs.size:=fun b o e=>nJ (mT e);have nx:∀b o,s.heap.get? b=some o→b∉fp→b∉s.heap.objs.size::fp:=fun b o e h z=>(mG.mp z).elim (ne b o e) h;have os4:s4.os=s.os:=by
  have q:s4.os=s3.os:=J.os;rw[q,e3]
 refine I.call' (ch:=fp) os4 ⟨fun b o e z hb hx=>U.keep b o (k3 b o e) z hb (nx b o e hx),fun b o e z hb hx=>U.slot b o (k3 b o e) z hb (nx b o e hx),fun b o e z hx=>?_,fun b o e hx=>U.there b o (k3 b o e) (nx b o e hx),fun b xs e=>?_,fun b o u e=>?_,fun b ps e=>?_⟩ (fun b u e=>?_) J.bare fun b hb=>?_
 ·rw[zR (ne b o e)]
  exact U.free b o (k3 b o e) z (nx b o e hx)
 ·have q:=U.tups b xs e
  rw[zR (yK q hn)];exact q
 ·have q:=U.frzs b o u e
  rw[zR (yK q hn)];exact q
 ·obtain⟨more,q⟩:=U.tbls b ps e
  exact⟨more,by rw[zR (yK q hn)];exact q⟩
 ·by_cases hb:b=s.heap.objs.size
  ·subst hb
   rw[zB] at e;cases e;exact⟨hz,its,n,hv,ha⟩
  ·rw[zR hb] at e
   exact(J.hok b u e).stay (fun _ _ _ q=>q) (fun c q=>by rw[zR (yK q hn)];exact q) fun c xs q=>by rw[zR (yK q hn)];exact q
 ·obtain⟨_,f1,_,f3,f4,f5⟩:=hf b hb
  exact⟨f3,f1,f4,f5⟩
theorem zCn{H':Hp}{s4:Shared}{C:Addr}{h':Heap}{σ4:St}(I:Inv X pins σ H s)(hC:s.heap.objs.size≤C)(I4:Inv X pins σ4 H' s4)(hn:H' C=none)(hs:Heap.SameBut C s4.heap h'):Inv X pins σ4 H' {s4 with heap:=h'}:=by
 have q:=I4.turned (it:=C) (t':=s4.toks) (h':=h') (fun b o hb e=>(hs.2 b hb).trans e) hn (pQ (nC I.lt hC)) (.inr (mY I.sz hC)) (fun x c e z=>?_) (fun p hp z=>?_)
 ·exact q
 ·obtain⟨v,u⟩:=I.cell x c e
  exact absurd (nC u.lt (by rw[z];exact hC)) (rM _)
 ·exact absurd (nC (mT (I.pin p hp).1) (by rw[z];exact hC)) (rM _)
end
def PTs(X:Cx)(ifs:List Expr)(t:TT):Prop:=
 ∀(pins:List (Addr×Obj))(s:Shared)(σ:St)(H:Hp)(Q:Bool→Hp→Prop),Inv X pins σ H s→t σ H Q→
  wpAny (model X.prog X.w) X.A (forIn ifs true fun c r=>if r=true then do let ok ←isTrue c X.env (eval c X.env);pure (ForInStep.yield ok) else pure (ForInStep.yield r)) (TP X pins σ Q) X.xe s
def gO:TT:=fun _ H Q=>Q true H
theorem yZ{X:Cx}:PTs X [] gO:=fun _ _ _ H _ I h=>wpAny_tests_nil ⟨H,I,h⟩
theorem uD{X:Cx}{c:Expr}{t:TT}(h:PT X c t):PTs X [c] t:=fun pins s σ H Q I q=>wpAny_tests_one (h pins s σ H Q I q)
theorem zHy{prog:Program}{w:World}{A:Around}{R:Result→Shared→Prop}{s:Shared}{elt target iter:Expr}{ifs:List Expr}{scope:Scope}{pos:Pos}{it acc:Value}{env:Env}(I:Nat→Shared→Prop)
  (turn:∀n s,I n s→wpAny (model prog w) A (pyNext it) (fun r s₁=>match r with
   | none=>R (.ok .next) s₁
   | some v=>wpAny (model prog w) A (letOwnedTupleGo target it v) (fun _ s₂=>wpAny (model prog w) A (assign target env v) (fun _ s₃=>
     wpAny (model prog w) A (forIn ifs true fun c r=>if r=true then do let ok ←isTrue c env (eval c env);pure (ForInStep.yield ok) else pure (ForInStep.yield r)) (fun ok s₄=>
      if ok=true then wpAny (model prog w) A (eval elt env) (fun x s₅=>
       wpAny (model prog w) A (call (.builtin "list.append") [acc,x]) (fun _ s₆=>∃m,m<n∧I m s₆) (fun _ _=>False) s₅) (fun _ _=>False) s₄
      else∃m,m<n∧I m s₄) (fun _ _=>False) s₃) (fun _ _=>False) s₂) (fun _ _=>False) s₁) (fun _ _=>False) s)
  (n:Nat) (h:I n s):codeAny (model prog w) A (.compLoop (.ListComp elt [⟨target,iter,ifs,0⟩] scope pos) 0 it acc env) R s:=by
 refine codeAny_loop rfl I (fun n s hI=>?_) n h;show wpAny _ A ((compTurn (.ListComp elt [⟨target,iter,ifs,0⟩] scope pos) 0 it acc env).onRaise (fun x=>do noteFrame x env;theTreesLotGoes x)) _ _ s;refine wpAny_noted ?_;rw[compTurn_list];refine mH (wpAny_standAt (mH (rF (turn n s hI) (fun r s₁ h₁=>?_) fun _ _ f=>f.elim)))
 cases r with
 | none=>exact mZ h₁
 | some v=>
  refine mH (rF h₁ (fun _ s₂ h₂=>mH (rF h₂ (fun _ s₃ h₃=>mH (rF h₃ (fun ok s₄ h₄=>?_) fun _ _ f=>f.elim)) fun _ _ f=>f.elim)) fun _ _ f=>f.elim)
  cases ok with
  | false=>exact mZ ⟨rfl,h₄⟩
  | true=>exact mH (mH (rF h₄ (fun x s₅ h₅=>mH (rF h₅ (fun _ s₆ h₆=>mZ (mZ ⟨rfl,h₆⟩)) fun _ _ f=>f.elim)) fun _ _ f=>f.elim))
def zTt(σ σ':St):Prop:=σ'.length=σ.length∧∀(i:Nat) v,σ'[i]? =some (some v)→σ[i]? =some (some v)
theorem zOo{σ:St}{i:Nat}{v:Option V}(h:σ[i]? =some none):zTt (σ.set i v) σ:=by
 refine⟨by simp,fun j u e=>?_⟩
 by_cases hj:i=j
 ·subst hj;rw[h] at e;cases e
 ·rw[tY hj];exact e
def xV(own:List Str)(F:List (Str×Nat))(g:TG)(tt:TT)(te:TE)(σ:St)(Q:VK)(J:It)(H1:Hp):Prop:=∃W:Nat→Nat→List V→Hp→Prop,(∃m,W 0 m [] H1)∧∀i m ys H',W i m ys H'→ys.length≤i→
 (J.stop i H'∧i≤sizeLine∧∀p,H' p=none→Q (.ref p) (upd H' p (.lst ys)))∨
 (J.go i H'∧i<sizeLine∧∃N:List V→Hp→Prop,(∀ys' H'',N ys' H''→∃m',m'<m∧W (i+1) m' ys' H'')∧
  ∀x H2,J.yld i H' x H2→g x (gP own F σ) H2 fun σ3 H3=>zTt σ3 (gP own F σ)∧tt σ3 H3 fun b H4=>if b=true then te σ3 H4 fun y H5=>N (ys++ [y]) H5 else N ys H4)
def zDs(own:List Str)(F:List (Str×Nat))(wi:TI)(g:TG)(tt:TT)(te:TE):TE:=fun σ H Q=>wi σ H fun J H1=>xV own F g tt te σ Q J H1
section
variable{X:Cx}{scope:Scope}{own:List Str}{F:List (Str×Nat)}{elt tg iter:Expr}{ifs:List Expr}{pos:Pos}{wi:TI}{g:TG}{tt:TT}{te:TE}
abbrev yT(s:Shared):Shared:={s with heap:=s.heap.push {cls:=.type "list",data:=.seq ([]:List Value).toArray}}
theorem zHq{pins:List (Addr×Obj)}{σ:St}{H:Hp}{s:Shared}{Q:VK}{RR:Addr→Result→Shared→Prop}{it:Addr}{fp:List Addr}{tn:Nat→Heap→Prop}{J:It}(S:CompSc X scope own F)(hc:X.calm=true)
  (hg:∀C s₃ H₃ ex,PG (xY X own F scope C s₃ H₃ ex) tg g) (ht:∀C s₃ H₃ ex,PTs (xY X own F scope C s₃ H₃ ex) ifs tt) (he:∀C s₃ H₃ ex,PE (xY X own F scope C s₃ H₃ ex) elt te)
  (I:Inv X pins σ H s) (T:zFt X.prog X.w X.K tg J fp it tn) (st:tn 0 s.heap) (hf:∀b∈fp,zBc X pins H b)
  (h:xV own F g tt te σ Q J H)
  (hR:∀C s4 H4,s.heap.objs.size≤C→C≠s.heap.objs.size→Inv X pins σ H4 s4→Q (.ref s.heap.objs.size) H4→H4 C=none→(∃m,s4.heap.Ns C m)→RR C (.ok .next) s4):
  wpAny (model X.prog X.w) X.A (newList []) (fun acc s₃=>wpAny (model X.prog X.w) X.A (newFunctionEnv scope X.env.globals (clo X.env scope.names) [] X.env.qual none .none (some X.env)) (fun cenv s₄=>
   codeAny (model X.prog X.w) X.A (.compStart (.ListComp elt [⟨tg,iter,ifs,0⟩] scope pos) 0 (.ref it) acc {cenv with scope:=relabel scope X.env}) (fun r s'=>acc= .ref s.heap.objs.size∧RR cenv.locals r s') s₄) X.xe s₃) X.xe s:=by
 obtain⟨W,⟨m0,w0⟩,turn⟩:=h;have hlt:∀b∈fp,b<s.heap.objs.size:=fun b hb=>by
  obtain⟨o,e,_⟩:=T.obj _ _ st b hb;exact mT e
 refine wpAny_newObj_type (wpAny_newFunctionEnv S.nc (by intro y hy;simp at hy) (fun h₁ hns₁ hsb₁=>?_) S.kind);dsimp only at hns₁ hsb₁⊢;have e3':yT s={s with heap:=s.heap.push {cls:=.type "list",data:=.seq ([]:List Value).toArray}}:=rfl;have sz3:(yT s).heap.objs.size=s.heap.objs.size+1:=aJ ..;have k3:∀b o,(yT s).heap.get? b=some o→h₁.get? b=some o:=fun b o e=>hsb₁.extBut b o (nJ (mT e)) (mS _ e);have k2:∀b o,s.heap.get? b=some o→(yT s).heap.get? b=some o:=fun b o e=>mS _ e;have hns:h₁.Ns (yT s).heap.objs.size (fun _=>none):=by simpa using hns₁
 have I0:Inv (xY X own F scope (yT s).heap.objs.size (yT s) H (s.heap.objs.size::fp)) [] (gP own F σ) H {yT s with heap:=h₁,toks:=(yT s).toks+([]:List (Str×Value)).length}:=zIp I S hf hlt e3' hns k3;have acc0:h₁.get? s.heap.objs.size=some {cls:=.type "list",data:=.seq ([]:List Value).toArray 0}:=k3 _ _ (nI _ rfl);have ht0:tn 0 h₁:=T.keep _ _ _ st fun b _ o e=>k3 b o (k2 b o e);have loop:codeAny (model X.prog X.w) X.A (.compLoop (.ListComp elt [⟨tg,iter,ifs,0⟩] scope pos) 0 (.ref it) (.ref s.heap.objs.size) (compEnvC scope (clo X.env scope.names) (yT s).heap.objs.size X.env)) (RR (yT s).heap.objs.size) {yT s with heap:=h₁,toks:=(yT s).toks+([]:List (Str×Value)).length}:=by
  refine zHy (fun n s'=>∃i ys H' its k,Inv (xY X own F scope (yT s).heap.objs.size (yT s) H (s.heap.objs.size::fp)) [] (gP own F σ) H' s'∧tn i s'.heap∧(∀b∈fp,H' b=none)∧H' s.heap.objs.size=none∧
   Vals ys its∧s'.heap.get? s.heap.objs.size=some {cls:=.type "list",data:=.seq its.toArray k}∧ys.length≤i∧W i n ys H') ?_ m0 ⟨0,[],H,[],0,I0,ht0,fun b hb=>(hf b hb).1,I.hok.fresh (mE _), .nil,acc0,mE _,w0⟩
  rintro n s5 ⟨i,ys,H5,its,k,I5,t5,fr5,ha5,v5,o5,l5,w5⟩;have pn5:Inv (xY X own F scope (yT s).heap.objs.size (yT s) H (s.heap.objs.size::fp)) [(s.heap.objs.size,{cls:=.type "list",data:=.seq its.toArray k})] (gP own F σ) H5 s5:=I5.pins_of fun p hp=>by
   have z:p=(s.heap.objs.size,{cls:=.type "list",data:=.seq its.toArray k}):=by simpa using hp
   subst z;obtain⟨x1,x2⟩:=I0.ok.exf s.heap.objs.size mK;exact⟨o5,ha5,x1,I0.ok.exfs _ mK,fun v z=>by cases z⟩
  have fp5:∀{H':Hp},(∀b∈fp,H' b=none)→∀b∈fp,zBc (xY X own F scope (yT s).heap.objs.size (yT s) H (s.heap.objs.size::fp)) [(s.heap.objs.size,{cls:=.type "list",data:=.seq its.toArray k})] H' b:=fun {H'} hn b hb=>by
   obtain⟨x1,x2⟩:=I0.ok.exf b (mI _ hb);refine⟨hn b hb,x1,I0.ok.exfs b (mI _ hb), .inl (mI _ hb),x2,fun p hp=>?_⟩;have z:p=(s.heap.objs.size,{cls:=.type "list",data:=.seq its.toArray k}):=by
    have hp':p∈([]:List (Addr×Obj))++ [(s.heap.objs.size,{cls:=.type "list",data:=.seq its.toArray k})]:=hp
    simpa using hp'
   subst z;exact pQ (hlt b hb)
  rcases turn i n ys H5 w5 l5 with⟨stop,hz,q⟩|⟨go,hz,N,hN,step⟩
  ·refine thn (T.done (xY X own F scope (yT s).heap.objs.size (yT s) H (s.heap.objs.size::fp)) rfl rfl rfl hc i _ s5 _ H5 (fun _ _=>False) pn5 (fp5 fr5) t5 stop) fun r s6 ⟨hr,I6⟩=>?_
   subst hr;obtain⟨a6,b6,_⟩:=I6.pin (s.heap.objs.size,{cls:=.type "list",data:=.seq its.toArray k}) (nG _ (nM.mpr rfl));have J6:=I6.pins_of (pins':=[]) (fun p hp=>nomatch hp);have I7:=zLj I hf e3' J6 (mY l5 hz) v5 a6 b6;have hC:H5 (yT s).heap.objs.size=none:=J6.free;refine hR _ s6 _ (show s.heap.objs.size≤(yT s).heap.objs.size by lia) (fun z=>by have z':(yT s).heap.objs.size=s.heap.objs.size:=z;lia) I7 (q _ b6) (by rw[zR (fun z=>by have z':(yT s).heap.objs.size=s.heap.objs.size:=z;lia)];exact hC) ?_;obtain⟨m,hn,_⟩:=J6.loc;exact⟨m,hn⟩
  ·refine thn (T.item (xY X own F scope (yT s).heap.objs.size (yT s) H (s.heap.objs.size::fp)) rfl rfl rfl hc i _ s5 _ H5 (fun _ _=>False) pn5 (fp5 fr5) t5 go) fun r s6 ⟨u,hr,h6⟩=>?_
   subst hr;refine thn h6 fun _ s7 ⟨x,H7,I7,r7,y7,t7,fr7⟩=>?_;have J7:=I7.pinned (fp5 fr7) (T.obj _ _ t7);refine thn (hg _ _ _ _ _ s7 _ H7 x u _ J7 r7 (step x H7 y7)) fun _ s8 ⟨σ8,H8,I8,wk,q8⟩=>?_;refine thn (ht _ _ _ _ _ s8 σ8 H8 _ I8 q8) fun ok s9 ⟨H9,I9,q9⟩=>?_;have keep:∀{σ':St}{H':Hp}{s':Shared},Inv (xY X own F scope (yT s).heap.objs.size (yT s) H (s.heap.objs.size::fp)) ([(s.heap.objs.size,{cls:=.type "list",data:=.seq its.toArray k})]++zDh fp s7.heap) σ' H' s'→
     tn (i+1) s'.heap∧(∀b∈fp,H' b=none)∧H' s.heap.objs.size=none∧s'.heap.get? s.heap.objs.size=some {cls:=.type "list",data:=.seq its.toArray k}:=fun {σ' H' s'} J=>by
    have pa:=J.pin (s.heap.objs.size,{cls:=.type "list",data:=.seq its.toArray k}) (nG _ (pF _ (nM.mpr rfl)));refine⟨T.keep _ _ _ t7 fun b hb o e=>(J.pin (b,o) (nG _ (nG _ (jF hb e)))).1,fun b hb=>?_,pa.2.1,pa.1⟩;obtain⟨o,e,d⟩:=T.obj _ _ t7 b hb;exact(J.pin (b,o) (nG _ (nG _ (jF hb e)))).2.1
   cases ok with
   | false=>
    rw[mJ nA] at q9⊢;obtain⟨m',hm,w9⟩:=hN _ _ q9;obtain⟨a1,a2,a3,a4⟩:=keep I9;exact⟨m',hm,i+1,ys,H9,its,k,(I9.pins_of (pins':=[]) (fun p hp=>nomatch hp)).weak wk.1 wk.2,a1,a2,a3,v5,a4,pU l5,w9⟩
   | true=>
    rw[mW rfl] at q9⊢;refine thn (he _ _ _ _ _ s9 σ8 H9 _ I9 q9) fun u' s10 ⟨y,H10,I10,r10,q10⟩=>?_;obtain⟨m',hm,w10⟩:=hN _ _ q10;obtain⟨a1,a2,a3,a4⟩:=keep I10;have hl:=v5.length;refine tJ pM ⟨_,a4,rfl⟩ PySem.F.entry_list_append (PySem.F.args_list_append_2 _ _) (PySem.list_append s.heap.objs.size its.toArray k u' (by rw[mV];lia)) ⟨a4, ?_⟩;have q:=PySem.IsL.update a4 (fun xs:Array Value=>xs.push u');have eq:its.toArray.push u'=(its++ [u']).toArray:=by simp
    rw[eq] at q;obtain⟨x1,x2⟩:=I0.ok.exf s.heap.objs.size mK;have I11:=(I10.pins_of (pins':=[]) (fun p hp=>nomatch hp)).turned (it:=s.heap.objs.size) (t':=s10.toks) (h':=s10.heap.update s.heap.objs.size (Obj.mapSeq (fun xs:Array Value=>xs.push u'))) (fun b o hb e=>(nZ s10.heap _ (Ne.symm hb)).trans e) a3 x1 (.inl mK) x2 (fun p hp=>absurd (show p∈([]:List (Addr×Obj)) from hp) (by simp));refine⟨m',hm,i+1,ys++ [y],H10,its++ [u'],_,I11.weak wk.1 wk.2, ?_,a2,a3,v5.append (.cons r10 .nil),q,by rw[mO,mM];lia,w10⟩;exact T.keep _ _ _ a1 fun b hb o e=>(nZ s10.heap _ (pQ (hlt b hb))).trans e
 have loop':=tZ loop (R':=fun r s'=>Value.ref s.heap.objs.size= .ref s.heap.objs.size∧RR (yT s).heap.objs.size r s') fun r s' z=>⟨rfl,z⟩;exact codeAny_compStart_list loop' (T.self X.A 0 _ _ _ ht0 loop')
theorem xF(S:CompSc X scope own F)(hc:X.calm=true)(hi:PI X tg iter wi)
  (hg:∀C s₃ H₃ ex,PG (xY X own F scope C s₃ H₃ ex) tg g) (ht:∀C s₃ H₃ ex,PTs (xY X own F scope C s₃ H₃ ex) ifs tt) (he:∀C s₃ H₃ ex,PE (xY X own F scope C s₃ H₃ ex) elt te)
  (hs:∀x,foldedSetIterable iter X.env x=pure x:=by intro _;rfl):PE X (.ListComp elt [⟨tg,iter,ifs,0⟩] scope pos) (zDs own F wi g tt te):=by
 intro pins s σ H Q I h;rw[eval_ListComp];refine wpAny_comprehension_free (use:=none) rfl hs (kJ (I.freeCells S)) S.kind S.lc ?_;refine thn (hi pins s σ H _ I h) fun v s1 h1=>thn h1 fun itv s2 ⟨it,fp,tn,J,H2,e,I2,T,st2,f2,q2⟩=>?_;subst e;refine thn (zHq (Q:=Q) (RR:=fun C r s'=>compPost (model X.prog X.w) X.A X.xe none (EP X pins σ Q) (.ref s2.heap.objs.size) C r s') S hc hg ht he I2 T st2 f2 q2 fun C s4 H4 c1 c2 I4 q4 n4 hm=>?_) fun acc s3 h3=>thn h3 fun cenv s4 h4=>tZ h4 fun r s' ⟨ea,hr⟩=>?_
 ·obtain⟨m,hn⟩:=hm
  exact⟨m,hn,fun h' hs'=>⟨.ref s2.heap.objs.size,H4,zCn I2 c1 I4 n4 hs',rfl,q4⟩⟩
 ·rw[ea];exact hr
theorem jK{i:Nat}{x:Str}{pos' spos:Pos}(hN:X.N.Nodup)(hi':X.N[i]? =some x)(hx:Loc X.env.scope x)(S:CompSc X scope own F)(hc:X.calm=true)(hi:PI X tg iter wi)
  (hg:∀C s₃ H₃ ex,PG (xY X own F scope C s₃ H₃ ex) tg g) (ht:∀C s₃ H₃ ex,PTs (xY X own F scope C s₃ H₃ ex) ifs tt) (he:∀C s₃ H₃ ex,PE (xY X own F scope C s₃ H₃ ex) elt te)
  (hsw:swapsWith (.ListComp elt [⟨tg,iter,ifs,0⟩] scope pos) (some (.Name x pos')) spos.line X.env=pure true:=by rfl)
  (hs:∀x,foldedSetIterable iter X.env x=pure x:=by intro _;rfl) (hf:X.fn x=true∨X.env.scope.names.lookup x=some .local:=by first | exact .inl rfl | exact .inr rfl | assumption):
  PS X (.Assign [.Name x pos'] (.ListComp elt [⟨tg,iter,ifs,0⟩] scope pos) spos) (zMc (zDs own F wi g tt te) (vN i)):=by
 intro pins s σ H D I h;rw[exec_Assign_Name_used x pos' _ _ hsw];refine mH (wpAny_standAt (mH ?_));refine mH ?_;refine rF (Q:=fun _ s'=>SP X pins D .next s') ?_ (fun _ s' q=>mZ (mZ q)) fun _ _ z=>z;refine wpAny_comprehension_free (use:=some (assign (.Name x pos') X.env)) rfl hs (kJ (I.freeCells S)) S.kind S.lc ?_;refine thn (hi pins s σ H _ I h) fun v s1 h1=>thn h1 fun itv s2 ⟨it,fp,tn,J,H2,e,I2,T,st2,f2,q2⟩=>?_;subst e;refine thn (zHq (Q:=fun x H1=>vN i x σ H1 D.nx) (RR:=fun C r s'=>compPost (model X.prog X.w) X.A X.xe (some (assign (.Name x pos') X.env)) (fun _ s'=>SP X pins D .next s') (.ref s2.heap.objs.size) C r s') S hc hg ht he I2 T st2 f2 q2 fun C s4 H4 c1 c2 I4 q4 n4 hm=>?_) fun acc s3 h3=>thn h3 fun cenv s4 h4=>tZ h4 fun r s' ⟨ea,hr⟩=>?_
 ·obtain⟨m,hn⟩:=hm
  refine wpAny_assign_Name (zEc I4 hN hi' hx (v:=.ref s2.heap.objs.size) rfl (fun s5 I5 ⟨a,sb,ha⟩=>?_) hf);have aC:a≠C:=by
   rcases ha with z | z
   ·rw[z];exact nJ (nC I2.lt c1)
   ·obtain⟨v,u⟩:=I2.cell _ _ z
    exact nJ (nC u.lt c1)
  exact⟨m,hn.sameBut sb (Ne.symm aC),fun h' hs'=>⟨_,H4,zCn I2 c1 I5 n4 hs',q4⟩⟩
 ·rw[ea];exact hr
end
inductive T where
 | non | bl (b:Bool)| int (i:Int)| str (x:List Nat)| lst (ts:List T)| dic (ks:List (List Nat)) (ts:List T)| tup (ts:List T)
mutual
def Rep(H:Hp):V→T→Prop
 | v, .non=>v= .non
 | v, .bl b=>v= .bl b
 | v, .int i=>v= .int i
 | v, .str x=>v= .str (tx x)
 | v, .lst ts=>∃a vs,v= .ref a∧H a=some (.lst vs)∧Reps H vs ts
 | v, .dic ks ts=>∃a ps,v= .ref a∧H a=some (.dK ps)∧ps.map (·.1)=ks.map (fun k=>(Sum.inr (tx k):Key))∧Reps H (ps.map (·.2)) ts
 | v, .tup ts=>∃a vs,v= .ref a∧H a=some (.tup vs)∧Reps H vs ts
def Reps(H:Hp):List V→List T→Prop
 | vs,[]=>vs= []
 | vs,t::ts=>∃v r,vs=v::r∧Rep H v t∧Reps H r ts
end
mutual
theorem Rep.same{H H':Hp}(e:Same H H'):∀(v:V)(t:T),Rep H v t→Rep H' v t
 | _, .non,h=>h
 | _, .bl _,h=>h
 | _, .int _,h=>h
 | _, .str _,h=>h
 | _, .lst ts,⟨a,vs,h1,h2,h3⟩=>⟨a,vs,h1,e _ _ h2,Reps.same e vs ts h3⟩
 | _, .dic ks ts,⟨a,ps,h1,h2,h3,h4⟩=>⟨a,ps,h1,e _ _ h2,h3,Reps.same e _ ts h4⟩
 | _, .tup ts,⟨a,vs,h1,h2,h3⟩=>⟨a,vs,h1,e _ _ h2,Reps.same e vs ts h3⟩
theorem Reps.same{H H':Hp}(e:Same H H'):∀(vs:List V)(ts:List T),Reps H vs ts→Reps H' vs ts
 | _,[],h=>h
 | _,t::ts,⟨v,r,h1,h2,h3⟩=>⟨v,r,h1,Rep.same e v t h2,Reps.same e r ts h3⟩
end
theorem Reps.snoc{H:Hp}{v:V}{t:T}(h:Rep H v t):∀{vs:List V}{ts:List T},Reps H vs ts→Reps H (vs++ [v]) (ts++ [t])
 | _,[],e=>by
  have e':_= []:=e;subst e';exact⟨v,[],rfl,h,rfl⟩
 | _,t'::ts,⟨v',r,h1,h2,h3⟩=>by
  subst h1;exact⟨v',r++ [v],rfl,h2,Reps.snoc h h3⟩
theorem Reps.length{H:Hp}:∀{vs:List V}{ts:List T},Reps H vs ts→vs.length=ts.length
 | _,[],e=>by
  have e':_= []:=e;subst e';rfl
 | _,t'::ts,⟨v',r,h1,h2,h3⟩=>by
  subst h1;simp[Reps.length h3]
theorem Reps.get{H:Hp}:∀{vs:List V}{ts:List T}{i:Nat}{v:V},Reps H vs ts→vs[i]? =some v→∃t,ts[i]? =some t∧Rep H v t
 | _,[],i,v,e,h=>by
  have e':_= []:=e;subst e';simp at h
 | _,t'::ts,0,v,⟨v',r,h1,h2,h3⟩,h=>by
  subst h1;simp at h;subst h;exact⟨t',rfl,h2⟩
 | _,t'::ts,i+1,v,⟨v',r,h1,h2,h3⟩,h=>by
  subst h1;obtain⟨t,e,q⟩:=Reps.get (i:=i) (v:=v) h3 (by simpa using h);exact⟨t,by simpa using e,q⟩
def tyT:T→String
 | .non=>"NoneType"
 | .bl _=>"bool"
 | .int _=>"int"
 | .str _=>"str"
 | .lst _=>"list"
 | .dic _ _=>"dict"
 | .tup _=>"tuple"
theorem Rep.ty{H:Hp}{v:V}:∀{t:T},Rep H v t→tyS H v=some (tyT t)
 | .non,h=>by cases (show v= .non from h);rfl
 | .bl b,h=>by cases (show v= .bl b from h);rfl
 | .int i,h=>by cases (show v= .int i from h);rfl
 | .str x,h=>by cases (show v= .str (tx x) from h);rfl
 | .lst ts,h=>by obtain⟨a,vs,e,h2,_⟩:=h;subst e;show(match H a with | some (.lst _)=>some "list" | some (.tup _)=>some "tuple" | some (.dK _)=>some "dict" | _=>none)=_;rw[h2];rfl
 | .dic ks ts,h=>by obtain⟨a,vs,e,h2,_⟩:=h;subst e;show(match H a with | some (.lst _)=>some "list" | some (.tup _)=>some "tuple" | some (.dK _)=>some "dict" | _=>none)=_;rw[h2];rfl
 | .tup ts,h=>by obtain⟨a,vs,e,h2,_⟩:=h;subst e;show(match H a with | some (.lst _)=>some "list" | some (.tup _)=>some "tuple" | some (.dK _)=>some "dict" | _=>none)=_;rw[h2];rfl
def letL:List Nat:=(List.range 26).map (· +97)
def zGh:List Nat:=(List.range 10).map (· +48)
def zHd:List Nat:=((List.range 95).map (· +32)).filter (· !=37)
def zCi(w:List Nat):Bool:=decide (1≤w.length)&& decide (w.length≤12)&& (match w with | []=>false | c::_=>decide (c∈letL))&& w.all (fun c=>decide (c∈letL++zGh))
def zAm(w:List Nat):Bool:=decide (w.length≤30)&& w.all (fun c=>decide (c∈zHd))
mutual
def Nice:Nat→T→Prop
 | _, .non=>True
 | _, .bl _=>True
 | _, .int i=>-(10 ^ 12)≤i∧i≤10 ^ 12
 | _, .str x=>zAm x=true
 | d, .lst ts=>1≤d∧ts.length≤4∧NiceL (d - 1) ts
 | d, .dic ks ts=>1≤d∧ts.length≤4∧ks.length=ts.length∧ks.Nodup∧(∀k∈ks,zCi k=true)∧NiceL (d - 1) ts
 | _, .tup _=>False
def NiceL:Nat→List T→Prop
 | _,[]=>True
 | d,t::ts=>Nice d t∧NiceL d ts
end
theorem NiceL.snoc{d:Nat}{t:T}(h:Nice d t):∀{ts:List T},NiceL d ts→NiceL d (ts++ [t])
 | [],_=>⟨h,trivial⟩
 | _::ts,⟨a,b⟩=>⟨a,NiceL.snoc h b⟩
theorem zC{H:Hp}{p:Addr}(h:H p=none)(o:HO):Same H (upd H p o):=fun b u q=>by rw[zR (yK q h)];exact q
section
variable{K:W.Frag}{H:Hp}{Q:VK}{a b:Addr}{xs ys:List V}
theorem zJb{neg:Bool}(h1:SqL K H a xs)(h2:SqL K H b ys)(f1:xs.all jT=true)(f2:ys.all jT=true)(q:Q (.bl (if neg then !zBd xs ys else zBd xs ys)) H):zPb K neg (.ref a) (.ref b) H Q:=
 ⟨a,b,xs,ys,rfl,rfl,h1,h2,f1,f2,q⟩
theorem yN{i:Int}{v:V}(h1:SqL K H a xs)(h2:atI xs i=some v)(q:Q v H):zQq K (.ref a) (.int i) H Q:=⟨a,xs,i,v,rfl,rfl,h1,h2,q⟩
theorem qG{i:Int}{v:V}(h1:SqT K H a xs)(h2:atI xs i=some v)(q:Q v H):zMs K (.ref a) (.int i) H Q:=⟨a,xs,i,v,rfl,rfl,h1,h2,q⟩
theorem zDa{z:Str}{i:Int}{c:Nat}(h1:z.length≤sizeLine)(h2:atI (ts z) i=some c)(q:Q (.str (tx [c])) H):rIxS (.str z) (.int i) H Q:=⟨z,i,c,rfl,rfl,h1,h2,q⟩
end
theorem jH{α:Type}{xs:List α}{i:Int}(h0:0≤i)(h1:i<xs.length):∃v,atI xs i=some v∧v∈xs:=by
 obtain⟨j,rfl⟩:=tK h0;have hj:j<xs.length:=by lia
 exact⟨xs[j],yJ (by simp[hj]),aY hj⟩
theorem zNw{α:Type}{xs:List α}{i:Int}{d:α}(h0:0≤i)(h1:i<xs.length):atI xs i=some (xs.getD i.toNat d):=by
 obtain⟨j,rfl⟩:=tK h0;have hj:j<xs.length:=by lia
 refine yJ ?_;simp[List.getD,hj]
theorem zFk{x:Str}{F:List (Str×Nat)}{J:It}{n:Nat}{tt:TT}{te:TE}{σ:St}{Q:VK}{H1:Hp}(Pv:Nat→List V→Hp→Prop)(hn:n≤sizeLine)(h0:Pv 0 [] H1)(hgo:∀i ys H,i<n→Pv i ys H→J.go i H)
  (hst:∀ys H,Pv n ys H→J.stop n H)
  (hs:∀i ys H y H2,i<n→ys.length≤i→Pv i ys H→J.yld i H y H2→tt (some y::F.map (fun p=>(σ[p.2]?).join)) H2 fun b H3=>if b=true then te (some y::F.map (fun p=>(σ[p.2]?).join)) H3 fun z H4=>Pv (i+1) (ys++ [z]) H4 else Pv (i+1) ys H3)
  (hd:∀ys H,ys.length≤n→Pv n ys H→∀p,H p=none→Q (.ref p) (upd H p (.lst ys))):xV [x] F (vN 0) tt te σ Q J H1:=by
 refine⟨fun i m ys H=>m=n - i∧i≤n∧Pv i ys H,⟨n,by simp,mL _,h0⟩, ?_⟩;rintro i m ys H ⟨rfl,hi,p⟩ hl
 by_cases hlt:i<n
 ·refine .inr ⟨hgo i ys H hlt p,by lia,Pv (i+1),fun ys' H'' q=>⟨n - (i+1),by lia,rfl,hlt,q⟩,fun y H2 hy=>?_⟩
  exact⟨zOo (i:=0) rfl,hs i ys H y H2 hlt hl p hy⟩
 ·have e:i=n:=by lia
  subst e;exact .inl ⟨hst ys H p,hn,hd ys H hl p⟩
theorem kI{x:Str}{F:List (Str×Nat)}{lo:Int}{n:Nat}{te:TE}{σ:St}{Q:VK}{H1:Hp}(Pv:Nat→List V→Hp→Prop)(hn:n≤sizeLine)(h0:Pv 0 [] H1)
  (hs:∀(i:Nat) ys H,i<n→ys.length≤i→Pv i ys H→te (some (.int (lo+i))::F.map (fun p=>(σ[p.2]?).join)) H fun z H4=>Pv (i+1) (ys++ [z]) H4)
  (hd:∀ys H,ys.length≤n→Pv n ys H→∀p,H p=none→Q (.ref p) (upd H p (.lst ys))):xV [x] F (vN 0) gO te σ Q (Itr lo n) H1:=
 zFk Pv hn h0 (fun i _ _ h _=>h) (fun _ _ _=>mE _) (fun i ys H y H2 h1 h2 h3 h4=>by
  obtain⟨rfl,rfl⟩:=h4;exact hs i ys _ h1 h2 h3) hd
section
variable{X:Cx}{x:Str}{pos:Pos}
end
theorem zSl{CX:CXT}{P:Program}{w:World}{K:W.Frag}{mg:Str→Option Value}{base:Heap}{N:List Str}{qual:Str}{scope:Scope}{f:Addr}{cd:Value}{A:Around}{outer:List Env}{s:Shared}{H:Hp}{E:XK}:(zIf CX P w K mg base N qual scope f cd A outer s H E).K=K:=rfl
theorem nox_K{X:Cx}:X.nox.K=X.K:=rfl
theorem zPn{X:Cx}{own:List Str}{F:List (Str×Nat)}{scope:Scope}{C:Addr}{s₃:Shared}{H₃:Hp}{ex:List Addr}:(xY X own F scope C s₃ H₃ ex).K=X.K:=rfl
theorem zKu(ns:List Int):(ns.map V.int).all jT=true:=by
 rw[List.all_map];exact pE.mpr fun _ _=>rfl
theorem zPj(xs:List V):zBd xs []=xs.isEmpty:=by cases xs<;>rfl
end L2
namespace L2
theorem zNe:Int.natAbs 10=10:=rfl
end L2
namespace L2
open PySem PySem.Spec PyProof.Rows
def zMy(g:TG)(tb:TS)(D:zAk)(σ:St)(J:It)(H1:Hp):Prop:=∃W:Nat→Nat→St→Hp→Prop,(∃m,W 0 m σ H1)∧∀i m σ H,W i m σ H→
 (J.stop i H∧D.nx σ H)∨(J.go i H∧∃N:St→Hp→Prop,(∀σ' H',N σ' H'→∃m',m'<m∧W (i+1) m' σ' H')∧∀x H',J.yld i H x H'→g x σ H' fun σ2 H2=>tb {D with nx:=N,ct:=N,bk:=D.nx} σ2 H2)
theorem zQl(wi:TI)(g:TG)(tb:TS)(D:zAk)(σ:St)(H:Hp):tFor wi g tb D σ H=wi σ H fun J H1=>zMy g tb D σ J H1:=rfl
theorem wN{lo:Int}{n:Nat}{g:TG}{tb:TS}{D:zAk}{σ:St}{H:Hp}(Pv:Nat→St→Hp→Prop)(h0:Pv 0 σ H)
  (hs:∀i σ H,i<n→Pv i σ H→g (.int (lo+i)) σ H fun σ2 H2=>tb {D with nx:=Pv (i+1),ct:=Pv (i+1),bk:=D.nx} σ2 H2) (hd:∀σ H,Pv n σ H→D.nx σ H):zMy g tb D σ (Itr lo n) H:=zLe Pv h0 hs hd
theorem zAh{K:W.Frag}{a:Addr}{xs:List V}{g:TG}{tb:TS}{D:zAk}{σ:St}{H:Hp}(Pv:Nat→St→Hp→Prop)(h0:Pv 0 σ H)(hl:∀i σ H,i≤xs.length→Pv i σ H→SqL K H a xs)
  (hs:∀i x σ H,xs[i]? =some x→Pv i σ H→g x σ H fun σ2 H2=>tb {D with nx:=Pv (i+1),ct:=Pv (i+1),bk:=D.nx} σ2 H2) (hd:∀σ H,Pv xs.length σ H→D.nx σ H):zMy g tb D σ (Itl K a) H:=zNr Pv h0 hl hs hd
section
variable{X:Cx}
theorem xC:wW X (.type "int") (fun xs H Q=>∃k,xs= [.bl k]∧Q (.int (if k then 1 else 0)) H):=fun pins s σ H xs us Q I r h=>zDt pins s σ H xs us Q I r (.inr h)
theorem yD:wW X (.builtin "len") (fun xs H Q=>∃p,xs= [.ref p]∧∃ys,SqL X.K H p ys∧Q (.int ys.length) H):=fun pins s σ H xs us Q I r ⟨p,e,ys,h,q⟩=>zEy pins s σ H xs us Q I r ⟨p,ys,e, .inl h,q⟩
end
abbrev nK(k:List Nat):Key:=Sum.inr (tx k)
theorem qO{a b:List Nat}(h:nK a=nK b):a=b:=by
 have e:tx a=tx b:=Sum.inr.inj h;rw[←vV a,e,vV]
theorem Reps.repl{H:Hp}{k:Key}{v:V}{t:T}(hv:Rep H v t):∀{ps:List (Key×V)}{ts:List T},Reps H (ps.map (·.2)) ts→∃ts',Reps H ((ps.map fun kv=>if kv.1=k then(kv.1,v) else kv).map (·.2)) ts'∧ts'.length=ts.length∧∀u∈ts',u∈ts∨u=t
 | [],ts,h=>⟨ts,h,rfl,fun u hu=>.inl hu⟩
 | p::ps,[],h=>by
  have h':(p::ps).map (·.2)= []:=h;cases h'
 | p::ps,u::ts,⟨v',r,e,h1,h2⟩=>by
  have e':p.2::ps.map (·.2)=v'::r:=e;injection e' with e1 e2;subst e1 e2;obtain⟨ts',r',l',m'⟩:=Reps.repl hv h2
  by_cases hk:p.1=k
  ·refine⟨t::ts',⟨v,_, ?_,hv,r'⟩,by simp[l'],fun z hz=>?_⟩
   ·rw[mN,mW hk,mN]
   ·rcases mG.mp hz with q | q
    ·exact .inr q
    ·exact(m' z q).imp (mI _) id
  ·refine⟨u::ts',⟨p.2,_, ?_,h1,r'⟩,by simp[l'],fun z hz=>?_⟩
   ·rw[mN,mJ hk,mN]
   ·rcases mG.mp hz with q | q
    ·exact .inl (by rw[q];exact mK)
    ·exact(m' z q).imp (mI _) id
theorem zQb{H:Hp}{ps:List (Key×V)}{ks:List (List Nat)}{ts:List T}{n:List Nat}{v:V}{t:T}(hk:ps.map (·.1)=ks.map nK)(hR:Reps H (ps.map (·.2)) ts)(nd:ks.Nodup)(hv:Rep H v t):
  ∃(ks':List (List Nat))(ts':List T),(vB ps (nK n) v).map (·.1)=ks'.map nK∧Reps H ((vB ps (nK n) v).map (·.2)) ts'∧ks'.Nodup∧(∀k∈ks',k∈ks∨k=n)∧(∀u∈ts',u∈ts∨u=t)∧ks'.length≤ks.length+1:=by
 unfold vB
 by_cases h:(ps.any fun kv=>decide (kv.1=nK n))=true
 ·rw[mW h]
  obtain⟨ts',r',l',m'⟩:=Reps.repl (k:=nK n) hv hR;refine⟨ks,ts', ?_,r',nd,fun k hk=>.inl hk,m',rT _⟩;rw[←hk,pC];apply pW;intro p _;show(if p.1=nK n then(p.1,v) else p).1=p.1;split<;>rfl
 ·rw[mJ h]
  refine⟨ks++ [n],ts++ [t],by rw[mP,hk,mP];rfl,by rw[mP];exact Reps.snoc hv hR, ?_,fun k hk=>?_,fun u hu=>?_,by simp⟩
  ·refine zGf nd fun hm=>h (tR.mpr ?_)
   have hm':nK n∈ps.map (·.1):=by rw[hk];exact nL.mpr ⟨n,hm,rfl⟩
   obtain⟨p,hp,e⟩:=nL.mp hm';exact⟨p,hp,pL e⟩
  ·rcases nD.mp hk with q | q
   ·exact .inl q
   ·exact .inr (nM.mp q)
  ·rcases nD.mp hu with q | q
   ·exact .inl q
   ·exact .inr (nM.mp q)
theorem NiceL_iff{d:Nat}:∀{ts:List T},NiceL d ts↔∀t∈ts,Nice d t
 | []=>⟨fun _ _ h=>(nomatch h),fun _=>trivial⟩
 | u::ts=>by
  show(Nice d u∧NiceL d ts)↔_;rw[NiceL_iff (ts:=ts)];exact⟨fun h t ht=>(mG.mp ht).elim (fun e=>e▸h.1) (h.2 t),fun h=>⟨h u mK,fun t ht=>h t (mI _ ht)⟩⟩
theorem zIv:ts (Str.ofString "abcdefghijklmnopqrstuvwxyz0123456789")=letL++zGh:=by decide+kernel
theorem ts_a:ts (Str.ofString "a")= [97]:=by decide+kernel
theorem ts_q:ts (Str.ofString "'")= [39]:=by decide+kernel
theorem zMv:Str.ofString "" =tx []:=by decide+kernel
theorem zBo(c k:Nat):(List.replicate k [c]).flatten=List.replicate k c:=by
 induction k with
 | zero=>rfl
 | succ k ih=>rw[sG,tO,ih,sG];rfl
theorem zEl{w:List Nat}(h1:w.length≤12)(h3:∃c r,w=c::r∧c∈letL)(h4:∀c∈w,c∈letL++zGh):zCi w=true:=by
 obtain⟨c,r,rfl,hc⟩:=h3;unfold zCi;simp only[pY,pB,pE];exact⟨⟨⟨by simp,h1⟩,hc⟩,h4⟩
theorem zEh{w:List Nat}(h1:w.length≤30)(h4:∀c∈w,c∈zHd):zAm w=true:=by
 unfold zAm;simp only[pY,pB,pE];exact⟨h1,h4⟩
theorem zUj{i:Int}(h0:0≤i)(h1:i<36):∃c,atI (letL++zGh) i=some c∧c∈letL++zGh:=jH h0 (by show i<((36:Nat):Int);lia)
theorem zOr{i:Int}(h0:0≤i)(h1:i<26):∃c,atI (letL++zGh) i=some c∧c∈letL:=by
 obtain⟨j,rfl⟩:=tK h0;have hj:j<26:=by lia
 have hj':j<letL.length:=hj;refine⟨letL[j],yJ (by rw[nX hj'];simp[hj']),aY hj'⟩
theorem zJd:97∈letL:=by decide
theorem uA{c:Nat}(h:c∈letL):c∈letL++zGh:=pF _ h
end L2
namespace L2
end L2
namespace L2
open PySem PySem.Spec PyProof.Rows
theorem zTj:Str.ofString " !\"#$&'()*+,-./0123456789:;<=>?@ABCDEFGHIJKLMNOPQRSTUVWXYZ[\\]^_`" ++Str.ofString "abcdefghijklmnopqrstuvwxyz{|}~" =tx zHd:=by decide+kernel
theorem zUn:39∈zHd:=by decide
theorem zMl{i:Int}(h0:0≤i)(h1:i<94):∃c,atI zHd i=some c∧c∈zHd:=jH h0 (by show i<((94:Nat):Int);lia)
theorem zGj(cs:List Nat):((cs.map fun c=>tx [c]).map ts).flatten=cs:=by
 induction cs with
 | nil=>rfl
 | cons d r ih=>simp only[mN,tO,ih,vV];rfl
theorem HOk.sim{P:Program}{w:World}{H H':Hp}{h:Heap}(ok:HOk P w H h)(ho:∀b a,H b=some (.own a)→H' b=some (.own a))(ht:∀b xs,H b=some (.tup xs)→H' b=some (.tup xs))
  (hs:∀b u,H' b=some u→H b=some u∨(∃o,H b=some (.frz o u))∨∃o u',u= .frz o u'∧H b=some u'∧h.get? b=some o):HOk P w H' h:=fun b u e=>by
 rcases hs b u e with q |⟨o,q⟩|⟨o,u',rfl,q,g⟩
 ·exact(ok b u q).stay (fun _ _ _ z=>z) (fun c z=>ho c b z) fun c xs z=>ht c xs z
 ·obtain⟨_,z⟩:=(show ObjOk P w H h b (.frz o u) from ok b _ q)
  exact z.stay (fun _ _ _ z=>z) (fun c z=>ho c b z) fun c xs z=>ht c xs z
 ·exact⟨g,(ok b u' q).stay (fun _ _ _ z=>z) (fun c z=>ho c b z) fun c xs z=>ht c xs z⟩
section
variable{X:Cx}{pins:List (Addr×Obj)}{σ σ':St}{H H':Hp}{s s':Shared}
theorem Inv.sim(I:Inv X pins σ H s)(hn:∀b,H b=none→H' b=none)(ho:∀b a,H b=some (.own a)→H' b=some (.own a))(ht:∀b xs,H b=some (.tup xs)→H' b=some (.tup xs))
  (hb:∀b ps,H b=some (.tbl ps)→H' b=some (.tbl ps)) (hf:∀b o u,X.H₀ b=some (.frz o u)→H' b=some (.frz o u))
  (hs:∀b u,H' b=some u→H b=some u∨(∃o,H b=some (.frz o u))∨∃o u',u= .frz o u'∧H b=some u'∧s.heap.get? b=some o):Inv X pins σ H' s:=
 ⟨I.ok,I.os,I.bare,⟨I.base.keep,I.base.slot,fun b o e n hx=>hn b (I.base.free b o e n hx),I.base.there,fun b xs e=>ht b xs (I.base.tups b xs e),hf,fun b ps e=>by
  obtain⟨m,q⟩:=I.base.tbls b ps e;exact⟨m,hb b _ q⟩⟩,I.loc,I.cell,hn _ I.free,fun x c e=>hn _ (I.freeC x c e),fun p hp=>by
  obtain⟨a,b,c,d,e⟩:=I.pin p hp;exact⟨a,hn _ b,c,d,e⟩,I.hok.sim ho ht hs,I.len⟩
theorem Inv.freeze{d:Addr}{kvs:List (Key×V)}{o:Obj}(I:Inv X pins σ H s)(h:H d=some (.dK kvs))(hg:s.heap.get? d=some o):Inv X pins σ (upd H d (.frz o (.dK kvs))) s:=by
 have ne:∀b u,H b=u→u≠some (.dK kvs)→b≠d:=fun b u e n z=>by subst z;exact n (e.symm.trans h)
 refine I.sim (fun b e=>by rw[zR (ne b _ e (by intro z;cases z))];exact e) (fun b a e=>by rw[zR (ne b _ e (by intro z;cases z))];exact e) (fun b a e=>by rw[zR (ne b _ e (by intro z;cases z))];exact e)
  (fun b a e=>by rw[zR (ne b _ e (by intro z;cases z))];exact e) (fun b o' u e=>?_) fun b u e=>?_
 ·have e':=I.base.frzs b o' u e
  rw[zR (ne b _ e' (by intro z;cases z))];exact e'
 ·by_cases hb:b=d
  ·subst hb
   rw[zB] at e;cases e;exact .inr (.inr ⟨o,_,rfl,h,hg⟩)
  ·rw[zR hb] at e;exact .inl e
def thaw(H H':Hp):Hp:=fun b=>match H b with
 | some (.frz _ _)=>H' b
 | _=>match H' b with
  | some (.frz _ u)=>some u
  | y=>y
theorem zBq{b:Addr}{o:Obj}{u:HO}(h:H b=some (.frz o u)):thaw H H' b=H' b:=by unfold thaw;rw[h]
theorem zKx{b:Addr}(h:H' b=none):thaw H H' b=none:=by unfold thaw;rw[h];split<;>rfl
theorem xE{b:Addr}{u:HO}(h:H' b=some u)(n:∀o v,u≠ .frz o v):thaw H H' b=some u:=by
 unfold thaw;rw[h];split
 ·rfl
 ·cases u<;>first | rfl | exact absurd rfl (n _ _)
theorem zJr{b:Addr}{o:Obj}{u:HO}(h:H' b=some (.frz o u))(n:∀o v,H b≠some (.frz o v)):thaw H H' b=some u:=by
 unfold thaw;rw[h]
 cases e:H b with
 | none=>rfl
 | some v=>cases v<;>first | rfl | exact absurd e (n _ _)
theorem zNd{b:Addr}{u:HO}(h:thaw H H' b=some u):H' b=some u∨∃o,H' b=some (.frz o u):=by
 unfold thaw at h;split at h
 ·exact .inl h
 ·split at h
  ·rename_i o v e
   cases h;exact .inr ⟨_,e⟩
  ·exact .inl h
theorem Inv.thaw(I:Inv X pins σ H s)(J:Inv X pins σ' H' s'):Inv X pins σ' (thaw H H') s':=
 J.sim (fun b e=>zKx e) (fun b a e=>xE e (by intro o v z;cases z)) (fun b a e=>xE e (by intro o v z;cases z)) (fun b a e=>xE e (by intro o v z;cases z))
  (fun b o u e=>by rw[zBq (I.base.frzs b o u e)];exact J.base.frzs b o u e) fun b u e=>(zNd e).imp id .inl
theorem uW{H H':Hp}(h:∀b u,H b=some u→H' b=some u∨((∃o,H' b=some (.frz o u))∧∀o v,u≠ .frz o v)):Same H (L2.thaw H H'):=fun b u e=>by
 rcases h b u e with q |⟨⟨o,q⟩,n⟩
 ·cases u with
  | frz o v=>rw[zBq e];exact q
  | _=>exact xE q (by intro o v z;cases z)
 ·refine zJr q fun o' v z=>?_
  rw[e] at z;cases z;exact n _ _ rfl
def zPh(t:TE):TE:=fun σ H Q=>t σ H fun v H'=>Q v (thaw H H')
theorem uI{e:Expr}{t:TE}(h:PE X e t):PE X e (zPh t):=by
 intro pins s σ H Q I q;refine thn (h pins s σ H _ I q) fun u s1 ⟨v,H1,I1,r,q1⟩=>⟨v,_,I.thaw I1,r,q1⟩
end
theorem KV.get{κ:Type}:∀{kvs:List (κ×V)}{vs:List (κ×Value)}{i:Nat}{kv:κ×V},KV kvs vs→kvs[i]? =some kv→∃q,vs[i]? =some q∧kv.1=q.1∧RelV kv.2 q.2
 | _,_,_,_, .nil,e=>by simp at e
 | _,_,0,_, .cons r _,e=>by simp at e;subst e;exact⟨_,rfl,r⟩
 | _,_,i+1,x, .cons _ t,e=>by
  obtain⟨u,h1,h2⟩:=KV.get (i:=i) (kv:=x) t (by simpa using e);exact⟨u,by simpa using h1,h2⟩
theorem zFb{P:Program}{w:World}{k:Key}{u:Value}(h:(yS P w).is k u=true):RelV (kV k) u:=by
 rcases xH (show zCp k u=true from h) with⟨i,t,rfl,rfl⟩|⟨x,t,rfl,rfl⟩
 ·exact⟨t,rfl⟩
 ·exact⟨t,rfl⟩
theorem kZ{P:Program}{w:World}{H:Hp}{h:Heap}{d:Addr}{o:Obj}{kvs:List (Key×V)}{es:Array DictEntry}{ep:Nat}(ok:HOk P w H h)(e:H d=some (.frz o (.dK kvs)))(he:o.data= .dict es ep):
  ∃vs,KV kvs vs∧h.DictAt (yS P w) d vs ep∧(d==sysModules)=false∧kvs.length≤sizeLine:=by
 obtain⟨g,z,hd,vs,rel,o',es',ep',ho,c,hdat,r⟩:=(show ObjOk P w H h d (.frz o (.dK kvs)) from ok d _ e);rw[g] at ho;cases ho;rw[he] at hdat;cases hdat;exact⟨vs,rel,⟨o,es,g,c,he,r⟩,hd,z⟩
def Itd(d:Addr)(o:Obj)(kvs:List (Key×V)):It:=
 ⟨fun i H=>i<kvs.length∧H d=some (.frz o (.dK kvs)),fun i H y H'=>H'=H∧∃kv,kvs[i]? =some kv∧y=kV kv.1,fun i H=>kvs.length≤i∧H d=some (.frz o (.dK kvs))⟩
theorem zMh{P:Program}{w:World}{K:W.Frag}{tg:Expr}(d it:Addr)(o:Obj)(kvs:List (Key×V)):zFt P w K tg (Itd d o kvs) [it] it (fun i h=>∃es ep,o.data= .dict es ep∧h.IsKeyIter it d i kvs.length ep) where
 mem:=by simp
 obj:=fun i h st b hb=>by
  obtain⟨es,ep,_,ob,e,c,dd⟩:=st;have e':b=it:=by simpa using hb
  subst e';exact⟨ob,e,fun v z=>by rw[dd] at z;cases z⟩
 keep:=fun i h h' st k=>by
  obtain⟨es,ep,a,st⟩:=st;exact⟨es,ep,a,st.at fun ob e=>k it (by simp) ob e⟩
 item:=by
  intro X hP hw hK hc i pins s σ H E I hf st hg;subst hP hw hK;obtain⟨es,ep,hes,st⟩:=st;obtain⟨hi,hg⟩:=hg;obtain⟨vs,rel,hm,_,_⟩:=kZ I.hok hg hes;obtain⟨f0,f1,f2,f3,f4,f5⟩:=hf it (by simp);have hl:=rel.length;obtain⟨kv,hkv⟩:∃kv,kvs[i]? =some kv:=⟨kvs[i],by simp[hi]⟩;obtain⟨q,hq,hq1,hq2⟩:=KV.get rel hkv;rw[hl] at st;refine wpAny_pyNext_dict_item (k:=q.1) (v:=q.2) st hm hq fun key h' hk st' sb=>?_;have I1:Inv X pins σ H {s with heap:=h'}:=I.turned (t':=s.toks) (fun b o hb e=>(sb.2 b hb).trans e) f0 f1 f3 f4 f5;obtain⟨ob,e,c,dd⟩:=id st';exact⟨key,rfl,zJj (s:={s with heap:=h'}) e c dd (by decide) ⟨kV kv.1,H,I1,by rw[hq1];exact zFb hk,⟨rfl,kv,hkv,rfl⟩,⟨es,ep,hes,by rw[hl];exact st'⟩,fun b hb=>(hf b hb).1⟩⟩
 done:=by
  intro X hP hw hK hc i pins s σ H E I hf st hg;subst hP hw hK;obtain⟨es,ep,hes,st⟩:=st;obtain⟨hi,hg⟩:=hg;obtain⟨vs,rel,hm,_,_⟩:=kZ I.hok hg hes;obtain⟨f0,f1,f2,f3,f4,f5⟩:=hf it (by simp);have hl:=rel.length;rw[hl] at st;exact wpAny_pyNext_dict_end (I.ok.hd hc) st hm (by simp;lia) fun h' eb=>⟨rfl,I.turned (t':=s.toks) (fun b o hb e=>eb b o hb e) f0 f1 f3 f4 f5⟩
 self:=fun _ _ _ _ _ st h=>by
  obtain⟨es,ep,_,st⟩:=st;exact wpAny_pyIter_keyiter st h
def zNc(tl:TE):TI:=fun σ H R=>tl σ H fun x H1=>∃d kvs,x= .ref d∧((H1 d=some (.dK kvs)∧∀o,R (Itd d o kvs) (upd H1 d (.frz o (.dK kvs))))∨∃o,H1 d=some (.frz o (.dK kvs))∧R (Itd d o kvs) H1)
section
variable{X:Cx}
theorem zBj{tg l:Expr}{tl:TE}(hl:PE X l tl):PI X tg l (zNc tl):=by
 intro pins s σ H R I h;refine thn (hl pins s σ H _ I h) fun v s1 ⟨x,H1,I1,r1,q1⟩=>?_;obtain⟨d,kvs,rfl,q⟩:=q1;cases r1;have fin:∀o H2,Inv X pins σ H2 s1→H2 d=some (.frz o (.dK kvs))→R (Itd d o kvs) H2→wpAny (model X.prog X.w) X.A (pyIter (.ref d)) (PIE X pins σ tg R) X.xe s1:=fun o H2 I2 e q=>by
  obtain⟨g,z,hd,vs,rel,o',es,ep,ho,c,hdat,r⟩:=(show ObjOk X.prog X.w H2 s1.heap d (.frz o (.dK kvs)) from I2.hok d _ e);rw[g] at ho;cases ho;have hm:s1.heap.DictAt (yS X.prog X.w) d vs ep:=⟨o,es,g,c,hdat,r⟩;refine wpAny_pyIter_dict hd hm ?_;refine⟨s1.heap.objs.size,[s1.heap.objs.size],_,_,H2,rfl,I2.kept (t':=s1.toks) fun b o e=>mS _ e,zMh d _ o kvs,⟨es,ep,hdat,_,nI _ rfl,rfl,by rw[rel.length];rfl⟩,fun b hb=>?_,q⟩;have e:b=s1.heap.objs.size:=by simpa using hb
  subst e;exact I2.fpOk (mE _) (I2.hok.fresh (mE _))
 rcases q with⟨e,q⟩|⟨o,e,q⟩
 ·obtain⟨z,hd,vs,rel,o,es,ep,ho,_⟩:=(show ObjOk X.prog X.w H1 s1.heap d (.dK kvs) from I1.hok d _ e)
  exact fin o _ (I1.freeze e ho) zB (q o)
 ·exact fin o _ I1 e q
theorem kX{x:Str}{F:List (Str×Nat)}{d:Addr}{o:Obj}{kvs:List (Key×V)}{tt:TT}{te:TE}{σ:St}{Q:VK}{H1:Hp}(Pv:Nat→List V→Hp→Prop)(hn:kvs.length≤sizeLine)(h0:Pv 0 [] H1)(hz:∀i ys H,Pv i ys H→H d=some (.frz o (.dK kvs)))
  (hs:∀i kv ys H,kvs[i]? =some kv→ys.length≤i→Pv i ys H→tt (some (kV kv.1)::F.map (fun p=>(σ[p.2]?).join)) H fun b H3=>if b=true then te (some (kV kv.1)::F.map (fun p=>(σ[p.2]?).join)) H3 fun z H4=>Pv (i+1) (ys++ [z]) H4 else Pv (i+1) ys H3)
  (hd:∀ys H,ys.length≤kvs.length→Pv kvs.length ys H→∀p,H p=none→Q (.ref p) (upd H p (.lst ys))):xV [x] F (vN 0) tt te σ Q (Itd d o kvs) H1:=
 zFk Pv hn h0 (fun i ys H h p=>⟨h,hz i ys H p⟩) (fun ys H p=>⟨mE _,hz _ ys H p⟩) (fun i ys H y H2 h1 h2 h3 h4=>by
  obtain⟨rfl,kv,hkv,rfl⟩:=h4;exact hs i kv ys _ hkv h2 h3) hd
theorem xI{K:W.Frag}{x:Str}{F:List (Str×Nat)}{a:Addr}{xs:List V}{tt:TT}{te:TE}{σ:St}{Q:VK}{H1:Hp}(Pv:Nat→List V→Hp→Prop)(hn:xs.length≤sizeLine)(h0:Pv 0 [] H1)(hz:∀i ys H,i≤xs.length→Pv i ys H→SqL K H a xs)
  (hs:∀i v ys H,xs[i]? =some v→ys.length≤i→Pv i ys H→tt (some v::F.map (fun p=>(σ[p.2]?).join)) H fun b H3=>if b=true then te (some v::F.map (fun p=>(σ[p.2]?).join)) H3 fun z H4=>Pv (i+1) (ys++ [z]) H4 else Pv (i+1) ys H3)
  (hd:∀ys H,ys.length≤xs.length→Pv xs.length ys H→∀p,H p=none→Q (.ref p) (upd H p (.lst ys))):xV [x] F (vN 0) tt te σ Q (Itl K a) H1:=
 zFk Pv hn h0 (fun i ys H h p=>⟨xs,xs[i],hz i ys H (sO h) p,by simp[h]⟩) (fun ys H p=>⟨xs,hz _ ys H (mE _) p,mE _⟩) (fun i ys H y H2 h1 h2 h3 h4=>by
  obtain⟨rfl,hy⟩:=h4;exact hs i y ys _ (hy xs (hz i ys _ (sO h1) h3)) h2 h3) hd
def valsO(p d:Addr):HO:=.ext fun h=>h.IsValuesView p d
def zRx:V→List V→Hp→VK→Prop:=fun x vs H Q=>∃d kvs,x= .ref d∧vs= []∧Rd H d (.dK kvs)∧∀p,H p=none→Q (.ref p) (upd H p (valsO p d))
end
theorem zGd:typeLookup (.type "list") "keys" =pure none:=am_miss_of_fast (by decide+kernel)
theorem gL:entryFor table "dict.update.loop" =some Builtin.«dict.update.loop»:=entryFor_of_tree (by kernel_rfl)
theorem vH:plainId "dict.update.loop" =true:=by decide+kernel
section
variable{prog:Program}{w:World}{A:Around}{E:Value→Shared→Prop}
theorem zMd{s:Shared}{a:Addr}{xs:Array Value}{k:Nat}{name:Str}{Q:Option Value→Shared→Prop}
  (hx:s.heap.get? a=some {cls:=.type "list",dict:=none,data:=.seq xs k,slots:=#[]}) (hmiss:typeLookup (.type "list") name=pure none) (hname:(["__module__","__name__","__qualname__","__doc__","__annotations__"]:List Str).contains name=false) (hA:A.handled=none)
  (h:∀h' tk,(∀b o,s.heap.get? b=some o→h'.get? b=some o)→Q none {s with heap:=h',toks:=tk}) (hsz:name.length+100≤sizeLine:=by size_fits):
  wpAny (model prog w) A (getAttr? (.ref a) name) Q E s:=by
 obtain⟨hp,g,d,tk,os⟩:=s;have hT:∀tk',(⟨hp,g,d,tk',os⟩:Shared).TypeIs (.ref a) "list":=fun _=>⟨_,hx,rfl⟩;have f1:=sub_AttributeError;have f3:=F.slot_list_getattribute.lookup;have f4:=F.slot_list_getattribute.bind (.ref a);have f5:=am_list_getattr_none;unfold getAttr? getAttrBy? getAttrBy
 repeat (any_goals (first | assumption | exact hT _ |((with_reducible show wpAny _ _ (call (Value.builtin "list.__getattribute__") _ _) _ _ _);refine tJ F.slot_list_getattribute (hT _) am_entry_list_getattribute (F.args_list_getattribute_2 _ _) (meets_getattribute_miss_list a xs k #[] name _ hmiss hname hsz) ⟨hx,hA,fun h' tk' e hx'=>?_⟩)| wp_step))
 obtain⟨t',u',he⟩:=hx'.there;show wpAny _ _ (getattributeRaised _ _ _ _ _ _ _) _ _ _;unfold getattributeRaised
 repeat (any_goals (first | assumption | wp_step))
 exact h h' tk' fun b o e=>hx'.keeps b o e
theorem zQj{κ:Type} [DecidableEq κ] (knd:KeyKind prog w κ) (hh:A.handled=none) {d it l:Addr} {items:Array Value} {ps:List (κ×Value)} {R:Result→Shared→Prop} (hdi:d≠it) (hdl:d≠l) (hil:it≠l) (hps:ps.length=items.size):
  ∀(n i:Nat)(s:Shared)(kvs:List (κ×Value)),items.size - i=n→i≤items.size→s.heap.IsListIter it l i→s.heap.IsList l items→
   (∀(j:Nat) k v,ps[j]? =some (k,v)→∃a key,items[j]? =some (.ref a)∧a≠d∧a≠it∧IsTup s.heap a #[key,v]∧knd.is k key=true)→s.heap.DictOf knd d kvs→kvs.length+n≤sizeLine→
   (∀h' tk,h'.DictOf knd d ((ps.drop i).foldl (fun m kv=>stored m kv.1 kv.2) kvs)→(∀b o,b≠d→b≠it→s.heap.get? b=some o→h'.get? b=some o)→R (.ok (.ret .none)) {s with heap:=h',toks:=tk})→
   codeAny (model prog w) A (.builtin "dict.update.loop" ⟨[.ref d, .ref it,rawInt i, .none],[]⟩) R s:=by
 intro n
 induction n with
 | zero=>
  intro i s kvs hn hi hit hl hp hd hz hR;refine tF gL ?_;rw[sB vH _];unfold Builtin.«dict.update.loop»;show wpAny _ A.in1 (pyNext (.ref it)>>=_) _ _ s;refine mH (sQ (show A.in1.handled=none from hh) hit hl (by simp;lia) fun h' eb=>?_);show wpAny _ _ (Builtin.Dict.addKeywords d []>>=fun _=>ret .none) _ _ _;refine mH (mZ (mZ (hR h' _ ?_ fun b o hb hi' e=>eb b o hi' e)));rw[rV (by lia)];exact hd.extBut eb hdi
 | succ n ih=>
  intro i s kvs hn hi hit hl hp hd hz hR;refine tF gL ?_;rw[sB vH _];unfold Builtin.«dict.update.loop»;have hlt:i<items.size:=by lia
  obtain⟨kv,hkv⟩:∃kv,ps[i]? =some kv:=⟨ps[i],by simp[hps,hlt]⟩;obtain⟨a,key,ha,had,hai,ht,hk⟩:=hp i kv.1 kv.2 hkv;show wpAny _ A.in1 (pyNext (.ref it)>>=_) _ _ s;refine mH (sM hit hl (x:=.ref a) ha fun h' st' sb=>?_);show wpAny _ _ (holding [Value.ref a] (Sem.tryCatch (Builtin.Dict.pairItems (.ref a)) _>>=_)>>=fun _=>again _) _ _ _;have kp:∀b o,b≠it→s.heap.get? b=some o→h'.get? b=some o:=fun b o hb e=>(sb.2 b hb).trans e;obtain⟨o,ho,hc,m,hdat⟩:=id ht;refine mH (rG (mH (sS ?_)));unfold Builtin.Dict.pairItems;refine mH (wpAny_typeOf (T:="tuple") ⟨o,kp a o hai ho,hc⟩ ?_);rw[mW (by decide)];refine mH (aK (kp a o hai ho) hdat (mZ ?_));show wpAny _ _ (holding [key,kv.2] (dictSet d key kv.2)) _ _ _;refine rG (wpAny_dictSet_pairs hk (hd.sameBut sb hdi) (fun h2 hd2 sb2=>?_) (by lia));have kp2:∀b o,b≠d→b≠it→s.heap.get? b=some o→h2.get? b=some o:=fun b o hb hi' e=>(sb2.2 b hb).trans (kp b o hi' e);have hc':((i:Int)+1)=((i+1:Nat):Int):=by lia
  rw[hc'];refine mZ ⟨sX vH _,ih (i+1) _ (stored kvs kv.1 kv.2) (by lia) (by lia) ?_ ?_ ?_ hd2 ?_ ?_⟩
  ·exact st'.at fun o e=>(sb2.2 it (Ne.symm hdi)).trans e
  ·obtain⟨ol,e1,e2⟩:=hl
   exact⟨ol,kp2 l ol (Ne.symm hdl) (Ne.symm hil) e1,e2⟩
  ·intro j k v e
   obtain⟨a',key',x1,x2,x3,⟨o',y1,y2⟩,x5⟩:=hp j k v e;exact⟨a',key',x1,x2,x3,⟨o',kp2 a' o' x2 x3 y1,y2⟩,x5⟩
  ·have:(stored kvs kv.1 kv.2).length≤kvs.length+1:=by
    unfold stored;split<;>simp
   lia
  ·intro h3 tk hd3 k3
   refine hR h3 tk ?_ fun b o hb hi' e=>k3 b o hb hi' (kp2 b o hb hi' e);have e:ps.drop i=kv::ps.drop (i+1):=by
    obtain⟨hlt',e'⟩:=nB.mp hkv;rw[pJ hlt',e']
   rw[e,sL];exact hd3
end
section
variable{X:Cx}
theorem zHj{P:Program}{w:World}{H:Hp}{h:Heap}(ok:HOk P w H h):∀{kvs:List (Key×V)}{ys:List V}{its:List Value},Vals ys its→kvs.length=ys.length→(∀(j:Nat) kv,kvs[j]? =some kv→∃a,ys[j]? =some (.ref a)∧H a=some (.tup [kV kv.1,kv.2]))→
  ∃ps:List (Key×Value),KV kvs ps∧∀(j:Nat) k v,ps[j]? =some (k,v)→∃a key,its[j]? =some (.ref a)∧IsTup h a #[key,v]∧(yS P w).is k key=true
 | [],[],_, .nil,_,_=>⟨[], .nil,fun j k v e=>by simp at e⟩
 | kv::kvs,y::ys,_, .cons r t,hl,hp=>by
  obtain⟨ps,rel,h2⟩:=zHj ok (kvs:=kvs) t (by simpa using hl) fun j kv' e=>by
   obtain⟨a,e1,e2⟩:=hp (j+1) kv' (by simpa using e);exact⟨a,by simpa using e1,e2⟩
  obtain⟨a,e1,e2⟩:=hp 0 kv rfl;simp only[nW,Option.some.injEq] at e1;subst e1;cases r;obtain⟨_,its2,rv,pl⟩:=(show ObjOk P w H h a (.tup [kV kv.1,kv.2]) from ok a _ e2);obtain⟨u1,u2,e3,r1,r2⟩:=zEw rv;subst e3;refine⟨(kv.1,u2)::ps, .cons ⟨rfl,r2⟩ rel,fun j k v e=>?_⟩
  cases j with
  | zero=>
   simp only[nW,Option.some.injEq,Prod.mk.injEq] at e;obtain⟨rfl,rfl⟩:=e;exact⟨a,u1,rfl,pl,zAx r1⟩
  | succ j=>simpa using h2 j k v (by simpa using e)
 | [],_::_,_,_,hl,_=>by simp at hl
 | _::_,[],_,_,hl,_=>by simp at hl
theorem qM(hc:X.calm=true):wW X (.type "dict") (fun xs H Q=>∃(p:Addr)(ys:List V)(kvs:List (Key×V)),xs= [.ref p]∧H p=some (.lst ys)∧kvs.length=ys.length∧(∀(j:Nat) kv,kvs[j]? =some kv→∃a,ys[j]? =some (.ref a)∧H a=some (.tup [kV kv.1,kv.2]))∧
  ∀l,H l=none→Q (.ref l) (upd H l (.dK (wK [] kvs)))):=by
 intro pins s σ H xs us Q I r h;obtain⟨p,ys,kvs,rfl,hq,hlen,hpair,q⟩:=h;obtain⟨u,rfl,rx⟩:=jR r;cases rx;obtain⟨hz,its,n,rv,hg⟩:=(show ObjOk X.prog X.w H s.heap p (.lst ys) from I.hok p _ hq);obtain⟨ps,rel,hps⟩:=zHj I.hok rv hlen hpair;have hl1:=rv.length;have hl2:=rel.length;have hplt:p<s.heap.objs.size:=mT hg;refine callType_codes (Q₁:=fun obj s₁=>obj= .ref s.heap.objs.size∧s₁={s with heap:=s.heap.push {cls:=.type "dict",data:=.dict #[]}}) F.kt_called_dict (F.kt_typeCall_dict_1 _) F.entry_dict_init (kt_code_dict_new _ ⟨rfl,rfl⟩) ?_;rintro obj s₁ ⟨rfl,rfl⟩;have hnew:(s.heap.push {cls:=.type "dict",data:=.dict #[]}).DictOf (yS X.prog X.w) s.heap.objs.size []:=Heap.DictOf.new s.heap;have hg1:=mS {cls:=.type "dict",data:=.dict #[]} hg;refine⟨hnew.typeIs,F.args_dict_init_2 _ _, ?_⟩;unfold Builtin.«dict.__init__»;refine mH ?_;unfold Builtin.Dict.selfAndRest;refine mH (wpAny_notOrdered_dict hnew.typeIs ?_);show wpAny _ _ (pure (s.heap.objs.size,[Value.ref p])) _ _ _;refine mZ ?_;show wpAny _ _ (Builtin.Dict.updateFrom "dict.__init__" s.heap.objs.size (.ref p) [] .none) _ _ _;unfold Builtin.Dict.updateFrom;refine mH (wpAny_typeOf (T:="list") ⟨_,hg1,rfl⟩ ?_);rw[mW (by decide)];refine mH (zMd hg1 zGd (by decide+kernel) (I.ok.hd hc) (fun h2 tk2 k2=>?_));rw[mW (by rfl)];refine mH (wpAny_rule (mH (tM (items:=its.toArray) ⟨_,k2 _ _ hg1,rfl,n,rfl⟩ ?_)));have k1:∀b o,s.heap.get? b=some o→h2.get? b=some o:=fun b o e=>k2 b o (mS _ e);have hd2:s.heap.objs.size<h2.objs.size:=mT (k2 _ _ (nI _ rfl));have hpl:∀b o,h2.get? b=some o→(h2.push {cls:=.type "list_iterator",data:=.fields #[.ref p, .int 0 0]}).get? b=some o:=fun b o e=>mS _ e;refine mZ ⟨sX vH _,zQj (yS X.prog X.w) (show X.A.in1.handled=none from I.ok.hd hc) (d:=s.heap.objs.size) (it:=h2.objs.size) (l:=p) (items:=its.toArray) (ps:=ps) (nJ hd2) (pQ hplt) (pQ (aB hplt hd2)) (by simp;lia) _ 0 _ [] rfl (mL _) ?_ ?_ ?_ ?_ ?_ ?_⟩
 ·exact⟨_,nI _ rfl,rfl,rfl⟩
 ·exact⟨_,hpl _ _ (k2 _ _ hg1),rfl,n,rfl⟩
 ·intro j k v e
  obtain⟨a,key,e1,⟨o,e2,e3⟩,e4⟩:=hps j k v e;have hlt:=mT e2;exact⟨a,key,by simpa using e1,nJ hlt,nJ (aB hlt hd2),⟨o,hpl _ _ (k1 _ _ e2),e3⟩,e4⟩
 ·obtain⟨o,es,ep,ho,kA⟩:=hnew
  exact⟨o,es,ep,hpl _ _ (k2 _ _ ho),kA⟩
 ·simp;lia
 ·intro h3 tk3 hd3 k3
  rw[sR] at hd3;have k4:∀b o,s.heap.get? b=some o→h3.get? b=some o:=fun b o e=>k3 b o (nJ (mT e)) (nJ (aB (mT e) hd2)) (hpl _ _ (k1 _ _ e));refine⟨rfl, .ref s.heap.objs.size,_,I.laid (t':=tk3) k4 (mE _) (o:=.dK (wK [] kvs)) ?_,rfl,q _ (I.hok.fresh (mE _))⟩;have hm:(wK [] kvs).length≤kvs.length:=by
   have:=qQ kvs []
   simpa using this
  exact zFp (by lia) (sY.mpr (Ne.symm (nJ I.big))) (KV.merge rel .nil) hd3
end
structure Bl2(mg:Str→Option Value):Prop extends Bl mg where
 max:mg "max" =none
 min:mg "min" =none
 sorted:mg "sorted" =none
def mxI(b z:Int):Int:=if z>b then z else b
def mxD(k:Int):List Int→Int
 | []=>k
 | b::r=>r.foldl mxI b
theorem zQu(a d:Value):argsOk "max" ⟨[a],[("default",d)]⟩:=by unfold argsOk;kernel_rfl
section
variable{prog:Program}{w:World}{A:Around}
theorem zQn{it l S:Addr}{items:List Value}{ns:List Int}(hh:A.handled=none)(hi:Vals (ns.map V.int) items)(hSi:S≠it)(hSl:S≠l)(hil:it≠l)(dv:Value){R:Result→Shared→Prop}:
  ∀(n i:Nat)(s:Shared)(c:Nat)(b:Int)(tb:Tok),ns.length - i=n→i≤ns.length→s.heap.IsListIter it l i→s.heap.IsList l items.toArray→s.heap.get? S=some {cls:=.type "list",dict:=none,data:=.seq #[.int b tb, .int b tb] c,slots:=#[]}→
   (∀h' tk t,(∀x o,x≠S→x≠it→s.heap.get? x=some o→h'.get? x=some o)→R (.ok (.ret (.int ((ns.drop i).foldl mxI b) t))) {s with heap:=h',toks:=tk})→
   codeAny (model prog w) A (.builtin "max.loop" ⟨[.ref it, .none, .ref S],[("default",dv)]⟩) R s:=by
 have hnm:(toString "max" ++toString ".loop" :String)= "max.loop":=by decide
 intro n
 induction n with
 | zero=>
  intro i s c b tb hn hin st hl hS hR;refine tF aZ ?_;rw[sB rR _];show wpAny _ A.in1 (seqItems? (.ref S)>>=_) _ _ s;refine mH (aK hS rfl ?_);have hlen:=hi.length;rw[mB] at hlen;refine mH (sS (sQ (show A.in1.handled=none from hh) st hl (by simp;lia) fun h' eb=>?_));show wpAny _ A.in1 (updateSeq S (fun _=>#[])>>=_) _ _ _;refine mH (bK (eb S _ hSi hS) rfl (mH (bO (mZ ?_))));have q:=hR (h'.update S (Obj.mapSeq fun _=>#[])) s.toks tb fun x o hx hxi e=>(nZ _ _ (Ne.symm hx)).trans (eb x o hxi e);rw[rV (by lia)] at q;exact q
 | succ n ih=>
  intro i s c b tb hn hin st hl hS hR;have hlt:i<ns.length:=by lia
  have hlen:=hi.length;rw[mB] at hlen;obtain⟨z,hz⟩:∃z,ns[i]? =some z:=⟨ns[i],by simp[hlt]⟩;obtain⟨u,ht,t,rfl⟩:=hi.get (i:=i) (x:=.int z) (by rw[mU,hz];rfl);have ed:ns.drop i=z::ns.drop (i+1):=by
   obtain⟨h1,e1⟩:=nB.mp hz;rw[pJ h1,e1]
  refine tF aZ ?_;rw[sB rR _];show wpAny _ A.in1 (seqItems? (.ref S)>>=_) _ _ s;refine mH (aK hS rfl ?_);refine mH (sS (sM st hl (x:=.int z t) (by simpa using ht) fun h' st' sb=>?_));have kp:∀x o,x≠it→s.heap.get? x=some o→h'.get? x=some o:=fun x o hx e=>(sb.2 x hx).trans e;have hS':=kp S _ hSi hS;have hl':h'.IsList l items.toArray:=by
   obtain⟨o,e1,e2⟩:=hl;exact⟨o,kp l o (Ne.symm hil) e1,e2⟩
  show wpAny _ A.in1 (tryCatch (holding [Value.int z t,Value.int z t] (richCompare .Gt (.int z t) (.int b tb)>>=_)) _>>=_) _ _ _;refine mH (sS (rG (mH (show wpAny (model prog w) A.in1 (compareOp .Gt (.int z t) (.int b tb)) _ _ _ from gt_int ?_))));refine mH (rG (rL (mH (bO (mZ ?_)))))
  by_cases hb:z>b
  ·rw[pL hb,mW rfl]
   refine mH (bK hS' rfl (mH (bO ?_)));rw[hnm];refine mZ ⟨sX rR _,ih (i+1) _ _ z t (by lia) (by lia) ?_ ?_ (tU _ hS' rfl) fun h2 tk t2 k2=>?_⟩
   ·exact st'.at fun o e=>(nZ _ _ hSi).trans e
   ·obtain⟨o,e1,e2⟩:=hl'
    exact⟨o,(nZ _ _ hSl).trans e1,e2⟩
   ·have q:=hR h2 tk t2 fun x o hx hxi e=>k2 x o hx hxi ((nZ _ _ (Ne.symm hx)).trans (kp x o hxi e))
    rw[ed,sL,show mxI b z=z from mW hb] at q;exact q
  ·rw[nP hb,mJ nA]
   refine mH (bO ?_);rw[hnm];refine mZ ⟨sX rR _,ih (i+1) _ _ b tb (by lia) (by lia) st' hl' hS' fun h2 tk t2 k2=>?_⟩;have q:=hR h2 tk t2 fun x o hx hxi e=>k2 x o hx hxi (kp x o hxi e);rw[ed,sL,show mxI b z=b from mJ hb] at q;exact q
theorem zMw{it l S:Addr}{items:List Value}{ns:List Int}{s:Shared}{c:Nat}(hh:A.handled=none)(hi:Vals (ns.map V.int) items)(hSi:S≠it)(hSl:S≠l)(hil:it≠l)(dv:Value){R:Result→Shared→Prop}
  (st:s.heap.IsListIter it l 0) (hl:s.heap.IsList l items.toArray) (hS:s.heap.get? S=some {cls:=.type "list",dict:=none,data:=.seq #[] c,slots:=#[]})
  (hR:∀h' tk v,(∀x o,x≠S→x≠it→s.heap.get? x=some o→h'.get? x=some o)→(match ns with | []=>v=dv | b::r=>∃t,v= .int (r.foldl mxI b) t)→R (.ok (.ret v)) {s with heap:=h',toks:=tk}):
  codeAny (model prog w) A (.builtin "max.loop" ⟨[.ref it, .none, .ref S],[("default",dv)]⟩) R s:=by
 have hnm:(toString "max" ++toString ".loop" :String)= "max.loop":=by decide
 have hlen:=hi.length;rw[mB] at hlen;refine tF aZ ?_;rw[sB rR _];show wpAny _ A.in1 (seqItems? (.ref S)>>=_) _ _ s;refine mH (aK hS rfl ?_)
 cases ns with
 | nil=>
  refine mH (sS (sQ (show A.in1.handled=none from hh) st hl (by simp at hlen;simp[hlen]) fun h' eb=>?_));refine mH (wpAny_rule (mZ ?_));exact hR h' s.toks dv (fun x o _ hx e=>eb x o hx e) rfl
 | cons z r=>
  obtain⟨u,ht,t,rfl⟩:=hi.get (i:=0) (x:=.int z) rfl;refine mH (sS (sM st hl (x:=.int z t) (by simpa using ht) fun h' st' sb=>?_));have kp:∀x o,x≠it→s.heap.get? x=some o→h'.get? x=some o:=fun x o hx e=>(sb.2 x hx).trans e;have hS':=kp S _ hSi hS;show wpAny _ A.in1 (updateSeq S (fun _=>#[.int z t, .int z t])>>=_) _ _ _;refine mH (bK hS' rfl ?_);rw[hnm];refine mZ ⟨sX rR _,zQn hh hi hSi hSl hil dv _ 1 _ _ z t rfl (by simp) ?_ ?_ (tU _ hS' rfl) fun h2 tk t2 k2=>?_⟩
  ·exact st'.at fun o e=>(nZ _ _ hSi).trans e
  ·obtain⟨o,e1,e2⟩:=hl
   exact⟨o,(nZ _ _ hSl).trans (kp l o (Ne.symm hil) e1),e2⟩
  ·exact hR h2 tk _ (fun x o hx hxi e=>k2 x o hx hxi ((nZ _ _ (Ne.symm hx)).trans (kp x o hxi e))) ⟨t2,rfl⟩
end
section
variable{X:Cx}
def zGv(K:W.Frag):V→V→Hp→VK→Prop:=fun x y H Q=>∃(p:Addr)(ns:List Int)(k:Int),x= .ref p∧y= .int k∧SqL K H p (ns.map V.int)∧Q (.int (mxD k ns)) H
theorem zLs(hc:X.calm=true){pins:List (Addr×Obj)}{s:Shared}{σ:St}{H:Hp}{x y:V}{u dv:Value}{Q:VK}(I:Inv X pins σ H s)(rx:RelV x u)(ry:RelV y dv)(h:zGv X.K x y H Q):
  wpAny (model X.prog X.w) X.A (call (.builtin "max") [u] [("default",dv)]) (EP X pins σ Q) X.xe s:=by
 obtain⟨p,ns,k,rfl,rfl,hq,q⟩:=h;cases rx;obtain⟨its,rv,pl,hz⟩:=I.list hq;have hl:=pl.isList;have hplt:p<s.heap.objs.size:=by obtain⟨_,e,_⟩:=hl;exact mT e
 have hnm:(toString "max" ++toString ".loop" :String)= "max.loop":=by decide
 refine wpAny_call (codeAny_call_builtin F.plain_max F.entry_max ?_);simp only[checkBuiltinCall,F.kind_max];have hgo:wpAny (model X.prog X.w) X.A.in1 (Builtin.«max» ⟨[.ref p],[("default",dv)]⟩) (fun fin s'=>match fin with
   | .done f=>(match (Except.ok f:Result) with | .ok (.ret v)=>EP X pins σ Q v s' | .ok _=>False | .error e=>X.xe e s')
   | .again c'=>c'.quiet=true∧codeAny (model X.prog X.w) X.A c' (fun r s'=>match r with | .ok (.ret v)=>EP X pins σ Q v s' | .ok _=>False | .error e=>X.xe e s') s') X.xe s:=by
  show wpAny _ X.A.in1 (Builtin.Builtins.bindParams "max" ["key","default"] 0 ⟨[],[("default",dv)]⟩>>=_) _ _ s;refine mH (wpAny_of_eq (show Builtin.Builtins.bindParams "max" ["key","default"] 0 ⟨[],[("default",dv)]⟩=pure [none,some dv] from rfl) ?_);refine mH (mZ ?_);refine mH (tM hl ?_);refine mH (wpAny_newObj_type ?_);rw[hnm];have hk:∀b o,s.heap.get? b=some o→((s.heap.push {cls:=.type "list_iterator",data:=.fields #[.ref p, .int 0 0]}).push {cls:=.type "list",data:=.seq #[]}).get? b=some o:=fun b o e=>mS _ (mS _ e);have hsz:(s.heap.push {cls:=.type "list_iterator",data:=.fields #[.ref p, .int 0 0]}).objs.size=s.heap.objs.size+1:=aJ ..;refine mZ ⟨sX rR _,zMw (it:=s.heap.objs.size) (l:=p) (S:=(s.heap.push {cls:=.type "list_iterator",data:=.fields #[.ref p, .int 0 0]}).objs.size) (c:=0) (I.ok.hd hc) rv (by rw[hsz];exact pQ (Nat.lt_succ_self _)) (by rw[hsz];exact pQ (Nat.lt_succ_of_lt hplt)) (pQ hplt) dv ?_ ?_ (nI _ rfl) fun h' tk v k2 hv=>?_⟩
  ·exact⟨_,mS _ (nI _ rfl),rfl,rfl⟩
  ·obtain⟨o,e1,e2⟩:=hl
   exact⟨o,hk _ _ e1,e2⟩
  ·have I2:Inv X pins σ H {s with heap:=h',toks:=tk}:=I.kept fun b o e=>k2 b o (by rw[hsz];exact nJ (Nat.lt_succ_of_lt (mT e))) (nJ (mT e)) (hk b o e)
   cases ns with
   | nil=>exact⟨.int k,H,I2,by rw[show v=dv from hv];exact ry,q⟩
   | cons b r=>
    obtain⟨t,e⟩:=hv;exact⟨.int (r.foldl mxI b),H,I2,⟨t,e⟩,q⟩
 cases hsig:Manifest.signature? "max" with
 | none=>exact mZ hgo
 | some sig=>
  have ha:=zQu (.ref p) dv;simp only[argsOk,hsig] at ha;have h2:Bind.checkArgs "max" sig ⟨[.ref p],[("default",dv)]⟩=pure ():=ha;show wpAny _ X.A.in1 (Bind.checkArgs "max" sig ⟨[.ref p],[("default",dv)]⟩) _ _ s;rw[h2];exact mZ hgo
variable{e d:Expr}{te td:TE}{p kp pos:Pos}
def zPc(K:W.Frag)(te td:TE):TE:=fun σ H Q=>te σ H fun x H1=>td σ H1 fun y H2=>zGv K x y H2 Q
theorem zRq(hc:X.calm=true)(hg:Gl X "max")(hm:X.mg "max" =none)(ha:PA X [e] (jO te zCe))(hd:PE X d td)(he:backTo pos (starEach [e] X.env)=(false,eval e X.env)::backTo pos (starEach [] X.env):=by rfl)(hpl:(backTo pos (starEach [e] X.env)).any (·.1)=false:=by rfl):
  PE X (.Call (.Name "max" p) [e] [⟨some "default",d,kp⟩] pos) (zPc X.K te td):=by
 intro pins s σ H Q I h;refine sJ (jG I hg hm zTe ?_ (by decide) (by decide));refine callWith_kw ?_ he hpl;refine thn (ha pos pins s σ H (fun vs H1=>match vs with | [x]=>td σ H1 (fun y H2=>zGv X.K x y H2 Q)| _=>False) I h) fun us s1 ⟨vs,H1,I1,r1,q1⟩=>?_
 match vs,q1,r1 with
 | [x],q1,r1=>
  obtain⟨u,rfl,rx⟩:=jR r1;refine kws_cons (thn (hd pins s1 σ H1 _ I1 q1) fun dv s2 ⟨y,H2,I2,ry,q2⟩=>kws_nil ?_);exact zLs hc I2 rx ry q2
end
end L2
namespace L2
open PySem PySem.Spec PyProof.Rows
mutual
def T.dep:T→Nat
 | .lst ts=>T.deps ts+1
 | .dic _ ts=>T.deps ts+1
 | .tup ts=>T.deps ts+1
 | .non=>0
 | .bl _=>0
 | .int _=>0
 | .str _=>0
def T.deps:List T→Nat
 | []=>0
 | t::ts=>max (T.dep t) (T.deps ts)
end
mutual
def T.pure:T→Prop
 | .tup _=>False
 | .lst ts=>T.pures ts
 | .dic ks ts=>ks.Nodup∧T.pures ts
 | .non=>True
 | .bl _=>True
 | .int _=>True
 | .str _=>True
def T.pures:List T→Prop
 | []=>True
 | t::ts=>T.pure t∧T.pures ts
end
theorem T.deps_le{t:T}:∀{ts:List T},t∈ts→T.dep t≤T.deps ts
 | [],h=>nomatch h
 | u::ts,h=>by
  show T.dep t≤max (T.dep u) (T.deps ts);rcases mG.mp h with e | e
  ·subst e;exact Nat.le_max_left _ _
  ·exact mY (T.deps_le e) (Nat.le_max_right _ _)
def EqM(P:Program)(w:World)(A:Around)(s:Shared)(u v:Value):Prop:=∀(E:Value→Shared→Prop)(Q:Bool→Shared→Prop),Q true s→wpAny (model P w) A (eqBool u v) Q E s
section
variable{P:Program}{w:World}
open AutoSeq1 (wpAny_loadPart')
open MeetsSeq MeetsSeq2 MeetsSeq3 SeqRoads2 SeqAt
theorem zLk{κ:Type} [DecidableEq κ] {knd:KeyKind P w κ} {A:Around} {E:Value→Shared→Prop} {s:Shared} {nm:String} {a b:Addr} {pa pb:List (κ×Value)} {Q:Bool→Shared→Prop} (na:(a==sysModules)=false) (nb:(b==sysModules)=false)
  (Da:s.heap.DictOf knd a pa) (Db:s.heap.DictOf knd b pb) (hl:pa.length=pb.length) (hit:∀(i:Nat) k v,pa[i]? =some (k,v)→∃y,valueAt pb k=some y∧EqM P w A s v y) (q:Q true s):wpAny (model P w) A (Builtin.Dict.samePairs nm a b) Q E s:=by
 obtain⟨o1,e1,n1,g1,_,d1,k1,p1,_⟩:=Da;obtain⟨o2,e2,n2,g2,_,d2,k2,p2,_⟩:=Db;have s1:pa.length=e1.size:=by rw[←p1.length];simp
 have s2:pb.length=e2.size:=by rw[←p2.length];simp
 have look:∀k,findBy knd.is e2 k=valueAt pb k:=fun k=>by
  rw[←p2.find k];clear s2 p2 k2 d2 g2;obtain⟨l⟩:=e2;simp[findBy]
 have en:e1.size=e2.size:=by lia
 unfold Builtin.Dict.samePairs Builtin.Dict.showsAll;rw[mJ (show¬(a==sysModules)=true by rw[na];exact nA),mJ (show¬(b==sysModules)=true by rw[nb];exact nA)];refine mH (mZ (mH (mZ (mH (sA g1 d1 ?_)))));dsimp only;refine mH (sA g2 d2 ?_);rw[mJ (by rw[en];simp)];refine mH (wpAny_dictEpoch g1 d1 (mH ?_));rw[Std.Legacy.Range.forIn_eq_forIn_range'];simp only[Std.Legacy.Range.size,Nat.sub_zero,aO,Nat.div_one];refine wpAny_forIn_list _ (fun kA z s'=>s'=s∧z=(none,())∧∃i,kA=List.range' i (e1.size - i)∧i≤e1.size) _ ?_ ?_ _ _ ⟨rfl,rfl,0,by simp,mL _⟩
 ·rintro x kA z s' ⟨rfl,rfl,i,hr,hi⟩
  have lt:i<e1.size:=by
   by_cases c:i<e1.size
   ·exact c
   ·rw[Nat.sub_eq_zero_of_le (by lia)] at hr;simp at hr
  obtain⟨rfl,hr2⟩:x=i∧kA=List.range' (i+1) (e1.size - (i+1)):=by
   rw[show e1.size - i=(e1.size - (i+1))+1 by lia,List.range'_succ] at hr;injection hr with c1 c2;exact⟨c1,c2⟩
  have ltp:x<pa.length:=by lia
  obtain⟨k,v,ekv⟩:∃k v,pa[x]? =some (k,v):=⟨_,_,by rw[nS ltp]⟩;obtain⟨c1,c2⟩:=p1.get? (i:=x) (e:=e1[x]) (k:=k) (v:=v) (by rw[tV];exact sC lt) ekv;obtain⟨k',c3,c4⟩:=k1 e1[x] (Array.getElem_mem lt);rw[knd.inj _ _ _ c3 c1] at c4;obtain⟨y,hy,he⟩:=hit x k v ekv;refine mH (sA g1 d1 ?_);rw[sC lt];show wpAny _ _ (holding [e1[x].key,e1[x].val] _>>=_) _ _ _;rw[c4];refine mH (rG (mH (wpAny_dictFind_of c1 g2 d2 k2 ?_)))
  cases hj:e2.findIdx? fun e=>knd.is k e.key with
  | none=>
   have c5:valueAt pb k=none:=by rw[←look k,findBy_of_findIdx?,hj]
   rw[c5] at hy;cases hy
  | some j=>
   obtain⟨lj,_,_⟩:=Array.findIdx?_eq_some_iff_getElem.mp hj;have c5:valueAt pb k=some e2[j].val:=by
    rw[←look k,findBy_of_findIdx?,hj];simp[sC lj]
   rw[c5] at hy;have c6:e2[j].val=y:=mX hy;refine mH (sA g2 d2 ?_);rw[sC lj];rw[←c6,←c2] at he;refine rG (he _ _ ?_);show wpAny _ _ (if(!true)=true then _ else _) _ _ _;rw[mJ (by decide)];refine mH (wpAny_dictEpoch g1 d1 ?_);rw[mJ (by simp)];exact mZ ⟨rfl,rfl,x+1,hr2,lt⟩
 ·rintro z s' ⟨rfl,rfl,i,hr,hi⟩
  exact mZ q
end
section
variable{X:Cx}{pins:List (Addr×Obj)}{σ:St}{H:Hp}{s:Shared}
theorem vA{ks:List (List Nat)}(h:ks.Nodup):(ks.map nK).Nodup:=by
 induction ks with
 | nil=>exact sE
 | cons k r ih=>
  rw[pA] at h;rw[mN,pA];refine⟨fun hm=>?_,ih h.2⟩;obtain⟨k',hk,e⟩:=nL.mp hm;exact h.1 (qO e▸hk)
def zSu(K:W.Frag)(neg:Bool):R2:=fun x y H Q=>∃a b xs,x= .ref a∧y= .ref b∧SqL K H a xs∧SqL K H b []∧Q (.bl (if neg then !xs.isEmpty else xs.isEmpty)) H
theorem zBg(hu:X.A.units<cLine):OpR X (compareOp .Eq) (zSu X.K false):=by
 intro pins s σ H x y v u Q I rx ry h;obtain⟨a,b,xs,rfl,rfl,ha,hb,q⟩:=h;cases rx;cases ry;obtain⟨us,r1,pl1,_⟩:=I.list ha;obtain⟨vs,r2,pl2,_⟩:=I.list hb;cases r2
 cases xs with
 | nil=>
  cases r1;exact SeqAt.eq_listAt (e:=fun _=>true) pl1.isList pl2.isList rfl hu (fun j h1=>absurd h1 (by simp)) ⟨.bl true,H,I,rfl,q⟩
 | cons x xs=>
  have n1:=r1.length;exact SeqAt.eq_list_lengthsAt pl1.isList pl2.isList (by simp[←n1]) hu ⟨.bl false,H,I,rfl,q⟩
theorem zGb(hu:X.A.units<cLine):OpR X (compareOp .NotEq) (zSu X.K true):=by
 intro pins s σ H x y v u Q I rx ry h;obtain⟨a,b,xs,rfl,rfl,ha,hb,q⟩:=h;cases rx;cases ry;obtain⟨us,r1,pl1,_⟩:=I.list ha;obtain⟨vs,r2,pl2,_⟩:=I.list hb;cases r2
 cases xs with
 | nil=>
  cases r1;exact SeqAt.RcNeAt.lists (e:=fun _=>true) pl1.isList pl2.isList rfl hu (fun j h1=>absurd h1 (by simp)) X.prog X.w X.xe _ ⟨.bl false,H,I,rfl,q⟩
 | cons x xs=>
  have n1:=r1.length;exact SeqAt.RcNeAt.lists_lengths pl1.isList pl2.isList (by simp[←n1]) hu X.prog X.w X.xe _ ⟨.bl true,H,I,rfl,q⟩
end
end L2
namespace L2
open PySem PySem.Spec PyProof.Rows
mutual
def T.sz:T→Nat
 | .lst ts=>T.szs ts+1
 | .dic _ ts=>T.szs ts+1
 | .tup ts=>T.szs ts+1
 | .non=>1
 | .bl _=>1
 | .int _=>1
 | .str _=>1
def T.szs:List T→Nat
 | []=>0
 | t::ts=>T.sz t+T.szs ts
end
mutual
def Occ(H:Hp)(d:Addr):V→T→Prop
 | v, .lst ts=>v= .ref d∨∃a vs,v= .ref a∧H a=some (.lst vs)∧Occs H d vs ts
 | v, .dic _ ts=>v= .ref d∨∃a ps,v= .ref a∧H a=some (.dK ps)∧Occs H d (ps.map (·.2)) ts
 | v, .tup ts=>v= .ref d∨∃a vs,v= .ref a∧H a=some (.tup vs)∧Occs H d vs ts
 | _, .non=>False
 | _, .bl _=>False
 | _, .int _=>False
 | _, .str _=>False
def Occs(H:Hp)(d:Addr):List V→List T→Prop
 | v::vs,t::ts=>Occ H d v t∨Occs H d vs ts
 | _,_=>False
end
mutual
theorem Rep.away{H:Hp}{d:Addr}{o:HO}:∀(x:V)(t:T),Rep H x t→¬Occ H d x t→Rep (upd H d o) x t
 | _, .non,h,_=>h
 | _, .bl _,h,_=>h
 | _, .int _,h,_=>h
 | _, .str _,h,_=>h
 | x, .lst ts,⟨a,vs,e,ha,hs⟩,n=>by
  have ne:a≠d:=fun z=>n (.inl (by rw[e,z]));exact⟨a,vs,e,by rw[zR ne];exact ha,Reps.away vs ts hs fun z=>n (.inr ⟨a,vs,e,ha,z⟩)⟩
 | x, .dic ks ts,⟨a,ps,e,ha,hk,hs⟩,n=>by
  have ne:a≠d:=fun z=>n (.inl (by rw[e,z]));exact⟨a,ps,e,by rw[zR ne];exact ha,hk,Reps.away _ ts hs fun z=>n (.inr ⟨a,ps,e,ha,z⟩)⟩
 | x, .tup ts,⟨a,vs,e,ha,hs⟩,n=>by
  have ne:a≠d:=fun z=>n (.inl (by rw[e,z]));exact⟨a,vs,e,by rw[zR ne];exact ha,Reps.away vs ts hs fun z=>n (.inr ⟨a,vs,e,ha,z⟩)⟩
theorem Reps.away{H:Hp}{d:Addr}{o:HO}:∀(xs:List V)(ts:List T),Reps H xs ts→¬Occs H d xs ts→Reps (upd H d o) xs ts
 | _,[],h,_=>h
 | _,t::ts,⟨x,xr,e,h1,h2⟩,n=>by
  subst e;exact⟨x,xr,rfl,Rep.away x t h1 fun z=>n (.inl z),Reps.away xr ts h2 fun z=>n (.inr z)⟩
end
mutual
theorem Occ.sub{H:Hp}{d:Addr}:∀(x:V)(t:T),Rep H x t→Occ H d x t→∃t',Rep H (.ref d) t'∧T.sz t'≤T.sz t
 | _, .non,_,h=>h.elim
 | _, .bl _,_,h=>h.elim
 | _, .int _,_,h=>h.elim
 | _, .str _,_,h=>h.elim
 | x, .lst ts,hr,h=>by
  rcases h with e |⟨a,vs,e,ha,h⟩
  ·exact⟨.lst ts,e▸hr,mE _⟩
  ·obtain⟨a',vs',e',ha',hs⟩:=hr
   rw[e] at e';cases e';rw[ha] at ha';cases ha';obtain⟨t',q,l⟩:=Occs.sub vs ts hs h;exact⟨t',q,pU l⟩
 | x, .dic ks ts,hr,h=>by
  rcases h with e |⟨a,vs,e,ha,h⟩
  ·exact⟨.dic ks ts,e▸hr,mE _⟩
  ·obtain⟨a',vs',e',ha',_,hs⟩:=hr
   rw[e] at e';cases e';rw[ha] at ha';cases ha';obtain⟨t',q,l⟩:=Occs.sub _ ts hs h;exact⟨t',q,pU l⟩
 | x, .tup ts,hr,h=>by
  rcases h with e |⟨a,vs,e,ha,h⟩
  ·exact⟨.tup ts,e▸hr,mE _⟩
  ·obtain⟨a',vs',e',ha',hs⟩:=hr
   rw[e] at e';cases e';rw[ha] at ha';cases ha';obtain⟨t',q,l⟩:=Occs.sub vs ts hs h;exact⟨t',q,pU l⟩
theorem Occs.sub{H:Hp}{d:Addr}:∀(xs:List V)(ts:List T),Reps H xs ts→Occs H d xs ts→∃t',Rep H (.ref d) t'∧T.sz t'≤T.szs ts
 | xs,[],_,h=>by cases xs<;>exact h.elim
 | _,t::ts,⟨x,xr,e,h1,h2⟩,h=>by
  subst e;rcases h with h | h
  ·obtain⟨t',q,l⟩:=Occ.sub x t h1 h
   exact⟨t',q,mY l (pZ _ _)⟩
  ·obtain⟨t',q,l⟩:=Occs.sub xr ts h2 h
   exact⟨t',q,mY l (tG _ _)⟩
end
theorem zKh:∀{a b:List (List Nat)},a.map nK=b.map nK→a=b
 | [],[],_=>rfl
 | [],_::_,h=>by simp at h
 | _::_,[],h=>by simp at h
 | x::a,y::b,h=>by
  rw[mN,mN] at h;injection h with h1 h2;rw[qO h1,zKh h2]
mutual
theorem Rep.one{H:Hp}:∀(t:T)(x:V)(t':T),Rep H x t→Rep H x t'→t=t'
 | .non,x,t',h,h'=>by
  cases (show x= .non from h)
  cases t' with
  | non=>rfl
  | bl b=>cases (show V.non= .bl b from h')
  | int b=>cases (show V.non= .int b from h')
  | str b=>cases (show V.non= .str (tx b) from h')
  | lst ts=>obtain⟨a,vs,e,_⟩:=h';cases e
  | dic ks ts=>obtain⟨a,vs,e,_⟩:=h';cases e
  | tup ts=>obtain⟨a,vs,e,_⟩:=h';cases e
 | .bl c,x,t',h,h'=>by
  cases (show x= .bl c from h)
  cases t' with
  | non=>cases (show V.bl c= .non from h')
  | bl b=>cases (show V.bl c= .bl b from h');rfl
  | int b=>cases (show V.bl c= .int b from h')
  | str b=>cases (show V.bl c= .str (tx b) from h')
  | lst ts=>obtain⟨a,vs,e,_⟩:=h';cases e
  | dic ks ts=>obtain⟨a,vs,e,_⟩:=h';cases e
  | tup ts=>obtain⟨a,vs,e,_⟩:=h';cases e
 | .int c,x,t',h,h'=>by
  cases (show x= .int c from h)
  cases t' with
  | non=>cases (show V.int c= .non from h')
  | bl b=>cases (show V.int c= .bl b from h')
  | int b=>cases (show V.int c= .int b from h');rfl
  | str b=>cases (show V.int c= .str (tx b) from h')
  | lst ts=>obtain⟨a,vs,e,_⟩:=h';cases e
  | dic ks ts=>obtain⟨a,vs,e,_⟩:=h';cases e
  | tup ts=>obtain⟨a,vs,e,_⟩:=h';cases e
 | .str c,x,t',h,h'=>by
  cases (show x= .str (tx c) from h)
  cases t' with
  | non=>cases (show V.str (tx c)= .non from h')
  | bl b=>cases (show V.str (tx c)= .bl b from h')
  | int b=>cases (show V.str (tx c)= .int b from h')
  | str b=>
   have e:V.str (tx c)= .str (tx b):=h';injection e with e;have e2:ts (tx c)=ts (tx b):=by rw[e]
   rw[vV,vV] at e2;rw[e2]
  | lst ts=>obtain⟨a,vs,e,_⟩:=h';cases e
  | dic ks ts=>obtain⟨a,vs,e,_⟩:=h';cases e
  | tup ts=>obtain⟨a,vs,e,_⟩:=h';cases e
 | .lst us,x,t',⟨a,vs,e,ha,hs⟩,h'=>by
  subst e
  cases t' with
  | non=>cases (show V.ref a= .non from h')
  | bl b=>cases (show V.ref a= .bl b from h')
  | int b=>cases (show V.ref a= .int b from h')
  | str b=>cases (show V.ref a= .str (tx b) from h')
  | lst ts=>
   obtain⟨a',vs',e',ha',hs'⟩:=h';cases e';rw[ha] at ha';cases ha';rw[Reps.one us vs ts hs hs']
  | dic ks ts=>obtain⟨a',vs',e',ha',_⟩:=h';cases e';rw[ha] at ha';cases ha'
  | tup ts=>obtain⟨a',vs',e',ha',_⟩:=h';cases e';rw[ha] at ha';cases ha'
 | .dic js us,x,t',⟨a,vs,e,ha,hk,hs⟩,h'=>by
  subst e
  cases t' with
  | non=>cases (show V.ref a= .non from h')
  | bl b=>cases (show V.ref a= .bl b from h')
  | int b=>cases (show V.ref a= .int b from h')
  | str b=>cases (show V.ref a= .str (tx b) from h')
  | lst ts=>obtain⟨a',vs',e',ha',_⟩:=h';cases e';rw[ha] at ha';cases ha'
  | dic ks ts=>
   obtain⟨a',vs',e',ha',hk',hs'⟩:=h';cases e';rw[ha] at ha';cases ha';rw[Reps.one us _ ts hs hs',zKh (hk.symm.trans hk')]
  | tup ts=>obtain⟨a',vs',e',ha',_⟩:=h';cases e';rw[ha] at ha';cases ha'
 | .tup us,x,t',⟨a,vs,e,ha,hs⟩,h'=>by
  subst e
  cases t' with
  | non=>cases (show V.ref a= .non from h')
  | bl b=>cases (show V.ref a= .bl b from h')
  | int b=>cases (show V.ref a= .int b from h')
  | str b=>cases (show V.ref a= .str (tx b) from h')
  | lst ts=>obtain⟨a',vs',e',ha',_⟩:=h';cases e';rw[ha] at ha';cases ha'
  | dic ks ts=>obtain⟨a',vs',e',ha',_⟩:=h';cases e';rw[ha] at ha';cases ha'
  | tup ts=>
   obtain⟨a',vs',e',ha',hs'⟩:=h';cases e';rw[ha] at ha';cases ha';rw[Reps.one us vs ts hs hs']
theorem Reps.one{H:Hp}:∀(us:List T)(xs:List V)(ts:List T),Reps H xs us→Reps H xs ts→us=ts
 | [],xs,ts,h,h'=>by
  cases (show xs= [] from h)
  cases ts with
  | nil=>rfl
  | cons t ts=>obtain⟨x,r,e,_⟩:=h';cases e
 | u::us,xs,ts,⟨x,r,e,h1,h2⟩,h'=>by
  subst e
  cases ts with
  | nil=>cases (show x::r= [] from h')
  | cons t ts=>
   obtain⟨x',r',e',h1',h2'⟩:=h';cases e';rw[Rep.one u x t h1 h1',Reps.one us r ts h2 h2']
end
theorem Reps.dic_away{H:Hp}{d:Addr}{o:HO}{ps:List (Key×V)}{ks:List (List Nat)}{ts:List T}(hd:H d=some (.dK ps))(hk:ps.map (·.1)=ks.map nK)(h:Reps H (ps.map (·.2)) ts):Reps (upd H d o) (ps.map (·.2)) ts:=by
 refine Reps.away _ ts h fun z=>?_;obtain⟨t',q,l⟩:=Occs.sub _ ts h z;have e:=Rep.one (.dic ks ts) (.ref d) t' ⟨d,ps,rfl,hd,hk,h⟩ q;rw[←e] at l;exact absurd l (Nat.not_le_of_lt (Nat.lt_succ_self _))
theorem jD:∀{vs:List (Key×V)}{i:Nat}{k:Key}{y:V},(vs.map (·.1)).Nodup→vs[i]? =some (k,y)→qF vs k=some y
 | [],i,k,y,_,h=>by simp at h
 | p::vs,0,k,y,_,h=>by
  simp only[nW,Option.some.injEq] at h;subst h;exact uT rfl
 | p::vs,i+1,k,y,nd,h=>by
  rw[mN,pA] at nd;have h':vs[i]? =some (k,y):=by simpa using h
  have ne:¬p.1=k:=fun e=>nd.1 (nL.mpr ⟨(k,y),mF h',e.symm⟩);rw[kC ne];exact jD nd.2 h'
theorem wI:∀(more kvs:List (Key×V)),((kvs++more).map (·.1)).Nodup→wK kvs more=kvs++more
 | [],kvs,_=>by show kvs=_;rw[rJ]
 | p::r,kvs,h=>by
  show wK (vB kvs p.1 p.2) r=_;have hn:qF kvs p.1=none:=by
   cases e:qF kvs p.1 with
   | none=>rfl
   | some v=>
    have hm:=zPt e;rw[mP,List.nodup_append] at h;exact absurd rfl (h.2.2 p.1 hm p.1 (by simp))
  rw[zMr _ hn,wI r (kvs++ [(p.1,p.2)]) (by rw[tP];exact h),tP]
  rfl
mutual
theorem Nice.dep:∀(t:T){d:Nat},Nice d t→T.dep t≤d
 | .non,_,_=>mL _
 | .bl _,_,_=>mL _
 | .int _,_,_=>mL _
 | .str _,_,_=>mL _
 | .lst ts,d,h=>by
  have:=NiceL.dep ts h.2.2;have:=h.1;show T.deps ts+1≤d
  lia
 | .dic ks ts,d,h=>by
  have:=NiceL.dep ts h.2.2.2.2.2;have:=h.1;show T.deps ts+1≤d
  lia
 | .tup _,_,h=>h.elim
theorem NiceL.dep:∀(ts:List T){d:Nat},NiceL d ts→T.deps ts≤d
 | [],_,_=>mL _
 | t::ts,_,h=>Nat.max_le.mpr ⟨Nice.dep t h.1,NiceL.dep ts h.2⟩
end
theorem qY(d:Nat):1≤5 ^ d:=Nat.one_le_pow _ _ (by decide)
mutual
theorem Nice.sz:∀(t:T){d:Nat},Nice d t→T.sz t≤5 ^ d
 | .non,d,_=>qY d
 | .bl _,d,_=>qY d
 | .int _,d,_=>qY d
 | .str _,d,_=>qY d
 | .lst ts,d,h=>by
  obtain⟨h1,h2,h3⟩:=h;obtain⟨e,rfl⟩:∃e,d=e+1:=⟨d - 1,by lia⟩;have:=NiceL.sz ts h3;have p:=qY e;show T.szs ts+1≤5 ^ (e+1);rw[aO] at this;have q:ts.length*5 ^ e≤4*5 ^ e:=rK _ h2;rw[Nat.pow_succ];lia
 | .dic ks ts,d,h=>by
  obtain⟨h1,h2,_,_,_,h3⟩:=h;obtain⟨e,rfl⟩:∃e,d=e+1:=⟨d - 1,by lia⟩;have:=NiceL.sz ts h3;have p:=qY e;show T.szs ts+1≤5 ^ (e+1);rw[aO] at this;have q:ts.length*5 ^ e≤4*5 ^ e:=rK _ h2;rw[Nat.pow_succ];lia
 | .tup _,_,h=>h.elim
theorem NiceL.sz:∀(ts:List T){d:Nat},NiceL d ts→T.szs ts≤ts.length*5 ^ d
 | [],_,_=>mL _
 | t::ts,d,h=>by
  have a:=Nice.sz t h.1;have b:=NiceL.sz ts h.2;show T.sz t+T.szs ts≤(ts.length+1)*5 ^ d;rw[Nat.succ_mul];lia
end
theorem zKo{H:Hp}{a:Addr}{xs:List V}(h:H a=some (.tup xs)):tyS H (.ref a)=some "tuple":=by
 show(match H a with | some (.lst _)=>some "list" | some (.tup _)=>some "tuple" | some (.dK _)=>some "dict" | _=>none)=_;rw[h]
theorem kY{H:Hp}{a:Addr}{xs:List V}(h:H a=some (.lst xs)):tyS H (.ref a)=some "list":=by
 show(match H a with | some (.lst _)=>some "list" | some (.tup _)=>some "tuple" | some (.dK _)=>some "dict" | _=>none)=_;rw[h]
theorem qP{H:Hp}{a:Addr}{xs:List (Key×V)}(h:H a=some (.dK xs)):tyS H (.ref a)=some "dict":=by
 show(match H a with | some (.lst _)=>some "list" | some (.tup _)=>some "tuple" | some (.dK _)=>some "dict" | _=>none)=_;rw[h]
theorem vQ{H H':Hp}(g:Same H H'){v:V}{t:String}(h:tyS H v=some t):tyS H' v=some t:=by
 cases v with
 | ref a=>
  have h':(match H a with | some (.lst _)=>some "list" | some (.tup _)=>some "tuple" | some (.dK _)=>some "dict" | _=>none)=some t:=h
  cases e:H a with
  | none=>rw[e] at h';cases h'
  | some o=>
   rw[e] at h'
   cases o with
   | lst xs=>cases h';exact kY (g _ _ e)
   | tup xs=>cases h';exact zKo (g _ _ e)
   | dK kvs=>cases h';exact qP (g _ _ e)
   | _=>cases h'
 | _=>exact h
theorem Same.put{H H':Hp}{p:Addr}(g:Same H H')(h:H p=none)(o:HO):Same H (upd H' p o):=fun b u e=>by
 rw[zR (yK e h)];exact g b u e
theorem T.pures_mem{t:T}:∀{ts:List T},T.pures ts→t∈ts→T.pure t
 | [],_,h=>nomatch h
 | u::ts,h,hm=>(mG.mp hm).elim (fun e=>e▸h.1) (T.pures_mem h.2)
theorem yG{α:Type}{l:List α}{i:Nat}{a:α}(h:l[i]? =some a):l.take (i+1)=l.take i++ [a]:=by rw[List.take_add_one,h];rfl
theorem T.sz_pos:∀t:T,1≤T.sz t
 | .non=>mE _
 | .bl _=>mE _
 | .int _=>mE _
 | .str _=>mE _
 | .lst _=>tG _ _
 | .dic _ _=>tG _ _
 | .tup _=>tG _ _
theorem T.szs_len:∀ts:List T,ts.length≤T.szs ts
 | []=>mE _
 | t::ts=>by
  have a:=T.sz_pos t;have b:=T.szs_len ts;show ts.length+1≤T.sz t+T.szs ts
  lia
theorem T.szs_le{t:T}:∀{ts:List T},t∈ts→T.sz t≤T.szs ts
 | [],h=>nomatch h
 | u::ts,h=>by
  show T.sz t≤T.sz u+T.szs ts;rcases mG.mp h with e | e
  ·subst e;exact pZ _ _
  ·exact mY (T.szs_le e) (tG _ _)
theorem zIe:∀(t:T),T.pure t→((zO (tyT t) "list" || zO (tyT t) "dict")=false∧T.dep t=0∧T.sz t=1)∨
  ∃us,(t= .lst us∨∃ks,t= .dic ks us)∧T.pures us∧T.dep t=T.deps us+1∧T.sz t=T.szs us+1∧(zO (tyT t) "list" || zO (tyT t) "dict")=true
 | .non,_=>.inl ⟨rfl,rfl,rfl⟩
 | .bl _,_=>.inl ⟨rfl,rfl,rfl⟩
 | .int _,_=>.inl ⟨rfl,rfl,rfl⟩
 | .str _,_=>.inl ⟨rfl,rfl,rfl⟩
 | .lst us,h=>.inr ⟨us, .inl rfl,h,rfl,rfl,rfl⟩
 | .dic ks us,h=>.inr ⟨us, .inr ⟨ks,rfl⟩,h.2,rfl,rfl,rfl⟩
 | .tup _,h=>h.elim
mutual
theorem Rep.plain{H H':Hp}(g:∀a u,(∀o v,u≠HO.frz o v)→H a=some u→H' a=some u):∀(x:V)(t:T),Rep H x t→Rep H' x t
 | _, .non,h=>h
 | _, .bl _,h=>h
 | _, .int _,h=>h
 | _, .str _,h=>h
 | _, .lst ts,⟨a,vs,h1,h2,h3⟩=>⟨a,vs,h1,g _ _ (by intro o v z;cases z) h2,Reps.plain g vs ts h3⟩
 | _, .dic ks ts,⟨a,ps,h1,h2,h3,h4⟩=>⟨a,ps,h1,g _ _ (by intro o v z;cases z) h2,h3,Reps.plain g _ ts h4⟩
 | _, .tup ts,⟨a,vs,h1,h2,h3⟩=>⟨a,vs,h1,g _ _ (by intro o v z;cases z) h2,Reps.plain g vs ts h3⟩
theorem Reps.plain{H H':Hp}(g:∀a u,(∀o v,u≠HO.frz o v)→H a=some u→H' a=some u):∀(vs:List V)(ts:List T),Reps H vs ts→Reps H' vs ts
 | _,[],h=>h
 | _,t::ts,⟨v,r,h1,h2,h3⟩=>⟨v,r,h1,Rep.plain g v t h2,Reps.plain g r ts h3⟩
end
theorem Reps.thaw{H H':Hp}{vs:List V}{ts:List T}(h:Reps H' vs ts):Reps (L2.thaw H H') vs ts:=Reps.plain (fun _ _ n e=>xE e n) vs ts h
theorem qC{H H':Hp}{d:Addr}{o:Obj}{ps:List (Key×V)}(hd:H d=some (.dK ps))(g:Same (upd H d (.frz o (.dK ps))) H'):Same H (L2.thaw H H'):=uW fun b u e=>by
 by_cases hb:b=d
 ·subst hb
  rw[hd] at e;cases e;exact .inr ⟨⟨o,g _ _ zB⟩,by intro o v z;cases z⟩
 ·exact .inl (g _ _ (by rw[zR hb];exact e))
def T.kids:T→List T
 | .lst us=>us
 | .dic _ us=>us
 | _=>[]
def T.next(ts:List T):List T:=(ts.map T.kids).flatten
theorem Reps.append{H:Hp}{ys:List V}{vs:List T}(h':Reps H ys vs):∀{xs:List V}{us:List T},Reps H xs us→Reps H (xs++ys) (us++vs)
 | xs,[],h=>by
  cases (show xs= [] from h);exact h'
 | _,u::us,⟨x,r,e,h1,h2⟩=>by
  subst e;exact⟨x,r++ys,rfl,h1,Reps.append h' h2⟩
def T.holds(t:T):Bool:=zO (tyT t) "list" || zO (tyT t) "dict"
def zOb(t:TS):TS:=fun D σ H=>∃M:St→Hp→Prop,t {D with nx:=M} σ H∧∀σ' H',M σ' H'→D.nx σ' H'
theorem wY{X:Cx}{st:Stmt}{t:TS}(h:PS X st t):PS X st (zOb t):=by
 intro pins s σ H D I ⟨M,q,m⟩;refine thn (h pins s σ H _ I q) fun f s1 z=>?_
 cases f with
 | next=>obtain⟨σ',H',J,q⟩:=z;exact⟨σ',H',J,m _ _ q⟩
 | brk=>exact z
 | cont=>exact z
 | ret u=>exact z
section
variable{X:Cx}
theorem zKa{P:Program}{w:World}:∀{vs:List (Key×Value)}{ks:List Str}{us:List Value},vs.map (·.1)=ks.map Sum.inr→us.length=vs.length→(∀(j:Nat)(v:Value),us[j]? =some v→∃k x,vs[j]? =some (k,x)∧(yS P w).is k v=true)→StrsAre us ks
 | [],[],[],_,_,_=>.nil
 | p::vs,k::ks,u::us,e,hl,h=>by
  rw[mN,mN] at e;injection e with e1 e2;obtain⟨k',x,e3,hk⟩:=h 0 u rfl;simp only[nW,Option.some.injEq] at e3;rw[e3] at e1;have e4:k'=Sum.inr k:=e1;rw[e4] at hk;obtain⟨t,et⟩:=(show∃t,u=Value.str k t from zFb hk);subst et;exact .cons k t (zKa e2 (by simpa using hl) fun j v hv=>by simpa using h (j+1) v (by simpa using hv))
 | [],_::_,_,e,_,_=>by simp at e
 | _::_,[],_,e,_,_=>by simp at e
 | [],[],_::_,_,hl,_=>by simp at hl
 | _::_,_::_,[],_,hl,_=>by simp at hl
theorem zJi:∀{us:List Value}{ss:List Str},StrsAre us ss→Vals (ss.map V.str) us
 | _,_, .nil=>.nil
 | _,_, .cons x t r=>.cons ⟨t,rfl⟩ (zJi r)
theorem yY(hc:X.calm=true):wW X (.builtin "sorted") (fun xs H Q=>∃(p:Addr)(kvs:List (Key×V))(ks:List Str),xs= [.ref p]∧Rd H p (.dK kvs)∧kvs.map (·.1)=ks.map Sum.inr∧ks.length<64∧
  ∀l ss,H l=none→ss.Perm ks→sortedS ss=true→Q (.ref l) (upd H l (.lst (ss.map V.str)))):=by
 intro pins s σ H xs us Q I r h;obtain⟨p,kvs,ks,rfl,hq,hk,h64,q⟩:=h;obtain⟨u,rfl,rx⟩:=jR r;cases rx;obtain⟨z,hd,vs,rel,dd⟩:=gK I.hok hq;obtain⟨ep,hat⟩:=dd.dictAt;have hl:=rel.length;refine PySem.Calls.call_function_entry kind_sorted plain_sorted entry_sorted (args_sorted1 _) ?_;unfold Builtin.«sorted»;refine mH (m:=checkCount "sorted" 1 1 _) (mZ ?_);refine mH (W.kdu_collect (A:=X.A.in1) (W.kdl_dict (knd:=yS X.prog X.w) (kvs:=vs) (ep:=ep) hd) (show X.A.in1.handled=none from I.ok.hd hc) hat (by lia) fun h' tk acc hkp hacc=>?_);have hlen:acc.toList.length=vs.length:=by rw[tD];exact hacc.1
 have hS:StrsAre acc.toList ks:=zKa (P:=X.prog) (w:=X.w) (by rw[←rel.keys];exact hk) hlen fun j v e=>hacc.2 j v (by rw[←tV];exact e);have hkl:ks.length=vs.length:=by
  have:=congrArg List.length hk;simp only[mB] at this
  lia
 refine mH (wpAny_newList ?_ (by rw[hlen];lia));have hoL:(h'.push (seqObj "list" acc.toList.toArray 0)).get? h'.objs.size=some (seqObj "list" acc.toList.toArray 0):=nI _ rfl;refine mH (rG (bA slot_list_sort ⟨_,hoL,rfl⟩ entry_list_sort (list_sort_treeK strKind_oneLt hoL hS.keysOf (fun v₁ v₂ kA e=>keyKind_strs (by rw[←e];exact hS)) (by lia) fun st' a1 a2=>⟨_,rfl, ?_⟩) (args_list_sort _)));refine mZ ⟨_,rfl, ?_⟩;obtain⟨ss',h1,h2,h3⟩:=sorted_out_str hS a1 a2;have I':Inv X pins σ H {s with heap:=h',toks:=tk}:=I.kept (t':=tk) hkp;have hL:h'.objs.size<(h'.push (seqObj "list" acc.toList.toArray 0)).objs.size:=mT hoL;obtain⟨e,he⟩:=sortedHeap_at (out:=(arrOf st').map (·.2)) hoL;have rS:Vals (ss'.map V.str) ((arrOf st').map (·.2)).toList:=zJi h1;have hp:=h2.length_eq;refine⟨.ref h'.objs.size,_,I'.laid (a:=h'.objs.size) (t':=tk) (h':=sortedHeap (h'.push (seqObj "list" acc.toList.toArray 0)) h'.objs.size acc.toList ((arrOf st').map (·.2))) (fun b u eb=>?_) (mE _) (o:=.lst (ss'.map V.str)) ?_,rfl,q _ ss' (I'.hok.fresh (mE _)) h2 h3⟩
 ·have lt:b<h'.objs.size:=mT eb
  exact(sortedHeap_old (nJ lt) (aB lt hL)).trans (mS _ eb)
 ·exact⟨by rw[mB];lia,_,e,rS,by rw[Array.toArray_toList];exact he⟩
end
section
variable{X:Cx}
def zTx(K:W.Frag):V→List V→Hp→VK→Prop:=fun x vs H Q=>∃(p:Addr)(ss:List Str)(k:Str)(j:Nat),x= .ref p∧vs= [.str k]∧SqL K H p (ss.map V.str)∧ss[j]? =some k∧(∀i,i<j→ss[i]?≠some k)∧j<1000000∧Q (.int j) H
theorem zCc{ss:List Str}{us:List Value}(r:Vals (ss.map V.str) us){j:Nat}(h:j<us.length):∃z t,ss[j]? =some z∧us[j]=Value.str z t:=by
 have hl:=r.length;rw[mB] at hl;obtain⟨u,hu,t,ht⟩:=r.get (i:=j) (x:=.str ss[j]) (by simp[hl,h]);rw[nS h] at hu;exact⟨ss[j],t,by simp[hl,h],(mX hu).trans ht⟩
def zIu(k:Str):Value→Bool
 | .str z _=>z==k
 | _=>false
theorem uK:MtR X "list.index" (zTx X.K):=by
 intro pins s σ H x vs v us Q I rx rv h;obtain⟨p,ss,k,j,rfl,rfl,hq,hj,hno,hsm,q⟩:=h;cases rx;obtain⟨u,rfl,t,rfl⟩:=rv.one;obtain⟨its,r,pl,_⟩:=I.list hq;have hl:=r.length;rw[mB] at hl;have hjl:j<ss.length:=(nB.mp hj).1;obtain⟨⟨cls,dd,data,sl⟩,ho,hc,n,hd⟩:=id pl.isList;simp only at hc hd;subst hc hd;refine tJ rO ⟨_,ho,rfl⟩ PySem.F.entry_list_index (PySem.F.args_list_index_2 _ _) (SeqAt.list_indexAt p its.toArray n dd sl (.str k t) (zIu k) j (by simp;lia) (by lia) ?_ ?_) ⟨ho,fun y hy=>?_,⟨.int j,H,I.tok _,⟨_,rfl⟩,q⟩⟩
 ·obtain⟨z,t',e1,e2⟩:=zCc r (j:=j) (by lia)
  rw[hj] at e1;cases e1;show zIu k its[j]=true;rw[e2];exact beq_self_eq_true k
 ·intro m hm hlt
  obtain⟨z,t',e1,e2⟩:=zCc r (j:=m) (by simpa using hm);show zIu k its[m]=false;rw[e2];have ne:z≠k:=fun e=>hno m hlt (by rw[e1,e]);exact sY.mpr ne
 ·obtain⟨m,hm,e⟩:=Array.mem_iff_getElem.mp hy
  obtain⟨z,t',e1,e2⟩:=zCc r (j:=m) (by simpa using hm);have e3:y=Value.str z t':=by rw[←e];simpa using e2
  subst e3;exact SeqAt.EqAt.str_str z t' k t
def gtV:V→V→Option Bool
 | .int a, .int b=>some (decide (b<a))
 | .bl a, .bl b=>some (a && !b)
 | .str a, .str b=>some (decide (ts b<ts a))
 | _,_=>none
def rGtA:R2:=fun x y H Q=>∃b,gtV x y=some b∧Q (.bl b) H
def rLtA:R2:=fun x y H Q=>∃b,gtV y x=some b∧Q (.bl b) H
theorem zJx:OpR X (compareOp .Gt) rGtA:=by
 intro pins s σ H x y v u Q I rx ry h;obtain⟨b,hb,q⟩:=h;cases x<;>cases y<;>first |(cases hb;done)| skip
 ·rename_i a c
  cases hb;cases (show v=Value.bool a from rx);cases (show u=Value.bool c from ry);refine gt_bool (yQ I q ?_);cases a<;>cases c<;>rfl
 ·rename_i a c
  cases hb;obtain⟨t,rfl⟩:=rx;obtain⟨t',rfl⟩:=ry;exact PyProof.Rows.gt_int (yQ I q rfl)
 ·rename_i a c
  cases hb;obtain⟨t,rfl⟩:=rx;obtain⟨t',rfl⟩:=ry;exact PySem.P.gt_str (yQ I q rfl)
theorem zJq:OpR X (compareOp .Lt) rLtA:=by
 intro pins s σ H x y v u Q I rx ry h;obtain⟨b,hb,q⟩:=h;cases x<;>cases y<;>first |(cases hb;done)| skip
 ·rename_i a c
  cases hb;cases (show v=Value.bool a from rx);cases (show u=Value.bool c from ry);refine lt_bool (yQ I q ?_);cases a<;>cases c<;>rfl
 ·rename_i a c
  cases hb;obtain⟨t,rfl⟩:=rx;obtain⟨t',rfl⟩:=ry;exact PyProof.Rows.lt_int (yQ I q rfl)
 ·rename_i a c
  cases hb;obtain⟨t,rfl⟩:=rx;obtain⟨t',rfl⟩:=ry;exact PyProof.Rows.lt_str (yQ I q rfl)
end
def leK(a b:List Nat):Bool:=!decide (b<a)
theorem zEt(a b c:List Nat)(h1:leK a b=true)(h2:leK b c=true):leK a c=true:=by
 have x1:a≤b:=by simpa [leK] using h1
 have x2:b≤c:=by simpa [leK] using h2
 have:=List.le_trans x1 x2
 simpa [leK] using this
theorem zKv(a b:List Nat):(leK a b || leK b a)=true:=by
 rcases List.le_total a b with h | h
 ·have:leK a b=true:=by simpa [leK] using h
  rw[this];rfl
 ·have:leK b a=true:=by simpa [leK] using h
  rw[this,bB]
theorem zHv{a b:List Nat}(h1:leK a b=true)(h2:leK b a=true):a=b:=by
 have x1:a≤b:=by simpa [leK] using h1
 have x2:b≤a:=by simpa [leK] using h2
 exact List.le_antisymm x1 x2
def yW(ks:List (List Nat)):List (List Nat):=ks.mergeSort leK
theorem xD(ks:List (List Nat)):(yW ks).Perm ks:=List.mergeSort_perm ks leK
theorem jJ(ks:List (List Nat)):(yW ks).Pairwise (fun a b=>leK a b=true):=List.pairwise_mergeSort zEt zKv ks
theorem gU:∀{a b:List (List Nat)},a.Perm b→a.Pairwise (fun a b=>leK a b=true)→b.Pairwise (fun a b=>leK a b=true)→a=b
 | [],b,p,_,_=>(List.nil_perm.mp p).symm
 | x::a,[],p,_,_=>absurd p.length_eq (by simp)
 | x::a,y::b,p,h1,h2=>by
  rw[aP] at h1 h2;have hx:x∈y::b:=p.mem_iff.mp mK;have hy:y∈x::a:=p.mem_iff.mpr mK;have e:x=y:=by
   rcases mG.mp hx with z | z
   ·exact z
   ·rcases mG.mp hy with z' | z'
    ·exact z'.symm
    ·exact zHv (h1.1 y z') (h2.1 x z)
  subst e;rw[gU p.cons_inv h1.2 h2.2]
theorem zAv:∀(p:Str)(l:List Str),risingS p l=true→((p::l).map ts).Pairwise (fun a b=>leK a b=true)
 | p,[],_=>List.pairwise_singleton _ _
 | p,x::r,h=>by
  have h':(!ltCps x.cps.toList p.cps.toList && risingS x r)=true:=h;rw[pY] at h';have ih:=zAv x r h'.2;have hpx:leK (ts p) (ts x)=true:=by
   have:=h'.1;rw[ltCps_eq] at this;exact this
  rw[mN,aP];refine⟨fun y hy=>?_,ih⟩;rw[mN] at hy ih;rw[aP] at ih;rcases mG.mp hy with z | z
  ·rw[z];exact hpx
  ·exact zEt _ _ _ hpx (ih.1 y z)
theorem zFd{l:List Str}(h:sortedS l=true):(l.map ts).Pairwise (fun a b=>leK a b=true):=by
 cases l with
 | nil=>exact List.Pairwise.nil
 | cons p r=>exact zAv p r h
theorem jM{ss:List Str}{ks:List (List Nat)}(hp:ss.Perm (ks.map tx))(hs:sortedS ss=true):ss=(yW ks).map tx:=by
 have e:ss.map ts=yW ks:=by
  refine gU ?_ (zFd hs) (jJ ks);have z:=hp.map ts;rw[pC] at z;have e2:ks.map (ts∘tx)=ks:=by
   conv=>rhs;rw[←List.map_id ks]
   exact pW fun k _=>vV k
  rw[e2] at z;exact z.trans (xD ks).symm
 have e3:(ss.map ts).map tx=ss:=by
  rw[pC]
  conv=>rhs;rw[←List.map_id ss]
  exact pW fun k _=>jW k
 rw[←e3,e]
inductive C where
 | non | bl (b:Bool)| int (i:Int)| str (x:List Nat)| row (xs:List C)| rcd (xs:List C)| odd
def C.ord:C→Nat
 | .non=>0
 | .bl _=>1
 | .int _=>2
 | .str _=>3
 | .row _=>4
 | .rcd _=>5
 | .odd=>6
def zCf(k:List Nat):List (List Nat)→List C→C
 | k'::ks,c::cs=>if k'=k then c else zCf k ks cs
 | _,_=>.odd
def yH(k:List Nat):List (List Nat)→List T→T
 | k'::ks,c::cs=>if k'=k then c else yH k ks cs
 | _,_=>.tup []
mutual
def zQ:T→C
 | .non=>.non
 | .bl b=>.bl b
 | .int i=>.int i
 | .str x=>.str x
 | .lst ts=>.row (yU ts)
 | .dic ks ts=>.rcd ((yW ks).map fun k=>.row [.str k,zCf k ks (yU ts)])
 | .tup _=>.odd
def yU:List T→List C
 | []=>[]
 | t::ts=>zQ t::yU ts
end
theorem qH:∀(ts:List T),yU ts=ts.map zQ
 | []=>rfl
 | t::ts=>by rw[mN,←qH ts];rfl
theorem vF(k:List Nat):∀(ks:List (List Nat))(ts:List T),zQ (yH k ks ts)=zCf k ks (yU ts)
 | [],_=>rfl
 | _::_,[]=>rfl
 | k'::ks,t::ts=>by
  show zQ (if k'=k then t else yH k ks ts)=if k'=k then zQ t else zCf k ks (yU ts);split
  ·rfl
  ·exact vF k ks ts
def sgI(a b:Int):Int:=(if b<a then 1 else 0)- (if a<b then 1 else 0)
def zNf(a b:List Nat):Int:=(if b<a then 1 else 0)- (if a<b then 1 else 0)
mutual
def xN:C→C→Int
 | .non, .non=>0
 | .bl a, .bl b=>sgI (if a then 1 else 0) (if b then 1 else 0)
 | .int a, .int b=>sgI a b
 | .str a, .str b=>zNf a b
 | .row a, .row b=>wJ a b
 | .rcd a, .rcd b=>wJ a b
 | a,b=>sgI a.ord b.ord
def wJ:List C→List C→Int
 | [],[]=>0
 | [],_::_=>-1
 | _::_,[]=>1
 | x::xs,y::ys=>if xN x y=0 then wJ xs ys else xN x y
end
mutual
def T.wt:T→Nat
 | .lst ts=>T.wts ts+1
 | .dic _ ts=>T.wts ts+2
 | .tup ts=>T.wts ts+1
 | .non=>0
 | .bl _=>0
 | .int _=>0
 | .str _=>0
def T.wts:List T→Nat
 | []=>0
 | t::ts=>max (T.wt t) (T.wts ts)
end
theorem T.wts_le{t:T}:∀{ts:List T},t∈ts→T.wt t≤T.wts ts
 | [],h=>nomatch h
 | u::ts,h=>by
  show T.wt t≤max (T.wt u) (T.wts ts);rcases mG.mp h with e | e
  ·subst e;exact Nat.le_max_left _ _
  ·exact mY (T.wts_le e) (Nat.le_max_right _ _)
mutual
def T.few:T→Prop
 | .dic ks ts=>ks.Nodup∧ks.length<64∧ks.length=ts.length∧T.fews ts
 | .lst ts=>ts.length≤100000∧T.fews ts
 | .tup _=>False
 | .non=>True
 | .bl _=>True
 | .int _=>True
 | .str _=>True
def T.fews:List T→Prop
 | []=>True
 | t::ts=>T.few t∧T.fews ts
end
theorem T.fews_mem{t:T}:∀{ts:List T},T.fews ts→t∈ts→T.few t
 | [],_,h=>nomatch h
 | u::ts,h,hm=>(mG.mp hm).elim (fun e=>e▸h.1) (T.fews_mem h.2)
theorem uO{k:List Nat}:∀{ks:List (List Nat)}{ts:List T}{i:Nat}{t:T},ks.Nodup→ks[i]? =some k→ts[i]? =some t→yH k ks ts=t
 | [],_,i,_,_,h,_=>by simp at h
 | k'::ks,[],i,_,_,_,h=>by simp at h
 | k'::ks,u::ts,0,t,nd,h1,h2=>by
  simp only[nW,Option.some.injEq] at h1 h2;subst h1 h2;exact mW rfl
 | k'::ks,u::ts,i+1,t,nd,h1,h2=>by
  rw[pA] at nd;have h1':ks[i]? =some k:=by simpa using h1
  have ne:¬k'=k:=fun e=>nd.1 (e▸mF h1');show(if k'=k then u else yH k ks ts)=t;rw[mJ ne];exact uO nd.2 h1' (by simpa using h2)
theorem xP{k:List Nat}:∀{ks:List (List Nat)}{ts:List T},k∈ks→ks.length=ts.length→yH k ks ts∈ts
 | [],_,h,_=>nomatch h
 | k'::ks,[],_,h=>by simp at h
 | k'::ks,u::ts,h,hl=>by
  show(if k'=k then u else yH k ks ts)∈u::ts;split
  ·exact mK
  ·rename_i ne
   rcases mG.mp h with e | e
   ·exact absurd e.symm ne
   ·exact mI _ (xP e (by simpa using hl))
theorem gX:∀(a b:C),a.ord≠b.ord→xN a b=sgI a.ord b.ord:=by
 intro a b h;cases a<;>cases b<;>first | exact absurd rfl h |(unfold xN;rfl)
theorem jE(x y:C)(xs ys:List C):wJ (x::xs) (y::ys)=if xN x y=0 then wJ xs ys else xN x y:=by
 rw[wJ]
theorem zIh{xs ys:List C}{i:Nat}{x y:C}(hx:xs[i]? =some x)(hy:ys[i]? =some y):wJ (xs.drop i) (ys.drop i)=if xN x y=0 then wJ (xs.drop (i+1)) (ys.drop (i+1)) else xN x y:=by
 obtain⟨h1,e1⟩:=nB.mp hx;obtain⟨h2,e2⟩:=nB.mp hy;rw[pJ h1,pJ h2,e1,e2,jE]
theorem zLy{xs ys:List C}{m:Nat}(h:m=min xs.length ys.length):wJ (xs.drop m) (ys.drop m)=sgI xs.length ys.length:=by
 unfold sgI;rcases Nat.lt_trichotomy xs.length ys.length with g | g | g
 ·have e:m=xs.length:=by lia
  rw[rW (aV e.symm),pJ (show m<ys.length by lia),wJ,mJ (by lia),mW (by lia)]
  rfl
 ·have e:m=xs.length:=by lia
  rw[rW (aV e.symm),rW (show ys.length≤m by lia),wJ,mJ (by lia),mJ (by lia)]
  rfl
 ·have e:m=ys.length:=by lia
  rw[rW (show ys.length≤m by lia),pJ (show m<xs.length by lia),wJ,mW (by lia),mJ (by lia)]
  rfl
def jQ(ks:List (List Nat))(ts:List T):List T:=(yW ks).map fun k=>.lst [.str k,yH k ks ts]
theorem zCb(ks:List (List Nat))(ts:List T):yU (jQ ks ts)=(yW ks).map fun k=>C.row [.str k,zCf k ks (yU ts)]:=by
 rw[qH,jQ,pC];refine pW fun k _=>?_;show C.row [.str k,zQ (yH k ks ts)]=_;rw[vF]
theorem mem_sortK{k:List Nat}{ks:List (List Nat)}:k∈yW ks↔k∈ks:=(xD ks).mem_iff
theorem uP{ts:List T}(h:∀t∈ts,T.few t):T.fews ts:=by
 induction ts with
 | nil=>exact mC
 | cons t ts ih=>exact⟨h t mK,ih fun u hu=>h u (mI _ hu)⟩
theorem zSf{n:Nat}{ts:List T}(h:∀t∈ts,T.wt t≤n):T.wts ts≤n:=by
 induction ts with
 | nil=>exact mL _
 | cons t ts ih=>exact Nat.max_le.mpr ⟨h t mK,ih fun u hu=>h u (mI _ hu)⟩
theorem zGk{ks:List (List Nat)}{ts:List T}(hl:ks.length=ts.length)(h:T.fews ts):T.fews (jQ ks ts):=by
 refine uP fun t ht=>?_;obtain⟨k,hk,rfl⟩:=nL.mp ht;exact⟨by simp,mC,T.fews_mem h (xP (mem_sortK.mp hk) hl),mC⟩
theorem zKq{ks:List (List Nat)}{ts:List T}(hl:ks.length=ts.length):T.wts (jQ ks ts)≤T.wts ts+1:=by
 refine zSf fun t ht=>?_;obtain⟨k,hk,rfl⟩:=nL.mp ht;have:=T.wts_le (xP (mem_sortK.mp hk) hl);show max 0 (max (T.wt (yH k ks ts)) 0)+1≤_
 lia
theorem zCx(ks:List (List Nat))(ts:List T):(jQ ks ts).length=ks.length:=by
 rw[jQ,mB];exact(xD ks).length_eq
theorem wE(ts:List T):(yU ts).length=ts.length:=by rw[qH,mB]
theorem jI{ts:List T}{i:Nat}{t:T}(h:ts[i]? =some t):(yU ts)[i]? =some (zQ t):=by rw[qH,mU,h];rfl
theorem Rep.at_name{H:Hp}{ps:List (Key×V)}{ks:List (List Nat)}{us:List T}(nk:ks.Nodup)(hk:ps.map (·.1)=ks.map fun k=>(Sum.inr (tx k):Key))(hs:Reps H (ps.map (·.2)) us){k:List Nat}(hm:k∈ks):
  ∃v,qF ps (Sum.inr (tx k))=some v∧Rep H v (yH k ks us):=by
 obtain⟨j,hj⟩:=tW.mp hm;have hp:(ps.map (·.1))[j]? =some (Sum.inr (tx k):Key):=by rw[hk,mU,hj];rfl
 rw[mU] at hp
 cases hpj:ps[j]? with
 | none=>rw[hpj] at hp;cases hp
 | some kv=>
  rw[hpj] at hp;have ek:kv.1=(Sum.inr (tx k):Key):=mX hp;have hpj':ps[j]? =some ((Sum.inr (tx k):Key),kv.2):=by rw[hpj,←ek]
  obtain⟨t,ht,hr⟩:=hs.get (i:=j) (v:=kv.2) (by rw[mU,hpj];rfl);refine⟨kv.2,jD (by rw[hk];exact vA nk) hpj', ?_⟩;rw[uO nk hj ht];exact hr
def LtM(P:Program)(w:World)(A:Around)(s:Shared)(u v:Value)(b:Bool):Prop:=∀(E:Value→Shared→Prop)(Q:Value→Shared→Prop),Q (.bool b) s→wpAny (model P w) A (richCompare .Lt u v) Q E s
def EqB(P:Program)(w:World)(A:Around)(s:Shared)(u v:Value)(b:Bool):Prop:=∀(E:Value→Shared→Prop)(Q:Bool→Shared→Prop),Q b s→wpAny (model P w) A (eqBool u v) Q E s
inductive Zc (P:Program) (w:World) (A:Around) (s:Shared):List Value→List Value→Int→Prop
 | nil:Zc P w A s [] [] 0
 | less {y:Value} {ys:List Value}:Zc P w A s [] (y::ys) (-1)
 | more {x:Value} {xs:List Value}:Zc P w A s (x::xs) [] 1
 | eq {x y:Value} {xs ys:List Value} {c:Int}:EqB P w A s x y true→Zc P w A s xs ys c→Zc P w A s (x::xs) (y::ys) c
 | ne {x y:Value} {xs ys:List Value} {c:Int}:EqB P w A s x y false→LtM P w A s x y (decide (c<0))→c≠0→Zc P w A s (x::xs) (y::ys) c
section
variable{P:Program}{w:World}{A:Around}{s:Shared}{E:Value→Shared→Prop}
end
section
variable{X:Cx}{pins:List (Addr×Obj)}{σ:St}{H:Hp}{s:Shared}
end
def rawC:C→T
 | .str x=>.str x
 | _=>.non
mutual
def rk:C→T
 | .non=>.tup [.int 0]
 | .bl b=>.tup [.int 1, .bl b]
 | .int i=>.tup [.int 2, .int i]
 | .str x=>.tup [.int 3, .str x]
 | .row cs=>.tup [.int 4, .tup (rks cs)]
 | .rcd cs=>.tup [.int 5, .tup (rkps cs)]
 | .odd=>.non
def rks:List C→List T
 | []=>[]
 | c::cs=>rk c::rks cs
def rkps:List C→List T
 | []=>[]
 | c::cs=>rkq c::rkps cs
def rkq:C→T
 | .row cs=>.tup (rkl cs)
 | .non=>.non
 | .bl _=>.non
 | .int _=>.non
 | .str _=>.non
 | .rcd _=>.non
 | .odd=>.non
def rkl:List C→List T
 | []=>[]
 | c::cs=>rawC c::rks cs
end
mutual
def C.ok:C→Prop
 | .odd=>False
 | .row cs=>C.oks cs
 | .rcd cs=>C.okps cs
 | .non=>True
 | .bl _=>True
 | .int _=>True
 | .str _=>True
def C.oks:List C→Prop
 | []=>True
 | c::cs=>C.ok c∧C.oks cs
def C.okps:List C→Prop
 | []=>True
 | c::cs=>C.okq c∧C.okps cs
def C.okq:C→Prop
 | .row cs=>C.okl cs
 | .non=>False
 | .bl _=>False
 | .int _=>False
 | .str _=>False
 | .rcd _=>False
 | .odd=>False
def C.okl:List C→Prop
 | []=>False
 | c::cs=>(∃k,c= .str k)∧cs.length=1∧C.oks cs
end
theorem T.deps_of{n:Nat}{ts:List T}(h:∀t∈ts,T.dep t≤n):T.deps ts≤n:=by
 induction ts with
 | nil=>exact mL _
 | cons t ts ih=>exact Nat.max_le.mpr ⟨h t mK,ih fun u hu=>h u (mI _ hu)⟩
section
variable{X:Cx}
end
theorem zEx{α:Type}:∀(l:List α),(List.range l.length).filterMap (l[·]?)=l
 | []=>rfl
 | a::l=>by
  rw[nF,List.range_succ_eq_map,sZ];show a::List.filterMap _ _=_;rw[List.filterMap_map]
  congr 1
  exact zEx l
theorem zDo(n:Nat):sliceRange ((n:Int)- 1) (-1) (-1)=(List.range n).reverse:=by
 unfold sliceRange;apply List.ext_getElem
 ·by_cases h:n=0
  ·simp[h]
  ·simp
   lia
 ·intro i h1 h2
  simp at h2;simp
  lia
theorem zKc{α:Type}(xs:Array α):(List.range xs.size).reverse.filterMap (xs[·]?)=xs.toList.reverse:=by
 rw[List.filterMap_reverse]
 congr 1
 have z:=zEx xs.toList;rw[tD] at z
 simpa using z
theorem zMp(items:Array Value):slicePick items none none (some (-1))=items.toList.reverse.toArray:=by
 unfold slicePick;have hb:sliceBounds none none (some (-1)) items.size=((items.size:Int)- 1,-1,-1):=by first | rfl | simp[sliceBounds]
 rw[hb];show((sliceRange ((items.size:Int)- 1) (-1) (-1)).filterMap (items[·]?)).toArray=_;rw[zDo,zKc]
section
variable{X:Cx}{e k:Expr}{te:TE}{tk:TO}{pos p2:Pos}
def RvR(X:Cx)(r:V→Hp→VK→Prop):Prop:=
 ∀(pins:List (Addr×Obj))(s:Shared)(σ:St)(H:Hp)(x:V)(v vk:Value)(sl:Addr)(Q:VK),Inv X pins σ H s→RelV x v→s.heap.IsSliceOf sl .none .none vk→IsPart vk (some (-1))→r x H Q→
  ∃T id,typeLookup (.type T) "__getitem__" =pure (some (.builtin id))∧s.TypeIs v T∧wpAny (model X.prog X.w) X.A (getItem v (.ref sl)) (EP X pins σ Q) X.xe s
def zNi(r:V→Hp→VK→Prop)(te:TE)(tk:TO):TE:=fun σ H Q=>te σ H fun x H1=>tk σ H1 fun st H2=>st=some (-1)∧r x H2 Q
theorem zCs{r:V→Hp→VK→Prop}(hr:RvR X r)(he:PE X e te)(hk:PO X (some k) tk):PE X (.Subscript e (.Slice none none (some k) p2) pos) (zNi r te tk):=by
 intro pins s σ H Q I h;refine Subscript_ (thn (he pins s σ H _ I h) fun v s1 ⟨x,H1,I1,r1,q1⟩=>?_);refine wpAny_Slice ?_;rw[evalPart_none];refine mZ ?_;refine mZ ?_;refine thn (hk pins s1 σ H1 _ I1 q1) fun vk s3 ⟨u,H3,I3,pu,q3⟩=>?_;obtain⟨rfl,q3⟩:=q3;have I4:Inv X pins σ H3 {s3 with heap:=s3.heap.push {cls:=.type "slice",data:=.fields #[.none, .none,vk]}}:=I3.kept (t':=s3.toks) fun b ob q=>mS _ q;obtain⟨T,id,hT,ht,hg⟩:=hr pins {s3 with heap:=s3.heap.push {cls:=.type "slice",data:=.fields #[.none, .none,vk]}} σ H3 x v vk s3.heap.objs.size Q I4 r1 (Heap.IsSliceOf.new ..) pu q3;show wpAny (model X.prog X.w) X.A (subscriptTail e (.Slice none none (some k) p2) v (.ref s3.heap.objs.size)) (EP X pins σ Q) X.xe {s3 with heap:=s3.heap.push {cls:=.type "slice",data:=.fields #[.none, .none,vk]}};exact tail_any (ops:=[v, .ref s3.heap.objs.size]) ht hT hg (by with_unfolding_all rfl)
def rRvL(K:W.Frag):V→Hp→VK→Prop:=fun x H Q=>∃a xs,x= .ref a∧SqL K H a xs∧∀l,H l=none→Q (.ref l) (upd H l (.lst xs.reverse))
theorem zBh:RvR X (rRvL X.K):=by
 intro pins s σ H x v vk sl Q I rx hs pk h;obtain⟨a,xs,rfl,hx,q⟩:=h;cases rx;obtain⟨its,r,ht,hz⟩:=I.list hx;have hlen:=r.length;refine⟨"list",_,slot_list_getitem.lookup,ht.isList.typeIs, ?_⟩;refine wpAny_getItem_list_slice ht.isList hs .none .none pk (by simp) ?_ (by rw[mV]<;>lia);rw[zMp];refine⟨.ref s.heap.objs.size,_,I.laid (t':=s.toks) (o:=.lst xs.reverse) (fun b ob q=>mS _ q) (mE _) ?_,rfl,q _ (I.hok.fresh (mE _))⟩;exact⟨by rw[rD];exact hz,_,0,r.reverse,nI _ rfl⟩
theorem zMf(n:Nat):Builtin.Str.strSliceIndices none none (-1) n=(List.range n).reverse:=by
 rw[←zDo];unfold Builtin.Str.strSliceIndices
 first | rfl | simp
def rRvS:V→Hp→VK→Prop:=fun x H Q=>∃z,x= .str z∧z.length≤sizeLine∧Q (.str (tx (ts z).reverse)) H
theorem zUm:RvR X rRvS:=by
 intro pins s σ H x v vk sl Q I rx hs pk h;obtain⟨z,rfl,hz,q⟩:=h;obtain⟨t,rfl⟩:=rx;refine⟨"str",_,F.slot_str_getitem.lookup,typeIs_str _ _ _, ?_⟩
 cases pk with
 | int i u=>
  obtain⟨o,ho,hc,hd⟩:=hs;refine rN (l:=none) (u:=none) (st:=some (-1,u)) ⟨o,ho,hc,hd⟩ rfl ?_;have e:sliceMade z t none none (some (-1,u))= .str (tx (ts z).reverse):=by
   unfold sliceMade;rw[mJ (by simp)]
   congr 1
   show(⟨((Builtin.Str.strSliceIndices none none (-1) z.length).filterMap (z.cps[·]?)).toArray⟩:Str)=_;rw[zMf];show(⟨((List.range z.cps.size).reverse.filterMap (z.cps[·]?)).toArray⟩:Str)=_;rw[zKc]
  rw[e];exact⟨by rw[vE,rD,←zBp];exact hz,⟨.str (tx (ts z).reverse),H,I.tok _,⟨_,rfl⟩,q⟩⟩
end
mutual
def T.calm:T→Prop
 | .int i=>-(10 ^ 12)≤i∧i≤10 ^ 12
 | .str x=>x.length≤100
 | .lst ts=>T.calms ts
 | .dic _ ts=>T.calms ts
 | .tup ts=>T.calms ts
 | .non=>True
 | .bl _=>True
def T.calms:List T→Prop
 | []=>True
 | t::ts=>T.calm t∧T.calms ts
end
theorem T.calms_mem{t:T}:∀{ts:List T},T.calms ts→t∈ts→T.calm t
 | [],_,h=>nomatch h
 | u::ts,h,hm=>(mG.mp hm).elim (fun e=>e▸h.1) (T.calms_mem h.2)
theorem T.calms_of{ts:List T}(h:∀t∈ts,T.calm t):T.calms ts:=by
 induction ts with
 | nil=>exact mC
 | cons t ts ih=>exact⟨h t mK,ih fun u hu=>h u (mI _ hu)⟩
structure Fit(d z:Nat)(t:T):Prop where
 few:T.few t
 calm:T.calm t
 dep:T.dep t≤d
 sz:T.sz t≤z
theorem wF{K:W.Frag}{H:Hp}{p:Addr}{xs:List V}{i:Int}{Q:VK}(h:H p=some (.lst xs))(h0:0≤i)(h1:i<xs.length)(q:∀x∈xs,Q x H):zQq K (.ref p) (.int i) H Q:=by
 obtain⟨x,hx,hm⟩:=jH h0 h1;exact yN (SqL.of h) hx (q x hm)
theorem kP:∀(n:Nat)(t:T),T.dep t≤n→T.few t→T.pure t:=by
 intro n
 induction n with
 | zero=>
  intro t hd hf
  cases t with
  | lst ts=>exact absurd hd (sV _)
  | dic ks ts=>exact absurd hd (sV _)
  | tup ts=>exact hf.elim
  | _=>exact mC
 | succ n ih=>
  have all:∀ts:List T,T.deps ts≤n→T.fews ts→T.pures ts:=by
   intro ts
   induction ts with
   | nil=>intros;exact mC
   | cons t ts ih2=>
    intro hd hf;have hd':max (T.dep t) (T.deps ts)≤n:=hd;exact⟨ih t (by lia) hf.1,ih2 (by lia) hf.2⟩
  intro t hd hf
  cases t with
  | lst ts=>exact all ts (Nat.le_of_succ_le_succ hd) hf.2
  | dic ks ts=>exact⟨hf.1,all ts (Nat.le_of_succ_le_succ hd) hf.2.2.2⟩
  | tup ts=>exact hf.elim
  | _=>exact mC
theorem Fit.mono{d z d' z':Nat}{t:T}(h:Fit d z t)(hd:d≤d')(hz:z≤z'):Fit d' z' t:=⟨h.few,h.calm,mY h.dep hd,mY h.sz hz⟩
section
variable{P:Program}{w:World}
theorem zQg{κ:Type} [DecidableEq κ] {knd:KeyKind P w κ} {A:Around} {E:Value→Shared→Prop} {s:Shared} {nm:String} {a b:Addr} {pa:List (κ×Value)} {Q:Bool→Shared→Prop} (na:(a==sysModules)=false) (nb:(b==sysModules)=false)
  (Da:s.heap.DictOf knd a pa) (Db:s.heap.DictOf knd b ([]:List (κ×Value))) (h0:pa≠ []) (q:Q false s):wpAny (model P w) A (Builtin.Dict.samePairs nm a b) Q E s:=by
 obtain⟨o1,e1,n1,g1,_,d1,k1,p1,_⟩:=Da;obtain⟨o2,e2,n2,g2,_,d2,k2,p2,_⟩:=Db;have s1:pa.length=e1.size:=by rw[←p1.length];simp
 have s2:(0:Nat)=e2.size:=by have:=p2.length;simpa using this.symm
 have hpos:0<pa.length:=rP.mpr h0;unfold Builtin.Dict.samePairs Builtin.Dict.showsAll;rw[mJ (show¬(a==sysModules)=true by rw[na];exact nA),mJ (show¬(b==sysModules)=true by rw[nb];exact nA)];refine mH (mZ (mH (mZ (mH (sA g1 d1 ?_)))));dsimp only;refine mH (sA g2 d2 ?_);rw[mW (by rw[←s1,←s2];simp;lia)];exact mH (wpAny_rule (mZ q))
end
section
variable{X:Cx}
def rNeD:R2:=fun x y H Q=>∃a b ps,x= .ref a∧y= .ref b∧H a=some (.dK ps)∧H b=some (.dK [])∧Q (.bl (!ps.isEmpty)) H
theorem zJn(hu:X.A.units<cLine):OpR X (compareOp .NotEq) rNeD:=by
 intro pins s σ H x y v u Q I rx ry h;obtain⟨a,b,ps,rfl,rfl,ha,hb,q⟩:=h;cases rx;cases ry;obtain⟨_,na,us,r1,Da⟩:=zDx I.hok ha;obtain⟨_,nb,vs,r2,Db⟩:=zDx I.hok hb;have n1:=r1.length;have n2:=r2.length;have ev:vs= []:=List.length_eq_zero_iff.mp n2.symm;subst ev;refine wpAny_richCompare_same_room (op:=.NotEq) Da.typeIs Db.typeIs PySem.F.slot_dict_ne (bA PySem.F.slot_dict_ne Da.typeIs PySem.F.entry_dict_ne ?_ (PySem.F.args_dict_ne_2 _ _)) hu;show wpAny _ _ (Builtin.Dict.dictSlotArgs "__ne__" ⟨[.ref a, .ref b],[]⟩>>=_) _ _ s;refine mH ?_;unfold Builtin.Dict.dictSlotArgs;refine mH (wpAny_notOrdered_dict Da.typeIs ?_);show wpAny _ _ (pure (Value.ref a,Value.ref b)) _ _ s;refine mZ (mH (wpAny_isInstance (T:="dict") Db.typeIs F.sub_dict_dict ?_));simp only[Bool.not_true,aN,aI];refine mH (mZ (mH (mZ ?_)))
 cases ps with
 | nil=>
  have eu:us= []:=List.length_eq_zero_iff.mp n1.symm;subst eu;exact mH (zLk na nb Da Db rfl (fun i k v hi=>by simp at hi) (mZ ⟨_,rfl,(fun x=>nomatch x),⟨.bl false,H,I,rfl,q⟩⟩))
 | cons p ps=>
  refine mH (zQg na nb Da Db (fun z=>by rw[z] at n1;simp at n1) (mZ ⟨_,rfl,(fun x=>nomatch x),⟨.bl true,H,I,rfl,q⟩⟩))
end
theorem zDw{k:Key}{v:V}:∀{ps:List (Key×V)},k∉ps.map (·.1)→(ps.map fun kv=>if kv.1=k then(kv.1,v) else kv)=ps
 | [],_=>rfl
 | p::ps,h=>by
  rw[mN] at h⊢;have h1:¬p.1=k:=fun e=>h (by rw[←e];exact mK);rw[mJ h1,zDw fun z=>h (mI _ z)]
theorem Reps.repl_sz{H:Hp}{k:Key}{v:V}{t:T}(hv:Rep H v t):∀{ps:List (Key×V)}{ts:List T},(ps.map (·.1)).Nodup→Reps H (ps.map (·.2)) ts→
  ∃ts',Reps H ((ps.map fun kv=>if kv.1=k then(kv.1,v) else kv).map (·.2)) ts'∧(∀u∈ts',u∈ts∨u=t)∧T.szs ts'≤T.szs ts+T.sz t
 | [],ts,_,h=>⟨ts,h,fun u hu=>.inl hu,pZ _ _⟩
 | p::ps,[],_,h=>by
  have h':(p::ps).map (·.2)= []:=h;cases h'
 | p::ps,u::ts,nd,⟨v',r,e,h1,h2⟩=>by
  have e':p.2::ps.map (·.2)=v'::r:=e;injection e' with e1 e2;subst e1 e2;rw[mN,pA] at nd
  by_cases hk:p.1=k
  ·refine⟨t::ts,⟨v,ps.map (·.2), ?_,hv,h2⟩,fun z hz=>?_, ?_⟩
   ·rw[mN,mW hk,zDw (by rw[←hk];exact nd.1),mN]
   ·rcases mG.mp hz with q | q
    ·exact .inr q
    ·exact .inl (mI _ q)
   ·show T.sz t+T.szs ts≤T.sz u+T.szs ts+T.sz t
    lia
  ·obtain⟨ts',r',m',z'⟩:=Reps.repl_sz hv nd.2 h2
   refine⟨u::ts',⟨p.2,_, ?_,h1,r'⟩,fun z hz=>?_, ?_⟩
   ·rw[mN,mJ hk,mN]
   ·rcases mG.mp hz with q | q
    ·exact .inl (by rw[q];exact mK)
    ·exact(m' z q).imp (mI _) id
   ·show T.sz u+T.szs ts'≤T.sz u+T.szs ts+T.sz t
    lia
theorem vP(t:T):∀(ts:List T),T.szs (ts++ [t])=T.szs ts+T.sz t
 | []=>by show T.sz t+0=0+T.sz t;lia
 | u::ts=>by
  show T.sz u+T.szs (ts++ [t])=T.sz u+T.szs ts+T.sz t;rw[vP t ts];lia
theorem zSy{H:Hp}{ps:List (Key×V)}{ks:List (List Nat)}{ts:List T}{n:List Nat}{v:V}{t:T}(hk:ps.map (·.1)=ks.map nK)(hR:Reps H (ps.map (·.2)) ts)(nd:ks.Nodup)(hv:Rep H v t):
  ∃(ks':List (List Nat))(ts':List T),(vB ps (nK n) v).map (·.1)=ks'.map nK∧Reps H ((vB ps (nK n) v).map (·.2)) ts'∧ks'.Nodup∧(∀u∈ts',u∈ts∨u=t)∧ks'.length≤ks.length+1∧T.szs ts'≤T.szs ts+T.sz t:=by
 unfold vB
 by_cases h:(ps.any fun kv=>decide (kv.1=nK n))=true
 ·rw[mW h]
  obtain⟨ts',r',m',z'⟩:=Reps.repl_sz (k:=nK n) hv (by rw[hk];exact vA nd) hR;refine⟨ks,ts', ?_,r',nd,m',rT _,z'⟩;rw[←hk,pC];apply pW;intro p _;show(if p.1=nK n then(p.1,v) else p).1=p.1;split<;>rfl
 ·rw[mJ h]
  refine⟨ks++ [n],ts++ [t],by rw[mP,hk,mP];rfl,by rw[mP];exact Reps.snoc hv hR, ?_,fun u hu=>?_,by simp,by rw[vP];exact mE _⟩
  ·refine zGf nd fun hm=>h (tR.mpr ?_)
   have hm':nK n∈ps.map (·.1):=by rw[hk];exact nL.mpr ⟨n,hm,rfl⟩
   obtain⟨p,hp,e⟩:=nL.mp hm';exact⟨p,hp,pL e⟩
  ·rcases nD.mp hu with q | q
   ·exact .inl q
   ·exact .inr (nM.mp q)
theorem zId(xs:List V)(i:Nat):zBe xs none (some (i:Int))=xs.take i:=by
 unfold zBe;rw[HT.sIx_nat];show(xs.drop 0).take (min i xs.length - 0)=_;rw[sR,Nat.sub_zero]
 by_cases h:i≤xs.length
 ·rw[aD h]
 ·rw[tS (by lia),nT,pT (by lia)]
theorem jZ(xs:List V)(i:Nat):zBe xs (some (i:Int)) none=xs.drop i:=by
 unfold zBe;rw[HT.sIx_nat];show(xs.drop (min i xs.length)).take (xs.length - min i xs.length)=_
 by_cases h:i≤xs.length
 ·rw[aD h,pT (by rw[nU];lia)]
 ·rw[tS (by lia),List.drop_length,rW (by lia),List.take_nil]
theorem zCg(xs:List V):zBe xs none (some (-1))=xs.take (xs.length - 1):=by
 unfold zBe;show(xs.drop 0).take ((-1+(xs.length:Int)).toNat - 0)=_;rw[sR,Nat.sub_zero]
 congr 1
 lia
theorem Reps.take{H:Hp}:∀{xs:List V}{us:List T}(i:Nat),Reps H xs us→Reps H (xs.take i) (us.take i)
 | xs,us,0,_=>by rw[List.take_zero,List.take_zero];exact rfl
 | xs,[],i+1,h=>by cases (show xs= [] from h);exact rfl
 | xs,u::us,i+1,⟨x,r,e,h1,h2⟩=>by
  subst e;rw[List.take_succ_cons,List.take_succ_cons];exact⟨x,_,rfl,h1,Reps.take i h2⟩
theorem Reps.drop{H:Hp}:∀{xs:List V}{us:List T}(i:Nat),Reps H xs us→Reps H (xs.drop i) (us.drop i)
 | xs,us,0,h=>by rw[sR,sR];exact h
 | xs,[],i+1,h=>by cases (show xs= [] from h);exact rfl
 | xs,u::us,i+1,⟨x,r,e,h1,h2⟩=>by
  subst e;rw[List.drop_succ_cons,List.drop_succ_cons];exact Reps.drop i h2
theorem Reps.reverse{H:Hp}:∀{xs:List V}{us:List T},Reps H xs us→Reps H xs.reverse us.reverse
 | xs,[],h=>by cases (show xs= [] from h);exact rfl
 | xs,u::us,⟨x,r,e,h1,h2⟩=>by
  subst e;rw[tN,tN];exact Reps.snoc h1 (Reps.reverse h2)
theorem wU:∀(a b:List T),T.szs (a++b)=T.szs a+T.szs b
 | [],b=>by show T.szs b=0+T.szs b;lia
 | u::a,b=>by
  show T.sz u+T.szs (a++b)=T.sz u+T.szs a+T.szs b;rw[wU a b];lia
theorem sz_pos:∀(t:T),1≤T.sz t
 | .lst ts=>nN (mL _)
 | .dic _ ts=>nN (mL _)
 | .tup ts=>nN (mL _)
 | .non=>mE _
 | .bl _=>mE _
 | .int _=>mE _
 | .str _=>mE _
theorem uF:∀(ts:List T),ts.length≤T.szs ts
 | []=>mE _
 | t::ts=>by
  have:=uF ts;have:=sz_pos t;show ts.length+1≤T.sz t+T.szs ts
  lia
theorem zLz{us:List T}{i:Nat}{t:T}(h:us[i]? =some t):T.szs us=T.szs (us.take i)+T.sz t+T.szs (us.drop (i+1)):=by
 obtain⟨hl,e⟩:=nB.mp h
 conv=>lhs;rw[←sT i us,wU,pJ hl,e]
 show _+(T.sz t+_)=_
 lia
theorem Fit.row{d z:Nat}{us:List T}(h:∀u∈us,T.few u∧T.calm u∧T.dep u+1≤d)(hd:1≤d)(hz:T.szs us+1≤z)(hl:T.szs us≤100000):Fit d z (.lst us):=by
 refine⟨⟨mY (uF us) hl,uP fun u hu=>(h u hu).1⟩,T.calms_of fun u hu=>(h u hu).2.1, ?_,hz⟩;have:T.deps us≤d - 1:=T.deps_of fun u hu=>by have:=(h u hu).2.2;lia
 show T.deps us+1≤d
 lia
theorem Fit.book{d z:Nat}{ks:List (List Nat)}{us:List T}(nk:ks.Nodup)(hk:ks.length<64)(hl:ks.length=us.length)(h:∀u∈us,T.few u∧T.calm u∧T.dep u+1≤d)(hd:1≤d)(hz:T.szs us+1≤z):Fit d z (.dic ks us):=by
 refine⟨⟨nk,hk,hl,uP fun u hu=>(h u hu).1⟩,T.calms_of fun u hu=>(h u hu).2.1, ?_,hz⟩;have:T.deps us≤d - 1:=T.deps_of fun u hu=>by have:=(h u hu).2.2;lia
 show T.deps us+1≤d
 lia
theorem zDc{us:List T}(hf:T.fews us)(hc:T.calms us):∀u∈us,T.few u∧T.calm u∧T.dep u+1≤T.deps us+1:=fun u hu=>⟨T.fews_mem hf hu,T.calms_mem hc hu,nN (T.deps_le hu)⟩
section
variable{X:Cx}{pins:List (Addr×Obj)}{σ σ':St}{H H':Hp}{s s':Shared}
theorem Inv.freezeL{d:Addr}{xs:List V}{o:Obj}(I:Inv X pins σ H s)(h:H d=some (.lst xs))(hg:s.heap.get? d=some o):Inv X pins σ (upd H d (.frz o (.lst xs))) s:=by
 have ne:∀b u,H b=u→u≠some (.lst xs)→b≠d:=fun b u e n z=>by subst z;exact n (e.symm.trans h)
 refine I.sim (fun b e=>by rw[zR (ne b _ e (by intro z;cases z))];exact e) (fun b a e=>by rw[zR (ne b _ e (by intro z;cases z))];exact e) (fun b a e=>by rw[zR (ne b _ e (by intro z;cases z))];exact e)
  (fun b a e=>by rw[zR (ne b _ e (by intro z;cases z))];exact e) (fun b o' u e=>?_) fun b u e=>?_
 ·have e':=I.base.frzs b o' u e
  rw[zR (ne b _ e' (by intro z;cases z))];exact e'
 ·by_cases hb:b=d
  ·subst hb
   rw[zB] at e;cases e;exact .inr (.inr ⟨o,_,rfl,h,hg⟩)
  ·rw[zR hb] at e;exact .inl e
def zJo(d:Addr)(t:TE):TE:=fun σ H Q=>(∃kvs,H d=some (.dK kvs)∧∀o,t σ (upd H d (.frz o (.dK kvs))) fun v H'=>Q v (thaw H H'))∨∃xs,H d=some (.lst xs)∧∀o,t σ (upd H d (.frz o (.lst xs))) fun v H'=>Q v (thaw H H')
def zGa(t:TE):TE:=fun σ H Q=>∃d,zJo d t σ H Q
theorem uE{e:Expr}{t:TE}(h:PE X e t):PE X e (zGa t):=by
 intro pins s σ H Q I q;obtain⟨d,⟨kvs,hd,q⟩|⟨xs,hd,q⟩⟩:=q
 ·obtain⟨_,_,us,_,D⟩:=zDx I.hok hd
  obtain⟨o,ho,_⟩:=D.typeIs;exact thn (h pins s σ _ _ (I.freeze hd ho) (q o)) fun u s1 ⟨v,H1,I1,r,q1⟩=>⟨v,_,I.thaw I1,r,q1⟩
 ·obtain⟨us,r1,pl,_⟩:=I.list (SqL.of hd)
  obtain⟨o,n,ho,_⟩:=pl;exact thn (h pins s σ _ _ (I.freezeL hd ho) (q o)) fun u s1 ⟨v,H1,I1,r,q1⟩=>⟨v,_,I.thaw I1,r,q1⟩
end
def wL(H:Hp)(d:Addr):Hp:=fun b=>if b=d then none else H b
theorem xA{H:Hp}{d b:Addr}(h:b≠d):wL H d b=H b:=mJ h
theorem vI{H:Hp}{d:Addr}:wL H d d=none:=mW rfl
theorem qS{H:Hp}{d:Addr}{u:HO}:wL (upd H d u) d=wL H d:=by
 funext b
 by_cases h:b=d
 ·subst h;rw[vI,vI]
 ·rw[xA h,xA h,zR h]
theorem uC{H:Hp}{d:Addr}{u:HO}:Same (wL H d) (upd H d u):=fun b v e=>by
 by_cases h:b=d
 ·subst h;rw[vI] at e;cases e
 ·rw[xA h] at e;rw[zR h];exact e
theorem xQ{H:Hp}{d:Addr}:Same (wL H d) H:=fun b v e=>by
 by_cases h:b=d
 ·subst h;rw[vI] at e;cases e
 ·rw[xA h] at e;exact e
theorem zMt{H:Hp}{d:Addr}(h:H d=none):wL H d=H:=by
 funext b
 by_cases e:b=d
 ·subst e;rw[vI,h]
 ·rw[xA e]
theorem qT{H H':Hp}{d:Addr}(h:Same H H'):Same (wL H d) (wL H' d):=fun b v e=>by
 by_cases hb:b=d
 ·subst hb;rw[vI] at e;cases e
 ·rw[xA hb] at e⊢;exact h b v e
theorem Rep.off{H H':Hp}{d:Addr}{o:Obj}{u:HO}(hd:H' d=some (.frz o u)){v:V}{t:T}(h:Rep H' v t):Rep (wL (L2.thaw H H') d) v t:=
 Rep.plain (fun b w n e=>by
  have hb:b≠d:=fun z=>by subst z;rw[hd] at e;cases e;exact n _ _ rfl
  rw[xA hb];exact xE e n) v t h
theorem zMj{H H':Hp}{d:Addr}{o:Obj}{u:HO}(g:Same (upd H d (.frz o u)) H'):Same (wL H d) (wL (L2.thaw H H') d):=fun b w e=>by
 by_cases hb:b=d
 ·subst hb;rw[vI] at e;cases e
 ·rw[xA hb] at e⊢
  have e':H' b=some w:=g b w (by rw[zR hb];exact e)
  cases w with
  | frz o' w'=>rw[zBq e];exact e'
  | _=>exact xE e' (by intro o v z;cases z)
theorem zDq{H H':Hp}{d:Addr}{o:Obj}{u:HO}(hd:H d=some u)(hu:∀o v,u≠ .frz o v)(g:Same (upd H d (.frz o u)) H'):L2.thaw H H' d=some u:=
 zJr (g d _ zB) fun o v z=>hu o v (mX (hd.symm.trans z))
def jS:Nat→Nat
 | 0=>1
 | d+1=>4*jS d+1
theorem kW:∀d,1≤jS d
 | 0=>mE _
 | d+1=>nN (mL _)
theorem zNt:∀d,d≤4→jS d≤341:=by
 intro d h;have:d=0∨d=1∨d=2∨d=3∨d=4:=by lia
 rcases this with rfl | rfl | rfl | rfl | rfl<;>decide
theorem zAa{n:Nat}:∀{ts:List T},(∀t∈ts,T.sz t≤n)→T.szs ts≤ts.length*n
 | [],_=>mL _
 | t::ts,h=>by
  have h1:=h t mK;have h2:=zAa (ts:=ts) fun u hu=>h u (mI _ hu);show T.sz t+T.szs ts≤(ts.length+1)*n;rw[Nat.add_mul];lia
theorem kH:∀(d:Nat)(t:T),d≤4→Nice d t→Fit d (jS d) t
 | d, .non,_,_=>⟨mC,mC,mL _,kW d⟩
 | d, .bl _,_,_=>⟨mC,mC,mL _,kW d⟩
 | d, .int _,_,h=>⟨mC,h,mL _,kW d⟩
 | d, .str x,_,h=>by
  have h':zAm x=true:=h;unfold zAm at h';rw[pY,pB] at h';exact⟨mC,mY h'.1 (by decide),mL _,kW d⟩
 | 0, .lst ts,_,h=>absurd h.1 (by decide)
 | d+1, .lst ts,hd,h=>by
  obtain⟨_,hl,hN⟩:=h;have k:∀t∈ts,Fit d (jS d) t:=fun t ht=>kH d t (by lia) (NiceL_iff.mp hN t ht);have z:=zAa fun t ht=>(k t ht).sz;have z2:ts.length*jS d≤4*jS d:=rK _ hl;have z3:=zNt d (by lia);refine Fit.row (fun u hu=>⟨(k u hu).few,(k u hu).calm,nN (k u hu).dep⟩) (nN (mL _)) ?_ (by lia);show _≤4*jS d+1
  lia
 | 0, .dic ks ts,_,h=>absurd h.1 (by decide)
 | d+1, .dic ks ts,hd,h=>by
  obtain⟨_,hl,hkl,nk,_,hN⟩:=h;have k:∀t∈ts,Fit d (jS d) t:=fun t ht=>kH d t (by lia) (NiceL_iff.mp hN t ht);have z:=zAa fun t ht=>(k t ht).sz;have z2:ts.length*jS d≤4*jS d:=rK _ hl;refine Fit.book nk (by lia) hkl (fun u hu=>⟨(k u hu).few,(k u hu).calm,nN (k u hu).dep⟩) (nN (mL _)) ?_;show _≤4*jS d+1
  lia
 | d, .tup ts,_,h=>by cases d<;>exact h.elim
theorem zGt{X:Cx}{K:W.Frag}(h:X.K=K):IxR X (zQq K):=by subst h;exact yA
end L2
namespace L2
open PySem PySem.Spec PyProof.Rows PySem.Builtin PySem.Builtin.Str
section
variable{prog:Program}{w:World}{A:Around}{E:Value→Shared→Prop}{s:Shared}{x y:Str}{t u:Tok}{Q:Value→Shared→Prop}
end
section
variable{X:Cx}
end
structure Bl3(mg:Str→Option Value):Prop extends Bl2 mg where
 abs:mg "abs" =none
end L2
namespace L2
open PySem PySem.Spec PyProof.Rows
def wX(ns:List Int)(k:Int):Int:=
 let m:=if ns= [] then k*7919 else(k*7919+k / ns.length*104729+ns.getD (k % ns.length).toNat 0*48271)% 1000003
 (m*m / 11+13*m)% 1000003
theorem wG(ns:List Int)(k:Int):0≤wX ns k:=pO _ (by decide)
theorem wO(ns:List Int)(k:Int):wX ns k<1000003:=pH _ (by decide)
theorem zCm{α:Type}(f:Nat→α)(i:Nat):(List.range (i+1)).map f=(List.range i).map f++ [f i]:=by rw[bL,mP];rfl
def xW(n:List Nat)(t:T):List (List Nat)→List T→List T
 | k::ks,u::us=>(if k=n then t else u)::xW n t ks us
 | _,us=>us
def uG(p:List (List Nat)×List T)(n:List Nat)(t:T):List (List Nat)×List T:=if n∈p.1 then(p.1,xW n t p.1 p.2) else(p.1++ [n],p.2++ [t])
theorem zAq(n:List Nat)(t:T):∀(ks:List (List Nat))(us:List T),(xW n t ks us).length=us.length
 | [],us=>by unfold xW;rfl
 | _::_,[]=>rfl
 | k::ks,u::us=>by
  show(xW n t ks us).length+1=us.length+1;rw[zAq n t ks us]
theorem zDu(n:List Nat)(t:T):∀(ks:List (List Nat))(us:List T)(u:T),u∈xW n t ks us→u∈us∨u=t
 | [],us,u,h=>by unfold xW at h;exact .inl h
 | _::_,[],u,h=>.inl h
 | k::ks,v::us,u,h=>by
  have h':u∈(if k=n then t else v)::xW n t ks us:=h;rcases mG.mp h' with z | z
  ·split at z
   ·exact .inr z
   ·exact .inl (by rw[z];exact mK)
  ·exact(zDu n t ks us u z).imp (mI _) id
theorem Reps.replT{H:Hp}{n:List Nat}{v:V}{t:T}(hv:Rep H v t):∀{ps:List (Key×V)}{ks:List (List Nat)}{us:List T},ps.map (·.1)=ks.map nK→Reps H (ps.map (·.2)) us→Reps H ((ps.map fun kv=>if kv.1=nK n then(kv.1,v) else kv).map (·.2)) (xW n t ks us)
 | [],[],us,_,h=>by
  have e:xW n t [] us=us:=by unfold xW;rfl
  rw[e];exact h
 | [],_::_,_,e,_=>by simp at e
 | _::_,[],_,e,_=>by simp at e
 | p::ps,k::ks,[],_,h=>by
  have h':(p::ps).map (·.2)= []:=h;cases h'
 | p::ps,k::ks,u::us,e,⟨v',r,e0,h1,h2⟩=>by
  have e':p.2::ps.map (·.2)=v'::r:=e0;injection e' with e1 e2;subst e1 e2;have e3:p.1::ps.map (·.1)=nK k::ks.map nK:=e;injection e3 with e4 e5;have ih:=Reps.replT (n:=n) hv e5 h2
  by_cases hk:k=n
  ·refine⟨v,_, ?_, ?_,ih⟩
   ·rw[mN,mW (by rw[e4,hk]),mN]
   ·rw[mW hk];exact hv
  ·refine⟨p.2,_, ?_, ?_,ih⟩
   ·rw[mN,mJ (by rw[e4];exact fun z=>hk (qO z)),mN]
   ·rw[mJ hk];exact h1
theorem zHx{H:Hp}{ps:List (Key×V)}{p:List (List Nat)×List T}{n:List Nat}{v:V}{t:T}(hk:ps.map (·.1)=p.1.map nK)(hR:Reps H (ps.map (·.2)) p.2)(hv:Rep H v t):
  (vB ps (nK n) v).map (·.1)=(uG p n t).1.map nK∧Reps H ((vB ps (nK n) v).map (·.2)) (uG p n t).2:=by
 have hm:(ps.any fun kv=>decide (kv.1=nK n))=true↔n∈p.1:=by
  rw[tR];constructor
  ·rintro⟨kv,hkv,e⟩
   have:nK n∈ps.map (·.1):=nL.mpr ⟨kv,hkv,rZ e⟩;rw[hk] at this;obtain⟨k,h1,h2⟩:=nL.mp this;rw[←qO h2];exact h1
  ·intro h
   have:nK n∈ps.map (·.1):=by rw[hk];exact nL.mpr ⟨n,h,rfl⟩
   obtain⟨kv,h1,h2⟩:=nL.mp this;exact⟨kv,h1,pL h2⟩
 unfold vB uG
 by_cases h:n∈p.1
 ·rw[mW (hm.mpr h),mW h]
  refine⟨?_,Reps.replT hv hk hR⟩;show _=p.1.map nK;rw[←hk,pC];apply pW;intro q _;show(if q.1=nK n then(q.1,v) else q).1=q.1;split<;>rfl
 ·rw[mJ (fun z=>h (hm.mp z)),mJ h]
  exact⟨by rw[mP,hk,mP];rfl,by rw[mP];exact Reps.snoc hv hR⟩
end L2
namespace L2
open PySem PySem.Spec PyProof.Rows PySem.Builtin PySem.Builtin.Str
end L2
namespace L2
open PySem PySem.Spec PyProof.Rows
section
variable{X:Cx}
def zQe(t u:TE):TE:=fun σ H Q=>t σ H Q∨u σ H Q
theorem zLf{e:Expr}{t u:TE}(h1:PE X e t)(h2:PE X e u):PE X e (zQe t u):=fun pins s σ H Q I h=>h.elim (h1 pins s σ H Q I) (h2 pins s σ H Q I)
end
def kid:T→T→T
 | .lst us, .int i=>us.getD i.toNat .non
 | .dic ks us, .str k=>yH k ks us
 | _,_=>.non
section
variable{X:Cx}{pins:List (Addr×Obj)}{σ:St}{H:Hp}{s:Shared}{h':Heap}
theorem Inv.turnedNew{fp:List Addr}{a:Addr}{o:HO}{t':Nat}(I:Inv X pins σ H s)(hf:∀b∈fp,zBc X pins H b)(k:∀b ob,b∉fp→s.heap.get? b=some ob→h'.get? b=some ob)(hp:s.heap.objs.size≤a)
  (new:ObjOk X.prog X.w (upd H a o) h' a o):Inv X pins σ (upd H a o) {s with heap:=h',toks:=t'}:=by
 have hn:H a=none:=I.hok.fresh hp;have nfp:∀b u,H b=some u→b∉fp:=fun b u e z=>by rw[(hf b z).1] at e;cases e
 have nea:∀b ob,s.heap.get? b=some ob→b≠a:=fun b ob e=>nJ (nC (mT e) hp);refine I.step (g':=s.gens) (d':=s.drawn) (ch:=fp) (fun b hb=>?_) (fun b ob _ _ hc e _=>k b ob hc e) (fun b ob _ _ hc e _=>⟨ob.slots,k b ob hc e⟩) (fun b ob _ e n=>by rw[zR (nea b ob e)];exact n)
  (fun b ob hc e=>⟨ob,k b ob hc e⟩) (fun b xs e=>by rw[zR (yK e hn)];exact e) (fun b ob u e=>by rw[zR (yK e hn)];exact e) (fun b ps e=>⟨#[],by rw[zR (yK e hn),e];simp⟩) (fun m hm=>?_) (fun b u e=>?_) I.bare
 ·obtain⟨_,f1,_,f3,f4,f5⟩:=hf b hb
  exact⟨f3,f1,f4,f5⟩
 ·obtain⟨ob,es,ep,ho,r⟩:=hm
  exact⟨ob,es,ep,k _ ob (fun z=>(hf _ z).2.1 rfl) ho,r⟩
 ·by_cases hb:b=a
  ·subst hb;rw[zB] at e;cases e;exact new
  ·rw[zR hb] at e
   refine(I.hok b u e).stay (fun c v hc q=>k c v ?_ q) (fun c q=>by rw[zR (yK q hn)];exact q) fun c xs q=>by rw[zR (yK q hn)];exact q
   rcases hc with z | z
   ·rw[z];exact nfp b u e
   ·exact nfp c _ z
end
def Iti(d:Addr)(o:Obj)(kvs:List (Key×V)):It:=
 ⟨fun i H=>i<kvs.length∧H d=some (.frz o (.dK kvs)),fun i H y H'=>∃p kv,H p=none∧kvs[i]? =some kv∧y= .ref p∧H'=upd H p (.tup [kV kv.1,kv.2]),fun i H=>kvs.length≤i∧H d=some (.frz o (.dK kvs))⟩
theorem zNm:entryFor table "dict_itemiterator.__iter__" =some Builtin.«dict_keyiterator.__iter__»:=
 entryFor_alias (by kernel_rfl) rfl (by decide+kernel) (by kernel_rfl) (id':="dict_keyiterator.__iter__")
theorem zIt{P:Program}{w:World}{K:W.Frag}{elts:List Expr}{x1:Nat}{pos:Pos}(d it:Addr)(o:Obj)(kvs:List (Key×V)):
  zFt P w K (.Tuple elts x1 pos) (Iti d o kvs) [it] it (fun i h=>∃es ep ok ov,o.data= .dict es ep∧IsItemIter h it d i kvs.length ep ok ov) where
 mem:=by simp
 obj:=fun i h st b hb=>by
  obtain⟨es,ep,ok,ov,_,e⟩:=st;have e':b=it:=by simpa using hb
  subst e';exact⟨_,e,fun v z=>by cases z⟩
 keep:=fun i h h' st k=>by
  obtain⟨es,ep,ok,ov,a,st⟩:=st;exact⟨es,ep,ok,ov,a,k it (by simp) _ st⟩
 item:=by
  intro X hP hw hK hc i pins s σ H E I hf st hg;subst hP hw hK;obtain⟨es,ep,ok,ov,hes,st⟩:=st;obtain⟨hi,hg⟩:=hg;obtain⟨vs,rel,hm,_,_⟩:=kZ I.hok hg hes;have hl:=rel.length;obtain⟨kv,hkv⟩:∃kv,kvs[i]? =some kv:=⟨kvs[i],by simp[hi]⟩;obtain⟨q,hq,hq1,hq2⟩:=KV.get rel hkv;rw[hl] at st;have hlt:it<s.heap.objs.size:=mT st;refine wpAny_pyNext_items_item (k:=q.1) (v:=q.2) st hm hq fun key h1 hk so ht hz keep=>⟨_,rfl, ?_⟩;refine wpAny_letOwnedTupleGo_items so fun h2 st2 sb=>?_;have sb:Heap.SameBut it h1 h2:=sb;have ht2:h2.get? s.heap.objs.size=some {cls:=.type "tuple",data:=.seq #[key,q.2]}:=(sb.2 _ (pQ hlt)).trans ht;have hnew:H s.heap.objs.size=none:=I.hok.fresh (mE _);refine⟨.ref s.heap.objs.size,upd H s.heap.objs.size (.tup [kV kv.1,kv.2]),I.turnedNew (t':=s.toks) hf (fun b ob hb e=>?_) (mE _) ?_,rfl,⟨_,kv,hnew,hkv,rfl,rfl⟩,⟨es,ep,key,q.2,hes,by rw[hl];exact st2⟩,fun b hb=>?_⟩
  ·have hne:b≠it:=by simpa using hb
   exact(sb.2 b hne).trans (keep b ob hne e)
  ·refine⟨by rw[mQ];simp,[key,q.2], .cons (by rw[hq1];exact zFb hk) (.cons hq2 .nil),⟨_,ht2,rfl,_,rfl⟩⟩
  ·have e:b=it:=by simpa using hb
   subst e;rw[zR (nJ hlt)];exact(hf _ (by simp)).1
 done:=by
  intro X hP hw hK hc i pins s σ H E I hf st hg;subst hP hw hK;obtain⟨es,ep,ok,ov,hes,st⟩:=st;obtain⟨hi,hg⟩:=hg;obtain⟨vs,rel,hm,_,_⟩:=kZ I.hok hg hes;obtain⟨f0,f1,f2,f3,f4,f5⟩:=hf it (by simp);have hl:=rel.length;rw[hl] at st;exact wpAny_pyNext_items_end (I.ok.hd hc) st hm (by simp;lia) fun h' eb=>⟨rfl,I.turned (t':=s.toks) (fun b o hb e=>eb b o hb e) f0 f1 f3 f4 f5⟩
 self:=fun A i s Q E st h=>by
  obtain⟨es,ep,ok,ov,_,st⟩:=st;have hT:s.TypeIs (.ref it) "dict_itemiterator":=⟨_,st,rfl⟩;refine wpAny_pyIter_slot hT aG (bA aG hT zNm ?_ (F.args_dict_itemiterator_iter_1 _));show wpAny _ _ (ret (.ref it)) _ _ s;exact mZ ⟨_,rfl,"dict_itemiterator",_,hT,F.slot_dict_itemiterator_next.lookup,h⟩
def zDk(p d:Addr):HO:=.ext fun h=>h.IsItemsView p d
def zTi:V→List V→Hp→VK→Prop:=fun x vs H Q=>∃d kvs,x= .ref d∧vs= []∧Rd H d (.dK kvs)∧∀p,H p=none→Q (.ref p) (upd H p (zDk p d))
def zTz(tl:TE):TI:=fun σ H R=>tl σ H fun x H1=>∃p d kvs,x= .ref p∧H1 p=some (zDk p d)∧((H1 d=some (.dK kvs)∧∀o,R (Iti d o kvs) (upd H1 d (.frz o (.dK kvs))))∨∃o,H1 d=some (.frz o (.dK kvs))∧R (Iti d o kvs) H1)
section
variable{X:Cx}
theorem zPm:MtR X "dict.items" zTi:=by
 intro pins s σ H x vs v us Q I rx rv h;obtain⟨d,kvs,rfl,rfl,hq,q⟩:=h;cases rx;cases rv;obtain⟨z,hd,ws,rel,dd⟩:=gK I.hok hq;refine call_meetsIn PySem.F.slot_dict_items dd.typeIs PySem.F.entry_dict_items (PySem.F.args_dict_items_1 _) (meets_dict_items (yS X.prog X.w) d hd) ⟨⟨ws,dd⟩, ?_⟩;refine⟨.ref s.heap.objs.size,_,I.laid (t':=s.toks) (fun b o e=>mS _ e) (mE _) (o:=zDk s.heap.objs.size d) ?_,rfl,q _ (I.hok.fresh (mE _))⟩;exact⟨⟨_,nI _ rfl,rfl,rfl⟩,⟨_,nI _ rfl⟩,fun h1 h2 ⟨o,e,r⟩ k=>⟨o,k o e,r⟩⟩
theorem zPe{elts:List Expr}{x1:Nat}{pos:Pos}{l:Expr}{tl:TE}(hl:PE X l tl):PI X (.Tuple elts x1 pos) l (zTz tl):=by
 intro pins s σ H R I h;refine thn (hl pins s σ H _ I h) fun v s1 ⟨x,H1,I1,r1,q1⟩=>?_;obtain⟨p,d,kvs,rfl,hp,q⟩:=q1;cases r1;obtain⟨hv,_⟩:=(show ObjOk X.prog X.w H1 s1.heap p (zDk p d) from I1.hok p _ hp);have fin:∀o H2,Inv X pins σ H2 s1→H2 d=some (.frz o (.dK kvs))→R (Iti d o kvs) H2→wpAny (model X.prog X.w) X.A (pyIter (.ref p)) (PIE X pins σ (.Tuple elts x1 pos) R) X.xe s1:=fun o H2 I2 e q=>by
  obtain⟨g,z,hd,vs,rel,o',es,ep,ho,c,hdat,r⟩:=(show ObjOk X.prog X.w H2 s1.heap d (.frz o (.dK kvs)) from I2.hok d _ e);rw[g] at ho;cases ho;have hm:s1.heap.DictAt (yS X.prog X.w) d vs ep:=⟨o,es,g,c,hdat,r⟩;refine wpAny_pyIter_items hv hm ?_;refine⟨s1.heap.objs.size,[s1.heap.objs.size],_,_,H2,rfl,I2.kept (t':=s1.toks) fun b o e=>mS _ e,zIt d _ o kvs,⟨es,ep, .none, .none,hdat, ?_⟩,fun b hb=>?_,q⟩
  ·rw[rel.length];exact nI _ rfl
  ·have e:b=s1.heap.objs.size:=by simpa using hb
   subst e;exact I2.fpOk (mE _) (I2.hok.fresh (mE _))
 rcases q with⟨e,q⟩|⟨o,e,q⟩
 ·obtain⟨z,hd,vs,rel,o,es,ep,ho,_⟩:=(show ObjOk X.prog X.w H1 s1.heap d (.dK kvs) from I1.hok d _ e)
  exact fin o _ (I1.freeze e ho) zB (q o)
 ·exact fin o _ I1 e q
end
abbrev g2(K:W.Frag):TG:=zOf K 2 (zGp (vN 0) (zGp (vN 1) zRg))
theorem zNs{F:List (Option V)}{x y:V}:zTt (some x::some y::F) (none::none::F):=⟨rfl,fun i v e=>by
 match i,e with
 | 0,e=>cases e
 | 1,e=>cases e
 | i+2,e=>exact e⟩
theorem zHs{K:W.Frag}{x y:Str}{F:List (Str×Nat)}{J:It}{n:Nat}{te:TE}{σ:St}{Q:VK}{H1:Hp}(Pv:Nat→List V→Hp→Prop)(hn:n≤sizeLine)(h0:Pv 0 [] H1)(hgo:∀i ys H,i<n→Pv i ys H→J.go i H)
  (hst:∀ys H,Pv n ys H→J.stop n H)
  (hs:∀i ys H z H2,i<n→ys.length≤i→Pv i ys H→J.yld i H z H2→∃a u v,z= .ref a∧SqT K H2 a [u,v]∧te (some u::some v::F.map (fun p=>(σ[p.2]?).join)) H2 fun r H4=>Pv (i+1) (ys++ [r]) H4)
  (hd:∀ys H,ys.length≤n→Pv n ys H→∀p,H p=none→Q (.ref p) (upd H p (.lst ys))):xV [x,y] F (g2 K) gO te σ Q J H1:=by
 refine⟨fun i m ys H=>m=n - i∧i≤n∧Pv i ys H,⟨n,by simp,mL _,h0⟩, ?_⟩;rintro i m ys H ⟨rfl,hi,p⟩ hl
 by_cases hlt:i<n
 ·refine .inr ⟨hgo i ys H hlt p,by lia,Pv (i+1),fun ys' H'' q=>⟨n - (i+1),by lia,rfl,hlt,q⟩,fun z H2 hz=>?_⟩
  obtain⟨a,u,v,rfl,hq,ht⟩:=hs i ys H z H2 hlt hl p hz;refine⟨a,[u,v],rfl,hq,rfl,u,[v],rfl,v,[],rfl,rfl, ?_⟩;exact⟨zNs,ht⟩
 ·have e:i=n:=by lia
  subst e;exact .inl ⟨hst ys H p,hn,hd ys H hl p⟩
theorem zIx{K:W.Frag}{x y:Str}{F:List (Str×Nat)}{d:Addr}{o:Obj}{kvs:List (Key×V)}{te:TE}{σ:St}{Q:VK}{H1:Hp}(Pv:Nat→List V→Hp→Prop)(hn:kvs.length≤sizeLine)(h0:Pv 0 [] H1)(hz:∀i ys H,Pv i ys H→H d=some (.frz o (.dK kvs)))
  (hs:∀i kv ys H p,kvs[i]? =some kv→ys.length≤i→Pv i ys H→H p=none→te (some (kV kv.1)::some kv.2::F.map (fun p=>(σ[p.2]?).join)) (upd H p (.tup [kV kv.1,kv.2])) fun z H4=>Pv (i+1) (ys++ [z]) H4)
  (hd:∀ys H,ys.length≤kvs.length→Pv kvs.length ys H→∀p,H p=none→Q (.ref p) (upd H p (.lst ys))):xV [x,y] F (g2 K) gO te σ Q (Iti d o kvs) H1:=
 zHs Pv hn h0 (fun i ys H h p=>⟨h,hz i ys H p⟩) (fun ys H p=>⟨mE _,hz _ ys H p⟩) (fun i ys H z H2 h1 h2 h3 h4=>by
  obtain⟨p,kv,hp,hkv,rfl,rfl⟩:=h4;exact⟨p,_,_,rfl, .of zB,hs i kv ys H p hkv h2 h3 hp⟩) hd
def Ite(K:W.Frag)(l:Addr):It:=
 ⟨fun i H=>∃xs x,SqL K H l xs∧xs[i]? =some x,fun i H y H'=>∃p x,H p=none∧y= .ref p∧(∀xs,SqL K H l xs→xs[i]? =some x)∧H'=upd H p (.tup [.int i,x]),fun i H=>∃xs,SqL K H l xs∧xs.length≤i⟩
theorem zLv{P:Program}{w:World}{K:W.Frag}{elts:List Expr}{x1:Nat}{pos:Pos}(l e it:Addr)(hne:e≠it):
  zFt P w K (.Tuple elts x1 pos) (Ite K l) [e,it] e (fun i h=>(∃old,IsEnum h e it (i:Int) old)∧h.IsListIter it l i) where
 mem:=by simp
 obj:=fun i h st b hb=>by
  obtain⟨⟨old,he⟩,o,e1,c,d⟩:=st;rcases mG.mp hb with z | z
  ·subst z
   exact⟨_,he,fun v z=>by cases z⟩
  ·have e':b=it:=by simpa using z
   subst e';exact⟨o,e1,fun v z=>by rw[d] at z;cases z⟩
 keep:=fun i h h' st k=>by
  obtain⟨⟨old,he⟩,st⟩:=st;exact⟨⟨old,k e (by simp) _ he⟩,st.at fun o q=>k it (by simp) o q⟩
 item:=by
  intro X hP hw hK hc i pins s σ H E I hf st hg;subst hP hw hK;obtain⟨⟨old,he⟩,st⟩:=st;obtain⟨xs,x,hq,hx⟩:=hg;obtain⟨its,rv,p,hz⟩:=I.list hq;obtain⟨u,hu,ru⟩:=rv.get hx;have hle:e<s.heap.objs.size:=mT he;have hli:it<s.heap.objs.size:=by obtain⟨o,q,_⟩:=id st;exact mT q
  refine wpAny_pyNext_enum_item he st p.isList (x:=u) (by simpa using hu) hne fun h1 so st1 ht hz1 keep=>⟨_,rfl, ?_⟩;refine wpAny_letOwnedTupleGo_enum so fun h2 st2 sb=>?_;have sb:Heap.SameBut e h1 h2:=sb;have ht2:h2.get? s.heap.objs.size=some {cls:=.type "tuple",data:=.seq #[.int i s.toks,u]}:=(sb.2 _ (pQ hle)).trans ht;have hnew:H s.heap.objs.size=none:=I.hok.fresh (mE _);refine⟨.ref s.heap.objs.size,upd H s.heap.objs.size (.tup [.int i,x]),I.turnedNew (t':=s.toks+1) hf (fun b ob hb q=>?_) (mE _) ?_,rfl,⟨_,x,hnew,rfl,fun ys hy=>by rw[I.list_inj hy hq];exact hx,rfl⟩,⟨⟨u, ?_⟩, ?_⟩,fun b hb=>?_⟩
  ·have hb1:b≠e:=fun z=>hb (by simp[z])
   have hb2:b≠it:=fun z=>hb (by simp[z]);exact(sb.2 b hb1).trans (keep b ob hb1 hb2 q)
  ·exact⟨by rw[mQ];simp,[.int i s.toks,u], .cons ⟨_,rfl⟩ (.cons ru .nil),⟨_,ht2,rfl,_,rfl⟩⟩
  ·have:((i+1:Nat):Int)=(i:Int)+1:=by lia
   rw[this];exact st2
  ·exact st1.at fun o q=>(sb.2 it (Ne.symm hne)).trans q
  ·rcases mG.mp hb with z | z
   ·subst z
    rw[zR (nJ hle)];exact(hf _ (by simp)).1
   ·have e':b=it:=by simpa using z
    subst e';rw[zR (nJ hli)];exact(hf _ (by simp)).1
 done:=by
  intro X hP hw hK hc i pins s σ H E I hf st hg;subst hP hw hK;obtain⟨⟨old,he⟩,st⟩:=st;obtain⟨xs,hq,hx⟩:=hg;obtain⟨its,rv,p,hz⟩:=I.list hq;obtain⟨f0,f1,f2,f3,f4,f5⟩:=hf it (by simp);have hl:=rv.length;exact wpAny_pyNext_enum_end (I.ok.hd hc) he st p.isList (by simp;lia) fun h' eb=>⟨rfl,I.turned (t':=s.toks) (fun b o hb e=>eb b o hb e) f0 f1 f3 f4 f5⟩
 self:=fun _ _ _ _ _ st h=>wpAny_pyIter_enum st.1.choose_spec h
def iEnum(K:W.Frag)(ta:TA):TI:=fun σ H R=>ta σ H fun vs H1=>∃l xs,vs= [.ref l]∧SqL K H1 l xs∧R (Ite K l) H1
theorem zFw:bootBuiltins "enumerate" =some (.type "enumerate"):=by decide+kernel
theorem zQy{X:Cx}{elts:List Expr}{x1:Nat}{tpos:Pos}{a:Expr}{ta:TA}{p pos:Pos}(hg:Gl X "enumerate")(hm:X.mg "enumerate" =none)(ha:PA X [a] ta)(hs:starEach [a] X.env= [(false,eval a X.env)]:=by rfl):
  PI X (.Tuple elts x1 tpos) (.Call (.Name "enumerate" p) [a] [] pos) (iEnum X.K ta):=by
 intro pins s σ H R I h;refine Call_ (jG I hg hm zFw (pP (thn (ha pos pins s σ H _ I h) fun us s1 ⟨vs,H1,I1,r1,q1⟩=>?_) hs rfl));obtain⟨l,xs,e,hq,q⟩:=q1;subst e
 cases r1 with
 | cons r rr=>
  cases rr;cases r;obtain⟨its,rv,pl,hz⟩:=I1.list hq;refine call_enumerate_list pl.isList fun h' he st hz' keep=>?_;refine wpAny_pyIter_enum (it:=s1.heap.objs.size) (i:=0) (old:=.none) he ?_;have hn0:H1 s1.heap.objs.size=none:=I1.hok.fresh (mE _);have hn1:H1 (s1.heap.objs.size+1)=none:=I1.hok.fresh (rT _);refine⟨s1.heap.objs.size+1,[s1.heap.objs.size+1,s1.heap.objs.size],_,_,H1,rfl,I1.kept (t':=s1.toks) keep,zLv l _ _ (Nat.succ_ne_self _),⟨⟨.none,he⟩,st⟩,fun b hb=>?_,q⟩;rcases mG.mp hb with z | z
  ·subst z;exact I1.fpOk (rT _) hn1
  ·have e':b=s1.heap.objs.size:=by simpa using z
   subst e';exact I1.fpOk (mE _) hn0
theorem zLm{K:W.Frag}{x y:Str}{F:List (Str×Nat)}{l:Addr}{xs:List V}{te:TE}{σ:St}{Q:VK}{H1:Hp}(Pv:Nat→List V→Hp→Prop)(hn:xs.length≤sizeLine)(h0:Pv 0 [] H1)(hz:∀i ys H,i≤xs.length→Pv i ys H→SqL K H l xs)
  (hs:∀i v ys H p,xs[i]? =some v→ys.length≤i→Pv i ys H→H p=none→te (some (.int i)::some v::F.map (fun p=>(σ[p.2]?).join)) (upd H p (.tup [.int i,v])) fun z H4=>Pv (i+1) (ys++ [z]) H4)
  (hd:∀ys H,ys.length≤xs.length→Pv xs.length ys H→∀p,H p=none→Q (.ref p) (upd H p (.lst ys))):xV [x,y] F (g2 K) gO te σ Q (Ite K l) H1:=
 zHs Pv hn h0 (fun i ys H h p=>⟨xs,xs[i],hz i ys H (sO h) p,by simp[h]⟩) (fun ys H p=>⟨xs,hz _ ys H (mE _) p,mE _⟩) (fun i ys H z H2 h1 h2 h3 h4=>by
  obtain⟨p,v,hp,rfl,hv,rfl⟩:=h4;exact⟨p,_,_,rfl, .of zB,hs i v ys H p (hv xs (hz i ys H (sO h1) h3)) h2 h3 hp⟩) hd
def tyR(H:Hp):V→Option String
 | .ref a=>match H a with
  | some (.frz _ (.dK _))=>some "dict"
  | _=>tyS H (.ref a)
 | v=>tyS H v
theorem zRl{H:Hp}{x:V}{t:String}(h:tyR H x=some t):t∈tyL:=by
 cases x with
 | ref a=>
  have h':(match H a with | some (.frz _ (.dK _))=>some "dict" | _=>tyS H (.ref a))=some t:=h
  split at h'
  ·cases h';simp[tyL]
  ·exact wQ h'
 | non=>exact wQ (H:=H) (show tyS H .non=some t from h)
 | bl b=>exact wQ (H:=H) (show tyS H (.bl b)=some t from h)
 | int b=>exact wQ (H:=H) (show tyS H (.int b)=some t from h)
 | str b=>exact wQ (H:=H) (show tyS H (.str b)=some t from h)
 | byt b=>exact wQ (H:=H) (show tyS H (.byt b)=some t from h)
 | flt b=>exact wQ (H:=H) (show tyS H (.flt b)=some t from h)
 | ty b=>exact wQ (H:=H) (show tyS H (.ty b)=some t from h)
theorem zIk{H:Hp}{x:V}{t:String}(h:tyS H x=some t):tyR H x=some t:=by
 cases x with
 | ref a=>
  show(match H a with | some (.frz _ (.dK _))=>some "dict" | _=>tyS H (.ref a))=some t
  split
  ·rename_i o kvs e
   have h':(match H a with | some (.lst _)=>some "list" | some (.tup _)=>some "tuple" | some (.dK _)=>some "dict" | _=>none)=some t:=h
   rw[e] at h';cases h'
  ·exact h
 | _=>exact h
theorem zQo{H:Hp}{a:Addr}{ps:List (Key×V)}(h:Rd H a (.dK ps)):tyR H (.ref a)=some "dict":=by
 rcases h with h |⟨o,h⟩
 ·exact zIk (qP h)
 ·show(match H a with | some (.frz _ (.dK _))=>some "dict" | _=>tyS H (.ref a))=some "dict"
  rw[h]
section
variable{X:Cx}
theorem qV{T:String}(hT:T∈tyL):wW X (.builtin "isinstance") (fun xs H Q=>∃x t,xs= [x, .ty T]∧tyR H x=some t∧Q (.bl (zO t T)) H):=by
 intro pins s σ H xs us Q I r h;obtain⟨x,t,rfl,ht,q⟩:=h
 cases x with
 | ref a=>
  have h':(match H a with | some (.frz _ (.dK _))=>some "dict" | _=>tyS H (.ref a))=some t:=ht
  split at h'
  ·rename_i o kvs e
   cases h';obtain⟨u,w',rfl,ru,rw'⟩:=zEw r;cases (show w'=Value.type T from rw');cases (show u=Value.ref a from ru);obtain⟨_,_,vs,_,p⟩:=gK I.hok (.inr ⟨o,e⟩);obtain⟨ob,es,ep,h1,h2,_⟩:=p;exact rX aL I.kIn ⟨ob,h1,h2.1⟩ (zFu (by simp[tyL]) hT) (fun z=>nomatch z) fun tk=>⟨.bl _,H,I.tok _,rfl,q⟩
  ·exact zCk hT pins s σ H _ us Q I r ⟨_,t,rfl,h',q⟩
 | _=>exact zCk hT pins s σ H _ us Q I r ⟨_,t,rfl,ht,q⟩
theorem zEu:wW X (.builtin "len") (fun xs H Q=>∃a kvs,xs= [V.ref a]∧Rd H a (.dK kvs)∧Q (.int kvs.length) H):=by
 intro pins s σ H xs us Q I r h;obtain⟨a,kvs,rfl,ha,q⟩:=h;obtain⟨u,rfl,ru⟩:=jR r;cases ru;exact zRu I ha fun t s' I'=>⟨.int kvs.length,H,I',⟨t,rfl⟩,q⟩
end
mutual
def Rp(H:Hp):V→T→Prop
 | v, .non=>v= .non
 | v, .bl b=>v= .bl b
 | v, .int i=>v= .int i
 | v, .str x=>v= .str (tx x)
 | v, .lst ts=>∃a vs,v= .ref a∧H a=some (.lst vs)∧Rps H vs ts
 | v, .dic ks ts=>∃a ps,v= .ref a∧Rd H a (.dK ps)∧ps.map (·.1)=ks.map (fun k=>(Sum.inr (tx k):Key))∧Rps H (ps.map (·.2)) ts
 | v, .tup ts=>∃a vs,v= .ref a∧H a=some (.tup vs)∧Rps H vs ts
def Rps(H:Hp):List V→List T→Prop
 | vs,[]=>vs= []
 | vs,t::ts=>∃v r,vs=v::r∧Rp H v t∧Rps H r ts
end
mutual
theorem Rp.mono{H H':Hp}(e:∀b xs,H b=some (.lst xs)→H' b=some (.lst xs))(e2:∀b xs,H b=some (.tup xs)→H' b=some (.tup xs))(e3:∀b ps,Rd H b (.dK ps)→Rd H' b (.dK ps)):∀(v:V)(t:T),Rp H v t→Rp H' v t
 | _, .non,h=>h
 | _, .bl _,h=>h
 | _, .int _,h=>h
 | _, .str _,h=>h
 | _, .lst ts,⟨a,vs,h1,h2,h3⟩=>⟨a,vs,h1,e _ _ h2,Rps.mono e e2 e3 vs ts h3⟩
 | _, .dic ks ts,⟨a,ps,h1,h2,h3,h4⟩=>⟨a,ps,h1,e3 _ _ h2,h3,Rps.mono e e2 e3 _ ts h4⟩
 | _, .tup ts,⟨a,vs,h1,h2,h3⟩=>⟨a,vs,h1,e2 _ _ h2,Rps.mono e e2 e3 vs ts h3⟩
theorem Rps.mono{H H':Hp}(e:∀b xs,H b=some (.lst xs)→H' b=some (.lst xs))(e2:∀b xs,H b=some (.tup xs)→H' b=some (.tup xs))(e3:∀b ps,Rd H b (.dK ps)→Rd H' b (.dK ps)):∀(vs:List V)(ts:List T),Rps H vs ts→Rps H' vs ts
 | _,[],h=>h
 | _,t::ts,⟨v,r,h1,h2,h3⟩=>⟨v,r,h1,Rp.mono e e2 e3 v t h2,Rps.mono e e2 e3 r ts h3⟩
end
theorem Rd.same{H H':Hp}(g:Same H H'){a:Addr}{u:HO}(h:Rd H a u):Rd H' a u:=h.imp (g _ _) fun⟨o,e⟩=>⟨o,g _ _ e⟩
theorem Rp.same{H H':Hp}(g:Same H H')(v:V)(t:T)(h:Rp H v t):Rp H' v t:=Rp.mono (fun b xs=>g b _) (fun b xs=>g b _) (fun b ps h=>h.same g) v t h
theorem Rps.same{H H':Hp}(g:Same H H')(v:List V)(t:List T)(h:Rps H v t):Rps H' v t:=Rps.mono (fun b xs=>g b _) (fun b xs=>g b _) (fun b ps h=>h.same g) v t h
theorem Rd.frz{H:Hp}{d:Addr}{o:Obj}{ps:List (Key×V)}(hd:H d=some (.dK ps)){b:Addr}{qs:List (Key×V)}(h:Rd H b (.dK qs)):Rd (upd H d (.frz o (.dK ps))) b (.dK qs):=by
 by_cases e:b=d
 ·subst e
  rcases h with h |⟨o',h⟩
  ·rw[hd] at h;cases h
   exact .inr ⟨o,zB⟩
  ·rw[hd] at h;cases h
 ·exact h.imp (fun h=>by rw[zR e];exact h) fun⟨o',h⟩=>⟨o',by rw[zR e];exact h⟩
theorem Rps.frz{H:Hp}{d:Addr}{o:Obj}{ps:List (Key×V)}(hd:H d=some (.dK ps))(v:List V)(t:List T)(h:Rps H v t):Rps (upd H d (.frz o (.dK ps))) v t:=
 Rps.mono (fun b xs e=>by rw[zR fun z=>by rw[z,hd] at e;cases e];exact e) (fun b xs e=>by rw[zR fun z=>by rw[z,hd] at e;cases e];exact e) (fun b qs h=>Rd.frz hd h) v t h
mutual
theorem Rep.rp{H:Hp}:∀(v:V)(t:T),Rep H v t→Rp H v t
 | _, .non,h=>h
 | _, .bl _,h=>h
 | _, .int _,h=>h
 | _, .str _,h=>h
 | _, .lst ts,⟨a,vs,h1,h2,h3⟩=>⟨a,vs,h1,h2,Reps.rp vs ts h3⟩
 | _, .dic ks ts,⟨a,ps,h1,h2,h3,h4⟩=>⟨a,ps,h1, .inl h2,h3,Reps.rp _ ts h4⟩
 | _, .tup ts,⟨a,vs,h1,h2,h3⟩=>⟨a,vs,h1,h2,Reps.rp vs ts h3⟩
theorem Reps.rp{H:Hp}:∀(vs:List V)(ts:List T),Reps H vs ts→Rps H vs ts
 | _,[],h=>h
 | _,t::ts,⟨v,r,h1,h2,h3⟩=>⟨v,r,h1,Rep.rp v t h2,Reps.rp r ts h3⟩
end
theorem Rps.length{H:Hp}:∀{vs:List V}{ts:List T},Rps H vs ts→vs.length=ts.length
 | _,[],e=>by
  have e':_= []:=e;subst e';rfl
 | _,t'::ts,⟨v',r,h1,h2,h3⟩=>by
  subst h1;simp[Rps.length h3]
theorem Rps.get{H:Hp}:∀{vs:List V}{ts:List T}{i:Nat}{v:V},Rps H vs ts→vs[i]? =some v→∃t,ts[i]? =some t∧Rp H v t
 | _,[],i,v,e,h=>by
  have e':_= []:=e;subst e';simp at h
 | _,t'::ts,0,v,⟨v',r,h1,h2,h3⟩,h=>by
  subst h1;simp at h;subst h;exact⟨t',rfl,h2⟩
 | _,t'::ts,i+1,v,⟨v',r,h1,h2,h3⟩,h=>by
  subst h1;obtain⟨t,e,q⟩:=Rps.get (i:=i) (v:=v) h3 (by simpa using h);exact⟨t,by simpa using e,q⟩
theorem Rp.ty{H:Hp}{v:V}:∀{t:T},Rp H v t→tyR H v=some (tyT t)
 | .non,h=>by cases (show v= .non from h);rfl
 | .bl b,h=>by cases (show v= .bl b from h);rfl
 | .int i,h=>by cases (show v= .int i from h);rfl
 | .str x,h=>by cases (show v= .str (tx x) from h);rfl
 | .lst ts,h=>by obtain⟨a,vs,e,h2,_⟩:=h;subst e;exact zIk (kY h2)
 | .dic ks ts,h=>by obtain⟨a,vs,e,h2,_⟩:=h;subst e;exact zQo h2
 | .tup ts,h=>by obtain⟨a,vs,e,h2,_⟩:=h;subst e;exact zIk (zKo h2)
theorem Rp.at_name{H:Hp}{ps:List (Key×V)}{ks:List (List Nat)}{us:List T}(nk:ks.Nodup)(hk:ps.map (·.1)=ks.map fun k=>(Sum.inr (tx k):Key))(hs:Rps H (ps.map (·.2)) us){k:List Nat}(hm:k∈ks):
  ∃v,qF ps (Sum.inr (tx k))=some v∧Rp H v (yH k ks us):=by
 obtain⟨j,hj⟩:=tW.mp hm;have hp:(ps.map (·.1))[j]? =some (Sum.inr (tx k):Key):=by rw[hk,mU,hj];rfl
 rw[mU] at hp
 cases hpj:ps[j]? with
 | none=>rw[hpj] at hp;cases hp
 | some kv=>
  rw[hpj] at hp;have ek:kv.1=(Sum.inr (tx k):Key):=mX hp;have hpj':ps[j]? =some ((Sum.inr (tx k):Key),kv.2):=by rw[hpj,←ek]
  obtain⟨t,ht,hr⟩:=hs.get (i:=j) (v:=kv.2) (by rw[mU,hpj];rfl);refine⟨kv.2,jD (by rw[hk];exact vA nk) hpj', ?_⟩;rw[uO nk hj ht];exact hr
theorem zAj{k:Key}:∀{ps:List (Key×V)},k∉ps.map (·.1)→qF ps k=none
 | [],_=>rfl
 | p::ps,h=>by
  rw[kC fun e=>h (by simp[e])];exact zAj fun z=>h (mI _ z)
theorem gR:∀(xs ys:List C),wJ xs ys=0↔xs.length=ys.length∧∀(i:Nat) x y,xs[i]? =some x→ys[i]? =some y→xN x y=0
 | [],[]=>⟨fun _=>⟨rfl,fun i x y h=>by simp at h⟩,fun _=>by rw[wJ]⟩
 | [],_::_=>⟨fun h=>absurd h (by rw[wJ];decide),fun h=>absurd h.1 (by simp)⟩
 | _::_,[]=>⟨fun h=>absurd h (by rw[wJ];decide),fun h=>absurd h.1 (by simp)⟩
 | x::xs,y::ys=>by
  rw[jE];have ih:=gR xs ys;constructor
  ·intro h
   by_cases hz:xN x y=0
   ·rw[mW hz] at h
    obtain⟨h1,h2⟩:=ih.mp h;refine⟨by simp[h1],fun i a b ha hb=>?_⟩
    cases i with
    | zero=>simp at ha hb;rw[←ha,←hb];exact hz
    | succ i=>exact h2 i a b (by simpa using ha) (by simpa using hb)
   ·rw[mJ hz] at h;exact absurd h hz
  ·rintro⟨h1,h2⟩
   have hz:=h2 0 x y rfl rfl;rw[mW hz];exact ih.mpr ⟨by simpa using h1,fun i a b ha hb=>h2 (i+1) a b (by simpa using ha) (by simpa using hb)⟩
theorem zAt:∀{ks ks':List (List Nat)},ks.Nodup→(∀k∈ks,k∈ks')→ks'.length=ks.length→ks.Perm ks'
 | [],ks',_,_,h=>by cases ks' with | nil=>exact .nil | cons _ _=>cases h
 | k::ks,ks',hn,hs,hl=>by
  obtain⟨h1,h2⟩:=pA.mp hn;have hk:=hs k mK;have p:=List.perm_cons_erase hk;refine .trans (.cons k (zAt h2 (fun j hj=>?_) ?_)) p.symm
  ·exact(List.mem_erase_of_ne fun z=>h1 (by rw[←z];exact hj)).mpr (hs j (mI _ hj))
  ·rw[List.length_erase_of_mem hk,hl];rfl
theorem zAe(a b:List Nat):zNf a b=0↔a=b:=by
 unfold zNf;constructor
 ·intro h
  by_cases h1:b<a
  ·by_cases h2:a<b
   ·exact absurd (List.lt_trans h1 h2) (List.lt_irrefl _)
   ·rw[mW h1,mJ h2] at h;cases h
  ·by_cases h2:a<b
   ·rw[mJ h1,mW h2] at h;cases h
   ·exact zHv (by unfold leK;simp[h1]) (by unfold leK;simp[h2])
 ·intro h
  subst h;rw[mJ (List.lt_irrefl _)];rfl
theorem zKf{xs ys:List C}:xN (.row xs) (.row ys)=wJ xs ys:=by rw[xN]
theorem zRb{xs ys:List C}:xN (.rcd xs) (.rcd ys)=wJ xs ys:=by rw[xN]
theorem zKe{x y:List Nat}:xN (.str x) (.str y)=zNf x y:=by rw[xN]
theorem zHc(k k':List Nat)(c c':C):xN (.row [.str k,c]) (.row [.str k',c'])=0↔k=k'∧xN c c'=0:=by
 rw[zKf,jE,zKe]
 by_cases h:zNf k k'=0
 ·rw[mW h,jE]
  by_cases h2:xN c c'=0
  ·rw[mW h2]
   exact⟨fun _=>⟨(zAe k k').mp h,h2⟩,fun _=>by rw[wJ]⟩
  ·rw[mJ h2]
   exact⟨fun z=>absurd z h2,fun z=>absurd z.2 h2⟩
 ·rw[mJ h]
  exact⟨fun z=>absurd z h,fun z=>absurd ((zAe k k').mpr z.1) h⟩
theorem zJh(us ws:List T):xN (zQ (.lst us)) (zQ (.lst ws))=0↔us.length=ws.length∧∀(i:Nat) t t',us[i]? =some t→ws[i]? =some t'→xN (zQ t) (zQ t')=0:=by
 show xN (.row (yU us)) (.row (yU ws))=0↔_;rw[zKf,gR,wE,wE];refine and_congr_right fun hl=>⟨fun h i t t' h1 h2=>h i _ _ (jI h1) (jI h2),fun h i x y h1 h2=>?_⟩;rw[qH,mU] at h1 h2
 cases e1:us[i]? with
 | none=>rw[e1] at h1;cases h1
 | some t=>
  cases e2:ws[i]? with
  | none=>rw[e2] at h2;cases h2
  | some t'=>
   rw[e1] at h1;rw[e2] at h2;cases h1;cases h2;exact h i t t' e1 e2
theorem zKk{ks ks':List (List Nat)}{us us':List T}(nk:ks.Nodup):xN (zQ (.dic ks us)) (zQ (.dic ks' us'))=0↔ks.length=ks'.length∧∀k∈ks,k∈ks'∧xN (zQ (yH k ks us)) (zQ (yH k ks' us'))=0:=by
 show xN (.rcd ((yW ks).map fun k=>.row [.str k,zCf k ks (yU us)])) (.rcd ((yW ks').map fun k=>.row [.str k,zCf k ks' (yU us')]))=0↔_;have l1:(yW ks).length=ks.length:=(xD ks).length_eq;have l2:(yW ks').length=ks'.length:=(xD ks').length_eq;rw[zRb,gR,mB,mB,l1,l2];refine and_congr_right fun hl=>?_;constructor
 ·intro h k hk
  obtain⟨i,hi⟩:=tW.mp (mem_sortK.mpr hk);have hlt:i<(yW ks').length:=by have:=(nB.mp hi).1;lia
  have h2:(yW ks')[i]? =some (yW ks')[i]:=by simp[hlt]
  have z:=h i _ _ (by rw[mU,hi];rfl) (by rw[mU,h2];rfl);obtain⟨e,z⟩:=(zHc _ _ _ _).mp z;have hm:k∈ks':=by rw[e];exact mem_sortK.mp (aY hlt)
  refine⟨hm, ?_⟩;rw[vF,vF];rw[←e] at z;exact z
 ·intro h i x y h1 h2
  have hp:ks.Perm ks':=zAt nk (fun k hk=>(h k hk).1) hl.symm;have es:yW ks=yW ks':=gU ((xD ks).trans (hp.trans (xD ks').symm)) (jJ ks) (jJ ks');rw[←es] at h2;rw[mU] at h1 h2
  cases e:(yW ks)[i]? with
  | none=>rw[e] at h1;cases h1
  | some k=>
   rw[e] at h1 h2;cases h1;cases h2;have hk:=mem_sortK.mp (mF e);have z:=(h k hk).2;rw[vF,vF] at z;exact(zHc _ _ _ _).mpr ⟨rfl,z⟩
theorem zJf{X:Cx}{K:W.Frag}(hK:X.K=K){es:List Expr}{k:Nat}{pos:Pos}{t:TGs}{n:Nat}(hc:X.calm=true)(h:PGs X es t)
  (hn:(assignEach es X.env).length=n:=by rfl) (hst:(assignEach es X.env).findIdx? (·.1)=none:=by rfl):PG X (.Tuple es k pos) (zOf K n t):=by subst hK;exact zNn hc h hn hst
structure Bl4(mg:Str→Option Value):Prop extends Bl2 mg where
 enumerate:mg "enumerate" =none
mutual
def Sp1(H:Hp):V→T→List Addr→Prop
 | v, .non,D=>D= []∧v= .non
 | v, .bl b,D=>D= []∧v= .bl b
 | v, .int i,D=>D= []∧v= .int i
 | v, .str x,D=>D= []∧v= .str (tx x)
 | v, .lst ts,D=>∃a vs D',v= .ref a∧H a=some (.lst vs)∧D=a::D'∧a∉D'∧Sps H vs ts D'
 | v, .dic ks ts,D=>∃a ps D',v= .ref a∧H a=some (.dK ps)∧ps.map (·.1)=ks.map (fun k=>(Sum.inr (tx k):Key))∧D=a::D'∧a∉D'∧Sps H (ps.map (·.2)) ts D'
 | v, .tup ts,D=>∃a vs D',v= .ref a∧H a=some (.tup vs)∧D=a::D'∧a∉D'∧Sps H vs ts D'
def Sps(H:Hp):List V→List T→List Addr→Prop
 | vs,[],D=>vs= []∧D= []
 | vs,t::ts,D=>∃v r D1 D2,vs=v::r∧D=D1++D2∧Sp1 H v t D1∧Sps H r ts D2∧∀b∈D1,b∉D2
end
mutual
theorem Sp1.rep{H:Hp}:∀(v:V)(t:T)(D:List Addr),Sp1 H v t D→Rep H v t
 | _, .non,_,h=>h.2
 | _, .bl _,_,h=>h.2
 | _, .int _,_,h=>h.2
 | _, .str _,_,h=>h.2
 | _, .lst ts,_,⟨a,vs,D',h1,h2,_,_,h3⟩=>⟨a,vs,h1,h2,Sps.rep vs ts D' h3⟩
 | _, .dic ks ts,_,⟨a,ps,D',h1,h2,h3,_,_,h4⟩=>⟨a,ps,h1,h2,h3,Sps.rep _ ts D' h4⟩
 | _, .tup ts,_,⟨a,vs,D',h1,h2,_,_,h3⟩=>⟨a,vs,h1,h2,Sps.rep vs ts D' h3⟩
theorem Sps.rep{H:Hp}:∀(vs:List V)(ts:List T)(D:List Addr),Sps H vs ts D→Reps H vs ts
 | _,[],_,h=>h.1
 | _,t::ts,_,⟨v,r,D1,D2,h1,_,h2,h3,_⟩=>⟨v,r,h1,Sp1.rep v t D1 h2,Sps.rep r ts D2 h3⟩
end
mutual
theorem Sp1.keep{H H':Hp}:∀(v:V)(t:T)(D:List Addr),(∀b∈D,∀o,(∀ob u,o≠HO.frz ob u)→H b=some o→H' b=some o)→Sp1 H v t D→Sp1 H' v t D
 | _, .non,_,_,h=>h
 | _, .bl _,_,_,h=>h
 | _, .int _,_,_,h=>h
 | _, .str _,_,_,h=>h
 | _, .lst ts,_,k,⟨a,vs,D',h1,h2,e,n,h3⟩=>⟨a,vs,D',h1,k a (by rw[e];exact mK) _ (by intro ob u z;cases z) h2,e,n,Sps.keep vs ts D' (fun b hb=>k b (by rw[e];exact mI _ hb)) h3⟩
 | _, .dic ks ts,_,k,⟨a,ps,D',h1,h2,h3,e,n,h4⟩=>⟨a,ps,D',h1,k a (by rw[e];exact mK) _ (by intro ob u z;cases z) h2,h3,e,n,Sps.keep _ ts D' (fun b hb=>k b (by rw[e];exact mI _ hb)) h4⟩
 | _, .tup ts,_,k,⟨a,vs,D',h1,h2,e,n,h3⟩=>⟨a,vs,D',h1,k a (by rw[e];exact mK) _ (by intro ob u z;cases z) h2,e,n,Sps.keep vs ts D' (fun b hb=>k b (by rw[e];exact mI _ hb)) h3⟩
theorem Sps.keep{H H':Hp}:∀(vs:List V)(ts:List T)(D:List Addr),(∀b∈D,∀o,(∀ob u,o≠HO.frz ob u)→H b=some o→H' b=some o)→Sps H vs ts D→Sps H' vs ts D
 | _,[],_,_,h=>h
 | _,t::ts,_,k,⟨v,r,D1,D2,h1,e,h2,h3,n⟩=>⟨v,r,D1,D2,h1,e,Sp1.keep v t D1 (fun b hb=>k b (by rw[e];exact pF _ hb)) h2,Sps.keep r ts D2 (fun b hb=>k b (by rw[e];exact nG _ hb)) h3,n⟩
end
mutual
theorem Sp1.there{H:Hp}{b:Addr}:∀(v:V)(t:T)(D:List Addr),Sp1 H v t D→b∈D→∃o,H b=some o
 | _, .non,_,h,hb=>by rw[h.1] at hb;cases hb
 | _, .bl _,_,h,hb=>by rw[h.1] at hb;cases hb
 | _, .int _,_,h,hb=>by rw[h.1] at hb;cases hb
 | _, .str _,_,h,hb=>by rw[h.1] at hb;cases hb
 | _, .lst ts,_,⟨a,vs,D',h1,h2,e,n,h3⟩,hb=>by
  rw[e] at hb;rcases mG.mp hb with z | z
  ·exact⟨_,by rw[z];exact h2⟩
  ·exact Sps.there vs ts D' h3 z
 | _, .dic ks ts,_,⟨a,ps,D',h1,h2,h3,e,n,h4⟩,hb=>by
  rw[e] at hb;rcases mG.mp hb with z | z
  ·exact⟨_,by rw[z];exact h2⟩
  ·exact Sps.there _ ts D' h4 z
 | _, .tup ts,_,⟨a,vs,D',h1,h2,e,n,h3⟩,hb=>by
  rw[e] at hb;rcases mG.mp hb with z | z
  ·exact⟨_,by rw[z];exact h2⟩
  ·exact Sps.there vs ts D' h3 z
theorem Sps.there{H:Hp}{b:Addr}:∀(vs:List V)(ts:List T)(D:List Addr),Sps H vs ts D→b∈D→∃o,H b=some o
 | _,[],_,h,hb=>by rw[h.2] at hb;cases hb
 | _,t::ts,_,⟨v,r,D1,D2,h1,e,h2,h3,n⟩,hb=>by
  rw[e] at hb;rcases nD.mp hb with z | z
  ·exact Sp1.there v t D1 h2 z
  ·exact Sps.there r ts D2 h3 z
end
theorem Sp1.same{H H':Hp}(g:Same H H'){v:V}{t:T}{D:List Addr}(h:Sp1 H v t D):Sp1 H' v t D:=Sp1.keep v t D (fun b _ o _ e=>g b o e) h
theorem Sps.same{H H':Hp}(g:Same H H'){v:List V}{t:List T}{D:List Addr}(h:Sps H v t D):Sps H' v t D:=Sps.keep v t D (fun b _ o _ e=>g b o e) h
theorem Sps.snoc{H:Hp}{v:V}{t:T}{D1:List Addr}(h:Sp1 H v t D1):∀{vs:List V}{ts:List T}{D:List Addr},Sps H vs ts D→(∀b∈D,b∉D1)→Sps H (vs++ [v]) (ts++ [t]) (D++D1)
 | _,[],D,e,_=>by
  obtain⟨e1,e2⟩:=e;subst e1 e2;exact⟨v,[],D1,[],rfl,by simp,h,⟨rfl,rfl⟩,fun _ _ z=>nomatch z⟩
 | _,t'::ts,D,⟨v',r,E1,E2,h1,e,h2,h3,n⟩,hd=>by
  subst h1 e;refine⟨v',r++ [v],E1,E2++D1,rfl,by simp,h2,Sps.snoc h h3 fun b hb=>hd b (nG _ hb),fun b hb z=>?_⟩;rcases nD.mp z with c | c
  ·exact n b hb c
  ·exact hd b (pF _ hb) c
theorem Sps.length{H:Hp}{vs:List V}{ts:List T}{D:List Addr}(h:Sps H vs ts D):vs.length=ts.length:=(Sps.rep vs ts D h).length
def Keep(D:List Addr)(H H':Hp):Prop:=∀b o,b∉D→H b=some o→H' b=some o
theorem Keep.refl{D:List Addr}{H:Hp}:Keep D H H:=fun _ _ _ h=>h
theorem Keep.mono{D D':List Addr}{H H':Hp}(h:Keep D H H')(s:∀b∈D,b∈D'):Keep D' H H':=fun b o hb e=>h b o (fun z=>hb (s b z)) e
theorem Keep.of{D:List Addr}{H H':Hp}(g:Same H H'):Keep D H H':=fun b o _ e=>g b o e
theorem Keep.put{D:List Addr}{H H':Hp}{a:Addr}(o:HO)(h:Keep D H H')(ha:a∈D):Keep D H (upd H' a o):=fun b u hb e=>by
 rw[zR fun z=>hb (by rw[z];exact ha)];exact h b u hb e
theorem Keep.old{D:List Addr}{H0 H H':Hp}(h:Keep D H H')(g:Same H0 H)(hf:∀b∈D,H0 b=none):Same H0 H':=fun b o e=>h b o (fun z=>by rw[hf b z] at e;cases e) (g b o e)
theorem zZ{H H':Hp}(g:Same H H'){p:Addr}(h:H' p=none):H p=none:=by
 cases e:H p with
 | none=>rfl
 | some o=>rw[g _ _ e] at h;cases h
theorem Sps.thaw{H H':Hp}{vs:List V}{ts:List T}{D:List Addr}(h:Sps H' vs ts D):Sps (L2.thaw H H') vs ts D:=Sps.keep vs ts D (fun _ _ _ n e=>xE e n) h
section
variable{prog:Program}{w:World}{A:Around}{E:Value→Shared→Prop}{s:Shared}
end
section
variable{X:Cx}
end
section
variable{X:Cx}{a:Expr}{ta:TE}
end
inductive U where
 | leaf (v:V)| lst (us:List U)| dic (ks:List Key) (us:List U)
mutual
def U.sz:U→Nat
 | .leaf _=>1
 | .lst us=>U.szs us+1
 | .dic _ us=>U.szs us+1
def U.szs:List U→Nat
 | []=>0
 | u::us=>U.sz u+U.szs us
end
mutual
def U.dep:U→Nat
 | .leaf _=>0
 | .lst us=>U.deps us+1
 | .dic _ us=>U.deps us+1
def U.deps:List U→Nat
 | []=>0
 | u::us=>max (U.dep u) (U.deps us)
end
mutual
def U.ok:U→Prop
 | .leaf v=>∀x,v= .str x→x.length≤1000
 | .lst us=>U.oks us
 | .dic ks us=>ks.Nodup∧ks.length=us.length∧(∀x,Sum.inr x∈ks→x.length≤1000)∧U.oks us
def U.oks:List U→Prop
 | []=>True
 | u::us=>U.ok u∧U.oks us
end
section
variable{X:Cx}{pins:List (Addr×Obj)}{σ:St}{H:Hp}{s:Shared}
end
section
variable{X:Cx}{o:Expr}{to:TE}{name:Str}{apos cpos:Pos}{id:String}{r:V→List V→Hp→VK→Prop}
end
structure Bl5(mg:Str→Option Value):Prop extends Bl2 mg where
 abs:mg "abs" =none
 ord:mg "ord" =none
section
variable{X:Cx}{pins:List (Addr×Obj)}{σ:St}{H:Hp}{s:Shared}{h':Heap}
theorem Inv.turnedFp{fp:List Addr}{t':Nat}(I:Inv X pins σ H s)(hf:∀b∈fp,zBc X pins H b)(k:∀b ob,b∉fp→s.heap.get? b=some ob→h'.get? b=some ob):Inv X pins σ H {s with heap:=h',toks:=t'}:=by
 have nfp:∀b u,H b=some u→b∉fp:=fun b u e z=>by rw[(hf b z).1] at e;cases e
 refine I.step (g':=s.gens) (d':=s.drawn) (ch:=fp) (fun b hb=>?_) (fun b ob _ _ hc e _=>k b ob hc e) (fun b ob _ _ hc e _=>⟨ob.slots,k b ob hc e⟩) (fun _ _ _ _ n=>n)
  (fun b ob hc e=>⟨ob,k b ob hc e⟩) (fun _ _ e=>e) (fun _ _ _ e=>e) (fun b ps e=>⟨#[],by rw[e];simp⟩) (fun m hm=>?_) (fun b u e=>?_) I.bare
 ·obtain⟨_,f1,_,f3,f4,f5⟩:=hf b hb
  exact⟨f3,f1,f4,f5⟩
 ·obtain⟨ob,es,ep,ho,r⟩:=hm
  exact⟨ob,es,ep,k _ ob (fun z=>(hf _ z).2.1 rfl) ho,r⟩
 ·refine(I.hok b u e).stay (fun c v hc q=>k c v ?_ q) (fun c q=>q) fun c xs q=>q
  rcases hc with z | z
  ·rw[z];exact nfp b u e
  ·exact nfp c _ z
end
def Itz(K:W.Frag)(l m:Addr):It:=
  ⟨fun i H=>∃xs ys x y,SqL K H l xs∧SqL K H m ys∧xs[i]? =some x∧ys[i]? =some y,
   fun i H v H'=>∃p x y,H p=none∧v= .ref p∧(∀xs,SqL K H l xs→xs[i]? =some x)∧(∀ys,SqL K H m ys→ys[i]? =some y)∧H'=upd H p (.tup [x,y]),
   fun i H=>∃xs ys,SqL K H l xs∧SqL K H m ys∧(xs.length≤i∨ys.length≤i)⟩
theorem zOx{P:Program}{w:World}{K:W.Frag}{elts:List Expr}{x1:Nat}{pos:Pos}(z TI TO i1 i2 l m:Addr)(ap:ZipApart z TI TO i1 i2 l m):
  zFt P w K (.Tuple elts x1 pos) (Itz K l m) [z,TI,TO,i1,i2] z (fun i h=>IsZip h z TI TO .none∧IsPair h TI (.ref i1) (.ref i2)∧(∃a b,IsPair h TO a b)∧h.IsListIter i1 l i∧h.IsListIter i2 m i) where
 mem:=by simp
 obj:=fun i h st b hb=>by
  obtain⟨hz,ht,⟨a,c,ho⟩,⟨o1,e1,c1,d1⟩,o2,e2,c2,d2⟩:=st;simp only[mG,nO,pN] at hb;rcases hb with rfl | rfl | rfl | rfl | rfl
  ·exact⟨_,hz,fun v z=>by cases z⟩
  ·exact⟨_,ht,fun v z=>by cases z⟩
  ·exact⟨_,ho,fun v z=>by cases z⟩
  ·exact⟨o1,e1,fun v z=>by rw[d1] at z;cases z⟩
  ·exact⟨o2,e2,fun v z=>by rw[d2] at z;cases z⟩
 keep:=fun i h h' st k=>by
  obtain⟨hz,ht,⟨a,c,ho⟩,s1,s2⟩:=st;exact⟨k z (by simp) _ hz,k TI (by simp) _ ht,⟨a,c,k TO (by simp) _ ho⟩,s1.at fun o q=>k i1 (by simp) o q,s2.at fun o q=>k i2 (by simp) o q⟩
 item:=by
  intro X hP hw hK hc i pins s σ H E I hf st hg;subst hP hw hK;obtain⟨hz,ht,⟨a,c,ho⟩,s1,s2⟩:=st;obtain⟨xs,ys,x,y,hq1,hq2,hx,hy⟩:=hg;obtain⟨its,rv,p,hl1⟩:=I.list hq1;obtain⟨jts,rw',p',hl2⟩:=I.list hq2;obtain⟨u,hu,ru⟩:=rv.get hx;obtain⟨u',hu',ru'⟩:=rw'.get hy;have lz:z<s.heap.objs.size:=mT hz;have lI:TI<s.heap.objs.size:=mT ht;have lO:TO<s.heap.objs.size:=mT ho;have l1:i1<s.heap.objs.size:=by obtain⟨o,q,_⟩:=id s1;exact mT q
  have l2:i2<s.heap.objs.size:=by obtain⟨o,q,_⟩:=id s2;exact mT q
  refine wpAny_pyNext_zip_item ap hz ht ho s1 s2 p.isList p'.isList (x:=u) (y:=u') (by simpa using hu) (by simpa using hu') fun h1 z1 o1 t1 t2 pr hsz keep=>⟨_,rfl, ?_⟩;refine wpAny_letOwnedTupleGo_zip z1 fun h2 z2 sb=>?_;have sb:Heap.SameBut z h1 h2:=sb;have hnew:H s.heap.objs.size=none:=I.hok.fresh (mE _);have pr2:h2.get? s.heap.objs.size=some {cls:=.type "tuple",data:=.seq #[u,u']}:=(sb.2 _ (pQ lz)).trans pr;refine⟨.ref s.heap.objs.size,upd H s.heap.objs.size (.tup [x,y]),I.turnedNew (t':=s.toks) hf (fun b ob hb q=>?_) (mE _) ?_,rfl,⟨_,x,y,hnew,rfl,fun zs h=>by rw[I.list_inj h hq1];exact hx,fun zs h=>by rw[I.list_inj h hq2];exact hy,rfl⟩,⟨z2, ?_,⟨u,u',(sb.2 TO ap.TOz).trans o1⟩, ?_, ?_⟩,fun b hb=>?_⟩
  ·simp only[mG,nO,pN,not_or] at hb
   exact(sb.2 b hb.1).trans (keep b ob hb.1 hb.2.2.1 hb.2.2.2.1 hb.2.2.2.2 q)
  ·exact⟨by rw[mQ];simp,[u,u'], .cons ru (.cons ru' .nil),⟨_,pr2,rfl,_,rfl⟩⟩
  ·exact(sb.2 TI ap.TIz).trans (keep TI _ ap.TIz ap.TITO ap.TIi1 ap.TIi2 ht)
  ·exact t1.at fun o q=>(sb.2 i1 ap.i1z).trans q
  ·exact t2.at fun o q=>(sb.2 i2 ap.i2z).trans q
  ·have hb0:=(hf b hb).1
   have:b≠s.heap.objs.size:=by
    simp only[mG,nO,pN] at hb;rcases hb with rfl | rfl | rfl | rfl | rfl<;>(apply nJ;assumption)
   rw[zR this];exact hb0
 done:=by
  intro X hP hw hK hc i pins s σ H E I hf st hg;subst hP hw hK;obtain⟨hz,ht,⟨a,c,ho⟩,s1,s2⟩:=st;obtain⟨xs,ys,hq1,hq2,hx⟩:=hg;obtain⟨its,rv,p,hl1⟩:=I.list hq1;obtain⟨jts,rw',p',hl2⟩:=I.list hq2;have e1:=rv.length;have e2:=rw'.length;refine wpAny_pyNext_zip_end (I.ok.hd hc) ap hz ht ho s1 s2 p.isList p'.isList ?_ fun h' keep=>⟨rfl,I.turnedFp (t':=s.toks) hf fun b ob hb q=>?_⟩
  ·rcases hx with z | z
   ·exact .inl (by simp;lia)
   ·exact .inr (by simp;lia)
  ·simp only[mG,nO,pN,not_or] at hb
   exact keep b ob hb.1 hb.2.2.1 hb.2.2.2.1 hb.2.2.2.2 q
 self:=fun _ _ _ _ _ st h=>wpAny_pyIter_zip st.1 h
theorem zLx{n l m:Nat}(h1:l<n)(h2:m<n):ZipApart (n+4) (n+2) (n+3) n (n+1) l m:=by
 constructor<;>(show(_:Nat)≠_;lia)
def zSo(K:W.Frag)(ta:TA):TI:=fun σ H R=>ta σ H fun vs H1=>∃l m xs ys,vs= [.ref l, .ref m]∧SqL K H1 l xs∧SqL K H1 m ys∧R (Itz K l m) H1
theorem zTk:bootBuiltins "zip" =some (.type "zip"):=by decide+kernel
theorem zTo{X:Cx}{elts:List Expr}{x1:Nat}{tpos:Pos}{a b:Expr}{ta:TA}{p pos:Pos}(hg:Gl X "zip")(hm:X.mg "zip" =none)(ha:PA X [a,b] ta)(hs:starEach [a,b] X.env=(false,eval a X.env)::starEach [b] X.env:=by rfl)(hs2:starEach [b] X.env= [(false,eval b X.env)]:=by rfl):
  PI X (.Tuple elts x1 tpos) (.Call (.Name "zip" p) [a,b] [] pos) (zSo X.K ta):=by
 intro pins s σ H R I h;refine Call_ (jG I hg hm zTk (pP (thn (ha pos pins s σ H _ I h) fun us s1 ⟨vs,H1,I1,r1,q1⟩=>?_) hs (by rw[hs2];rfl)));obtain⟨l,m,xs,ys,e,hq1,hq2,q⟩:=q1;subst e
 cases r1 with
 | cons r rr=>
  cases rr with
  | cons r' rr'=>
   cases rr';cases r;cases r';obtain⟨its,rv,pl,hz⟩:=I1.list hq1;obtain⟨jts,rw',pl',hz'⟩:=I1.list hq2;have ll:l<s1.heap.objs.size:=by obtain⟨o,q,_⟩:=pl.isList;exact mT q
   have lm:m<s1.heap.objs.size:=by obtain⟨o,q,_⟩:=pl'.isList;exact mT q
   refine call_zip_2 pl.isList pl'.isList fun h' hz1 ht ho st1 st2 hsz keep=>?_;refine wpAny_pyIter_zip (f0:=.none) hz1 ?_;have ap:ZipApart (s1.heap.objs.size+4) (s1.heap.objs.size+2) (s1.heap.objs.size+3) s1.heap.objs.size (s1.heap.objs.size+1) l m:=zLx ll lm;have fr:∀k,H1 (s1.heap.objs.size+k)=none:=fun k=>I1.hok.fresh (pZ _ _);refine⟨s1.heap.objs.size+4,[s1.heap.objs.size+4,s1.heap.objs.size+2,s1.heap.objs.size+3,s1.heap.objs.size,s1.heap.objs.size+1],_,_,H1,rfl,I1.kept (t':=s1.toks) keep,zOx _ _ _ _ _ l m ap,⟨hz1,ht,⟨_,_,ho⟩,st1,st2⟩,fun b hb=>?_,q⟩;simp only[mG,nO,pN] at hb;rcases hb with rfl | rfl | rfl | rfl | rfl
   ·exact I1.fpOk (pZ _ _) (fr 4)
   ·exact I1.fpOk (pZ _ _) (fr 2)
   ·exact I1.fpOk (pZ _ _) (fr 3)
   ·exact I1.fpOk (mE _) (fr 0)
   ·exact I1.fpOk (pZ _ _) (fr 1)
theorem zPl{K:W.Frag}{l m:Addr}{xs ys:List V}{g:TG}{tb:TS}{D:zAk}{σ:St}{H:Hp}(Pv:Nat→St→Hp→Prop)(h0:Pv 0 σ H)(hl:∀i σ H,Pv i σ H→SqL K H l xs∧SqL K H m ys)
  (hs:∀i x y σ H p,xs[i]? =some x→ys[i]? =some y→Pv i σ H→H p=none→g (.ref p) σ (upd H p (.tup [x,y])) fun σ2 H2=>tb {D with nx:=Pv (i+1),ct:=Pv (i+1),bk:=D.nx} σ2 H2)
  (hd:∀i σ H,(i=xs.length∨i=ys.length)→i≤xs.length→i≤ys.length→Pv i σ H→D.nx σ H):zMy g tb D σ (Itz K l m) H:=by
 refine⟨fun i k σ H=>k=xs.length - i∧i≤xs.length∧i≤ys.length∧Pv i σ H,⟨_,rfl,mL _,mL _,h0⟩, ?_⟩;rintro i k σ H ⟨rfl,h1,h2,p⟩;obtain⟨q1,q2⟩:=hl i σ H p
 by_cases e1:i<xs.length
 ·by_cases e2:i<ys.length
  ·refine .inr ⟨⟨xs,ys,xs[i],ys[i],q1,q2,by simp[e1],by simp[e2]⟩,Pv (i+1),fun σ' H' q=>⟨_,by lia,rfl,e1,e2,q⟩, ?_⟩
   rintro v H' ⟨a,x,y,ha,rfl,hx,hy,rfl⟩;exact hs i x y σ H a (hx xs q1) (hy ys q2) p ha
  ·exact .inl ⟨⟨xs,ys,q1,q2, .inr (by lia)⟩,hd i σ H (.inr (by lia)) h1 h2 p⟩
 ·exact .inl ⟨⟨xs,ys,q1,q2, .inl (by lia)⟩,hd i σ H (.inl (by lia)) h1 h2 p⟩
structure Bl6(mg:Str→Option Value):Prop extends Bl2 mg where
 zip:mg "zip" =none
theorem uB{X:Cx}{K:W.Frag}(hK:X.K=K):IxR X (zMs K):=by subst hK;exact gW
section
variable{X:Cx}{a:Expr}{ta:TE}
def tIsT(ta:TE):TE:=fun σ H Q=>ta σ H fun x H1=>∃b,x= .bl b∧Q (.bl b) H1
end
end L2
namespace HT
open PySem PyProof.Rows
open PySem.SeqAt
open PySem.AutoSeq1 (wpAny_loadPart')
open PySem.MeetsSeq PySem.MeetsSeq2 PySem.MeetsSeq3
section
variable{prog:Program}{w:World}{A:Around}{E:Value→Shared→Prop}{s:Shared}
end
end HT
namespace L2
open PySem PySem.Spec PyProof.Rows
end L2
namespace L2
open PySem PySem.Spec PyProof.Rows PySem.Builtin PySem.Builtin.Str
def rpl(c:Nat)(z:List Nat)(d:Nat):List Nat:=if d=c then z else[d]
section
variable{X:Cx}
end
end L2
namespace L2
open PySem PySem.Spec PyProof.Rows
section
variable{X:Cx}
theorem kN:wW X (.builtin "len") (fun xs H Q=>∃(a:Addr)(n:Nat),xs= [.ref a]∧((∃ys,SqL X.K H a ys∧n=ys.length)∨∃kvs,H a=some (.dK kvs)∧n=kvs.length)∧Q (.int n) H):=by
 intro pins s σ H xs us Q I r h;obtain⟨a,n,rfl,h,q⟩:=h;rcases h with⟨ys,hy,rfl⟩|⟨kvs,hk,rfl⟩
 ·exact yD pins s σ H _ us Q I r ⟨a,rfl,ys,hy,q⟩
 ·exact zAp pins s σ H _ us Q I r ⟨a,kvs,rfl,hk,q⟩
end
mutual
def T.fewm(m:Nat):T→Prop
 | .dic ks us=>ks.Nodup∧ks.length≤m∧ks.length=us.length∧T.fewms m us
 | .lst us=>us.length≤100000∧T.fewms m us
 | .tup _=>False
 | .non=>True
 | .bl _=>True
 | .int _=>True
 | .str _=>True
def T.fewms(m:Nat):List T→Prop
 | []=>True
 | t::us=>T.fewm m t∧T.fewms m us
end
theorem T.fewms_mem{m:Nat}{t:T}:∀{us:List T},T.fewms m us→t∈us→T.fewm m t
 | [],_,h=>nomatch h
 | u::us,h,hm=>(mG.mp hm).elim (fun e=>e▸h.1) (T.fewms_mem h.2)
theorem T.fewms_of{m:Nat}{us:List T}(h:∀t∈us,T.fewm m t):T.fewms m us:=by
 induction us with
 | nil=>exact mC
 | cons t us ih=>exact⟨h t mK,ih fun u hu=>h u (mI _ hu)⟩
mutual
theorem T.fewm_mono{m m':Nat}(l:m≤m'):∀t:T,T.fewm m t→T.fewm m' t
 | .lst us,h=>⟨h.1,T.fewms_mono l us h.2⟩
 | .dic ks us,h=>⟨h.1,mY h.2.1 l,h.2.2.1,T.fewms_mono l us h.2.2.2⟩
 | .tup _,h=>h.elim
 | .non,_=>mC
 | .bl _,_=>mC
 | .int _,_=>mC
 | .str _,_=>mC
theorem T.fewms_mono{m m':Nat}(l:m≤m'):∀us:List T,T.fewms m us→T.fewms m' us
 | [],_=>mC
 | t::us,h=>⟨T.fewm_mono l t h.1,T.fewms_mono l us h.2⟩
end
mutual
theorem T.fewm_few{m:Nat}(l:m≤63):∀t:T,T.fewm m t→T.few t
 | .lst us,h=>⟨h.1,T.fewms_few l us h.2⟩
 | .dic ks us,h=>⟨h.1,by have:=h.2.1;lia,h.2.2.1,T.fewms_few l us h.2.2.2⟩
 | .tup _,h=>h.elim
 | .non,_=>mC
 | .bl _,_=>mC
 | .int _,_=>mC
 | .str _,_=>mC
theorem T.fewms_few{m:Nat}(l:m≤63):∀us:List T,T.fewms m us→T.fews us
 | [],_=>mC
 | t::us,h=>⟨T.fewm_few l t h.1,T.fewms_few l us h.2⟩
end
theorem zPz{ks:List (List Nat)}{k:List Nat}(h:k∈ks):ks[ks.idxOf k]? =some k:=by
 have hl:=aQ h;rw[nS hl];exact congrArg some (List.getElem_idxOf hl)
theorem zGi{ks:List (List Nat)}{us:List T}{n:List Nat}{t:T}(h:ks.length=us.length):(uG (ks,us) n t).1.length=(uG (ks,us) n t).2.length∧(uG (ks,us) n t).2.length≤us.length+1:=by
 unfold uG;split
 ·exact⟨by show ks.length=(xW n t ks us).length;rw[zAq];exact h,by show(xW n t ks us).length≤_;rw[zAq];exact rT _⟩
 ·exact⟨by show(ks++ [n]).length=(us++ [t]).length;rw[mO,mO,h];rfl,by show(us++ [t]).length≤_;rw[mO];exact mE _⟩
theorem zDd{ks:List (List Nat)}{us:List T}{n:List Nat}{t:T}(h:ks.Nodup):(uG (ks,us) n t).1.Nodup:=by
 unfold uG;split
 ·exact h
 ·rename_i hn
  show(ks++ [n]).Nodup;rw[List.nodup_append];exact⟨h,by simp,fun a ha b hb z=>hn (by rw[←nM.mp hb,←z];exact ha)⟩
theorem zHb{ks:List (List Nat)}{us:List T}{n:List Nat}{t u:T}(h:u∈(uG (ks,us) n t).2):u∈us∨u=t:=by
 unfold uG at h;split at h
 ·exact zDu _ _ _ _ _ h
 ·rcases nD.mp h with z | z
  ·exact .inl z
  ·exact .inr (nM.mp z)
theorem T.deps_lt{n:Nat}{us:List T}(hn:0<n)(h:∀t∈us,T.dep t<n):T.deps us<n:=by
 have:=T.deps_of (n:=n - 1) (ts:=us) fun t ht=>by have:=h t ht;lia
 lia
def jV(H H':Hp):Hp:=fun b=>match H b with
 | none=>H' b
 | some _=>none
theorem xX{H H':Hp}{b:Addr}(h:H b=none):jV H H' b=H' b:=by unfold jV;rw[h]
theorem zGo{H H':Hp}{b:Addr}{o:HO}(e:jV H H' b=some o):H b=none:=by
 unfold jV at e
 cases h:H b with
 | none=>rfl
 | some _=>rw[h] at e;cases e
theorem zKy{H H' H2:Hp}(g:Same H' H2):Same (jV H H') (jV H H2):=fun b o e=>by
 have h:=zGo e;rw[xX h] at e⊢;exact g _ _ e
theorem Sp1.new{H H':Hp}{v:V}{t:T}{D:List Addr}(h:Sp1 H' v t D)(hD:∀b∈D,H b=none):Rep (jV H H') v t:=
 Sp1.rep _ _ _ (Sp1.keep _ _ _ (fun b hb o _ e=>by rw[xX (hD b hb)];exact e) h)
end L2
namespace L2
open PySem PySem.W PySem.Spec PyProof.Rows
structure Dd(P:Program)(w:World)(K:PySem.W.Frag)(mg:Str→Option Value)(base:Heap)(k:Nat)(x:Str)(ps:List Str)(dvs:List V)(sp:Sp):Prop where
 ex:∃(f:Addr)(fd:FuncData)(ds:List Value),FnOk P w K mg base CX0 k f fd ps sp∧Binds K fd ps ds∧Vals dvs ds∧PySem.W.keepIn K (.ref f)=true∧mg x=some (.ref f)
section
variable{X:Cx}{k j:Nat}{x:Str}{ps:List Str}{dvs:List V}{sp:Sp}{e:Expr}{es:List Expr}{t:TA}{p pos:Pos}
end
structure FunD(K:PySem.W.Frag)(x qual:Str)(st:Stmt)(f:Addr)(fd:FuncData):Prop where
 ex:∃(oc:Value)(od:Option Addr)(dV kV doc pm:Value)(an:Option Addr)(cdv ct:Value)(osl:Array (Option Value)),
  fd=PySem.W.fnOf x qual (yC st) (yB st) (zJ st) dV kV doc pm an cdv ct∧K.lookup f=some ⟨oc,od, .func fd,osl⟩∧PySem.W.codeIn K cdv qual=true
end L2
namespace L2
open PySem PySem.Spec PyProof.Rows
section
variable{X:Cx}
end
end L2
namespace L2
open PySem PySem.Builtin PySem.Builtin.Str
abbrev Tk:=Nat×List Nat
def dbl(x:List Nat):List Nat:=x.flatMap (rpl 39 [39,39])
def shw(t:Tk):List Nat:=if t.1=2 then 39::(dbl t.2++ [39]) else t.2
def stk(a b:Tk):Bool:=if b.2.take 1= [45]∧b.1=0 then false else if a.1=1 then decide (b.1=1)|| decide (b.1=0) else decide (a.1=b.1)&& !decide (a.1=3)
def lay:List (Nat×Tk)→List Nat
 | []=>[]
 | x::r=>List.replicate x.1 32++(shw x.2++lay r)
end L2
namespace L2
open PySem PySem.Spec PyProof.Rows
section
variable{P:Program}{w:World}{A:Around}{s:Shared}{E:Value→Shared→Prop}
end
section
variable{X:Cx}
end
end L2
namespace L2
open PySem PySem.Spec PyProof.Rows PySem.W
structure Kp(fs xs:List Addr)(h h':Heap):Prop where
 keep:∀b o,h.get? b=some o→b∉fs→b∉xs→h'.get? b=some o
 slot:∀b o,h.get? b=some o→b∈fs→b∉xs→∃sl,h'.get? b=some {o with slots:=sl}
def Fl(h:Heap)(x T:Addr)(C:Value)(d:Option Addr)(a0 fl:Value):Prop:=∃(oe:Obj)(vs:Array Value)(oT:Obj)(ts:Array Value),h.get? x=some oe∧oe.cls=C∧oe.dict=d∧oe.data= .fields vs∧vs[0]? =some a0∧vs[1]? =some (.ref T)∧T≠x∧h.get? T=some oT∧oT.data= .fields ts∧ts[3]? =some fl
section
variable{M:Model}{A:Around}{E:Value→Shared→Prop}{s:Shared}{env:Env}{outer:List Env}{x T L:Addr}{C a0 fl:Value}{d:Option Addr}{base:Heap}{Q:Unit→Shared→Prop}
end
section
variable{X:Cx}{pins:List (Addr×Obj)}{σ:St}{H H':Hp}{s s':Shared}
def CXE(P:Program)(w:World):CXT:=fun outer H s E e s'=>∃(x T:Addr)(C:Value)(d:Option Addr)(a0:Value)(H':Hp),e= .ref x∧s'.os=s.os∧AllBare s'.gens∧Un (frs outer) [] H H' s.heap s'.heap∧HOk P w H' s'.heap∧
 s.heap.get? x=none∧s.heap.get? T=none∧H' x=none∧H' T=none∧Fl s'.heap x T C d a0 .none∧E C d H'
end
end L2
namespace L2
open PySem PySem.Spec PyProof.Rows PySem.W
def XObj(nm:Str)(C N:Addr)(bm:List Value)(o:Obj):Prop:=∃(q:Str)(bs:List Value)(hdct:Bool)(sn:List Str)(sub:List Value)(ab:Bool)(col:Option Bool)(dd:Option Addr)(k0 k1 k2 k3 k5:Option Value),o=excClassObj nm q C N bs bm hdct sn sub ab col dd k0 k1 k2 k3 k5 "ValueError.__new__"
section
variable{M:Model}{A:Around}{E:Value→Shared→Prop}{s:Shared}{env:Env}
end
end L2
namespace L2
open PySem PySem.Spec PyProof.Rows PySem.W
abbrev zBt:List Value:=[.type "ValueError", .type "Exception", .type "BaseException", .type "object"]
section
variable{prog:Program}{w:World}{A:Around}{K:Frag}{C fI N:Addr}{nm:Str}{bm:List Value}{o:Obj}
end
end L2
namespace L2
open PySem PySem.Spec PyProof.Rows PySem.W PySem.Builtin PySem.Builtin.ObjectAttr
section
variable{prog:Program}{w:World}{A:Around}{K:Frag}{C B x:Addr}{cd:ClassData}{ox:Obj}{name:Str}{v:Value}
end
end L2
namespace L2
open PySem PySem.Spec PyProof.Rows PySem.W
structure XCls(K:Frag)(nm:Str)(C B fI:Addr):Prop where
 obj:∃(N:Addr)(o:Obj),K.lookup C=some o∧XObj nm C N (.ref B::zBt) o
 cd:∃cd,clsIn K C=some cd∧cd.mro= .ref C:: .ref B::zBt∧cd.hasDict=true
 tl:tailIn K zBt (.ref B::zBt)=true
 init:findIn K (.ref C) "__init__" =some (some (.ref fI))
 fn:typeIn K (.ref fI)=some (.type "function")
 set:findIn K (.ref C) "__setattr__" =some (some (.builtin "object.__setattr__"))
 at_:findIn K (.ref C) "at" =some none
 kp:keepIn K (.ref C)=true
structure XBase(K:Frag)(B:Addr):Prop where
 sp:specialIn K (.ref B) "__getattribute__" =some (some (.builtin "type.__getattribute__"))
 rd:readsIn K B (.type "type")=true
 init:findCls K (.ref B) (.type "type") "__init__" =some (.val (.builtin "ValueError.__init__"))
def exO(x C:Addr)(d:Option Addr):HO:=.ext fun h=>∃vs:Array Value,h.get? x=some {cls:=.ref C,dict:=d,data:=.fields vs}∧vs.size=6∧vs[1]? =some .none
section
variable{X:Cx}{pins:List (Addr×Obj)}{σ:St}{H:Hp}{s:Shared}{x C B fI:Addr}{nm:Str}{d:Option Addr}
end
end L2
namespace L2
open PySem PySem.Spec PyProof.Rows PySem.W
section
variable{X:Cx}{C B fI:Addr}{nm:Str}
def zRf(C:Addr):Sp:=fun vs H Q _=>∃x v0 v,vs= [.ref x,v0,v]∧H x=some (exO x C none)∧∀d,H d=none→Q .non (upd (upd H x (exO x C (some d))) d (.xd [("at",v)]))
end
section
variable{X:Cx}{pins:List (Addr×Obj)}{σ:St}{H:Hp}{s:Shared}{x C:Addr}{d:Option Addr}
end
end L2
namespace L2
open PySem PySem.Spec PyProof.Rows PySem.W
section
variable{X:Cx}{C B fI:Addr}{nm:Str}{k:Nat}{fd:FuncData}{ps:List Str}
structure Xr(P:Program)(w:World)(K:Frag)(mg:Str→Option Value)(base:Heap)(k:Nat)(cn:Str)(C:Addr):Prop where
 ex:∃(nm:Str)(B fI:Addr)(fd:FuncData)(ps:List Str),XCls K nm C B fI∧FnOk P w K mg base CX0 k fI fd ps (zRf C)∧Binds K fd ps []∧mg cn=some (.ref C)
end
structure Dx(P:Program)(w:World)(K:PySem.W.Frag)(mg:Str→Option Value)(base:Heap)(k:Nat)(x:Str)(ps:List Str)(sp:Sp):Prop where
 ex:∃(f:Addr)(fd:FuncData),FnOk P w K mg base (CXE P w) k f fd ps sp∧Binds K fd ps []∧PySem.W.keepIn K (.ref f)=true∧mg x=some (.ref f)
section
variable{X:Cx}{k j:Nat}{x:Str}{ps:List Str}{sp:Sp}{e:Expr}{es:List Expr}{t:TA}{p pos:Pos}{E:XK}
end
section
variable{P:Program}{w:World}{K:PySem.W.Frag}{mg:Str→Option Value}{base:Heap}{k:Nat}{f:Addr}{fd:FuncData}{ps:List Str}{sp sp':Sp}{CX:CXT}
end
end L2
namespace L2
open PySem PySem.Spec PyProof.Rows PySem.W PySem.Builtin PySem.Builtin.ObjectAttr
structure XGet(K:Frag)(C:Addr):Prop where
 ga:findIn K (.ref C) "__getattribute__" =some (some (.builtin "BaseException.__getattribute__"))
 gt:findIn K (.ref C) "__getattr__" =some none
 bx:mroIn K C (.type "BaseException")=some true
 ob:mroIn K C (.type "object")=some true
 hd:hasDictIn K C=true
 cl:findIn K (.ref C) "__class__" =some (some (.builtin "object.__class__"))
 cg:specialIn K (.builtin "object.__class__") "__get__" =some (some (.builtin "getset_descriptor.__get__"))
 ct:takesIn K (.builtin "object.__class__")=some true
section
variable{prog:Program}{w:World}{A:Around}{K:Frag}{C x:Addr}{ox od:Obj}{name:Str}{E:Value→Shared→Prop}{s:Shared}
end
end L2
namespace L2
open PySem PySem.Spec PyProof.Rows PySem.W
section
variable{X:Cx}{pins pins':List (Addr×Obj)}{σ:St}{H:Hp}{s:Shared}{v:Value}{W:Value→Shared→Prop}
end
section
variable{X:Cx}{B:Addr}{bn n:Str}{i:Nat}{body suite:List Stmt}{b₀:Stmt}{bp hp pos:Pos}{tb:XK→TS}{ts:TS}
end
end L2
namespace L2
open PySem PySem.Spec PyProof.Rows PySem.W
section
variable{X:Cx}{C D:Addr}{b:Bool}
end
section
variable{X:Cx}{k j:Nat}{x:Str}{ps:List Str}{sp:Sp}{e:Expr}{es:List Expr}{t:TA}{p pos:Pos}{E:XK}
end
end L2
namespace L2
open PySem PySem.Spec PyProof.Rows PySem.W
structure RoomH(k:Nat)(A:Around):Prop where
 dp:A.depth+3*k+5<recursionLimit
 un:A.units+16*k+200<cLine
structure FnOkH(P:Program)(w:World)(K:PySem.W.Frag)(mg:Str→Option Value)(base:Heap)(k:Nat)(f:Addr)(fd:FuncData)(ps:List Str)(sp:Sp):Prop where
 len:∀vs H Q E,sp vs H Q E→vs.length=ps.length
 run:∀(A:Around)(outer:List Env)(s:Shared)(H:Hp)(args:Args)(us:List Value)(vs:List V)(Q:VK)(E:XK),RoomH k A→zPi P w K mg base A outer s H→BindsTo s fd args (ps.zip us)→Vals vs us→sp vs H Q E→
  codeAny (model P w) A (.call (.ref f) args) (CR CX0 outer P w H s Q E) s
structure Dh(P:Program)(w:World)(K:PySem.W.Frag)(mg:Str→Option Value)(base:Heap)(k:Nat)(x:Str)(ps:List Str)(sp:Sp):Prop where
 ex:∃(f:Addr)(fd:FuncData),FnOkH P w K mg base k f fd ps sp∧Binds K fd ps []∧PySem.W.keepIn K (.ref f)=true∧mg x=some (.ref f)
section
variable{X:Cx}{k j:Nat}{x:Str}{ps:List Str}{sp:Sp}{e:Expr}{es:List Expr}{t:TA}{p pos:Pos}
end
end L2
namespace L2
open PySem PySem.Spec PyProof.Rows PySem.W
section
variable{M:Model}{A:Around}{E:Value→Shared→Prop}{s:Shared}{env:Env}{outer:List Env}{x T L:Addr}{C a0 fl:Value}{d:Option Addr}{base:Heap}{Q:Unit→Shared→Prop}
end
section
variable{X:Cx}{E:XK}{EE:Value→Shared→Prop}{s:Shared}{e:Value}{cs:List Addr}
end
end L2
namespace L2
open PySem PySem.Spec PyProof.Rows PySem.W
section
variable{X:Cx}{E:XK}
end
section
variable{X:Cx}{scope:Scope}{own:List Str}{F:List (Str×Nat)}{elt tg iter:Expr}{ifs:List Expr}{pos:Pos}{wi:TI}{g:TG}{tt:TT}{te:TE}{E:XK}
end
end L2
namespace L2
open PySem PySem.Spec PyProof.Rows PySem.W PySem.Builtin PySem.Builtin.ObjectAttr
structure Xp(K:Frag)(nm:Str)(C B:Addr):Prop where
 obj:∃(N:Addr)(o:Obj),K.lookup C=some o∧XObj nm C N (.ref B::zBt) o∧nsOkIn K N=true∧nsIn K N "__init__" =some none
 tl:tailIn K zBt (.ref B::zBt)=true
 kp:keepIn K (.ref C)=true
section
variable{X:Cx}{C B:Addr}{nm:Str}
structure Xr0(K:Frag)(mg:Str→Option Value)(cn:Str)(C:Addr):Prop where
 ex:∃(nm:Str)(B:Addr),Xp K nm C B∧mg cn=some (.ref C)
end
section
variable{prog:Program}{w:World}{A:Around}{K:Frag}{C x:Addr}{ox:Obj}{od:Option Obj}{name:Str}{E:Value→Shared→Prop}{s:Shared}
end
section
variable{X:Cx}{pins:List (Addr×Obj)}{σ:St}{H:Hp}{s:Shared}{x C:Addr}
end
section
variable{X:Cx}
end
end L2
namespace L2
open PySem PySem.Spec PyProof.Rows
def ItD(lo:Int)(n:Nat):It:=⟨fun i _=>i<n,fun i H x H'=>H'=H∧x= .int (lo - i),fun i _=>n≤i⟩
theorem zLh{P:Program}{w:World}{K:PySem.W.Frag}{tg:Expr}(it:Addr)(lo:Int)(n:Nat):zFt P w K tg (ItD lo n) [it] it (fun i h=>IsRangeIter h it (lo+(i:Nat)*(-1)) ((n:Int)- (i:Nat)) (-1)) where
 mem:=by simp
 obj:=fun i h st b hb=>by
  have e:b=it:=by simpa using hb
  subst e;exact⟨_,st,fun v z=>by
   have z':Data.fields _=Data.cell v:=z;cases z'⟩
 keep:=fun i h h' st k=>k it (by simp) _ st
 item:=by
  intro X hP hw hK hc i pins s σ H E I hf st hg;subst hP hw hK;obtain⟨f0,f1,f2,f3,f4,f5⟩:=hf it (by simp);have W:=Walks.range (prog:=X.prog) (w:=X.w) (I.ok.hd hc) it lo (-1) n;refine W.item i s _ _ hg st fun v h' tk hv st' kk=>?_;obtain⟨t,rfl⟩:=hv;have I1:Inv X pins σ H {s with heap:=h',toks:=tk}:=I.turned (fun b o hb e=>kk b o (by simpa using hb) e) f0 f1 f3 f4 f5;refine⟨_,rfl,zJj (s:={s with heap:=h',toks:=tk}) (n:="range_iterator") st' rfl rfl (by decide) ⟨.int (lo - i),H,I1,⟨t, ?_⟩,⟨rfl,rfl⟩,st',fun b hb=>(hf b hb).1⟩⟩;have e:lo+((i:Nat):Int)*(-1)=lo - i:=by lia
  rw[e]
 done:=by
  intro X hP hw hK hc i pins s σ H E I hf st hg;subst hP hw hK;obtain⟨f0,f1,f2,f3,f4,f5⟩:=hf it (by simp);exact wpAny_pyNext_range_end (I.ok.hd hc) st (by have:n≤i:=hg;lia) fun h' eb=>⟨rfl,I.turned (t':=s.toks) (fun b o hb e=>eb b o hb e) f0 f1 f3 f4 f5⟩
 self:=fun _ _ _ _ _ st h=>wpAny_pyIter_rangeiter st h
section
variable{X:Cx}{tg:Expr}
theorem zLg{lo:Int}{n:Nat}{g:TG}{tb:TS}{D:zAk}{σ:St}{H:Hp}(Pv:Nat→St→Hp→Prop)(h0:Pv 0 σ H)
  (hs:∀i σ H,i<n→Pv i σ H→g (.int (lo - i)) σ H fun σ2 H2=>tb {D with nx:=Pv (i+1),ct:=Pv (i+1),bk:=D.nx} σ2 H2) (hd:∀σ H,Pv n σ H→D.nx σ H):zMy g tb D σ (ItD lo n) H:=by
 refine⟨fun i m σ H=>m=n - i∧i≤n∧Pv i σ H,⟨n,by simp,mL _,h0⟩, ?_⟩;rintro i m σ H ⟨rfl,hi,p⟩
 by_cases hlt:i<n
 ·refine .inr ⟨hlt,Pv (i+1),fun σ' H' p'=>⟨n - (i+1),by lia,rfl,hlt,p'⟩,fun x H' y=>?_⟩
  obtain⟨e,y⟩:=y;subst e y;exact hs i σ _ hlt p
 ·have e:i=n:=by lia
  subst e;exact .inl ⟨mE _,hd σ H p⟩
end
structure Ddx(P:Program)(w:World)(K:W.Frag)(mg:Str→Option Value)(base:Heap)(k:Nat)(x:Str)(ps:List Str)(dvs:List V)(sp:Sp):Prop where
 ex:∃(f:Addr)(fd:FuncData)(ds:List Value),FnOk P w K mg base (CXE P w) k f fd ps sp∧Binds K fd ps ds∧Vals dvs ds∧W.keepIn K (.ref f)=true∧mg x=some (.ref f)
section
variable{X:Cx}{k j:Nat}{x:Str}{ps:List Str}{dvs:List V}{sp:Sp}{e:Expr}{es:List Expr}{t:TA}{p pos:Pos}{E:XK}
end
theorem Reps.set{H:Hp}{v:V}{t:T}(hv:Rep H v t):∀{xs:List V}{us:List T}(i:Nat),Reps H xs us→Reps H (xs.set i v) (us.set i t)
 | _,[],i,h=>by
  have e:_= []:=h;subst e;exact rfl
 | _,u::us,0,⟨x,r,e,h1,h2⟩=>by subst e;exact⟨v,r,rfl,hv,h2⟩
 | _,u::us,i+1,⟨x,r,e,h1,h2⟩=>by subst e;exact⟨x,_,rfl,h1,Reps.set hv i h2⟩
section
variable{X:Cx}
def rIns:V→List V→Hp→VK→Prop:=fun x vs H Q=>∃l xs i y,x= .ref l∧vs= [.int i,y]∧H l=some (.lst xs)∧0≤i∧i≤(xs.length:Int)∧xs.length<sizeLine∧xs.length≤100000∧Q .non (upd H l (.lst (xs.take i.toNat++y::xs.drop i.toNat)))
theorem zLl:MtM X "list.insert" rIns:=by
 intro pins s σ H x vs v us Q I rx rv h;obtain⟨l,xs,i,y,rfl,rfl,hH,h0,h1,hz,h5,q⟩:=h;cases rx;obtain⟨u,w,rfl,ru,rw'⟩:=rv.two;obtain⟨t,rfl⟩:=ru;obtain⟨z,its,n,r,hl,e⟩:=I.lstM hH;have hfit:¬(!Builtin.List.listFitsIndex i)=true:=by
  rw[fitsIndex_both (by lia) (by lia)];decide
 refine tJ F.slot_list_insert ⟨_,e,rfl⟩ F.entry_list_insert (F.args_list_insert_3 _ _ _) (AutoSeq1.list_insert_list_int_val_1 l its.toArray n i t w hfit (by rw[mV];lia)) ⟨e, ?_⟩;refine⟨.non,_,I.lset (its':=its.take i.toNat++w::its.drop i.toNat) hH e ?_ ((r.take _).append (.cons rw' (r.drop _))) ?_,rfl,q⟩
 ·have hk:(if i<0 then(i+(its.toArray.size:Int)).toNat else min i.toNat its.toArray.size)=i.toNat:=by
   rw[mJ (by lia),mV]
   lia
  show(its.toArray.extract 0 (if i<0 then(i+(its.toArray.size:Int)).toNat else min i.toNat its.toArray.size)).push w++its.toArray.extract (if i<0 then(i+(its.toArray.size:Int)).toNat else min i.toNat its.toArray.size)=_;rw[hk];apply Array.ext';simp;exact pT (by rw[nU];exact mE _)
 ·rw[mO,nF,sF,nU]
  lia
end
theorem uU{lo j:Int}(h:j≤lo):Builtin.Range.rangeSize lo j (-1)=lo - j:=by
 unfold Builtin.Range.rangeSize;simp
 lia
theorem zNa{lo j:Int}(h0: -1≤j)(h:j≤lo)(h1:lo<100000):Builtin.Range.small lo j (-1)=true:=by
 unfold Builtin.Range.small;rw[uU h];simp[Builtin.Range.rangeFitsLong]
 lia
section
variable{X:Cx}{tg:Expr}
def iDn(ta:TA):TI:=fun σ H R=>ta σ H fun vs H1=>∃i j:Int,vs= [.int i, .int j, .int (-1)]∧-1≤j∧j≤i∧i<100000∧R (ItD i (i - j).toNat) H1
theorem pi_dn{a b c:Expr}{ta:TA}{p pos:Pos}(hg:Gl X "range")(hm:X.mg "range" =none)(ha:PA X [a,b,c] ta)(hs:starEach [a,b,c] X.env= [(false,eval a X.env),(false,eval b X.env),(false,eval c X.env)]:=by rfl)(hs2:starEach [b,c] X.env= [(false,eval b X.env),(false,eval c X.env)]:=by rfl):
  PI X tg (.Call (.Name "range" p) [a,b,c] [] pos) (iDn ta):=by
 intro pins s σ H R I h;refine Call_ (jG I hg hm boot_range (pP (thn (ha pos pins s σ H _ I h) fun us s1 ⟨vs,H1,I1,r1,q1⟩=>?_) (by rw[hs,hs2]) (by rw[hs2];rfl)));obtain⟨i,j,e,h0,h1,h2,q⟩:=q1;subst e
 cases r1 with
 | cons r rr=>
  cases rr with
  | cons r' rr=>
   cases rr with
   | cons r2 rr=>
    cases rr;obtain⟨t,rfl⟩:=r;obtain⟨t',rfl⟩:=r';obtain⟨t2,rfl⟩:=r2;refine call_range_3 (by decide) ?_ (nH (PyProof.noPylong_small (by lia)));refine wpAny_pyIter_range (IsRange.new ..) (zNa h0 h1 h2) ?_;have I2:Inv X pins σ H1 {s1 with heap:=s1.heap.push {cls:=.type "range",data:=.fields #[.int i t, .int j t', .int (-1) t2]},toks:=s1.toks}:=I1.kept fun b o e=>mS _ e;refine⟨(s1.heap.push {cls:=.type "range",data:=.fields #[.int i t, .int j t', .int (-1) t2]}).objs.size,[(s1.heap.push {cls:=.type "range",data:=.fields #[.int i t, .int j t', .int (-1) t2]}).objs.size],_,_,H1,rfl,
     I2.kept (t':=s1.toks) fun b o e=>mS _ e,zLh _ i (i - j).toNat, ?_,fun b hb=>?_,q⟩
    ·have e1:i+((0:Nat):Int)*(-1)=i:=by simp
     have e2:((((i - j).toNat:Nat):Int))- ((0:Nat):Int)=Builtin.Range.rangeSize i j (-1):=by rw[uU h1];lia
     show IsRangeIter _ _ (i+((0:Nat):Int)*(-1)) ((((i - j).toNat:Nat):Int)- ((0:Nat):Int)) (-1);rw[e1,e2];exact nI _ rfl
    ·have e:b=(s1.heap.push {cls:=.type "range",data:=.fields #[.int i t, .int j t', .int (-1) t2]}).objs.size:=by simpa using hb
     subst e;exact I2.fpOk (mE _) (I2.hok.fresh (mE _))
end
theorem vO{X:Cx}{K:W.Frag}(h:X.K=K):wW X (.builtin "len") (fun xs H Q=>∃p,xs= [.ref p]∧∃ys,SqL K H p ys∧Q (.int ys.length) H):=by subst h;exact yD
def ovH(G H H':Hp):Hp:=fun b=>match H b with
 | none=>H' b
 | some _=>G b
theorem wB{G H H':Hp}{b:Addr}(h:H b=none):ovH G H H' b=H' b:=by unfold ovH;rw[h]
theorem vG{G H H':Hp}{b:Addr}{o:HO}(h:H b=some o):ovH G H H' b=G b:=by unfold ovH;rw[h]
theorem zJt{G H H':Hp}(g:Same G H)(g2:Same H H'):Same (ovH G H H') H':=fun b o e=>by
 cases h:H b with
 | none=>rw[wB h] at e;exact e
 | some u=>rw[vG h] at e;exact g2 _ _ (g _ _ e)
theorem zGs{G H H':Hp}(g:Same G H):Same G (ovH G H H'):=fun b o e=>by
 rw[vG (g _ _ e)];exact e
theorem zGx{G H H1 H2:Hp}(g:Same H1 H2):Same (ovH G H H1) (ovH G H H2):=fun b o e=>by
 cases h:H b with
 | none=>rw[wB h] at e⊢;exact g _ _ e
 | some u=>rw[vG h] at e⊢;exact e
theorem zSe{G H H1 H2 G1:Hp}(g:Same G1 (ovH G H H1))(gh:Same H H1)(g2:Same H1 H2):Same (ovH G1 H1 H2) (ovH G H H2):=fun b o e=>by
 cases h:H1 b with
 | none=>
  rw[wB h] at e;rw[wB (zZ gh h)];exact e
 | some u=>
  rw[vG h] at e;have:=g _ _ e
  cases h':H b with
  | none=>
   rw[wB h'] at this⊢;exact g2 _ _ this
  | some v=>rw[vG h'] at this⊢;exact this
theorem zHf{X:Cx}{K:W.Frag}(h:X.K=K):SlR X (zUh K):=by subst h;exact vJ
theorem zHh{X:Cx}{K:W.Frag}(hu:X.A.units<cLine)(h:X.K=K):OpR X (compareOp .Eq) (zPb K false):=by subst h;exact zPu hu
end L2
namespace L2
open PySem PySem.Spec PyProof.Rows
theorem pS{X:Cx}{pos pos':Pos}{x:Str}{e:Expr}{te:TE}(i:Nat)(hN:X.N.Nodup)(he:PE X e te)(hi:X.N[i]? =some x:=by rfl)(hx:Loc X.env.scope x:=by exact nH rfl)(hs:swapsWith e (some (.Name x pos')) pos.line X.env=pure false:=by rfl)(hf:X.fn x=true∨X.env.scope.names.lookup x=some .local:=by first | exact .inl rfl | exact .inr rfl | assumption):PS X (.Assign [.Name x pos'] e pos) (zMc te (vN i)):=uZ hN hi hx he hs hf
theorem pD{X:Cx}{k j:Nat}{x:Str}{ps:List Str}{sp:Sp}{e:Expr}{es:List Expr}{t:TA}{p pos:Pos}(D:Dn X.prog X.w X.K X.mg X.base k x ps sp)(hr:Room j X.A)(ha:PA X (e::es) t)(hj:k≤j:=by first | decide | lia)(hg:Gl X x:=by rfl)(hdb:(x==("__debug__" :Str))=false:=by decide)
  (he:starEach (e::es) X.env=(false,eval e X.env)::starEach es X.env:=by rfl) (hpl:(backTo pos (starEach es X.env)).any (·.1)=false:=by rfl):PE X (.Call (.Name x p) (e::es) [] pos) (uH sp [] E0 t):=zT D hr hj hg ha hdb he hpl
theorem pI{X:Cx}{x0 x:Str}{T:String}{e:Expr}{te:TE}{p p2 pos:Pos}(h0:X.mg x0=none)(b0:bootBuiltins x0=some (.builtin "isinstance"))(hm:X.mg x=none)(hb:bootBuiltins x=some (.type T))(he:PE X e te)(hT:T∈tyL:=by decide)(g1:Gl X x0:=by rfl)(g2:Gl X x:=by rfl)(hn0:x0≠ "__name__":=by decide)(hd0:(x0==("__debug__" :Str))=false:=by decide)(hn:x≠ "__name__":=by decide)(hd:(x==("__debug__" :Str))=false:=by decide)
  (h1:starEach [e, .Name x p2] X.env=(false,eval e X.env)::starEach [.Name x p2] X.env:=by rfl) (h2:(backTo pos (starEach [.Name x p2] X.env)).any (·.1)=false:=by rfl):PE X (.Call (.Name x0 p) [e, .Name x p2] [] pos) (tCB (fun xs H Q=>∃x t,xs= [x, .ty T]∧tyS H x=some t∧Q (.bl (zO t T)) H) (jO te (jO (tC (.ty T)) zCe))):=
 zM (zCk hT) g1 h0 b0 (zA he (zA (xU (v:=.ty T) g2 hm hb rfl hn hd) zD) h1) hn0 hd0 h1 h2
theorem len1{α:Type}{us:List α}(h:us.length=1):∃a,us= [a]:=
 match us,h with
 | [a],_=>⟨a,rfl⟩
theorem len2{α:Type}{us:List α}(h:us.length=2):∃a b,us= [a,b]:=
 match us,h with
 | [a,b],_=>⟨a,b,rfl⟩
theorem len3{α:Type}{us:List α}(h:us.length=3):∃a b c,us= [a,b,c]:=
 match us,h with
 | [a,b,c],_=>⟨a,b,c,rfl⟩
theorem len4{α:Type}{us:List α}(h:us.length=4):∃a b c d,us= [a,b,c,d]:=
 match us,h with
 | [a,b,c,d],_=>⟨a,b,c,d,rfl⟩
end L2
section
open PySem L2
local macro_rules | `(tactic| walk_at "b1") => `(tactic| (intro _ _ _ _ _ _ us hl; obtain ⟨_,e⟩ := len1 hl; subst e; rfl))
local macro_rules | `(tactic| walk_at "b2") => `(tactic| (intro _ _ _ _ _ _ us hl; obtain ⟨_,_,e⟩ := len2 hl; subst e; rfl))
local macro_rules | `(tactic| walk_at "b3") => `(tactic| (intro _ _ _ _ _ _ us hl; obtain ⟨_,_,_,e⟩ := len3 hl; subst e; rfl))
local macro_rules | `(tactic| walk_at "b4") => `(tactic| (intro _ _ _ _ _ _ us hl; obtain ⟨_,_,_,_,e⟩ := len4 hl; subst e; rfl))
local macro_rules | `(tactic| walk_at "ln") => `(tactic| (intro vs H Q E h; repeat (first | (obtain ⟨e,_⟩ := h; subst e; rfl) | (obtain ⟨_,h⟩ := h))))
local macro_rules | `(tactic| walk_at "rd3") => `(tactic| first | (dsimp only [zOf,zGp,zRg,zSo,tIsT,zOh,zCa,zTq,zNq,zNc,zPh,zPc,zGv,gN,zRx,zDs,zSc,zOp,zMc,vN,zTd,zRz,zTc,zOd,tOp,tUn,jU,tC,uH,jO,zCe,zJk,tB,zTy,tOr,zUd,zKl,tOrV,zNj,tIf,tCB,tBM,zDs,gO,zKi,zBn,tSl,zPk,zUf,zOn,zQi,zSt,zJl,zIn,zIl,rI0,rI,rU,rEq,rNe,zMz,rInC,zNx,iStr,zTm,CMul,zUl,zRo,List.getElem?_cons_zero,List.getElem?_cons_succ,List.set_cons_zero,List.set_cons_succ,List.map_cons,List.map_nil,List.length_cons,List.length_nil,Nat.reduceAdd,Option.join_some,Option.join_none]; try walk_at "rd3s") | walk_at "rd3s")
local macro_rules | `(tactic| walk_at "rd3s") => `(tactic| simp only [zOf,zGp,zRg,zSo,tIsT,zOh,zCa,zTq,zNq,zNc,zPh,zPc,zGv,gN,zRx,zDs,zSl,nox_K,zPn,zSc,zOp,zMc,vN,zTd,zRz,zTc,zOd,tOp,tUn,jU,tC,uH,jO,zCe,zJk,tB,zTy,tOr,zUd,zKl,tOrV,zNj,tIf,tCB,tBM,zDs,gO,zKi,zBn,tSl,zPk,zUf,zOn,zQi,zSt,zQl,zJl,zIn,zIl,rI0,rI,rU,rEq,rNe,zMz,rInC,zNx,iStr,zTm,CMul,zUl,zRo,List.append_nil,List.getElem?_cons_zero,List.getElem?_cons_succ,List.set_cons_zero,List.set_cons_succ,List.map_cons,List.map_nil,List.length_cons,List.length_nil,sizeLine_eq,Nat.reduceAdd,Nat.reduceLeDiff,Option.join_some,Option.join_none,Option.some.injEq,V.int.injEq,V.str.injEq,V.bl.injEq,V.ref.injEq,V.ty.injEq,List.cons.injEq,and_true,true_and,and_self,exists_eq_left',exists_eq_left,exists_and_left,exists_and_right,decide_eq_true_eq,Bool.not_eq_eq_eq_not,Bool.not_true,Bool.not_false,decide_eq_false_iff_not,Int.reduceLT,Int.reduceLE,Int.reduceNeg,Int.reducePow,Int.reduceAdd,Int.reduceSub,Int.reduceMul,Int.reduceToNat,zNe,Nat.reduceLT,Nat.reducePow,or_true,true_or,if_true,if_false,Bool.false_eq_true,ite_true,ite_false,reduceCtorEq])
local macro_rules | `(tactic| walk_at "sc") => `(tactic| exact ⟨rfl,rfl,rfl,by decide +kernel,rfl,by decide +kernel,by decide +kernel⟩)
local macro_rules | `(tactic| walk_at "st") => `(tactic| simp only [uS,List.map_cons,List.map_nil,List.length_cons,List.length_nil,Nat.reduceAdd,Nat.reduceSub,List.replicate_succ,List.replicate_zero,List.cons_append,List.nil_append])
local macro_rules | `(tactic| walk_at "wu") => `(tactic| with_unfolding_all rfl)
namespace K45
open PySem L2 PySem.W
seal L2.PSs L2.PS L2.PE L2.PT L2.PW L2.PA L2.PI L2.PG L2.PGs L2.PPs L2.PTs
def top(i:Nat):Stmt:=PySem.Challenge.pw_cabinet_k45_untouched.main.body.getD i (.Pass ⟨0,0,0,0⟩)
abbrev zEe:Stmt:=top 13
abbrev zKt:Stmt:=top 17
def wX(ns:List Int)(k:Int):Int:=
 let m:=if ns= [] then k*7919 else(k*7919+k / ns.length*104729+ns.getD (k % ns.length).toNat 0*48271)% 1000003
 (m*m / 11+13*m)% 1000003
theorem wG(ns:List Int)(k:Int):0≤wX ns k:=pO _ (by decide)
theorem wO(ns:List Int)(k:Int):wX ns k<1000003:=pH _ (by decide)
def vD(K:W.Frag):Sp:=fun vs H Q _=>∃(a:Addr)(ns:List Int)(k:Int),vs= [.ref a, .int k]∧SqL K H a (ns.map V.int)∧ns.length≤63∧0≤k∧k<1000000∧∀H',Same H H'→Q (.int (wX ns k)) H'
theorem zCu{K:W.Frag}{H:Hp}{Q:VK}{E:XK}{a:Addr}{ns:List Int}{k:Int}(hS:SqL K H a (ns.map V.int))(h63:ns.length≤63)(h0:0≤k)(h1:k<1000000)(q:∀H',Same H H'→Q (.int (wX ns k)) H'):
  vD K [.ref a, .int k] H Q E:=⟨a,ns,k,rfl,hS,h63,h0,h1,q⟩
section
variable{P:Program}{w:World}{K:W.Frag}{mg:Str→Option Value}{base:Heap}{f:Addr}{fd:FuncData}
theorem scCell:yE ["_law_script","_law_k","_law_more"] ["_law_script","_law_k"] (zJ zEe):=by walk_at "sc"
theorem zRa(F:Fun K "_law_cell" "_law_cell" zEe f fd)(B:Bl mg):FnOk P w K mg base CX0 1 f fd ["_law_script","_law_k"] (vD K):=by
 refine F.ok scCell (by walk_at "ln") fun c A o s H vs Q E hr h=>?_;obtain⟨a,ns,k,rfl,hS,h63,h0,h1,q⟩:=h;have nd:=scCell.nd;have hu0:=hr.units0;refine⟨_,(zF (pS 2 nd (zH vR (pv 1) zE))
  (zF (zS (zP (zPw hu0) (pv 0) (zX zD) (zN _)) (zF (pS 2 nd (zH yR (pv 2) (zH vR (zH zW (pv 1) (zM yD rfl B.len yO (zA (pv 0) zD))) zE)))
  (zG (pS 2 nd (zH zU (zH yR (pv 2) (zH vR (yI yA (pv 0) (zH zU (pv 1) (zM yD rfl B.len yO (zA (pv 0) zD))) (fun _ _=>rfl)) zE)) zE)))) zL)
  (zG (zK (zH zU (zH yR (zH zW (zH vR (pv 2) (pv 2)) zE) (zH vR zE (pv 2))) zE))))), ?_⟩
 walk_at "st";walk_at "rd3";intro p hp;have hS':=(zC hp (.lst [])).seq hS;refine zJb hS' (SqL.of zB) (zKu ns) rfl ⟨_,rfl, ?_⟩;rw[zPj]
 by_cases hn:ns= []
 ·subst hn
  refine zFi ⟨.inl (by lia), ?_⟩;exact q _ (zC hp _)
 ·have hpos:0<ns.length:=rP.mpr hn
  have e1:(ns.map V.int).isEmpty=false:=by cases ns with | nil=>exact absurd rfl hn | cons _ _=>rfl
  rw[mW rfl,e1];have hl:(ns.map V.int).length=ns.length:=mB _;have hm0:0≤k % (ns.length:Int):=pO _ (by lia);have hm1:k % (ns.length:Int)<ns.length:=pH _ (by lia);refine zFs ⟨ns.map V.int,hS',by rw[hl];lia,ns.map V.int,hS',by rw[hl];lia, ?_⟩;rw[hl];refine yN hS' (zNw (d:=.int 0) hm0 (by rw[hl];exact hm1)) ⟨ns.getD (k % ns.length).toNat 0, ?_, .inl ?_, ?_⟩
  ·simp[List.getD,mU]
  ·generalize (k*7919+k / ns.length*104729+ns.getD (k % ns.length).toNat 0*48271)=z
   lia
  ·have e:wX ns k=_:=rfl
   have e2:wX ns k=(((k*7919+k / ns.length*104729+ns.getD (k % ns.length).toNat 0*48271)% 1000003*((k*7919+k / ns.length*104729+ns.getD (k % ns.length).toNat 0*48271)% 1000003)/ 11+13*((k*7919+k / ns.length*104729+ns.getD (k % ns.length).toNat 0*48271)% 1000003))% 1000003):=by
    unfold wX;rw[mJ hn]
   rw[←e2];exact q _ (zC hp _)
def zHn:Sp:=fun vs H Q _=>∃(m:Int),vs= [.int m]∧0≤m∧m<2000000∧∀(i:Int),-(10 ^ 12)≤i→i≤10 ^ 12→∀H',Same H H'→Q (.int i) H'
theorem scNum:yE ["_law_more"] ["_law_more"] (zJ zKt):=by walk_at "sc"
theorem zTb(F:Fun K "_law_number_by" "_law_number_by" zKt f fd):FnOk P w K mg base CX0 1 f fd ["_law_more"] zHn:=by
 refine F.ok scNum (by walk_at "ln") fun c A o s H vs Q E hr h=>?_;obtain⟨m,rfl,h0,h1,q⟩:=h;have nd:=scNum.nd;refine⟨_,(zF (zS (zP yX (zH zU (pv 0) zE) zE (zN _)) (zG (zK (zH xS (zH zU (zH zW (pv 0) zE) zE) zE))) zL)
  (zF (zS (zP yX (zH zU (pv 0) zE) zE (zN _)) (zG (zK (zH xS (zH zU (zH gT (pv 0) zE) (zH yR (zH vR zE (zH gT zE zE)) zE)) (zH gT zE zE)))) zL)
  (zG (zK (yI yA (zX (zA (zH gT zE zE) (zA (vC xZ (zH gT zE zE)) (zA (zH xS (zH gT zE zE) zE) (zA zE (zA zE (zA (vC xZ zE) (zA (zH gT zE zE) (zA zE zD))))))))) (zH zU (zH zW (pv 0) zE) zE) (fun _ _=>rfl)))))), ?_⟩
 walk_at "st";walk_at "rd3";split
 ·exact q _ (by lia) (by lia) _ (Same.refl H)
 ·split
  ·refine⟨by lia,q _ ?_ ?_ _ (Same.refl H)⟩
   ·have:=pO (m ^ 4) (show(2000000000001:Int)≠0 by decide)
    lia
   ·have:=pH (m ^ 4) (show(0:Int)<2000000000001 by decide)
    lia
  ·intro p hp
   obtain⟨v,hv,hm⟩:=jH (xs:=[V.int 1000000000000,V.int (-1000000000000),V.int 999999999999,V.int 0,V.int 1,V.int (-1),V.int 100000000000,V.int 999]) (i:=m / 3 % 8) (by lia) (by simp only[nF,nY];lia);refine yN (SqL.of zB) hv ?_;simp only[mG,nO,pN] at hm;rcases hm with rfl | rfl | rfl | rfl | rfl | rfl | rfl | rfl<;>exact q _ (by decide) (by decide) _ (zC hp _)
abbrev zEi:Stmt:=top 14
def jX:Sp:=fun vs H Q _=>∃(m:Int),vs= [.int m]∧0≤m∧m<2000000∧∀(x:List Nat),zCi x=true→∀H',Same H H'→Q (.str (tx x)) H'
theorem scName:yE ["_law_more","_law_letters","_law_size_here","_law_at","_law_word","_law_by","_law_signs_here"] ["_law_more"] (zJ zEi):=by walk_at "sc"
theorem zRp(F:Fun K "_law_name_by" "_law_name_by" zEi f fd)(B:Bl mg):FnOk P w K mg base CX0 1 f fd ["_law_more"] jX:=by
 refine F.ok scName (by walk_at "ln") fun c A o s H vs Q E hr h=>?_;obtain⟨m,rfl,h0,h1,q⟩:=h;have nd:=scName.nd;refine⟨_,(zF (uZ (i:=1) nd rfl (aM rfl) zV)
  (zF (pS 2 nd (yI yA (zX (zA zE (zA (zH yR zE (zH zU (zH zW (pv 0) zE) zE)) (zA (zH yR zE (zH zU (zH zW (pv 0) zE) zE)) zD)))) (zH zU (pv 0) zE) (fun _ _=>rfl)))
  (zF (zS (zP yX (zH zU (zH zW (pv 0) zE) zE) zE (zN _)) (zF (pS 3 nd (zH zU (zH zW (pv 0) zE) (pv 2)))
  (zF (pS 4 nd (zH wS (zH wS (zH jN zV (pv 3)) (yI zBr (pv 1) (zH zU (zH zW (pv 0) zE) zE) (fun _ _=>rfl))) (zH jN zV (zH xS (zH xS (pv 2) (pv 3)) zE))))
  (zG (zK (pv 4))))) zL)
  (zF (uZ (i:=5) nd rfl (aM rfl) (zH yR zE (zH zU (zH zW (pv 0) zE) zE)))
  (zF (jK (i:=6) nd rfl (nH rfl) (own:=["_law_j"]) (F:=[("_law_letters",1),("_law_more",0),("_law_by",5)]) ⟨rfl,by walk_at "wu",by walk_at "wu",by walk_at "wu",(.cons rfl rfl rfl (.cons rfl rfl rfl (.cons rfl rfl rfl .nil)))⟩ rfl (xJ rfl B.range (zA (zH xS (pv 2) zE) zD)) (fun _ _ _ _=>yF (i:=0) (by show(xK ["_law_j"] [("_law_letters",1),("_law_more",0),("_law_by",5)]).Nodup;decide+kernel) rfl (nH rfl)) (fun _ _ _ _=>yZ) (fun _ _ _ _=>(yI zBr (pv 1) (zH zU (zH yR (zH zW (pv 2) zE) (zH vR (pv 0) (pv 3))) zE) (fun _ _=>rfl))))
  (zG (zK (zH wS (yI zBr (pv 1) (zH zU (zH zW (pv 0) zE) zE) (fun _ _=>rfl)) (vY PySem.F.plainAttrs_str PySem.F.slot_str_join PySem.F.type_str_join zKn zV (zA (pv 6) zD)))))))))), ?_⟩
 walk_at "st";walk_at "rd3";intro p hp;obtain⟨v,hv,hm⟩:=jH (xs:=[V.int 1,V.int (1+m / 3 % 4),V.int (1+m / 3 % 12)]) (i:=m % 3) (by lia) (by simp only[nF,nY];lia);obtain⟨n,rfl,n1,n12⟩:∃n:Int,v= .int n∧1≤n∧n≤12:=by
  simp only[mG,nO,pN] at hm;rcases hm with rfl | rfl | rfl<;>exact⟨_,rfl,by lia,by lia⟩
 refine yN (SqL.of zB) hv ?_;simp only[ts_a,zBo,zMv];split
 ·have a0:=pO (m / 72) (show n≠0 by lia)
  have a1:=pH (m / 72) (show 0<n by lia);obtain⟨c,hc,hcl⟩:=zOr (i:=m / 864 % 26) (by lia) (by lia);refine⟨n,rfl,by lia,by decide,by lia,by lia,zDa (by decide) (by rw[zIv];exact hc) ⟨_,rfl, ?_,n,rfl,by decide,by lia,by lia, ?_, ?_⟩⟩
  ·rw[vE,vE];simp only[rH,mM];lia
  ·rw[zAb,vE,vE];simp only[mO,rH,mM];lia
  ·have e:tx (List.replicate (m / 72 % n).toNat 97)++tx [c]++tx (List.replicate (n - m / 72 % n - 1).toNat 97)=tx (List.replicate (m / 72 % n).toNat 97++ [c]++List.replicate (n - m / 72 % n - 1).toNat 97):=by rw[zAb,zAb]
   rw[e];refine q _ (zEl ?_ ?_ ?_) _ (zC hp _)
   ·simp only[mO,rH,mM];lia
   ·cases e:(m / 72 % n).toNat with
    | zero=>exact⟨c,_,rfl,hcl⟩
    | succ k=>exact⟨97,_,rfl,zJd⟩
   ·intro d hd
    simp only[nD,List.mem_replicate,nM] at hd;rcases hd with(⟨_,rfl⟩| rfl)|⟨_,rfl⟩
    ·exact uA zJd
    ·exact uA hcl
    ·exact uA zJd
 ·refine⟨n,rfl,by lia,by lia,kI (fun i ys H'=>Same (upd H p (.lst [V.int 1,V.int (1+m / 3 % 4),V.int (1+m / 3 % 12)])) H'∧∃cs:List Nat,ys=(cs.map fun c=>tx [c]).map V.str∧cs.length=i∧∀c∈cs,c∈letL++zGh) (by rw[mQ];lia) ⟨Same.refl _,[],rfl,rfl,fun _ h=>nomatch h⟩ ?_ ?_⟩
  ·rintro i ys H' hi _ ⟨hs,cs,rfl,hl,hcs⟩
   walk_at "rd3";obtain⟨c,hc,hcl⟩:=zUj (i:=(m / 7+(0+(i:Int))*(1+m / 11 % 35))% 36) (by lia) (by lia);refine⟨.inl (by lia),zDa (by decide) (by rw[zIv];exact hc) ⟨hs,cs++ [c],by simp,by simp[hl], ?_⟩⟩;intro d hd;rcases nD.mp hd with z | z
   ·exact hcs d z
   ·rw[nM.mp z];exact hcl
  ·rintro ys H' hl ⟨hs,cs,rfl,hlen,hcs⟩ p' hp'
   obtain⟨c,hc,hcl⟩:=zOr (i:=m / 72 % 26) (by lia) (by lia);have hfl:((cs.map fun c=>tx [c]).map ts).flatten=cs:=by
    clear hlen hl hcs
    induction cs with
    | nil=>rfl
    | cons d r ih=>simp only[mN,tO,ih,vV];rfl
   refine zDa (by decide) (by rw[zIv];exact hc) ⟨rfl,p',cs.map fun c=>tx [c],rfl,rfl,SqL.of zB,by rw[hfl];lia,_,rfl,_,rfl, ?_, ?_⟩
   ·rw[hfl,vE,vE,mM];lia
   ·rw[hfl,zAb]
    refine q _ (zEl ?_ ⟨c,cs,rfl,hcl⟩ ?_) _ ((zC hp _).trans (hs.trans (zC hp' _)))
    ·show(c::cs).length≤12
     rw[nF];lia
    ·intro d hd
     rcases mG.mp hd with z | z
     ·rw[z];exact uA hcl
     ·exact hcs d z
abbrev zAi:Stmt:=top 15
abbrev zEf:Stmt:=top 16
def zFj:Sp:=fun vs H Q _=>vs= []∧Q (.str (tx zHd)) H
theorem scSigns:yE ["_law_some"] [] (zJ zAi):=by walk_at "sc"
theorem zOt(F:Fun K "_law_signs" "_law_signs" zAi f fd):FnOk P w K mg base CX0 1 f fd [] zFj:=by
 refine F.ok scSigns (by walk_at "ln") fun c A o s H vs Q E hr h=>?_;obtain⟨rfl,q⟩:=h;have nd:=scSigns.nd;refine⟨_,(zF (pS 0 nd zV)
  (zG (zK (zH wS (pv 0) zV)))), ?_⟩
 walk_at "st";walk_at "rd3";refine⟨by decide, ?_⟩;rw[zTj];exact q
def zBw:Sp:=fun vs H Q _=>∃(m:Int),vs= [.int m]∧0≤m∧m<2000000∧∀(x:List Nat),zAm x=true→∀H',Same H H'→Q (.str (tx x)) H'
theorem scText:yE ["_law_more","_law_signs_here","_law_size_here","_law_half","_law_sign","_law_by"] ["_law_more"] (zJ zEf):=by walk_at "sc"
theorem zQs(F:Fun K "_law_text_by" "_law_text_by" zEf f fd)(B:Bl mg)(G_law_signs:Dn P w K mg base 1 "_law_signs" [] zFj):FnOk P w K mg base CX0 2 f fd ["_law_more"] zBw:=by
 refine F.ok scText (by walk_at "ln") fun c A o s H vs Q E hr h=>?_;obtain⟨m,rfl,h0,h1,q⟩:=h;have nd:=scText.nd;refine⟨_,(zF (uZ (i:=1) nd rfl (aM rfl) (zTu G_law_signs hr (by lia) rfl))
  (zF (pS 2 nd (yI yA (zX (zA (zH zU (zH zW (pv 0) zE) zE) (zA (zH zU (zH zW (pv 0) zE) zE) (zA (zH zU (zH zW (pv 0) zE) zE) zD)))) (zH zU (pv 0) zE) (fun _ _=>rfl)))
  (zF (zS (zP yX (zH zU (zH zW (pv 0) zE) zE) zE (zN _)) (zF (pS 3 nd (zH zW (pv 2) zE))
  (zF (pS 4 nd (yI zBr (pv 1) (zH zU (zH zW (pv 0) zE) zE) (fun _ _=>rfl)))
  (zG (zK (zH wS (zH jN zV (pv 3)) (zH jN (pv 4) (zH xS (pv 2) (pv 3)))))))) zL)
  (zF (uZ (i:=5) nd rfl (aM rfl) (zH yR zE (zH zU (zH zW (pv 0) zE) zE)))
  (zG (zK (vY PySem.F.plainAttrs_str PySem.F.slot_str_join PySem.F.type_str_join zKn zV (zA (xF (own:=["_law_j"]) (F:=[("_law_signs_here",1),("_law_more",0),("_law_by",5)]) ⟨rfl,by walk_at "wu",by walk_at "wu",by walk_at "wu",(.cons rfl rfl rfl (.cons rfl rfl rfl (.cons rfl rfl rfl .nil)))⟩ rfl (xJ rfl B.range (zA (pv 2) zD)) (fun _ _ _ _=>yF (i:=0) (by show(xK ["_law_j"] [("_law_signs_here",1),("_law_more",0),("_law_by",5)]).Nodup;decide+kernel) rfl (nH rfl)) (fun _ _ _ _=>yZ) (fun _ _ _ _=>(yI zBr (pv 1) (zH zU (zH yR (zH zW (pv 2) zE) (zH vR (pv 0) (pv 3))) zE) (fun _ _=>rfl)))) zD)))))))), ?_⟩
 walk_at "st";walk_at "rd3";refine⟨rfl,fun p hp=>?_⟩;obtain⟨v,hv,hm⟩:=jH (xs:=[V.int (m / 5 % 4),V.int (m / 5 % 9),V.int (m / 5 % 31)]) (i:=m % 3) (by lia) (by simp only[nF,nY];lia);obtain⟨n,rfl,n0,n30⟩:∃n:Int,v= .int n∧0≤n∧n≤30:=by
  simp only[mG,nO,pN] at hm;rcases hm with rfl | rfl | rfl<;>exact⟨_,rfl,by lia,by lia⟩
 refine yN (SqL.of zB) hv ?_;simp only[ts_q,zBo,zMv];split
 ·obtain⟨c,hc,hcl⟩:=zMl (i:=m / 465 % 94) (by lia) (by lia)
  refine⟨n,rfl,zDa (by decide) hc ⟨by decide,by lia,by lia,n,rfl,_,rfl,(show(1:Nat)≤1000 by decide),by lia,by lia, ?_, ?_⟩⟩
  ·rw[vV,zBo,vE,vE];simp only[rH];lia
  ·rw[vV,zBo,zAb]
   refine q _ (zEh ?_ ?_) _ (zC hp _)
   ·simp only[mO,rH];lia
   ·intro d hd
    simp only[nD,List.mem_replicate] at hd;rcases hd with⟨_,rfl⟩|⟨_,rfl⟩
    ·exact zUn
    ·exact hcl
 ·refine⟨rfl,n,rfl,by lia,by lia,kI (fun i ys H'=>Same (upd H p (.lst [V.int (m / 5 % 4),V.int (m / 5 % 9),V.int (m / 5 % 31)])) H'∧∃cs:List Nat,ys=(cs.map fun c=>tx [c]).map V.str∧cs.length=i∧∀c∈cs,c∈zHd) (by rw[mQ];lia) ⟨Same.refl _,[],rfl,rfl,fun _ h=>nomatch h⟩ ?_ ?_⟩
  ·rintro i ys H' hi _ ⟨hs,cs,rfl,hl,hcs⟩
   walk_at "rd3";obtain⟨c,hc,hcl⟩:=zMl (i:=(m / 7+(0+(i:Int))*(1+m / 13 % 93))% 94) (by lia) (by lia);refine⟨.inl (by lia),zDa (by decide) hc ⟨hs,cs++ [c],by simp,by simp[hl], ?_⟩⟩;intro d hd;rcases nD.mp hd with z | z
   ·exact hcs d z
   ·rw[nM.mp z];exact hcl
  ·rintro ys H' hl ⟨hs,cs,rfl,hlen,hcs⟩ p' hp'
   refine⟨p',cs.map fun c=>tx [c],rfl,rfl,SqL.of zB,by rw[zGj];lia, ?_⟩;rw[zGj];exact q _ (zEh (by lia) hcs) _ ((zC hp _).trans (hs.trans (zC hp' _)))
abbrev kF:Stmt:=top 18
def kQ(K:W.Frag)(d:Nat):Sp:=fun vs H Q _=>∃(a:Addr)(ns:List Int)(k:Int),vs= [.ref a, .int k, .int d]∧SqL K H a (ns.map V.int)∧ns.length≤63∧0≤k∧(k+2)*5 ^ d≤1000000∧
 ∀v H' t,Same H H'→Rep H' v t→Nice d t→Q v H'
theorem scThing:yE ["_law_script","_law_k","_law_deep","_law_more","_law_kind_here","_law_some","_law_result","_law_j"] ["_law_script","_law_k","_law_deep"] (zJ kF):=by walk_at "sc"
def DInv(Hl:Hp)(p2:Addr)(ts:List T)(i:Nat)(H2:Hp):Prop:=∃(ps:List (Key×V))(ks:List (List Nat))(us:List T),H2 p2=some (.dK ps)∧ps.map (·.1)=ks.map nK∧Reps Hl (ps.map (·.2)) us∧ks.Nodup∧(∀n∈ks,zCi n=true)∧(∀u∈us,u∈ts)∧ks.length≤i
theorem zSs(e:Nat):(1:Int)≤5 ^ e:=by
 induction e with
 | zero=>decide
 | succ n ih=>rw[Int.pow_succ];lia
theorem zLt(F:Fun K "_law_thing_by" "_law_thing_by" kF f fd)(B:Bl mg)(G_law_cell:Dn P w K mg base 1 "_law_cell" ["_law_script","_law_k"] (vD K))(G_law_number_by:Dn P w K mg base 1 "_law_number_by" ["_law_more"] zHn)
  (G_law_text_by:Dn P w K mg base 2 "_law_text_by" ["_law_more"] zBw):FnOk P w K mg base CX0 3 f fd ["_law_script","_law_k","_law_deep"] (kQ K 0):=by
 refine F.ok scThing (by walk_at "ln") fun c A o s H vs Q E hr h=>?_;obtain⟨a,ns,k,rfl,hS,h63,h0,h1,q⟩:=h;have nd:=scThing.nd;refine⟨_,(zF (pS 3 nd (zT G_law_cell hr (by lia) rfl (zA (pv 0) (zA (pv 1) zD))))
  (zF (pS 4 nd (zH zU (pv 3) (yI yA (zX (zA zE (zA zE zD))) (yM xC rfl B.int wA (zA (yV qU (pv 2) zE (zN _)) zD)) (fun _ _=>rfl))))
  (zF (zS (zP yX (pv 4) zE (zN _)) (zG (zK (yI yA (zX (zA qI (zA wV (zA wV zD)))) (zH zU (zH zW (pv 3) zE) zE) (fun _ _=>rfl)))) zL)
  (zF (zS (zP vX (pv 4) zE (zN _)) (zG (zK (zT G_law_number_by hr (by lia) rfl (zA (zH zW (pv 3) zE) zD)))) zL)
  (zF (zS (zP vX (pv 4) zE (zN _)) (zG (zK (zT G_law_text_by hr (by lia) rfl (zA (zH zW (pv 3) zE) zD)))) zL)
  gE))))), ?_⟩
 walk_at "st";walk_at "rd3";refine zCu hS h63 h0 (by lia) fun H1 g1 p hp=>yN (SqL.of zB) (v:=.int 5) rfl ⟨_,rfl,5,rfl,by decide, ?_⟩;have c0:=wG ns k;have c1:=wO ns k;have gp:=g1.trans (zC hp (.lst [V.int 5,V.int 9]));split
 ·intro p2 hp2
  refine⟨_,rfl, ?_⟩;obtain⟨v,hv,hm⟩:=jH (xs:=[V.non,V.bl true,V.bl false]) (i:=wX ns k / 9 % 3) (by lia) (by simp only[nF,nY];lia);refine yN (SqL.of zB) hv ?_;simp only[mG,nO,pN] at hm;rcases hm with rfl | rfl | rfl
  ·exact q _ _ .non (gp.trans (zC hp2 _)) rfl trivial
  ·exact q _ _ (.bl true) (gp.trans (zC hp2 _)) rfl trivial
  ·exact q _ _ (.bl false) (gp.trans (zC hp2 _)) rfl trivial
 ·split
  ·exact⟨_,rfl,_,rfl,by lia,by lia,fun i i0 i1 H2 g2=>q _ _ (.int i) (gp.trans g2) rfl ⟨i0,i1⟩⟩
  ·rw[mW (by lia)]
   exact⟨_,rfl,_,rfl,by lia,by lia,fun x hx H2 g2=>q _ _ (.str x) (gp.trans g2) rfl hx⟩
theorem zMe{e:Nat}(F:Fun K "_law_thing_by" "_law_thing_by" kF f fd)(B:Bl mg)(G_law_cell:Dn P w K mg base 1 "_law_cell" ["_law_script","_law_k"] (vD K))(G_law_number_by:Dn P w K mg base 1 "_law_number_by" ["_law_more"] zHn)
  (G_law_text_by:Dn P w K mg base 2 "_law_text_by" ["_law_more"] zBw) (G_law_name_by:Dn P w K mg base 1 "_law_name_by" ["_law_more"] jX)
  (G_law_thing_by:Dn P w K mg base (3+e) "_law_thing_by" ["_law_script","_law_k","_law_deep"] (kQ K e)):FnOk P w K mg base CX0 (3+e+1) f fd ["_law_script","_law_k","_law_deep"] (kQ K (e+1)):=by
 refine F.ok scThing (by walk_at "ln") fun c A o s H vs Q E hr h=>?_;obtain⟨a,ns,k,rfl,hS,h63,h0,h1,q⟩:=h;have nd:=scThing.nd;have hu:=wC hr;refine⟨_,(zF (pS 3 nd (zT G_law_cell hr (by lia) rfl (zA (pv 0) (zA (pv 1) zD))))
  (zF (pS 4 nd (zH zU (pv 3) (yI yA (zX (zA zE (zA zE zD))) (yM xC rfl B.int wA (zA (yV qU (pv 2) zE (zN _)) zD)) (fun _ _=>rfl))))
  (zF (zS (zP yX (pv 4) zE (zN _)) (zG (zK (yI yA (zX (zA qI (zA wV (zA wV zD)))) (zH zU (zH zW (pv 3) zE) zE) (fun _ _=>rfl)))) zL)
  (zF (zS (zP vX (pv 4) zE (zN _)) (zG (zK (zT G_law_number_by hr (by lia) rfl (zA (zH zW (pv 3) zE) zD)))) zL)
  (zF (zS (zP vX (pv 4) zE (zN _)) (zG (zK (zT G_law_text_by hr (by lia) rfl (zA (zH zW (pv 3) zE) zD)))) zL)
  (zF (jK (i:=5) nd rfl (nH rfl) (own:=["_law_j"]) (F:=[("_law_script",0),("_law_k",1),("_law_deep",2)]) ⟨rfl,by walk_at "wu",by walk_at "wu",by walk_at "wu",(.cons rfl rfl rfl (.cons rfl rfl rfl (.cons rfl rfl rfl .nil)))⟩ rfl (xJ rfl B.range (zA (zH zU (zH zW (pv 3) zE) zE) zD)) (fun _ _ _ _=>yF (i:=0) (by show(xK ["_law_j"] [("_law_script",0),("_law_k",1),("_law_deep",2)]).Nodup;decide+kernel) rfl (nH rfl)) (fun _ _ _ _=>yZ) (fun _ _ _ _=>(zT G_law_thing_by hr (by lia) rfl (zA (pv 1) (zA (zH yR (zH yR (zH vR (pv 2) zE) zE) (pv 0)) (zA (zH xS (pv 3) zE) zD))))))
  (zF (zS (zP vX (pv 4) zE (zN _)) (zG (zK (pv 5))) zL)
  (zF (pS 6 nd vM)
  (zF (wT PassesOwn.never rfl (xJ rfl B.range (zA (zM yD rfl B.len yO (zA (pv 5) zD)) zD)) (yF (i:=7) nd rfl (nH rfl)) (zG (kU hu (pv 6) (zT G_law_name_by hr (by lia) rfl (zA (zH yR (zH zW (zT G_law_cell hr (by lia) rfl (zA (pv 0) (zA (zH yR (zH yR (zH vR (pv 1) zE) zE) (pv 7)) zD))) zE) (pv 7)) zD)) (yI yA (pv 5) (pv 7) (fun _ _=>rfl)) rfl)))
  (zG (zK (pv 6)))))))))))), ?_⟩
 walk_at "st";walk_at "rd3";have hpow:(1:Int)≤5 ^ e:=zSs e;have hpow2:(5:Int)^ (e+1)=5 ^ e*5:=Int.pow_succ ..;have h2:(k+2)*5*5 ^ e≤1000000:=by rw[Int.mul_assoc,Int.mul_comm 5 (5 ^ e),←hpow2];exact h1
 have h3:(k+2)*5≤1000000:=by
  have:(k+2)*5*1≤(k+2)*5*5 ^ e:=Int.mul_le_mul_of_nonneg_left hpow (by lia)
  lia
 refine zCu hS h63 h0 (by lia) fun H1 g1 p hp=>yN (SqL.of zB) (v:=.int 9) ?_ ⟨_,rfl,9,rfl,by decide, ?_⟩
 ·rw[mW (by lia)];rfl
 have c0:=wG ns k;have c1:=wO ns k;have gp:=g1.trans (zC hp (.lst [V.int 5,V.int 9]));split
 ·intro p2 hp2
  refine⟨_,rfl, ?_⟩;obtain⟨v,hv,hm⟩:=jH (xs:=[V.non,V.bl true,V.bl false]) (i:=wX ns k / 9 % 3) (by lia) (by simp only[nF,nY];lia);refine yN (SqL.of zB) hv ?_;simp only[mG,nO,pN] at hm;rcases hm with rfl | rfl | rfl
  ·exact q _ _ .non (gp.trans (zC hp2 _)) rfl trivial
  ·exact q _ _ (.bl true) (gp.trans (zC hp2 _)) rfl trivial
  ·exact q _ _ (.bl false) (gp.trans (zC hp2 _)) rfl trivial
 ·split
  ·exact⟨_,rfl,_,rfl,by lia,by lia,fun i i0 i1 H2 g2=>q _ _ (.int i) (gp.trans g2) rfl ⟨i0,i1⟩⟩
  ·split
   ·exact⟨_,rfl,_,rfl,by lia,by lia,fun x hx H2 g2=>q _ _ (.str x) (gp.trans g2) rfl hx⟩
   ·refine⟨_,rfl,by lia,by lia,kI (fun i ys H'=>Same (upd H1 p (.lst [V.int 5,V.int 9])) H'∧∃ts,Reps H' ys ts∧ts.length=i∧NiceL e ts) (by rw[mQ];lia) ⟨Same.refl _,[],rfl,rfl,trivial⟩ ?_ ?_⟩
    ·rintro i ys H' hi _ ⟨hs,ts,hR,hl,hN⟩
     walk_at "rd3";refine⟨a,ns,k*5+1+(0+(i:Int)), ?_,hs.seq (gp.seq hS),h63,by lia, ?_,fun v H2 t g2 hv hn=>⟨hs.trans g2,ts++ [t],Reps.snoc hv (Reps.same g2 _ _ hR),by simp[hl],NiceL.snoc hn hN⟩⟩
     ·rw[show((e+1:Nat):Int)- 1=(e:Int) by lia]
     ·have:(k*5+1+(0+(i:Int))+2)*5 ^ e≤(k+2)*5*5 ^ e:=Int.mul_le_mul_of_nonneg_right (by lia) (by lia)
      lia
    ·rintro ys H' hl ⟨hs,ts,hR,hlen,hN⟩ p' hp'
     have gl:=gp.trans (hs.trans (zC hp' (.lst ys)));have hR':Reps (upd H' p' (.lst ys)) ys ts:=Reps.same (zC hp' _) _ _ hR
     by_cases h7:wX ns k % 9<7
     ·rw[mW h7]
      exact q _ _ (.lst ts) gl ⟨p',ys,rfl,zB,hR'⟩ ⟨by lia,by lia,hN⟩
     rw[mJ h7];intro p2 hp2;have gd:=zC hp2 (.dK []);have hys:=hR.length;have hSl:SqL K (upd (upd H' p' (.lst ys)) p2 (.dK [])) p' ys:=SqL.of (gd _ _ zB);refine⟨p',rfl,ys,hSl,by lia,by lia, ?_⟩;rw[Int.toNat_natCast];refine wN (fun i σ H2=>(∃o,σ= [some (V.ref a),some (V.int k),some (V.int ((e+1:Nat):Int)),some (V.int (wX ns k)),some (V.int (wX ns k % 9)),some (V.ref p'),some (V.ref p2),o])∧Same (upd H' p' (.lst ys)) H2∧DInv (upd H' p' (.lst ys)) p2 ts i H2) ⟨⟨_,rfl⟩,gd,[],[],[],zB,rfl,rfl,sE,fun _ h=>(nomatch h),fun _ h=>(nomatch h),mE _⟩ ?_ ?_
     ·rintro i σ H2 hi ⟨⟨o,rfl⟩,g2,ps,ks,us,hd,hk,hU,hnd,hok,hsub,hlk⟩
      walk_at "rd3";obtain⟨v,hv⟩:∃v,ys[i]? =some v:=⟨ys[i],by simp[hi]⟩;obtain⟨t,ht,hvt⟩:=hR'.get hv;refine yN (SqL.of (g2 _ _ zB)) (by rw[bC];exact yJ hv) (zCu (g2.seq (gl.seq hS)) h63 (by lia) (by lia) fun H3 g3=>?_);have c0':=wG ns (k*5+1+(0+(i:Int)));have c1':=wO ns (k*5+1+(0+(i:Int)));refine⟨_,rfl,_,rfl,by lia,by lia,fun x hx H4 g4=>⟨_,DPut.k (k:=nK x) (g4 _ _ (g3 _ _ hd)) ?_,⟨_,rfl⟩, ?_, ?_⟩⟩
      ·have:=congrArg List.length hk
       simp only[mB] at this;rw[mQ];lia
      ·intro b o' hb
       have hne:b≠p2:=fun z=>by rw[z,hp2] at hb;cases hb
       rw[zR hne];exact g4 _ _ (g3 _ _ (g2 _ _ hb))
      ·obtain⟨ks',us',e1,e2,e3,e4,e5,e6⟩:=zQb (n:=x) hk hU hnd hvt
       refine⟨_,ks',us',zB,e1,e2,e3,fun n hn=>?_,fun u hu=>?_,by lia⟩
       ·rcases e4 n hn with z | z
        ·exact hok n z
        ·rw[z];exact hx
       ·rcases e5 u hu with z | z
        ·exact hsub u z
        ·rw[z];exact mF ht
     ·rintro σ H2 ⟨⟨o,rfl⟩,g2,ps,ks,us,hd,hk,hU,hnd,hok,hsub,hlk⟩
      walk_at "rd3";have l1:=congrArg List.length hk;simp only[mB] at l1;have l2:=hU.length;simp only[mB] at l2;refine q _ _ (.dic ks us) (gl.trans g2) ⟨p2,ps,rfl,hd,hk,Reps.same g2 _ _ hU⟩ ⟨by lia,by lia,by lia,hnd,hok,NiceL_iff.mpr fun u hu=>NiceL_iff.mp hN u (hsub u hu)⟩
abbrev zBa:Stmt:=top 28
def gQ(e:Nat):Sp:=fun vs H Q _=>∃(v:V)(t:T),vs= [v]∧Rep H v t∧T.pure t∧T.dep t≤e∧T.sz t≤100000∧∀v' H',Same H H'→Rep H' v' t→Q v' H'
theorem scHeld:yE ["_law_thing"] ["_law_thing"] (zJ zBa):=by walk_at "sc"
theorem zOj{e:Nat}(F:Fun K "_law_held" "_law_held" zBa f fd)(B:Bl mg)(G_law_held:Dn P w K mg base (1+e) "_law_held" ["_law_thing"] (gQ e)):FnOk P w K mg base CX0 (1+e+1) f fd ["_law_thing"] (gQ (e+1)):=by
 refine F.ok scHeld (by walk_at "ln") fun c A o s H vs Q E hr h=>?_;obtain⟨v,t,rfl,hv,hp,hd,hz,q⟩:=h;have nd:=scHeld.nd;have hu:=wC hr;refine⟨_,(zF (zS (zY (pI B.isinstance zI B.list xB (pv 0))) (zG (zK (xF (own:=["_law_one"]) (F:=[]) ⟨rfl,by walk_at "wu",by walk_at "wu",by walk_at "wu", .nil⟩ rfl (xM (pv 0)) (fun _ _ _ _=>yF (i:=0) (by show(xK ["_law_one"] []).Nodup;decide+kernel) rfl (nH rfl)) (fun _ _ _ _=>yZ) (fun _ _ _ _=>(zT G_law_held hr (by lia) rfl (zA (pv 0) zD)))))) zL)
  (zF (zS (zY (pI B.isinstance zI B.dict yP (pv 0))) (zG (zK (yM (qM rfl) rfl B.dict yP (zA (uI (xF (own:=["_law_name"]) (F:=[("_law_thing",0)]) ⟨rfl,by walk_at "wu",by walk_at "wu",by walk_at "wu",(.cons rfl rfl rfl .nil)⟩ rfl (zBj (pv 0)) (fun _ _ _ _=>yF (i:=0) (by show(xK ["_law_name"] [("_law_thing",0)]).Nodup;decide+kernel) rfl (nH rfl)) (fun _ _ _ _=>yZ) (fun _ _ _ _=>(wM (zA (pv 0) (zA (zT G_law_held hr (by lia) rfl (zA (xL hu (pv 1) (pv 0) (fun _ _=>rfl)) zD)) zD)))))) zD)))) zL)
  (zG (zK (pv 0))))), ?_⟩
 walk_at "st";walk_at "rd3"
 cases t with
 | lst us=>
  obtain⟨a,xs,rfl,ha,hs⟩:=hv;have hl0:=T.szs_len us;have hz':T.szs us+1≤100000:=hz;have hd':T.deps us+1≤e+1:=hd;refine⟨"list",kY ha, ?_⟩;rw[mW (by decide)];refine⟨a,rfl,⟨xs,SqL.of ha⟩,xI (K:=K) (xs:=xs) (fun i ys H'=>Same H H'∧Reps H' ys (us.take i)) ?_ ⟨Same.refl _,rfl⟩ (fun i ys H' _ h=>SqL.of (h.1 _ _ ha)) ?_ ?_⟩
  ·have:=hs.length
   rw[mQ];lia
  ·rintro i u ys H' hu' _ ⟨g,hR⟩
   obtain⟨t',ht',hr'⟩:=hs.get hu';have hm:=mF ht';have d1:=T.deps_le hm;have d2:=T.szs_le hm;walk_at "rd3";refine⟨u,t',rfl,Rep.same g u t' hr',T.pures_mem hp hm,by lia,by lia,fun v' H4 g4 hv'=>⟨g.trans g4, ?_⟩⟩;rw[yG ht'];exact Reps.snoc hv' (Reps.same g4 _ _ hR)
  ·rintro ys H' _ ⟨g,hR⟩ p hp'
   rw[hs.length,nT] at hR;exact q (.ref p) _ (g.trans (zC hp' _)) ⟨p,ys,rfl,zB,Reps.same (zC hp' _) _ _ hR⟩
 | dic ks us=>
  obtain⟨d,ps,rfl,hdd,hk,hs⟩:=hv;obtain⟨nk,hp⟩:=hp;have hl0:=T.szs_len us;have hz':T.szs us+1≤100000:=hz;have hd':T.deps us+1≤e+1:=hd;have hpl:ps.length=us.length:=by have:=hs.length;rwa [mB] at this
  have nkp:(ps.map (·.1)).Nodup:=by rw[hk];exact vA nk
  refine⟨"dict",qP hdd, ?_⟩;rw[mJ (by decide)];refine⟨"dict",qP hdd, ?_⟩;rw[mW (by decide)];refine⟨d,rfl,ps, .inl ⟨hdd,fun o=>?_⟩⟩;have hsf:Reps (upd H d (.frz o (.dK ps))) (ps.map (·.2)) us:=Reps.dic_away hdd hk hs;refine kX (fun i ys H'=>Same (upd H d (.frz o (.dK ps))) H'∧∃kvs:List (Key×V),kvs.length=ys.length∧kvs.map (·.1)=(ps.take i).map (·.1)∧Reps H' (kvs.map (·.2)) (us.take i)∧∀(j:Nat) kv,kvs[j]? =some kv→∃a,ys[j]? =some (.ref a)∧H' a=some (.tup [kV kv.1,kv.2])) ?_ ⟨Same.refl _,[],rfl,rfl,rfl,by intro j kv h;simp at h⟩ (fun i ys H' h=>h.1 _ _ zB) ?_ ?_
  ·rw[mQ];lia
  ·rintro i kv ys H' hkv _ ⟨g,kvs,l1,l2,hR,ht⟩
   walk_at "rd3";obtain⟨t',ht',hr'⟩:=hsf.get (i:=i) (v:=kv.2) (by rw[mU,hkv];rfl);have hm:=mF ht';have d1:=T.deps_le hm;have d2:=T.szs_le hm;refine⟨kv.2, .inl ⟨ps,kv.1, .inr ⟨o,g _ _ zB⟩,rfl,(jD nkp hkv).symm⟩,kv.2,t',rfl,Rep.same g _ t' hr',T.pures_mem hp hm,by lia,by lia,fun v' H1 g1 hv' p hp1=>⟨(g.trans g1).trans (zC hp1 _),kvs++ [(kv.1,v')],by simp[l1], ?_, ?_, ?_⟩⟩
   ·rw[yG hkv,mP,mP,l2];rfl
   ·rw[yG ht',mP]
    exact Reps.snoc (Rep.same (zC hp1 _) _ _ hv') (Reps.same (g1.trans (zC hp1 _)) _ _ hR)
   ·intro j kv1 hj
    by_cases hlt:j<kvs.length
    ·rw[nX hlt] at hj
     obtain⟨a,e1,e2⟩:=ht j kv1 hj;exact⟨a,by rw[nX (by lia)];exact e1,zC hp1 _ _ _ (g1 _ _ e2)⟩
    ·rw[nR (by lia)] at hj
     have hj0:j - kvs.length=0:=by
      have:=(nB.mp hj).1
      simpa using this
     rw[hj0] at hj;simp only[nW,Option.some.injEq] at hj;subst hj;exact⟨p,by rw[nR (by lia),←l1,hj0];rfl,zB⟩
  ·rintro ys H' _ ⟨g,kvs,l1,l2,hR,ht⟩ p hp'
   rw[hpl,nT] at hR;rw[nT] at l2;have gs:Same H (thaw H (upd H' p (.lst ys))):=qC (o:=o) hdd (g.trans (zC hp' _));refine⟨p,rfl,ys,xE zB (by intro o v z;cases z),kvs,l1,fun j kv hj=>?_,fun l hl=>?_⟩
   ·obtain⟨a,e1,e2⟩:=ht j kv hj
    exact⟨a,e1,xE (zC hp' _ _ _ e2) (by intro o v z;cases z)⟩
   ·have em:wK [] kvs=kvs:=wI kvs [] (by rw[rY,l2];exact nkp)
    rw[em];refine q (.ref l) _ (gs.trans (zC hl _)) ⟨l,kvs,rfl,zB,l2.trans hk, ?_⟩;exact Reps.same (zC hl _) _ _ (Reps.thaw (Reps.same (zC hp' _) _ _ hR))
 | tup us=>exact hp.elim
 | non=>exact⟨_,hv.ty,by rw[mJ (by simp[tyT,zO])];exact⟨_,hv.ty,by rw[mJ (by simp[tyT,zO])];exact q _ _ (Same.refl _) hv⟩⟩
 | bl b=>exact⟨_,hv.ty,by rw[mJ (by simp[tyT,zO])];exact⟨_,hv.ty,by rw[mJ (by simp[tyT,zO])];exact q _ _ (Same.refl _) hv⟩⟩
 | int b=>exact⟨_,hv.ty,by rw[mJ (by simp[tyT,zO])];exact⟨_,hv.ty,by rw[mJ (by simp[tyT,zO])];exact q _ _ (Same.refl _) hv⟩⟩
 | str b=>exact⟨_,hv.ty,by rw[mJ (by simp[tyT,zO])];exact⟨_,hv.ty,by rw[mJ (by simp[tyT,zO])];exact q _ _ (Same.refl _) hv⟩⟩
theorem zNl(F:Fun K "_law_held" "_law_held" zBa f fd)(B:Bl mg):FnOk P w K mg base CX0 1 f fd ["_law_thing"] (gQ 0):=by
 refine F.ok scHeld (by walk_at "ln") fun c A o s H vs Q E hr h=>?_;obtain⟨v,t,rfl,hv,hp,hd,hz,q⟩:=h;have nd:=scHeld.nd;refine⟨_,(zF (zS (zY (pI B.isinstance zI B.list xB (pv 0))) gE zL)
  (zF (zS (zY (pI B.isinstance zI B.dict yP (pv 0))) gE zL)
  (zG (zK (pv 0))))), ?_⟩
 walk_at "st";walk_at "rd3";refine⟨_,hv.ty, ?_⟩;rcases zIe t hp with⟨hc,h0,_⟩|⟨us,ht,hps,hdt,hst,hc⟩
 ·rw[Bool.or_eq_false_iff] at hc
  rw[mJ (by rw[hc.1];decide)];refine⟨_,hv.ty, ?_⟩;rw[mJ (by rw[hc.2];decide)];exact q _ _ (Same.refl _) hv
 ·lia
theorem zEk(F:Fun K "_law_thing_by" "_law_thing_by" kF f fd)(B:Bl mg)(Gc:Dn P w K mg base 1 "_law_cell" ["_law_script","_law_k"] (vD K))(Gn:Dn P w K mg base 1 "_law_number_by" ["_law_more"] zHn)
  (Gt:Dn P w K mg base 2 "_law_text_by" ["_law_more"] zBw) (Gm:Dn P w K mg base 1 "_law_name_by" ["_law_more"] jX) (b:Binds K fd ["_law_script","_law_k","_law_deep"] []) (kp:W.keepIn K (.ref f)=true) (m:mg "_law_thing_by" =some (.ref f)):
  ∀d:Nat,FnOk P w K mg base CX0 (3+d) f fd ["_law_script","_law_k","_law_deep"] (kQ K d)
 | 0=>zLt F B Gc Gn Gt
 | d+1=>zMe F B Gc Gn Gt Gm ⟨_,_,zEk F B Gc Gn Gt Gm b kp m d,b,kp,m⟩
def jL(K:W.Frag)(n:Nat):Sp:=fun vs H Q E=>∃d,d≤n∧kQ K d vs H Q E
theorem zLn{n:Nat}(h:∀d:Nat,FnOk P w K mg base CX0 (3+d) f fd ["_law_script","_law_k","_law_deep"] (kQ K d)):FnOk P w K mg base CX0 (3+n) f fd ["_law_script","_law_k","_law_deep"] (jL K n):=
 ⟨fun vs H Q E ⟨d,_,q⟩=>(h d).len vs H Q E q,fun A outer s H args us vs Q E hr he hb hv ⟨d,hd,hs⟩=>(h d).run A outer s H args us vs Q E (hr.mono (by lia)) he hb hv hs⟩
theorem zGq(F:Fun K "_law_held" "_law_held" zBa f fd)(B:Bl mg)(b:Binds K fd ["_law_thing"] [])(kp:W.keepIn K (.ref f)=true)(m:mg "_law_held" =some (.ref f)):∀e:Nat,FnOk P w K mg base CX0 (1+e) f fd ["_law_thing"] (gQ e)
 | 0=>zNl F B
 | e+1=>zOj F B ⟨_,_,zGq F B b kp m e,b,kp,m⟩
abbrev zEb:Stmt:=top 19
abbrev gJ:Stmt:=top 1
def qR(t:String):V:=if t= "NoneType" then .str "nothing" else if t= "bool" then .str "truth" else if t= "int" then .str "number" else if t= "str" then .str "text" else if t= "list" then .str "row" else if t= "dict" then .str "record" else .non
def zAo:Sp:=fun vs H Q _=>∃(v:V)(t:String),vs= [v]∧tyS H v=some t∧∀H',Same H H'→Q (qR t) H'
theorem qK{H:Hp}{v:V}(h:tyS H v=some "NoneType"):v= .non:=by
 cases v with
 | non=>rfl
 | ref a=>
  have h':(match H a with | some (.lst _)=>some "list" | some (.tup _)=>some "tuple" | some (.dK _)=>some "dict" | _=>none)=some "NoneType":=h
  split at h'<;>first | exact absurd (mX h') (by decide)| cases h'
 | bl b=>exact absurd (mX h) (by decide)
 | int b=>exact absurd (mX h) (by decide)
 | str b=>exact absurd (mX h) (by decide)
 | byt b=>cases h
 | flt b=>cases h
 | ty b=>cases h
theorem zOu{H:Hp}{v:V}{t:String}{Q:VK}(ht:tyS H v=some t)(q:Q (qR t) H):
  if v=V.non then Q (V.str (Str.ofString "nothing")) H else∃x,tyS H v=some x∧if zO x "bool" =true then Q (V.str (Str.ofString "truth")) H else
   ∃x,tyS H v=some x∧if zO x "int" =true then Q (V.str (Str.ofString "number")) H else∃x,tyS H v=some x∧if zO x "str" =true then Q (V.str (Str.ofString "text")) H else
   ∃x,tyS H v=some x∧if zO x "list" =true then Q (V.str (Str.ofString "row")) H else∃x,tyS H v=some x∧if zO x "dict" =true then Q (V.str (Str.ofString "record")) H else Q V.non H:=by
 have hm:=wQ ht;simp only[ht,Option.some.injEq,bM]
 by_cases hv:v= .non
 ·subst hv;cases ht;rw[mW rfl];exact q
 ·rw[mJ hv]
  simp only[tyL,mG,nO,pN] at hm;rcases hm with rfl | rfl | rfl | rfl | rfl | rfl | rfl
  ·exact absurd (qK ht) hv
  all_goals (simpa [zO,qR] using q)
theorem scKind:yE ["_law_thing"] ["_law_thing"] (zJ zEb):=by walk_at "sc"
theorem zPp(F:Fun K "_law_kind" "_law_kind" zEb f fd)(B:Bl mg):FnOk P w K mg base CX0 1 f fd ["_law_thing"] zAo:=by
 refine F.ok scKind (by walk_at "ln") fun c A o s H vs Q E hr h=>?_;obtain⟨v,t,rfl,ht,q⟩:=h;have nd:=scKind.nd;refine⟨_,(zF (zS (jC (zFx (pv 0))) (zG (zK zV)) zL)
  (zF (zS (zY (pI B.isinstance zI B.bool zFy (pv 0))) (zG (zK zV)) zL)
  (zF (zS (zY (pI B.isinstance zI B.int wA (pv 0))) (zG (zK zV)) zL)
  (zF (zS (zY (pI B.isinstance zI B.str qN (pv 0))) (zG (zK zV)) zL)
  (zF (zS (zY (pI B.isinstance zI B.list xB (pv 0))) (zG (zK zV)) zL)
  (zF (zS (zY (pI B.isinstance zI B.dict yP (pv 0))) (zG (zK zV)) zL)
  (zG (zK qI)))))))), ?_⟩
 walk_at "st";walk_at "rd3";exact zOu ht (q H (Same.refl H))
abbrev zDb:Stmt:=top 20
abbrev zHo:Stmt:=top 21
def zDv(n:Nat):Sp:=fun vs H Q _=>∃(v u:V)(t t':T),vs= [v,u]∧Rep H v t∧Rep H u t'∧T.few t∧T.few t'∧T.wt t≤n∧T.wt t'≤n∧∀H',Same H H'→Q (.int (xN (zQ t) (zQ t'))) H'
def zNb(n:Nat):Sp:=fun vs H Q _=>∃(a b:Addr)(xs ys:List V)(us ws:List T),vs= [.ref a, .ref b]∧H a=some (.lst xs)∧H b=some (.lst ys)∧Reps H xs us∧Reps H ys ws∧T.fews us∧T.fews ws∧us.length≤100000∧ws.length≤100000∧T.wts us≤n∧T.wts ws≤n∧∀H',Same H H'→Q (.int (wJ (yU us) (yU ws))) H'
theorem scRows:yE ["_law_one","_law_other","_law_k","_law_result"] ["_law_one","_law_other"] (zJ zDb):=by walk_at "sc"
theorem zRm{n:Nat}(F:Fun K "_law_rows_compare" "_law_rows_compare" zDb f fd)(B:Bl2 mg)(G_law_compare:Dn P w K mg base (2+2*n) "_law_compare" ["_law_one","_law_other"] (zDv n)):
  FnOk P w K mg base CX0 (2+2*n+1) f fd ["_law_one","_law_other"] (zNb n):=by
 refine F.ok scRows (by walk_at "ln") fun c A o s H vs Q E hr h=>?_;obtain⟨a,b,xs,ys,us,ws,rfl,ha,hb,hx,hy,fx,fy,lx,ly,wx,wy,q⟩:=h;have nd:=scRows.nd;refine⟨_,(zF (wT PassesOwn.never rfl (xJ rfl B.range (zA (zM (qA rfl) rfl B.min zAn (zA (zM yD rfl B.len yO (zA (pv 0) zD)) (zA (zM yD rfl B.len yO (zA (pv 1) zD)) zD))) zD)) (yF (i:=2) nd rfl (nH rfl)) (zF (pS 3 nd (zT G_law_compare hr (by lia) rfl (zA (yI yA (pv 0) (pv 2) (fun _ _=>rfl)) (zA (yI yA (pv 1) (pv 2) (fun _ _=>rfl)) zD))))
  (zG (zS (zP zBu (pv 3) zE (zN _)) (zG (zK (pv 3))) zL))))
  (zG (zK (zH xS (yM xC rfl B.int wA (zA (yV qU (zM yD rfl B.len yO (zA (pv 0) zD)) (zM yD rfl B.len yO (zA (pv 1) zD)) (zN _)) zD)) (yM xC rfl B.int wA (zA (yV vX (zM yD rfl B.len yO (zA (pv 0) zD)) (zM yD rfl B.len yO (zA (pv 1) zD)) (zN _)) zD)))))), ?_⟩
 walk_at "st";walk_at "rd3";have hxl:=hx.length;have hyl:=hy.length;refine⟨xs,SqL.of ha,ys,SqL.of hb,xs.length,ys.length,⟨rfl,rfl⟩,by split<;>lia,by split<;>lia, ?_⟩;have em:(if(ys.length:Int)<xs.length then(ys.length:Int) else xs.length).toNat=min (yU us).length (yU ws).length:=by
  rw[wE,wE];split<;>lia
 rw[em];have hmn:min (yU us).length (yU ws).length≤us.length∧min (yU us).length (yU ws).length≤ws.length:=by
  rw[wE,wE];exact⟨Nat.min_le_left _ _,aW _ _⟩
 generalize hm:min (yU us).length (yU ws).length=m at hmn⊢;refine wN (fun i σ H2=>(∃o2 o3,σ= [some (V.ref a),some (V.ref b),o2,o3])∧Same H H2∧wJ (yU us) (yU ws)=wJ ((yU us).drop i) ((yU ws).drop i)) ⟨⟨_,_,rfl⟩,Same.refl _,rfl⟩ ?_ ?_
 ·rintro i σ H2 hi ⟨⟨o2,o3,rfl⟩,g,e⟩
  walk_at "rd3";have h1:i<xs.length:=by lia
  have h2:i<ys.length:=by lia
  obtain⟨t1,ht1,hr1⟩:=hx.get (i:=i) (v:=xs[i]) (by simp[h1]);obtain⟨t2,ht2,hr2⟩:=hy.get (i:=i) (v:=ys[i]) (by simp[h2]);have hm1:=mF ht1;have hm2:=mF ht2;have w1:=T.wts_le hm1;have w2:=T.wts_le hm2;have hd:=zIh (jI ht1) (jI ht2);refine⟨a,xs,i,xs[i],rfl,by simp,SqL.of (g _ _ ha), ?_,b,ys,i,ys[i],rfl,by simp,SqL.of (g _ _ hb), ?_,xs[i],ys[i],t1,t2,rfl,Rep.same g _ _ hr1,Rep.same g _ _ hr2,T.fews_mem fx hm1,T.fews_mem fy hm2,by lia,by lia,fun H3 g3=>?_⟩
  ·exact yJ (by simp[h1])
  ·exact yJ (by simp[h2])
  ·rw[e,hd] at q
   by_cases hz:xN (zQ t1) (zQ t2)=0
   ·exact⟨rfl,false,by rw[hz];rfl,zFi ⟨⟨_,rfl⟩,g.trans g3,by rw[e,hd,mW hz]⟩⟩
   ·rw[mJ hz] at q
    refine⟨rfl,true, ?_,zFs (q _ (g.trans g3))⟩;simp[hz]
 ·rintro σ H2 ⟨⟨o2,o3,rfl⟩,g,e⟩
  walk_at "rd3";have he:=zLy (xs:=yU us) (ys:=yU ws) hm.symm;rw[wE,wE] at he;have z:=q H2 g;rw[e,he,sgI,←hxl,←hyl] at z;exact⟨xs,SqL.of (g _ _ ha),ys,SqL.of (g _ _ hb),xs,SqL.of (g _ _ ha),ys,SqL.of (g _ _ hb),z⟩
theorem iP{c A B:Prop} [Decidable c] (h:c) (a:A):if c then A else B:=by rw[mW h];exact a
theorem iN{c A B:Prop} [Decidable c] (h:¬c) (b:B):if c then A else B:=by rw[mJ h];exact b
def wordsS:List Str:=["nothing","truth","number","text","row","record"]
theorem qJ(t:T)(h:T.few t):∃k,qR (tyT t)= .str k∧wordsS[(zQ t).ord]? =some k∧∀i,i<(zQ t).ord→wordsS[i]?≠some k:=by
 cases t with
 | non=>exact⟨"nothing",by decide+kernel,rfl,fun i h=>absurd h (pX i)⟩
 | bl b=>exact⟨"truth",by show qR "bool" =_;decide+kernel,rfl,by show∀i,i<1→_;decide+kernel⟩
 | int b=>exact⟨"number",by show qR "int" =_;decide+kernel,rfl,by show∀i,i<2→_;decide+kernel⟩
 | str b=>exact⟨"text",by show qR "str" =_;decide+kernel,rfl,by show∀i,i<3→_;decide+kernel⟩
 | lst b=>exact⟨"row",by show qR "list" =_;decide+kernel,rfl,by show∀i,i<4→_;decide+kernel⟩
 | dic a b=>exact⟨"record",by show qR "dict" =_;decide+kernel,rfl,by show∀i,i<5→_;decide+kernel⟩
 | tup b=>exact h.elim
theorem zBs{x n:Str}{j:Nat}{d l:Addr}{ps:List (Key×V)}{ks:List (List Nat)}{us:List T}{ss:List Str}{σ:St}{Q:VK}{H1:Hp}(hd:H1 d=some (.dK ps))(hl:H1 l=none)(h64:ks.length<64)(nk:ks.Nodup)
  (hk:ps.map (·.1)=ks.map fun k=>(Sum.inr (tx k):Key)) (hs:Reps H1 (ps.map (·.2)) us) (hp:ss.Perm (ks.map tx)) (hss:PyProof.Rows.sortedS ss=true) (hj:(σ[j]?).join=some (.ref d))
  (q:∀p zs H',Same H1 H'→H' p=some (.lst zs)→Reps H' zs (jQ ks us)→Q (.ref p) H'):
  xV [x] [(n,j)] (vN 0) gO (zQi (jO (jU 0) (jO (gN (jU 1) (jU 0)) zCe))) σ Q (Itl K l) (upd H1 l (.lst (ss.map V.str))):=by
 have es:=jM hp hss;have g0:Same H1 (upd H1 l (.lst (ss.map V.str))):=zC hl _;have hll:upd H1 l (.lst (ss.map V.str)) l=some (.lst (ss.map V.str)):=zB;have hlen:(ss.map V.str).length=ks.length:=by rw[mB,hp.length_eq,mB]
 generalize upd H1 l (.lst (ss.map V.str))=H2 at g0 hll⊢;refine xI (K:=K) (xs:=ss.map V.str) (fun i zs H'=>Same H2 H'∧Reps H' zs ((jQ ks us).take i)) ?_ ⟨Same.refl _,rfl⟩ (fun i zs H' _ h=>SqL.of (h.1 _ _ hll)) ?_ ?_
 ·rw[mQ,hlen];lia
 ·rintro i y zs H' hy _ ⟨g,hR⟩
  rw[es,pC,mU] at hy
  cases hki:(yW ks)[i]? with
  | none=>rw[hki] at hy;cases hy
  | some k=>
   rw[hki] at hy;have ey:V.str (tx k)=y:=mX hy;subst ey;have hrow:(jQ ks us)[i]? =some (.lst [.str k,yH k ks us]):=by rw[jQ,mU,hki];rfl
   have gg:=g0.trans g;obtain⟨v,hv1,hv2⟩:=Rep.at_name nk hk (Reps.same gg _ _ hs) (mem_sortK.mp (mF hki));walk_at "rd3";rw[hj];refine⟨.ref d,rfl,d,rfl,v, .inl ⟨ps,Sum.inr (tx k), .inl (gg _ _ hd),rfl,hv1.symm⟩,fun p hp=>⟨g.trans (zC hp _), ?_⟩⟩;rw[yG hrow];have hrep:Rep (upd H' p (.lst [V.str (tx k),v])) (.ref p) (.lst [.str k,yH k ks us]):=⟨p,_,rfl,zB,_,_,rfl,rfl,_,_,rfl,Rep.same (zC hp _) _ _ hv2,rfl⟩;exact Reps.snoc hrep (Reps.same (zC hp _) _ _ hR)
 ·rintro zs H' _ ⟨g,hR⟩ p hp'
  rw[hlen,←zCx ks us,nT] at hR;exact q p zs _ (g0.trans (g.trans (zC hp' _))) zB (Reps.same (zC hp' _) _ _ hR)
theorem scCmp:yE ["_law_one","_law_other","_law_words","_law_first","_law_second","_law_left","_law_right"] ["_law_one","_law_other"] (zJ zHo):=by walk_at "sc"
theorem zRe{n:Nat}(F:Fun K "_law_compare" "_law_compare" zHo f fd)(B:Bl2 mg)(G_law_kind:Dn P w K mg base 1 "_law_kind" ["_law_thing"] zAo)(G_law_rows_compare:Dn P w K mg base (2+2*n+1) "_law_rows_compare" ["_law_one","_law_other"] (zNb n)):
  FnOk P w K mg base CX0 (2+2*n+1+1) f fd ["_law_one","_law_other"] (zDv (n+1)):=by
 refine F.ok scCmp (by walk_at "ln") fun c A o s H vs Q E hr h=>?_;obtain⟨v,u,t,t',rfl,hv,hu',f1,f2,w1,w2,q⟩:=h;have nd:=scCmp.nd;have hu:=wC hr;refine⟨_,(zF (pS 2 nd (zX (zA zV (zA zV (zA zV (zA zV (zA zV (zA zV zD))))))))
  (zF (pS 3 nd (vY nQ rO sI uK (pv 2) (zA (zT G_law_kind hr (by lia) rfl (zA (pv 0) zD)) zD)))
  (zF (pS 4 nd (vY nQ rO sI uK (pv 2) (zA (zT G_law_kind hr (by lia) rfl (zA (pv 1) zD)) zD)))
  (zF (zS (zP zBu (pv 3) (pv 4) (zN _)) (zG (zK (zH xS (yM xC rfl B.int wA (zA (yV qU (pv 3) (pv 4) (zN _)) zD)) (yM xC rfl B.int wA (zA (yV vX (pv 3) (pv 4) (zN _)) zD))))) zL)
  (zF (zS (zP yX (pv 3) zE (zN _)) (zG (zK zE)) zL)
  (zF (zS (zP vX (pv 3) zE (zN _)) (zG (zK (zH xS (yM xC rfl B.int wA (zA (yV zJx (pv 0) (pv 1) (zN _)) zD)) (yM xC rfl B.int wA (zA (yV zJq (pv 0) (pv 1) (zN _)) zD))))) zL)
  (zF (zS (zP yX (pv 3) zE (zN _)) (zG (zK (zT G_law_rows_compare hr (by lia) rfl (zA (pv 0) (zA (pv 1) zD))))) zL)
  (zF (jK (i:=5) nd rfl (nH rfl) (own:=["_law_name"]) (F:=[("_law_one",0)]) ⟨rfl,by walk_at "wu",by walk_at "wu",by walk_at "wu",(.cons rfl rfl rfl .nil)⟩ rfl (xM (zM (yY rfl) rfl B.sorted wH (zA (pv 0) zD))) (fun _ _ _ _=>yF (i:=0) (by show(xK ["_law_name"] [("_law_one",0)]).Nodup;decide+kernel) rfl (nH rfl)) (fun _ _ _ _=>yZ) (fun _ _ _ _=>(zX (zA (pv 0) (zA (xL hu (pv 1) (pv 0) (fun _ _=>rfl)) zD)))))
  (zF (jK (i:=6) nd rfl (nH rfl) (own:=["_law_name"]) (F:=[("_law_other",1)]) ⟨rfl,by walk_at "wu",by walk_at "wu",by walk_at "wu",(.cons rfl rfl rfl .nil)⟩ rfl (xM (zM (yY rfl) rfl B.sorted wH (zA (pv 1) zD))) (fun _ _ _ _=>yF (i:=0) (by show(xK ["_law_name"] [("_law_other",1)]).Nodup;decide+kernel) rfl (nH rfl)) (fun _ _ _ _=>yZ) (fun _ _ _ _=>(zX (zA (pv 0) (zA (xL hu (pv 1) (pv 0) (fun _ _=>rfl)) zD)))))
  (zG (zK (zT G_law_rows_compare hr (by lia) rfl (zA (pv 5) (zA (pv 6) zD)))))))))))))), ?_⟩
 walk_at "st";walk_at "rd3";intro p hp;obtain⟨k1,e1,i1,n1⟩:=qJ t f1;obtain⟨k2,e2,i2,n2⟩:=qJ t' f2;have o1:(zQ t).ord<1000000:=by cases (zQ t)<;>simp[C.ord]
 have o2:(zQ t').ord<1000000:=by cases (zQ t')<;>simp[C.ord]
 have g0:Same H (upd H p (.lst (wordsS.map V.str))):=zC hp _;have hpp:upd H p (.lst (wordsS.map V.str)) p=some (.lst (wordsS.map V.str)):=zB;rw[show[V.str (Str.ofString "nothing"),V.str (Str.ofString "truth"),V.str (Str.ofString "number"),V.str (Str.ofString "text"),V.str (Str.ofString "row"),V.str (Str.ofString "record")]=wordsS.map V.str from rfl];generalize upd H p (.lst (wordsS.map V.str))=H1 at g0 hpp⊢;refine⟨nH ⟨rfl,_,SqL.of hpp⟩,v,_,rfl,(Rep.same g0 _ _ hv).ty,fun H2 g2=>?_⟩;refine⟨p,wordsS,k1,_,rfl,by rw[e1],SqL.of (g2 _ _ hpp),i1,n1,o1,nH ⟨rfl,_,SqL.of (g2 _ _ hpp)⟩,u,_,rfl,(Rep.same (g0.trans g2) _ _ hu').ty,fun H3 g3=>?_⟩;have gH:=g0.trans (g2.trans g3);refine⟨p,wordsS,k2,_,rfl,by rw[e2],SqL.of (g3 _ _ (g2 _ _ hpp)),i2,n2,o2,rfl, ?_⟩
 by_cases ho:(zQ t).ord=(zQ t').ord
 ·refine⟨false,by simp[ho],zFi ⟨rfl, ?_⟩⟩
  have zq:=q
  cases t with
  | non=>
   cases t' with
   | non=>exact iP (by simp[zQ,C.ord]) (q _ gH)
   | _=>exact absurd ho (by simp[zQ,C.ord])
  | bl b=>
   cases t' with
   | bl b'=>
    cases (show v=_ from hv);cases (show u=_ from hu');refine iN (by simp[zQ,C.ord]) ⟨_,rfl,iP (by simp[zQ,C.ord]) ⟨_,rfl,_,rfl,_,rfl,_,rfl, ?_⟩⟩;have z:=q _ gH;rw[show xN (zQ (.bl b)) (zQ (.bl b'))=(if(b && !b')=true then 1 else 0)- (if(b' && !b)=true then 1 else 0) by cases b<;>cases b'<;>rfl] at z;exact z
   | _=>exact absurd ho (by simp[zQ,C.ord])
  | int b=>
   cases t' with
   | int b'=>
    cases (show v=_ from hv);cases (show u=_ from hu');refine iN (by simp[zQ,C.ord]) ⟨_,rfl,iP (by simp[zQ,C.ord]) ⟨_,rfl,_,rfl,_,rfl,_,rfl, ?_⟩⟩;have z:=q _ gH;rw[show xN (zQ (.int b)) (zQ (.int b'))=(if b'<b then 1 else 0)- (if b<b' then 1 else 0) by rw[zQ,zQ,xN];rfl] at z
    simpa using z
   | _=>exact absurd ho (by simp[zQ,C.ord])
  | str b=>
   cases t' with
   | str b'=>
    cases (show v=_ from hv);cases (show u=_ from hu');refine iN (by simp[zQ,C.ord]) ⟨_,rfl,iP (by simp[zQ,C.ord]) ⟨_,rfl,_,rfl,_,rfl,_,rfl, ?_⟩⟩;have z:=q _ gH;rw[show xN (zQ (.str b)) (zQ (.str b'))=(if b'<b then 1 else 0)- (if b<b' then 1 else 0) by rw[zQ,zQ,xN];rfl] at z;simp only[vV,pB];exact z
   | _=>exact absurd ho (by simp[zQ,C.ord])
  | lst us=>
   cases t' with
   | lst ws=>
    obtain⟨a,xs,rfl,ha,hx⟩:=hv;obtain⟨b,ys,rfl,hb,hy⟩:=hu';refine iN (by simp[zQ,C.ord]) ⟨_,rfl,iN (by simp[zQ,C.ord]) ⟨rfl,iP (by simp[zQ,C.ord]) ?_⟩⟩;have w1':T.wts us+1≤n+1:=w1;have w2':T.wts ws+1≤n+1:=w2;refine⟨a,b,xs,ys,us,ws,rfl,gH _ _ ha,gH _ _ hb,Reps.same gH _ _ hx,Reps.same gH _ _ hy,f1.2,f2.2,f1.1,f2.1,by lia,by lia,fun H4 g4=>?_⟩;have z:=q _ (gH.trans g4);rw[zQ,zQ,xN] at z;exact z
   | _=>exact absurd ho (by simp[zQ,C.ord])
  | dic ks us=>
   cases t' with
   | dic ks' ws=>
    obtain⟨a,ps,rfl,ha,hk,hx⟩:=hv;obtain⟨b,ps',rfl,hb,hk',hy⟩:=hu';obtain⟨nk,h64,hle,fx⟩:=f1;obtain⟨nk',h64',hle',fy⟩:=f2;have w1':T.wts us+2≤n+1:=w1;have w2':T.wts ws+2≤n+1:=w2;have r1:=zKq hle;have r2:=zKq hle';have l1:=zCx ks us;have l2:=zCx ks' ws;refine iN (by simp[zQ,C.ord]) ⟨_,rfl,iN (by simp[zQ,C.ord]) ⟨rfl,iN (by simp[zQ,C.ord]) ?_⟩⟩;refine⟨a,rfl,ps, .inl (gH _ _ ha),ks.map tx,by rw[hk,pC];rfl,by rw[mB];exact h64,fun l ss hl hp1 hs1=>⟨⟨_,SqL.of zB⟩,zBs (gH _ _ ha) hl h64 nk hk (Reps.same gH _ _ hx) hp1 hs1 rfl fun p1 zs1 H4 g4 hp4 hr4=>?_⟩⟩;have gH4:=gH.trans g4;refine⟨b,rfl,ps', .inl (gH4 _ _ hb),ks'.map tx,by rw[hk',pC];rfl,by rw[mB];exact h64',fun l ss hl hp1 hs1=>⟨⟨_,SqL.of zB⟩,zBs (gH4 _ _ hb) hl h64' nk' hk' (Reps.same gH4 _ _ hy) hp1 hs1 rfl fun p2 zs2 H5 g5 hp5 hr5=>?_⟩⟩;refine⟨p1,p2,zs1,zs2,jQ ks us,jQ ks' ws,rfl,g5 _ _ hp4,hp5,Reps.same g5 _ _ hr4,hr5,zGk hle fx,zGk hle' fy,by lia,by lia,by lia,by lia,fun H6 g6=>?_⟩;have z:=q _ (gH4.trans (g5.trans g6));rw[zQ,zQ,xN,←zCb,←zCb] at z;exact z
   | _=>exact absurd ho (by simp[zQ,C.ord])
  | tup us=>exact f1.elim
 ·refine⟨true, ?_,zFs ⟨_,rfl,_,rfl,_,rfl,_,rfl, ?_⟩⟩
  ·simpa [Int.ofNat_inj] using ho
  ·have z:=q H3 gH
   rw[gX _ _ ho,sgI] at z;exact z
theorem zPs(F:Fun K "_law_compare" "_law_compare" zHo f fd)(B:Bl2 mg)(G_law_kind:Dn P w K mg base 1 "_law_kind" ["_law_thing"] zAo):
  FnOk P w K mg base CX0 2 f fd ["_law_one","_law_other"] (zDv 0):=by
 refine F.ok scCmp (by walk_at "ln") fun c A o s H vs Q E hr h=>?_;obtain⟨v,u,t,t',rfl,hv,hu',f1,f2,w1,w2,q⟩:=h;have nd:=scCmp.nd;have hu:=wC hr;refine⟨_,(zF (pS 2 nd (zX (zA zV (zA zV (zA zV (zA zV (zA zV (zA zV zD))))))))
  (zF (pS 3 nd (vY nQ rO sI uK (pv 2) (zA (zT G_law_kind hr (by lia) rfl (zA (pv 0) zD)) zD)))
  (zF (pS 4 nd (vY nQ rO sI uK (pv 2) (zA (zT G_law_kind hr (by lia) rfl (zA (pv 1) zD)) zD)))
  (zF (zS (zP zBu (pv 3) (pv 4) (zN _)) (zG (zK (zH xS (yM xC rfl B.int wA (zA (yV qU (pv 3) (pv 4) (zN _)) zD)) (yM xC rfl B.int wA (zA (yV vX (pv 3) (pv 4) (zN _)) zD))))) zL)
  (zF (zS (zP yX (pv 3) zE (zN _)) (zG (zK zE)) zL)
  (zF (zS (zP vX (pv 3) zE (zN _)) (zG (zK (zH xS (yM xC rfl B.int wA (zA (yV zJx (pv 0) (pv 1) (zN _)) zD)) (yM xC rfl B.int wA (zA (yV zJq (pv 0) (pv 1) (zN _)) zD))))) zL)
  gE)))))), ?_⟩
 walk_at "st";walk_at "rd3";intro p hp;obtain⟨k1,e1,i1,n1⟩:=qJ t f1;obtain⟨k2,e2,i2,n2⟩:=qJ t' f2;have o1:(zQ t).ord<1000000:=by cases (zQ t)<;>simp[C.ord]
 have o2:(zQ t').ord<1000000:=by cases (zQ t')<;>simp[C.ord]
 have g0:Same H (upd H p (.lst (wordsS.map V.str))):=zC hp _;have hpp:upd H p (.lst (wordsS.map V.str)) p=some (.lst (wordsS.map V.str)):=zB;rw[show[V.str (Str.ofString "nothing"),V.str (Str.ofString "truth"),V.str (Str.ofString "number"),V.str (Str.ofString "text"),V.str (Str.ofString "row"),V.str (Str.ofString "record")]=wordsS.map V.str from rfl];generalize upd H p (.lst (wordsS.map V.str))=H1 at g0 hpp⊢;refine⟨nH ⟨rfl,_,SqL.of hpp⟩,v,_,rfl,(Rep.same g0 _ _ hv).ty,fun H2 g2=>?_⟩;refine⟨p,wordsS,k1,_,rfl,by rw[e1],SqL.of (g2 _ _ hpp),i1,n1,o1,nH ⟨rfl,_,SqL.of (g2 _ _ hpp)⟩,u,_,rfl,(Rep.same (g0.trans g2) _ _ hu').ty,fun H3 g3=>?_⟩;have gH:=g0.trans (g2.trans g3);refine⟨p,wordsS,k2,_,rfl,by rw[e2],SqL.of (g3 _ _ (g2 _ _ hpp)),i2,n2,o2,rfl, ?_⟩
 by_cases ho:(zQ t).ord=(zQ t').ord
 ·refine⟨false,by simp[ho],zFi ⟨rfl, ?_⟩⟩
  have zq:=q
  cases t with
  | non=>
   cases t' with
   | non=>exact iP (by simp[zQ,C.ord]) (q _ gH)
   | _=>exact absurd ho (by simp[zQ,C.ord])
  | bl b=>
   cases t' with
   | bl b'=>
    cases (show v=_ from hv);cases (show u=_ from hu');refine iN (by simp[zQ,C.ord]) ⟨_,rfl,iP (by simp[zQ,C.ord]) ⟨_,rfl,_,rfl,_,rfl,_,rfl, ?_⟩⟩;have z:=q _ gH;rw[show xN (zQ (.bl b)) (zQ (.bl b'))=(if(b && !b')=true then 1 else 0)- (if(b' && !b)=true then 1 else 0) by cases b<;>cases b'<;>rfl] at z;exact z
   | _=>exact absurd ho (by simp[zQ,C.ord])
  | int b=>
   cases t' with
   | int b'=>
    cases (show v=_ from hv);cases (show u=_ from hu');refine iN (by simp[zQ,C.ord]) ⟨_,rfl,iP (by simp[zQ,C.ord]) ⟨_,rfl,_,rfl,_,rfl,_,rfl, ?_⟩⟩;have z:=q _ gH;rw[show xN (zQ (.int b)) (zQ (.int b'))=(if b'<b then 1 else 0)- (if b<b' then 1 else 0) by rw[zQ,zQ,xN];rfl] at z
    simpa using z
   | _=>exact absurd ho (by simp[zQ,C.ord])
  | str b=>
   cases t' with
   | str b'=>
    cases (show v=_ from hv);cases (show u=_ from hu');refine iN (by simp[zQ,C.ord]) ⟨_,rfl,iP (by simp[zQ,C.ord]) ⟨_,rfl,_,rfl,_,rfl,_,rfl, ?_⟩⟩;have z:=q _ gH;rw[show xN (zQ (.str b)) (zQ (.str b'))=(if b'<b then 1 else 0)- (if b<b' then 1 else 0) by rw[zQ,zQ,xN];rfl] at z;simp only[vV,pB];exact z
   | _=>exact absurd ho (by simp[zQ,C.ord])
  | lst us=>exact absurd w1 (sV _)
  | dic ks us=>exact absurd w1 (sV _)
  | tup us=>exact f1.elim
 ·refine⟨true, ?_,zFs ⟨_,rfl,_,rfl,_,rfl,_,rfl, ?_⟩⟩
  ·simpa [Int.ofNat_inj] using ho
  ·have z:=q H3 gH
   rw[gX _ _ ho,sgI] at z;exact z
theorem zJg{f':Addr}{fd':FuncData}(F:Fun K "_law_compare" "_law_compare" zHo f fd)(F':Fun K "_law_rows_compare" "_law_rows_compare" zDb f' fd')(B:Bl2 mg)(Gk:Dn P w K mg base 1 "_law_kind" ["_law_thing"] zAo)
  (b:Binds K fd ["_law_one","_law_other"] []) (kp:W.keepIn K (.ref f)=true) (m:mg "_law_compare" =some (.ref f)) (b':Binds K fd' ["_law_one","_law_other"] []) (kp':W.keepIn K (.ref f')=true) (m':mg "_law_rows_compare" =some (.ref f')):
  ∀n:Nat,FnOk P w K mg base CX0 (2+2*n) f fd ["_law_one","_law_other"] (zDv n)
 | 0=>zPs F B Gk
 | n+1=>zRe F B Gk ⟨_,_,zRm F' B ⟨_,_,zJg F F' B Gk b kp m b' kp' m' n,b,kp,m⟩,b',kp',m'⟩
abbrev zDr:Stmt:=top 22
def zCz(n:Nat):Sp:=fun vs H Q _=>∃(v u:V)(t t':T),vs= [v,u]∧Rep H v t∧Rep H u t'∧T.few t∧T.few t'∧T.wt t≤n∧T.wt t'≤n∧∀H',Same H H'→Q (.bl (decide (xN (zQ t) (zQ t')=0))) H'
theorem scSame:yE ["_law_one","_law_other"] ["_law_one","_law_other"] (zJ zDr):=by walk_at "sc"
theorem zKw:∀{t t':T},T.few t→T.few t'→qR (tyT t)≠qR (tyT t')→xN (zQ t) (zQ t')≠0:=by
 intro t t' h h' ne;have ho:(zQ t).ord≠(zQ t').ord:=by
  intro e;apply ne;cases t<;>cases t'<;>first | rfl | exact h.elim | exact h'.elim | exact absurd e (by simp[zQ,C.ord])
 rw[gX _ _ ho,sgI];split<;>split<;>lia
theorem zQk{n:Nat}(F:Fun K "_law_same" "_law_same" zDr f fd)(B:Bl2 mg)(G_law_kind:Dn P w K mg base 1 "_law_kind" ["_law_thing"] zAo)(G_law_compare:Dn P w K mg base (2+2*n) "_law_compare" ["_law_one","_law_other"] (zDv n)):
  FnOk P w K mg base CX0 (2+2*n+1) f fd ["_law_one","_law_other"] (zCz n):=by
 refine F.ok scSame (by walk_at "ln") fun c A o s H vs Q E hr h=>?_;obtain⟨v,u,t,t',rfl,hv,hu',f1,f2,w1,w2,q⟩:=h;have nd:=scSame.nd;refine⟨_,(zG (zK (zAg (zPg (zRc (zT G_law_kind hr (by lia) rfl (zA (pv 0) zD)))) (zAg (yV yX (zT G_law_kind hr (by lia) rfl (zA (pv 0) zD)) (zT G_law_kind hr (by lia) rfl (zA (pv 1) zD)) (zN _)) (zFg (yV yX (zT G_law_compare hr (by lia) rfl (zA (pv 0) (zA (pv 1) zD))) zE (zN _))))))), ?_⟩;walk_at "st";walk_at "rd3";obtain⟨k1,e1,-,-⟩:=qJ t f1;obtain⟨k2,e2,-,-⟩:=qJ t' f2;refine⟨v,_,rfl,hv.ty,fun H1 g1=>⟨true,by rw[e1];rfl,zFs ⟨v,_,rfl,(Rep.same g1 _ _ hv).ty,fun H2 g2=>⟨u,_,rfl,(Rep.same (g1.trans g2) _ _ hu').ty,fun H3 g3=>?_⟩⟩⟩⟩;have gH:=g1.trans (g2.trans g3);rw[e1,e2];refine⟨rfl, ?_⟩
 by_cases he:V.str k1=V.str k2
 ·refine iP he ⟨v,u,t,t',rfl,Rep.same gH _ _ hv,Rep.same gH _ _ hu',f1,f2,w1,w2,fun H4 g4=>⟨rfl, ?_⟩⟩
  have z:=q _ (gH.trans g4)
  simpa using z
 ·have z:=q _ gH
  rw[nP (zKw f1 f2 (by rw[e1,e2];exact he))] at z;exact iN he z
abbrev zEv:Stmt:=top 36
theorem zGc{b:Int}(h1: -(10 ^ 12)≤b)(h2:b≤10 ^ 12):b.natAbs.log2<1920:=by
 by_cases h:b.natAbs=0
 ·rw[h];decide
 ·refine(Nat.log2_lt h).mpr (Nat.lt_of_le_of_lt (show b.natAbs≤10 ^ 12 by lia) (nC (show 10 ^ 12<2 ^ 40 by decide) (Nat.pow_le_pow_right (by decide) (by decide))))
theorem zMg{b:Int}(h1: -(10 ^ 12)≤b)(h2:b≤10 ^ 12):(Str.ofString (toString b)).length≤sizeLine:=int_text_fits (zGc h1 h2)
def zFo:Sp:=fun vs H Q _=>∃(v:V)(m:Int)(t:T),vs= [v, .int m]∧Rep H v t∧T.calm t∧T.few t∧0≤m∧∀v' H' t',Same H H'→Rep H' v' t'→Fit (T.dep t+1) 3 t'→Q v' H'
theorem scLeaf:yE ["_law_thing","_law_more"] ["_law_thing","_law_more"] (zJ zEv):=by walk_at "sc"
theorem zPv(F:Fun K "_law_leaf_other" "_law_leaf_other" zEv f fd)(B:Bl mg):FnOk P w K mg base CX0 1 f fd ["_law_thing","_law_more"] zFo:=by
 refine F.ok scLeaf (by walk_at "ln") fun c A o s H vs Q E hr h=>?_;obtain⟨v,m,t,rfl,hv,hc,hf,hm,q⟩:=h;have nd:=scLeaf.nd;have hu:=wC hr;refine⟨_,(zF (zS (jC (zFx (pv 0))) (zG (zK (yI yA (zX (zA wV (zA zE (zA zV (zA (zX zD) (zA vM zD)))))) (zH zU (pv 1) zE) (fun _ _=>rfl)))) zL)
  (zF (zS (zY (pI B.isinstance zI B.bool zFy (pv 0))) (zG (zK (yI yA (zX (zA (yM zDt rfl B.int wA (zA (pv 0) zD)) (zA (zSm (pv 0)) (zA qI (zA (zX (zA (pv 0) zD)) zD))))) (zH zU (pv 1) zE) (fun _ _=>rfl)))) zL)
  (zF (zS (zY (pI B.isinstance zI B.int wA (pv 0))) (zG (zK (yI yA (zX (zA (yV yX (pv 0) zE (zN _)) (zA (zH xS (zH yR (pv 0) zE) (zH vR zE (yM xC rfl B.int wA (zA (yV qU (pv 0) zE (zN _)) zD)))) (zA (xR zIc (yM gZ rfl B.str qN (zA (pv 0) zD)) wD (xG zE)) (zA (zX (zA (pv 0) zD)) zD))))) (zH zU (pv 1) zE) (fun _ _=>rfl)))) zL)
  (zF (zS (zY (pI B.isinstance zI B.str qN (pv 0))) (zG (zK (yI yA (zX (zA (xR zIc (pv 0) (xG zE) wD) (zA (xR zIc (zH wS (pv 0) zV) wD (xG zE)) (zA (zCs zUm (pv 0) (xG (vC xZ zE))) (zA qI zD))))) (zH zU (pv 1) zE) (fun _ _=>rfl)))) zL)
  (zF (zS (zY (pI B.isinstance zI B.list xB (pv 0))) (zG (zK (yI yA (zX (zA vM (zA (zX (zA qI zD)) (zA (zX (zA (zX zD) zD)) (zA zV zD))))) (zH zU (pv 1) zE) (fun _ _=>rfl)))) zL)
  (zG (zK (yI yA (zX (zA (zX zD) (zA (zFa (qZ zV qI zFv) (by rfl) (by rfl) (bE _ _) (by decide)) (zA (zFa (qZ zV vM zFv) (by rfl) (by rfl) (bE _ _) (by decide)) (zA qI zD))))) (zH zU (pv 1) zE) (fun _ _=>rfl))))))))), ?_⟩
 walk_at "st";walk_at "rd3"
 cases t with
 | non=>
  cases (show v=_ from hv);refine iP rfl fun p1 hp1 p2 hp2 p3 hp3=>wF zB (by lia) (by simp only[nF,nY];lia) fun x hx=>?_;have g:=(zC hp1 (.lst [])).trans ((zC hp2 (.dK [])).trans (zC hp3 (.lst [V.bl false,V.int 0,V.str (Str.ofString ""),V.ref p1,V.ref p2])));simp only[mG,nO,pN] at hx;rcases hx with rfl | rfl | rfl | rfl | rfl
  ·exact q _ _ (.bl false) g rfl ⟨mC,mC,mL _,by decide⟩
  ·exact q _ _ (.int 0) g rfl ⟨mC,⟨by decide,by decide⟩,mL _,by decide⟩
  ·exact q _ _ (.str []) g rfl ⟨mC,mL _,mL _,by decide⟩
  ·exact q _ _ (.lst []) g ⟨p1,[],rfl,(zC hp2 _).trans (zC hp3 _) _ _ zB,rfl⟩ ⟨⟨by simp,mC⟩,mC,mE _,by decide⟩
  ·exact q _ _ (.dic [] []) g ⟨p2,[],rfl,zC hp3 _ _ _ zB,rfl,rfl⟩ ⟨⟨sE,by decide,rfl,mC⟩,mC,mE _,by decide⟩
 | bl b=>
  cases (show v=_ from hv);refine iN (by simp) ⟨_,hv.ty,iP (by simp[tyT,zO]) (.inr ⟨b,rfl,b,rfl,fun p1 hp1 p2 hp2=>wF zB (by lia) (by simp only[nF,nY];lia) fun x hx=>?_⟩)⟩;have g:=(zC hp1 (.lst [V.bl b])).trans (zC hp2 (.lst [V.int (if b=true then 1 else 0),V.bl !b,V.non,V.ref p1]));simp only[mG,nO,pN] at hx;rcases hx with rfl | rfl | rfl | rfl
  ·exact q _ _ (.int (if b=true then 1 else 0)) g rfl ⟨mC,by cases b<;>exact⟨by decide,by decide⟩,mL _,nE rfl⟩
  ·exact q _ _ (.bl (!b)) g rfl ⟨mC,mC,mL _,nE rfl⟩
  ·exact q _ _ .non g rfl ⟨mC,mC,mL _,nE rfl⟩
  ·exact q _ _ (.lst [.bl b]) g ⟨p1,_,rfl,zC hp2 _ _ _ zB,_,_,rfl,rfl,rfl⟩ ⟨⟨by simp,mC,mC⟩,⟨mC,mC⟩,mE _,nE rfl⟩
 | int b=>
  cases (show v=_ from hv);obtain⟨c1,c2⟩:=hc;refine iN (by simp) ⟨_,hv.ty,iN (by simp[tyT,zO]) ⟨_,hv.ty,iP (by simp[tyT,zO]) ⟨rfl,b,rfl,b,rfl,b,rfl, ?_,_,rfl, ?_,fun p1 hp1 p2 hp2=>wF zB (by lia) (by simp only[nF,nY];lia) fun x hx=>?_⟩⟩⟩
  ·exact zGc c1 c2
  ·exact zMg c1 c2
  have e30:Txt.slice (Str.ofString (toString b)) none (some 30)=tx ((ts (Str.ofString (toString b))).take 30):=zHw _ 30;rw[e30] at hx⊢;have g:=(zC hp1 (.lst [V.int b])).trans (zC hp2 (.lst [V.bl (decide (V.int b=V.int 1)),V.int (b+1 - 2*if 0<b then 1 else 0),V.str (tx ((ts (Str.ofString (toString b))).take 30)),V.ref p1]));simp only[mG,nO,pN] at hx;rcases hx with rfl | rfl | rfl | rfl
  ·exact q _ _ (.bl _) g rfl ⟨mC,mC,mL _,nE rfl⟩
  ·exact q _ _ (.int _) g rfl ⟨mC,⟨by split<;>lia,by split<;>lia⟩,mL _,nE rfl⟩
  ·exact q _ _ (.str _) g rfl ⟨mC,mY (List.length_take_le _ _) (by decide),mL _,nE rfl⟩
  ·exact q _ _ (.lst [.int b]) g ⟨p1,_,rfl,zC hp2 _ _ _ zB,_,_,rfl,rfl,rfl⟩ ⟨⟨by simp,mC,mC⟩,⟨⟨c1,c2⟩,mC⟩,mE _,nE rfl⟩
 | str b=>
  cases (show v=_ from hv);have hc':b.length≤100:=hc;have eap:tx b++Str.ofString " " =tx (b++ [32]):=(show tx b++tx [32]=_ from zAb b [32]);refine iN (by simp) ⟨_,hv.ty,iN (by simp[tyT,zO]) ⟨_,hv.ty,iN (by simp[tyT,zO]) ⟨_,hv.ty,iP (by simp[tyT,zO]) ⟨_,rfl, ?_,_,rfl, ?_,_,rfl, ?_, ?_⟩⟩⟩⟩
  ·rw[mQ,vE];lia
  ·show(tx b).length+_≤_
   rw[vE];show b.length+1≤_
   lia
  ·rw[mQ,eap,vE,mO]
   show b.length+1≤_
   lia
  ·unfold zNi
   walk_at "rd3";have e1:Txt.slice (tx b) (some 1) none=tx (b.drop 1):=zIz (tx b) 1;have e2:Txt.slice (tx b++Str.ofString " ") none (some 30)=tx ((b++ [32]).take 30):=by rw[eap];exact zHw (tx (b++ [32])) 30
   rw[e1,e2];refine⟨_,rfl,by rw[mQ,vE];lia,fun p1 hp1=>wF zB (by lia) (by simp only[nF,nY];lia) fun x hx=>?_⟩;have g:=zC hp1 (.lst [V.str (tx (b.drop 1)),V.str (tx ((b++ [32]).take 30)),V.str (tx (ts (tx b)).reverse),V.non]);simp only[mG,nO,pN] at hx;rcases hx with rfl | rfl | rfl | rfl
   ·exact q _ _ (.str _) g rfl ⟨mC,by show(b.drop 1).length≤100;rw[nU];lia,mL _,nE rfl⟩
   ·exact q _ _ (.str _) g rfl ⟨mC,mY (List.length_take_le _ _) (by decide),mL _,nE rfl⟩
   ·exact q _ _ (.str _) g rfl ⟨mC,by show(ts (tx b)).reverse.length≤100;rw[rD];exact hc',mL _,nE rfl⟩
   ·exact q _ _ .non g rfl ⟨mC,mC,mL _,nE rfl⟩
 | lst us=>
  have hty:=hv.ty;refine iN (by obtain⟨a,xs,rfl,_⟩:=hv;simp) ⟨_,hty,iN (by simp[tyT,zO]) ⟨_,hty,iN (by simp[tyT,zO]) ⟨_,hty,iN (by simp[tyT,zO]) ⟨_,hty,iP (by simp[tyT,zO]) fun p1 hp1 p2 hp2 p3 hp3 p4 hp4 p5 hp5=>wF zB (by lia) (by simp only[nF,nY];lia) fun x hx=>?_⟩⟩⟩⟩;have g5:=zC hp5 (.lst [V.ref p1,V.ref p2,V.ref p4,V.str (Str.ofString "")]);have g4:=(zC hp4 (.lst [V.ref p3])).trans g5;have g3:=(zC hp3 (.lst [])).trans g4;have g2:=(zC hp2 (.lst [V.non])).trans g3;have g:=(zC hp1 (.dK [])).trans g2;simp only[mG,nO,pN] at hx;have h1:(1:Nat)≤T.dep (.lst us)+1:=nN (mL _);have h2:(2:Nat)≤T.dep (.lst us)+1:=nN (nN (mL _));rcases hx with rfl | rfl | rfl | rfl
  ·exact q _ _ (.dic [] []) g ⟨p1,[],rfl,g2 _ _ zB,rfl,rfl⟩ ⟨⟨sE,by decide,rfl,mC⟩,mC,h1,nE rfl⟩
  ·exact q _ _ (.lst [.non]) g ⟨p2,_,rfl,g3 _ _ zB,_,_,rfl,rfl,rfl⟩ ⟨⟨by simp,mC,mC⟩,⟨mC,mC⟩,h1,nE rfl⟩
  ·exact q _ _ (.lst [.lst []]) g ⟨p4,_,rfl,g5 _ _ zB,_,_,rfl,⟨p3,[],rfl,g4 _ _ zB,rfl⟩,rfl⟩ ⟨⟨by simp,⟨by simp,mC⟩,mC⟩,⟨mC,mC⟩,h2,nE rfl⟩
  ·exact q _ _ (.str []) g rfl ⟨mC,mL _,mL _,nE rfl⟩
 | dic ks us=>
  have hty:=hv.ty;refine iN (by obtain⟨a,xs,rfl,_⟩:=hv;simp) ⟨_,hty,iN (by simp[tyT,zO]) ⟨_,hty,iN (by simp[tyT,zO]) ⟨_,hty,iN (by simp[tyT,zO]) ⟨_,hty,iN (by simp[tyT,zO]) fun p1 hp1 p2 hp2=>⟨zB,[(Sum.inr "a", .non)],rfl,by decide,fun p3 hp3 p4 hp4=>⟨?_,[(Sum.inr "a", .ref p4)],rfl,by simp,fun p5 hp5=>wF zB (by lia) (by simp only[nF,nY];lia) fun x hx=>?_⟩⟩⟩⟩⟩⟩
  ·rw[zR (yK zB hp4)];exact zB
  rw[show wK [] [(Sum.inr (Str.ofString "a"),V.non)]= [(Sum.inr (Str.ofString "a"),V.non)] from rfl] at*;rw[show wK [] [(Sum.inr (Str.ofString "a"),V.ref p4)]= [(Sum.inr (Str.ofString "a"),V.ref p4)] from rfl] at*;have gA:=zC hp1 (.lst []);have hA1:upd H p1 (.lst []) p1=some (.lst []):=zB;generalize upd H p1 (.lst [])=A1 at*;have gB:Same A1 (upd (upd A1 p2 (.dK [])) p2 (.dK [(Sum.inr (Str.ofString "a"),V.non)])):=(zC hp2 _).put hp2 _;have hB2:upd (upd A1 p2 (.dK [])) p2 (.dK [(Sum.inr (Str.ofString "a"),V.non)]) p2=some (.dK [(Sum.inr (Str.ofString "a"),V.non)]):=zB;generalize upd (upd A1 p2 (.dK [])) p2 (.dK [(Sum.inr (Str.ofString "a"),V.non)])=B1 at*;have gC:Same B1 (upd (upd (upd B1 p3 (.dK [])) p4 (.dK [])) p3 (.dK [(Sum.inr (Str.ofString "a"),V.ref p4)])):=((zC hp3 _).trans (zC hp4 _)).put hp3 _;have hC3:upd (upd (upd B1 p3 (.dK [])) p4 (.dK [])) p3 (.dK [(Sum.inr (Str.ofString "a"),V.ref p4)]) p3=some (.dK [(Sum.inr (Str.ofString "a"),V.ref p4)]):=zB;have hC4:upd (upd (upd B1 p3 (.dK [])) p4 (.dK [])) p3 (.dK [(Sum.inr (Str.ofString "a"),V.ref p4)]) p4=some (.dK []):=by rw[zR (yK zB hp4).symm];exact zB
  generalize upd (upd (upd B1 p3 (.dK [])) p4 (.dK [])) p3 (.dK [(Sum.inr (Str.ofString "a"),V.ref p4)])=C1 at*;have gD:=zC hp5 (.lst [V.ref p1,V.ref p2,V.ref p3,V.non]);have g:=gA.trans (gB.trans (gC.trans gD));simp only[mG,nO,pN] at hx;have h1:(1:Nat)≤T.dep (.dic ks us)+1:=nN (mL _);have h2:(2:Nat)≤T.dep (.dic ks us)+1:=nN (nN (mL _));have ea:(Sum.inr (Str.ofString "a"):Key)=Sum.inr (tx (ts (Str.ofString "a"))):=by rw[jW]
  rcases hx with rfl | rfl | rfl | rfl
  ·exact q _ _ (.lst []) g ⟨p1,[],rfl,(gB.trans (gC.trans gD)) _ _ hA1,rfl⟩ ⟨⟨by simp,mC⟩,mC,h1,nE rfl⟩
  ·exact q _ _ (.dic [ts (Str.ofString "a")] [.non]) g ⟨p2,_,rfl,(gC.trans gD) _ _ hB2,by rw[mN,pK,mN,pK,←ea],_,_,rfl,rfl,rfl⟩ ⟨⟨by simp,by simp,rfl,mC,mC⟩,⟨mC,mC⟩,h1,nE rfl⟩
  ·exact q _ _ (.dic [ts (Str.ofString "a")] [.dic [] []]) g ⟨p3,_,rfl,gD _ _ hC3,by rw[mN,pK,mN,pK,←ea],_,_,rfl,⟨p4,[],rfl,gD _ _ hC4,rfl,rfl⟩,rfl⟩ ⟨⟨by simp,by simp,rfl,⟨sE,by decide,rfl,mC⟩,mC⟩,⟨mC,mC⟩,h2,nE rfl⟩
  ·exact q _ _ .non g rfl ⟨mC,mC,mL _,nE rfl⟩
 | tup us=>exact hf.elim
abbrev zHe:Stmt:=top 37
theorem gY{a b:List T}(h:a.Perm b):T.szs a=T.szs b:=by
 induction h with
 | nil=>rfl
 | cons x _ ih=>show T.sz x+_=T.sz x+_;rw[ih]
 | swap x y l=>show T.sz y+(T.sz x+_)=T.sz x+(T.sz y+_);lia
 | trans _ _ h1 h2=>exact h1.trans h2
theorem uJ:∀{ks:List (List Nat)}{us:List T},ks.Nodup→ks.length=us.length→T.szs (ks.map fun k=>yH k ks us)=T.szs us
 | [],[],_,_=>rfl
 | [],_::_,_,h=>by simp at h
 | _::_,[],_,h=>by simp at h
 | k::ks,u::us,nd,hl=>by
  rw[pA] at nd;rw[mN];show T.sz (if k=k then u else _)+T.szs _=T.sz u+T.szs us;have e:(ks.map fun k'=>yH k' (k::ks) (u::us))=ks.map fun k'=>yH k' ks us:=pW fun k' hk'=>by
   show(if k=k' then u else yH k' ks us)=_;rw[mJ fun(e:k=k')=>nd.1 (e▸hk')]
  rw[mW rfl,e,uJ nd.2 (by simpa using hl)]
theorem zAy(a:List T):T.szs a.reverse=T.szs a:=gY (List.reverse_perm a)
theorem vK(a:List T)(i:Nat):T.szs (a.take i)≤T.szs a:=by
 have:=wU (a.take i) (a.drop i);rw[sT] at this
 lia
theorem jY(a:List T)(i:Nat):T.szs (a.drop i)≤T.szs a:=by
 have:=wU (a.take i) (a.drop i);rw[sT] at this
 lia
def zDl(n:Nat):Sp:=fun vs H Q _=>∃(v:V)(m:Int)(nm:List Nat)(t:T),vs= [v, .int m, .str (tx nm)]∧Rep H v t∧T.few t∧T.calm t∧T.dep t<n∧n≤20∧T.sz t≤8000∧0≤m∧∀v' H' t',Same H H'→Rep H' v' t'→Fit (T.dep t+1) (3*T.sz t) t'→Q v' H'
theorem scVar:yE ["_law_thing","_law_more","_law_names","_law_at","_law_some","_law_result","_law_name"] ["_law_thing","_law_more","_law_names"] (zJ zHe):=by walk_at "sc"
theorem zQw{n:Nat}(F:Fun K "_law_varied" "_law_varied" zHe f fd)(B:Bl2 mg)(G_law_leaf_other:Dn P w K mg base 1 "_law_leaf_other" ["_law_thing","_law_more"] zFo)(G_law_held:Dn P w K mg base (1+20) "_law_held" ["_law_thing"] (gQ 20))
  (G_law_varied:Dn P w K mg base (21+n) "_law_varied" ["_law_thing","_law_more","_law_names"] (zDl n)):FnOk P w K mg base CX0 (21+n+1) f fd ["_law_thing","_law_more","_law_names"] (zDl (n+1)):=by
 refine F.ok scVar (by walk_at "ln") fun c A o s H vs Q E hr h=>?_;obtain⟨v,m,nm,t,rfl,hv,hf,hc,hd,hn,hz,hm,q⟩:=h;have nd:=scVar.nd;have hu:=wC hr;have hu0:=hr.units0;refine⟨_,(zF (wY (zS (PW.pt (xO (zY (pI B.isinstance zI B.list xB (pv 0))) (xO (zP (zGb hu0) (pv 0) (zX zD) (zN _)) (xT (zP qU (zH zU (pv 1) zE) zE (zN _)))))) (zF (pS 3 nd (zH zU (zH zW (pv 1) zE) (zM yD rfl B.len yO (zA (pv 0) zD))))
  (zG (zK (zH vT (zH vT (xR vJ (pv 0) wD (xG (pv 3))) (zX (zA (zT G_law_varied hr (by lia) rfl (zA (yI yA (pv 0) (pv 3) (fun _ _=>rfl)) (zA (zH zW (pv 1) zE) (zA (pv 2) zD)))) zD))) (xR vJ (pv 0) (xG (zH yR (pv 3) zE)) wD))))) zL))
  (zF (wY (zS (PW.pt (xO (zY (pI B.isinstance zI B.dict yP (pv 0))) (xO (zP (zJn hu0) (pv 0) vM (zN _)) (xT (zP qU (zH zU (pv 1) zE) zE (zN _)))))) (zF (pS 4 nd (zM (yY rfl) rfl B.sorted wH (zA (pv 0) zD)))
  (zF (wY (zS (zP yX (zH zU (zH zW (pv 1) zE) zE) zE (zN _)) (zG (pS 4 nd (zCs zBh (pv 4) (xG (vC xZ zE))))) zL))
  (zF (pS 3 nd (yI yA (pv 4) (zH zU (zH zW (pv 1) zE) (zM yD rfl B.len yO (zA (pv 4) zD))) (fun _ _=>rfl)))
  (zF (pS 5 nd vM)
  (zF (wT PassesOwn.never rfl (xM (pv 4)) (yF (i:=6) nd rfl (nH rfl)) (zG (zS (zP zBu (pv 6) (pv 3) (zN _)) (zG (kU hu (pv 5) (pv 6) (uE (zT G_law_held hr (by lia) rfl (zA (xL hu (pv 0) (pv 6) (fun _ _=>rfl)) zD))) rfl)) (zG (zS (zP yX (zH zU (zH zW (pv 1) zE) zE) zE (zN _)) (zG (kU hu (pv 5) (pv 2) (uE (zT G_law_held hr (by lia) rfl (zA (xL hu (pv 0) (pv 6) (fun _ _=>rfl)) zD))) rfl)) (zG (kU hu (pv 5) (pv 6) (uE (zT G_law_varied hr (by lia) rfl (zA (xL hu (pv 0) (pv 6) (fun _ _=>rfl)) (zA (zH zW (pv 1) zE) (zA (pv 2) zD))))) rfl)))))))
  (zG (zK (pv 5)))))))) zL))
  (zF (wY (zS (PW.pt (xO (zY (pI B.isinstance zI B.list xB (pv 0))) (xT (zP (zGb hu0) (pv 0) (zX zD) (zN _))))) (zG (zK (yI yA (zX (zA (xR vJ (pv 0) (xG zE) wD) (zA (xR vJ (pv 0) wD (xG (vC xZ zE))) (zA (zH vT (pv 0) (zX (zA (yI yA (pv 0) zE (fun _ _=>rfl)) zD))) (zA (zCs zBh (pv 0) (xG (vC xZ zE))) zD))))) (zH zU (zH zW (pv 1) zE) zE) (fun _ _=>rfl)))) zL))
  (zF (wY (zS (PW.pt (xO (zY (pI B.isinstance zI B.dict yP (pv 0))) (xT (zP (zJn hu0) (pv 0) vM (zN _))))) (zG (zK (yM (qM rfl) rfl B.dict yP (zA (xF (own:=["_law_name"]) (F:=[("_law_thing",0)]) ⟨rfl,by walk_at "wu",by walk_at "wu",by walk_at "wu",(.cons rfl rfl rfl .nil)⟩ rfl (xM (xR vJ (zM (yY rfl) rfl B.sorted wH (zA (pv 0) zD)) (xG zE) wD)) (fun _ _ _ _=>yF (i:=0) (by show(xK ["_law_name"] [("_law_thing",0)]).Nodup;decide+kernel) rfl (nH rfl)) (fun _ _ _ _=>yZ) (fun _ _ _ _=>(wM (zA (pv 0) (zA (xL hu (pv 1) (pv 0) (fun _ _=>rfl)) zD))))) zD)))) zL))
  (zG (zK (zT G_law_leaf_other hr (by lia) rfl (zA (pv 0) (zA (zH zW (pv 1) zE) zD))))))))), ?_⟩
 walk_at "st";walk_at "rd3";unfold zOb;walk_at "rd3";have hty:=hv.ty;refine⟨fun σ' H'=>σ'= [some v,some (.int m),some (.str (tx nm)),none,none,none,none]∧Same H H', ?_, ?_⟩
 ·cases t with
  | lst us=>
   refine⟨_,hty,iP (by simp[tyT,zO]) fun p hp=>?_⟩;have hv0:=hv;obtain⟨a,xs,rfl,ha,hx⟩:=hv;have hxl:=hx.length;have g1:=zC hp (.lst []);refine⟨a,p,xs,rfl,rfl,SqL.of (g1 _ _ ha),SqL.of zB,_,rfl, ?_⟩
   by_cases hemp:xs.isEmpty=true
   ·exact iN (by simp[hemp]) ⟨rfl,g1⟩
   refine iP (by simp[hemp]) ?_
   by_cases h7:0<m % 7
   ·refine iP h7 ⟨a,rfl,xs,SqL.of (g1 _ _ ha), ?_, ?_⟩
    ·have:xs≠ []:=fun z=>hemp (by rw[z];rfl)
     have:=rP.mpr this
     lia
    have hpos:0<xs.length:=rP.mpr fun z=>hemp (by rw[z];rfl);obtain⟨i,hi,hil⟩:∃i:Nat,m / 7 % (xs.length:Int)=i∧i<xs.length:=by
     have h1:=pO (m / 7) (show(xs.length:Int)≠0 by lia);have h2:=pH (m / 7) (show(0:Int)<xs.length by lia);exact⟨(m / 7 % (xs.length:Int)).toNat,by lia,by lia⟩
    rw[hi];obtain⟨t1,ht1,hr1⟩:=hx.get (i:=i) (v:=xs[i]) (by simp[hil]);have hm1:=mF ht1;have hd1:=T.deps_le hm1;have hdl:T.deps us+1<n+1:=hd;have hzl:T.szs us+1≤8000:=hz;have hsp:=zLz ht1;refine⟨a,xs,rfl,SqL.of (g1 _ _ ha),fun p2 hp2=>?_⟩;rw[zId];have g2:=g1.trans (zC hp2 (.lst (xs.take i)));have hP2:upd (upd H p (.lst [])) p2 (.lst (xs.take i)) p2=some (.lst (xs.take i)):=zB;generalize upd (upd H p (.lst [])) p2 (.lst (xs.take i))=H2 at*;refine yN (SqL.of (g2 _ _ ha)) (yJ (v:=xs[i]) (by simp[hil])) ⟨_,_,nm,t1,rfl,Rep.same g2 _ _ hr1,T.fews_mem hf.2 hm1,T.calms_mem hc hm1,by lia,by lia,by lia,by lia,fun v' H3 t' g3 hv' ft p3 hp3=>?_⟩;have g3':=g3.trans (zC hp3 (.lst [v']));have hv3:=Rep.same (zC hp3 (.lst [v'])) _ _ hv';have hP3:upd H3 p3 (.lst [v']) p3=some (.lst [v']):=zB;generalize upd H3 p3 (.lst [v'])=H4 at*;have hl1:(xs.take i).length=i:=by rw[sF];lia
    refine⟨p2,p3,_,_,rfl,rfl,g3' _ _ hP2,hP3,by rw[mQ,hl1,mM];have:=uF us;lia,fun p4 hp4=>?_⟩;have g4:=zC hp4 (.lst (xs.take i++ [v']));have hP4:upd H4 p4 (.lst (xs.take i++ [v'])) p4=some (.lst (xs.take i++ [v'])):=zB;generalize upd H4 p4 (.lst (xs.take i++ [v']))=H5 at*;have gH5:=g2.trans (g3'.trans g4);refine⟨a,xs,rfl,SqL.of (gH5 _ _ ha),fun p5 hp5=>?_⟩;rw[show((i:Int)+1)=((i+1:Nat):Int) by lia,jZ];have g5:=zC hp5 (.lst (xs.drop (i+1)));have hP5:upd H5 p5 (.lst (xs.drop (i+1))) p5=some (.lst (xs.drop (i+1))):=zB;generalize upd H5 p5 (.lst (xs.drop (i+1)))=H6 at*;refine⟨p4,p5,_,_,rfl,rfl,g5 _ _ hP4,hP5, ?_,fun p6 hp6=>?_⟩
    ·rw[mQ,mO,hl1,mM,nU]
     have:=uF us
     lia
    have g6:=zC hp6 (.lst (xs.take i++ [v']++xs.drop (i+1)));refine q _ _ (.lst (us.take i++ [t']++us.drop (i+1))) (gH5.trans (g5.trans g6)) ⟨p6,_,rfl,zB, ?_⟩ ?_
    ·refine Reps.append (Reps.same (gH5.trans (g5.trans g6)) _ _ (Reps.drop (i+1) hx)) (Reps.snoc (Rep.same (g4.trans (g5.trans g6)) _ _ hv3) (Reps.same (gH5.trans (g5.trans g6)) _ _ (Reps.take i hx)))
    ·have kf:=zDc hf.2 hc
     have hdt:=ft.dep;have hzt:=ft.sz;have hsz:T.szs (us.take i++ [t']++us.drop (i+1))=T.szs (us.take i)+T.sz t'+T.szs (us.drop (i+1)):=by rw[wU,vP]
     have hzq:T.sz (.lst us)=T.szs us+1:=rfl;refine Fit.row (fun u hu=>?_) (nN (mL _)) (by lia) (by lia);rcases nD.mp hu with z | z
     ·rcases nD.mp z with z | z
      ·have:=kf u (aF z)
       exact⟨this.1,this.2.1,pU this.2.2⟩
      ·rw[nM] at z
       subst z;refine⟨ft.few,ft.calm, ?_⟩;show T.dep u+1≤T.deps us+1+1
       lia
     ·have:=kf u (rB z)
      exact⟨this.1,this.2.1,pU this.2.2⟩
   ·exact iN h7 ⟨rfl,g1⟩
  | _=>exact⟨_,hty,iN (by simp[tyT,zO]) ⟨rfl,Same.refl _⟩⟩
 ·rintro σ' H1 ⟨rfl,g1⟩
  walk_at "rd3";have hty1:=vQ g1 hty;refine⟨fun σ' H'=>σ'= [some v,some (.int m),some (.str (tx nm)),none,none,none,none]∧Same H H', ?_, ?_⟩
  ·cases t with
   | dic ks us=>
    refine⟨_,hty1,iP (by simp[tyT,zO]) fun p hp=>?_⟩;obtain⟨a,ps,rfl,ha,hk,hx⟩:=hv;have g2:=g1.trans (zC hp (.dK []));have hpe:upd H1 p (.dK []) p=some (.dK []):=zB;generalize upd H1 p (.dK [])=H2 at*;refine⟨a,p,ps,rfl,rfl,g2 _ _ ha,hpe,_,rfl, ?_⟩
    by_cases hemp:ps.isEmpty=true
    ·exact iN (by simp[hemp]) ⟨rfl,g2⟩
    refine iP (by simp[hemp]) ?_
    by_cases h7:0<m % 7
    ·refine iP h7 ?_
     obtain⟨nk,h64,hle,hfk⟩:=hf;refine⟨a,rfl,ps, .inl (g2 _ _ ha),ks.map tx,by rw[hk,pC];rfl,by rw[mB];exact h64,fun l ss hl hp1 hs1=>?_⟩;have es:=jM hp1 hs1;have emap:ss.map V.str=(yW ks).map fun k=>V.str (tx k):=by rw[es,pC];rfl
     rw[emap];have g3:=g2.trans (zC hl (.lst ((yW ks).map fun k=>V.str (tx k))));have hl3:upd H2 l (.lst ((yW ks).map fun k=>V.str (tx k))) l=some (.lst ((yW ks).map fun k=>V.str (tx k))):=zB;generalize upd H2 l (.lst ((yW ks).map fun k=>V.str (tx k)))=H3 at*;refine⟨fun σ' H'=>∃(l:Addr)(ns:List (List Nat)),σ'= [some (.ref a),some (.int m),some (.str (tx nm)),none,some (.ref l),none,none]∧H' l=some (.lst (ns.map fun k=>V.str (tx k)))∧ns.Perm ks∧Same H H', ?_, ?_⟩
     ·by_cases h5:m / 5 % 2=1
      ·refine iP h5 ?_
       unfold zNi;walk_at "rd3";refine⟨l,_,rfl,SqL.of hl3,fun l2 hl2=>⟨l2,rfl,(yW ks).reverse, ?_,(List.reverse_perm _).trans (xD ks),g3.trans (zC hl2 _)⟩⟩;rw[zB,List.map_reverse]
      ·exact iN h5 ⟨l,yW ks,rfl,hl3,xD ks,g3⟩
     rintro σ' H4 ⟨l4,ns,rfl,hl4,hpm,g4⟩;walk_at "rd3";have hnl:ns.length=ks.length:=hpm.length_eq;have hkl:ps.length=ks.length:=by have:=congrArg List.length hk;simpa using this
     have hpos:0<ps.length:=rP.mpr fun z=>hemp (by rw[z];rfl);refine⟨_,SqL.of hl4,by rw[mB];lia, ?_⟩;obtain⟨x,hx1,hxm⟩:=jH (xs:=ns.map fun k=>V.str (tx k)) (i:=m / 7 % ((ns.map fun k=>V.str (tx k)).length:Int)) (pO _ (by rw[mB];lia)) (pH _ (by rw[mB];lia));obtain⟨kat,hkat,rfl⟩:=nL.mp hxm;refine yN (SqL.of hl4) hx1 fun pr hpr=>?_;have hl5:=zC hpr (.dK []) _ _ hl4;have hne:l4≠pr:=yK hl4 hpr;refine⟨⟨_,SqL.of hl5⟩,zAh (K:=K) (a:=l4) (xs:=ns.map fun k=>V.str (tx k)) (fun i σ' H'=>∃o6,σ'= [some (.ref a),some (.int m),some (.str (tx nm)),some (.str (tx kat)),some (.ref l4),some (.ref pr),o6]∧Same H4 (wL H' pr)∧∃(qs:List (Key×V))(ks':List (List Nat))(us':List T),H' pr=some (.dK qs)∧qs.map (·.1)=ks'.map nK∧Reps (wL H' pr) (qs.map (·.2)) us'∧ks'.Nodup∧ks'.length≤i∧(∀u∈us',T.few u∧T.calm u∧T.dep u+1≤T.deps us+1+1)∧T.szs us'≤3*T.szs ((ns.take i).map fun k=>yH k ks us)) ?_ ?_ ?_ ?_⟩
     ·exact⟨_,rfl,by rw[qS,zMt hpr];exact Same.refl _,[],[],[],zB,rfl,rfl,sE,mE _,fun u hu=>(nomatch hu),mL _⟩
     ·rintro i σ' H' _ ⟨o6,rfl,gh,_⟩
      exact SqL.of (xQ _ _ (gh _ _ hl4))
     ·rintro i y σ' H' hy ⟨o6,rfl,gh,qs,ks',us',hq,hqk,hqr,hqn,hql,hqf,hqz⟩
      unfold zGa zJo;walk_at "rd3";rw[mU] at hy
      cases hki:ns[i]? with
      | none=>rw[hki] at hy;cases hy
      | some k=>
       rw[hki] at hy;have ey:V.str (tx k)=y:=mX hy;subst ey;have hmk:k∈ks:=hpm.mem_iff.mp (mF hki);have hmu:=xP hmk hle;have hdu:=T.deps_le hmu;have hzu:=T.szs_le hmu;have hdl:T.deps us+1<n+1:=hd;have hzl:T.szs us+1≤8000:=hz;have hapr:a≠pr:=yK (g4 _ _ ha) hpr;have G:∀w:HO,Same H (upd H' pr w):=fun w=>g4.trans (gh.trans uC);have fin:∀(o:Obj)(key:List Nat)(v':V)(Hc:Hp)(t'':T),Same (upd H' pr (.frz o (.dK qs))) Hc→Rep Hc v' t''→(T.few t''∧T.calm t''∧T.dep t''≤T.deps us+1)→T.sz t''≤3*T.sz (yH k ks us)→
         ∃x,DPut (L2.thaw H' Hc) pr (V.str (tx key)) v' x∧Same H4 (wL x pr)∧∃qs,x pr=some (HO.dK qs)∧∃x_1,List.map (fun x=>x.fst) qs=List.map nK x_1∧∃x_2,Reps (wL x pr) (List.map (fun x=>x.snd) qs) x_2∧x_1.Nodup∧x_1.length≤i+1∧
          (∀(u:T),u∈x_2→u.few∧u.calm∧u.dep≤T.deps us+1)∧T.szs x_2≤3*T.szs (List.map (fun k=>yH k ks us) (List.take (i+1) ns)):=by
        intro o key v' Hc t'' g hv' hfit hsz;have hback:L2.thaw H' Hc pr=some (.dK qs):=zDq hq (by intro o v z;cases z) g;have hoff:Rep (wL (L2.thaw H' Hc) pr) v' t'':=Rep.off (g pr _ zB) hv';have hst:Same (wL H' pr) (wL (L2.thaw H' Hc) pr):=zMj g;obtain⟨ks2,us2,e1,e2,e3,e4,e5,e6⟩:=zSy (n:=key) hqk (Reps.same hst _ _ hqr) hqn hoff;have hqlen:qs.length=ks'.length:=by have:=congrArg List.length hqk;simpa using this
        have hil:i<ns.length:=(nB.mp hki).1;refine⟨_,DPut.k (k:=nK key) hback (by rw[mQ];lia),by rw[qS];exact gh.trans hst,_,zB,ks2,e1,us2,by rw[qS];exact e2,e3,by lia,fun u hu=>?_, ?_⟩
        ·rcases e4 u hu with z | z
         ·have:=hqf u z
          exact⟨this.1,this.2.1,by lia⟩
         ·rw[z];exact hfit
        ·rw[yG hki,mP,mN,pK,vP]
         lia
       refine⟨rfl, ?_⟩
       by_cases hat:V.str (tx k)=V.str (tx kat)
       ·refine⟨false,by simp[hat],zFi ?_⟩
        by_cases h3:m / 3 % 5=1
        ·refine iP h3 ⟨pr, .inl ⟨qs,hq,fun o=>?_⟩⟩
         obtain⟨x,hx1',hx2⟩:=Rep.at_name nk hk (Reps.same (G (.frz o (.dK qs))) _ _ hx) hmk;exact⟨x, .inl ⟨ps,Sum.inr (tx k), .inl ((G _) _ _ ha),rfl,hx1'.symm⟩,x,_,rfl,hx2,kP _ _ (mE _) (T.fews_mem hfk hmu),by lia,by lia,fun v' Hc gc hvc=>fin o nm v' Hc _ gc hvc ⟨T.fews_mem hfk hmu,T.calms_mem hc hmu,by lia⟩ (by lia)⟩
        ·refine iN h3 ⟨pr, .inl ⟨qs,hq,fun o=>?_⟩⟩
         obtain⟨x,hx1',hx2⟩:=Rep.at_name nk hk (Reps.same (G (.frz o (.dK qs))) _ _ hx) hmk;exact⟨x, .inl ⟨ps,Sum.inr (tx k), .inl ((G _) _ _ ha),rfl,hx1'.symm⟩,x,_,nm,_,rfl,hx2,T.fews_mem hfk hmu,T.calms_mem hc hmu,by lia,by lia,by lia,by lia,fun v' Hc t'' gc hvc ft=>fin o k v' Hc _ gc hvc ⟨ft.few,ft.calm,by have:=ft.dep;lia⟩ ft.sz⟩
       ·refine⟨true,by simpa using hat,zFs ⟨pr, .inl ⟨qs,hq,fun o=>?_⟩⟩⟩
        obtain⟨x,hx1',hx2⟩:=Rep.at_name nk hk (Reps.same (G (.frz o (.dK qs))) _ _ hx) hmk;exact⟨x, .inl ⟨ps,Sum.inr (tx k), .inl ((G _) _ _ ha),rfl,hx1'.symm⟩,x,_,rfl,hx2,kP _ _ (mE _) (T.fews_mem hfk hmu),by lia,by lia,fun v' Hc gc hvc=>fin o k v' Hc _ gc hvc ⟨T.fews_mem hfk hmu,T.calms_mem hc hmu,by lia⟩ (by lia)⟩
     ·rintro σ' H' ⟨o6,rfl,gh,qs,ks',us',hq,hqk,hqr,hqn,hql,hqf,hqz⟩
      walk_at "rd3";have hqlen:ks'.length=us'.length:=by
       have h1:=congrArg List.length hqk;have h2:=hqr.length;simp only[mB] at h1 h2
       lia
      rw[mB] at hql;rw[mB,nT,gY (hpm.map fun k=>yH k ks us),uJ nk hle] at hqz;have hzq:T.sz (.dic ks us)=T.szs us+1:=rfl;have hns:ns.length<64:=by lia
      refine q _ _ (.dic ks' us') (g4.trans (gh.trans xQ)) ⟨pr,qs,rfl,hq,hqk,Reps.same xQ _ _ hqr⟩ (Fit.book hqn (by lia) hqlen (fun u hu=>?_) (nN (mL _)) (by lia));have:=hqf u hu;exact⟨this.1,this.2.1,this.2.2⟩
    ·exact iN h7 ⟨rfl,g2⟩
   | _=>exact⟨_,hty1,iN (by simp[tyT,zO]) ⟨rfl,g1⟩⟩
  clear g1 hty1 H1;rintro σ' H1 ⟨rfl,g1⟩;walk_at "rd3";have hty1:=vQ g1 hty;refine⟨fun σ' H'=>σ'= [some v,some (.int m),some (.str (tx nm)),none,none,none,none]∧Same H H', ?_, ?_⟩
  ·cases t with
   | lst us=>
    refine⟨_,hty1,iP (by simp[tyT,zO]) fun p hp=>?_⟩;obtain⟨a,xs,rfl,ha,hx⟩:=hv;have hxl:=hx.length;have g2:=g1.trans (zC hp (.lst []));have hpe:upd H1 p (.lst []) p=some (.lst []):=zB;generalize upd H1 p (.lst [])=H2 at*;refine⟨a,p,xs,rfl,rfl,SqL.of (g2 _ _ ha),SqL.of hpe,_,rfl, ?_⟩
    by_cases hemp:xs.isEmpty=true
    ·exact iN (by simp[hemp]) ⟨rfl,g2⟩
    refine iP (by simp[hemp]) ?_;have hpos:0<xs.length:=rP.mpr fun z=>hemp (by rw[z];rfl);have hzl:T.szs us+1≤8000:=hz;have hlz:=uF us;have kf:=zDc hf.2 hc;have kf':∀u∈us,T.few u∧T.calm u∧T.dep u+1≤T.dep (.lst us)+1:=fun u hu=>⟨(kf u hu).1,(kf u hu).2.1,pU (kf u hu).2.2⟩;have hzq:T.sz (.lst us)=T.szs us+1:=rfl;refine⟨a,xs,rfl,SqL.of (g2 _ _ ha),fun p1 hp1=>?_⟩;rw[show zBe xs (some 1) none=xs.drop 1 from jZ xs 1];have g3:=zC hp1 (.lst (xs.drop 1));have hA1:upd H2 p1 (.lst (xs.drop 1)) p1=some (.lst (xs.drop 1)):=zB;generalize upd H2 p1 (.lst (xs.drop 1))=H3 at*;refine⟨a,xs,rfl,SqL.of ((g2.trans g3) _ _ ha),fun p2 hp2=>?_⟩;rw[zCg];have g4:=zC hp2 (.lst (xs.take (xs.length - 1)));have hA2:upd H3 p2 (.lst (xs.take (xs.length - 1))) p2=some (.lst (xs.take (xs.length - 1))):=zB;generalize upd H3 p2 (.lst (xs.take (xs.length - 1)))=H4 at*;obtain⟨t0,ht0,hr0⟩:=hx.get (i:=0) (v:=xs[0]) (by simp[hpos]);refine yN (SqL.of ((g2.trans (g3.trans g4)) _ _ ha)) (yJ (j:=0) (v:=xs[0]) (by simp[hpos])) fun p3 hp3=>?_;have g5:=zC hp3 (.lst [xs[0]]);have hA3:upd H4 p3 (.lst [xs[0]]) p3=some (.lst [xs[0]]):=zB;generalize upd H4 p3 (.lst [xs[0]])=H5 at*;refine⟨a,p3,xs,_,rfl,rfl,(g2.trans (g3.trans (g4.trans g5))) _ _ ha,hA3,by rw[mQ,mM];lia,fun p4 hp4=>?_⟩;have g6:=zC hp4 (.lst (xs++ [xs[0]]));have hA4:upd H5 p4 (.lst (xs++ [xs[0]])) p4=some (.lst (xs++ [xs[0]])):=zB;generalize upd H5 p4 (.lst (xs++ [xs[0]]))=H6 at*;unfold zNi;walk_at "rd3";refine⟨a,xs,rfl,SqL.of ((g2.trans (g3.trans (g4.trans (g5.trans g6)))) _ _ ha),fun p5 hp5 p6 hp6=>?_⟩;have g7:=zC hp5 (.lst xs.reverse);have hA5:upd H6 p5 (.lst xs.reverse) p5=some (.lst xs.reverse):=zB;generalize upd H6 p5 (.lst xs.reverse)=H7 at*;refine wF zB (by lia) (by simp only[nF,nY];lia) fun x hx'=>?_;have g8:=zC hp6 (.lst [V.ref p1,V.ref p2,V.ref p4,V.ref p5]);have gA:=g2.trans (g3.trans (g4.trans (g5.trans (g6.trans (g7.trans g8)))));simp only[mG,nO,pN] at hx';have h1:1≤T.dep (.lst us)+1:=nN (mL _);have hm0:=mF ht0;have hz0:=T.szs_le hm0;rcases hx' with rfl | rfl | rfl | rfl
    ·exact q _ _ (.lst (us.drop 1)) gA ⟨p1,_,rfl,(g4.trans (g5.trans (g6.trans (g7.trans g8)))) _ _ hA1,Reps.same gA _ _ (Reps.drop 1 hx)⟩ (Fit.row (fun u hu=>kf' u (rB hu)) h1 (by have:=jY us 1;lia) (by have:=jY us 1;lia))
    ·exact q _ _ (.lst (us.take (xs.length - 1))) gA ⟨p2,_,rfl,(g5.trans (g6.trans (g7.trans g8))) _ _ hA2,Reps.same gA _ _ (Reps.take _ hx)⟩ (Fit.row (fun u hu=>kf' u (aF hu)) h1 (by have:=vK us (xs.length - 1);lia) (by have:=vK us (xs.length - 1);lia))
    ·refine q _ _ (.lst (us++ [t0])) gA ⟨p4,_,rfl,(g7.trans g8) _ _ hA4,Reps.same gA _ _ (Reps.snoc hr0 hx)⟩ (Fit.row (fun u hu=>?_) h1 (by rw[vP];lia) (by rw[vP];lia))
     rcases nD.mp hu with z | z
     ·exact kf' u z
     ·rw[nM.mp z];exact kf' _ hm0
    ·exact q _ _ (.lst us.reverse) gA ⟨p5,_,rfl,g8 _ _ hA5,Reps.same gA _ _ (Reps.reverse hx)⟩ (Fit.row (fun u hu=>kf' u (tT.mp hu)) h1 (by rw[zAy];lia) (by rw[zAy];lia))
   | _=>exact⟨_,hty1,iN (by simp[tyT,zO]) ⟨rfl,g1⟩⟩
  clear g1 hty1 H1;rintro σ' H1 ⟨rfl,g1⟩;walk_at "rd3";have hty1:=vQ g1 hty;refine⟨fun σ' H'=>σ'= [some v,some (.int m),some (.str (tx nm)),none,none,none,none]∧Same H H', ?_, ?_⟩
  ·cases t with
   | dic ks us=>
    refine⟨_,hty1,iP (by simp[tyT,zO]) fun p hp=>?_⟩;obtain⟨a,ps,rfl,ha,hk,hx⟩:=hv;have g2:=g1.trans (zC hp (.dK []));have hpe:upd H1 p (.dK []) p=some (.dK []):=zB;generalize upd H1 p (.dK [])=H2 at*;refine⟨a,p,ps,rfl,rfl,g2 _ _ ha,hpe,_,rfl, ?_⟩
    by_cases hemp:ps.isEmpty=true
    ·exact iN (by simp[hemp]) ⟨rfl,g2⟩
    refine iP (by simp[hemp]) ?_;obtain⟨nk,h64,hle,hfk⟩:=hf;have hzl:T.szs us+1≤8000:=hz;refine⟨a,rfl,ps, .inl (g2 _ _ ha),ks.map tx,by rw[hk,pC];rfl,by rw[mB];exact h64,fun l ss hl hp1 hs1=>?_⟩;have es:=jM hp1 hs1;have emap:ss.map V.str=(yW ks).map fun k=>V.str (tx k):=by rw[es,pC];rfl
    rw[emap];have g3:=g2.trans (zC hl (.lst ((yW ks).map fun k=>V.str (tx k))));have hl3:upd H2 l (.lst ((yW ks).map fun k=>V.str (tx k))) l=some (.lst ((yW ks).map fun k=>V.str (tx k))):=zB;generalize upd H2 l (.lst ((yW ks).map fun k=>V.str (tx k)))=H3 at*;refine⟨l,_,rfl,SqL.of hl3,fun l2 hl2=>?_⟩;rw[show zBe ((yW ks).map fun k=>V.str (tx k)) (some 1) none=((yW ks).drop 1).map fun k=>V.str (tx k) from by rw[List.map_drop];exact jZ _ 1];have hnd:((yW ks).drop 1).Nodup:=((xD ks).nodup_iff.mpr nk).sublist (List.drop_sublist _ _);have hsub:∀k∈(yW ks).drop 1,k∈ks:=fun k h=>mem_sortK.mp (rB h);have hlen:((yW ks).drop 1).length<64:=by rw[nU,(xD ks).length_eq];lia
    have hszn:T.szs (((yW ks).drop 1).map fun k=>yH k ks us)≤T.szs us:=by
     rw[List.map_drop];refine mY (jY _ _) (aV ?_);rw[gY ((xD ks).map fun k=>yH k ks us),uJ nk hle]
    generalize (yW ks).drop 1=ns at*;have g4:=g3.trans (zC hl2 (.lst (ns.map fun k=>V.str (tx k))));have hl4:upd H3 l2 (.lst (ns.map fun k=>V.str (tx k))) l2=some (.lst (ns.map fun k=>V.str (tx k))):=zB;generalize upd H3 l2 (.lst (ns.map fun k=>V.str (tx k)))=H4 at*;refine⟨l2,rfl,⟨_,SqL.of hl4⟩,xI (K:=K) (xs:=ns.map fun k=>V.str (tx k)) (fun i ys H'=>Same H4 H'∧∃kvs:List (Key×V),kvs.length=ys.length∧kvs.map (·.1)=(ns.take i).map nK∧Reps H' (kvs.map (·.2)) ((ns.take i).map fun k=>yH k ks us)∧∀(j:Nat) kv,kvs[j]? =some kv→∃a,ys[j]? =some (.ref a)∧H' a=some (.tup [kV kv.1,kv.2])) ?_ ⟨Same.refl _,[],rfl,rfl,rfl,by intro j kv h;simp at h⟩ (fun i ys H' _ h=>SqL.of (h.1 _ _ hl4)) ?_ ?_⟩
    ·rw[mQ,mB];lia
    ·rintro i y ys H' hy _ ⟨g,kvs,l1,l2',hR,ht⟩
     rw[mU] at hy
     cases hki:ns[i]? with
     | none=>rw[hki] at hy;cases hy
     | some k=>
      rw[hki] at hy;have ey:V.str (tx k)=y:=mX hy;subst ey;have gg:=g4.trans g;have hmk:=hsub k (mF hki);obtain⟨x,hx1,hx2⟩:=Rep.at_name nk hk (Reps.same gg _ _ hx) hmk;walk_at "rd3";refine⟨x, .inl ⟨ps,Sum.inr (tx k), .inl (gg _ _ ha),rfl,hx1.symm⟩,fun p5 hp5=>⟨g.trans (zC hp5 _),kvs++ [(nK k,x)],by simp[l1], ?_, ?_, ?_⟩⟩
      ·rw[yG hki,mP,mP,l2'];rfl
      ·rw[yG hki,mP,mP]
       exact Reps.snoc (Rep.same (zC hp5 _) _ _ hx2) (Reps.same (zC hp5 _) _ _ hR)
      ·intro j kv1 hj
       by_cases hlt:j<kvs.length
       ·rw[nX hlt] at hj
        obtain⟨a',e1,e2⟩:=ht j kv1 hj;exact⟨a',by rw[nX (by lia)];exact e1,zC hp5 _ _ _ e2⟩
       ·rw[nR (by lia)] at hj
        have hj0:j - kvs.length=0:=by
         have:=(nB.mp hj).1
         simpa using this
        rw[hj0] at hj;simp only[nW,Option.some.injEq] at hj;subst hj;exact⟨p5,by rw[nR (by lia),←l1,hj0];rfl,zB⟩
    ·rintro ys H' _ ⟨g,kvs,l1,l2',hR,ht⟩ p5 hp5
     rw[mB,nT] at l2' hR;have g5:=zC hp5 (.lst ys);refine⟨p5,rfl,ys,zB,kvs,l1,fun j kv hj=>?_,fun l6 hl6=>?_⟩
     ·obtain⟨a',e1,e2⟩:=ht j kv hj
      exact⟨a',e1,g5 _ _ e2⟩
     ·have em:wK [] kvs=kvs:=wI kvs [] (by rw[rY,l2'];exact vA hnd)
      rw[em];have g6:=zC hl6 (.dK kvs);have hzq:T.sz (.dic ks us)=T.szs us+1:=rfl;refine q _ _ (.dic ns (ns.map fun k=>yH k ks us)) (g4.trans (g.trans (g5.trans g6))) ⟨l6,kvs,rfl,zB,l2',Reps.same (g5.trans g6) _ _ hR⟩ (Fit.book hnd hlen (by rw[mB]) (fun u hu=>?_) (nN (mL _)) (by lia));obtain⟨k,hk',rfl⟩:=nL.mp hu;have:=zDc hfk hc _ (xP (hsub k hk') hle);exact⟨this.1,this.2.1,pU this.2.2⟩
   | _=>exact⟨_,hty1,iN (by simp[tyT,zO]) ⟨rfl,g1⟩⟩
  clear g1 hty1 H1;rintro σ' H1 ⟨rfl,g1⟩;walk_at "rd3";have hs1:=sz_pos t;exact⟨v,_,t,rfl,Rep.same g1 _ _ hv,hc,hf,by lia,fun v' H' t' g hr' ft=>q _ _ t' (g1.trans g) hr' (ft.mono (mE _) (by lia))⟩
theorem zQv(F:Fun K "_law_varied" "_law_varied" zHe f fd):FnOk P w K mg base CX0 21 f fd ["_law_thing","_law_more","_law_names"] (zDl 0):=by
 refine F.ok scVar (by walk_at "ln") fun c A o s H vs Q E hr h=>?_
 ·obtain⟨v,m,nm,t,rfl,hv,hf,hc,hd,_⟩:=h
  exact absurd hd (pX _)
theorem zKm(F:Fun K "_law_varied" "_law_varied" zHe f fd)(B:Bl2 mg)(Gl:Dn P w K mg base 1 "_law_leaf_other" ["_law_thing","_law_more"] zFo)(Gh:Dn P w K mg base (1+20) "_law_held" ["_law_thing"] (gQ 20))
  (b:Binds K fd ["_law_thing","_law_more","_law_names"] []) (kp:W.keepIn K (.ref f)=true) (m:mg "_law_varied" =some (.ref f)):∀n:Nat,FnOk P w K mg base CX0 (21+n) f fd ["_law_thing","_law_more","_law_names"] (zDl n)
 | 0=>zQv F
 | n+1=>zQw F B Gl Gh ⟨_,_,zKm F B Gl Gh b kp m n,b,kp,m⟩
abbrev zHm:Stmt:=top 2
abbrev zBx:Stmt:=top 3
abbrev zCr:Stmt:=top 4
def zBi:Sp:=fun vs H Q _=>∃(v:V)(t:String),vs= [v]∧tyR H v=some t∧∀H',Same H H'→Q (qR t) H'
theorem zRk{H:Hp}{v:V}(h:tyR H v=some "NoneType"):v= .non:=by
 cases v with
 | ref a=>
  have h':(match H a with | some (.frz _ (.dK _))=>some "dict" | _=>tyS H (.ref a))=some "NoneType":=h
  split at h'
  ·exact absurd (mX h') (by decide)
  ·exact qK h'
 | non=>rfl
 | bl b=>exact qK (H:=H) (show tyS H (.bl b)=_ from h)
 | int b=>exact qK (H:=H) (show tyS H (.int b)=_ from h)
 | str b=>exact qK (H:=H) (show tyS H (.str b)=_ from h)
 | byt b=>exact qK (H:=H) (show tyS H (.byt b)=_ from h)
 | flt b=>exact qK (H:=H) (show tyS H (.flt b)=_ from h)
 | ty b=>exact qK (H:=H) (show tyS H (.ty b)=_ from h)
theorem scKindOf:yE ["thing"] ["thing"] (zJ gJ):=by walk_at "sc"
theorem zIs(F:Fun K "kind_of" "kind_of" gJ f fd)(B:Bl mg):FnOk P w K mg base CX0 1 f fd ["thing"] zBi:=by
 refine F.ok scKindOf (by walk_at "ln") fun c A o s H vs Q E hr h=>?_;obtain⟨v,t,rfl,ht,q⟩:=h;have nd:=scKindOf.nd;refine⟨_,(zF (zS (jC (zFx (pv 0))) (zG (zK zV)) zL)
  (zF (zS (zY (zM (qV (T:="bool") (by decide)) rfl B.isinstance zI (zA (pv 0) (zA (xU (v:=.ty "bool") rfl B.bool zFy rfl) zD)))) (zG (zK zV)) zL)
  (zF (zS (zY (zM (qV (T:="int") (by decide)) rfl B.isinstance zI (zA (pv 0) (zA (xU (v:=.ty "int") rfl B.int wA rfl) zD)))) (zG (zK zV)) zL)
  (zF (zS (zY (zM (qV (T:="str") (by decide)) rfl B.isinstance zI (zA (pv 0) (zA (xU (v:=.ty "str") rfl B.str qN rfl) zD)))) (zG (zK zV)) zL)
  (zF (zS (zY (zM (qV (T:="list") (by decide)) rfl B.isinstance zI (zA (pv 0) (zA (xU (v:=.ty "list") rfl B.list xB rfl) zD)))) (zG (zK zV)) zL)
  (zF (zS (zY (zM (qV (T:="dict") (by decide)) rfl B.isinstance zI (zA (pv 0) (zA (xU (v:=.ty "dict") rfl B.dict yP rfl) zD)))) (zG (zK zV)) zL)
  (zG (zK qI)))))))), ?_⟩
 walk_at "st";walk_at "rd3";have q:=q H (Same.refl H);have hm:=zRl ht;simp only[ht,Option.some.injEq,bM]
 by_cases hv:v= .non
 ·subst hv;cases ht;rw[mW rfl];exact q
 ·rw[mJ hv]
  simp only[tyL,mG,nO,pN] at hm;rcases hm with rfl | rfl | rfl | rfl | rfl | rfl | rfl
  ·exact absurd (zRk ht) hv
  all_goals (simpa [zO,qR] using q)
def alk(t t':T):Bool:=decide (xN (zQ t) (zQ t')=0)
def jP(n:Nat):Sp:=fun vs H Q _=>∃(v u:V)(t t':T),vs= [v,u]∧Rp H v t∧Rp H u t'∧T.few t∧T.few t'∧T.dep t<n∧∀H',Same H H'→Q (.bl (alk t t')) H'
def zOz(n:Nat):Sp:=fun vs H Q _=>∃(v u:V)(us ws:List T),vs= [v,u]∧Rp H v (.lst us)∧Rp H u (.lst ws)∧T.few (.lst us)∧T.few (.lst ws)∧T.deps us<n∧∀H',Same H H'→Q (.bl (alk (.lst us) (.lst ws))) H'
def zOs(n:Nat):Sp:=fun vs H Q _=>∃(v u:V)(ks ks':List (List Nat))(us ws:List T),vs= [v,u]∧Rp H v (.dic ks us)∧Rp H u (.dic ks' ws)∧T.few (.dic ks us)∧T.few (.dic ks' ws)∧T.deps us<n∧∀H',Same H H'→Q (.bl (alk (.dic ks us) (.dic ks' ws))) H'
theorem zMn{us ws:List T}(hl:us.length=ws.length):((List.range us.length).map fun j=>alk (us.getD j .non) (ws.getD j .non)).all id=alk (.lst us) (.lst ws):=by
 have e:(((List.range us.length).map fun j=>alk (us.getD j .non) (ws.getD j .non)).all id=true)↔(alk (.lst us) (.lst ws)=true):=by
  unfold alk;rw[decide_eq_true_iff,zJh,pE];constructor
  ·intro h
   refine⟨hl,fun i t t' h1 h2=>?_⟩;have hi:i<us.length:=(nB.mp h1).1;have z:=h _ (nL.mpr ⟨i,aH.mpr hi,rfl⟩);rw[pR,pR,h1,h2] at z;exact rZ z
  ·rintro⟨_,h⟩ x hx
   obtain⟨i,hi,rfl⟩:=nL.mp hx;have hi:=aH.mp hi;have h1:us[i]? =some us[i]:=by simp[hi]
   have h2:ws[i]? =some (ws[i]'(by lia)):=by simp[show i<ws.length by lia]
   rw[pR,pR,h1,h2];exact pL (h i _ _ h1 h2)
 exact rC.mpr e
theorem zMm{ks ks':List (List Nat)}{us ws:List T}(nk:ks.Nodup)(hl:ks.length=ks'.length):(ks.map fun k=>decide (k∈ks')&& alk (yH k ks us) (yH k ks' ws)).all id=alk (.dic ks us) (.dic ks' ws):=by
 have e:((ks.map fun k=>decide (k∈ks')&& alk (yH k ks us) (yH k ks' ws)).all id=true)↔(alk (.dic ks us) (.dic ks' ws)=true):=by
  rw[show(alk (.dic ks us) (.dic ks' ws)=true)↔_ from decide_eq_true_iff,zKk nk,pE];constructor
  ·intro h
   refine⟨hl,fun k hk=>?_⟩;have z:=h _ (nL.mpr ⟨k,hk,rfl⟩);have z:(decide (k∈ks')&& alk (yH k ks us) (yH k ks' ws))=true:=z;rw[pY] at z;exact⟨rZ z.1,rZ z.2⟩
  ·rintro⟨_,h⟩ x hx
   obtain⟨k,hk,rfl⟩:=nL.mp hx;obtain⟨h1,h2⟩:=h k hk;show(decide (k∈ks')&& alk (yH k ks us) (yH k ks' ws))=true;rw[pY];exact⟨pL h1,pL h2⟩
 exact rC.mpr e
theorem zCm{α:Type}(f:Nat→α)(i:Nat):(List.range (i+1)).map f=(List.range i).map f++ [f i]:=by rw[bL,mP];rfl
theorem scAlkR:yE ["one","other"] ["one","other"] (zJ zBx):=by walk_at "sc"
theorem zPr{n:Nat}(F:Fun K "alike_rows" "alike_rows" zBx f fd)(B:Bl4 mg)(Galike:Dn P w K mg base (2+2*n) "alike" ["one","other"] (jP n)):FnOk P w K mg base CX0 (2+2*n+1) f fd ["one","other"] (zOz n):=by
 refine F.ok scAlkR (by walk_at "ln") fun c A o s H vs Q E hr h=>?_;obtain⟨v,u,us,ws,rfl,hv,hw,f1,f2,hd,q⟩:=h;have nd:=scAlkR.nd;refine⟨_,(zF (zS (zP zBu (zM yD rfl B.len yO (zA (pv 0) zD)) (zM yD rfl B.len yO (zA (pv 1) zD)) (zN _)) (zG (zK wV)) zL)
  (zG (zK (zM (uN rfl) rfl B.all zFc (zA (xF (own:=["place","part"]) (F:=[("other",1)]) ⟨rfl,by walk_at "wu",by walk_at "wu",by walk_at "wu",(.cons rfl rfl rfl .nil)⟩ rfl (zQy rfl B.enumerate (zA (pv 0) zD)) (fun _ _ _ _=>zJf (K:=K) (n:=2) rfl rfl (jA (yF (i:=0) (by show(xK ["place","part"] [("other",1)]).Nodup;decide+kernel) rfl (nH rfl)) (jA (yF (i:=1) (by show(xK ["place","part"] [("other",1)]).Nodup;decide+kernel) rfl (nH rfl)) zFf))) (fun _ _ _ _=>yZ) (fun _ _ _ _=>(zT Galike hr (by lia) rfl (zA (pv 1) (zA (yI (zGt (K:=K) rfl) (pv 2) (pv 0) (fun _ _=>rfl)) zD))))) zD))))), ?_⟩
 walk_at "st";walk_at "rd3";obtain⟨a,xs,rfl,ha,hx⟩:=hv;obtain⟨b,ys,rfl,hb,hy⟩:=hw;have hxl:=hx.length;have hyl:=hy.length;have l1:=f1.1
 by_cases hl:us.length=ws.length
 ·refine⟨a,rfl,xs,SqL.of ha,b,rfl,ys,SqL.of hb,false,by rw[hxl,hyl,hl];simp,zFi ⟨.ref a,rfl,a,xs,rfl,SqL.of ha, ?_⟩⟩
  refine zLm (K:=K) (xs:=xs) (fun i zs H'=>Same H H'∧zs=((List.range i).map fun j=>alk (us.getD j .non) (ws.getD j .non)).map V.bl) (by rw[mQ];lia) ⟨Same.refl _,rfl⟩ (fun i zs H' _ h=>SqL.of (h.1 _ _ ha)) ?_ ?_
  ·rintro i x zs H' p hx' _ ⟨g,rfl⟩ hp
   obtain⟨t1,ht1,hr1⟩:=hx.get hx';have hi:i<ys.length:=by have:=(nB.mp ht1).1;lia
   obtain⟨t2,ht2,hr2⟩:=hy.get (i:=i) (v:=ys[i]) (by simp[hi]);have G:=g.trans (zC hp (.tup [V.int i,x]));have hm:=mF ht1;have d1:=T.deps_le hm;walk_at "rd3";refine yN (SqL.of (G _ _ hb)) (v:=ys[i]) (yJ (by simp[hi])) ⟨_,_,t1,t2,rfl,Rp.same G _ _ hr1,Rp.same G _ _ hr2,T.fews_mem f1.2 hm,T.fews_mem f2.2 (mF ht2),by lia,fun H4 g4=>⟨G.trans g4, ?_⟩⟩;rw[zCm,mP];have e1:us.getD i .non=t1:=by rw[pR,ht1];rfl
   have e2:ws.getD i .non=t2:=by rw[pR,ht2];rfl
   rw[e1,e2]
   rfl
  ·rintro zs H' _ ⟨g,rfl⟩ p hp
   refine⟨p,rfl,_,SqL.of zB, ?_⟩;rw[hxl,zMn hl];exact q _ (g.trans (zC hp _))
 ·refine⟨a,rfl,xs,SqL.of ha,b,rfl,ys,SqL.of hb,true, ?_,zFs ?_⟩
  ·rw[hxl,hyl];simp;lia
  ·have z:=q H (Same.refl H)
   have e:alk (.lst us) (.lst ws)=false:=by
    unfold alk;exact nP fun c=>hl ((zJh us ws).mp c).1
   rw[e] at z;exact z
theorem scAlkD:yE ["one","other"] ["one","other"] (zJ zCr):=by walk_at "sc"
theorem zPx{n:Nat}(F:Fun K "alike_records" "alike_records" zCr f fd)(B:Bl2 mg)(Galike:Dn P w K mg base (2+2*n) "alike" ["one","other"] (jP n)):FnOk P w K mg base CX0 (2+2*n+1) f fd ["one","other"] (zOs n):=by
 refine F.ok scAlkD (by walk_at "ln") fun c A o s H vs Q E hr h=>?_;obtain⟨v,u,ks,ks',us,ws,rfl,hv,hw,f1,f2,hd,q⟩:=h;have nd:=scAlkD.nd;have hu:=wC hr;refine⟨_,(zF (zS (zP zBu (zM zEu rfl B.len yO (zA (pv 0) zD)) (zM zEu rfl B.len yO (zA (pv 1) zD)) (zN _)) (zG (zK wV)) zL)
  (zG (zK (zM (uN rfl) rfl B.all zFc (zA (uI (xF (own:=["name"]) (F:=[("other",1),("one",0)]) ⟨rfl,by walk_at "wu",by walk_at "wu",by walk_at "wu",(.cons rfl rfl rfl (.cons rfl rfl rfl .nil))⟩ rfl (zBj (pv 0)) (fun _ _ _ _=>yF (i:=0) (by show(xK ["name"] [("other",1),("one",0)]).Nodup;decide+kernel) rfl (nH rfl)) (fun _ _ _ _=>yZ) (fun _ _ _ _=>(zAg (zPg (zCd hu (pv 0) (pv 1))) (zFg (zT Galike hr (by lia) rfl (zA (xL hu (pv 2) (pv 0) (fun _ _=>rfl)) (zA (xL hu (pv 1) (pv 0) (fun _ _=>rfl)) zD)))))))) zD))))), ?_⟩
 walk_at "st";walk_at "rd3";obtain⟨a,ps,rfl,ha,hk,hx⟩:=hv;obtain⟨b,rs,rfl,hb,hkb,hy⟩:=hw;obtain⟨nk,h64,hle,hf1⟩:=f1;obtain⟨nk2,h642,hle2,hf2⟩:=f2;have hpl:ps.length=ks.length:=by have:=congrArg List.length hk;simpa using this
 have hrl:rs.length=ks'.length:=by have:=congrArg List.length hkb;simpa using this
 by_cases hl:ks.length=ks'.length
 ·refine⟨a,rfl,ps,ha,b,rfl,rs,hb,false,by rw[hpl,hrl,hl];simp,zFi ⟨a,rfl,ps, ?_⟩⟩
  have body:∀(o:Obj)(H1:Hp)(th:Hp→Hp),H1 a=some (.frz o (.dK ps))→Rps H1 (ps.map (·.2)) us→Rps H1 (rs.map (·.2)) ws→Rd H1 b (.dK rs)→(∀H',Same H1 H'→∀p xs,H' p=some (.lst xs)→th H' p=some (.lst xs))→(∀H',Same H1 H'→Same H (th H'))→
    xV [Str.ofString "name"] [(Str.ofString "other",1),(Str.ofString "one",0)] (vN 0) gO (zKl (zLa (jU 0) (jU 1)) (uH (jP n) [] E0 (jO (gN (jU 2) (jU 0)) (jO (gN (jU 1) (jU 0)) zCe)))) [some (V.ref a),some (V.ref b)]
     (fun v H'_1=>∃p,v=V.ref p∧∃x,SqL K (th H'_1) p (List.map V.bl x)∧Q (V.bl (x.all id)) (th H'_1)) (Itd a o ps) H1:=by
   intro o H1 th ha1 hx1 hy1 hb1 hth hgth;refine kX (fun i zs H'=>Same H1 H'∧zs=((ks.take i).map fun k=>decide (k∈ks')&& alk (yH k ks us) (yH k ks' ws)).map V.bl) (by rw[mQ];lia) ⟨Same.refl _,rfl⟩ (fun i zs H' h=>h.1 _ _ ha1) ?_ ?_
   ·rintro i kv zs H' hkv _ ⟨g,rfl⟩
    obtain⟨k,hki,hkk⟩:∃k,ks[i]? =some k∧kv.1=Sum.inr (tx k):=by
     have h1:(ps.map (·.1))[i]? =some kv.1:=by rw[mU,hkv];rfl
     rw[hk,mU] at h1
     cases hc:ks[i]? with
     | none=>rw[hc] at h1;cases h1
     | some k=>rw[hc] at h1;exact⟨k,rfl,(mX h1).symm⟩
    have hmk:=mF hki;obtain⟨c1,hc1,hr1⟩:=Rp.at_name nk hk (Rps.same g _ _ hx1) hmk;have hm1:=xP hmk hle;have d1:=T.deps_le hm1;have hg1:zDg H' a (kV kv.1) (some c1):=.inl ⟨ps,kv.1, .inr ⟨o,g _ _ ha1⟩,rfl,by rw[hkk];exact hc1.symm⟩;walk_at "rd3"
    by_cases hm:k∈ks'
    ·obtain⟨c2,hc2,hr2⟩:=Rp.at_name nk2 hkb (Rps.same g _ _ hy1) hm
     have hm2:=xP hm hle2;have hg2:zDg H' b (kV kv.1) (some c2):=.inl ⟨rs,kv.1,hb1.same g,rfl,by rw[hkk];exact hc2.symm⟩;refine⟨kV kv.1,rfl, .ref b,rfl,b,some c2,rfl,hg2,true,rfl,iP rfl ⟨c1,hg1,c2,hg2,c1,c2,_,_,rfl,hr1,hr2,T.fews_mem hf1 hm1,T.fews_mem hf2 hm2,by lia,fun H4 g4=>⟨g.trans g4, ?_⟩⟩⟩;rw[yG hki,mP,mP];simp[hm]
    ·have hnone:qF rs kv.1=none:=zAj (by
      rw[hkb,hkk];intro z;obtain⟨k2,h2,e2⟩:=nL.mp z;exact hm (by rw[←qO (show nK k2=nK k from e2)];exact h2))
     refine⟨kV kv.1,rfl, .ref b,rfl,b,none,rfl, .inl ⟨rs,kv.1,hb1.same g,rfl,hnone.symm⟩,false,rfl,zFi ⟨g, ?_⟩⟩;rw[yG hki,mP,mP];simp[hm]
   ·rintro zs H' _ ⟨g,rfl⟩ p hp
    have g2:=g.trans (zC hp (.lst (List.map V.bl ((ks.take ps.length).map fun k=>decide (k∈ks')&& alk (yH k ks us) (yH k ks' ws)))));refine⟨p,rfl,_,SqL.of (hth _ g2 p _ zB), ?_⟩;have z:=q _ (hgth _ g2);rw[hpl,nT] at z⊢;rw[zMm nk hl];exact z
  rcases ha with ha |⟨o,ha⟩
  ·refine .inl ⟨ha,fun o=>body o _ (thaw H) zB (Rps.frz ha _ _ hx) (Rps.frz ha _ _ hy) (Rd.frz ha hb) (fun H' g p xs e=>xE e (by intro o v z;cases z)) fun H' g=>qC (o:=o) ha g⟩
  ·refine .inr ⟨o,ha,body o H (thaw H) ha hx hy hb (fun H' g p xs e=>xE e (by intro o v z;cases z)) fun H' g=>uW fun b u e=>.inl (g b u e)⟩
 ·refine⟨a,rfl,ps,ha,b,rfl,rs,hb,true, ?_,zFs ?_⟩
  ·rw[hpl,hrl];simp;lia
  ·have z:=q H (Same.refl H)
   have e:alk (.dic ks us) (.dic ks' ws)=false:=by
    unfold alk;exact nP fun c=>hl ((zKk nk).mp c).1
   rw[e] at z;exact z
theorem scAlk:yE ["one","other","kind"] ["one","other"] (zJ zHm):=by walk_at "sc"
theorem zRr{n:Nat}(F:Fun K "alike" "alike" zHm f fd)(B:Bl2 mg)(Gkind_of:Dn P w K mg base 1 "kind_of" ["thing"] zBi)(Galike_rows:Dn P w K mg base (2+2*n+1) "alike_rows" ["one","other"] (zOz n))(Galike_records:Dn P w K mg base (2+2*n+1) "alike_records" ["one","other"] (zOs n)):
  FnOk P w K mg base CX0 (2+2*n+1+1) f fd ["one","other"] (jP (n+1)):=by
 refine F.ok scAlk (by walk_at "ln") fun c A o s H vs Q E hr h=>?_;obtain⟨v,u,t,t',rfl,hv,hw,f1,f2,hd,q⟩:=h;have nd:=scAlk.nd;refine⟨_,(zF (pS 2 nd (zT Gkind_of hr (by lia) rfl (zA (pv 0) zD)))
  (zF (zS (zP zBu (pv 2) (zT Gkind_of hr (by lia) rfl (zA (pv 1) zD)) (zN _)) (zG (zK wV)) zL)
  (zF (zS (zP yX (pv 2) zV (zN _)) (zG (zK (zT Galike_rows hr (by lia) rfl (zA (pv 0) (zA (pv 1) zD))))) zL)
  (zF (zS (zP yX (pv 2) zV (zN _)) (zG (zK (zT Galike_records hr (by lia) rfl (zA (pv 0) (zA (pv 1) zD))))) zL)
  (zG (zK (yV yX (pv 0) (pv 1) (zN _)))))))), ?_⟩
 walk_at "st";walk_at "rd3";obtain⟨k1,e1,i1,n1⟩:=qJ t f1;obtain⟨k2,e2,i2,n2⟩:=qJ t' f2;refine⟨v,_,rfl,hv.ty,fun H1 g1=>?_⟩;rw[e1];refine⟨u,_,rfl,(Rp.same g1 _ _ hw).ty,fun H2 g2=>?_⟩;rw[e2];have g:=g1.trans g2;have hv:=Rp.same g _ _ hv;have hw:=Rp.same g _ _ hw
 by_cases ho:(zQ t).ord=(zQ t').ord
 ·have ek:k1=k2:=by
   rw[ho,i2] at i1;exact(mX i1).symm
  subst ek;refine⟨rfl,false,by simp,zFi ?_⟩
  cases t with
  | tup us=>exact f1.elim
  | non=>
   obtain rfl:k1= "nothing":=(mX i1).symm
   cases t' with
   | non=>
    cases (show v=_ from hv);cases (show u=_ from hw);exact⟨rfl,iN (by decide+kernel) ⟨rfl,iN (by decide+kernel) ⟨rfl,q _ g⟩⟩⟩
   | _=>exact absurd ho (by simp[zQ,C.ord])
  | bl b=>
   obtain rfl:k1= "truth":=(mX i1).symm
   cases t' with
   | bl b'=>
    cases (show v=_ from hv);cases (show u=_ from hw);refine⟨rfl,iN (by decide+kernel) ⟨rfl,iN (by decide+kernel) ⟨rfl, ?_⟩⟩⟩;have z:=q _ g;rw[show alk (.bl b) (.bl b')=decide (V.bl b=V.bl b') from by cases b<;>cases b'<;>decide+kernel] at z;exact z
   | _=>exact absurd ho (by simp[zQ,C.ord])
  | int b=>
   obtain rfl:k1= "number":=(mX i1).symm
   cases t' with
   | int b'=>
    cases (show v=_ from hv);cases (show u=_ from hw);refine⟨rfl,iN (by decide+kernel) ⟨rfl,iN (by decide+kernel) ⟨rfl, ?_⟩⟩⟩;have z:=q _ g;have e:alk (.int b) (.int b')=decide (V.int b=V.int b'):=by
     unfold alk;rw[bF];show xN (.int b) (.int b')=0↔_;rw[xN];unfold sgI;constructor
     ·intro h
      have:b=b':=by split at h<;>split at h<;>lia
      rw[this]
     ·intro h
      cases h;rw[mJ (by lia)];rfl
    rw[e] at z;exact z
   | _=>exact absurd ho (by simp[zQ,C.ord])
  | str b=>
   obtain rfl:k1= "text":=(mX i1).symm
   cases t' with
   | str b'=>
    cases (show v=_ from hv);cases (show u=_ from hw);refine⟨rfl,iN (by decide+kernel) ⟨rfl,iN (by decide+kernel) ⟨rfl, ?_⟩⟩⟩;have z:=q _ g;have e:alk (.str b) (.str b')=decide (V.str (tx b)=V.str (tx b')):=by
     unfold alk;rw[bF];show xN (.str b) (.str b')=0↔_;rw[zKe,zAe];constructor
     ·intro h;rw[h]
     ·intro h
      exact qO (congrArg Sum.inr (V.str.inj h))
    rw[e] at z;exact z
   | _=>exact absurd ho (by simp[zQ,C.ord])
  | lst us=>
   obtain rfl:k1= "row":=(mX i1).symm
   cases t' with
   | lst ws=>
    have hd':T.deps us+1<n+1:=hd;exact⟨rfl,iP rfl ⟨v,u,us,ws,rfl,hv,hw,f1,f2,by lia,fun H3 g3=>q _ (g.trans g3)⟩⟩
   | _=>exact absurd ho (by simp[zQ,C.ord])
  | dic ks us=>
   obtain rfl:k1= "record":=(mX i1).symm
   cases t' with
   | dic ks' ws=>
    have hd':T.deps us+1<n+1:=hd;exact⟨rfl,iN (by decide+kernel) ⟨rfl,iP rfl ⟨v,u,ks,ks',us,ws,rfl,hv,hw,f1,f2,by lia,fun H3 g3=>q _ (g.trans g3)⟩⟩⟩
   | _=>exact absurd ho (by simp[zQ,C.ord])
 ·have ek:k1≠k2:=fun z=>by
   subst z;rcases Nat.lt_or_gt_of_ne ho with c | c
   ·exact n2 _ c i1
   ·exact n1 _ c i2
  refine⟨rfl,true,by simp[ek],zFs ?_⟩;have z:=q _ g;have e:alk t t'=false:=by
   unfold alk;refine nP ?_;rw[gX _ _ ho];unfold sgI;split<;>split<;>lia
  rw[e] at z;exact z
theorem zQm(F:Fun K "alike" "alike" zHm f fd):FnOk P w K mg base CX0 2 f fd ["one","other"] (jP 0):=by
 refine F.ok scAlk (by walk_at "ln") fun c A o s H vs Q E hr h=>?_;obtain⟨v,u,t,t',rfl,hv,hw,f1,f2,hd,_⟩:=h;exact absurd hd (pX _)
theorem zKj{fr fdr:_}{fd' fdd:_}(F:Fun K "alike" "alike" zHm f fd)(FR:Fun K "alike_rows" "alike_rows" zBx fr fdr)(FD:Fun K "alike_records" "alike_records" zCr fd' fdd)(B:Bl4 mg)(Gk:Dn P w K mg base 1 "kind_of" ["thing"] zBi)
  (b:Binds K fd ["one","other"] []) (kp:W.keepIn K (.ref f)=true) (m:mg "alike" =some (.ref f)) (bR:Binds K fdr ["one","other"] []) (kR:W.keepIn K (.ref fr)=true) (mR:mg "alike_rows" =some (.ref fr))
  (bD:Binds K fdd ["one","other"] []) (kD:W.keepIn K (.ref fd')=true) (mD:mg "alike_records" =some (.ref fd')):
  ∀n:Nat,FnOk P w K mg base CX0 (2+2*n) f fd ["one","other"] (jP n)
 | 0=>zQm F
 | n+1=>
  have D:Dn P w K mg base (2+2*n) "alike" ["one","other"] (jP n):=⟨_,_,zKj F FR FD B Gk b kp m bR kR mR bD kD mD n,b,kp,m⟩
  zRr F B.toBl2 Gk ⟨_,_,zPr FR B D,bR,kR,mR⟩ ⟨_,_,zPx FD B.toBl2 D,bD,kD,mD⟩
abbrev sCp:Stmt:=top 5
def zCl(n:Nat):Sp:=fun vs H Q _=>∃(v:V)(t:T),vs= [v]∧Rep H v t∧T.pure t∧T.dep t<n∧T.sz t≤100000∧∀v' H' D,Same H H'→Sp1 H' v' t D→(∀b∈D,H b=none)→Q v' H'
theorem scCp:yE ["thing"] ["thing"] (zJ sCp):=by walk_at "sc"
theorem zTp{n:Nat}(F:Fun K "copied" "copied" sCp f fd)(B:Bl mg)(Gcopied:Dn P w K mg base (1+n) "copied" ["thing"] (zCl n)):FnOk P w K mg base CX0 (1+n+1) f fd ["thing"] (zCl (n+1)):=by
 refine F.ok scCp (by walk_at "ln") fun c A o s H vs Q E hr h=>?_;obtain⟨v,t,rfl,hv,hp,hd,hz,q⟩:=h;have nd:=scCp.nd;have hu:=wC hr;refine⟨_,(zF (zS (zY (pI B.isinstance zI B.list xB (pv 0))) (zG (zK (xF (own:=["part"]) (F:=[]) ⟨rfl,by walk_at "wu",by walk_at "wu",by walk_at "wu", .nil⟩ rfl (xM (pv 0)) (fun _ _ _ _=>yF (i:=0) (by show(xK ["part"] []).Nodup;decide+kernel) rfl (nH rfl)) (fun _ _ _ _=>yZ) (fun _ _ _ _=>(zT Gcopied hr (by lia) rfl (zA (pv 0) zD)))))) zL)
  (zF (zS (zY (pI B.isinstance zI B.dict yP (pv 0))) (zG (zK (yM (qM rfl) rfl B.dict yP (zA (uI (xF (own:=["name","part"]) (F:=[]) ⟨rfl,by walk_at "wu",by walk_at "wu",by walk_at "wu", .nil⟩ rfl (zPe (zTg PySem.F.plainAttrs_dict PySem.F.slot_dict_items PySem.F.type_dict_items zPm (pv 0))) (fun _ _ _ _=>zJf (K:=K) (n:=2) rfl rfl (jA (yF (i:=0) (by show(xK ["name","part"] []).Nodup;decide+kernel) rfl (nH rfl)) (jA (yF (i:=1) (by show(xK ["name","part"] []).Nodup;decide+kernel) rfl (nH rfl)) zFf))) (fun _ _ _ _=>yZ) (fun _ _ _ _=>(wM (zA (pv 0) (zA (zT Gcopied hr (by lia) rfl (zA (pv 1) zD)) zD)))))) zD)))) zL)
  (zF (zS (zY (pI B.isinstance zI B.tuple zGm (pv 0))) (zG (zK (yM zDi rfl B.tuple zGm (zA (xF (own:=["part"]) (F:=[]) ⟨rfl,by walk_at "wu",by walk_at "wu",by walk_at "wu", .nil⟩ rfl (xM (pv 0)) (fun _ _ _ _=>yF (i:=0) (by show(xK ["part"] []).Nodup;decide+kernel) rfl (nH rfl)) (fun _ _ _ _=>yZ) (fun _ _ _ _=>(zT Gcopied hr (by lia) rfl (zA (pv 0) zD)))) zD)))) zL)
  (zG (zK (pv 0)))))), ?_⟩
 walk_at "st";walk_at "rd3"
 cases t with
 | lst us=>
  obtain⟨a,xs,rfl,ha,hs⟩:=hv;have hl0:=T.szs_len us;have hz':T.szs us+1≤100000:=hz;have hd':T.deps us+1<n+1:=hd;refine⟨"list",kY ha, ?_⟩;rw[mW (by decide)];refine⟨a,rfl,⟨xs,SqL.of ha⟩,xI (K:=K) (xs:=xs) (fun i ys H'=>Same H H'∧∃D,Sps H' ys (us.take i) D∧∀b∈D,H b=none) ?_ ⟨Same.refl _,[],⟨rfl,rfl⟩,fun _ h=>(nomatch h)⟩ (fun i ys H' _ h=>SqL.of (h.1 _ _ ha)) ?_ ?_⟩
  ·have:=hs.length
   rw[mQ];lia
  ·rintro i u ys H' hu' _ ⟨g,D,hR,hD⟩
   obtain⟨t',ht',hr'⟩:=hs.get hu';have hm:=mF ht';have d1:=T.deps_le hm;have d2:=T.szs_le hm;walk_at "rd3";refine⟨u,t',rfl,Rep.same g u t' hr',T.pures_mem hp hm,by lia,by lia,fun v' H4 D1 g4 hv' hD1=>⟨g.trans g4,D++D1, ?_,fun b hb=>?_⟩⟩
   ·rw[yG ht']
    refine Sps.snoc hv' (hR.same g4) fun b hb z=>?_;obtain⟨o,ho⟩:=Sps.there _ _ _ hR hb;rw[hD1 b z] at ho;cases ho
   ·rcases nD.mp hb with z | z
    ·exact hD b z
    ·exact zZ g (hD1 b z)
  ·rintro ys H' _ ⟨g,D,hR,hD⟩ p hp'
   rw[hs.length,nT] at hR;have hpD:p∉D:=fun z=>by
    obtain⟨o,ho⟩:=Sps.there _ _ _ hR z;rw[hp'] at ho;cases ho
   refine q (.ref p) _ (p::D) (g.trans (zC hp' _)) ⟨p,ys,D,rfl,zB,rfl,hpD,hR.same (zC hp' _)⟩ fun b hb=>?_;rcases mG.mp hb with z | z
   ·rw[z];exact zZ g hp'
   ·exact hD b z
 | dic ks us=>
  obtain⟨d,ps,rfl,hdd,hk,hs⟩:=hv;obtain⟨nk,hp⟩:=hp;have hl0:=T.szs_len us;have hz':T.szs us+1≤100000:=hz;have hd':T.deps us+1<n+1:=hd;have hpl:ps.length=us.length:=by have:=hs.length;rwa [mB] at this
  have nkp:(ps.map (·.1)).Nodup:=by rw[hk];exact vA nk
  refine⟨"dict",qP hdd, ?_⟩;rw[mJ (by decide)];refine⟨"dict",qP hdd, ?_⟩;rw[mW (by decide)];refine⟨.ref d,rfl, .inr (.inr (.inl ⟨rfl, .inl ⟨ps,hdd⟩⟩)),d,ps,rfl,rfl, .inl hdd,fun pv hpv=>?_⟩;have s1:=zC hpv (zDk pv d);have hd1:=s1 _ _ hdd;refine⟨pv,d,ps,rfl,zB, .inl ⟨hd1,fun o=>?_⟩⟩;have gf:Same (upd H d (.frz o (.dK ps))) (upd (upd H pv (zDk pv d)) d (.frz o (.dK ps))):=fun b u e=>by
   by_cases hb:b=d
   ·subst hb;rw[zB] at e⊢;exact e
   ·rw[zR hb] at e⊢
    exact s1 _ _ e
  have gH:∀b,upd (upd H pv (zDk pv d)) d (.frz o (.dK ps)) b=none→H b=none:=fun b e=>by
   by_cases hb:b=d
   ·subst hb;rw[zB] at e;cases e
   ·rw[zR hb] at e
    exact zZ s1 e
  have hsf:Reps (upd (upd H pv (zDk pv d)) d (.frz o (.dK ps))) (ps.map (·.2)) us:=Reps.dic_away hd1 hk (Reps.same s1 _ _ hs);have hdf:upd (upd H pv (zDk pv d)) d (.frz o (.dK ps)) d=some (.frz o (.dK ps)):=zB;generalize upd (upd H pv (zDk pv d)) d (.frz o (.dK ps))=Hf at gf gH hsf hdf⊢;refine zIx (K:=K) (fun i ys H'=>Same Hf H'∧∃(kvs:List (Key×V))(D:List Addr),kvs.length=ys.length∧kvs.map (·.1)=(ps.take i).map (·.1)∧Sps H' (kvs.map (·.2)) (us.take i) D∧(∀b∈D,H b=none)∧∀(j:Nat) kv,kvs[j]? =some kv→∃a,ys[j]? =some (.ref a)∧H' a=some (.tup [kV kv.1,kv.2])) ?_ ⟨Same.refl _,[],[],rfl,rfl,⟨rfl,rfl⟩,fun _ h=>(nomatch h),by intro j kv h;simp at h⟩ (fun i ys H' h=>h.1 _ _ hdf) ?_ ?_
  ·rw[mQ];lia
  ·rintro i kv ys H' pt hkv _ ⟨g,kvs,D,l1,l2,hR,hD,ht⟩ hpt
   have s2:=zC hpt (.tup [kV kv.1,kv.2]);have g2:=g.trans s2;walk_at "rd3";obtain⟨t',ht',hr'⟩:=hsf.get (i:=i) (v:=kv.2) (by rw[mU,hkv];rfl);have hm:=mF ht';have d1:=T.deps_le hm;have d2:=T.szs_le hm;refine⟨kv.2,t',rfl,Rep.same g2 _ t' hr',T.pures_mem hp hm,by lia,by lia,fun v' H1 D1 g1 hv' hD1 p hp1=>⟨(g2.trans g1).trans (zC hp1 _),kvs++ [(kv.1,v')],by simp[l1], ?_,D++D1, ?_,fun b hb=>?_, ?_⟩⟩
   ·rw[yG hkv,mP,mP,l2];rfl
   ·rw[yG ht',mP]
    refine Sps.snoc (hv'.same (zC hp1 _)) (hR.same (s2.trans (g1.trans (zC hp1 _)))) fun b hb z=>?_;obtain⟨ob,ho⟩:=Sps.there _ _ _ (hR.same s2) hb;rw[hD1 b z] at ho;cases ho
   ·rcases nD.mp hb with z | z
    ·exact hD b z
    ·exact gH b (zZ g2 (hD1 b z))
   ·intro j kv1 hj
    by_cases hlt:j<kvs.length
    ·rw[nX hlt] at hj
     obtain⟨a,e1,e2⟩:=ht j kv1 hj;exact⟨a,by rw[nX (by lia)];exact e1,zC hp1 _ _ _ (g1 _ _ (s2 _ _ e2))⟩
    ·rw[nR (by lia)] at hj
     have hj0:j - kvs.length=0:=by
      have:=(nB.mp hj).1
      simpa using this
     rw[hj0] at hj;simp only[nW,Option.some.injEq] at hj;subst hj;exact⟨p,by rw[nR (by lia),←l1,hj0];rfl,zB⟩
  ·rintro ys H' _ ⟨g,kvs,D,l1,l2,hR,hD,ht⟩ p hp'
   rw[hpl,nT] at hR;rw[nT] at l2;have gs:Same H (thaw H (upd H' p (.lst ys))):=qC (o:=o) hdd (gf.trans (g.trans (zC hp' _)));have hR2:Sps (thaw H (upd H' p (.lst ys))) (kvs.map (·.2)) us D:=(hR.same (zC hp' _)).thaw;refine⟨p,rfl,ys,xE zB (by intro o v z;cases z),kvs,l1,fun j kv hj=>?_,fun l hl=>?_⟩
   ·obtain⟨a,e1,e2⟩:=ht j kv hj
    exact⟨a,e1,xE (zC hp' _ _ _ e2) (by intro o v z;cases z)⟩
   ·have em:wK [] kvs=kvs:=wI kvs [] (by rw[rY,l2];exact nkp)
    rw[em];have hlD:l∉D:=fun z=>by
     obtain⟨ob,ho⟩:=Sps.there _ _ _ hR2 z;rw[hl] at ho;cases ho
    refine q (.ref l) _ (l::D) (gs.trans (zC hl _)) ⟨l,kvs,D,rfl,zB,l2.trans hk,rfl,hlD,hR2.same (zC hl _)⟩ fun b hb=>?_;rcases mG.mp hb with z | z
    ·rw[z];exact zZ gs hl
    ·exact hD b z
 | tup us=>exact hp.elim
 | non=>exact⟨_,hv.ty,by rw[mJ (by simp[tyT,zO])];exact⟨_,hv.ty,by rw[mJ (by simp[tyT,zO])];exact⟨_,hv.ty,by rw[mJ (by simp[tyT,zO])];exact q _ _ [] (Same.refl _) ⟨rfl,hv⟩ (fun _ h=>nomatch h)⟩⟩⟩
 | bl b=>exact⟨_,hv.ty,by rw[mJ (by simp[tyT,zO])];exact⟨_,hv.ty,by rw[mJ (by simp[tyT,zO])];exact⟨_,hv.ty,by rw[mJ (by simp[tyT,zO])];exact q _ _ [] (Same.refl _) ⟨rfl,hv⟩ (fun _ h=>nomatch h)⟩⟩⟩
 | int b=>exact⟨_,hv.ty,by rw[mJ (by simp[tyT,zO])];exact⟨_,hv.ty,by rw[mJ (by simp[tyT,zO])];exact⟨_,hv.ty,by rw[mJ (by simp[tyT,zO])];exact q _ _ [] (Same.refl _) ⟨rfl,hv⟩ (fun _ h=>nomatch h)⟩⟩⟩
 | str b=>exact⟨_,hv.ty,by rw[mJ (by simp[tyT,zO])];exact⟨_,hv.ty,by rw[mJ (by simp[tyT,zO])];exact⟨_,hv.ty,by rw[mJ (by simp[tyT,zO])];exact q _ _ [] (Same.refl _) ⟨rfl,hv⟩ (fun _ h=>nomatch h)⟩⟩⟩
end
mutual
def T.gd:T→Prop
 | .str _=>True
 | .lst us=>T.gds us
 | .tup us=>T.gds us
 | .dic ks us=>ks.Nodup∧ks.length=us.length∧True∧T.gds us
 | .non=>True
 | .bl _=>True
 | .int _=>True
def T.gds:List T→Prop
 | []=>True
 | u::us=>T.gd u∧T.gds us
end
theorem T.gds_mem{t:T}:∀{ts:List T},T.gds ts→t∈ts→T.gd t
 | [],_,h=>nomatch h
 | u::ts,h,hm=>(mG.mp hm).elim (fun e=>e▸h.1) (T.gds_mem h.2)
mutual
theorem T.few_gd:∀t:T,T.few t→T.gd t
 | .lst us,h=>T.fews_gds us h.2
 | .dic ks us,h=>⟨h.1,h.2.2.1,mC,T.fews_gds us h.2.2.2⟩
 | .tup _,h=>h.elim
 | .non,_=>mC
 | .bl _,_=>mC
 | .int _,_=>mC
 | .str _,_=>mC
theorem T.fews_gds:∀us:List T,T.fews us→T.gds us
 | [],_=>mC
 | t::us,h=>⟨T.few_gd t h.1,T.fews_gds us h.2⟩
end
abbrev zAf:Stmt:=top 23
abbrev kK:Stmt:=top 24
abbrev zAz:Stmt:=top 25
abbrev qL:Stmt:=top 26
mutual
def zAc:T→Nat
 | .lst us=>zAu us+1
 | .dic _ us=>zAu us+1
 | .tup _=>0
 | .non=>0
 | .bl _=>0
 | .int _=>0
 | .str _=>0
def zAu:List T→Nat
 | []=>0
 | u::us=>max (zAc u) (zAu us)
end
mutual
def lsz:T→Nat
 | .lst us=>zAd us+1
 | .dic _ us=>zAd us+1
 | .tup _=>1
 | .non=>1
 | .bl _=>1
 | .int _=>1
 | .str _=>1
def zAd:List T→Nat
 | []=>0
 | u::us=>lsz u+zAd us
end
mutual
def zCo:T→Bool
 | .lst us=>decide (us.length≤60)&& kL us
 | .dic ks us=>decide (ks.length≤30)&& kL us
 | .tup _=>true
 | .non=>true
 | .bl _=>true
 | .int _=>true
 | .str _=>true
def kL:List T→Bool
 | []=>true
 | u::us=>zCo u && kL us
end
def vL:T→List T
 | .lst us=>us
 | .dic _ us=>us
 | _=>[]
def zFz:T→Bool
 | .lst _=>true
 | .dic _ _=>true
 | _=>false
theorem zKd:∀(l:List T)(b:Nat),((l.map fun t=>(zAc t:Int)).foldl mxI (b:Int))=((max b (zAu l):Nat):Int)
 | [],b=>by
  show(b:Int)=((max b 0:Nat):Int)
  lia
 | u::l,b=>by
  have e:mxI (b:Int) (zAc u:Int)=((max b (zAc u):Nat):Int):=by
   unfold mxI
   by_cases h:zAc u>b
   ·rw[mW (by lia),Nat.max_eq_right (by lia)]
   ·rw[mJ (by lia),Nat.max_eq_left (by lia)]
  rw[mN,sL,e,zKd l,Nat.max_assoc]
  rfl
theorem mx_l(us:List T):mxD 0 (us.map fun t=>(zAc t:Int))=(zAu us:Int):=by
 cases us with
 | nil=>rfl
 | cons u us=>exact zKd us (zAc u)
theorem zRs:∀us:List T,(us.map fun t=>(lsz t:Int)).sum=(zAd us:Int)
 | []=>rfl
 | u::us=>by
  rw[mN,List.sum_cons,zRs us];show(lsz u:Int)+(zAd us:Int)=((lsz u+zAd us:Nat):Int)
  lia
theorem zSa:∀us:List T,(us.map zCo).all id=kL us
 | []=>rfl
 | u::us=>by
  rw[mN,List.all_cons,zSa us];rfl
theorem zMq(t:T):(zO (tyT t) "list" || zO (tyT t) "dict")=zFz t:=by
 cases t<;>(simp only[tyT,zFz];decide+kernel)
theorem zEz{t:T}(h:zFz t=true):T.dep t=T.deps (vL t)+1∧T.sz t=T.szs (vL t)+1∧zAc t=zAu (vL t)+1∧lsz t=zAd (vL t)+1:=by
 cases t<;>first | exact⟨rfl,rfl,rfl,rfl⟩| cases h
theorem zIi{t:T}(h:zFz t=true)(g:T.gd t):T.gds (vL t):=by
 cases t with
 | lst us=>exact g
 | dic ks us=>exact g.2.2.2
 | _=>cases h
theorem zIb{t:T}(h:zFz t=false):zAc t=0∧lsz t=1∧zCo t=true:=by
 cases t<;>first | exact⟨rfl,rfl,rfl⟩| cases h
section
variable{P:Program}{w:World}{K:W.Frag}{mg:Str→Option Value}{base:Heap}{f:Addr}{fd:FuncData}
def vZ:Sp:=fun vs H Q _=>∃(v:V)(t:T),vs= [v]∧Rep H v t∧T.gd t∧zFz t=true∧T.sz t≤20000∧∀l ys H',Same H H'→H' l=some (.lst ys)→Reps H' ys (vL t)→Q (.ref l) H'
theorem scInner:yE ["_law_thing"] ["_law_thing"] (zJ zAf):=by walk_at "sc"
theorem zPf(F:Fun K "_law_inner" "_law_inner" zAf f fd)(B:Bl mg):FnOk P w K mg base CX0 1 f fd ["_law_thing"] vZ:=by
 refine F.ok scInner (by walk_at "ln") fun c A o s H vs Q E hr h=>?_;obtain⟨v,t,rfl,hv,hg,hh,hz,q⟩:=h;have nd:=scInner.nd;have hu:=wC hr;refine⟨_,(zF (zS (zY (pI B.isinstance zI B.dict yP (pv 0))) (zG (zK (uI (xF (own:=["_law_name"]) (F:=[("_law_thing",0)]) ⟨rfl,by walk_at "wu",by walk_at "wu",by walk_at "wu",(.cons rfl rfl rfl .nil)⟩ rfl (zBj (pv 0)) (fun _ _ _ _=>yF (i:=0) (by show(xK ["_law_name"] [("_law_thing",0)]).Nodup;decide+kernel) rfl (nH rfl)) (fun _ _ _ _=>yZ) (fun _ _ _ _=>(xL hu (pv 1) (pv 0) (fun _ _=>rfl))))))) zL)
  (zG (zK (pv 0)))), ?_⟩
 walk_at "st";walk_at "rd3";refine⟨_,hv.ty, ?_⟩
 cases t with
 | lst us=>
  obtain⟨a,xs,rfl,ha,hx⟩:=hv;exact iN (show¬zO "list" "dict" =true by decide+kernel) (q a xs H (Same.refl _) ha hx)
 | dic ks us=>
  obtain⟨d,ps,rfl,hdd,hk,hs⟩:=hv;have hl0:=T.szs_len us;have hz':T.szs us+1≤20000:=hz;have hpl:ps.length=us.length:=by have:=hs.length;rwa [mB] at this
  have nkp:(ps.map (·.1)).Nodup:=by rw[hk];exact vA hg.1
  refine iP (show zO "dict" "dict" =true by decide+kernel) ?_;refine⟨d,rfl,ps, .inl ⟨hdd,fun o=>?_⟩⟩;have hsf:Reps (upd H d (.frz o (.dK ps))) (ps.map (·.2)) us:=Reps.dic_away hdd hk hs;refine kX (fun i ys H'=>Same (upd H d (.frz o (.dK ps))) H'∧ys=(ps.take i).map (·.2)) (by rw[mQ];lia) ⟨Same.refl _,rfl⟩ (fun i ys H' h=>h.1 _ _ zB) ?_ ?_
  ·rintro i kv ys H' hkv _ ⟨g,rfl⟩
   walk_at "rd3";refine⟨kv.2, .inl ⟨ps,kv.1, .inr ⟨o,g _ _ zB⟩,rfl,(jD nkp hkv).symm⟩,g, ?_⟩;rw[yG hkv,mP];rfl
  ·rintro ys H' _ ⟨g,rfl⟩ p hp'
   rw[nT];have gs:Same H (thaw H (upd H' p (.lst (ps.map (·.2))))):=qC (o:=o) hdd (g.trans (zC hp' _));exact q p _ _ gs (xE zB (by intro o v z;cases z)) (Reps.same gs _ _ hs)
 | _=>cases hh
def gI(n:Nat):Sp:=fun vs H Q _=>∃(v:V)(t:T),vs= [v]∧Rep H v t∧T.gd t∧T.dep t<n∧T.sz t≤20000∧∀H',Same H H'→Q (.int (zAc t)) H'
theorem scDepth:yE ["_law_thing"] ["_law_thing"] (zJ kK):=by walk_at "sc"
theorem zKr{n:Nat}(F:Fun K "_law_depth" "_law_depth" kK f fd)(B:Bl2 mg)(G_law_inner:Dn P w K mg base 1 "_law_inner" ["_law_thing"] vZ)(G_law_depth:Dn P w K mg base (2+n) "_law_depth" ["_law_thing"] (gI n)):FnOk P w K mg base CX0 (2+n+1) f fd ["_law_thing"] (gI (n+1)):=by
 refine F.ok scDepth (by walk_at "ln") fun c A o s H vs Q E hr h=>?_;obtain⟨v,t,rfl,hv,hg,hd,hz,q⟩:=h;have nd:=scDepth.nd;refine⟨_,(zF (zS (vS (zY (zM (qX (T:="list") (U:="dict") (by decide) (by decide)) rfl B.isinstance zI (zA (pv 0) (zA (wM (zA (xU (v:=.ty "list") rfl B.list xB rfl) (zA (xU (v:=.ty "dict") rfl B.dict yP rfl) zD))) zD))))) (zG (zK zE)) zL)
  (zG (zK (zH yR zE (zRq rfl rfl B.max (zA (xF (own:=["_law_one"]) (F:=[]) ⟨rfl,by walk_at "wu",by walk_at "wu",by walk_at "wu", .nil⟩ rfl (xM (zT G_law_inner hr (by lia) rfl (zA (pv 0) zD))) (fun _ _ _ _=>yF (i:=0) (by show(xK ["_law_one"] []).Nodup;decide+kernel) rfl (nH rfl)) (fun _ _ _ _=>yZ) (fun _ _ _ _=>(zT G_law_depth hr (by lia) rfl (zA (pv 0) zD)))) zD) zE))))), ?_⟩
 walk_at "st";walk_at "rd3";intro p hp;have s1:=zC hp (.tup [V.ty "list",V.ty "dict"]);refine⟨v,_,p,⟨rfl,rfl⟩,zB,vQ s1 hv.ty, ?_⟩;rw[zMq]
 by_cases hh:zFz t=true
 ·refine iN (by rw[hh];decide) ⟨v,t,rfl,Rep.same s1 _ _ hv,hg,hh,hz,fun l ys H1 g1 hl hR=>?_⟩
  obtain⟨k1,k2,k3,k4⟩:=zEz hh;have hgd:=zIi hh hg;have hlen:=hR.length;have hle:=T.szs_len (vL t);refine⟨l,rfl,⟨_,SqL.of hl⟩,xI (K:=K) (xs:=ys) (fun i zs H2=>Same H1 H2∧zs=(((vL t).take i).map fun t=>(zAc t:Int)).map V.int) (by rw[mQ];lia) ⟨Same.refl _,rfl⟩ (fun i zs H2 _ h=>SqL.of (h.1 _ _ hl)) ?_ ?_⟩
  ·rintro i x zs H2 hx _ ⟨g2,rfl⟩
   obtain⟨u,hu,hr'⟩:=hR.get hx;have hm:=mF hu;have d1:=T.deps_le hm;have d2:=T.szs_le hm;walk_at "rd3";refine⟨x,u,rfl,Rep.same g2 _ _ hr',T.gds_mem hgd hm,by lia,by lia,fun H3 g3=>⟨g2.trans g3, ?_⟩⟩;rw[yG hu,mP,mP];rfl
  ·rintro zs H2 _ ⟨g2,rfl⟩ p' hp'
   rw[hlen,nT];refine⟨p',rfl,_,SqL.of zB, ?_⟩;rw[mx_l];rw[k3] at q;have e:(1:Int)+(zAu (vL t):Int)=((zAu (vL t)+1:Nat):Int):=by lia
   rw[e];exact q _ (s1.trans (g1.trans (g2.trans (zC hp' _))))
 ·rw[sW] at hh
  obtain⟨n1,n2,n3⟩:=zIb hh;refine iP hh ?_;rw[n1] at q;exact q _ s1
theorem zLo(F:Fun K "_law_depth" "_law_depth" kK f fd):FnOk P w K mg base CX0 2 f fd ["_law_thing"] (gI 0):=by
 refine F.ok scDepth (by walk_at "ln") fun c A o s H vs Q E hr h=>?_;obtain⟨v,t,rfl,hv,hg,hd,_⟩:=h;exact absurd hd (pX _)
theorem zDp(F:Fun K "_law_depth" "_law_depth" kK f fd)(B:Bl2 mg)(G:Dn P w K mg base 1 "_law_inner" ["_law_thing"] vZ)(b:Binds K fd ["_law_thing"] [])(kp:W.keepIn K (.ref f)=true)(m:mg "_law_depth" =some (.ref f)):
  ∀n:Nat,FnOk P w K mg base CX0 (2+n) f fd ["_law_thing"] (gI n)
 | 0=>zLo F
 | n+1=>zKr F B G ⟨_,_,zDp F B G b kp m n,b,kp,m⟩
def uV(n:Nat):Sp:=fun vs H Q _=>∃(v:V)(t:T),vs= [v]∧Rep H v t∧T.gd t∧T.dep t<n∧T.sz t≤20000∧∀H',Same H H'→Q (.int (lsz t)) H'
theorem scSize:yE ["_law_thing"] ["_law_thing"] (zJ zAz):=by walk_at "sc"
theorem zOl{n:Nat}(F:Fun K "_law_size" "_law_size" zAz f fd)(B:Bl mg)(G_law_inner:Dn P w K mg base 1 "_law_inner" ["_law_thing"] vZ)(G_law_size:Dn P w K mg base (2+n) "_law_size" ["_law_thing"] (uV n)):FnOk P w K mg base CX0 (2+n+1) f fd ["_law_thing"] (uV (n+1)):=by
 refine F.ok scSize (by walk_at "ln") fun c A o s H vs Q E hr h=>?_;obtain⟨v,t,rfl,hv,hg,hd,hz,q⟩:=h;have nd:=scSize.nd;refine⟨_,(zF (zS (vS (zY (zM (qX (T:="list") (U:="dict") (by decide) (by decide)) rfl B.isinstance zI (zA (pv 0) (zA (wM (zA (xU (v:=.ty "list") rfl B.list xB rfl) (zA (xU (v:=.ty "dict") rfl B.dict yP rfl) zD))) zD))))) (zG (zK zE)) zL)
  (zG (zK (zH yR zE (zM (zOi rfl) rfl B.sum zTn (zA (xF (own:=["_law_one"]) (F:=[]) ⟨rfl,by walk_at "wu",by walk_at "wu",by walk_at "wu", .nil⟩ rfl (xM (zT G_law_inner hr (by lia) rfl (zA (pv 0) zD))) (fun _ _ _ _=>yF (i:=0) (by show(xK ["_law_one"] []).Nodup;decide+kernel) rfl (nH rfl)) (fun _ _ _ _=>yZ) (fun _ _ _ _=>(zT G_law_size hr (by lia) rfl (zA (pv 0) zD)))) zD)))))), ?_⟩
 walk_at "st";walk_at "rd3";intro p hp;have s1:=zC hp (.tup [V.ty "list",V.ty "dict"]);refine⟨v,_,p,⟨rfl,rfl⟩,zB,vQ s1 hv.ty, ?_⟩;rw[zMq]
 by_cases hh:zFz t=true
 ·refine iN (by rw[hh];decide) ⟨v,t,rfl,Rep.same s1 _ _ hv,hg,hh,hz,fun l ys H1 g1 hl hR=>?_⟩
  obtain⟨k1,k2,k3,k4⟩:=zEz hh;have hgd:=zIi hh hg;have hlen:=hR.length;have hle:=T.szs_len (vL t);refine⟨l,rfl,⟨_,SqL.of hl⟩,xI (K:=K) (xs:=ys) (fun i zs H2=>Same H1 H2∧zs=(((vL t).take i).map fun t=>(lsz t:Int)).map V.int) (by rw[mQ];lia) ⟨Same.refl _,rfl⟩ (fun i zs H2 _ h=>SqL.of (h.1 _ _ hl)) ?_ ?_⟩
  ·rintro i x zs H2 hx _ ⟨g2,rfl⟩
   obtain⟨u,hu,hr'⟩:=hR.get hx;have hm:=mF hu;have d1:=T.deps_le hm;have d2:=T.szs_le hm;walk_at "rd3";refine⟨x,u,rfl,Rep.same g2 _ _ hr',T.gds_mem hgd hm,by lia,by lia,fun H3 g3=>⟨g2.trans g3, ?_⟩⟩;rw[yG hu,mP,mP];rfl
  ·rintro zs H2 _ ⟨g2,rfl⟩ p' hp'
   rw[hlen,nT];refine⟨p',rfl,_,SqL.of zB, ?_⟩;rw[zRs];rw[k4] at q;have e:(1:Int)+(zAd (vL t):Int)=((zAd (vL t)+1:Nat):Int):=by lia
   rw[e];exact q _ (s1.trans (g1.trans (g2.trans (zC hp' _))))
 ·rw[sW] at hh
  obtain⟨n1,n2,n3⟩:=zIb hh;refine iP hh ?_;rw[n2] at q;exact q _ s1
theorem zOv(F:Fun K "_law_size" "_law_size" zAz f fd):FnOk P w K mg base CX0 2 f fd ["_law_thing"] (uV 0):=by
 refine F.ok scSize (by walk_at "ln") fun c A o s H vs Q E hr h=>?_;obtain⟨v,t,rfl,hv,hg,hd,_⟩:=h;exact absurd hd (pX _)
theorem zGw(F:Fun K "_law_size" "_law_size" zAz f fd)(B:Bl mg)(G:Dn P w K mg base 1 "_law_inner" ["_law_thing"] vZ)(b:Binds K fd ["_law_thing"] [])(kp:W.keepIn K (.ref f)=true)(m:mg "_law_size" =some (.ref f)):
  ∀n:Nat,FnOk P w K mg base CX0 (2+n) f fd ["_law_thing"] (uV n)
 | 0=>zOv F
 | n+1=>zOl F B G ⟨_,_,zGw F B G b kp m n,b,kp,m⟩
def qD(n:Nat):Sp:=fun vs H Q _=>∃(v:V)(t:T),vs= [v]∧Rep H v t∧T.gd t∧T.dep t<n∧T.sz t≤20000∧∀H',Same H H'→Q (.bl (zCo t)) H'
theorem scNarrow:yE ["_law_thing"] ["_law_thing"] (zJ qL):=by walk_at "sc"
theorem zIw{n:Nat}(F:Fun K "_law_narrow" "_law_narrow" qL f fd)(B:Bl mg)(G_law_inner:Dn P w K mg base 1 "_law_inner" ["_law_thing"] vZ)(G_law_narrow:Dn P w K mg base (2+n) "_law_narrow" ["_law_thing"] (qD n)):FnOk P w K mg base CX0 (2+n+1) f fd ["_law_thing"] (qD (n+1)):=by
 refine F.ok scNarrow (by walk_at "ln") fun c A o s H vs Q E hr h=>?_;obtain⟨v,t,rfl,hv,hg,hd,hz,q⟩:=h;have nd:=scNarrow.nd;refine⟨_,(zF (zS (vS (zY (zM (qX (T:="list") (U:="dict") (by decide) (by decide)) rfl B.isinstance zI (zA (pv 0) (zA (wM (zA (xU (v:=.ty "list") rfl B.list xB rfl) (zA (xU (v:=.ty "dict") rfl B.dict yP rfl) zD))) zD))))) (zG (zK wV)) zL)
  (zF (zS (zP qU (zM kN rfl B.len yO (zA (pv 0) zD)) (yI yA (zX (zA zE (zA zE zD))) (yM xC rfl B.int wA (zA (pI B.isinstance zI B.dict yP (pv 0)) zD)) (fun _ _=>rfl)) (zN _)) (zG (zK wV)) zL)
  (zG (zK (zM (uN rfl) rfl B.all zFc (zA (xF (own:=["_law_one"]) (F:=[]) ⟨rfl,by walk_at "wu",by walk_at "wu",by walk_at "wu", .nil⟩ rfl (xM (zT G_law_inner hr (by lia) rfl (zA (pv 0) zD))) (fun _ _ _ _=>yF (i:=0) (by show(xK ["_law_one"] []).Nodup;decide+kernel) rfl (nH rfl)) (fun _ _ _ _=>yZ) (fun _ _ _ _=>(zT G_law_narrow hr (by lia) rfl (zA (pv 0) zD)))) zD)))))), ?_⟩
 walk_at "st";walk_at "rd3";intro p hp;have s1:=zC hp (.tup [V.ty "list",V.ty "dict"]);refine⟨v,_,p,⟨rfl,rfl⟩,zB,vQ s1 hv.ty, ?_⟩;rw[zMq]
 by_cases hh:zFz t=true
 ·refine iN (by rw[hh];decide) ?_
  obtain⟨k1,k2,k3,k4⟩:=zEz hh;have hgd:=zIi hh hg;have hle:=T.szs_len (vL t);have go:∀H2,Same H H2→zCo t=kL (vL t)→vZ [v] H2 (fun x H1=>∃a,x=V.ref a∧(∃xs,SqL K H1 a xs)∧xV [Str.ofString "_law_one"] [] (vN 0) gO (uH (qD n) [] E0 (jO (jU 0) zCe)) [some v]
    (fun x H1=>∃p,x=V.ref p∧∃x,SqL K H1 p (List.map V.bl x)∧Q (V.bl (x.all id)) H1) (Itl K a) H1) E0:=by
   intro H2 g2 hq;refine⟨v,t,rfl,Rep.same g2 _ _ hv,hg,hh,hz,fun l ys H1 g1 hl hR=>?_⟩;have hlen:=hR.length;refine⟨l,rfl,⟨_,SqL.of hl⟩,xI (K:=K) (xs:=ys) (fun i zs H2=>Same H1 H2∧zs=(((vL t).take i).map zCo).map V.bl) (by rw[mQ];lia) ⟨Same.refl _,rfl⟩ (fun i zs H2 _ h=>SqL.of (h.1 _ _ hl)) ?_ ?_⟩
   ·rintro i x zs H2 hx _ ⟨g2,rfl⟩
    obtain⟨u,hu,hr'⟩:=hR.get hx;have hm:=mF hu;have d1:=T.deps_le hm;have d2:=T.szs_le hm;walk_at "rd3";refine⟨x,u,rfl,Rep.same g2 _ _ hr',T.gds_mem hgd hm,by lia,by lia,fun H3 g3=>⟨g2.trans g3, ?_⟩⟩;rw[yG hu,mP,mP];rfl
   ·rintro zs H3 _ ⟨g3,rfl⟩ p' hp'
    rw[hlen,nT];refine⟨p',rfl,_,SqL.of zB, ?_⟩;rw[zSa,←hq];exact q _ (g2.trans (g1.trans (g3.trans (zC hp' _))))
  cases t with
  | lst us=>
   have hty:tyS H v=some "list":=hv.ty;have hvv:=hv;obtain⟨a,xs,rfl,ha,hx⟩:=hvv;have hxl:=hx.length;refine⟨a,rfl,xs.length, .inl ⟨xs,SqL.of (s1 _ _ ha),rfl⟩,fun p2 hp2=>?_⟩;have s2:=s1.trans (zC hp2 (.lst [V.int 60,V.int 30]));refine⟨_,vQ s2 hty, ?_⟩;rw[mJ (show¬zO "list" "dict" =true by decide+kernel)];refine yN (SqL.of zB) (yJ (j:=0) rfl) ⟨60,rfl, ?_⟩
   by_cases c:60<us.length
   ·refine iP (by lia) ?_
    have e:zCo (.lst us)=false:=by show(decide (us.length≤60)&& kL us)=false;rw[nP (by lia)];rfl
    rw[←e];exact q _ s2
   ·refine iN (by lia) (go _ s2 ?_)
    show(decide (us.length≤60)&& kL us)=kL us;rw[pL (by lia)];rfl
  | dic ks us=>
   have hty:tyS H v=some "dict":=hv.ty;have hvv:=hv;obtain⟨a,ps,rfl,ha,hk,hx⟩:=hvv;have hxl:=hx.length;rw[mB] at hxl;have hkl:=hg.2.1;refine⟨a,rfl,ps.length, .inr ⟨ps,s1 _ _ ha,rfl⟩,fun p2 hp2=>?_⟩;have s2:=s1.trans (zC hp2 (.lst [V.int 60,V.int 30]));refine⟨_,vQ s2 hty, ?_⟩;rw[mW (show zO "dict" "dict" =true by decide+kernel)];refine yN (SqL.of zB) (yJ (j:=1) rfl) ⟨30,rfl, ?_⟩
   by_cases c:30<ks.length
   ·refine iP (by lia) ?_
    have e:zCo (.dic ks us)=false:=by show(decide (ks.length≤30)&& kL us)=false;rw[nP (by lia)];rfl
    rw[←e];exact q _ s2
   ·refine iN (by lia) (go _ s2 ?_)
    show(decide (ks.length≤30)&& kL us)=kL us;rw[pL (by lia)];rfl
  | _=>cases hh
 ·rw[sW] at hh
  obtain⟨n1,n2,n3⟩:=zIb hh;refine iP hh ?_;rw[n3] at q;exact q _ s1
theorem zIo(F:Fun K "_law_narrow" "_law_narrow" qL f fd):FnOk P w K mg base CX0 2 f fd ["_law_thing"] (qD 0):=by
 refine F.ok scNarrow (by walk_at "ln") fun c A o s H vs Q E hr h=>?_;obtain⟨v,t,rfl,hv,hg,hd,_⟩:=h;exact absurd hd (pX _)
theorem zBz(F:Fun K "_law_narrow" "_law_narrow" qL f fd)(B:Bl mg)(G:Dn P w K mg base 1 "_law_inner" ["_law_thing"] vZ)(b:Binds K fd ["_law_thing"] [])(kp:W.keepIn K (.ref f)=true)(m:mg "_law_narrow" =some (.ref f)):
  ∀n:Nat,FnOk P w K mg base CX0 (2+n) f fd ["_law_thing"] (qD n)
 | 0=>zIo F
 | n+1=>zIw F B G ⟨_,_,zBz F B G b kp m n,b,kp,m⟩
abbrev uX:Stmt:=top 27
def zBy(t:T):Bool:=zCo t && decide (zAc t<9)&& decide (lsz t<201)
def zUp:Sp:=fun vs H Q _=>∃(v:V)(t:T),vs= [v]∧Rep H v t∧T.gd t∧T.dep t<20∧T.sz t≤20000∧∀H',Same H H'→Q (.bl (zBy t)) H'
theorem scGoodT:yE ["_law_thing"] ["_law_thing"] (zJ uX):=by walk_at "sc"
theorem zOw(F:Fun K "_law_good" "_law_good" uX f fd)(B:Bl mg)(G_law_narrow:Dn P w K mg base (2+20) "_law_narrow" ["_law_thing"] (qD 20))(G_law_depth:Dn P w K mg base (2+20) "_law_depth" ["_law_thing"] (gI 20))(G_law_size:Dn P w K mg base (2+20) "_law_size" ["_law_thing"] (uV 20)):FnOk P w K mg base CX0 23 f fd ["_law_thing"] zUp:=by
 refine F.ok scGoodT (by walk_at "ln") fun c A o s H vs Q E hr h=>?_;obtain⟨v,t,rfl,hv,hg,hd,hz,q⟩:=h;have nd:=scGoodT.nd;refine⟨_,(zG (zK (zAg (zT G_law_narrow hr (by lia) rfl (zA (pv 0) zD)) (zAg (yV vX (zT G_law_depth hr (by lia) rfl (zA (pv 0) zD)) zE (zN _)) (zFg (yV vX (zT G_law_size hr (by lia) rfl (zA (pv 0) zD)) zE (zN _))))))), ?_⟩;walk_at "st";walk_at "rd3";refine⟨v,t,rfl,hv,hg,hd,hz,fun H1 g1=>⟨zCo t,rfl, ?_⟩⟩;unfold zBy at q
 by_cases c1:zCo t=true
 ·rw[c1,Bool.true_and] at q
  refine iP c1 ⟨v,t,rfl,Rep.same g1 _ _ hv,hg,hd,hz,fun H2 g2=>⟨_,rfl, ?_⟩⟩
  by_cases c2:zAc t<9
  ·rw[pL c2,Bool.true_and] at q
   refine iP (by lia) ⟨v,t,rfl,Rep.same (g1.trans g2) _ _ hv,hg,hd,hz,fun H3 g3=>⟨_,rfl, ?_⟩⟩;have e:decide ((lsz t:Int)<201)=decide (lsz t<201):=bF.mpr (by lia);rw[e];exact q _ (g1.trans (g2.trans g3))
  ·rw[nP c2,sP] at q
   exact iN (by lia) (q _ (g1.trans g2))
 ·rw[sW] at c1
  rw[c1,sP,sP] at q;exact iN (by rw[c1];decide) (q _ g1)
abbrev sAh:Stmt:=top 11
def ahead:List T→List T→Nat
 | t::ts,u::us=>if alk t u=true then ahead ts us+1 else 0
 | _,_=>0
theorem kG:∀(ts us:List T),ahead ts us≤ts.length∧ahead ts us≤us.length
 | [],_=>⟨mL _,mL _⟩
 | _::_,[]=>⟨mL _,mL _⟩
 | t::ts,u::us=>by
  have:=kG ts us;show(if alk t u=true then ahead ts us+1 else 0)≤ts.length+1∧(if alk t u=true then ahead ts us+1 else 0)≤us.length+1;split<;>lia
theorem zDf{t u:T}:∀(ts us:List T)(i:Nat),ts[i]? =some t→us[i]? =some u→ahead (ts.drop i) (us.drop i)=if alk t u=true then ahead (ts.drop (i+1)) (us.drop (i+1))+1 else 0:=by
 intro ts
 induction ts with
 | nil=>intro us i h _;simp at h
 | cons a ts ih=>
  intro us i h1 h2
  cases us with
  | nil=>simp at h2
  | cons b us=>
   cases i with
   | zero=>
    simp only[nW,Option.some.injEq] at h1 h2;subst h1 h2
    rfl
   | succ i=>
    simp only[tL] at h1 h2;exact ih us i h1 h2
def zMx(n:Nat):Sp:=fun vs H Q _=>∃(a b:Addr)(xs ys:List V)(us ws:List T),vs= [.ref a, .ref b]∧H a=some (.lst xs)∧H b=some (.lst ys)∧Reps H xs us∧Reps H ys ws∧T.few (.lst us)∧T.few (.lst ws)∧T.deps us<n∧∀H',Same H H'→Q (.int (ahead us ws:Nat)) H'
theorem scAh:yE ["one","other","count","part","against"] ["one","other"] (zJ sAh):=by walk_at "sc"
theorem ok_ah{n:Nat}(F:Fun K "alike_ahead" "alike_ahead" sAh f fd)(B:Bl6 mg)(Galike:Dn P w K mg base (2+2*n) "alike" ["one","other"] (jP n)):FnOk P w K mg base CX0 (2+2*n+1) f fd ["one","other"] (zMx n):=by
 refine F.ok scAh (by walk_at "ln") fun c A o s H vs Q E hr h=>?_;obtain⟨a,b,xs,ys,us,ws,rfl,ha,hb,hx,hy,hf,hf',hd,q⟩:=h;have nd:=scAh.nd;refine⟨_,(zF (pS 2 nd zE)
  (zF (wT PassesOwn.never rfl (zTo rfl B.zip (zA (pv 0) (zA (pv 1) zD))) (zNn (n:=2) rfl (jA (yF (i:=3) nd rfl (nH rfl)) (jA (yF (i:=4) nd rfl (nH rfl)) zFf))) (zF (zS (vS (zY (zT Galike hr (by lia) rfl (zA (pv 3) (zA (pv 4) zD))))) (zG (zK (pv 2))) zL)
  (zG (zUo (i:=2) nd rfl (nH rfl) zE zSx))))
  (zG (zK (pv 2))))), ?_⟩
 walk_at "st";walk_at "rd3";refine⟨a,b,⟨rfl,rfl⟩,⟨xs,SqL.of ha⟩,⟨ys,SqL.of hb⟩, ?_⟩;have hlx:=hx.length;have hly:=hy.length;have hl5:=hf.1;refine zPl (xs:=xs) (ys:=ys) (fun i σ H2=>(∃o1 o2,σ= [some (V.ref a),some (V.ref b),some (V.int (i:Nat)),o1,o2])∧Same H H2∧ahead us ws=i+ahead (us.drop i) (ws.drop i)) ⟨⟨_,_,rfl⟩,Same.refl _,by simp⟩ (fun i σ H2 h=>⟨SqL.of (h.2.1 _ _ ha),SqL.of (h.2.1 _ _ hb)⟩) ?_ ?_
 ·rintro i x y σ H2 p hxi hyi ⟨⟨o1,o2,rfl⟩,g,he⟩ hp
  have g2:=g.trans (zC hp (.tup [x,y]));obtain⟨t,ht,hrt⟩:=hx.get hxi;obtain⟨u,hu',hru⟩:=hy.get hyi;have d1:=T.deps_le (mF ht);rw[zDf _ _ _ ht hu'] at he;walk_at "rd3";refine⟨[x,y],SqT.of zB,rfl,x,[y],rfl,y,[],rfl,rfl, ?_⟩;refine⟨x,y,t,u,rfl,Rep.rp _ _ (Rep.same g2 _ _ hrt),Rep.rp _ _ (Rep.same g2 _ _ hru),T.fews_mem hf.2 (mF ht),T.fews_mem hf'.2 (mF hu'),by lia,fun H3 g3=>⟨alk t u,rfl, ?_⟩⟩
  cases ha':alk t u with
  | false=>
   rw[ha',mJ (by decide),bG] at he;rw[mW rfl];rw[he] at q;exact q _ (g2.trans g3)
  | true=>
   rw[ha',mW rfl] at he;rw[mJ (by decide)];unfold tAug ipI;walk_at "rd3";exact⟨⟨by lia,_,rfl⟩,g2.trans g3,by lia⟩
 ·rintro i σ H2 hor h1 h2 ⟨⟨o1,o2,rfl⟩,g,he⟩
  walk_at "rd3";have:ahead (us.drop i) (ws.drop i)=0:=by
   have:=kG (us.drop i) (ws.drop i);rw[nU,nU] at this
   lia
  rw[this,bG] at he;rw[he] at q;exact q _ g
abbrev sFu:Stmt:=top 38
def zSz(n:Nat):Sp:=fun vs H Q _=>∃(a b:Addr)(xs ys:List V)(us ws:List T),vs= [.ref a, .ref b]∧H a=some (.lst xs)∧H b=some (.lst ys)∧Reps H xs us∧Reps H ys ws∧T.few (.lst us)∧T.few (.lst ws)∧(∀t∈us,T.wt t≤n)∧(∀t∈ws,T.wt t≤n)∧∀H',Same H H'→Q (.int (ahead us ws:Nat)) H'
theorem scFu:yE ["_law_one","_law_other","_law_k"] ["_law_one","_law_other"] (zJ sFu):=by walk_at "sc"
theorem ok_fu{n k:Nat}(F:Fun K "_law_first_unlike" "_law_first_unlike" sFu f fd)(B:Bl2 mg)(G_law_same:Dn P w K mg base k "_law_same" ["_law_one","_law_other"] (zCz n)):FnOk P w K mg base CX0 (k+1) f fd ["_law_one","_law_other"] (zSz n):=by
 refine F.ok scFu (by walk_at "ln") fun c A o s H vs Q E hr h=>?_;obtain⟨a,b,xs,ys,us,ws,rfl,ha,hb,hx,hy,hf,hf',hw,hw',q⟩:=h;have nd:=scFu.nd;have hu:=wC hr;refine⟨_,(zF (wT PassesOwn.never rfl (xJ rfl B.range (zA (zM (qA rfl) rfl B.min zAn (zA (zM yD rfl B.len yO (zA (pv 0) zD)) (zA (zM yD rfl B.len yO (zA (pv 1) zD)) zD))) zD)) (yF (i:=2) nd rfl (nH rfl)) (zG (zS (vS (zY (zT G_law_same hr (by lia) rfl (zA (yI yA (pv 0) (pv 2) (fun _ _=>rfl)) (zA (yI yA (pv 1) (pv 2) (fun _ _=>rfl)) zD))))) (zG (zK (pv 2))) zL)))
  (zG (zK (zM (qA rfl) rfl B.min zAn (zA (zM yD rfl B.len yO (zA (pv 0) zD)) (zA (zM yD rfl B.len yO (zA (pv 1) zD)) zD)))))), ?_⟩
 walk_at "st";walk_at "rd3";have hlx:=hx.length;have hly:=hy.length;have hl5:=hf.1;have hl6:=hf'.1;refine⟨xs,SqL.of ha,ys,SqL.of hb,_,_,⟨rfl,rfl⟩,by split<;>lia,by split<;>lia, ?_⟩;have em:(if(ys.length:Int)<(xs.length:Int) then(ys.length:Int) else(xs.length:Int)).toNat=min us.length ws.length:=by split<;>lia
 rw[em];refine wN (fun i σ H2=>(∃o,σ= [some (V.ref a),some (V.ref b),o])∧Same H H2∧ahead us ws=i+ahead (us.drop i) (ws.drop i)) ⟨⟨_,rfl⟩,Same.refl _,by simp⟩ ?_ ?_
 ·rintro i σ H2 hi ⟨⟨o,rfl⟩,g,he⟩
  obtain⟨x,hxi⟩:∃x,xs[i]? =some x:=⟨xs[i]'(by lia),nS _⟩;obtain⟨y,hyi⟩:∃y,ys[i]? =some y:=⟨ys[i]'(by lia),nS _⟩;obtain⟨t,ht,hrt⟩:=hx.get hxi;obtain⟨u,hu',hru⟩:=hy.get hyi;rw[zDf _ _ _ ht hu'] at he;have mt:=mF ht;have mu:=mF hu';walk_at "rd3";refine yN (SqL.of (g _ _ ha)) (by rw[bC];exact yJ hxi) (yN (SqL.of (g _ _ hb)) (by rw[bC];exact yJ hyi) ?_);refine⟨x,y,t,u,rfl,Rep.same g _ _ hrt,Rep.same g _ _ hru,T.fews_mem hf.2 mt,T.fews_mem hf'.2 mu,hw t mt,hw' u mu,fun H3 g3=>⟨alk t u,rfl, ?_⟩⟩
  cases ha':alk t u with
  | false=>
   rw[ha',mJ (by decide),bG] at he;rw[mW rfl,bC];rw[he] at q;exact q _ (g.trans g3)
  | true=>
   rw[ha',mW rfl] at he;rw[mJ (by decide)];exact⟨⟨_,rfl⟩,g.trans g3,by lia⟩
 ·rintro σ H2 ⟨⟨o,rfl⟩,g,he⟩
  walk_at "rd3";have h0:ahead (us.drop (min us.length ws.length)) (ws.drop (min us.length ws.length))=0:=by
   have:=kG (us.drop (min us.length ws.length)) (ws.drop (min us.length ws.length));rw[nU,nU] at this
   lia
  rw[h0,bG] at he;refine⟨xs,SqL.of (g _ _ ha),ys,SqL.of (g _ _ hb),_,_,⟨rfl,rfl⟩, ?_⟩;have e2:(if(ys.length:Int)<(xs.length:Int) then(ys.length:Int) else(xs.length:Int))=((ahead us ws:Nat):Int):=by rw[he];split<;>lia
  rw[e2];exact q _ g
abbrev sSa:Stmt:=top 33
def okS:Key→Prop
 | .inl i=>0≤i∧i≤59
 | .inr _=>True
def zRn:Sp:=fun vs H Q _=>∃(v:V)(t:T)(m:Int),vs= [v, .int m]∧Rep H v t∧T.few t∧0≤m∧m<2000000∧∀k H',Same H H'→okS k→Q (kV k) H'
theorem scSa:yE ["_law_there","_law_more"] ["_law_there","_law_more"] (zJ sSa):=by walk_at "sc"
theorem ok_sa(F:Fun K "_law_step_at" "_law_step_at" sSa f fd)(B:Bl2 mg)(G_law_name_by:Dn P w K mg base 1 "_law_name_by" ["_law_more"] jX):FnOk P w K mg base CX0 2 f fd ["_law_there","_law_more"] zRn:=by
 refine F.ok scSa (by walk_at "ln") fun c A o s H vs Q E hr h=>?_;obtain⟨v,t,m,rfl,hv,hf,h0,h1,q⟩:=h;have nd:=scSa.nd;have hu:=wC hr;refine⟨_,(zF (zS (zY (pI B.isinstance zI B.list xB (pv 0))) (zG (zK (zM (qA rfl) rfl B.min zAn (zA zE (zA (zH zU (pv 1) (zH yR (zM yD rfl B.len yO (zA (pv 0) zD)) zE)) zD))))) zL)
  (zF (zS (PW.pt (xO (zY (pI B.isinstance zI B.dict yP (pv 0))) (xO (zP qU (zM zAp rfl B.len yO (zA (pv 0) zD)) zE (zN _)) (xT (zP qU (zH zU (pv 1) zE) zE (zN _)))))) (zG (zK (yI yA (zM (yY rfl) rfl B.sorted wH (zA (pv 0) zD)) (zH zU (zH zW (pv 1) zE) (zM zAp rfl B.len yO (zA (pv 0) zD))) (fun _ _=>rfl)))) zL)
  (zG (zK (zT G_law_name_by hr (by lia) rfl (zA (zH zW (pv 1) zE) zD)))))), ?_⟩
 walk_at "st";walk_at "rd3";have nm:jX [V.int (m / 3)] H Q E0:=⟨_,rfl,by lia,by lia,fun x hx H' g=>q (.inr (tx x)) H' g mC⟩
 cases t with
 | lst us=>
  obtain⟨a,xs,rfl,ha,hx⟩:=hv;refine⟨"list",kY ha, ?_⟩;rw[mW (by decide)];refine⟨a,rfl,xs,SqL.of ha,by lia,_,_,⟨rfl,rfl⟩,q (.inl _) H (Same.refl _) ?_⟩;have e1:=pO m (show(xs.length:Int)+1≠0 by lia);show 0≤_∧_≤(59:Int);split<;>lia
 | dic ks us=>
  obtain⟨a,ps,rfl,ha,hk,hx⟩:=hv;refine⟨"dict",qP ha, ?_⟩;rw[mJ (by decide)];refine⟨"dict",qP ha, ?_⟩;rw[mW (by decide)];refine⟨a,rfl,ps,ha, ?_⟩;split
  ·rename_i hp
   split
   ·refine⟨a,rfl,ps, .inl ha,ks.map tx,by rw[hk,pC];rfl,by rw[mB];exact hf.2.1,fun l ss hl hp1 hs1=>?_⟩
    have hkl:=congrArg List.length hk;rw[mB,mB] at hkl;have hsl:=hp1.length_eq;rw[mB] at hsl;refine⟨a,rfl,ps,zC hl _ _ _ ha,hp,wF zB (pO _ (by lia)) (by rw[mB,hsl,←hkl];exact pH _ hp) fun x hx'=>?_⟩;obtain⟨z,hz,rfl⟩:=nL.mp hx';have hz':=hp1.mem_iff.mp hz;obtain⟨k,hkm,rfl⟩:=nL.mp hz';exact q (.inr (tx k)) _ (zC hl _) mC
   ·exact nm
  ·exact nm
 | non=>exact⟨_,hv.ty,by rw[mJ (by simp[tyT,zO])];exact⟨_,hv.ty,by rw[mJ (by simp[tyT,zO])];exact nm⟩⟩
 | bl b=>exact⟨_,hv.ty,by rw[mJ (by simp[tyT,zO])];exact⟨_,hv.ty,by rw[mJ (by simp[tyT,zO])];exact nm⟩⟩
 | int b=>exact⟨_,hv.ty,by rw[mJ (by simp[tyT,zO])];exact⟨_,hv.ty,by rw[mJ (by simp[tyT,zO])];exact nm⟩⟩
 | str b=>exact⟨_,hv.ty,by rw[mJ (by simp[tyT,zO])];exact⟨_,hv.ty,by rw[mJ (by simp[tyT,zO])];exact nm⟩⟩
 | tup us=>exact hf.elim
abbrev sCo:Stmt:=top 28
theorem scCo:yE ["_law_thing"] ["_law_thing"] (zJ sCo):=by walk_at "sc"
def zAr(n:Nat):Sp:=fun vs H Q _=>∃(v:V)(t:T),vs= [v]∧Rep H v t∧T.few t∧T.dep t<n∧∀v' H' D,Same H H'→Sp1 H' v' t D→(∀b∈D,H b=none)→Q v' H'
theorem zUc{n:Nat}(F:Fun K "_law_held" "_law_held" sCo f fd)(B:Bl mg)(G_law_held:Dn P w K mg base (1+n) "_law_held" ["_law_thing"] (zAr n)):FnOk P w K mg base CX0 (1+n+1) f fd ["_law_thing"] (zAr (n+1)):=by
 refine F.ok scCo (by walk_at "ln") fun c A o s H vs Q E hr h=>?_;obtain⟨v,t,rfl,hv,hp,hd,q⟩:=h;have nd:=scCo.nd;have hu:=wC hr;refine⟨_,(zF (zS (zY (pI B.isinstance zI B.list xB (pv 0))) (zG (zK (xF (own:=["_law_one"]) (F:=[]) ⟨rfl,by walk_at "wu",by walk_at "wu",by walk_at "wu", .nil⟩ rfl (xM (pv 0)) (fun _ _ _ _=>yF (i:=0) (by show(xK ["_law_one"] []).Nodup;decide+kernel) rfl (nH rfl)) (fun _ _ _ _=>yZ) (fun _ _ _ _=>(zT G_law_held hr (by lia) rfl (zA (pv 0) zD)))))) zL)
  (zF (zS (zY (pI B.isinstance zI B.dict yP (pv 0))) (zG (zK (yM (qM rfl) rfl B.dict yP (zA (uI (xF (own:=["_law_name"]) (F:=[("_law_thing",0)]) ⟨rfl,by walk_at "wu",by walk_at "wu",by walk_at "wu",(.cons rfl rfl rfl .nil)⟩ rfl (zBj (pv 0)) (fun _ _ _ _=>yF (i:=0) (by show(xK ["_law_name"] [("_law_thing",0)]).Nodup;decide+kernel) rfl (nH rfl)) (fun _ _ _ _=>yZ) (fun _ _ _ _=>(wM (zA (pv 0) (zA (zT G_law_held hr (by lia) rfl (zA (xL hu (pv 1) (pv 0) (fun _ _=>rfl)) zD)) zD)))))) zD)))) zL)
  (zG (zK (pv 0))))), ?_⟩
 walk_at "st";walk_at "rd3"
 cases t with
 | lst us=>
  obtain⟨a,xs,rfl,ha,hs⟩:=hv;obtain⟨hl0,hp⟩:=hp;have hd':T.deps us+1<n+1:=hd;refine⟨"list",kY ha, ?_⟩;rw[mW (by decide)];refine⟨a,rfl,⟨xs,SqL.of ha⟩,xI (K:=K) (xs:=xs) (fun i ys H'=>Same H H'∧∃D,Sps H' ys (us.take i) D∧∀b∈D,H b=none) ?_ ⟨Same.refl _,[],⟨rfl,rfl⟩,fun _ h=>(nomatch h)⟩ (fun i ys H' _ h=>SqL.of (h.1 _ _ ha)) ?_ ?_⟩
  ·have:=hs.length
   rw[mQ];lia
  ·rintro i u ys H' hu' _ ⟨g,D,hR,hD⟩
   obtain⟨t',ht',hr'⟩:=hs.get hu';have hm:=mF ht';have d1:=T.deps_le hm;walk_at "rd3";refine⟨u,t',rfl,Rep.same g u t' hr',T.fews_mem hp hm,by lia,fun v' H4 D1 g4 hv' hD1=>⟨g.trans g4,D++D1, ?_,fun b hb=>?_⟩⟩
   ·rw[yG ht']
    refine Sps.snoc hv' (hR.same g4) fun b hb z=>?_;obtain⟨o,ho⟩:=Sps.there _ _ _ hR hb;rw[hD1 b z] at ho;cases ho
   ·rcases nD.mp hb with z | z
    ·exact hD b z
    ·exact zZ g (hD1 b z)
  ·rintro ys H' _ ⟨g,D,hR,hD⟩ p hp'
   rw[hs.length,nT] at hR;have hpD:p∉D:=fun z=>by
    obtain⟨o,ho⟩:=Sps.there _ _ _ hR z;rw[hp'] at ho;cases ho
   refine q (.ref p) _ (p::D) (g.trans (zC hp' _)) ⟨p,ys,D,rfl,zB,rfl,hpD,hR.same (zC hp' _)⟩ fun b hb=>?_;rcases mG.mp hb with z | z
   ·rw[z];exact zZ g hp'
   ·exact hD b z
 | dic ks us=>
  obtain⟨d,ps,rfl,hdd,hk,hs⟩:=hv;obtain⟨nk,hl1,hl0,hp⟩:=hp;have hd':T.deps us+1<n+1:=hd;have hpl:ps.length=us.length:=by have:=hs.length;rwa [mB] at this
  have nkp:(ps.map (·.1)).Nodup:=by rw[hk];exact vA nk
  refine⟨"dict",qP hdd, ?_⟩;rw[mJ (by decide)];refine⟨"dict",qP hdd, ?_⟩;rw[mW (by decide)];refine⟨d,rfl,ps, .inl ⟨hdd,fun o=>?_⟩⟩;have gf:Same (upd H d (.frz o (.dK ps))) (upd H d (.frz o (.dK ps))):=Same.refl _;have gH:∀b,upd H d (.frz o (.dK ps)) b=none→H b=none:=fun b e=>by
   by_cases hb:b=d
   ·subst hb;rw[zB] at e;cases e
   ·rw[zR hb] at e
    exact e
  have hsf:Reps (upd H d (.frz o (.dK ps))) (ps.map (·.2)) us:=Reps.dic_away hdd hk hs;have hdf:upd H d (.frz o (.dK ps)) d=some (.frz o (.dK ps)):=zB;generalize hHf:upd H d (.frz o (.dK ps))=Hf at gf gH hsf hdf⊢;refine kX (fun i ys H'=>Same Hf H'∧∃(kvs:List (Key×V))(D:List Addr),kvs.length=ys.length∧kvs.map (·.1)=(ps.take i).map (·.1)∧Sps H' (kvs.map (·.2)) (us.take i) D∧(∀b∈D,H b=none)∧∀(j:Nat) kv,kvs[j]? =some kv→∃a,ys[j]? =some (.ref a)∧H' a=some (.tup [kV kv.1,kv.2])) ?_ ⟨Same.refl _,[],[],rfl,rfl,⟨rfl,rfl⟩,fun _ h=>(nomatch h),by intro j kv h;simp at h⟩ (fun i ys H' h=>h.1 _ _ hdf) ?_ ?_
  ·rw[mQ];lia
  ·rintro i kv ys H' hkv _ ⟨g,kvs,D,l1,l2,hR,hD,ht⟩
   have s2:=Same.refl H';have g2:=g.trans s2;walk_at "rd3";obtain⟨t',ht',hr'⟩:=hsf.get (i:=i) (v:=kv.2) (by rw[mU,hkv];rfl);have hm:=mF ht';have d1:=T.deps_le hm;refine⟨kv.2, .inl ⟨ps,kv.1, .inr ⟨o,g _ _ hdf⟩,rfl,(jD nkp hkv).symm⟩,kv.2,t',rfl,Rep.same g2 _ t' hr',T.fews_mem hp hm,by lia,fun v' H1 D1 g1 hv' hD1 p hp1=>⟨(g2.trans g1).trans (zC hp1 _),kvs++ [(kv.1,v')],by simp[l1], ?_,D++D1, ?_,fun b hb=>?_, ?_⟩⟩
   ·rw[yG hkv,mP,mP,l2];rfl
   ·rw[yG ht',mP]
    refine Sps.snoc (hv'.same (zC hp1 _)) (hR.same (s2.trans (g1.trans (zC hp1 _)))) fun b hb z=>?_;obtain⟨ob,ho⟩:=Sps.there _ _ _ (hR.same s2) hb;rw[hD1 b z] at ho;cases ho
   ·rcases nD.mp hb with z | z
    ·exact hD b z
    ·exact gH b (zZ g2 (hD1 b z))
   ·intro j kv1 hj
    by_cases hlt:j<kvs.length
    ·rw[nX hlt] at hj
     obtain⟨a,e1,e2⟩:=ht j kv1 hj;exact⟨a,by rw[nX (by lia)];exact e1,zC hp1 _ _ _ (g1 _ _ (s2 _ _ e2))⟩
    ·rw[nR (by lia)] at hj
     have hj0:j - kvs.length=0:=by
      have:=(nB.mp hj).1
      simpa using this
     rw[hj0] at hj;simp only[nW,Option.some.injEq] at hj;subst hj;exact⟨p,by rw[nR (by lia),←l1,hj0];rfl,zB⟩
  ·rintro ys H' _ ⟨g,kvs,D,l1,l2,hR,hD,ht⟩ p hp'
   rw[hpl,nT] at hR;rw[nT] at l2;have gs:Same H (thaw H (upd H' p (.lst ys))):=qC (o:=o) hdd (by rw[hHf];exact g.trans (zC hp' _));have hR2:Sps (thaw H (upd H' p (.lst ys))) (kvs.map (·.2)) us D:=(hR.same (zC hp' _)).thaw;refine⟨p,rfl,ys,xE zB (by intro o v z;cases z),kvs,l1,fun j kv hj=>?_,fun l hl=>?_⟩
   ·obtain⟨a,e1,e2⟩:=ht j kv hj
    exact⟨a,e1,xE (zC hp' _ _ _ e2) (by intro o v z;cases z)⟩
   ·have em:wK [] kvs=kvs:=wI kvs [] (by rw[rY,l2];exact nkp)
    rw[em];have hlD:l∉D:=fun z=>by
     obtain⟨ob,ho⟩:=Sps.there _ _ _ hR2 z;rw[hl] at ho;cases ho
    refine q (.ref l) _ (l::D) (gs.trans (zC hl _)) ⟨l,kvs,D,rfl,zB,l2.trans hk,rfl,hlD,hR2.same (zC hl _)⟩ fun b hb=>?_;rcases mG.mp hb with z | z
    ·rw[z];exact zZ gs hl
    ·exact hD b z
 | tup us=>exact hp.elim
 | non=>exact⟨_,hv.ty,by rw[mJ (by simp[tyT,zO])];exact⟨_,hv.ty,by rw[mJ (by simp[tyT,zO])];exact q _ _ [] (Same.refl _) ⟨rfl,hv⟩ (fun _ h=>nomatch h)⟩⟩
 | bl b=>exact⟨_,hv.ty,by rw[mJ (by simp[tyT,zO])];exact⟨_,hv.ty,by rw[mJ (by simp[tyT,zO])];exact q _ _ [] (Same.refl _) ⟨rfl,hv⟩ (fun _ h=>nomatch h)⟩⟩
 | int b=>exact⟨_,hv.ty,by rw[mJ (by simp[tyT,zO])];exact⟨_,hv.ty,by rw[mJ (by simp[tyT,zO])];exact q _ _ [] (Same.refl _) ⟨rfl,hv⟩ (fun _ h=>nomatch h)⟩⟩
 | str b=>exact⟨_,hv.ty,by rw[mJ (by simp[tyT,zO])];exact⟨_,hv.ty,by rw[mJ (by simp[tyT,zO])];exact q _ _ [] (Same.refl _) ⟨rfl,hv⟩ (fun _ h=>nomatch h)⟩⟩
theorem zTa(F:Fun K "copied" "copied" sCp f fd):FnOk P w K mg base CX0 1 f fd ["thing"] (zCl 0):=by
 refine F.ok scCp (by walk_at "ln") fun c A o s H vs Q E hr h=>?_;obtain⟨v,t,rfl,hv,hp,hd,_⟩:=h;exact absurd hd (pX _)
theorem zSj(F:Fun K "_law_held" "_law_held" sCo f fd):FnOk P w K mg base CX0 1 f fd ["_law_thing"] (zAr 0):=by
 refine F.ok scCo (by walk_at "ln") fun c A o s H vs Q E hr h=>?_;obtain⟨v,t,rfl,hv,hp,hd,_⟩:=h;exact absurd hd (pX _)
theorem zOe(F:Fun K "copied" "copied" sCp f fd)(B:Bl mg)(b:Binds K fd ["thing"] [])(kp:W.keepIn K (.ref f)=true)(m:mg "copied" =some (.ref f)):∀n:Nat,FnOk P w K mg base CX0 (1+n) f fd ["thing"] (zCl n)
 | 0=>zTa F
 | n+1=>zTp F B ⟨_,_,zOe F B b kp m n,b,kp,m⟩
theorem zOa(F:Fun K "_law_held" "_law_held" sCo f fd)(B:Bl mg)(b:Binds K fd ["_law_thing"] [])(kp:W.keepIn K (.ref f)=true)(m:mg "_law_held" =some (.ref f)):∀n:Nat,FnOk P w K mg base CX0 (1+n) f fd ["_law_thing"] (zAr n)
 | 0=>zSj F
 | n+1=>zUc F B ⟨_,_,zOa F B b kp m n,b,kp,m⟩
abbrev sDb:Stmt:=top 8
abbrev sDr:Stmt:=top 10
inductive OkD:T→T→List Key→Prop
 | row {us ws:List T} {i:Int} {r:List Key}:alk (.lst us) (.lst ws)=false→(ahead us ws:Int)≤i→OkD (.lst us) (.lst ws) (.inl i::r)
 | rcd {ks ls:List (List Nat)} {us ws:List T} {k:List Nat} {r:List Key}:alk (.dic ks us) (.dic ls ws)=false→(k∈ks→k∈ls→OkD (yH k ks us) (yH k ls ws) r)→OkD (.dic ks us) (.dic ls ws) (nK k::r)
 | oth {t u:T} {r:List Key}:alk t u=false→(∀us ws,t= .lst us→u= .lst ws→False)→(∀ks us ls ws,t= .dic ks us→u= .dic ls ws→False)→OkD t u r
def IsD(H:Hp)(y:V)(ks:List Key):Prop:=∃d w pd r,y= .ref d∧H d=some (.tup (w:: .ref pd::r))∧H pd=some (.lst (ks.map kV))
def Ds(H:Hp)(ys:List V)(p:List Key→Prop):Prop:=∀y∈ys,∃ks,IsD H y ks∧p ks
theorem IsD.same{H H':Hp}(g:Same H H'){y:V}{ks:List Key}(h:IsD H y ks):IsD H' y ks:=by
 obtain⟨d,w,pd,r,e,h1,h2⟩:=h;exact⟨d,w,pd,r,e,g _ _ h1,g _ _ h2⟩
theorem Ds.same{H H':Hp}(g:Same H H'){ys:List V}{p:List Key→Prop}(h:Ds H ys p):Ds H' ys p:=fun y hy=>by
 obtain⟨ks,h1,h2⟩:=h y hy;exact⟨ks,h1.same g,h2⟩
theorem Ds.append{H:Hp}{ys zs:List V}{p:List Key→Prop}(h:Ds H ys p)(h':Ds H zs p):Ds H (ys++zs) p:=fun y hy=>(nD.mp hy).elim (h y) (h' y)
theorem Ds.nil{H:Hp}{p:List Key→Prop}:Ds H [] p:=fun _ h=>nomatch h
theorem Ds.one{H:Hp}{y:V}{ks:List Key}{p:List Key→Prop}(h:IsD H y ks)(hp:p ks):Ds H [y] p:=fun z hz=>by
 rw[nM.mp hz];exact⟨ks,h,hp⟩
theorem Ds.imp{H:Hp}{ys:List V}{p q:List Key→Prop}(h:Ds H ys p)(i:∀ks,p ks→q ks):Ds H ys q:=fun y hy=>by
 obtain⟨ks,h1,h2⟩:=h y hy;exact⟨ks,h1,i ks h2⟩
def Wd(d:Addr)(G H H':Hp):Hp:=wL (ovH G H H') d
theorem Wd.call{d:Addr}{G H H3 H4:Hp}{o:HO}(g:Same H H3)(h:H3 d=some o)(g4:Same H3 H4):Same (ovH (Wd d G H H3) H3 H4) (Wd d G H H4):=fun b u e=>by
 by_cases hb:b=d
 ·subst hb
  rw[vG h] at e;unfold Wd at e;rw[vI] at e;cases e
 ·unfold Wd
  rw[xA hb];exact zSe (G1:=Wd d G H H3) (fun b' o' e'=>xQ _ _ e') g g4 _ _ e
theorem Wd.upd{d:Addr}{G H H4:Hp}{o:HO}(hd:H d=none):Wd d G H (upd H4 d o)=Wd d G H H4:=by
 funext b
 unfold Wd
 by_cases hb:b=d
 ·subst hb;rw[vI,vI]
 ·rw[xA hb,xA hb]
  cases h:H b with
  | none=>rw[wB h,wB h,zR hb]
  | some u=>rw[vG h,vG h]
theorem Wd.mono{d:Addr}{G H H1 H2:Hp}(g:Same H1 H2):Same (Wd d G H H1) (Wd d G H H2):=qT (zGx g)
theorem Wd.left{d:Addr}{G H H':Hp}(g:Same G H)(hd:H d=none):Same G (Wd d G H H'):=fun b o e=>by
 have hb:b≠d:=fun z=>by subst z;rw[g _ _ e] at hd;cases hd
 unfold Wd;rw[xA hb];exact zGs g _ _ e
theorem Wd.sub{d:Addr}{G H H':Hp}(g:Same G H)(g2:Same H H'):Same (Wd d G H H') H':=fun b o e=>zJt g g2 _ _ (xQ _ _ e)
theorem Wd.fin{d:Addr}{G H H':Hp}:Same (Wd d G H H') (ovH G H H'):=xQ
theorem Wd.at{d b:Addr}{G H H':Hp}{o:HO}(hb:b≠d)(h:H b=none)(h':H' b=some o):Wd d G H H' b=some o:=by
 unfold Wd;rw[xA hb,wB h];exact h'
structure DbI(t u:T)(ks:List Key):Prop where
 f1:T.few t
 f2:T.few u
 d1:T.dep t<20
 d2:T.dep u<20
 z1:T.sz t≤300
 z2:T.sz u≤300
 l:ks.length+T.dep t≤100
def DbQ(G H:Hp)(t u:T)(ks:List Key)(Q:VK):Prop:=∀l ys H',Same H H'→H l=none→H' l=some (.lst ys)→ys.length≤T.sz t*T.sz u→Ds (ovH G H H') ys (fun p=>∃r,p=ks++r∧OkD t u r)→Q (.ref l) H'
theorem DbQ.go{G H H1:Hp}{t u:T}{ks:List Key}{Q:VK}(q:DbQ G H t u ks Q)(gG:Same G H)(g:Same H H1):DbQ G H1 t u ks Q:=fun l ys H' g' hl hl' hn hd=>q l ys H' (g.trans g') (zZ g hl) hl' hn (hd.same (fun b o e=>by
 cases h1:H1 b with
 | none=>
  rw[wB h1] at e;rw[wB (zZ g h1)];exact e
 | some v=>
  rw[vG h1] at e;rw[vG (gG _ _ e)];exact e))
def zIy(n:Nat):Sp:=fun vs H Q _=>∃(G:Hp)(vo vn:V)(pa:Addr)(t u:T)(ks:List Key),vs= [vo,vn, .ref pa]∧Same G H∧Rep G vo t∧Rep G vn u∧G pa=some (.lst (ks.map kV))∧DbI t u ks∧T.dep t<n∧DbQ G H t u ks Q
def zTf(n:Nat):Sp:=fun vs H Q _=>∃(G:Hp)(vo vn:V)(pa:Addr)(us ws:List T)(ks:List Key),vs= [vo,vn, .ref pa]∧Same G H∧Rep G vo (.lst us)∧Rep G vn (.lst ws)∧G pa=some (.lst (ks.map kV))∧DbI (.lst us) (.lst ws) ks∧T.deps us<n∧alk (.lst us) (.lst ws)=false∧DbQ G H (.lst us) (.lst ws) ks Q
def zSd(n:Nat):Sp:=fun vs H Q _=>∃(G:Hp)(vo vn:V)(pa:Addr)(hs ls:List (List Nat))(us ws:List T)(ks:List Key),vs= [vo,vn, .ref pa]∧Same G H∧Rep G vo (.dic hs us)∧Rep G vn (.dic ls ws)∧G pa=some (.lst (ks.map kV))∧DbI (.dic hs us) (.dic ls ws) ks∧T.deps us<n∧alk (.dic hs us) (.dic ls ws)=false∧DbQ G H (.dic hs us) (.dic ls ws) ks Q
theorem scDb:yE ["old","new","path"] ["old","new","path"] (zJ sDb):=by walk_at "sc"
theorem ok_db{n k:Nat}(F:Fun K "deeds_between" "deeds_between" sDb f fd)(B:Bl6 mg)(Galike:Dn P w K mg base k "alike" ["one","other"] (jP 20))(Gcopied:Dn P w K mg base k "copied" ["thing"] (zCl 20))(Gdeeds_between_rows:Dn P w K mg base k "deeds_between_rows" ["old","new","path"] (zTf n))(Gdeeds_between_records:Dn P w K mg base k "deeds_between_records" ["old","new","path"] (zSd n)):FnOk P w K mg base CX0 (k+1) f fd ["old","new","path"] (zIy (n+1)):=by
 refine F.ok scDb (by walk_at "ln") fun c A o s H vs Q E hr h=>?_;obtain⟨G,vo,vn,pa,t,u,ks,rfl,gG,ho,hn,hp,hi,hd,q⟩:=h;have nd:=scDb.nd;have hu:=wC hr;refine⟨_,(zF (zS (zY (zT Galike hr (by lia) rfl (zA (pv 0) (zA (pv 1) zD)))) (zG (zK (zX zD))) zL)
  (zF (zS (PW.pt (xO (zY (pI B.isinstance zI B.list xB (pv 0))) (xT (zY (pI B.isinstance zI B.list xB (pv 1)))))) (zG (zK (zT Gdeeds_between_rows hr (by lia) rfl (zA (pv 0) (zA (pv 1) (zA (pv 2) zD)))))) zL)
  (zF (zS (PW.pt (xO (zY (pI B.isinstance zI B.dict yP (pv 0))) (xT (zY (pI B.isinstance zI B.dict yP (pv 1)))))) (zG (zK (zT Gdeeds_between_records hr (by lia) rfl (zA (pv 0) (zA (pv 1) (zA (pv 2) zD)))))) zL)
  (zG (zK (zX (zA (wM (zA zV (zA (pv 2) (zA (zT Gcopied hr (by lia) rfl (zA (pv 1) zD)) zD)))) zD))))))), ?_⟩
 walk_at "st";walk_at "rd3";refine⟨vo,vn,t,u,rfl,Rep.rp _ _ (Rep.same gG _ _ ho),Rep.rp _ _ (Rep.same gG _ _ hn),hi.f1,hi.f2,hi.d1,fun H1 g1=>⟨alk t u,rfl, ?_⟩⟩;have gG1:=gG.trans g1;have q1:=q.go gG g1;have s1:=sz_pos t;have s2:=sz_pos u;have sm:1≤T.sz t*T.sz u:=sD s1 s2
 cases hal:alk t u with
 | true=>exact fun l hl=>q1 l [] _ (zC hl _) hl zB (mL _) Ds.nil
 | false=>
  rw[mJ (by decide)];have hto:=(Rep.same gG1 _ _ ho).ty;have htn:=(Rep.same gG1 _ _ hn).ty;have fin:(∀us ws,t= .lst us→u= .lst ws→False)→(∀ks us ls ws,t= .dic ks us→u= .dic ls ws→False)→zCl 20 [vn] H1 (fun x H1=>∀(p:Addr),H1 p=none→∀(p_1:Addr),upd H1 p (HO.tup [V.str (Str.ofString "put"),V.ref pa,x]) p_1=none→Q (V.ref p_1) (upd (upd H1 p (HO.tup [V.str (Str.ofString "put"),V.ref pa,x])) p_1 (HO.lst [V.ref p]))) E0:=fun e1 e2=>
   ⟨vn,u,rfl,Rep.same gG1 _ _ hn,kP _ u (mE _) hi.f2,hi.d2,by have:=hi.z2;lia,fun x H2 D g2 _ _ p hp2 l hl=>by
    have g3:=g2.trans (zC hp2 (.tup [V.str (Str.ofString "put"),V.ref pa,x]));have g4:=g3.trans (zC hl (.lst [V.ref p]));have hl1:=zZ g3 hl;refine q1 l [.ref p] _ g4 hl1 zB sm (Ds.one (ks:=ks) ⟨p,V.str (Str.ofString "put"),pa,[x],rfl, ?_, ?_⟩ ⟨[],by simp, .oth hal e1 e2⟩)
    ·rw[wB (zZ g2 hp2)];exact zC hl _ _ _ zB
    ·exact zGs gG1 _ _ hp⟩
  cases t with
  | lst us=>
   refine⟨_,hto,iP (by simp only[tyT];decide+kernel) ⟨_,htn, ?_⟩⟩
   cases u with
   | lst ws=>
    have hd':T.deps us+1<n+1:=hd;exact iP (by simp only[tyT];decide+kernel) ⟨G,vo,vn,pa,us,ws,ks,rfl,gG1,ho,hn,hp,hi,by lia,hal,q1⟩
   | _=>exact iN (by simp only[tyT];decide+kernel) ⟨_,hto,iN (by simp only[tyT];decide+kernel) (fin (by intro us ws _ z;cases z) (by intro _ _ _ _ z;cases z))⟩
  | dic hs us=>
   refine⟨_,hto,iN (by simp only[tyT];decide+kernel) ⟨_,hto,iP (by simp only[tyT];decide+kernel) ⟨_,htn, ?_⟩⟩⟩
   cases u with
   | dic ls ws=>
    have hd':T.deps us+1<n+1:=hd;exact iP (by simp only[tyT];decide+kernel) ⟨G,vo,vn,pa,hs,ls,us,ws,ks,rfl,gG1,ho,hn,hp,hi,by lia,hal,q1⟩
   | _=>exact iN (by simp only[tyT];decide+kernel) (fin (by intro us ws z;cases z) (by intro _ _ _ _ _ z;cases z))
  | _=>exact⟨_,hto,iN (by simp only[tyT];decide+kernel) ⟨_,hto,iN (by simp only[tyT];decide+kernel) (fin (by intro us ws z;cases z) (by intro _ _ _ _ z;cases z))⟩⟩
theorem wP{H H3:Hp}{d:Addr}{o:HO}(g:Same H H3)(hd:H d=none):Same H (upd H3 d o):=fun b u e=>by
 have hb:b≠d:=fun z=>by subst z;rw[hd] at e;cases e
 rw[zR hb];exact g _ _ e
def DI(d:Addr)(G H:Hp)(Pp:List Key→Prop)(c:Nat)(H':Hp):Prop:=Same H H'∧∃zs,H' d=some (.lst zs)∧zs.length≤c∧Ds (Wd d G H H') zs Pp
theorem DI.one{d tp pc:Addr}{G H H2 H3:Hp}{Pp:List Key→Prop}{zs:List V}{w:V}{r:List V}{ks:List Key}{c:Nat}(hd:H d=none)(g:Same H H2)(h2:H2 d=some (.lst zs))(hz:zs.length≤c)(hD:Ds (Wd d G H H2) zs Pp)(g3:Same H2 H3)
  (ht:H2 tp=none) (ht':H3 tp=some (.tup (w:: .ref pc::r))) (hp:H2 pc=none) (hp':H3 pc=some (.lst (ks.map kV))) (hP:Pp ks):DI d G H Pp (c+1) (upd H3 d (.lst (zs++ [.ref tp]))):=by
 refine⟨wP (g.trans g3) hd,_,zB,by rw[mO,mM];lia, ?_⟩;rw[Wd.upd hd];have n1:tp≠d:=fun z=>by subst z;rw[ht] at h2;cases h2
 have n2:pc≠d:=fun z=>by subst z;rw[hp] at h2;cases h2
 exact(hD.same (Wd.mono g3)).append (Ds.one (ks:=ks) ⟨tp,w,pc,r,rfl,Wd.at n1 (zZ g ht) ht',Wd.at n2 (zZ g hp) hp'⟩ hP)
theorem DI.more{d:Addr}{G H H2 H3 H4:Hp}{Pp:List Key→Prop}{zs ys:List V}{c c':Nat}(hd:H d=none)(g:Same H H2)(h2:H2 d=some (.lst zs))(hz:zs.length≤c)(hD:Ds (Wd d G H H2) zs Pp)(g3:Same H2 H3)(g4:Same H3 H4)
  (hy:ys.length≤c') (hD':Ds (ovH (Wd d G H H3) H3 H4) ys Pp):DI d G H Pp (c+c') (upd H4 d (.lst (zs++ys))):=by
 refine⟨wP (g.trans (g3.trans g4)) hd,_,zB,by rw[mO];lia, ?_⟩;rw[Wd.upd hd];exact(hD.same (Wd.mono (g3.trans g4))).append (hD'.same (Wd.call (g.trans g3) (g3 _ _ h2) g4))
theorem DI.le{d:Addr}{G H H':Hp}{Pp:List Key→Prop}{c c':Nat}(h:DI d G H Pp c H')(l:c≤c'):DI d G H Pp c' H':=by
 obtain⟨g,zs,h1,h2,h3⟩:=h;exact⟨g,zs,h1,mY h2 l,h3⟩
theorem gM{us:List T}{i:Nat}{t:T}(h:us[i]? =some t):T.szs (us.take (i+1))=T.szs (us.take i)+T.sz t:=by
 rw[yG h,vP]
theorem zCt(ks:List Key)(k:Key):ks.map kV++ [kV k]=(ks++ [k]).map kV:=by rw[mP];rfl
theorem scDr:yE ["old","new","path","ahead","behind","both","deeds","place"] ["old","new","path"] (zJ sDr):=by walk_at "sc"
theorem ok_dr{n k:Nat}(F:Fun K "deeds_between_rows" "deeds_between_rows" sDr f fd)(B:Bl6 mg)(Galike_ahead:Dn P w K mg base k "alike_ahead" ["one","other"] (zMx 20))(Gcopied:Dn P w K mg base k "copied" ["thing"] (zCl 20))(Gdeeds_between:Dn P w K mg base k "deeds_between" ["old","new","path"] (zIy n)):FnOk P w K mg base CX0 (k+1) f fd ["old","new","path"] (zTf n):=by
 refine F.ok scDr (by walk_at "ln") fun c A o s H vs Q E hr h=>?_;obtain⟨G,vo,vn,pa,us,ws,ks,rfl,gG,ho,hn,hp,hi,hd,hal,q⟩:=h;have nd:=scDr.nd;have hu:=wC hr;refine⟨_,(zF (pS 3 nd (zT Galike_ahead hr (by lia) rfl (zA (pv 0) (zA (pv 1) zD))))
  (zF (pS 4 nd (zT Galike_ahead hr (by lia) rfl (zA (zCs zBh (xR vJ (pv 0) (xG (pv 3)) wD) (xG (vC xZ zE))) (zA (zCs zBh (xR vJ (pv 1) (xG (pv 3)) wD) (xG (vC xZ zE))) zD))))
  (zF (pS 5 nd (zH xS (zM (qA rfl) rfl B.min zAn (zA (zM yD rfl B.len yO (zA (pv 0) zD)) (zA (zM yD rfl B.len yO (zA (pv 1) zD)) zD))) (pv 4)))
  (zF (pS 6 nd (zX zD))
  (zF (wT PassesOwn.never rfl (zEs rfl B.range (zA (pv 3) (zA (pv 5) zD))) (yF (i:=7) nd rfl (nH rfl)) (zG (wZ (vY nQ PySem.F.slot_list_extend PySem.F.type_list_extend zEm (pv 6) (zA (zT Gdeeds_between hr (by lia) rfl (zA (yI yA (pv 0) (pv 7) (fun _ _=>rfl)) (zA (yI yA (pv 1) (pv 7) (fun _ _=>rfl)) (zA (zH vT (pv 2) (zX (zA (pv 7) zD))) zD)))) zD)))))
  (zF (wT PassesOwn.never rfl (pi_dn rfl B.range (zA (zH xS (zH xS (zM yD rfl B.len yO (zA (pv 0) zD)) (pv 4)) zE) (zA (zH xS (pv 5) zE) (zA (vC xZ zE) zD)))) (yF (i:=7) nd rfl (nH rfl)) (zG (wZ (vY nQ pM rA qB (pv 6) (zA (wM (zA zV (zA (zH vT (pv 2) (zX (zA (pv 7) zD))) zD))) zD)))))
  (zF (wT PassesOwn.never rfl (zEs rfl B.range (zA (pv 5) (zA (zH xS (zM yD rfl B.len yO (zA (pv 1) zD)) (pv 4)) zD))) (yF (i:=7) nd rfl (nH rfl)) (zG (wZ (vY nQ pM rA qB (pv 6) (zA (wM (zA zV (zA (zH vT (pv 2) (zX (zA (pv 7) zD))) (zA (zT Gcopied hr (by lia) rfl (zA (yI yA (pv 1) (pv 7) (fun _ _=>rfl)) zD)) zD)))) zD)))))
  (zG (zK (pv 6)))))))))), ?_⟩
 obtain⟨a,xs,rfl,ha,hx⟩:=ho;obtain⟨b,ys,rfl,hb,hy⟩:=hn;walk_at "st";walk_at "rd3";have hxl:=hx.length;have hyl:=hy.length;have hxz:=T.szs_len us;have hyz:=T.szs_len ws;have z1:T.szs us+1≤300:=hi.z1;have z2:T.szs ws+1≤300:=hi.z2;have d1:T.deps us+1<20:=hi.d1;have l1:ks.length+(T.deps us+1)≤100:=hi.l;have hle:=kG us ws;refine⟨a,b,xs,ys,us,ws,rfl,gG _ _ ha,gG _ _ hb,Reps.same gG _ _ hx,Reps.same gG _ _ hy,hi.f1,hi.f2,by lia,fun H1 g1=>?_⟩;obtain⟨h,hh⟩:∃h:Nat,ahead us ws=h:=⟨_,rfl⟩;rw[hh] at hle⊢;have gG1:=gG.trans g1;unfold zNi;walk_at "rd3";refine⟨a,xs,rfl,SqL.of (gG1 _ _ ha),fun p1 hp1=>?_⟩;rw[jZ];refine⟨p1,_,rfl,SqL.of zB,fun p2 hp2=>?_⟩;have g2:=(zC hp1 (.lst (xs.drop h))).trans (zC hp2 (.lst (xs.drop h).reverse));have e2:=zB (H:=upd H1 p1 (.lst (xs.drop h))) (a:=p2) (o:=.lst (xs.drop h).reverse);generalize upd (upd H1 p1 (.lst (xs.drop h))) p2 (.lst (xs.drop h).reverse)=H2 at g2 e2⊢;have gG2:=gG1.trans g2;refine⟨b,ys,rfl,SqL.of (gG2 _ _ hb),fun p3 hp3=>?_⟩;rw[jZ];refine⟨p3,_,rfl,SqL.of zB,fun p4 hp4=>?_⟩;have g3:=(zC hp3 (.lst (ys.drop h))).trans (zC hp4 (.lst (ys.drop h).reverse));have e3:=zB (H:=upd H2 p3 (.lst (ys.drop h))) (a:=p4) (o:=.lst (ys.drop h).reverse);generalize upd (upd H2 p3 (.lst (ys.drop h))) p4 (.lst (ys.drop h).reverse)=H3 at g3 e3⊢;have gG3:=gG2.trans g3;have hf1:=hi.f1;have hf2:=hi.f2;refine⟨p2,p4,_,_,(us.drop h).reverse,(ws.drop h).reverse,rfl,g3 _ _ e2,e3,Reps.reverse (Reps.drop h (Reps.same gG3 _ _ hx)),Reps.reverse (Reps.drop h (Reps.same gG3 _ _ hy)),⟨by rw[rD,nU];lia,uP fun t ht=>T.fews_mem hf1.2 (rB (tT.mp ht))⟩,⟨by rw[rD,nU];lia,uP fun t ht=>T.fews_mem hf2.2 (rB (tT.mp ht))⟩, ?_,fun H4 g4=>?_⟩
 ·exact T.deps_lt (by lia) fun t ht=>by
   have:=T.deps_le (rB (tT.mp ht))
   lia
 have hbl:=kG (us.drop h).reverse (ws.drop h).reverse;rw[rD,nU,rD,nU] at hbl;obtain⟨e,he⟩:∃e:Nat,ahead (us.drop h).reverse (ws.drop h).reverse=e:=⟨_,rfl⟩;rw[he] at hbl⊢;have gG4:=gG3.trans g4;refine⟨xs,SqL.of (gG4 _ _ ha),ys,SqL.of (gG4 _ _ hb),_,_,⟨rfl,rfl⟩,_,rfl,fun d hdn=>?_⟩;have gH4:=g1.trans (g2.trans (g3.trans g4));have hd0:=zZ gH4 hdn;obtain⟨m,hm,hm1,hm2,hm3⟩:∃m:Nat,(if(ys.length:Int)<xs.length then(ys.length:Int) else xs.length)- (e:Int)=(m:Int)∧h≤m∧m+e≤xs.length∧m+e≤ys.length:=⟨min xs.length ys.length - e,by split<;>lia,by lia,by lia,by lia⟩;rw[hm];unfold zRt;walk_at "rd3";refine⟨_,_,⟨rfl,rfl⟩,⟨by lia,by lia,by lia,by lia⟩, ?_⟩;rw[show((m:Int)- (h:Int)).toNat=m - h by lia];have hPi:∀(p:Int)(r:List Key),(h:Int)≤p→∃r',(ks++ [.inl p])++r=ks++r'∧OkD (.lst us) (.lst ws) r':=fun p r hp=>⟨.inl p::r,by simp, .row hal (by rw[hh];exact hp)⟩;have s0:=zC hdn (.lst []);have D0:DI d G H (fun p=>∃r,p=ks++r∧OkD (.lst us) (.lst ws) r) 0 (upd H4 d (.lst [])):=⟨gH4.trans s0,[],zB,mE _,Ds.nil⟩;have zm:T.szs us*T.szs ws≤90000:=mY (sD (show T.szs us≤300 by lia) (show T.szs ws≤300 by lia)) (by decide);have zt:T.szs us*T.szs ws+T.szs us+T.szs ws≤T.sz (.lst us)*T.sz (.lst ws):=by
  show _≤(T.szs us+1)*(T.szs ws+1);rw[Nat.add_mul,bP]
  lia
 refine wN (fun i σ H'=>(∃o,σ= [some (V.ref a),some (V.ref b),some (V.ref pa),some (V.int (h:Nat)),some (V.int (e:Nat)),some (V.int (m:Nat)),some (V.ref d),o])∧DI d G H (fun p=>∃r,p=ks++r∧OkD (.lst us) (.lst ws) r) (T.szs us*T.szs (ws.take (h+i))) H') ⟨⟨_,rfl⟩,D0.le (mL _)⟩ ?_ ?_
 ·rintro i σ H5 hi5 ⟨⟨o,rfl⟩,g5,zs,hz1,hz2,hz3⟩
  obtain⟨x,hxi⟩:∃x,xs[h+i]? =some x:=⟨xs[h+i]'(by lia),nS _⟩;obtain⟨y,hyi⟩:∃y,ys[h+i]? =some y:=⟨ys[h+i]'(by lia),nS _⟩;obtain⟨t,ht,hrt⟩:=hx.get hxi;obtain⟨u,hu',hru⟩:=hy.get hyi;have mt:=mF ht;have mu:=mF hu';have gG5:=gG.trans g5;walk_at "rd3";have ex:atI xs ((h:Int)+(i:Int))=some x:=by rw[show(h:Int)+(i:Int)=((h+i:Nat):Int) by lia];exact yJ hxi
  have ey:atI ys ((h:Int)+(i:Int))=some y:=by rw[show(h:Int)+(i:Int)=((h+i:Nat):Int) by lia];exact yJ hyi
  refine⟨.inl ⟨rfl,zs,SqL.of hz1⟩,yN (SqL.of (gG5 _ _ ha)) ex (yN (SqL.of (gG5 _ _ hb)) ey fun pl hpl=>?_)⟩;obtain⟨j,hj⟩:∃j:Int,(h:Int)+(i:Int)=j:=⟨_,rfl⟩;rw[hj];have s6:=zC hpl (.lst [V.int j]);refine⟨pa,pl,_,_,rfl,rfl,s6 _ _ (gG5 _ _ hp),zB,by rw[mB,mM,mQ];lia,fun pc hpc=>?_⟩;have s7:=s6.trans (zC hpc (.lst (ks.map kV++ [V.int j])));have e7:_=some (HO.lst ((ks++ [(Sum.inl j:Key)]).map kV)):=(zB (H:=upd H5 pl (.lst [V.int j])) (a:=pc) (o:=.lst (ks.map kV++ [V.int j]))).trans (congrArg (fun z=>some (HO.lst z)) (zCt ks (.inl j)));generalize upd (upd H5 pl (.lst [V.int j])) pc (.lst (ks.map kV++ [V.int j]))=H7 at s7 e7⊢;have g7:=g5.trans s7;have hpc5:=zZ s6 hpc;have nc:pc≠d:=fun z=>by subst z;rw[hpc5] at hz1;cases hz1
  have dt:=T.deps_le mt;have st:=T.szs_le mt;have su:=T.szs_le mu;have du:=T.deps_le mu;have d2:T.deps ws+1<20:=hi.d2;refine⟨Wd d G H H7,x,y,pc,t,u,ks++ [.inl j],rfl,Wd.sub gG g7,Rep.same (Wd.left gG hd0) _ _ hrt,Rep.same (Wd.left gG hd0) _ _ hru,Wd.at nc (zZ g5 hpc5) e7,⟨T.fews_mem hf1.2 mt,T.fews_mem hf2.2 mu,by lia,by lia,by lia,by lia,by rw[mO,mM];lia⟩,by lia,fun l ys' H8 g8 hl hl8 hn8 hD8=>?_⟩;have mle:T.sz t*T.sz u≤T.szs us*T.sz u:=rK _ (by lia);have ml2:T.szs us*T.sz u≤T.szs us*T.szs ws:=sH _ (by lia);have zle:=vK ws (h+i);have ml3:T.szs us*T.szs (ws.take (h+i))≤T.szs us*T.szs ws:=sH _ zle;refine⟨d,l,zs,ys',rfl,rfl,g8 _ _ (s7 _ _ hz1),hl8,by rw[mQ];lia,⟨_,rfl⟩, ?_⟩;refine(DI.more hd0 g5 hz1 hz2 hz3 s7 g8 (mY hn8 mle) (hD8.imp fun p ⟨r,e1,_⟩=>by rw[e1];exact hPi j r (by lia))).le ?_;rw[←Nat.add_assoc,gM hu',bP];exact mE _
 ·rintro σ H5 ⟨⟨o,rfl⟩,D5⟩
  have c0:=vK ws (h+(m - h));have c1:T.szs us*T.szs (ws.take (h+(m - h)))≤T.szs us*T.szs ws:=sH _ c0;have D5:=D5.le c1;clear c0 c1 D0 s0;unfold iDn;walk_at "rd3";have gG5:=gG.trans D5.1;refine⟨xs,SqL.of (gG5 _ _ ha),_,_,⟨rfl,rfl⟩,by lia,by lia,by lia, ?_⟩;rw[show((xs.length:Int)- (e:Int)- 1 - ((m:Int)- 1)).toNat=xs.length - e - m by lia];refine zLg (fun i σ H'=>(∃o,σ= [some (V.ref a),some (V.ref b),some (V.ref pa),some (V.int (h:Nat)),some (V.int (e:Nat)),some (V.int (m:Nat)),some (V.ref d),o])∧DI d G H (fun p=>∃r,p=ks++r∧OkD (.lst us) (.lst ws) r) (T.szs us*T.szs ws+i) H') ⟨⟨_,rfl⟩,D5⟩ ?_ ?_
  ·skip
   rintro i σ H5 hi5 ⟨⟨o,rfl⟩,g5,zs,hz1,hz2,hz3⟩;have gG5:=gG.trans g5;walk_at "rd3";refine⟨.inl ⟨rfl,zs,SqL.of hz1⟩,fun pl hpl=>?_⟩;obtain⟨j,hj⟩:∃j:Int,(xs.length:Int)- (e:Int)- 1 - (i:Int)=j:=⟨_,rfl⟩;rw[hj];have s6:=zC hpl (.lst [V.int j]);refine⟨pa,pl,_,_,rfl,rfl,s6 _ _ (gG5 _ _ hp),zB,by rw[mB,mM,mQ];lia,fun pc hpc tp htp=>?_⟩;have s7:=s6.trans (zC hpc (.lst (ks.map kV++ [V.int j])));have e7:_=some (HO.lst ((ks++ [(Sum.inl j:Key)]).map kV)):=(zB (H:=upd H5 pl (.lst [V.int j])) (a:=pc) (o:=.lst (ks.map kV++ [V.int j]))).trans (congrArg (fun z=>some (HO.lst z)) (zCt ks (.inl j)));generalize upd (upd H5 pl (.lst [V.int j])) pc (.lst (ks.map kV++ [V.int j]))=H7 at s7 e7 htp⊢;have s8:=zC htp (.tup [V.str (Str.ofString "take"),V.ref pc]);refine⟨d,zs,_,rfl,rfl,s8 _ _ (s7 _ _ hz1),by rw[mQ];lia,⟨_,rfl⟩, ?_⟩;exact DI.one (ks:=ks++ [.inl j]) hd0 g5 hz1 hz2 hz3 (s7.trans s8) (zZ s7 htp) zB (zZ s6 hpc) (s8 _ _ e7) (by obtain⟨r',e1,e2⟩:=hPi j [] (by lia);exact⟨r',by rw[←e1,rJ],e2⟩)
  ·skip
   rintro σ H5 ⟨⟨o,rfl⟩,D5⟩;walk_at "rd3";have gG5:=gG.trans D5.1;refine⟨ys,SqL.of (gG5 _ _ hb),_,_,⟨rfl,rfl⟩,⟨by lia,by lia,by lia,by lia⟩, ?_⟩;rw[show((ys.length:Int)- (e:Int)- (m:Int)).toNat=ys.length - e - m by lia];refine wN (fun i σ H'=>(∃o,σ= [some (V.ref a),some (V.ref b),some (V.ref pa),some (V.int (h:Nat)),some (V.int (e:Nat)),some (V.int (m:Nat)),some (V.ref d),o])∧DI d G H (fun p=>∃r,p=ks++r∧OkD (.lst us) (.lst ws) r) (T.szs us*T.szs ws+(xs.length - e - m)+i) H') ⟨⟨_,rfl⟩,D5⟩ ?_ ?_
   ·skip
    rintro i σ H5 hi5 ⟨⟨o,rfl⟩,g5,zs,hz1,hz2,hz3⟩;have gG5:=gG.trans g5;obtain⟨y,hyi⟩:∃y,ys[m+i]? =some y:=⟨ys[m+i]'(by lia),nS _⟩;obtain⟨u,hu',hru⟩:=hy.get hyi;have mu:=mF hu';have ey:atI ys ((m:Int)+(i:Int))=some y:=by rw[show(m:Int)+(i:Int)=((m+i:Nat):Int) by lia];exact yJ hyi
    walk_at "rd3";obtain⟨j,hj⟩:∃j:Int,(m:Int)+(i:Int)=j:=⟨_,rfl⟩;rw[hj] at ey⊢;refine⟨.inl ⟨rfl,zs,SqL.of hz1⟩,fun pl hpl=>?_⟩;have s6:=zC hpl (.lst [V.int j]);refine⟨pa,pl,_,_,rfl,rfl,s6 _ _ (gG5 _ _ hp),zB,by rw[mB,mM,mQ];lia,fun pc hpc=>?_⟩;have s7:=s6.trans (zC hpc (.lst (ks.map kV++ [V.int j])));have e7:_=some (HO.lst ((ks++ [(Sum.inl j:Key)]).map kV)):=(zB (H:=upd H5 pl (.lst [V.int j])) (a:=pc) (o:=.lst (ks.map kV++ [V.int j]))).trans (congrArg (fun z=>some (HO.lst z)) (zCt ks (.inl j)));generalize upd (upd H5 pl (.lst [V.int j])) pc (.lst (ks.map kV++ [V.int j]))=H7 at s7 e7⊢;have gG7:=gG5.trans s7;have su:=T.szs_le mu;have du:=T.deps_le mu;have d2:T.deps ws+1<20:=hi.d2;refine yN (SqL.of (gG7 _ _ hb)) ey ⟨y,u,rfl,Rep.same gG7 _ _ hru,kP _ u (mE _) (T.fews_mem hf2.2 mu),by lia,by lia,fun x' H8 D8 g8 _ _ tp htp=>?_⟩;have s8:=g8.trans (zC htp (.tup [V.str (Str.ofString "insert"),V.ref pc,x']));refine⟨d,zs,_,rfl,rfl,s8 _ _ (s7 _ _ hz1),by rw[mQ];lia,⟨_,rfl⟩, ?_⟩;exact DI.one (ks:=ks++ [.inl j]) hd0 g5 hz1 hz2 hz3 (s7.trans s8) (zZ (s7.trans g8) htp) zB (zZ s6 hpc) (s8 _ _ e7) (by obtain⟨r',e1,e2⟩:=hPi j [] (by lia);exact⟨r',by rw[←e1,rJ],e2⟩)
   ·skip
    rintro σ H5 ⟨⟨o,rfl⟩,g5,zs,hz1,hz2,hz3⟩;walk_at "rd3";exact q d zs _ g5 hd0 hz1 (by lia) (hz3.same Wd.fin)
abbrev sDc:Stmt:=top 9
theorem kS{H:Hp}{a:Addr}{ps:List (Key×V)}{ks:List (List Nat)}{us:List T}(nk:ks.Nodup)(hk:ps.map (·.1)=ks.map fun k=>(Sum.inr (tx k):Key))(hs:Reps H (ps.map (·.2)) us)(ha:H a=some (.dK ps)){k:List Nat}(hm:k∈ks):∃v,(∀H',Same H H'→zDg H' a (.str (tx k)) (some v))∧Rep H v (yH k ks us):=by
 obtain⟨v,h1,h2⟩:=Rep.at_name nk hk hs hm;exact⟨v,fun H' g=>.inl ⟨ps,Sum.inr (tx k), .inl (g _ _ ha),rfl,h1.symm⟩,h2⟩
theorem kM{H:Hp}{a:Addr}{ps:List (Key×V)}{ks:List (List Nat)}(hk:ps.map (·.1)=ks.map fun k=>(Sum.inr (tx k):Key))(ha:H a=some (.dK ps)){k:List Nat}(hm:k∉ks):zDg H a (.str (tx k)) none:=by
 refine .inl ⟨ps,Sum.inr (tx k), .inl ha,rfl,(zAj fun z=>hm ?_).symm⟩;rw[hk] at z;obtain⟨k',h1,h2⟩:=nL.mp z;rw[←qO h2];exact h1
theorem scDc:yE ["old","new","path","deeds","name"] ["old","new","path"] (zJ sDc):=by walk_at "sc"
theorem ok_dc{n k:Nat}(F:Fun K "deeds_between_records" "deeds_between_records" sDc f fd)(B:Bl6 mg)(Gcopied:Dn P w K mg base k "copied" ["thing"] (zCl 20))(Gdeeds_between:Dn P w K mg base k "deeds_between" ["old","new","path"] (zIy n)):FnOk P w K mg base CX0 (k+1) f fd ["old","new","path"] (zSd n):=by
 refine F.ok scDc (by walk_at "ln") fun c A o s H vs Q E hr h=>?_;obtain⟨G,vo,vn,pa,hs,ls,us,ws,ks,rfl,gG,ho,hn,hp,hi,hd,hal,q⟩:=h;have nd:=scDc.nd;have hu:=wC hr;refine⟨_,(zF (jK (i:=3) nd rfl (nH rfl) (own:=["name"]) (F:=[("path",2),("new",1)]) ⟨rfl,by walk_at "wu",by walk_at "wu",by walk_at "wu",(.cons rfl rfl rfl (.cons rfl rfl rfl .nil))⟩ rfl (xM (zM (yY rfl) rfl B.sorted wH (zA (pv 0) zD))) (fun _ _ _ _=>yF (i:=0) (by show(xK ["name"] [("path",2),("new",1)]).Nodup;decide+kernel) rfl (nH rfl)) (fun _ _ _ _=>(uD (jC (zLc hu (pv 0) (pv 2))))) (fun _ _ _ _=>(wM (zA zV (zA (zH vT (pv 1) (zX (zA (pv 0) zD))) zD)))))
  (zF (wT PassesOwn.never rfl (xM (zM (yY rfl) rfl B.sorted wH (zA (pv 1) zD))) (yF (i:=4) nd rfl (nH rfl)) (zG (zS (jC (zCd hu (pv 4) (pv 0))) (zG (wZ (vY nQ PySem.F.slot_list_extend PySem.F.type_list_extend zEm (pv 3) (zA (zT Gdeeds_between hr (by lia) rfl (zA (xL hu (pv 0) (pv 4) (fun _ _=>rfl)) (zA (xL hu (pv 1) (pv 4) (fun _ _=>rfl)) (zA (zH vT (pv 2) (zX (zA (pv 4) zD))) zD)))) zD)))) (zG (wZ (vY nQ pM rA qB (pv 3) (zA (wM (zA zV (zA (zH vT (pv 2) (zX (zA (pv 4) zD))) (zA (zT Gcopied hr (by lia) rfl (zA (xL hu (pv 1) (pv 4) (fun _ _=>rfl)) zD)) zD)))) zD)))))))
  (zG (zK (pv 3))))), ?_⟩
 obtain⟨a,ps,rfl,ha,hka,hx⟩:=ho;obtain⟨b,qs,rfl,hb,hkb,hy⟩:=hn;walk_at "st";walk_at "rd3";have hxz:=T.szs_len us;have hyz:=T.szs_len ws;have z1:T.szs us+1≤300:=hi.z1;have z2:T.szs ws+1≤300:=hi.z2;have d1:T.deps us+1<20:=hi.d1;have l1:ks.length+(T.deps us+1)≤100:=hi.l;obtain⟨nh,fh,eh,fu⟩:=hi.f1;obtain⟨nl,fl,el,fw⟩:=hi.f2;have hPk:∀(k:List Nat)(r:List Key),(k∈hs→k∈ls→OkD (yH k hs us) (yH k ls ws) r)→∃r',(ks++ [nK k])++r=ks++r'∧OkD (.dic hs us) (.dic ls ws) r':=fun k r hk=>⟨nK k::r,by simp, .rcd hal hk⟩;refine⟨ps, .inl (gG _ _ ha),hs.map tx,by rw[hka,pC];rfl,by rw[mB];exact fh,fun l1' ss hl1 hp1 hs1=>⟨⟨_,SqL.of zB⟩, ?_⟩⟩;have g1:=zC hl1 (.lst (ss.map V.str));have e1:=zB (H:=H) (a:=l1') (o:=.lst (ss.map V.str));generalize upd H l1' (.lst (ss.map V.str))=H1 at g1 e1⊢;have hsl:=hp1.length_eq;rw[mB] at hsl;refine xI (K:=K) (xs:=ss.map V.str) (fun i zs H'=>Same H1 H'∧zs.length≤i∧Ds (ovH G H H') zs (fun p=>∃r,p=ks++r∧OkD (.dic hs us) (.dic ls ws) r)) (by rw[mB,mQ];lia) ⟨Same.refl _,mL _,Ds.nil⟩ (fun i zs H' _ h=>SqL.of (h.1 _ _ e1)) ?_ ?_
 ·rintro i v zs H2 hv _ ⟨g2,hz,hD⟩
  rw[mU] at hv;obtain⟨st,hst,rfl⟩:=rE.mp hv;obtain⟨k,hkm,rfl⟩:=nL.mp (hp1.mem_iff.mp (mF hst));have gH2:=g1.trans g2;have gG2:=gG.trans gH2;walk_at "rd3";unfold zJv;walk_at "rd3"
  by_cases hkl:k∈ls
  ·obtain⟨v,hv1,_⟩:=kS nl hkb hy hb hkl
   exact⟨_,hv1 _ gG2,false,rfl,iN (by decide) ⟨g2,by lia,hD⟩⟩
  refine⟨_,kM hkb (gG2 _ _ hb) hkl,true,rfl,iP rfl fun pl hpl=>?_⟩;have s6:=zC hpl (.lst [V.str (tx k)]);refine⟨pa,pl,_,_,rfl,rfl,s6 _ _ (gG2 _ _ hp),zB,by rw[mB,mM,mQ];lia,fun pc hpc tp htp=>?_⟩;have s7:=s6.trans (zC hpc (.lst (ks.map kV++ [V.str (tx k)])));have e7:_=some (HO.lst ((ks++ [nK k]).map kV)):=(zB (H:=upd H2 pl (.lst [V.str (tx k)])) (a:=pc) (o:=.lst (ks.map kV++ [V.str (tx k)]))).trans (congrArg (fun z=>some (HO.lst z)) (zCt ks (nK k)));generalize upd (upd H2 pl (.lst [V.str (tx k)])) pc (.lst (ks.map kV++ [V.str (tx k)]))=H7 at s7 e7 htp⊢;have s8:=zC htp (.tup [V.str (Str.ofString "take"),V.ref pc]);refine⟨g2.trans (s7.trans s8),by rw[mO,mM];lia,(hD.same (zGx (s7.trans s8))).append (Ds.one (ks:=ks++ [nK k]) ⟨tp,V.str (Str.ofString "take"),pc,[],rfl, ?_, ?_⟩ ?_)⟩
  ·rw[wB (zZ (gH2.trans s7) htp)];exact zB
  ·rw[wB (zZ (gH2.trans s6) hpc)];exact s8 _ _ e7
  ·obtain⟨r',e1,e2⟩:=hPk k [] (fun _ z=>absurd z hkl)
   exact⟨r',by rw[←e1,rJ],e2⟩
 ·rintro zs H2 _ ⟨g2,hz,hD⟩ d hdn
  have gH2:=g1.trans g2;have hd0:=zZ gH2 hdn;have s3:=zC hdn (.lst zs);have e3:=zB (H:=H2) (a:=d) (o:=.lst zs);have D3:DI d G H (fun p=>∃r,p=ks++r∧OkD (.dic hs us) (.dic ls ws) r) us.length (upd H2 d (.lst zs)):=by
   refine⟨gH2.trans s3,zs,zB,by rw[mB] at hz;lia, ?_⟩;rw[Wd.upd hd0];refine hD.same fun b o e=>?_;unfold Wd;rw[xA fun z=>by subst z;rw[wB hd0] at e;rw[hdn] at e;cases e];exact e
  generalize upd H2 d (.lst zs)=H3 at D3⊢;have gG3:=gG.trans D3.1;refine⟨qs, .inl (gG3 _ _ hb),ls.map tx,by rw[hkb,pC];rfl,by rw[mB];exact fl,fun l2 rs hl2 hp2 hs2=>⟨⟨_,SqL.of zB⟩, ?_⟩⟩;have g4:=zC hl2 (.lst (rs.map V.str));have e4:=zB (H:=H3) (a:=l2) (o:=.lst (rs.map V.str));have hrl:=hp2.length_eq;rw[mB] at hrl;have zm:(T.szs us+1)*T.szs ws≤90000:=mY (sD (show T.szs us+1≤300 by lia) (show T.szs ws≤300 by lia)) (by decide);have zt:us.length+(T.szs us+1)*T.szs ws≤T.sz (.dic hs us)*T.sz (.dic ls ws):=by
   show _≤(T.szs us+1)*(T.szs ws+1);rw[bP]
   lia
  have hpm:(rs.map fun s=>yH (ts s) ls ws).Perm (ls.map fun k=>yH k ls ws):=by
   have:=hp2.map (fun s=>yH (ts s) ls ws);rw[pC] at this;refine this.trans (List.Perm.of_eq (pW fun k _=>?_));show yH (ts (tx k)) ls ws=_;rw[vV]
  have hzs:T.szs (rs.map fun s=>yH (ts s) ls ws)=T.szs ws:=(gY hpm).trans (uJ nl el);have D4:DI d G H (fun p=>∃r,p=ks++r∧OkD (.dic hs us) (.dic ls ws) r) us.length (upd H3 l2 (.lst (rs.map V.str))):=by
   obtain⟨g,zs',h1,h2,h3⟩:=D3;exact⟨g.trans g4,zs',g4 _ _ h1,h2,h3.same (Wd.mono g4)⟩
  have n2:l2≠d:=fun z=>by
   obtain⟨g,zs',h1,h2,h3⟩:=D3;subst z;rw[hl2] at h1;cases h1
  generalize upd H3 l2 (.lst (rs.map V.str))=H4 at D4 e4⊢;refine zAh (K:=K) (a:=l2) (xs:=rs.map V.str) (fun i σ H'=>(∃o,σ= [some (V.ref a),some (V.ref b),some (V.ref pa),some (V.ref d),o])∧H' l2=some (.lst (rs.map V.str))∧DI d G H (fun p=>∃r,p=ks++r∧OkD (.dic hs us) (.dic ls ws) r) (us.length+(T.szs us+1)*T.szs ((rs.map fun s=>yH (ts s) ls ws).take i)) H') ⟨⟨_,rfl⟩,e4,D4.le (pZ _ _)⟩ (fun i σ H' _ h=>SqL.of h.2.1) ?_ ?_
  ·rintro i v σ H5 hv ⟨⟨o,rfl⟩,e5,g5,zs',hz1,hz2,hz3⟩
   rw[mU] at hv;obtain⟨st,hst,rfl⟩:=rE.mp hv;obtain⟨k,hkm,rfl⟩:=nL.mp (hp2.mem_iff.mp (mF hst));have gG5:=gG.trans g5;obtain⟨y,hy1,hy2⟩:=kS nl hkb hy hb hkm;have mu:=xP hkm el;have su:=T.szs_le mu;have du:=T.deps_le mu;have d2:T.deps ws+1<20:=hi.d2;have sp:=sz_pos (yH k ls ws);have htk:T.szs ((rs.map fun s=>yH (ts s) ls ws).take (i+1))=T.szs ((rs.map fun s=>yH (ts s) ls ws).take i)+T.sz (yH k ls ws):=gM (by rw[mU,hst,Option.map_some,vV]);have zle:=vK (rs.map fun s=>yH (ts s) ls ws) i;rw[hzs] at zle;have ml3:(T.szs us+1)*T.szs ((rs.map fun s=>yH (ts s) ls ws).take i)≤(T.szs us+1)*T.szs ws:=sH _ zle;have ml4:(T.szs us+1)*T.sz (yH k ls ws)≤(T.szs us+1)*T.szs ws:=sH _ (by lia);have m1:1≤(T.szs us+1)*T.sz (yH k ls ws):=sD (show 1≤T.szs us+1 by lia) sp;rw[htk,bP,←Nat.add_assoc];unfold zLa gN;walk_at "rd3"
   by_cases hkh:k∈hs
   ·obtain⟨x,hx1,hx2⟩:=kS nh hka hx ha hkh
    have mt:=xP hkh eh;have dt:=T.deps_le mt;have sz:=T.szs_le mt;refine⟨_,hx1 _ gG5,iP rfl ⟨.inl ⟨rfl,zs',SqL.of hz1⟩, ?_⟩⟩;refine⟨x,hx1 _ gG5,y,hy1 _ gG5,fun pl hpl=>?_⟩;have s6:=zC hpl (.lst [V.str (tx k)]);refine⟨pa,pl,_,_,rfl,rfl,s6 _ _ (gG5 _ _ hp),zB,by rw[mB,mM,mQ];lia,fun pc hpc=>?_⟩;have s7:=s6.trans (zC hpc (.lst (ks.map kV++ [V.str (tx k)])));have e7:_=some (HO.lst ((ks++ [nK k]).map kV)):=(zB (H:=upd H5 pl (.lst [V.str (tx k)])) (a:=pc) (o:=.lst (ks.map kV++ [V.str (tx k)]))).trans (congrArg (fun z=>some (HO.lst z)) (zCt ks (nK k)));generalize upd (upd H5 pl (.lst [V.str (tx k)])) pc (.lst (ks.map kV++ [V.str (tx k)]))=H7 at s7 e7⊢;have g7:=g5.trans s7;have hpc5:=zZ s6 hpc;have nc:pc≠d:=fun z=>by subst z;rw[hpc5] at hz1;cases hz1
    refine⟨Wd d G H H7,x,y,pc,_,_,ks++ [nK k],rfl,Wd.sub gG g7,Rep.same (Wd.left gG hd0) _ _ hx2,Rep.same (Wd.left gG hd0) _ _ hy2,Wd.at nc (zZ g5 hpc5) e7,⟨T.fews_mem fu mt,T.fews_mem fw mu,by lia,by lia,by lia,by lia,by rw[mO,mM];lia⟩,by lia,fun l ys' H8 g8 hl hl8 hn8 hD8=>?_⟩;have mle:T.sz (yH k hs us)*T.sz (yH k ls ws)≤(T.szs us+1)*T.sz (yH k ls ws):=rK _ (by lia);refine⟨d,l,zs',ys',rfl,rfl,g8 _ _ (s7 _ _ hz1),hl8,by rw[mQ];lia,⟨_,rfl⟩,by rw[zR n2];exact g8 _ _ (s7 _ _ e5), ?_⟩;exact DI.more hd0 g5 hz1 hz2 hz3 s7 g8 (mY hn8 mle) (hD8.imp fun p ⟨r,e1,h1⟩=>by rw[e1];exact hPk k r (fun _ _=>h1))
   ·refine⟨_,kM hka (gG5 _ _ ha) hkh,iN (by decide) ⟨.inl ⟨rfl,zs',SqL.of hz1⟩, ?_⟩⟩
    refine fun pl hpl=>?_;have s6:=zC hpl (.lst [V.str (tx k)]);refine⟨pa,pl,_,_,rfl,rfl,s6 _ _ (gG5 _ _ hp),zB,by rw[mB,mM,mQ];lia,fun pc hpc=>?_⟩;have s7:=s6.trans (zC hpc (.lst (ks.map kV++ [V.str (tx k)])));have e7:_=some (HO.lst ((ks++ [nK k]).map kV)):=(zB (H:=upd H5 pl (.lst [V.str (tx k)])) (a:=pc) (o:=.lst (ks.map kV++ [V.str (tx k)]))).trans (congrArg (fun z=>some (HO.lst z)) (zCt ks (nK k)));generalize upd (upd H5 pl (.lst [V.str (tx k)])) pc (.lst (ks.map kV++ [V.str (tx k)]))=H7 at s7 e7⊢;have gG7:=gG5.trans s7;refine⟨y,hy1 _ gG7,y,_,rfl,Rep.same gG7 _ _ hy2,kP _ _ (mE _) (T.fews_mem fw mu),by lia,by lia,fun x' H8 D8 g8 _ _ tp htp=>?_⟩;have s8:=g8.trans (zC htp (.tup [V.str (Str.ofString "put"),V.ref pc,x']));refine⟨d,zs',_,rfl,rfl,s8 _ _ (s7 _ _ hz1),by rw[mQ];lia,⟨_,rfl⟩,by rw[zR n2];exact s8 _ _ (s7 _ _ e5), ?_⟩;refine(DI.one (ks:=ks++ [nK k]) hd0 g5 hz1 hz2 hz3 (s7.trans s8) (zZ (s7.trans g8) htp) zB (zZ s6 hpc) (s8 _ _ e7) ?_).le (by lia);obtain⟨r',e1,e2⟩:=hPk k [] (fun z=>absurd z hkh);exact⟨r',by rw[←e1,rJ],e2⟩
  ·rintro σ H5 ⟨⟨o,rfl⟩,e5,g5,zs',hz1,hz2,hz3⟩
   rw[show(rs.map V.str).length=(rs.map fun s=>yH (ts s) ls ws).length by rw[mB,mB],nT,hzs] at hz2;walk_at "rd3";exact q d zs' _ g5 hd0 hz1 (mY hz2 zt) (hz3.same Wd.fin)
theorem zPo{f1 f2 f3:Addr}{fd1 fd2 fd3:FuncData}{j:Nat}(F1:Fun K "deeds_between" "deeds_between" sDb f1 fd1)(F2:Fun K "deeds_between_rows" "deeds_between_rows" sDr f2 fd2)(F3:Fun K "deeds_between_records" "deeds_between_records" sDc f3 fd3)(B:Bl6 mg)
  (Ga:∀k,j≤k→Dn P w K mg base k "alike" ["one","other"] (jP 20)) (Gh:∀k,j≤k→Dn P w K mg base k "alike_ahead" ["one","other"] (zMx 20)) (Gc:∀k,j≤k→Dn P w K mg base k "copied" ["thing"] (zCl 20))
  (b1:Binds K fd1 ["old","new","path"] []) (k1:W.keepIn K (.ref f1)=true) (m1:mg "deeds_between" =some (.ref f1))
  (b2:Binds K fd2 ["old","new","path"] []) (k2:W.keepIn K (.ref f2)=true) (m2:mg "deeds_between_rows" =some (.ref f2))
  (b3:Binds K fd3 ["old","new","path"] []) (k3:W.keepIn K (.ref f3)=true) (m3:mg "deeds_between_records" =some (.ref f3)):∀n:Nat,FnOk P w K mg base CX0 (j+2+2*n) f1 fd1 ["old","new","path"] (zIy n)
 | 0=>by
  refine F1.ok scDb (fun vs H Q E h=>?_) (fun c A o s H vs Q E hr h=>?_)
  ·obtain⟨G,vo,vn,pa,t,u,ks,rfl,_⟩:=h
   rfl
  ·obtain⟨G,vo,vn,pa,t,u,ks,rfl,gG,ho,hn,hp,hi,hd,q⟩:=h
   exact absurd hd (pX _)
 | n+1=>by
  have D1:Dn P w K mg base (j+2+2*n) "deeds_between" ["old","new","path"] (zIy n):=⟨_,_,zPo F1 F2 F3 B Ga Gh Gc b1 k1 m1 b2 k2 m2 b3 k3 m3 n,b1,k1,m1⟩;have D2:Dn P w K mg base (j+2+2*n+1) "deeds_between_rows" ["old","new","path"] (zTf n):=⟨_,_,ok_dr F2 B (Gh _ (by lia)) (Gc _ (by lia)) D1,b2,k2,m2⟩;have D3:Dn P w K mg base (j+2+2*n+1) "deeds_between_records" ["old","new","path"] (zSd n):=⟨_,_,ok_dc F3 B (Gc _ (by lia)) D1,b3,k3,m3⟩;exact ok_db (k:=j+2+2*n+1) F1 B (Ga _ (by lia)) (Gc _ (by lia)) D2 D3
def vW(n:List Nat):List (List Nat)→List T→List T
 | k::ks,u::us=>if k=n then vW n ks us else u::vW n ks us
 | _,_=>[]
def jB(n:List Nat):List (List Nat)→List (List Nat)
 | k::ks=>if k=n then jB n ks else k::jB n ks
 | []=>[]
theorem dropN_mem{n k:List Nat}:∀{ks:List (List Nat)},k∈jB n ks↔k∈ks∧k≠n
 | []=>by simp[jB]
 | k'::ks=>by
  unfold jB;split
  ·rename_i e
   rw[dropN_mem (ks:=ks),e];constructor
   ·exact fun h=>⟨mI _ h.1,h.2⟩
   ·rintro⟨h1,h2⟩
    rcases mG.mp h1 with z | z
    ·exact absurd z h2
    ·exact⟨z,h2⟩
  ·rename_i e
   rw[mG,dropN_mem (ks:=ks),mG];constructor
   ·rintro(h | h)
    ·exact⟨.inl h,by rw[h];exact e⟩
    ·exact⟨.inr h.1,h.2⟩
   ·rintro⟨h1 | h1,h2⟩
    ·exact .inl h1
    ·exact .inr ⟨h1,h2⟩
theorem kB{n:List Nat}:∀{ks:List (List Nat)},ks.Nodup→(jB n ks).Nodup
 | [],_=>by simp[jB]
 | k::ks,h=>by
  rw[pA] at h;unfold jB;split
  ·exact kB h.2
  ·rw[pA]
   exact⟨fun z=>h.1 (dropN_mem.mp z).1,kB h.2⟩
theorem zHk{n:List Nat}:∀{ks:List (List Nat)}{us:List T},ks.length=us.length→(jB n ks).length=(vW n ks us).length∧(vW n ks us).length≤us.length
 | [],[],_=>⟨rfl,mE _⟩
 | [],_::_,h=>by simp at h
 | _::_,[],h=>by simp at h
 | k::ks,u::us,h=>by
  obtain⟨h1,h2⟩:=zHk (n:=n) (ks:=ks) (us:=us) (by simpa using h);unfold jB vW;split
  ·exact⟨h1,pU h2⟩
  ·exact⟨by rw[nF,nF,h1],nN h2⟩
theorem uY{n:List Nat}{u:T}:∀{ks:List (List Nat)}{us:List T},u∈vW n ks us→u∈us
 | [],us,h=>by cases us<;>simp[vW] at h
 | _::_,[],h=>by simp[vW] at h
 | k::ks,v::us,h=>by
  unfold vW at h;split at h
  ·exact mI _ (uY h)
  ·rcases mG.mp h with z | z
   ·rw[z];exact mK
   ·exact mI _ (uY z)
theorem Reps.dropK{H:Hp}{n:List Nat}:∀{ps:List (Key×V)}{ks:List (List Nat)}{us:List T},ps.map (·.1)=ks.map nK→Reps H (ps.map (·.2)) us→(L2.dropK ps (nK n)).map (·.1)=(jB n ks).map nK∧Reps H ((L2.dropK ps (nK n)).map (·.2)) (vW n ks us)
 | [],[],us,_,h=>by
  have e:us= []:=by
   cases us with
   | nil=>rfl
   | cons _ _=>obtain⟨v,r,e,_⟩:=h;cases e
  subst e;exact⟨rfl,rfl⟩
 | [],_::_,_,e,_=>by simp at e
 | _::_,[],_,e,_=>by simp at e
 | p::ps,k::ks,[],_,h=>by
  have h':(p::ps).map (·.2)= []:=h;cases h'
 | p::ps,k::ks,u::us,e,⟨v',r,e0,h1,h2⟩=>by
  have e':p.2::ps.map (·.2)=v'::r:=e0;injection e' with e1 e2;subst e1 e2;have e3:p.1::ps.map (·.1)=nK k::ks.map nK:=e;injection e3 with e4 e5;obtain⟨i1,i2⟩:=Reps.dropK (n:=n) e5 h2;unfold L2.dropK at i1 i2⊢;rw[aU];unfold jB vW
  by_cases hk:k=n
  ·rw[mJ (by simp[e4,hk]),mW hk,mW hk]
   exact⟨i1,i2⟩
  ·rw[mW (by rw[e4];exact pL fun z=>hk (qO z)),mJ hk,mJ hk]
   exact⟨by rw[mN,mN,e4,i1],_,_,rfl,h1,i2⟩
structure Gr(m:Nat)(t t':T):Prop where
 few:T.fewm (m+1) t'
 dep:T.dep t'≤T.dep t+2
 sz:T.sz t'≤T.sz t+30
theorem Gr.refl{m:Nat}{t:T}(h:T.fewm m t):Gr m t t:=⟨T.fewm_mono (rT m) t h,by lia,by lia⟩
theorem zEo:∀(us:List T)(i:Nat),T.szs (us.eraseIdx i)≤T.szs us
 | [],_=>mE _
 | u::us,0=>by show T.szs us≤T.sz u+T.szs us;lia
 | u::us,i+1=>by
  have:=zEo us i;show T.sz u+T.szs (us.eraseIdx i)≤T.sz u+T.szs us
  lia
theorem zBf{t:T}:∀(us:List T)(i:Nat){s:T},us[i]? =some s→T.szs (us.set i t)+T.sz s=T.szs us+T.sz t
 | [],_,_,h=>by simp at h
 | u::us,0,s,h=>by
  have e:u=s:=by simpa using h
  subst e;show T.sz t+T.szs us+_=T.sz u+T.szs us+_
  lia
 | u::us,i+1,s,h=>by
  have:=zBf (t:=t) us i (s:=s) (by simpa using h);show T.sz u+T.szs (us.set i t)+_=T.sz u+T.szs us+_
  lia
theorem zEd{n:List Nat}{t:T}:∀(ks:List (List Nat))(us:List T),ks.Nodup→T.szs (xW n t ks us)≤T.szs us+T.sz t
 | [],us,_=>by
  have e:xW n t [] us=us:=by unfold xW;rfl
  rw[e];lia
 | k::ks,[],_=>by
  have e:xW n t (k::ks) []= []:=by unfold xW;rfl
  rw[e];show 0≤_;lia
 | k::ks,u::us,nk=>by
  rw[pA] at nk;have e:xW n t (k::ks) (u::us)=(if k=n then t else u)::xW n t ks us:=rfl;rw[e];show T.sz _+T.szs _≤T.sz u+T.szs us+T.sz t
  by_cases h:k=n
  ·rw[mW h]
   have hno:∀(ls:List (List Nat))(ws:List T),n∉ls→xW n t ls ws=ws:=by
    intro ls
    induction ls with
    | nil=>intro ws _;unfold xW;rfl
    | cons l ls ih=>
     intro ws hn
     cases ws with
     | nil=>unfold xW;rfl
     | cons w ws=>
      have e2:xW n t (l::ls) (w::ws)=(if l=n then t else w)::xW n t ls ws:=rfl;rw[e2,mJ (fun z=>hn (by rw[z];exact mK)),ih ws fun z=>hn (mI _ z)]
   rw[hno ks us (by rw[←h];exact nk.1)]
   lia
  ·rw[mJ h]
   have:=zEd (n:=n) (t:=t) ks us nk.2
   lia
theorem zEj{n:List Nat}:∀(ks:List (List Nat))(us:List T),T.szs (vW n ks us)≤T.szs us
 | [],us=>by cases us<;>(unfold vW;exact mL _)
 | _::_,[]=>by unfold vW;exact mL _
 | k::ks,u::us=>by
  have:=zEj (n:=n) ks us;unfold vW;show _≤T.sz u+T.szs us;split
  ·lia
  ·show T.sz u+_≤_
   lia
theorem zHr{n:Nat}{us:List T}(h:∀t∈us,T.dep t≤n):T.deps us≤n:=T.deps_of h
theorem Gr.row{m:Nat}{us ws:List T}(h:T.fewm m (.lst us))(hm:∀t∈ws,t∈us∨(T.fewm (m+1) t∧T.dep t≤T.deps us+2))(hl:ws.length≤100000)(hz:T.szs ws≤T.szs us+30):Gr m (.lst us) (.lst ws):=by
 refine⟨⟨hl,T.fewms_of fun t ht=>(hm t ht).elim (fun z=>T.fewm_mono (rT m) _ (T.fewms_mem h.2 z)) (fun z=>z.1)⟩, ?_, ?_⟩
 ·show T.deps ws+1≤T.deps us+1+2
  have:=zHr (n:=T.deps us+2) (us:=ws) fun t ht=>(hm t ht).elim (fun z=>mY (T.deps_le z) (by lia)) (fun z=>z.2)
  lia
 ·show T.szs ws+1≤T.szs us+1+30
  lia
theorem Gr.rcd{m:Nat}{ks ls:List (List Nat)}{us ws:List T}(h:T.fewm m (.dic ks us))(hm:∀t∈ws,t∈us∨(T.fewm (m+1) t∧T.dep t≤T.deps us+2))(hn:ls.Nodup)(hk:ls.length=ws.length)(hl:ls.length≤ks.length+1)(hz:T.szs ws≤T.szs us+30):Gr m (.dic ks us) (.dic ls ws):=by
 have h2:=h.2.1;refine⟨⟨hn,by lia,hk,T.fewms_of fun t ht=>(hm t ht).elim (fun z=>T.fewm_mono (rT m) _ (T.fewms_mem h.2.2.2 z)) (fun z=>z.1)⟩, ?_, ?_⟩
 ·show T.deps ws+1≤T.deps us+1+2
  have:=zHr (n:=T.deps us+2) (us:=ws) fun t ht=>(hm t ht).elim (fun z=>mY (T.deps_le z) (by lia)) (fun z=>z.2)
  lia
 ·show T.szs ws+1≤T.szs us+1+30
  lia
theorem Sps.atR{H:Hp}:∀{us:List T}{vs:List V}{D:List Addr}{i:Nat}{t:T},Sps H vs us D→us[i]? =some t→∃v D1,vs[i]? =some v∧Sp1 H v t D1∧(∀b∈D1,b∈D)∧
  ∀H0 H' t',(∀b∈D,H0 b=none)→Rep (jV H0 H') v t'→Keep D1 H H'→Reps (jV H0 H') vs (us.set i t')
 | [],_,_,i,t,_,h=>by simp at h
 | u::us,_,_,0,t,⟨v,r,D1,D2,rfl,rfl,h1,h2,hd⟩,h=>by
  have e:u=t:=by simpa using h
  subst e;refine⟨v,D1,rfl,h1,fun b hb=>pF _ hb,fun H0 H' t' hn hs hk=>⟨v,r,rfl,hs, ?_⟩⟩;exact Sps.rep _ _ _ (Sps.keep _ _ _ (fun b hb o _ e=>by
   rw[xX (hn b (nG _ hb))];exact hk b o (fun z=>hd b z hb) e) h2)
 | u::us,_,_,i+1,t,⟨v,r,D1,D2,rfl,rfl,h1,h2,hd⟩,h=>by
  obtain⟨w,E1,g1,g2,g3,g4⟩:=Sps.atR (i:=i) h2 (by simpa using h);refine⟨w,E1,by simpa using g1,g2,fun b hb=>nG _ (g3 b hb),fun H0 H' t' hn hs hk=>⟨v,r,rfl, ?_,g4 H0 H' t' (fun b hb=>hn b (nG _ hb)) hs hk⟩⟩;exact Sp1.rep _ _ _ (Sp1.keep _ _ _ (fun b hb o _ e=>by
   rw[xX (hn b (pF _ hb))];exact hk b o (fun z=>hd b hb (g3 b z)) e) h1)
structure Cx1(m:Nat)(H0 H:Hp)(v:V)(t:T)(x:V)(s:T)(D:List Addr):Prop where
 sp:Sp1 H x s D
 new:∀b∈D,H0 b=none
 few:T.fewm m s
 dep:T.dep s≤T.dep t
 sz:T.sz s≤T.sz t
 cls:∀H' s',Rep (jV H0 H') x s'→Keep D H H'→Gr m s s'→∃t',Rep (jV H0 H') v t'∧Gr m t t'
theorem Cx1.refl{m:Nat}{H0 H:Hp}{v:V}{t:T}{D:List Addr}(h:Sp1 H v t D)(hn:∀b∈D,H0 b=none)(hf:T.fewm m t):Cx1 m H0 H v t v t D:=⟨h,hn,hf,mE _,mE _,fun _ s' r _ g=>⟨s',r,g⟩⟩
theorem Cx1.row{m:Nat}{H0 H:Hp}{v:V}{t:T}{a:Addr}{us:List T}{D:List Addr}(C:Cx1 m H0 H v t (.ref a) (.lst us) D){i:Nat}{u:T}(hi:us[i]? =some u):∃xs y D',H a=some (.lst xs)∧xs.length=us.length∧xs[i]? =some y∧Cx1 m H0 H v t y u D':=by
 obtain⟨a',xs,D1,e,ha,rfl,na,hs⟩:=C.sp;cases e;obtain⟨y,D2,h1,h2,h3,h4⟩:=Sps.atR hs hi;have hm:=mF hi;have d1:=C.dep;have z1:=C.sz;have d2:=T.deps_le hm;have z2:=T.szs_le hm;have hf:=C.few;have hd:T.dep (.lst us)=T.deps us+1:=rfl;have hz:T.sz (.lst us)=T.szs us+1:=rfl;refine⟨xs,y,D2,ha,hs.length,h1,h2,fun b hb=>C.new b (mI _ (h3 b hb)),T.fewms_mem hf.2 hm,by lia,by lia,fun H' s' r k g=>?_⟩;have na2:a∉D2:=fun z=>na (h3 a z);refine C.cls H' (.lst (us.set i s')) ⟨a,xs,rfl, ?_,h4 H0 H' s' (fun b hb=>C.new b (mI _ hb)) r k⟩ (k.mono fun b hb=>mI _ (h3 b hb)) ?_
 ·rw[xX (C.new a mK)];exact k a _ na2 ha
 ·have e1:=zBf (t:=s') us i hi
  have e2:=g.sz;refine Gr.row hf (fun t ht=>?_) (by rw[aA];exact hf.1) (by lia);rcases tH ht with z | z
  ·exact .inl z
  ·have:=g.dep
   rw[z];exact .inr ⟨g.few,by lia⟩
theorem Cx1.rcd{m:Nat}{H0 H:Hp}{v:V}{t:T}{a:Addr}{ks:List (List Nat)}{us:List T}{D:List Addr}(C:Cx1 m H0 H v t (.ref a) (.dic ks us) D){k:List Nat}(hk:k∈ks):∃ps y D',H a=some (.dK ps)∧ps.map (·.1)=ks.map nK∧qF ps (nK k)=some y∧Cx1 m H0 H v t y (yH k ks us) D':=by
 obtain⟨a',ps,D1,e,ha,hkk,rfl,na,hs⟩:=C.sp;cases e;have hf:=C.few;have hi:=zPz hk;have il:ks.idxOf k<us.length:=by rw[←hf.2.2.1];exact aQ hk
 have hu:us[ks.idxOf k]? =some (yH k ks us):=by
  rw[nS il];exact congrArg some (uO hf.1 hi (nS il)).symm
 obtain⟨y,D2,h1,h2,h3,h4⟩:=Sps.atR hs hu;have hm:=mF hu;have d1:=C.dep;have z1:=C.sz;have d2:=T.deps_le hm;have z2:=T.szs_le hm;have hd:T.dep (.dic ks us)=T.deps us+1:=rfl;have hz:T.sz (.dic ks us)=T.szs us+1:=rfl;have hv:qF ps (nK k)=some y:=by
  rw[mU] at h1;obtain⟨kv,hkv,rfl⟩:=rE.mp h1;refine jD (i:=ks.idxOf k) (by rw[hkk];exact vA hf.1) ?_;have:(ps.map (·.1))[ks.idxOf k]? =some (nK k):=by rw[hkk,mU,hi];rfl
  rw[mU,hkv] at this;rw[hkv,←mX this]
 refine⟨ps,y,D2,ha,hkk,hv,h2,fun b hb=>C.new b (mI _ (h3 b hb)),T.fewms_mem hf.2.2.2 hm,by lia,by lia,fun H' s' r kp g=>?_⟩;have na2:a∉D2:=fun z=>na (h3 a z);refine C.cls H' (.dic ks (us.set (ks.idxOf k) s')) ⟨a,ps,rfl, ?_,hkk,h4 H0 H' s' (fun b hb=>C.new b (mI _ hb)) r kp⟩ (kp.mono fun b hb=>mI _ (h3 b hb)) ?_
 ·rw[xX (C.new a mK)];exact kp a _ na2 ha
 ·have e1:=zBf (t:=s') us _ hu
  have e2:=g.sz;refine Gr.rcd hf (fun t ht=>?_) hf.1 (by rw[aA];exact hf.2.2.1) (rT _) (by lia);rcases tH ht with z | z
  ·exact .inl z
  ·have:=g.dep
   rw[z];exact .inr ⟨g.few,by lia⟩
abbrev sPi:Stmt:=top 29
abbrev zHl:Str:=Str.ofString "put"
abbrev zHt:Str:=Str.ofString "insert"
abbrev zAw:Str:=Str.ofString "take"
theorem kE{H0 H H1:Hp}{a:Addr}{o:HO}{xs:List V}{us:List T}{D:List Addr}(hs:Sps H xs us D)(na:a∉D)(hn:∀b∈D,H0 b=none)(g:Same H H1):Reps (jV H0 (upd H1 a o)) xs us:=
 Sps.rep _ _ _ (Sps.keep _ _ _ (fun b hb u _ e=>by
  rw[xX (hn b hb),zR fun z=>na (by rw[←z];exact hb)];exact g _ _ e) hs)
theorem zFe{H0 H H1:Hp}{a:Addr}{o o':HO}{v:V}{u:T}{D:List Addr}(hs:Sp1 H1 v u D)(hn:∀b∈D,H b=none)(g0:Same H0 H)(ha:H a=some o'):Rep (jV H0 (upd H1 a o)) v u:=
 Sp1.rep _ _ _ (Sp1.keep _ _ _ (fun b hb u _ e=>by
  rw[xX (zZ g0 (hn b hb)),zR fun z=>by rw[z] at hb;rw[hn a hb] at ha;cases ha];exact e) hs)
theorem zPy{H0 H:Hp}{v:V}{t:T}{D:List Addr}(h:Sp1 H v t D)(hn:∀b∈D,H0 b=none):Rep (jV H0 H) v t:=Sp1.rep _ _ _ (Sp1.keep _ _ _ (fun b hb u _ e=>by rw[xX (hn b hb)];exact e) h)
def zTr:Sp:=fun vs H Q _=>∃(H0:Hp)(x vn:V)(wd:Str)(k:Key)(s u:T)(D:List Addr)(m:Nat),vs= [x, .str wd,kV k,vn]∧(wd=zHl∨wd=zHt∨wd=zAw)∧Same H0 H∧Sp1 H x s D∧(∀b∈D,H0 b=none)∧T.fewm m s∧30≤m∧m<60∧okS k∧Rep H vn u∧T.fewm 30 u∧T.dep u≤2∧T.sz u≤30∧T.sz s≤2000∧∀b H' s',Keep D H H'→Rep (jV H0 H') x s'→Gr m s s'→Q (.bl b) H'
theorem scPi:yE ["_law_thing","_law_word","_law_step","_law_new"] ["_law_thing","_law_word","_law_step","_law_new"] (zJ sPi):=by walk_at "sc"
theorem ok_pi{k:Nat}(F:Fun K "_law_put_in" "_law_put_in" sPi f fd)(B:Bl mg)(G_law_held:Dn P w K mg base k "_law_held" ["_law_thing"] (zAr 20)):FnOk P w K mg base CX0 (k+1) f fd ["_law_thing","_law_word","_law_step","_law_new"] zTr:=by
 refine F.ok scPi (by walk_at "ln") fun c A o s H vs Q E hr h=>?_;obtain⟨H0,x,vn,wd,ky,t,u,D,m,rfl,hw,g0,hsp,hnew,hf,hm0,hm,hk,hvn,hfu,hdu,hzu,hzs,q⟩:=h;have nd:=scPi.nd;have hu:=wC hr;refine⟨_,(zF (zS (PW.pt (xO (zY (pI B.isinstance zI B.dict yP (pv 0))) (xT (zY (pI B.isinstance zI B.str qN (pv 2)))))) (zF (zS (zP yX (pv 1) zV (zN _)) (zG (kU hu (pv 0) (pv 2) (zT G_law_held hr (by lia) rfl (zA (pv 3) zD)) rfl)) zL)
  (zF (zS (PW.pt (xO (zP yX (pv 1) zV (zN _)) (xT (jC (zCd hu (pv 2) (pv 0)))))) (zF (wZ (zPd (pv 0) (pv 2) ⟨rfl,rfl,rfl,rfl⟩))
  (zG (zK wV))) zL)
  (zG (zK (yV yX (pv 1) zV (zN _)))))) zL)
  (zF (zS (PW.pt (uR (vS (zY (pI B.isinstance zI B.list xB (pv 0)))) (zAs (zY (pI B.isinstance zI B.str qN (pv 2)))))) (zG (zK wV)) zL)
  (zF (zS (PW.pt (uR (PW.pt (xO (zP yX (pv 1) zV (zN _)) (xT (zP op_le (pv 2) (zM yD rfl B.len yO (zA (pv 0) zD)) (zN _))))) (zAs (PW.pt (xO (zP yX (pv 1) zV (zN _)) (xT (zP yX (pv 2) (zM yD rfl B.len yO (zA (pv 0) zD)) (zN _)))))))) (zF (wZ (vY nQ PySem.F.slot_list_insert PySem.F.type_list_insert zLl (pv 0) (zA (pv 2) (zA (zT G_law_held hr (by lia) rfl (zA (pv 3) zD)) zD))))
  (zG (zK wV))) zL)
  (zF (zS (zP op_ge (pv 2) (zM yD rfl B.len yO (zA (pv 0) zD)) (zN _)) (zG (zK wV)) zL)
  (zF (zS (zP yX (pv 1) zV (zN _)) (zG (wZ (vY nQ PySem.F.slot_list_pop PySem.F.type_list_pop zNy (pv 0) (zA (pv 2) zD)))) zL)
  (zF (zS (zP yX (pv 1) zV (zN _)) (zG (zSk (zT G_law_held hr (by lia) rfl (zA (pv 3) zD)) (zSb (pv 0) (pv 2) zNh))) zL)
  (zG (zK wV)))))))), ?_⟩
 walk_at "st";unfold zLa zNp gSub;walk_at "rd3";have n1:(Str.ofString "put" =Str.ofString "take")=False:=bH (by decide+kernel);have n2:(Str.ofString "put" =Str.ofString "insert")=False:=bH (by decide+kernel);have n3:(Str.ofString "insert" =Str.ofString "take")=False:=bH (by decide+kernel);have n4:(Str.ofString "insert" =Str.ofString "put")=False:=bH (by decide+kernel);have n5:(Str.ofString "take" =Str.ofString "put")=False:=bH (by decide+kernel);have n6:(Str.ofString "take" =Str.ofString "insert")=False:=bH (by decide+kernel);have hty:=(Sp1.rep _ _ _ hsp).ty;have q0:∀b,Q (.bl b) H:=fun b=>q b H t Keep.refl (zPy hsp hnew) (Gr.refl hf);refine⟨_,hty, ?_⟩;have leaf:zO (tyT t) "dict" =false→zO (tyT t) "list" =false→∀{R1 R2:Prop},(if zO (tyT t) "dict" =true then R1 else∃x_1,tyS H x=some x_1∧if zO x_1 "list" =false then Q (V.bl false) H else R2):=fun h1 h2=>iN (by rw[h1];decide) ⟨_,hty,iP h2 (q0 _)⟩
 cases t with
 | dic ks us=>
  refine iP (by simp only[tyT];decide+kernel) ?_;obtain⟨a,ps,D1,rfl,ha,hkk,rfl,na,hs⟩:=hsp;have hn1:∀b∈D1,H0 b=none:=fun b hb=>hnew b (mI _ hb);have hlen:=hs.length;have hzz:=T.szs_len us;have hz':T.szs us+1≤2000:=hzs;rw[mB] at hlen
  cases ky with
  | inl i=>exact⟨"int",rfl,iN (by decide) ⟨_,hty,iP (by simp only[tyT];decide+kernel) (q0 _)⟩⟩
  | inr z=>
   refine⟨"str",rfl,iP (by decide) ?_⟩;have ex:(Sum.inr z:Key)=nK (ts z):=by show(Sum.inr z:Key)=Sum.inr (tx (ts z));rw[jW]
   rcases hw with rfl | rfl | rfl
   ·rw[mW rfl]
    refine⟨vn,u,rfl,hvn,T.fewm_few (by decide) _ hfu,by lia,fun v' H1 D2 g1 sp2 hD2=>?_⟩;refine⟨a,rfl,_,DPut.k (k:=Sum.inr z) (g1 _ _ ha) (by rw[mQ];lia), ?_⟩;rw[mJ (by rw[n1];exact id),ex];obtain⟨p1,p2⟩:=zHx (H:=jV H0 (upd H1 a (.dK (vB ps (nK (ts z)) v')))) (p:=(ks,us)) (n:=ts z) (v:=v') (t:=u) hkk (kE hs na hn1 g1) (zFe sp2 hD2 g0 ha);refine q _ _ (.dic (uG (ks,us) (ts z) u).1 (uG (ks,us) (ts z) u).2) ((Keep.of g1).put _ mK) ⟨a,_,rfl,by rw[xX (hnew a mK)];exact zB,p1,p2⟩ ?_;obtain⟨l1,l2⟩:=zGi (ks:=ks) (us:=us) (n:=ts z) (t:=u) hf.2.2.1;have hkl:=hf.2.2.1;refine Gr.rcd hf (fun t ht=>(zHb ht).imp id fun e=>by rw[e];exact⟨T.fewm_mono (by lia) _ hfu,by lia⟩) (zDd hf.1) l1 (by lia) ?_;unfold uG;split
    ·have:=zEd (n:=ts z) (t:=u) ks us hf.1
     show T.szs (xW (ts z) u ks us)≤_
     lia
    ·show T.szs (us++ [u])≤_
     rw[vP];lia
   ·rw[mJ (by rw[n4];exact id),mJ (by rw[n3];exact id)]
    exact q0 _
   ·rw[mJ (by rw[n5];exact id),mW rfl]
    by_cases hz:ts z∈ks
    ·obtain⟨xv,hv1,_⟩:=Rep.at_name hf.1 hkk (Sps.rep _ _ _ hs) hz
     refine⟨a,rfl,some xv, .inl ⟨ps,Sum.inr z, .inl ha,rfl,by rw[ex];exact hv1.symm⟩,iP rfl ⟨a,rfl, .inl ⟨ps, .inl ha⟩,ps,ha,Sum.inr z,rfl,⟨xv,by rw[ex];exact hv1⟩, ?_⟩⟩;rw[ex];obtain⟨p1,p2⟩:=Reps.dropK (n:=ts z) hkk (kE (H1:=H) (a:=a) (o:=.dK (dropK ps (nK (ts z)))) hs na hn1 (Same.refl _));refine q _ _ (.dic (jB (ts z) ks) (vW (ts z) ks us)) (Keep.refl.put _ mK) ⟨a,_,rfl,by rw[xX (hnew a mK)];exact zB,p1,p2⟩ ?_;obtain⟨l1,l2⟩:=zHk (n:=ts z) hf.2.2.1;have hkl:=hf.2.2.1;exact Gr.rcd hf (fun t ht=>.inl (uY ht)) (kB hf.1) l1 (by lia) (mY (zEj _ _) (by lia))
    ·exact⟨a,rfl,_,by have:=kM hkk ha hz;rw[jW] at this;exact this,iN (by decide) (q0 _)⟩
 | lst us=>
  refine iN (by simp only[tyT];decide+kernel) ⟨_,hty,iN (by simp only[tyT];decide+kernel) ?_⟩;obtain⟨a,xs,D1,rfl,ha,rfl,na,hs⟩:=hsp
  cases ky with
  | inr z=>exact⟨"str",rfl,iP (by decide) (q0 _)⟩
  | inl i=>
   refine⟨"int",rfl,iN (by decide) ?_⟩;have hi0:0≤i:=hk.1;have hn1:∀b∈D1,H0 b=none:=fun b hb=>hnew b (mI _ hb);have hlen:=hs.length;have hzz:=T.szs_len us;have hz':T.szs us+1≤2000:=hzs;have tv:tyV K "list" (V.ref a) H:=.inl ⟨rfl,xs,SqL.of ha⟩;have insQ:i≤(xs.length:Int)→zAr 20 [vn] H (fun x H1=>rIns (V.ref a) [kV (Sum.inl i),x] H1 fun x H1=>Q (V.bl true) H1) E0:=fun hi=>by
    refine⟨vn,u,rfl,hvn,T.fewm_few (by decide) _ hfu,by lia,fun v' H1 D2 g1 sp2 hD2=>?_⟩;refine⟨a,xs,i,v',rfl,rfl,g1 _ _ ha,hi0,hi,by rw[mQ];lia,by lia, ?_⟩;have r1:=kE (H1:=H1) (a:=a) (o:=.lst (xs.take i.toNat++v'::xs.drop i.toNat)) hs na hn1 g1;refine q _ _ (.lst (us.take i.toNat++u::us.drop i.toNat)) ((Keep.of g1).put _ mK) ⟨a,_,rfl,by rw[xX (hnew a mK)];exact zB,Reps.append (vs:=u::us.drop i.toNat) (show Reps _ (v'::xs.drop i.toNat) (u::us.drop i.toNat) from⟨v',_,rfl,zFe sp2 hD2 g0 ha,Reps.drop _ r1⟩) (Reps.take _ r1)⟩ (Gr.row hf (fun t ht=>?_) ?_ ?_)
    ·rcases nD.mp ht with z | z
     ·exact .inl (aF z)
     ·rcases mG.mp z with z | z
      ·rw[z];exact .inr ⟨T.fewm_mono (by lia) _ hfu,by lia⟩
      ·exact .inl (rB z)
    ·rw[mO,nF,sF,nU];lia
    ·have e1:=wU (us.take i.toNat) (us.drop i.toNat)
     rw[sT] at e1;rw[wU];show _+(T.sz u+T.szs (us.drop i.toNat))≤_
     lia
   rcases hw with rfl | rfl | rfl
   ·rw[mJ (by rw[n2];exact id),mW rfl]
    refine⟨a,rfl,xs,SqL.of ha,rfl, ?_⟩
    by_cases hi:i=(xs.length:Int)
    ·exact iP (by rw[hi];rfl) ⟨tv,insQ (by lia)⟩
    ·refine iN (fun z=>hi (V.int.inj z)) ⟨a,rfl,xs,SqL.of ha,i,rfl, ?_⟩
     by_cases hj:(xs.length:Int)≤i
     ·exact iP hj (q0 _)
     ·refine iN hj ?_
      rw[mJ (by rw[n1];exact id),mW rfl];refine⟨vn,u,rfl,hvn,T.fewm_few (by decide) _ hfu,by lia,fun v' H1 D2 g1 sp2 hD2=>?_⟩;refine⟨a,xs,i,i.toNat,rfl,rfl,g1 _ _ ha,by unfold ixN;rw[mW hi0,mW (by lia)], ?_⟩;have r1:=kE (H1:=H1) (a:=a) (o:=.lst (xs.set i.toNat v')) hs na hn1 g1;obtain⟨w0,hw0⟩:∃w0,us[i.toNat]? =some w0:=⟨us[i.toNat]'(by lia),nS _⟩;have e1:=zBf (t:=u) us _ hw0;refine q _ _ (.lst (us.set i.toNat u)) ((Keep.of g1).put _ mK) ⟨a,_,rfl,by rw[xX (hnew a mK)];exact zB,Reps.set (zFe sp2 hD2 g0 ha) _ r1⟩ (Gr.row hf (fun t ht=>?_) (by rw[aA];lia) (by lia));rcases tH ht with z | z
      ·exact .inl z
      ·rw[z];exact .inr ⟨T.fewm_mono (by lia) _ hfu,by lia⟩
   ·rw[mW rfl]
    refine⟨a,rfl,xs,SqL.of ha,i,rfl, ?_⟩
    by_cases hi:i≤(xs.length:Int)
    ·exact iP hi ⟨tv,insQ hi⟩
    ·refine iN hi ?_
     rw[mJ (by rw[n4];exact id)];exact⟨a,rfl,xs,SqL.of ha,i,rfl,iP (by lia) (q0 _)⟩
   ·rw[mJ (by rw[n6];exact id),mJ (by rw[n5];exact id)]
    refine⟨a,rfl,xs,SqL.of ha,i,rfl, ?_⟩
    by_cases hj:(xs.length:Int)≤i
    ·exact iP hj (q0 _)
    ·refine iN hj ?_
     rw[mW rfl];refine⟨tv,a,xs,i,i.toNat,_,rfl,rfl,ha,by lia,by lia,(zFm (by unfold ixN;rw[mW hi0,mW (by lia)])).1,nS (by lia), ?_⟩;refine iN (by rw[n5];exact id) ?_;have r1:=kE (H1:=H) (a:=a) (o:=.lst (xs.eraseIdx i.toNat)) hs na hn1 (Same.refl _);refine q _ _ (.lst (us.eraseIdx i.toNat)) (Keep.refl.put _ mK) ⟨a,_,rfl,by rw[xX (hnew a mK)];exact zB, ?_⟩ (Gr.row hf (fun t ht=>.inl (List.mem_of_mem_eraseIdx ht)) (by rw[List.length_eraseIdx];split<;>lia) (mY (zEo _ _) (by lia)));rw[tX,tX] at*;exact Reps.append (Reps.drop _ r1) (Reps.take _ r1)
 | tup us=>exact hf.elim
 | non=>exact leaf (by simp only[tyT];decide+kernel) (by simp only[tyT];decide+kernel)
 | bl _=>exact leaf (by simp only[tyT];decide+kernel) (by simp only[tyT];decide+kernel)
 | int _=>exact leaf (by simp only[tyT];decide+kernel) (by simp only[tyT];decide+kernel)
 | str _=>exact leaf (by simp only[tyT];decide+kernel) (by simp only[tyT];decide+kernel)
abbrev sDo:Stmt:=top 30
def DeedR(H:Hp)(d:Addr)(wd:Str)(ks:List Key)(u:T):Prop:=∃pd r vn,H d=some (.tup (.str wd:: .ref pd::r))∧H pd=some (.lst (ks.map kV))∧(.str wd:: .ref pd::r:List V).getLast? =some vn∧r.length≤1∧Rep H vn u
structure zRw(wd:Str)(ks:List Key)(u:T):Prop where
 w:wd=zHl∨wd=zHt∨wd=zAw
 l:ks.length≤20
 s:∀k∈ks,okS k
 f:T.fewm 30 u
 d:T.dep u≤2
 z:T.sz u≤30
def zSw:Sp:=fun vs H Q _=>∃(v:V)(d:Addr)(wd:Str)(ks:List Key)(t u:T)(m:Nat),vs= [v, .ref d]∧Rep H v t∧T.fewm m t∧30≤m∧m<60∧T.dep t<20∧T.sz t≤2000∧DeedR H d wd ks u∧zRw wd ks u∧∀l b x t' H',Same H H'→H' l=some (.lst [.bl b,x])→Rep (jV H H') x t'→Gr m t t'→Q (.ref l) H'
theorem scDo:yE ["_law_thing","_law_deed_here","_law_new","_law_whole","_law_there","_law_step"] ["_law_thing","_law_deed_here"] (zJ sDo):=by walk_at "sc"
theorem ok_do{k:Nat}(F:Fun K "_law_deed_on" "_law_deed_on" sDo f fd)(B:Bl mg)(G_law_held:Dn P w K mg base k "_law_held" ["_law_thing"] (zAr 20))(G_law_put_in:Dn P w K mg base k "_law_put_in" ["_law_thing","_law_word","_law_step","_law_new"] zTr):FnOk P w K mg base CX0 (k+1) f fd ["_law_thing","_law_deed_here"] zSw:=by
 refine F.ok scDo (by walk_at "ln") fun c A o s H vs Q E hr h=>?_;obtain⟨v,d,wd,ks,t,u,m,rfl,hv,hf,hm0,hm,hd,hz,⟨pd,r,vn,hdd,hpd,hlast,hr1,hvn⟩,hI,q⟩:=h;have nd:=scDo.nd;have hu:=wC hr;have hu0:=hr.units0;refine⟨_,(zF (pS 2 nd (yI gW (pv 1) (vC xZ zE) (fun _ _=>rfl)))
  (zF (zS (zP (zBg hu0) (yI gW (pv 1) zE (fun _ _=>rfl)) (zX zD) (zN _)) (zG (zK (zX (zA (yV yX (yI gW (pv 1) zE (fun _ _=>rfl)) zV (zN _)) (zA (zT G_law_held hr (by lia) rfl (zA (pv 2) zD)) zD))))) zL)
  (zF (pS 3 nd (zT G_law_held hr (by lia) rfl (zA (pv 0) zD)))
  (zF (pS 4 nd (pv 3))
  (zF (wT PassesOwn.never rfl (xM (xR vJ (yI gW (pv 1) zE (fun _ _=>rfl)) wD (xG (vC xZ zE)))) (yF (i:=5) nd rfl (nH rfl)) (zG (zS (PW.pt (xO (zY (pI B.isinstance zI B.dict yP (pv 4))) (xO (zY (pI B.isinstance zI B.str qN (pv 5))) (xT (jC (zCd hu (pv 5) (pv 4))))))) (zG (pS 4 nd (xL hu (pv 4) (pv 5) (fun _ _=>rfl)))) (zG (zS (PW.pt (xO (zY (pI B.isinstance zI B.list xB (pv 4))) (xO (vS (zY (pI B.isinstance zI B.str qN (pv 5)))) (xT (zP vX (pv 5) (zM yD rfl B.len yO (zA (pv 4) zD)) (zN _)))))) (zG (pS 4 nd (yI yA (pv 4) (pv 5) (fun _ _=>rfl)))) (zG (zK (zX (zA wV (zA qI zD))))))))))
  (zG (zK (zX (zA (zT G_law_put_in hr (by lia) rfl (zA (pv 4) (zA (yI gW (pv 1) zE (fun _ _=>rfl)) (zA (yI yA (yI gW (pv 1) zE (fun _ _=>rfl)) (vC xZ zE) (fun _ _=>rfl)) (zA (pv 2) zD))))) (zA (pv 3) zD)))))))))), ?_⟩
 walk_at "st";walk_at "rd3";have hl0:∀{H':Hp},Same H H'→SqT K H' d (.str wd:: .ref pd::r):=fun g=>SqT.of (g _ _ hdd);have ixl:atI (.str wd:: .ref pd::r:List V) (-1)=some vn:=by
  match r,hr1,hlast with
  | [],_,h=>simpa [atI,ixN] using h
  | [y],_,h=>simpa [atI,ixN] using h
 have g00:=Same.refl H;refine qG (hl0 g00) ixl (qG (hl0 g00) (yJ (j:=1) rfl) fun p hp=>?_);have s1:=zC hp (.lst []);refine⟨pd,p,ks.map kV,rfl,rfl,SqL.of (s1 _ _ hpd),SqL.of zB,_,rfl, ?_⟩;generalize upd H p (.lst [])=H1 at s1⊢
 by_cases hks:ks= []
 ·subst hks
  refine iP rfl (qG (hl0 s1) (yJ (j:=0) rfl) ⟨rfl,vn,u,rfl,Rep.same s1 _ _ hvn,T.fewm_few (by decide) _ hI.f,by have:=hI.d;lia,fun x H2 D2 g2 sp2 hD2 l hl=>?_⟩);have s3:=zC hl (.lst [V.bl (decide (V.str wd=V.str (Str.ofString "put"))),x]);refine q l _ x u _ (s1.trans (g2.trans s3)) zB (Sp1.new (sp2.same s3) fun b hb=>zZ s1 (hD2 b hb)) ⟨T.fewm_mono (by lia) _ hI.f,by have:=hI.d;lia,by have:=hI.z;lia⟩
 ·refine iN (by cases ks<;>simp_all) ⟨v,t,rfl,Rep.same s1 _ _ hv,T.fewm_few (by lia) _ hf,hd,fun x H2 D2 g2 sp2 hD2=>?_⟩
  have g12:=s1.trans g2;refine qG (hl0 g12) (yJ (j:=1) rfl) ⟨pd,_,rfl,SqL.of (g12 _ _ hpd),fun pc hpc=>⟨pc,rfl,⟨_,SqL.of zB⟩, ?_⟩⟩;rw[zCg];obtain⟨ks0,kl,rfl⟩:∃ks0 kl,ks=ks0++ [kl]:=⟨ks.dropLast,ks.getLast hks,(sU hks).symm⟩;have ek:List.take (((ks0++ [kl]).map kV).length - 1) ((ks0++ [kl]).map kV)=ks0.map kV:=by
   rw[mP,mO,mB];exact List.take_left' (by simp)
  rw[ek] at*;have s3:=zC hpc (.lst (ks0.map kV));have e3:=zB (H:=H2) (a:=pc) (o:=.lst (ks0.map kV));generalize upd H2 pc (.lst (ks0.map kV))=H3 at s3 e3⊢;have g13:=g12.trans s3;have C0:Cx1 m H H3 x t x t D2:=Cx1.refl (sp2.same s3) (fun b hb=>zZ s1 (hD2 b hb)) hf;have bad:∀(l:Addr),H3 l=none→Q (V.ref l) (upd H3 l (.lst [V.bl false,V.non])):=fun l hl=>q l false .non .non _ (g13.trans (zC hl _)) zB rfl ⟨mC,mL _,by show 1≤_;lia⟩;refine zAh (K:=K) (a:=pc) (xs:=ks0.map kV) (fun i σ H'=>H'=H3∧∃y s D o,σ= [some v,some (V.ref d),some vn,some x,some y,o]∧Cx1 m H H3 x t y s D) ⟨rfl,_,_,_,_,rfl,C0⟩ (fun i σ H' _ h=>by rw[h.1];exact SqL.of e3) ?_ ?_
  ·rintro i kv σ H' hkv ⟨rfl,y,s,D,o,rfl,C⟩
   rw[mU] at hkv;obtain⟨k,hk,rfl⟩:=rE.mp hkv;have hok:=hI.s k (pF _ (mF hk));have hty:=(Sp1.rep _ _ _ C.sp).ty;unfold zLa gN;walk_at "rd3";refine⟨_,hty, ?_⟩
   cases s with
   | dic hs us=>
    refine iP (by simp only[tyT];decide+kernel) ?_
    cases k with
    | inl i=>exact⟨"int",rfl,iN (by decide) ⟨_,hty,iN (by simp only[tyT];decide+kernel) bad⟩⟩
    | inr z=>
     refine⟨"str",rfl,iP (by decide) ?_⟩;have ex:(Sum.inr z:Key)=nK (ts z):=by show(Sum.inr z:Key)=Sum.inr (tx (ts z));rw[jW]
     obtain⟨a,ps,D1,rfl,ha,hkk,_,_,_⟩:=C.sp
     by_cases hz:ts z∈hs
     ·obtain⟨ps',y',D',ha',hkk',hv',C'⟩:=C.rcd hz
      rw[←ex] at hv';exact⟨a,rfl,_, .inl ⟨ps',Sum.inr z, .inl ha',rfl,hv'.symm⟩,iP rfl ⟨a,rfl,_, .inl ⟨ps',Sum.inr z, .inl ha',rfl,hv'.symm⟩,y',⟨rfl,_,rfl⟩,_,_,C'⟩⟩
     ·exact⟨a,rfl,none,by have:=kM hkk ha hz;rw[jW] at this;exact this,iN (by decide) ⟨_,hty,iN (by simp only[tyT];decide+kernel) bad⟩⟩
   | lst us=>
    refine iN (by simp only[tyT];decide+kernel) ⟨_,hty,iP (by simp only[tyT];decide+kernel) ?_⟩
    cases k with
    | inr z=>exact⟨"str",rfl,iN (by decide) bad⟩
    | inl i=>
     have hi0:0≤i:=hok.1;refine⟨"int",rfl,iP (by decide) ?_⟩;obtain⟨a,xs,D1,rfl,ha,_,_,hs⟩:=C.sp;have hl:=hs.length;refine⟨a,rfl,xs,SqL.of ha,i,rfl, ?_⟩
     by_cases hi:i<(xs.length:Int)
     ·obtain⟨w0,hw0⟩:∃w0,us[i.toNat]? =some w0:=⟨us[i.toNat]'(by lia),nS _⟩
      obtain⟨xs',y',D',ha',hl',hy',C'⟩:=C.row hw0;rw[ha] at ha';cases ha';have ey:atI xs i=some y':=by rw[show i=((i.toNat:Nat):Int) by lia];exact yJ hy'
      exact iP hi (yN (SqL.of ha) ey ⟨rfl,y',⟨rfl,_,rfl⟩,_,_,C'⟩)
     ·exact iN hi bad
   | _=>exact iN (by simp only[tyT];decide+kernel) ⟨_,hty,iN (by simp only[tyT];decide+kernel) bad⟩
  ·rintro σ H' ⟨rfl,y,s,D,o,rfl,C⟩
   have z1:=C.sz;have hI1:=hI.f;have hI2:=hI.d;have hI3:=hI.z;have hokl:=hI.s kl (nG _ mK);walk_at "rd3";have el:atI ((ks0++ [kl]).map kV) (-1)=some (kV kl):=by
    rw[mP];exact qW _ _
   refine qG (hl0 g13) (yJ (j:=0) rfl) (qG (hl0 g13) (yJ (j:=1) rfl) (yN (SqL.of (g13 _ _ hpd)) el ?_));refine⟨H,y,vn,wd,kl,s,u,D,m,rfl,hI.w,g13,C.sp,C.new,C.few,hm0,hm,hokl,Rep.same g13 _ _ hvn,hI1,hI2,hI3,by lia,fun b H4 s' hk hr' hg l hl=>?_⟩;obtain⟨t',ht1,ht2⟩:=C.cls H4 s' hr' hk hg;have s5:=zC hl (.lst [V.bl b,x]);exact q l b x t' _ ((hk.old g13 C.new).trans s5) zB (Rep.same (zKy s5) _ _ ht1) ht2
abbrev sWk:Stmt:=top 32
def zSi(K:W.Frag):Sp:=fun vs H Q _=>∃(a:Addr)(ns:List Int)(k:Int)(v:V)(t:T),vs= [.ref a, .int k,v]∧SqL K H a (ns.map V.int)∧ns.length≤63∧0≤k∧k<100000∧Rep H v t∧T.few t∧∀(l p:Addr)(ks:List Key)(x:V)(s:T)(H':Hp),Same H H'→H' l=some (.lst [.ref p,x])→H' p=some (.lst (ks.map kV))→ks.length≤7→(∀k∈ks,okS k)→Rep H x s→T.few s→Q (.ref l) H'
theorem scWk:yE ["_law_script","_law_k","_law_thing","_law_path","_law_j","_law_more","_law_step"] ["_law_script","_law_k","_law_thing"] (zJ sWk):=by walk_at "sc"
theorem ok_wk(F:Fun K "_law_walk" "_law_walk" sWk f fd)(B:Bl2 mg)(G_law_cell:Dn P w K mg base 1 "_law_cell" ["_law_script","_law_k"] (vD K)):FnOk P w K mg base CX0 2 f fd ["_law_script","_law_k","_law_thing"] (zSi K):=by
 refine F.ok scWk (by walk_at "ln") fun c A o s H vs Q E hr h=>?_;obtain⟨a,ns,k,v,t,rfl,ha,hns,hk0,hk1,hv,hf,q⟩:=h;have nd:=scWk.nd;have hu:=wC hr;refine⟨_,(zF (pS 3 nd (zX zD))
  (zF (wT PassesOwn.never rfl (xJ rfl B.range (zA zE zD)) (yF (i:=4) nd rfl (nH rfl)) (zF (pS 5 nd (zT G_law_cell hr (by lia) rfl (zA (pv 0) (zA (zH yR (pv 1) (pv 4)) zD))))
  (zF (zS (PW.pt (uR (zP yX (zH zU (pv 5) zE) zE (zN _)) (uR (vS (zY (zM (qX (T:="list") (U:="dict") (by decide) (by decide)) rfl B.isinstance zI (zA (pv 2) (zA (wM (zA (xU (v:=.ty "list") rfl B.list xB rfl) (zA (xU (v:=.ty "dict") rfl B.dict yP rfl) zD))) zD))))) (zAs (zP yX (zM kN rfl B.len yO (zA (pv 2) zD)) zE (zN _)))))) (zG (zK (zX (zA (pv 3) (zA (pv 2) zD))))) zL)
  (zF (pS 6 nd (zM (qA rfl) rfl B.min zAn (zA zE (zA (zH zU (zH zW (pv 5) zE) (zM kN rfl B.len yO (zA (pv 2) zD))) zD))))
  (zF (zS (zY (pI B.isinstance zI B.dict yP (pv 2))) (zG (pS 6 nd (yI yA (zM (yY rfl) rfl B.sorted wH (zA (pv 2) zD)) (pv 6) (fun _ _=>rfl)))) zL)
  (zF (wZ (vY nQ pM rA qB (pv 3) (zA (pv 6) zD)))
  (zG (pS 2 nd (zLf (yI yA (pv 2) (pv 6) (fun _ _=>rfl)) (xL hu (pv 2) (pv 6) (fun _ _=>rfl)))))))))))
  (zG (zK (zX (zA (pv 3) (zA (pv 2) zD))))))), ?_⟩
 walk_at "st";walk_at "rd3";intro p hp;have s1:=zC hp (.lst []);refine wN (fun i σ H'=>∃(y:V)(s:T)(ks:List Key)(o1 o2 o3:Option V),σ= [some (V.ref a),some (V.int k),some y,some (V.ref p),o1,o2,o3]∧Same H H'∧Rep H y s∧T.few s∧H' p=some (.lst (ks.map kV))∧ks.length=i∧(∀k∈ks,okS k)) ⟨_,t,[],_,_,_,rfl,s1,hv,hf,zB,rfl,fun _ h=>nomatch h⟩ ?_ ?_
 ·rintro i σ H2 hi ⟨y,s,ks,o1,o2,o3,rfl,g2,hy,hfs,hp2,hl,hok⟩
  walk_at "rd3";obtain⟨c,hc,hc0,hc1⟩:∃c:Int,wX ns (k+(0+(i:Int)))=c∧0≤c∧c<1000003:=⟨_,rfl,wG _ _,wO _ _⟩;refine⟨a,ns,_,rfl,g2.seq ha,hns,by lia,by lia,fun H3 g3=>⟨c,by rw[hc], ?_⟩⟩;rw[hc];have g4:=g2.trans g3;have ret:∀{H':Hp},Same H3 H'→∀l,H' l=none→Q (V.ref l) (upd H' l (.lst [V.ref p,y])):=fun {H'} g l hl2=>by
   have s3:=zC hl2 (.lst [V.ref p,y]);exact q l p ks y s _ (g4.trans (g.trans s3)) zB (s3 _ _ (g _ _ (g3 _ _ hp2))) (by lia) hok hy hfs
  by_cases h5:c % 5=0
  ·exact iP h5 (ret (Same.refl _))
  refine iN h5 fun p1 hp1=>?_;have s5:=zC hp1 (.tup [V.ty "list",V.ty "dict"]);refine⟨y,_,p1,⟨rfl,rfl⟩,zB,(Rep.same (g4.trans s5) _ _ hy).ty, ?_⟩;have hp5:=s5 _ _ (g3 _ _ hp2);have ret5:=ret s5;have g5:=g4.trans s5;generalize upd H3 p1 (.tup [V.ty "list",V.ty "dict"])=H5 at s5 ret5 hp5 g5⊢;have hnp:H p=none:=hp
  cases s with
  | lst us=>
   refine iN (by simp only[tyT];decide+kernel) ?_;have hyo:=hy;obtain⟨b,xs,rfl,hb,hx⟩:=hy;have hxl:=hx.length;refine⟨b,rfl,xs.length, .inl ⟨xs,SqL.of (g5 _ _ hb),rfl⟩, ?_⟩
   by_cases h0:(xs.length:Int)=0
   ·exact iP h0 ret5
   refine iN h0 ⟨c,rfl,b,rfl,xs.length, .inl ⟨xs,SqL.of (g5 _ _ hb),rfl⟩,by lia,_,_,⟨rfl,rfl⟩,_,(Rep.same g5 _ _ hyo).ty,iN (by simp only[tyT];decide+kernel) ?_⟩;have e1:=pO (c / 5) h0;have e2:=pH (c / 5) (show(0:Int)<xs.length by lia);obtain⟨j,hj,hj1,hj2⟩:∃j:Nat,(if c / 5 % (xs.length:Int)<59 then c / 5 % (xs.length:Int) else 59)=(j:Int)∧j<xs.length∧j≤59:=⟨(if c / 5 % (xs.length:Int)<59 then c / 5 % (xs.length:Int) else 59).toNat,by split<;>lia,by split<;>lia,by split<;>lia⟩;rw[hj];obtain⟨t',ht',hr'⟩:=hx.get (i:=j) (v:=xs[j]) (by simp[hj1]);refine⟨.inl ⟨rfl,_,SqL.of hp5⟩,p,_,_,rfl,rfl,hp5,by rw[mB,mQ];lia, .inl ?_⟩;have g6:Same H (upd H5 p (.lst (ks.map kV++ [V.int (j:Int)]))):=wP g5 hnp;walk_at "rd3";refine yN (SqL.of (g6 _ _ hb)) (yJ (j:=j) (v:=xs[j]) (by simp[hj1])) ⟨xs[j],⟨rfl,_,rfl⟩,g6,t',hr',T.fews_mem hfs.2 (mF ht'),ks++ [.inl (j:Int)], ?_,by rw[mO,mM,hl], ?_⟩
   ·rw[zB];exact congrArg (fun z=>some (HO.lst z)) (zCt ks (.inl (j:Int)))
   ·intro k' hk'
    rcases nD.mp hk' with z | z
    ·exact hok _ z
    ·rw[nM.mp z];exact⟨by lia,by lia⟩
  | dic hs us=>
   refine iN (by simp only[tyT];decide+kernel) ?_;have hyo:=hy;obtain⟨b,ps,rfl,hb,hkk,hx⟩:=hy;have hpl:ps.length=hs.length:=by have:=congrArg List.length hkk;simpa using this
   refine⟨b,rfl,ps.length, .inr ⟨ps,g5 _ _ hb,rfl⟩, ?_⟩
   by_cases h0:(ps.length:Int)=0
   ·exact iP h0 ret5
   refine iN h0 ⟨c,rfl,b,rfl,ps.length, .inr ⟨ps,g5 _ _ hb,rfl⟩,by lia,_,_,⟨rfl,rfl⟩,_,(Rep.same g5 _ _ hyo).ty,iP (by simp only[tyT];decide+kernel) ?_⟩;have e1:=pO (c / 5) h0;have e2:=pH (c / 5) (show(0:Int)<ps.length by lia);obtain⟨j,hj,hj1⟩:∃j:Int,(if c / 5 % (ps.length:Int)<59 then c / 5 % (ps.length:Int) else 59)=j∧0≤j∧j<ps.length:=⟨_,rfl,by split<;>lia,by split<;>lia⟩;rw[hj];refine⟨b,rfl,ps, .inl (g5 _ _ hb),hs.map tx,by rw[hkk,pC];rfl,by rw[mB];exact hfs.2.1,fun l ss hl1 hp1 hs1=>?_⟩;have s6:=zC hl1 (.lst (ss.map V.str));have hsl:=hp1.length_eq;rw[mB] at hsl;refine wF zB hj1.1 (by rw[mB,hsl];lia) fun x hx'=>?_;obtain⟨z,hz,rfl⟩:=nL.mp hx';obtain⟨kk,hkm,rfl⟩:=nL.mp (hp1.mem_iff.mp hz);have hp6:=s6 _ _ hp5;have g6:=g5.trans s6;generalize upd H5 l (.lst (ss.map V.str))=H6 at hp6 g6⊢;refine⟨.inl ⟨rfl,_,SqL.of hp6⟩,p,_,_,rfl,rfl,hp6,by rw[mB,mQ];lia, .inr ?_⟩;have g7:Same H (upd H6 p (.lst (ks.map kV++ [V.str (tx kk)]))):=wP g6 hnp;obtain⟨y',hy1,hy2⟩:=kS hfs.1 hkk hx hb hkm;unfold gN;walk_at "rd3";refine⟨y',hy1 _ g7,y',⟨rfl,_,rfl⟩,g7,_,hy2,T.fews_mem hfs.2.2.2 (xP hkm hfs.2.2.1),ks++ [nK kk], ?_,by rw[mO,mM,hl], ?_⟩
   ·rw[zB];exact congrArg (fun z=>some (HO.lst z)) (zCt ks (nK kk))
   ·intro k' hk'
    rcases nD.mp hk' with z | z
    ·exact hok _ z
    ·rw[nM.mp z];exact mC
  | tup us=>exact hfs.elim
  | _=>exact iP (by simp only[tyT];decide+kernel) ret5
 ·rintro σ H2 ⟨y,s,ks,o1,o2,o3,rfl,g2,hy,hfs,hp2,hl,hok⟩
  walk_at "rd3";intro l hl2;have s3:=zC hl2 (.lst [V.ref p,y]);exact q l p ks y s _ (g2.trans s3) zB (s3 _ _ hp2) (by lia) hok hy hfs
end
abbrev sDe:Stmt:=top 34
mutual
theorem Nice.fewm{d:Nat}:∀(t:T),Nice d t→T.fewm 30 t
 | .lst us,h=>⟨by have:=h.2.1;lia,NiceL.fewm us h.2.2⟩
 | .dic ks us,h=>⟨h.2.2.2.1,by have:=h.2.1;have:=h.2.2.1;lia,h.2.2.1,NiceL.fewm us h.2.2.2.2.2⟩
 | .tup _,h=>h.elim
 | .non,_=>mC
 | .bl _,_=>mC
 | .int _,_=>mC
 | .str _,_=>mC
theorem NiceL.fewm{d:Nat}:∀(us:List T),NiceL d us→T.fewms 30 us
 | [],_=>mC
 | t::us,h=>⟨Nice.fewm t h.1,NiceL.fewm us h.2⟩
end
def kT:Key→T
 | .inl i=>.int i
 | .inr s=>.str (ts s)
theorem zTl{H:Hp}(k:Key):Rep H (kV k) (kT k):=by
 cases k with
 | inl i=>exact rfl
 | inr s=>show V.str s=V.str (tx (ts s));rw[jW]
theorem zJm{H:Hp}:∀ks:List Key,Reps H (ks.map kV) (ks.map kT)
 | []=>rfl
 | k::ks=>⟨kV k,_,rfl,zTl k,zJm ks⟩
theorem zJu:∀ks:List Key,T.fewms 30 (ks.map kT)∧T.deps (ks.map kT)=0∧T.szs (ks.map kT)=ks.length
 | []=>⟨mC,rfl,rfl⟩
 | k::ks=>by
  obtain⟨h1,h2,h3⟩:=zJu ks;have e:T.fewm 30 (kT k)∧T.dep (kT k)=0∧T.sz (kT k)=1:=by cases k<;>exact⟨mC,rfl,rfl⟩
  refine⟨⟨e.1,h1⟩, ?_, ?_⟩
  ·show max (T.dep (kT k)) (T.deps (ks.map kT))=0
   rw[e.2.1,h2];rfl
  ·show T.sz (kT k)+T.szs (ks.map kT)=ks.length+1
   rw[e.2.2,h3];lia
section
variable{P:Program}{w:World}{K:W.Frag}{mg:Str→Option Value}{base:Heap}{f:Addr}{fd:FuncData}
def zSv(K:W.Frag):Sp:=fun vs H Q _=>∃(a:Addr)(ns:List Int)(k:Int)(v:V)(t:T),vs= [.ref a, .int k,v]∧SqL K H a (ns.map V.int)∧ns.length≤63∧0≤k∧k<10000∧Rep H v t∧T.few t∧∀(d:Addr)(wd:Str)(ks:List Key)(u:T)(H':Hp),Same H H'→DeedR H' d wd ks u→zRw wd ks u→Q (.ref d) H'
theorem scDe:yE ["_law_script","_law_k","_law_thing","_law_pair_here","_law_path","_law_there","_law_more","_law_word"] ["_law_script","_law_k","_law_thing"] (zJ sDe):=by walk_at "sc"
theorem ok_de{kk:Nat}(F:Fun K "_law_deed" "_law_deed" sDe f fd)(B:Bl2 mg)(G_law_cell:Dn P w K mg base kk "_law_cell" ["_law_script","_law_k"] (vD K))(G_law_walk:Dn P w K mg base kk "_law_walk" ["_law_script","_law_k","_law_thing"] (zSi K))(G_law_step_at:Dn P w K mg base kk "_law_step_at" ["_law_there","_law_more"] zRn)(G_law_thing_by:Dn P w K mg base kk "_law_thing_by" ["_law_script","_law_k","_law_deep"] (jL K 3)):FnOk P w K mg base CX0 (kk+1) f fd ["_law_script","_law_k","_law_thing"] (zSv K):=by
 refine F.ok scDe (by walk_at "ln") fun c A o s H vs Q E hr h=>?_;obtain⟨a,ns,k,v,t,rfl,ha,hns,hk0,hk1,hv,hf,q⟩:=h;have nd:=scDe.nd;have hu:=wC hr;have hu0:=hr.units0;refine⟨_,(zF (pS 3 nd (zT G_law_walk hr (by lia) rfl (zA (pv 0) (zA (pv 1) (zA (pv 2) zD)))))
  (zF (pS 4 nd (yI yA (pv 3) zE (fun _ _=>rfl)))
  (zF (pS 5 nd (yI yA (pv 3) zE (fun _ _=>rfl)))
  (zF (pS 6 nd (zT G_law_cell hr (by lia) rfl (zA (pv 0) (zA (zH yR (pv 1) zE) zD))))
  (zF (pS 7 nd (yI yA (zX (zA zV (zA zV (zA zV (zA zV zD))))) (zH zU (pv 6) zE) (fun _ _=>rfl)))
  (zF (wY (zS (PW.pt (uR (zY (zM (qX (T:="list") (U:="dict") (by decide) (by decide)) rfl B.isinstance zI (zA (pv 5) (zA (wM (zA (xU (v:=.ty "list") rfl B.list xB rfl) (zA (xU (v:=.ty "dict") rfl B.dict yP rfl) zD))) zD)))) (uR (zP (zBg hu0) (pv 4) (zX zD) (zN _)) (zAs (zP yX (zH zU (zH zW (pv 6) zE) zE) zE (zN _)))))) (zG (pS 4 nd (zH vT (pv 4) (zX (zA (zT G_law_step_at hr (by lia) rfl (zA (pv 5) (zA (zT G_law_cell hr (by lia) rfl (zA (pv 0) (zA (zH yR (pv 1) zE) zD))) zD))) zD))))) zL))
  (zF (wY (zS (PW.pt (xO (zP yX (pv 7) zV (zN _)) (xO (zY (pI B.isinstance zI B.str qN (yI yA (pv 4) (vC xZ zE) (fun _ _=>rfl)))) (xT (zP qU (zH zU (zH zW (pv 6) zE) zE) zE (zN _)))))) (zG (pS 7 nd zV)) zL))
  (zF (wY (zS (zP yX (zH zU (zH zW (pv 6) zE) zE) zE (zN _)) (zG (pS 4 nd (zH vT (xR vJ (pv 4) wD (xG (vC xZ zE))) (zX (zA (yI yA (zX (zA zV (zA zE (zA zV (zA zE zD))))) (zH zU (zH zW (pv 6) zE) zE) (fun _ _=>rfl)) zD))))) zL))
  (zF (wY (zS (zP yX (zH zU (zH zW (pv 6) zE) zE) zE (zN _)) (zG (pS 4 nd (zX zD))) zL))
  (zF (zS (zP yX (pv 7) zV (zN _)) (zG (zK (wM (zA (pv 7) (zA (pv 4) zD))))) zL)
  (zG (zK (wM (zA (pv 7) (zA (pv 4) (zA (zT G_law_thing_by hr (by lia) rfl (zA (pv 0) (zA (zH yR (pv 1) zE) (zA (zH zU (zH zW (pv 6) zE) zE) zD)))) zD)))))))))))))))), ?_⟩
 walk_at "st";walk_at "rd3";unfold zOb;walk_at "rd3";refine⟨a,ns,k,v,t,rfl,ha,hns,hk0,by lia,hv,hf,fun l p0 ks0 x s H1 g1 hl1 hp1 hlen hok0 hx hfx=>?_⟩;refine yN (SqL.of hl1) (yJ (j:=0) rfl) (yN (SqL.of hl1) (yJ (j:=1) rfl) ?_);obtain⟨c,hc,hc0,hc1⟩:∃c:Int,wX ns (k+8)=c∧0≤c∧c<1000003:=⟨_,rfl,wG _ _,wO _ _⟩;refine⟨a,ns,_,rfl,g1.seq ha,hns,by lia,by lia,fun H2 g2 pw hpw=>⟨c,by rw[hc], ?_⟩⟩;rw[hc];refine wF zB (by lia) (by show _<((4:Nat):Int);lia) fun wv hwv=>?_;obtain⟨wd,rfl,hwd⟩:∃wd,wv=V.str wd∧(wd=zHl∨wd=zHt∨wd=zAw):=by
  simp only[mG,nO,pN] at hwv;rcases hwv with rfl | rfl | rfl | rfl
  ·exact⟨_,rfl, .inl rfl⟩
  ·exact⟨_,rfl, .inl rfl⟩
  ·exact⟨_,rfl, .inr (.inl rfl)⟩
  ·exact⟨_,rfl, .inr (.inr rfl)⟩
 have g3:=g2.trans (zC hpw (.lst [V.str (Str.ofString "put"),V.str (Str.ofString "put"),V.str (Str.ofString "insert"),V.str (Str.ofString "take")]));generalize upd H2 pw (.lst [V.str (Str.ofString "put"),V.str (Str.ofString "put"),V.str (Str.ofString "insert"),V.str (Str.ofString "take")])=H3 at g3⊢;have gH3:=g1.trans g3;refine⟨fun σ' H'=>∃(pd:Addr)(ks:List Key)(wd:Str),σ'= [some (V.ref a),some (V.int k),some v,some (V.ref l),some (V.ref pd),some x,some (V.int c),some (V.str wd)]∧Same H H'∧H' pd=some (.lst (ks.map kV))∧ks.length≤8∧(∀k∈ks,okS k)∧ks≠ []∧(wd=zHl∨wd=zHt∨wd=zAw), ?_, ?_⟩
 ·intro p hp
  have s4:=zC hp (.tup [V.ty "list",V.ty "dict"]);refine⟨x,_,p,⟨rfl,rfl⟩,zB,(Rep.same (gH3.trans s4) _ _ hx).ty, ?_⟩;generalize upd H3 p (.tup [V.ty "list",V.ty "dict"])=H4 at s4⊢;have gH4:=gH3.trans s4;have ext:∀H5,Same H4 H5→vD K [V.ref a,V.int (k+9)] H5 (fun x_6 H1=>zRn [x,x_6] H1 (fun x_7 H1=>∀(p:Addr),H1 p=none→rCat (V.ref p0) (V.ref p) (upd H1 p (HO.lst [x_7])) fun x_8 H1=>∃(pd:Addr)(ks:List Key)(wd':Str),[some (V.ref a),some (V.int k),some v,some (V.ref l),some x_8,some x,some (V.int c),some (V.str wd)]= [some (V.ref a),some (V.int k),some v,some (V.ref l),some (V.ref pd),some x,some (V.int c),some (V.str wd')]∧Same H H1∧H1 pd=some (.lst (ks.map kV))∧ks.length≤8∧(∀k∈ks,okS k)∧ks≠ []∧(wd'=zHl∨wd'=zHt∨wd'=zAw)) E0) E0:=fun H5 g5=>by
   have gH5:=gH4.trans g5;have c0:=wG ns (k+9);have c1:=wO ns (k+9);refine⟨a,ns,_,rfl,gH5.seq ha,hns,by lia,by lia,fun H6 g6=>⟨x,s,_,rfl,Rep.same (gH5.trans g6) _ _ hx,hfx,c0,by lia,fun kk H7 g7 hkk p7 hp7=>?_⟩⟩;have g17:=(g3.trans (s4.trans (g5.trans (g6.trans g7))));have s8:=zC hp7 (.lst [kV kk]);refine⟨p0,p7,_,_,rfl,rfl,s8 _ _ (g17 _ _ hp1),zB,by rw[mB,mM,mQ];lia,fun pd hpd=>?_⟩;have s9:=zC hpd (.lst (ks0.map kV++ [kV kk]));refine⟨pd,ks0++ [kk],wd,rfl,g1.trans (g17.trans (s8.trans s9)), ?_,by rw[mO,mM];lia,fun k' hk'=>?_,by simp,hwd⟩
   ·rw[zB];exact congrArg (fun z=>some (HO.lst z)) (zCt ks0 kk)
   ·rcases nD.mp hk' with z | z
    ·exact hok0 _ z
    ·rw[nM.mp z];exact hkk
  by_cases hh:(zO (tyT s) "list" || zO (tyT s) "dict")=true
  ·exact iP hh (ext _ (Same.refl _))
  refine iN hh fun p2 hp2=>?_;have s5:=zC hp2 (.lst []);refine⟨p0,p2,_,rfl,rfl,SqL.of ((g3.trans (s4.trans s5)) _ _ hp1),SqL.of zB,_,rfl, ?_⟩
  by_cases h0:ks0= []
  ·exact iP (by rw[h0];rfl) (ext _ s5)
  refine iN (by cases ks0 with | nil=>exact absurd rfl h0 | cons _ _=>simp) ⟨c,rfl, ?_⟩
  by_cases h9:c / 4 % 9=1
  ·exact iP h9 (ext _ s5)
  ·exact iN h9 ⟨p0,ks0,wd,rfl,gH4.trans s5,(g3.trans (s4.trans s5)) _ _ hp1,by lia,hok0,h0,hwd⟩
 ·rintro σ4 H4 ⟨pd,ks,wd,rfl,gH4,hpd,hlen,hok,hne,hwd⟩
  walk_at "rd3";refine⟨fun σ' H'=>∃(pd:Addr)(ks:List Key)(wd:Str),σ'= [some (V.ref a),some (V.int k),some v,some (V.ref l),some (V.ref pd),some x,some (V.int c),some (V.str wd)]∧Same H H'∧H' pd=some (.lst (ks.map kV))∧ks.length≤8∧(∀k∈ks,okS k)∧ks≠ []∧(wd=zHl∨wd=zHt∨wd=zAw), ?_, ?_⟩
  ·have same0:∀{wd':Str},(wd'=zHl∨wd'=zHt∨wd'=zAw)→∃(pd':Addr)(ks:List Key)(wd'':Str),[some (V.ref a),some (V.int k),some v,some (V.ref l),some (V.ref pd),some x,some (V.int c),some (V.str wd')]= [some (V.ref a),some (V.int k),some v,some (V.ref l),some (V.ref pd'),some x,some (V.int c),some (V.str wd'')]∧Same H H4∧H4 pd'=some (.lst (ks.map kV))∧ks.length≤8∧(∀k∈ks,okS k)∧ks≠ []∧(wd''=zHl∨wd''=zHt∨wd''=zAw):=fun h=>⟨pd,ks,_,rfl,gH4,hpd,hlen,hok,hne,h⟩
   by_cases hi:wd=Str.ofString "insert"
   ·refine iP hi ?_
    obtain⟨ks0,kl,rfl⟩:∃ks0 kl,ks=ks0++ [kl]:=⟨ks.dropLast,ks.getLast hne,(sU hne).symm⟩;refine yN (SqL.of hpd) (v:=kV kl) (by rw[mP];exact qW _ _) ?_
    cases kl with
    | inl i=>exact⟨"int",rfl,iN (by decide) (same0 hwd)⟩
    | inr z=>
     refine⟨"str",rfl,iP (by decide) ?_⟩
     by_cases h5:0<c / 36 % 5
     ·exact iP h5 (same0 (.inl rfl))
     ·exact iN h5 (same0 hwd)
   ·exact iN hi (same0 hwd)
  ·rintro σ5 H5 ⟨pd,ks,wd,rfl,gH5,hpd,hlen,hok,hne,hwd⟩
   walk_at "rd3";refine⟨fun σ' H'=>∃(pd:Addr)(ks:List Key),σ'= [some (V.ref a),some (V.int k),some v,some (V.ref l),some (V.ref pd),some x,some (V.int c),some (V.str wd)]∧Same H H'∧H' pd=some (.lst (ks.map kV))∧ks.length≤8∧(∀k∈ks,okS k), ?_, ?_⟩
   ·by_cases h17:c / 180 % 17=1
    ·refine iP h17 ⟨pd,_,rfl,SqL.of hpd,fun pc hpc=>?_⟩
     obtain⟨ks0,kl,rfl⟩:∃ks0 kl,ks=ks0++ [kl]:=⟨ks.dropLast,ks.getLast hne,(sU hne).symm⟩;have ek:List.take (((ks0++ [kl]).map kV).length - 1) ((ks0++ [kl]).map kV)=ks0.map kV:=by
      rw[mP,mO,mB];exact List.take_left' (by simp)
     rw[zCg,ek];have s6:=zC hpc (.lst (ks0.map kV));have e6:=zB (H:=H5) (a:=pc) (o:=.lst (ks0.map kV));generalize upd H5 pc (.lst (ks0.map kV))=H6 at s6 e6⊢;intro p7 hp7;have s7:=zC hp7 (.lst [V.str (Str.ofString "a"),V.int 59,V.str (Str.ofString "zz9"),V.int 0]);refine wF zB (by lia) (by show _<((4:Nat):Int);lia) fun wv hwv p8 hp8=>?_;obtain⟨kk,rfl,hkk⟩:∃kk,wv=kV kk∧okS kk:=by
      simp only[mG,nO,pN] at hwv;rcases hwv with rfl | rfl | rfl | rfl
      ·exact⟨.inr _,rfl,mC⟩
      ·exact⟨.inl 59,rfl,by show(0:Int)≤59∧(59:Int)≤59;decide⟩
      ·exact⟨.inr _,rfl,mC⟩
      ·exact⟨.inl 0,rfl,by show(0:Int)≤0∧(0:Int)≤59;decide⟩
     generalize upd H6 p7 (.lst [V.str (Str.ofString "a"),V.int 59,V.str (Str.ofString "zz9"),V.int 0])=H7 at s7 hp8⊢;have s8:=zC hp8 (.lst [kV kk]);rw[mO,mM] at hlen;refine⟨pc,p8,_,_,rfl,rfl,s8 _ _ (s7 _ _ e6),zB,by rw[mB,mM,mQ];lia,fun pe hpe=>?_⟩;have s9:=zC hpe (.lst (ks0.map kV++ [kV kk]));refine⟨pe,ks0++ [kk],rfl,gH5.trans (s6.trans (s7.trans (s8.trans s9))), ?_,by rw[mO,mM];lia,fun k' hk'=>?_⟩
     ·rw[zB];exact congrArg (fun z=>some (HO.lst z)) (zCt ks0 kk)
     ·rcases nD.mp hk' with z | z
      ·exact hok _ (pF _ z)
      ·rw[nM.mp z];exact hkk
    ·exact iN h17 ⟨pd,ks,rfl,gH5,hpd,hlen,hok⟩
   ·clear hpd hlen hok hne gH5 H5 ks pd
    rintro σ5 H5 ⟨pd,ks,rfl,gH5,hpd,hlen,hok⟩;walk_at "rd3";refine⟨fun σ' H'=>∃(pd:Addr)(ks:List Key),σ'= [some (V.ref a),some (V.int k),some v,some (V.ref l),some (V.ref pd),some x,some (V.int c),some (V.str wd)]∧Same H H'∧H' pd=some (.lst (ks.map kV))∧ks.length≤8∧(∀k∈ks,okS k), ?_, ?_⟩
    ·by_cases h29:c / 180 % 29=2
     ·exact iP h29 fun p hp=>⟨p,[],rfl,gH5.trans (zC hp _),zB,by decide,fun _ h=>nomatch h⟩
     ·exact iN h29 ⟨pd,ks,rfl,gH5,hpd,hlen,hok⟩
    ·clear hpd hlen hok gH5 H5 ks pd
     rintro σ5 H5 ⟨pd,ks,rfl,gH5,hpd,hlen,hok⟩;walk_at "rd3"
     by_cases ht:wd=Str.ofString "take"
     ·refine iP ht fun d hd=>?_
      have s6:=zC hd (.tup [V.str wd,V.ref pd]);obtain⟨e1,e2,e3⟩:=zJu ks;refine q d wd ks (.lst (ks.map kT)) _ (gH5.trans s6) ⟨pd,[],V.ref pd,zB,s6 _ _ hpd,rfl,by decide,⟨pd,_,rfl,s6 _ _ hpd,zJm ks⟩⟩ ⟨hwd,by lia,hok,⟨by rw[mB];lia,e1⟩, ?_, ?_⟩
      ·show T.deps (ks.map kT)+1≤2
       lia
      ·show T.szs (ks.map kT)+1≤30
       lia
     ·obtain⟨dd,hdd,hd3⟩:∃dd:Nat,c / 7 % 3=(dd:Int)∧dd≤2:=⟨(c / 7 % 3).toNat,by lia,by lia⟩
      rw[hdd];have p5:(5:Int)^ dd≤25:=by
       rcases(show dd=0∨dd=1∨dd=2 by lia) with z | z | z<;>subst z<;>decide
      have p0:=zSs dd;refine iN ht ⟨dd,by lia,a,ns,_,rfl,gH5.seq ha,hns,by lia, ?_,fun x H6 u g6 hx hn d hd=>?_⟩
      ·have:=Int.mul_le_mul (show k+10+2≤10020 by lia) p5 (by lia) (by decide)
       lia
      ·have s6:=g6.trans (zC hd (.tup [V.str wd,V.ref pd,x]))
       have z1:=Nice.sz u hn;have z2:=Nice.dep u hn;have p25:5 ^ dd≤25:=by
        rcases(show dd=0∨dd=1∨dd=2 by lia) with z | z | z<;>subst z<;>decide
       exact q d wd ks u _ (gH5.trans s6) ⟨pd,[x],x,zB,s6 _ _ hpd,rfl,mE _,Rep.same (zC hd _) _ _ hx⟩ ⟨hwd,by lia,hok,Nice.fewm u hn,by lia,by lia⟩
abbrev sDs:Stmt:=top 35
theorem zJc{H H':Hp}{d:Addr}{o:Obj}{xs:List V}(hd:H d=some (.lst xs))(g:Same (upd H d (.frz o (.lst xs))) H'):Same H (L2.thaw H H'):=uW fun b u e=>by
 by_cases hb:b=d
 ·subst hb
  rw[hd] at e;cases e;exact .inr ⟨⟨o,g _ _ zB⟩,fun _ _ z=>by cases z⟩
 ·exact .inl (g _ _ (by rw[zR hb];exact e))
theorem DeedR.off{H H':Hp}{p d:Addr}{o:Obj}{w:HO}{wd:Str}{ks:List Key}{u:T}(hp:H' p=some (.frz o w))(h:DeedR H' d wd ks u):DeedR (wL (L2.thaw H H') p) d wd ks u:=by
 obtain⟨pd,r,vn,h1,h2,h3,h4,h5⟩:=h;refine⟨pd,r,vn, ?_, ?_,h3,h4,Rep.off hp h5⟩
 ·rw[xA fun z=>by rw[z,hp] at h1;cases h1]
  exact xE h1 fun _ _ z=>by cases z
 ·rw[xA fun z=>by rw[z,hp] at h2;cases h2]
  exact xE h2 fun _ _ z=>by cases z
theorem DeedR.same{H H':Hp}{d:Addr}{wd:Str}{ks:List Key}{u:T}(g:Same H H')(h:DeedR H d wd ks u):DeedR H' d wd ks u:=by
 obtain⟨pd,r,vn,h1,h2,h3,h4,h5⟩:=h;exact⟨pd,r,vn,g _ _ h1,g _ _ h2,h3,h4,Rep.same g _ _ h5⟩
def zSg(K:W.Frag):Sp:=fun vs H Q _=>∃(a:Addr)(ns:List Int)(k:Int)(v:V)(n:Int)(t:T),vs= [.ref a, .int k,v, .int n]∧SqL K H a (ns.map V.int)∧ns.length≤63∧0≤k∧k<1000∧0≤n∧n≤5∧Rep H v t∧T.fewm 30 t∧T.dep t≤9∧T.sz t≤300∧∀(l pp pr:Addr)(o:V)(rs:List V)(x:V)(t':T)(H':Hp),Same H H'→H' l=some (.lst [.ref pp, .ref pr,o])→H' pr=some (.lst (rs++ [x]))→Rep H' x t'→T.fewm 35 t'→T.dep t'≤19→T.sz t'≤450→Q (.ref l) H'
theorem scDs:yE ["_law_script","_law_k","_law_thing","_law_many","_law_paper","_law_rows","_law_stopped","_law_j","_law_pair_here"] ["_law_script","_law_k","_law_thing","_law_many"] (zJ sDs):=by walk_at "sc"
theorem ok_ds{kk:Nat}(F:Fun K "_law_deeds" "_law_deeds" sDs f fd)(B:Bl2 mg)(G_law_held:Dn P w K mg base kk "_law_held" ["_law_thing"] (zAr 20))(G_law_deed:Dn P w K mg base kk "_law_deed" ["_law_script","_law_k","_law_thing"] (zSv K))(G_law_deed_on:Dn P w K mg base kk "_law_deed_on" ["_law_thing","_law_deed_here"] zSw):FnOk P w K mg base CX0 (kk+1) f fd ["_law_script","_law_k","_law_thing","_law_many"] (zSg K):=by
 refine F.ok scDs (by walk_at "ln") fun c A o s H vs Q E hr h=>?_;obtain⟨a,ns,k,v,n,t,rfl,ha,hns,hk0,hk1,hn0,hn5,hv,hf,hd,hz,q⟩:=h;have nd:=scDs.nd;have hu:=wC hr;have hu0:=hr.units0;refine⟨_,(zF (pS 4 nd (zX zD))
  (zF (pS 5 nd (zX (zA (zT G_law_held hr (by lia) rfl (zA (pv 2) zD)) zD)))
  (zF (pS 6 nd qI)
  (zF (wT PassesOwn.never rfl (xJ rfl B.range (zA (pv 3) zD)) (yF (i:=7) nd rfl (nH rfl)) (zF (wZ (vY nQ pM rA qB (pv 4) (zA (uE (zT G_law_deed hr (by lia) rfl (zA (pv 0) (zA (zH yR (pv 1) (zH vR zE (pv 7))) (zA (yI yA (pv 5) (vC xZ zE) (fun _ _=>rfl)) zD))))) zD)))
  (zG (zS (jC (zFx (pv 6))) (zF (pS 8 nd (zT G_law_deed_on hr (by lia) rfl (zA (yI yA (pv 5) (vC xZ zE) (fun _ _=>rfl)) (zA (yI yA (pv 4) (vC xZ zE) (fun _ _=>rfl)) zD))))
  (zG (zS (zY (yI yA (pv 8) zE (fun _ _=>rfl))) (zG (wZ (vY nQ pM rA qB (pv 5) (zA (yI yA (pv 8) zE (fun _ _=>rfl)) zD)))) (zG (pS 6 nd (pv 7)))))) zL))))
  (zG (zK (zX (zA (pv 4) (zA (pv 5) (zA (pv 6) zD)))))))))), ?_⟩
 walk_at "st";walk_at "rd3";intro pp hpp;have s1:=zC hpp (.lst []);have e1:=zB (H:=H) (a:=pp) (o:=.lst []);generalize upd H pp (.lst [])=H1 at s1 e1⊢;refine⟨v,t,rfl,Rep.same s1 _ _ hv,T.fewm_few (by decide) _ hf,by lia,fun x H2 D g2 sp hD pr hpr=>?_⟩;have s3:=zC hpr (.lst [x]);have e3:=zB (H:=H2) (a:=pr) (o:=.lst [x]);have hx3:Rep (wL (wL (upd H2 pr (.lst [x])) pp) pr) x t:=by
  refine Sp1.rep _ _ _ (Sp1.keep _ _ _ (fun b hb o _ e=>?_) (sp.same s3));rw[xA,xA]
  ·exact e
  ·intro z;subst z;rw[hD b hb] at e1;cases e1
  ·intro z;subst z
   obtain⟨o',ho'⟩:=Sp1.there _ _ _ sp hb;rw[hpr] at ho';cases ho'
 have npr:pr≠pp:=fun z=>by subst z;rw[g2 _ _ e1] at hpr;cases hpr
 have g03:=s1.trans (g2.trans s3);have hpp3:=s3 _ _ (g2 _ _ e1);have hpr0:=zZ (s1.trans g2) hpr;generalize upd H2 pr (.lst [x])=H3 at s3 e3 hx3 g03 hpp3⊢;refine⟨by lia,by lia, ?_⟩;have hin:n.toNat≤5:=by lia
 refine wN (fun i σ H'=>∃(ps rs:List V)(x:V)(t':T)(st:V)(o1 o2:Option V),σ= [some (V.ref a),some (V.int k),some v,some (V.int n),some (V.ref pp),some (V.ref pr),some st,o1,o2]∧(st= .non∨∃j:Int,st= .int j)∧Same H H'∧H' pp=some (.lst ps)∧H' pr=some (.lst (rs++ [x]))∧Rep (wL (wL H' pp) pr) x t'∧T.fewm (30+i) t'∧T.dep t'≤9+2*i∧T.sz t'≤300+30*i∧ps.length≤i∧rs.length≤i) ⟨[],[],x,t, .non,_,_,rfl, .inl rfl,g03,hpp3,e3,hx3,hf,by lia,by lia,mE _,mE _⟩ ?_ ?_
 ·rintro i σ H5 hi ⟨ps,rs,y,u,st,o1,o2,rfl,hst,g5,hp5,hr5,hy,hfu,hdu,hzu,hl1,hl2⟩
  walk_at "rd3";refine⟨.inl ⟨rfl,_,SqL.of hp5⟩, ?_⟩;unfold zGa zJo;refine⟨pp, .inr ⟨ps,hp5,fun o=>?_⟩⟩;have hsub:∀{w:HO},Same (wL (wL H5 pp) pr) (upd H5 pp w):=fun b u e=>by
   have e':=xQ _ _ e;exact uC _ _ e'
  have gf:Same H (upd H5 pp (.frz o (.lst ps))):=wP g5 hpp;have hrf:upd H5 pp (.frz o (.lst ps)) pr=some (.lst (rs++ [y])):=by rw[zR npr];exact hr5
  walk_at "rd3";refine yN (SqL.of hrf) (qW _ _) ⟨a,ns,_,y,u,rfl,gf.seq ha,hns,by lia,by lia,Rep.same hsub _ _ hy,T.fewm_few (by lia) _ hfu,fun d wd ks z Hc gc hdd hI=>?_⟩;have gt:=zJc hp5 gc;have hd6:DeedR (wL (L2.thaw H5 Hc) pp) d wd ks z:=DeedR.off (gc _ _ zB) hdd;dsimp only;generalize L2.thaw H5 Hc=H6 at gt hd6⊢;refine⟨pp,ps,_,rfl,rfl,gt _ _ hp5,by rw[mQ];lia, ?_⟩;have hy7:Rep (wL (wL (upd H6 pp (.lst (ps++ [V.ref d]))) pp) pr) y u:=by
   rw[qS];exact Rep.same (qT (qT gt)) _ _ hy
  have hd7:DeedR (upd H6 pp (.lst (ps++ [V.ref d]))) d wd ks z:=hd6.same uC;have g7:Same H (upd H6 pp (.lst (ps++ [V.ref d]))):=wP (g5.trans gt) hpp;have hp7:upd H6 pp (.lst (ps++ [V.ref d])) pp=_:=zB;have hr7:upd H6 pp (.lst (ps++ [V.ref d])) pr=some (.lst (rs++ [y])):=by rw[zR npr];exact gt _ _ hr5
  generalize upd H6 pp (.lst (ps++ [V.ref d]))=H7 at hy7 hd7 g7 hp7 hr7⊢;have hl3:(ps++ [V.ref d]).length≤i+1:=by rw[mO,mM];lia
  dsimp only;rcases hst with rfl |⟨j,rfl⟩
  ·refine iP rfl (yN (SqL.of hr7) (qW _ _) (yN (SqL.of hp7) (qW _ _) ?_))
   refine⟨y,d,wd,ks,u,z,30+i,rfl,Rep.same (fun b o e=>xQ _ _ (xQ _ _ e)) _ _ hy7,hfu,by lia,by lia,by lia,by lia,hd7,hI,fun l b x2 t2 H8 g8 hl8 hx8 hg8=>?_⟩;have g08:=g7.trans g8;refine yN (SqL.of hl8) (yJ (j:=0) rfl) ⟨b,rfl, ?_⟩
   cases b with
   | true=>
    refine iP rfl ⟨.inl ⟨rfl,_,SqL.of (g8 _ _ hr7)⟩,yN (SqL.of hl8) (yJ (j:=1) rfl) ⟨pr,_,_,rfl,rfl,g8 _ _ hr7,by rw[mQ,mO,mM];lia, ?_⟩⟩;refine⟨ps++ [V.ref d],rs++ [y],x2,t2, .non,⟨rfl,_,rfl⟩, .inl rfl,wP g08 hpr0,by rw[zR npr.symm];exact g8 _ _ hp7,zB,Rep.same (fun b o e=>?_) _ _ hx8,hg8.few, ?_, ?_,hl3,by rw[mO,mM];lia⟩
    ·have hb:=zGo e
     have n1:b≠pp:=fun z=>by subst z;rw[hb] at hp7;cases hp7
     have n2:b≠pr:=fun z=>by subst z;rw[hb] at hr7;cases hr7
     rw[xA n2,xA n1,zR n2];rw[xX hb] at e;exact e
    ·have:=hg8.dep
     lia
    ·have:=hg8.sz
     lia
   | false=>
    exact iN (by decide) ⟨ps++ [V.ref d],rs,y,u,_,⟨rfl,_,rfl⟩, .inr ⟨_,rfl⟩,g08,g8 _ _ hp7,g8 _ _ hr7,Rep.same (qT (qT g8)) _ _ hy7,T.fewm_mono (by lia) _ hfu,by lia,by lia,hl3,by lia⟩
  ·exact iN (by intro z;cases z) ⟨ps++ [V.ref d],rs,y,u,_,⟨rfl,_,rfl⟩, .inr ⟨j,rfl⟩,g7,hp7,hr7,hy7,T.fewm_mono (by lia) _ hfu,by lia,by lia,hl3,by lia⟩
 ·rintro σ H5 ⟨ps,rs,y,u,st,o1,o2,rfl,hst,g5,hp5,hr5,hy,hfu,hdu,hzu,hl1,hl2⟩
  walk_at "rd3";intro l hl;have s6:=zC hl (.lst [V.ref pp,V.ref pr,st]);exact q l pp pr st rs y u _ (g5.trans s6) zB (s6 _ _ hr5) (Rep.same (fun b o e=>s6 _ _ (xQ _ _ (xQ _ _ e))) _ _ hy) (T.fewm_mono (by lia) _ hfu) (by lia) (by lia)
abbrev sBa:Stmt:=top 31
structure zNk(t:T):Prop where
 f:T.fewm 30 t
 c:T.calm t
 d:T.dep t≤9
 z:T.sz t≤200
theorem zMb{d:Nat}{t:T}(hd:d≤3)(h:Nice d t):zNk t:=by
 have f:=kH d t (by lia) h;have z:=Nice.sz t h;have e:=Nice.dep t h;have p:5 ^ d≤125:=by
  rcases(show d=0∨d=1∨d=2∨d=3 by lia) with z | z | z | z<;>subst z<;>decide
 exact⟨Nice.fewm t h,f.calm,by lia,by lia⟩
theorem len61:∀m:Fin 61,(Str.ofString (toString ((m.val:Nat):Int))).length≤10:=by decide+kernel
theorem len60{j:Int}(h0:0≤j)(h1:j≤60):(Str.ofString (toString j)).length≤10:=by
 have:=len61 ⟨j.toNat,by lia⟩
 rwa [show((j.toNat:Nat):Int)=j by lia] at this
theorem Reps.maps{α:Type}{H:Hp}{f:α→V}{g:α→T}(h:∀x,Rep H (f x) (g x)):∀l:List α,Reps H (l.map f) (l.map g)
 | []=>rfl
 | x::l=>⟨_,_,rfl,h x,Reps.maps h l⟩
theorem zHu{us:List T}(h:∀u∈us,∃j:Int,u= .int j∧0≤j∧j≤60):T.fewms 30 us∧T.calms us∧T.deps us≤0∧T.szs us≤us.length:=by
 refine⟨T.fewms_of fun t ht=>?_,T.calms_of fun t ht=>?_,T.deps_of fun t ht=>?_, ?_⟩
 ·obtain⟨j,rfl,_⟩:=h t ht
  exact mC
 ·obtain⟨j,rfl,h0,h1⟩:=h t ht
  show _∧_
  lia
 ·obtain⟨j,rfl,_⟩:=h t ht
  exact mE _
 ·skip
  induction us with
  | nil=>exact mE _
  | cons u us ih=>
   obtain⟨j,rfl,_⟩:=h u mK;have:=ih fun v hv=>h v (mI _ hv);show 1+T.szs us≤us.length+1
   lia
def zUb(K:W.Frag):Sp:=fun vs H Q _=>∃(a:Addr)(ns:List Int)(k:Int),vs= [.ref a, .int k]∧SqL K H a (ns.map V.int)∧ns.length≤63∧0≤k∧k<7000∧∀(v:V)(t:T)(H':Hp),Same H H'→Rep H' v t→zNk t→Q v H'
theorem scBa:yE ["_law_script","_law_k","_law_more","_law_deep","_law_j","_law_names","_law_row"] ["_law_script","_law_k"] (zJ sBa):=by walk_at "sc"
theorem ok_ba{kk:Nat}(F:Fun K "_law_base" "_law_base" sBa f fd)(B:Bl2 mg)(G_law_cell:Dn P w K mg base kk "_law_cell" ["_law_script","_law_k"] (vD K))(G_law_thing_by:Dn P w K mg base kk "_law_thing_by" ["_law_script","_law_k","_law_deep"] (jL K 3)):FnOk P w K mg base CX0 (kk+1) f fd ["_law_script","_law_k"] (zUb K):=by
 refine F.ok scBa (by walk_at "ln") fun c A o s H vs Q E hr h=>?_;obtain⟨a,ns,k,rfl,ha,hns,hk0,hk1,q⟩:=h;have nd:=scBa.nd;have hu:=wC hr;have hu0:=hr.units0;refine⟨_,(zF (pS 2 nd (zT G_law_cell hr (by lia) rfl (zA (pv 0) (zA (pv 1) zD))))
  (zF (zS (zP vX (zH zU (pv 2) zE) zE (zN _)) (zG (zK (zT G_law_thing_by hr (by lia) rfl (zA (pv 0) (zA (zH yR (pv 1) zE) (zA zE zD)))))) zL)
  (zF (zS (zP yX (zH zU (pv 2) zE) zE (zN _)) (zG (zK (xF (own:=["_law_j"]) (F:=[("_law_script",0),("_law_k",1)]) ⟨rfl,by walk_at "wu",by walk_at "wu",by walk_at "wu",(.cons rfl rfl rfl (.cons rfl rfl rfl .nil))⟩ rfl (xJ rfl B.range (zA (zH zU (zH zW (pv 2) zE) zE) zD)) (fun _ _ _ _=>yF (i:=0) (by show(xK ["_law_j"] [("_law_script",0),("_law_k",1)]).Nodup;decide+kernel) rfl (nH rfl)) (fun _ _ _ _=>yZ) (fun _ _ _ _=>(zT G_law_thing_by hr (by lia) rfl (zA (pv 1) (zA (zH yR (zH yR (pv 2) zE) (pv 0)) (zA (zH zU (pv 0) zE) zD)))))))) zL)
  (zF (pS 3 nd (zH zU (zH zW (pv 2) zE) zE))
  (zF (wT PassesOwn.never rfl (xJ rfl B.range (zA zE zD)) (yF (i:=4) nd rfl (nH rfl)) (zG (pS 3 nd (zX (zA (pv 3) zD)))))
  (zF (pS 5 nd vM)
  (zF (wT PassesOwn.never rfl (xJ rfl B.range (zA (zH xS zE (zH zU (zH zW (pv 2) zE) zE)) zD)) (yF (i:=4) nd rfl (nH rfl)) (zG (kU hu (pv 5) (zH wS zV (yM gZ rfl B.str qN (zA (pv 4) zD))) (pv 4) rfl)))
  (zF (jK (i:=6) nd rfl (nH rfl) (own:=["_law_j"]) (F:=[]) ⟨rfl,by walk_at "wu",by walk_at "wu",by walk_at "wu", .nil⟩ rfl (xJ rfl B.range (zA (zH xS zE (zH zU (zH zW (pv 2) zE) zE)) zD)) (fun _ _ _ _=>yF (i:=0) (by show(xK ["_law_j"] []).Nodup;decide+kernel) rfl (nH rfl)) (fun _ _ _ _=>yZ) (fun _ _ _ _=>(pv 0)))
  (zG (zK (zFa (qZ zV (pv 6) (qZ zV (pv 3) (qZ zV (pv 5) (qZ zV (uE (zT G_law_thing_by hr (by lia) rfl (zA (pv 0) (zA (zH yR (pv 1) zE) (zA zE zD))))) zFv)))) (by rfl) (by rfl) (bE _ _) (by decide)))))))))))), ?_⟩
 walk_at "st";walk_at "rd3";obtain⟨c,hc,hc0,hc1⟩:∃c:Int,wX ns k=c∧0≤c∧c<1000003:=⟨_,rfl,wG _ _,wO _ _⟩;refine⟨a,ns,_,rfl,ha,hns,by lia,by lia,fun H1 g1=>?_⟩;rw[hc];refine⟨c,rfl, ?_⟩;have p3:(k+1+2)*5 ^ 3≤1000000:=by
  rw[show(5:Int)^ 3=125 from rfl];lia
 by_cases h2:c % 5<2
 ·exact iP h2 ⟨3,mE _,a,ns,_,rfl,g1.seq ha,hns,by lia,p3,fun v H2 t g2 hv hn=>q v t _ (g1.trans g2) hv (zMb (mE _) hn)⟩
 refine iN h2 ⟨c,rfl, ?_⟩
 by_cases h3:c % 5=2
 ·refine iP h3 ⟨c,rfl,by lia,by lia, ?_⟩
  have hle:(c / 5 % 31).toNat≤30:=by lia
  refine kI (fun i ys H'=>Same H H'∧∃us,Reps H' ys us∧us.length=i∧∀t∈us,Nice 1 t) (by rw[mQ];lia) ⟨g1,[],rfl,rfl,fun _ h=>nomatch h⟩ ?_ ?_
  ·rintro i ys H2 hi _ ⟨g2,us,hR,hl,hN⟩
   walk_at "rd3";obtain⟨dd,hdd,hd1⟩:∃dd:Nat,(0+(i:Int))% 2=(dd:Int)∧dd≤1:=⟨((0+(i:Int))% 2).toNat,by lia,by lia⟩;rw[hdd];refine⟨dd,by lia,a,ns,_,rfl,g2.seq ha,hns,by lia, ?_,fun v H3 t g3 hv hn=>⟨g2.trans g3,us++ [t],Reps.snoc hv (Reps.same g3 _ _ hR),by rw[mO,mM,hl],fun u hu=>?_⟩⟩
   ·have p5:(5:Int)^ dd≤5:=by
     rcases(show dd=0∨dd=1 by lia) with z | z<;>subst z<;>decide
    have:=Int.mul_le_mul (show k+1+(0+(i:Int))+2≤8000 by lia) p5 (by have:=zSs dd;lia) (by decide)
    lia
   ·rcases nD.mp hu with z | z
    ·exact hN u z
    ·rw[nM.mp z]
     rcases(show dd=0∨dd=1 by lia) with z | z
     ·subst z
      cases t with
      | lst _=>exact absurd hn.1 (by decide)
      | dic _ _=>exact absurd hn.1 (by decide)
      | tup _=>exact hn.elim
      | _=>exact hn
     ·subst z;exact hn
  ·rintro ys H2 _ ⟨g2,us,hR,hl,hN⟩ p hp
   have s3:=zC hp (.lst ys);have hdp:T.deps us≤1:=T.deps_of fun t ht=>Nice.dep t (hN t ht);have hsz:=NiceL.sz us (NiceL_iff.mpr hN);refine q _ (.lst us) _ (g2.trans s3) ⟨p,ys,rfl,zB,Reps.same s3 _ _ hR⟩ ⟨⟨by lia,T.fewms_of fun t ht=>Nice.fewm t (hN t ht)⟩,T.calms_of fun t ht=>(kH 1 t (by decide) (hN t ht)).calm, ?_, ?_⟩
   ·show T.deps us+1≤9
    lia
   ·show T.szs us+1≤200
    have:us.length*5 ^ 1≤30*5:=sD (by lia) (by decide)
    lia
 refine iN h3 ⟨c,rfl, ?_⟩;refine wN (fun i σ H'=>∃(y:V)(t:T)(o:Option V),σ= [some (V.ref a),some (V.int k),some (V.int c),some y,o,none,none]∧Same H H'∧Rep H' y t∧T.fewm 30 t∧T.calm t∧T.dep t≤i∧T.sz t≤i+1) ⟨_, .int _,_,rfl,g1,rfl,mC,by show _∧_;lia,mL _,mE _⟩ ?_ ?_
 ·rintro i σ H2 hi ⟨y,t,o,rfl,g2,hy,hf,hcm,hd,hz⟩
  walk_at "rd3";intro p hp;have s3:=zC hp (.lst [y]);refine⟨_,⟨rfl,_,rfl⟩,g2.trans s3, .lst [t],⟨p,_,rfl,zB,⟨y,[],rfl,Rep.same s3 _ _ hy,rfl⟩⟩,⟨by simp,hf,mC⟩,⟨hcm,mC⟩, ?_, ?_⟩
  ·show max (T.dep t) 0+1≤i+1
   lia
  ·show T.sz t+0+1≤i+1+1
   lia
 ·rintro σ H2 ⟨yd,td,o,rfl,g2,hy,hf,hcm,hd,hz⟩
  walk_at "rd3";intro pn hpn;have s3:=zC hpn (.dK []);have e3:=zB (H:=H2) (a:=pn) (o:=.dK []);have hy3:=Rep.same s3 _ _ hy;have g3:=g2.trans s3;have hyh:Rep (wL (upd H2 pn (.dK [])) pn) yd td:=by
   rw[qS];exact Rep.same (fun b o e=>by rw[xA fun z=>by subst z;rw[hpn] at e;cases e];exact e) _ _ hy
  generalize upd H2 pn (.dK [])=H3 at s3 e3 hy3 g3 hyh⊢;have hn0:H pn=none:=zZ g2 hpn;refine⟨by lia,by lia, ?_⟩;have hle:(30 - c / 36 % 3).toNat≤30:=by lia
  refine wN (fun i σ H'=>∃(o:Option V)(ps:List (Key×V))(ks:List (List Nat))(us:List T),σ= [some (V.ref a),some (V.int k),some (V.int c),some yd,o,some (V.ref pn),none]∧Same H H'∧Rep (wL H' pn) yd td∧H' pn=some (.dK ps)∧ps.map (·.1)=ks.map nK∧Reps H (ps.map (·.2)) us∧ks.Nodup∧ks.length=us.length∧us.length≤i∧∀u∈us,∃j:Int,u= .int j∧0≤j∧j≤60) ⟨_,[],[],[],rfl,g3,hyh,e3,rfl,rfl,sE,rfl,mE _,fun _ h=>nomatch h⟩ ?_ ?_
  ·rintro i σ H5 hi ⟨o5,ps,ks,us,rfl,g5,hy5,hp5,hkk,hs,hnk,hku,hul,hui⟩
   unfold zJl;walk_at "rd3";have hpl:ps.length=us.length:=by have:=hs.length;rwa [mB] at this
   obtain⟨j,hj,hj0,hj1⟩:∃j:Int,0+(i:Int)=j∧0≤j∧j≤60:=⟨_,rfl,by lia,by lia⟩;rw[hj];refine⟨zGc (by lia) (by lia), ?_⟩;have l1:=len60 hj0 hj1;have l0:(Str.ofString "n").length=1:=by decide+kernel
   generalize Str.ofString "n" ++Str.ofString (toString j)=z;have ex:(Sum.inr z:Key)=nK (ts z):=by show(Sum.inr z:Key)=Sum.inr (tx (ts z));rw[jW]
   refine⟨by lia,_,DPut.k (k:=Sum.inr z) hp5 (by rw[mQ];lia),wP g5 hn0,by rw[qS];exact hy5,_,zB, ?_⟩;rw[ex];obtain⟨p1,p2⟩:=zHx (H:=H) (p:=(ks,us)) (n:=ts z) (v:=.int j) (t:=.int j) hkk hs rfl;obtain⟨q1,q2⟩:=zGi (ks:=ks) (us:=us) (n:=ts z) (t:=.int j) hku;exact⟨_,p1,_,p2,zDd hnk,q1,by lia,fun u hu=>(zHb hu).elim (hui u) fun e=>⟨j,e,hj0,hj1⟩⟩
  ·rintro σ H5 ⟨o5,ps,ks,us,rfl,g5,hy5,hp5,hkk,hs,hnk,hku,hul,hui⟩
   walk_at "rd3";refine⟨by lia,by lia, ?_⟩;have hl6:(60 - c / 108 % 3).toNat≤60:=by lia
   refine kI (fun i ys H'=>H'=H5∧ys=(List.range i).map fun j=>V.int (j:Nat)) (by rw[mQ];lia) ⟨rfl,rfl⟩ ?_ ?_
   ·rintro i ys H6 hi _ ⟨rfl,rfl⟩
    walk_at "rd3";rw[bL,mP];simp
   ·rintro ys H6 _ ⟨rfl,hys⟩ pw hpw
    generalize (60 - c / 108 % 3).toNat=n6 at hl6 hys;have s7:=zC hpw (.lst ys);have e7:=zB (H:=H6) (a:=pw) (o:=.lst ys);have g7:=g5.trans s7;have hp7:=s7 _ _ hp5;have hy7:Rep (upd H6 pw (.lst ys)) yd td:=Rep.same (fun b o e=>s7 _ _ (xQ _ _ e)) _ _ hy5;generalize upd H6 pw (.lst ys)=H7 at s7 e7 g7 hp7 hy7⊢;intro p hp;have s8:=zC hp (.dK []);have e8:=zB (H:=H7) (a:=p) (o:=.dK []);unfold zGa zJo;refine⟨p, .inl ⟨[],e8,fun o=>?_⟩⟩;have gf:Same H7 (upd (upd H7 p (.dK [])) p (.frz o (.dK []))):=wP s8 hp;walk_at "rd3";refine⟨2,by decide,a,ns,_,rfl,(g7.trans gf).seq ha,hns,by lia,by rw[show(5:Int)^ 2=25 from rfl];lia,fun v Hc t gc hv hn=>?_⟩;have gt:=qC e8 gc;have e9:=zDq e8 (by intro o v z;cases z) gc;have hv9:Rep (wL (L2.thaw (upd H7 p (.dK [])) Hc) p) v t:=Rep.off (gc _ _ zB) hv;dsimp only;generalize L2.thaw (upd H7 p (.dK [])) Hc=H9 at gt e9 hv9⊢;refine⟨e9,[(Sum.inr (Str.ofString "r"),V.ref pw),(Sum.inr (Str.ofString "d"),yd),(Sum.inr (Str.ofString "n"),V.ref pn),(Sum.inr (Str.ofString "z"),v)],rfl,by simp, ?_⟩;rw[wI _ [] (by show([Sum.inr (Str.ofString "r"),Sum.inr (Str.ofString "d"),Sum.inr (Str.ofString "n"),Sum.inr (Str.ofString "z")]:List Key).Nodup;decide+kernel),rY];have gF:Same H7 (upd H9 p (.dK [(Sum.inr (Str.ofString "r"),V.ref pw),(Sum.inr (Str.ofString "d"),yd),(Sum.inr (Str.ofString "n"),V.ref pn),(Sum.inr (Str.ofString "z"),v)])):=wP (s8.trans gt) hp;have hzF:Rep (upd H9 p (.dK [(Sum.inr (Str.ofString "r"),V.ref pw),(Sum.inr (Str.ofString "d"),yd),(Sum.inr (Str.ofString "n"),V.ref pn),(Sum.inr (Str.ofString "z"),v)])) v t:=Rep.same uC _ _ hv9;have hpF:=zB (H:=H9) (a:=p) (o:=.dK [(Sum.inr (Str.ofString "r"),V.ref pw),(Sum.inr (Str.ofString "d"),yd),(Sum.inr (Str.ofString "n"),V.ref pn),(Sum.inr (Str.ofString "z"),v)]);generalize upd H9 p (.dK [(Sum.inr (Str.ofString "r"),V.ref pw),(Sum.inr (Str.ofString "d"),yd),(Sum.inr (Str.ofString "n"),V.ref pn),(Sum.inr (Str.ofString "z"),v)])=HF at gF hzF hpF⊢;have hr1:∀u∈(List.range n6).map (fun j=>T.int ((j:Nat):Int)),∃j:Int,u= .int j∧0≤j∧j≤60:=fun u hu=>by
     obtain⟨j,hj,rfl⟩:=nL.mp hu;have:=aH.mp hj;exact⟨_,rfl,by lia,by lia⟩
    obtain⟨r1,r2,r3,r4⟩:=zHu hr1;obtain⟨n1,n2,n3,n4⟩:=zHu hui;rw[mB,List.length_range] at r4;have tz:=Nice.sz t hn;have tdp:=Nice.dep t hn;have tz':T.sz t≤25:=tz;refine q _ (.dic [ts (Str.ofString "r"),ts (Str.ofString "d"),ts (Str.ofString "n"),ts (Str.ofString "z")] [.lst ((List.range n6).map fun j=>T.int ((j:Nat):Int)),td, .dic ks us,t]) HF (g7.trans gF) ⟨p,_,rfl,hpF, ?_, ?_⟩ ?_
    ·simp only[mN,pK,jW]
    ·refine⟨_,_,rfl,⟨pw,ys,rfl,gF _ _ e7, ?_⟩,_,_,rfl,Rep.same gF _ _ hy7,_,_,rfl,⟨pn,ps,rfl,gF _ _ hp7,hkk,Reps.same (g7.trans gF) _ _ hs⟩,_,_,rfl,hzF,rfl⟩
     rw[hys];exact Reps.maps (f:=fun j:Nat=>V.int (j:Int)) (g:=fun j:Nat=>T.int (j:Int)) (fun x=>show V.int _=V.int _ from rfl) _
    ·refine⟨⟨by decide+kernel,by decide,rfl,⟨by rw[mB,List.length_range];lia,r1⟩,hf,⟨hnk,by lia,hku,n1⟩,Nice.fewm t hn,mC⟩,⟨r2,hcm,n2,(kH 2 t (by decide) hn).calm,mC⟩, ?_, ?_⟩
     ·show max (T.deps _+1) (max (T.dep td) (max (T.deps us+1) (max (T.dep t) 0)))+1≤9
      lia
     ·show(T.szs _+1)+(T.sz td+((T.szs us+1)+(T.sz t+0)))+1≤200
      lia
abbrev sTo:Stmt:=top 39
def DOk(p:List Key)(t u:T)(ks:List Key):Prop:=(∃r,ks=p++r∧OkD t u r)∨(¬p<+:ks∧¬ks<+:p)
theorem zQh(k l:Key):eqV (kV k) (kV l)=decide (k=l):=by
 cases k with
 | inl i=>
  cases l with
  | inl j=>
   show(i==j)=_;rw[rC,beq_iff_eq,pB];exact⟨fun h=>by rw[h],fun h=>Sum.inl.inj h⟩
  | inr z=>
   rw[nP (by intro h;cases h)]
   rfl
 | inr y=>
  cases l with
  | inl j=>
   rw[nP (by intro h;cases h)]
   rfl
  | inr z=>
   show(y==z)=_;rw[rC,beq_iff_eq,pB];exact⟨fun h=>by rw[h],fun h=>Sum.inr.inj h⟩
theorem uL:∀ks ls:List Key,zBd (ks.map kV) (ls.map kV)=decide (ks=ls)
 | [],[]=>rfl
 | [],_::_=>rfl
 | _::_,[]=>rfl
 | k::ks,l::ls=>by
  show(eqV (kV k) (kV l)&& zBd (ks.map kV) (ls.map kV))=_;rw[zQh,uL ks ls,rC,pY,pB,pB,pB,List.cons.injEq]
theorem uM(ks:List Key):(ks.map kV).all jT=true:=by
 rw[List.all_map,pE];intro k _;cases k<;>rfl
def both(t u:T):Bool:=alk t u ||((zO (tyT t) "list" && zO (tyT u) "list")||(zO (tyT t) "dict" && zO (tyT u) "dict"))
theorem OkD.nalk{t u:T}{r:List Key}(h:OkD t u r):alk t u=false:=by
 cases h with
 | row h _=>exact h
 | rcd h _=>exact h
 | oth h _ _=>exact h
theorem OkD.nil{t u:T}(h:OkD t u []):both t u=false:=by
 have ha:=h.nalk;unfold both;rw[ha,Bool.false_or]
 cases h with
 | oth _ h1 h2=>
  cases t with
  | lst us=>
   cases u with
   | lst ws=>exact(h1 us ws rfl rfl).elim
   | _=>simp only[tyT];decide+kernel
  | dic ks us=>
   cases u with
   | dic ls ws=>exact(h2 ks us ls ws rfl rfl).elim
   | _=>simp only[tyT];decide+kernel
  | _=>cases u<;>(simp only[tyT];decide+kernel)
theorem DOk.up{p ks:List Key}{t u:T}(h:DOk p t u ks)(hb:both t u=true):¬p.take ks.length=ks:=fun e=>by
 have hp:ks<+:p:=by rw[←e];exact List.take_prefix _ _
 rcases h with⟨r,rfl,h⟩|⟨_,h⟩
 ·have hl:=hp.length_le
  rw[mO] at hl;have hr:r= []:=sN (by lia);subst hr;rw[h.nil] at hb;cases hb
 ·exact h hp
theorem DOk.below{p ks:List Key}{t u:T}(h:DOk p t u ks)(e:ks.take p.length=p)(hl:p.length<ks.length):∃r,ks=p++r∧r≠ []∧OkD t u r:=by
 have hp:p<+:ks:=by rw[←e];exact List.take_prefix _ _
 rcases h with⟨r,rfl,h⟩|⟨h,_⟩
 ·refine⟨r,rfl,fun z=>?_,h⟩
  subst z;rw[rJ] at hl
  lia
 ·exact(h hp).elim
def Bel(H:Hp)(p:List Key)(t u:T)(z:V):Prop:=∃(a:Addr)(r:List Key),z= .ref a∧H a=some (.lst ((p++r).map kV))∧r≠ []∧OkD t u r
def zMu(n:Nat):Sp:=fun vs H Q _=>∃(da pa:Addr)(vo vn:V)(ys:List V)(p:List Key)(t u:T),vs= [.ref da, .ref pa,vo,vn]∧H da=some (.lst ys)∧H pa=some (.lst (p.map kV))∧Rep H vo t∧Rep H vn u∧T.few t∧T.few u∧T.wt t≤n∧T.wt u≤n∧ys.length≤100000∧Ds H ys (DOk p t u)∧∀H',Same H H'→Q (.bl true) H'
theorem scTo:yE ["_law_deeds_here","_law_path","_law_old","_law_new","_law_same_here","_law_rows","_law_below","_law_first"] ["_law_deeds_here","_law_path","_law_old","_law_new"] (zJ sTo):=by walk_at "sc"
theorem ok_to{n k:Nat}(F:Fun K "_law_touch_ok" "_law_touch_ok" sTo f fd)(B:Bl2 mg)(G_law_same:Dn P w K mg base k "_law_same" ["_law_one","_law_other"] (zCz n))(G_law_first_unlike:Dn P w K mg base k "_law_first_unlike" ["_law_one","_law_other"] (zSz n)):FnOk P w K mg base CX0 (k+1) f fd ["_law_deeds_here","_law_path","_law_old","_law_new"] (zMu n):=by
 refine F.ok scTo (by walk_at "ln") fun c A o s H vs Q E hr h=>?_;obtain⟨da,pa,vo,vn,ys,p,t,u,rfl,hda,hpa,ho,hn,hf1,hf2,hw1,hw2,hyl,hD,q⟩:=h;have nd:=scTo.nd;have hu:=wC hr;have hu0:=hr.units0;refine⟨_,(zF (pS 4 nd (zT G_law_same hr (by lia) rfl (zA (pv 2) (zA (pv 3) zD))))
  (zF (wY (pS 5 nd (zAg (pI B.isinstance zI B.list xB (pv 2)) (zFg (pI B.isinstance zI B.list xB (pv 3))))))
  (zF (wY (zS (PW.pt (uR (zY (pv 4)) (uR (zY (pv 5)) (zAs (PW.pt (xO (zY (pI B.isinstance zI B.dict yP (pv 2))) (xT (zY (pI B.isinstance zI B.dict yP (pv 3)))))))))) (zG (zS (zP (zGb hu0) (xF (own:=["_law_deed_here"]) (F:=[("_law_path",1)]) ⟨rfl,by walk_at "wu",by walk_at "wu",by walk_at "wu",(.cons rfl rfl rfl .nil)⟩ rfl (xM (pv 0)) (fun _ _ _ _=>yF (i:=0) (by show(xK ["_law_deed_here"] [("_law_path",1)]).Nodup;decide+kernel) rfl (nH rfl)) (fun _ _ _ _=>(uD (zP (zHh (K:=K) hu0 rfl) (xR (zHf (K:=K) rfl) (pv 1) wD (xG (zM (vO (K:=K) rfl) rfl B.len yO (zA (yI (uB (K:=K) rfl) (pv 0) zE (fun _ _=>rfl)) zD)))) (yI (uB (K:=K) rfl) (pv 0) zE (fun _ _=>rfl)) (zN _)))) (fun _ _ _ _=>(pv 0))) (zX zD) (zN _)) (zG (zK wV)) zL)) zL))
  (zF (jK (i:=6) nd rfl (nH rfl) (own:=["_law_deed_here"]) (F:=[("_law_path",1)]) ⟨rfl,by walk_at "wu",by walk_at "wu",by walk_at "wu",(.cons rfl rfl rfl .nil)⟩ rfl (xM (pv 0)) (fun _ _ _ _=>yF (i:=0) (by show(xK ["_law_deed_here"] [("_law_path",1)]).Nodup;decide+kernel) rfl (nH rfl)) (fun _ _ _ _=>(uD (PW.pt (xO (zP (zHh (K:=K) hu0 rfl) (xR (zHf (K:=K) rfl) (yI (uB (K:=K) rfl) (pv 0) zE (fun _ _=>rfl)) wD (xG (zM (vO (K:=K) rfl) rfl B.len yO (zA (pv 1) zD)))) (pv 1) (zN _)) (xT (zP qU (zM (vO (K:=K) rfl) rfl B.len yO (zA (yI (uB (K:=K) rfl) (pv 0) zE (fun _ _=>rfl)) zD)) (zM (vO (K:=K) rfl) rfl B.len yO (zA (pv 1) zD)) (zN _))))))) (fun _ _ _ _=>(yI (uB (K:=K) rfl) (pv 0) zE (fun _ _=>rfl))))
  (zF (zS (zY (pv 4)) (zG (zK (yV (zBg hu0) (pv 6) (zX zD) (zN _)))) zL)
  (zF (zS (zY (pv 5)) (zF (uZ (i:=7) nd rfl (aM rfl) (zT G_law_first_unlike hr (by lia) rfl (zA (pv 2) (zA (pv 3) zD))))
  (zG (zK (yV (zBg hu0) (xF (own:=["_law_one"]) (F:=[("_law_path",1),("_law_first",7)]) ⟨rfl,by walk_at "wu",by walk_at "wu",by walk_at "wu",(.cons rfl rfl rfl (.cons rfl rfl rfl .nil))⟩ rfl (xM (pv 6)) (fun _ _ _ _=>yF (i:=0) (by show(xK ["_law_one"] [("_law_path",1),("_law_first",7)]).Nodup;decide+kernel) rfl (nH rfl)) (fun _ _ _ _=>(uD (zP vX (yI (zGt (K:=K) rfl) (pv 0) (zM (vO (K:=K) rfl) rfl B.len yO (zA (pv 1) zD)) (fun _ _=>rfl)) (pv 2) (zN _)))) (fun _ _ _ _=>(pv 0))) (zX zD) (zN _))))) zL)
  (zG (zK wV)))))))), ?_⟩
 walk_at "st";walk_at "rd3";unfold zOb;walk_at "rd3";refine⟨vo,vn,t,u,rfl,ho,hn,hf1,hf2,hw1,hw2,fun H1 g1=>?_⟩;refine⟨fun σ' H'=>σ'= [some (.ref da),some (.ref pa),some vo,some vn,some (.bl (alk t u)),some (.bl (zO (tyT t) "list" && zO (tyT u) "list")),none,none]∧Same H H', ?_, ?_⟩
 ·refine⟨_,(Rep.same g1 _ _ ho).ty, ?_⟩
  by_cases c:zO (tyT t) "list" =true
  ·refine iP c ⟨_,(Rep.same g1 _ _ hn).ty, ?_,g1⟩
   rw[c,Bool.true_and];rfl
  ·refine iN c ⟨?_,g1⟩
   rw[sW] at c;rw[c,sP];rfl
 rintro σ2 H2 ⟨rfl,g2⟩;walk_at "rd3";refine⟨fun σ' H'=>σ'= [some (.ref da),some (.ref pa),some vo,some vn,some (.bl (alk t u)),some (.bl (zO (tyT t) "list" && zO (tyT u) "list")),none,none]∧Same H H', ?_, ?_⟩
 ·have cb:both t u=true→xV [Str.ofString "_law_deed_here"] [(Str.ofString "_law_path",1)] (vN 0) (zJk (tOp (zPb K false) (tSl (zUh K) (jU 1) zBn (zKi (tCB (fun xs H Q=>∃p,xs= [V.ref p]∧∃ys,SqL K H p ys∧Q (V.int ys.length) H) (jO (tOp (zMs K) (jU 0) (tC (V.int 1))) zCe)))) (tOp (zMs K) (jU 0) (tC (V.int 1))))) (jU 0)
    [some (V.ref da),some (V.ref pa),some vo,some vn,some (V.bl (alk t u)),some (V.bl (zO (tyT t) "list" && zO (tyT u) "list")),none,none] (fun x H1=>∀p,H1 p=none→zSu K true x (V.ref p) (upd H1 p (HO.lst [])) fun x H'=>∃k,x=V.bl k∧if k=true then Q (V.bl false) H' else([some (V.ref da),some (V.ref pa),some vo,some vn,some (V.bl (alk t u)),some (V.bl (zO (tyT t) "list" && zO (tyT u) "list")),none,none]= [some (V.ref da),some (V.ref pa),some vo,some vn,some (V.bl (alk t u)),some (V.bl (zO (tyT t) "list" && zO (tyT u) "list")),none,none]∧Same H H')) (Itl K da) H2:=fun hb=>by
   refine xI (K:=K) (xs:=ys) (fun i zs H'=>Same H H'∧zs= []) (by rw[mQ];lia) ⟨g2,rfl⟩ (fun i zs H' _ h=>SqL.of (h.1 _ _ hda)) ?_ ?_
   ·rintro i y zs H4 hy _ ⟨g4,rfl⟩
    obtain⟨ks,⟨d,wd,pd,r,rfl,hd,hpd⟩,hdok⟩:=hD y (mF hy);walk_at "rd3";refine qG (SqT.of (g4 _ _ hd)) (yJ (j:=1) rfl) ⟨pd,rfl,_,SqL.of (g4 _ _ hpd),pa,_,rfl,SqL.of (g4 _ _ hpa),fun pc hpc=>?_⟩;rw[mB,zId,←List.map_take];have s5:=zC hpc (.lst ((p.take ks.length).map kV));refine qG (SqT.of (s5 _ _ (g4 _ _ hd))) (yJ (j:=1) rfl) (zJb (SqL.of zB) (SqL.of (s5 _ _ (g4 _ _ hpd))) (uM _) (uM _) ⟨_,rfl, ?_⟩);exact iN (by rw[mJ (show¬(false=true) by decide),uL,pB];exact hdok.up hb) (g4.trans s5)
   ·rintro zs H4 _ ⟨g4,rfl⟩ l hl pe hpe
    have s5:=zC hl (.lst []);have e5:=zB (H:=H4) (a:=l) (o:=.lst []);have s6:=zC hpe (.lst []);exact⟨l,pe,_,rfl,rfl,SqL.of (s6 _ _ e5),SqL.of zB,_,rfl,iN (by decide) ⟨rfl,g4.trans (s5.trans s6)⟩⟩
  have hx:∃xs,SqL K H2 da xs:=⟨ys,SqL.of (g2 _ _ hda)⟩
  by_cases c1:alk t u=true
  ·exact iP c1 ⟨hx,cb (by unfold both;rw[c1,Bool.true_or])⟩
  refine iN c1 ?_
  by_cases c2:(zO (tyT t) "list" && zO (tyT u) "list")=true
  ·exact iP c2 ⟨hx,cb (by unfold both;rw[c2,Bool.true_or,bB])⟩
  refine iN c2 ⟨_,(Rep.same g2 _ _ ho).ty, ?_⟩
  by_cases c3:zO (tyT t) "dict" =true
  ·refine iP c3 ⟨_,(Rep.same g2 _ _ hn).ty, ?_⟩
   by_cases c4:zO (tyT u) "dict" =true
   ·exact iP c4 ⟨hx,cb (by unfold both;rw[c3,c4,Bool.and_true,bB,bB])⟩
   ·exact iN c4 ⟨rfl,g2⟩
  ·exact iN c3 ⟨rfl,g2⟩
 ·rintro σ3 H3 ⟨rfl,g3⟩
  walk_at "rd3";refine⟨⟨ys,SqL.of (g3 _ _ hda)⟩,xI (K:=K) (xs:=ys) (fun i zs H'=>Same H H'∧zs.length≤i∧∀z∈zs,Bel H p t u z) (by rw[mQ];lia) ⟨g3,mE _,fun _ h=>nomatch h⟩ (fun i zs H' _ h=>SqL.of (h.1 _ _ hda)) ?_ ?_⟩
  ·rintro i y zs H4 hy _ ⟨g4,hzl,hz⟩
   obtain⟨ks,⟨d,wd,pd,r,rfl,hd,hpd⟩,hdok⟩:=hD y (mF hy);walk_at "rd3";refine qG (SqT.of (g4 _ _ hd)) (yJ (j:=1) rfl) ⟨_,SqL.of (g4 _ _ hpa),pd,_,rfl,SqL.of (g4 _ _ hpd),fun pc hpc=>?_⟩;rw[mB,zId,←List.map_take];have s5:=zC hpc (.lst ((ks.take p.length).map kV));refine zJb (SqL.of zB) (SqL.of (s5 _ _ (g4 _ _ hpa))) (uM _) (uM _) ⟨_,rfl, ?_⟩;have g5:=g4.trans s5
   by_cases c:ks.take p.length=p
   ·refine iP (by rw[mJ (show¬(false=true) by decide),uL,pB];exact c) (qG (SqT.of (g5 _ _ hd)) (yJ (j:=1) rfl) ⟨pd,rfl,_,SqL.of (g5 _ _ hpd),_,SqL.of (g5 _ _ hpa), ?_⟩)
    by_cases c5:p.length<ks.length
    ·refine iP (by rw[mB,mB];lia) (qG (SqT.of (g5 _ _ hd)) (yJ (j:=1) rfl) ⟨g5,by rw[mO,mM];lia,fun z hz'=>?_⟩)
     rcases nD.mp hz' with h | h
     ·exact hz z h
     ·rw[nM.mp h]
      obtain⟨r',rfl,e1,e2⟩:=hdok.below c c5;exact⟨pd,r',rfl,hpd,e1,e2⟩
    ·exact iN (by rw[mB,mB];lia) ⟨g5,by lia,hz⟩
   ·exact iN (by rw[mJ (show¬(false=true) by decide),uL,pB];exact c) ⟨g5,by lia,hz⟩
  ·rintro zs H4 _ ⟨g4,hzl,hz⟩ l hl
   have s5:=zC hl (.lst zs);have e5:=zB (H:=H4) (a:=l) (o:=.lst zs);generalize upd H4 l (.lst zs)=H5 at s5 e5⊢;have g5:=g4.trans s5
   by_cases c1:alk t u=true
   ·have hz0:zs= []:=by
     cases zs with
     | nil=>rfl
     | cons z zs=>
      obtain⟨a,r,_,_,_,h⟩:=hz z mK;rw[h.nalk] at c1;cases c1
    subst hz0;refine iP c1 fun pe hpe=>?_;have s6:=zC hpe (.lst []);exact⟨l,pe,_,rfl,rfl,SqL.of (s6 _ _ e5),SqL.of zB,q _ (g5.trans s6)⟩
   refine iN c1 ?_
   by_cases c2:(zO (tyT t) "list" && zO (tyT u) "list")=true
   ·refine iP c2 ?_
    rw[pY] at c2;obtain⟨us,rfl⟩:∃us,t= .lst us:=by
     cases t with
     | lst us=>exact⟨us,rfl⟩
     | _=>exact absurd c2.1 (by simp only[tyT];decide+kernel)
    obtain⟨ws,rfl⟩:∃ws,u= .lst ws:=by
     cases u with
     | lst us=>exact⟨us,rfl⟩
     | _=>exact absurd c2.2 (by simp only[tyT];decide+kernel)
    obtain⟨a,xs,rfl,ha,hx⟩:=ho;obtain⟨b,xs',rfl,hb,hx'⟩:=hn;have w1:T.wts us+1≤n:=hw1;have w2:T.wts ws+1≤n:=hw2;refine⟨a,b,xs,xs',us,ws,rfl,g5 _ _ ha,g5 _ _ hb,Reps.same g5 _ _ hx,Reps.same g5 _ _ hx',hf1,hf2,fun t ht=>by have:=T.wts_le ht;lia,fun t ht=>by have:=T.wts_le ht;lia,fun H6 g6=>⟨l,rfl,⟨_,SqL.of (g6 _ _ e5)⟩, ?_⟩⟩;refine xI (K:=K) (xs:=zs) (fun i vs H'=>Same H5 H'∧vs= []) (by rw[mQ];lia) ⟨g6,rfl⟩ (fun i vs H' _ h=>SqL.of (h.1 _ _ e5)) ?_ ?_
    ·rintro i z vs H7 hzi _ ⟨g7,rfl⟩
     obtain⟨a',r,rfl,ha',hr0,hok⟩:=hz z (mF hzi);have g57:=g5.trans g7
     cases hok with
     | oth _ h1 _=>exact(h1 _ _ rfl rfl).elim
     | @row _ _ j r' _ hle=>
      walk_at "rd3";have ej:atI ((p++Sum.inl j::r').map kV) (((p.map kV).length:Nat):Int)=some (V.int j):=yJ (by
       rw[mB,mU,nR (mE _),Nat.sub_self]
       rfl)
      exact⟨_,SqL.of (g57 _ _ hpa),yN (SqL.of (g57 _ _ ha')) ej ⟨j,rfl,iN (by lia) g7⟩⟩
    ·rintro vs H7 _ ⟨g7,rfl⟩ l2 hl2 pe hpe
     have s8:=zC hl2 (.lst []);have e8:=zB (H:=H7) (a:=l2) (o:=.lst []);have s9:=zC hpe (.lst []);exact⟨l2,pe,_,rfl,rfl,SqL.of (s9 _ _ e8),SqL.of zB,q _ (g5.trans (g7.trans (s8.trans s9)))⟩
   ·exact iN c2 (q _ g5)
abbrev sAo:Stmt:=top 40
theorem DOk.kid{p ks:List Key}{hs ls:List (List Nat)}{us ws:List T}{k:List Nat}(h:DOk p (.dic hs us) (.dic ls ws) ks)(h1:k∈hs)(h2:k∈ls):DOk (p++ [nK k]) (yH k hs us) (yH k ls ws) ks:=by
 rcases h with⟨r,rfl,h⟩|⟨h3,h4⟩
 ·cases h with
  | oth _ _ h=>exact(h _ _ _ _ rfl rfl).elim
  | @rcd _ _ _ _ k' r _ hk=>
   by_cases e:k'=k
   ·subst e
    exact .inl ⟨r,by simp,hk h1 h2⟩
   ·refine .inr ⟨fun z=>?_,fun z=>?_⟩
    ·obtain⟨q,hq⟩:=z
     rw[tP] at hq;have:=List.append_cancel_left hq;injection this with e1 _;exact e (qO e1).symm
    ·obtain⟨q,hq⟩:=z
     rw[tP] at hq;have:=List.append_cancel_left hq;injection this with e1 _;exact e (qO e1)
 ·refine .inr ⟨fun z=>h3 ((aR _ _).trans z),fun z=>?_⟩
  by_cases hl:ks.length≤p.length
  ·exact h4 (List.prefix_of_prefix_length_le z (aR _ _) hl)
  ·have hz:=z.length_le
   rw[mO,mM] at hz;have he:ks=p++ [nK k]:=z.eq_of_length (by rw[mO,mM];lia);exact h3 (by rw[he];exact aR _ _)
def zPa(n:Nat):Sp:=fun vs H Q _=>∃(da pa:Addr)(vo vn:V)(ys:List V)(p:List Key)(t u:T),vs= [.ref da, .ref pa,vo,vn]∧H da=some (.lst ys)∧H pa=some (.lst (p.map kV))∧Rep H vo t∧Rep H vn u∧T.few t∧T.few u∧T.wt t≤40∧T.wt u≤40∧ys.length≤100000∧Ds H ys (DOk p t u)∧T.dep t<n∧p.length+T.dep t≤100∧∀H',Same H H'→Q (.bl true) H'
theorem scAo:yE ["_law_deeds_here","_law_path","_law_old","_law_new"] ["_law_deeds_here","_law_path","_law_old","_law_new"] (zJ sAo):=by walk_at "sc"
theorem ok_ao{n k:Nat}(F:Fun K "_law_all_ok" "_law_all_ok" sAo f fd)(B:Bl2 mg)(G_law_touch_ok:Dn P w K mg base k "_law_touch_ok" ["_law_deeds_here","_law_path","_law_old","_law_new"] (zMu 40))(G_law_all_ok:Dn P w K mg base k "_law_all_ok" ["_law_deeds_here","_law_path","_law_old","_law_new"] (zPa n)):FnOk P w K mg base CX0 (k+1) f fd ["_law_deeds_here","_law_path","_law_old","_law_new"] (zPa (n+1)):=by
 refine F.ok scAo (by walk_at "ln") fun c A o s H vs Q E hr h=>?_;obtain⟨da,pa,vo,vn,ys,p,t,u,rfl,hda,hpa,ho,hn,hf1,hf2,hw1,hw2,hyl,hD,hd,hpl,q⟩:=h;have nd:=scAo.nd;have hu:=wC hr;refine⟨_,(zF (zS (vS (zY (zT G_law_touch_ok hr (by lia) rfl (zA (pv 0) (zA (pv 1) (zA (pv 2) (zA (pv 3) zD))))))) (zG (zK wV)) zL)
  (zF (zS (PW.pt (uR (vS (zY (pI B.isinstance zI B.dict yP (pv 2)))) (zAs (vS (zY (pI B.isinstance zI B.dict yP (pv 3))))))) (zG (zK wV)) zL)
  (zG (zK (zM (uN rfl) rfl B.all zFc (zA (xF (own:=["_law_name"]) (F:=[("_law_deeds_here",0),("_law_path",1),("_law_old",2),("_law_new",3)]) ⟨rfl,by walk_at "wu",by walk_at "wu",by walk_at "wu",(.cons rfl rfl rfl (.cons rfl rfl rfl (.cons rfl rfl rfl (.cons rfl rfl rfl .nil))))⟩ rfl (xM (zM (yY rfl) rfl B.sorted wH (zA (pv 2) zD))) (fun _ _ _ _=>yF (i:=0) (by show(xK ["_law_name"] [("_law_deeds_here",0),("_law_path",1),("_law_old",2),("_law_new",3)]).Nodup;decide+kernel) rfl (nH rfl)) (fun _ _ _ _=>(uD (jC (zCd hu (pv 0) (pv 4))))) (fun _ _ _ _=>(zT G_law_all_ok hr (by lia) rfl (zA (pv 1) (zA (zH vT (pv 2) (zX (zA (pv 0) zD))) (zA (xL hu (pv 3) (pv 0) (fun _ _=>rfl)) (zA (xL hu (pv 4) (pv 0) (fun _ _=>rfl)) zD))))))) zD)))))), ?_⟩
 walk_at "st";walk_at "rd3";refine⟨da,pa,vo,vn,ys,p,t,u,rfl,hda,hpa,ho,hn,hf1,hf2,hw1,hw2,hyl,hD,fun H1 g1=>⟨true,rfl, ?_⟩⟩;refine iN (by decide) ⟨_,(Rep.same g1 _ _ ho).ty, ?_⟩
 cases t with
 | dic hs us=>
  refine iN (by simp only[tyT];decide+kernel) ⟨_,(Rep.same g1 _ _ hn).ty, ?_⟩
  cases u with
  | dic ls ws=>
   refine iN (by simp only[tyT];decide+kernel) ?_;obtain⟨a,ps,rfl,ha,hka,hx⟩:=ho;obtain⟨b,qs,rfl,hb,hkb,hy⟩:=hn;obtain⟨nh,fh,eh,fu⟩:=hf1;obtain⟨nl,fl,el,fw⟩:=hf2;have hd':T.deps us+1<n+1:=hd;have hp':p.length+(T.deps us+1)≤100:=hpl;have w1:T.wts us+2≤40:=hw1;have w2:T.wts ws+2≤40:=hw2;refine⟨a,rfl,ps, .inl (g1 _ _ ha),hs.map tx,by rw[hka,pC];rfl,by rw[mB];exact fh,fun l ss hl hp1 hs1=>⟨⟨_,SqL.of zB⟩, ?_⟩⟩;have s2:=zC hl (.lst (ss.map V.str));have e2:=zB (H:=H1) (a:=l) (o:=.lst (ss.map V.str));generalize upd H1 l (.lst (ss.map V.str))=H2 at s2 e2⊢;have g2:=g1.trans s2;have hsl:=hp1.length_eq;rw[mB] at hsl;refine xI (K:=K) (xs:=ss.map V.str) (fun i zs H'=>Same H2 H'∧∃bs:List Bool,zs=bs.map V.bl∧bs.all id=true) (by rw[mB,mQ];lia) ⟨Same.refl _,[],rfl,rfl⟩ (fun i zs H' _ h=>SqL.of (h.1 _ _ e2)) ?_ ?_
   ·rintro i v zs H3 hv _ ⟨g3,bs,rfl,hbs⟩
    rw[mU] at hv;obtain⟨st,hst,rfl⟩:=rE.mp hv;obtain⟨kk,hkm,rfl⟩:=nL.mp (hp1.mem_iff.mp (mF hst));have g03:=g2.trans g3;unfold zLa gN;walk_at "rd3"
    by_cases hkl:kk∈ls
    ·obtain⟨x,hx1,hx2⟩:=kS nh hka hx ha hkm
     obtain⟨y,hy1,hy2⟩:=kS nl hkb hy hb hkl;have mt:=xP hkm eh;have mu:=xP hkl el;have dt:=T.deps_le mt;have wt:=T.wts_le mt;have wu:=T.wts_le mu;refine⟨_,hy1 _ g03,iP rfl fun pl hpl'=>?_⟩;have s6:=zC hpl' (.lst [V.str (tx kk)]);refine⟨pa,pl,_,_,rfl,rfl,s6 _ _ (g03 _ _ hpa),zB,by rw[mB,mM,mQ];lia,fun pc hpc=>?_⟩;have s7:=s6.trans (zC hpc (.lst (p.map kV++ [V.str (tx kk)])));have e7:_=some (HO.lst ((p++ [nK kk]).map kV)):=(zB (H:=upd H3 pl (.lst [V.str (tx kk)])) (a:=pc) (o:=.lst (p.map kV++ [V.str (tx kk)]))).trans (congrArg (fun z=>some (HO.lst z)) (zCt p (nK kk)));generalize upd (upd H3 pl (.lst [V.str (tx kk)])) pc (.lst (p.map kV++ [V.str (tx kk)]))=H7 at s7 e7⊢;have g07:=g03.trans s7;refine⟨x,hx1 _ g07,y,hy1 _ g07,da,pc,x,y,ys,p++ [nK kk],_,_,rfl,g07 _ _ hda,e7,Rep.same g07 _ _ hx2,Rep.same g07 _ _ hy2,T.fews_mem fu mt,T.fews_mem fw mu,by lia,by lia,hyl,(hD.same g07).imp fun ks hk=>hk.kid hkm hkl,by lia,by rw[mO,mM];lia,fun H8 g8=>⟨g3.trans (s7.trans g8),bs++ [true], ?_, ?_⟩⟩
     ·rw[mP];rfl
     ·rw[List.all_append,hbs];rfl
    ·exact⟨_,kM hkb (g03 _ _ hb) hkl,iN (by decide) ⟨g3,bs,rfl,hbs⟩⟩
   ·rintro zs H3 _ ⟨g3,bs,rfl,hbs⟩ l3 hl3
    refine⟨l3,rfl,bs,SqL.of zB, ?_⟩;rw[hbs];exact q _ (g2.trans (g3.trans (zC hl3 _)))
  | tup _=>exact hf2.elim
  | _=>exact iP (by simp only[tyT];decide+kernel) (q _ g1)
 | tup _=>exact hf1.elim
 | _=>exact iP (by simp only[tyT];decide+kernel) (q _ g1)
theorem zNv{j:Nat}(F:Fun K "_law_all_ok" "_law_all_ok" sAo f fd)(B:Bl2 mg)(Gt:∀k,j≤k→Dn P w K mg base k "_law_touch_ok" ["_law_deeds_here","_law_path","_law_old","_law_new"] (zMu 40))
  (b:Binds K fd ["_law_deeds_here","_law_path","_law_old","_law_new"] []) (kp:W.keepIn K (.ref f)=true) (m:mg "_law_all_ok" =some (.ref f)):∀n:Nat,FnOk P w K mg base CX0 (j+1+n) f fd ["_law_deeds_here","_law_path","_law_old","_law_new"] (zPa n)
 | 0=>by
  refine F.ok scAo (fun vs H Q E h=>?_) (fun c A o s H vs Q E hr h=>?_)
  ·obtain⟨da,pa,vo,vn,ys,p,t,u,rfl,_⟩:=h
   rfl
  ·obtain⟨da,pa,vo,vn,ys,p,t,u,rfl,hda,hpa,ho,hn,hf1,hf2,hw1,hw2,hyl,hD,hd,hpl,q⟩:=h
   exact absurd hd (pX _)
 | n+1=>ok_ao (k:=j+1+n) F B (Gt _ (by lia)) ⟨_,_,zNv F B Gt b kp m n,b,kp,m⟩
end
abbrev sDf:Stmt:=top 7
abbrev sPr:Stmt:=top 41
abbrev zFl:Stmt:=top 42
structure PrI(t:T):Prop where
 f:T.few t
 d:T.dep t<20
 z:T.sz t≤300
mutual
theorem zKb:∀t:T,T.few t→lsz t=T.sz t
 | .lst us,h=>by show zAd us+1=T.szs us+1;rw[zCj us h.2]
 | .dic _ us,h=>by show zAd us+1=T.szs us+1;rw[zCj us h.2.2.2]
 | .tup _,h=>h.elim
 | .non,_=>rfl
 | .bl _,_=>rfl
 | .int _,_=>rfl
 | .str _,_=>rfl
theorem zCj:∀us:List T,T.fews us→zAd us=T.szs us
 | [],_=>rfl
 | t::us,h=>by show lsz t+zAd us=T.sz t+T.szs us;rw[zKb t h.1,zCj us h.2]
end
mutual
theorem zIr:∀t:T,T.wt t≤2*T.dep t
 | .lst us=>by have:=zBm us;show T.wts us+1≤2*(T.deps us+1);lia
 | .dic _ us=>by have:=zBm us;show T.wts us+2≤2*(T.deps us+1);lia
 | .tup us=>by have:=zBm us;show T.wts us+1≤2*(T.deps us+1);lia
 | .non=>mL _
 | .bl _=>mL _
 | .int _=>mL _
 | .str _=>mL _
theorem zBm:∀us:List T,T.wts us≤2*T.deps us
 | []=>mL _
 | t::us=>by
  have:=zIr t;have:=zBm us;show max (T.wt t) (T.wts us)≤2*max (T.dep t) (T.deps us)
  lia
end
section
variable{P:Program}{w:World}{K:W.Frag}{mg:Str→Option Value}{base:Heap}{f:Addr}{fd:FuncData}
def zSp:Sp:=fun vs H Q _=>∃(vo vn:V)(t u:T),vs= [vo,vn]∧Rep H vo t∧Rep H vn u∧PrI t∧PrI u∧∀l ys H',Same H H'→H' l=some (.lst ys)→ys.length≤100000→Ds H' ys (DOk [] t u)→Q (.ref l) H'
theorem scDf:yE ["old","new"] ["old","new"] (zJ sDf):=by walk_at "sc"
theorem ok_df{k:Nat}(F:Fun K "difference" "difference" sDf f fd)(Gdeeds_between:Dn P w K mg base k "deeds_between" ["old","new","path"] (zIy 20)):FnOk P w K mg base CX0 (k+1) f fd ["old","new"] zSp:=by
 refine F.ok scDf (by walk_at "ln") fun c A o s H vs Q E hr h=>?_;obtain⟨vo,vn,t,u,rfl,ho,hn,it,iu,q⟩:=h;have nd:=scDf.nd;refine⟨_,(zG (zK (zT Gdeeds_between hr (by lia) rfl (zA (pv 0) (zA (pv 1) (zA (zX zD) zD)))))), ?_⟩;walk_at "st";walk_at "rd3";intro pa hpa;have s1:=zC hpa (.lst []);have e1:=zB (H:=H) (a:=pa) (o:=.lst []);generalize upd H pa (.lst [])=H1 at s1 e1⊢;have hd:=it.d;refine⟨H1,vo,vn,pa,t,u,[],rfl,Same.refl _,Rep.same s1 _ _ ho,Rep.same s1 _ _ hn,e1,⟨it.f,iu.f,it.d,iu.d,it.z,iu.z,by show 0+T.dep t≤100;lia⟩,it.d,fun l ys H2 g2 hl hl2 hlen hD=>?_⟩;have hm:T.sz t*T.sz u≤90000:=mY (sD it.z iu.z) (by decide);refine q l ys _ (s1.trans g2) hl2 (by lia) ((hD.same (zJt (Same.refl _) g2)).imp fun ks ⟨r,e,h⟩=>.inl ⟨r,e,h⟩)
def zTw(K:W.Frag):Sp:=fun vs H Q _=>∃(a:Addr)(ns:List Int),vs= [.ref a]∧SqL K H a (ns.map V.int)∧ns.length≤63∧∀(l:Addr)(vo vn:V)(t u:T)(H':Hp),H' l=some (.lst [vo,vn])→Rep H' vo t→Rep H' vn u→PrI t→PrI u→Q (.ref l) H'
theorem scPr:yE ["_law_script","_law_old","_law_more","_law_new","_law_j"] ["_law_script"] (zJ sPr):=by walk_at "sc"
theorem ok_pr{k:Nat}(F:Fun K "_law_pair" "_law_pair" sPr f fd)(B:Bl2 mg)(G_law_cell:Dn P w K mg base k "_law_cell" ["_law_script","_law_k"] (vD K))(G_law_base:Dn P w K mg base k "_law_base" ["_law_script","_law_k"] (zUb K))(G_law_held:Dn P w K mg base k "_law_held" ["_law_thing"] (zAr 20))(G_law_name_by:Dn P w K mg base k "_law_name_by" ["_law_more"] jX)(G_law_varied:Dn P w K mg base k "_law_varied" ["_law_thing","_law_more","_law_names"] (zDl 20))(G_law_deeds:Dn P w K mg base k "_law_deeds" ["_law_script","_law_k","_law_thing","_law_many"] (zSg K))(G_law_good:Dn P w K mg base k "_law_good" ["_law_thing"] zUp):FnOk P w K mg base CX0 (k+1) f fd ["_law_script"] (zTw K):=by
 refine F.ok scPr (by walk_at "ln") fun c A o s H vs Q E hr h=>?_;obtain⟨a,ns,rfl,ha,hns,q⟩:=h;have nd:=scPr.nd;have hu:=wC hr;refine⟨_,(zF (pS 1 nd (zT G_law_base hr (by lia) rfl (zA (pv 0) (zA zE zD))))
  (zF (pS 2 nd (zT G_law_cell hr (by lia) rfl (zA (pv 0) (zA zE zD))))
  (zF (pS 3 nd (zT G_law_held hr (by lia) rfl (zA (pv 1) zD)))
  (zF (wY (zS (zP yX (zH zU (pv 2) zE) zE (zN _)) (zG (pS 3 nd (zT G_law_base hr (by lia) rfl (zA (pv 0) (zA zE zD))))) zL))
  (zF (wY (zS (zP vX (zH zU (pv 2) zE) zE (zN _)) (zG (wT PassesOwn.never rfl (xJ rfl B.range (zA (zH yR zE (zH zU (zH zW (pv 2) zE) zE)) zD)) (yF (i:=4) nd rfl (nH rfl)) (zG (pS 3 nd (zT G_law_varied hr (by lia) rfl (zA (pv 3) (zA (zT G_law_cell hr (by lia) rfl (zA (pv 0) (zA (zH yR zE (pv 4)) zD))) (zA (zT G_law_name_by hr (by lia) rfl (zA (zT G_law_cell hr (by lia) rfl (zA (pv 0) (zA (zH yR zE (pv 4)) zD))) zD)) zD)))))))) zL))
  (zF (wY (zS (zP yX (zH zU (pv 2) zE) zE (zN _)) (zG (pS 3 nd (yI yA (yI yA (zT G_law_deeds hr (by lia) rfl (zA (pv 0) (zA zE (zA (pv 1) (zA (zH yR zE (zH zU (zH zW (pv 2) zE) zE)) zD))))) zE (fun _ _=>rfl)) (vC xZ zE) (fun _ _=>rfl)))) zL))
  (zF (zS (vS (zY (zT G_law_good hr (by lia) rfl (zA (pv 3) zD)))) (zG (pS 3 nd (zT G_law_held hr (by lia) rfl (zA (pv 1) zD)))) zL)
  (zG (zK (zX (zA (pv 1) (zA (pv 3) zD)))))))))))), ?_⟩
 walk_at "st";walk_at "rd3";unfold zOb;walk_at "rd3";refine⟨a,ns,0,rfl,ha,hns,by decide,by decide,fun x t H1 g1 hx hb=>?_⟩;obtain⟨c,hc,hc0,hc1⟩:∃c:Int,wX ns 7=c∧0≤c∧c<1000003:=⟨_,rfl,wG _ _,wO _ _⟩;refine⟨a,ns,7,rfl,g1.seq ha,hns,by decide,by decide,fun H2 g2=>?_⟩;rw[hc];have hfx:T.few t:=T.fewm_few (by decide) _ hb.f;have hbd:=hb.d;have hbz:=hb.z;have ip:PrI t:=⟨hfx,by lia,by lia⟩;refine⟨x,t,rfl,Rep.same g2 _ _ hx,hfx,by lia,fun y H3 D g3 sp hD=>?_⟩;have g03:=g1.trans (g2.trans g3);have hx3:=Rep.same (g2.trans g3) _ _ hx;have hy3:=Sp1.rep _ _ _ sp;refine⟨fun σ' H'=>∃(z:V)(u:T),σ'= [some (V.ref a),some x,some (V.int c),some z,none]∧Same H3 H'∧Rep H' z u∧zNk u, ?_, ?_⟩
 ·refine⟨c,rfl, ?_⟩
  by_cases h4:c % 5=4
  ·exact iP h4 ⟨a,ns,900,rfl,g03.seq ha,hns,by decide,by decide,fun z u H4 g4 hz hbu=>⟨z,u,rfl,g4,hz,hbu⟩⟩
  ·exact iN h4 ⟨y,t,rfl,Same.refl _,hy3,hb⟩
 rintro σ4 H4 ⟨z,u,rfl,g4,hz,hbu⟩;walk_at "rd3";refine⟨fun σ' H'=>∃(z:V)(u:T)(o:Option V),σ'= [some (V.ref a),some x,some (V.int c),some z,o]∧Same H3 H'∧Rep H' z u∧T.few u∧T.dep u<20∧T.sz u≤20000, ?_, ?_⟩
 ·by_cases h3:c % 5<3
  ·refine iP h3 ⟨by lia,by lia, ?_⟩
   obtain⟨m,hm,hm4⟩:∃m:Nat,(1+c / 5 % 4).toNat=m∧m≤4:=⟨_,rfl,by lia⟩;rw[hm];have hp3:∀i,i≤4→3 ^ i≤81∧(i≤3→3 ^ i≤27):=fun i hi=>by
    rcases(show i=0∨i=1∨i=2∨i=3∨i=4 by lia) with z | z | z | z | z<;>subst z<;>decide
   refine wN (fun i σ' H'=>∃(z:V)(u:T)(o:Option V),σ'= [some (V.ref a),some x,some (V.int c),some z,o]∧Same H3 H'∧Rep H' z u∧Fit (9+i) (200*3 ^ i) u) ⟨z,u,_,rfl,g4,hz,⟨T.fewm_few (by decide) _ hbu.f,hbu.c,hbu.d,hbu.z⟩⟩ ?_ ?_
   ·rintro i σ5 H5 hi ⟨z,u,o,rfl,g5,hz,hfit⟩
    have g05:=g03.trans g5;walk_at "rd3";have c1:=wG ns (11+(0+(i:Int)));have c2:=wG ns (21+(0+(i:Int)));have c3:=wO ns (21+(0+(i:Int)));refine⟨a,ns,_,rfl,g05.seq ha,hns,by lia,by lia,fun H6 g6=>⟨a,ns,_,rfl,(g05.trans g6).seq ha,hns,by lia,by lia,fun H7 g7=>⟨_,rfl,c2,by lia,fun nm hnm H8 g8=>?_⟩⟩⟩;have g58:=g6.trans (g7.trans g8);have e1:=hfit.dep;have e2:=hfit.sz;have e3:=(hp3 i (by lia)).2 (by lia);refine⟨z,_,nm,u,rfl,Rep.same g58 _ _ hz,hfit.few,hfit.calm,by lia,by decide,by lia,c1,fun z' H9 u' g9 hz' hf'=>⟨_,⟨rfl,_,rfl⟩,g5.trans (g58.trans g9),u',hz',hf'.mono (by lia) ?_⟩⟩;rw[Nat.pow_succ]
    lia
   ·rintro σ5 H5 ⟨z,u,o,rfl,g5,hz,hfit⟩
    have e1:=hfit.dep;have e2:=hfit.sz;have e3:=(hp3 m hm4).1;exact⟨z,u,o,rfl,g5,hz,hfit.few,by lia,by lia⟩
  ·exact iN h3 ⟨z,u,_,rfl,g4,hz,T.fewm_few (by decide) _ hbu.f,by have:=hbu.d;lia,by have:=hbu.z;lia⟩
 clear hz hbu g4 H4 u z;rintro σ4 H4 ⟨z,u,o,rfl,g4,hz,hfu,hdu,hzu⟩;walk_at "rd3";refine⟨fun σ' H'=>∃(z:V)(u:T)(o:Option V),σ'= [some (V.ref a),some x,some (V.int c),some z,o]∧Same H3 H'∧Rep H' z u∧T.few u∧T.dep u<20∧T.sz u≤20000, ?_, ?_⟩
 ·by_cases h3:c % 5=3
  ·refine iP h3 ⟨a,ns,600,x,_,t,rfl,(g03.trans g4).seq ha,hns,by decide,by decide,by lia,by lia,Rep.same g4 _ _ hx3,hb.f,by lia,by lia,fun l pp pr so rs z' u' H5 g5 hl hpr hz' hf' hd' hs'=>?_⟩
   exact yN (SqL.of hl) (yJ (j:=1) rfl) (yN (SqL.of hpr) (qW _ _) ⟨z',u',_,rfl,g4.trans g5,hz',T.fewm_few (by decide) _ hf',by lia,by lia⟩)
  ·exact iN h3 ⟨z,u,_,rfl,g4,hz,hfu,hdu,hzu⟩
 clear hz hfu hdu hzu g4 H4 u z o;rintro σ4 H4 ⟨z,u,o,rfl,g4,hz,hfu,hdu,hzu⟩;walk_at "rd3";refine⟨z,u,rfl,hz,T.few_gd _ hfu,hdu,hzu,fun H5 g5=>⟨zBy u,rfl, ?_⟩⟩;have hx5:=Rep.same (g4.trans g5) _ _ hx3
 by_cases hg:zBy u=false
 ·refine iP hg ⟨x,t,rfl,hx5,hfx,by lia,fun z' H6 D6 g6 sp6 hD6 l hl=>?_⟩
  have s7:=zC hl (.lst [x,z']);exact q l x z' t t _ zB (Rep.same (g6.trans s7) _ _ hx5) (Rep.same s7 _ _ (Sp1.rep _ _ _ sp6)) ip ip
 ·refine iN hg fun l hl=>?_
  have s7:=zC hl (.lst [x,z]);have hg':zBy u=true:=by cases h:zBy u with | true=>rfl | false=>exact absurd h hg
  have hzz:T.sz u<201:=by
   unfold zBy at hg';rw[pY] at hg';have:=rZ hg'.2
   rwa [zKb u hfu] at this
  exact q l x z t u _ zB (Rep.same s7 _ _ hx5) (Rep.same (g5.trans s7) _ _ hz) ip ⟨hfu,hdu,by lia⟩
def zJy(K:W.Frag):Sp:=fun vs H Q _=>∃(a:Addr)(ns:List Int),vs= [.ref a]∧SqL K H a (ns.map V.int)∧ns.length≤63∧∀H',Q (.bl true) H'
theorem scLaw:yE ["_law_script","_law_pair_here"] ["_law_script"] (zJ zFl):=by walk_at "sc"
theorem zUe{k:Nat}(F:Fun K "law" "law" zFl f fd)(G_law_pair:Dn P w K mg base k "_law_pair" ["_law_script"] (zTw K))(Gdifference:Dn P w K mg base k "difference" ["old","new"] zSp)(G_law_all_ok:Dn P w K mg base k "_law_all_ok" ["_law_deeds_here","_law_path","_law_old","_law_new"] (zPa 20)):FnOk P w K mg base CX0 (k+1) f fd ["_law_script"] (zJy K):=by
 refine F.ok scLaw (by walk_at "ln") fun c A o s H vs Q E hr h=>?_;obtain⟨a,ns,rfl,ha,hns,q⟩:=h;have nd:=scLaw.nd;refine⟨_,(zF (pS 1 nd (zT G_law_pair hr (by lia) rfl (zA (pv 0) zD)))
  (zG (zK (zT G_law_all_ok hr (by lia) rfl (zA (zT Gdifference hr (by lia) rfl (zA (yI yA (pv 1) zE (fun _ _=>rfl)) (zA (yI yA (pv 1) zE (fun _ _=>rfl)) zD))) (zA (zX zD) (zA (yI yA (pv 1) zE (fun _ _=>rfl)) (zA (yI yA (pv 1) zE (fun _ _=>rfl)) zD)))))))), ?_⟩
 walk_at "st";walk_at "rd3";refine⟨a,ns,rfl,ha,hns,fun l vo vn t u H1 hl ho hn it iu=>?_⟩;refine yN (SqL.of hl) (yJ (j:=0) rfl) (yN (SqL.of hl) (yJ (j:=1) rfl) ⟨vo,vn,t,u,rfl,ho,hn,it,iu,fun d ys H2 g2 hd hyl hD pa hpa=>?_⟩);have s3:=zC hpa (.lst []);have e3:=zB (H:=H2) (a:=pa) (o:=.lst []);generalize upd H2 pa (.lst [])=H3 at s3 e3⊢;have g3:=g2.trans s3;have d1:=it.d;have d2:=iu.d;have w1:=zIr t;have w2:=zIr u;exact yN (SqL.of (g3 _ _ hl)) (yJ (j:=0) rfl) (yN (SqL.of (g3 _ _ hl)) (yJ (j:=1) rfl) ⟨d,pa,vo,vn,ys,[],t,u,rfl,s3 _ _ hd,e3,Rep.same g3 _ _ ho,Rep.same g3 _ _ hn,it.f,iu.f,by lia,by lia,hyl,hD.same s3,d1,by show 0+T.dep t≤100;lia,fun H4 _=>q H4⟩)
end
theorem all_mk{l:W.OpenLaw}{w:World}{K:W.Frag}{h:Heap}{mg:Str→Option Value}{fa f0 f1 f2 f3 f4 f5 f6 f7 f8 f9 f10 f11 f12 f13 f14 f15 f16 f17 f18 f19 f20 f21 f22 f23 f24 f25 f26 f27 f28 f29 f30 f31 f32 f33 f34 f35 f36 f37 f38 f39:Addr}(X:K.In h)(G:h.Ns mainGlobals mg)(hfa:mg "law" =some (.ref fa))
  {od0 an0:Option Addr} {sl0:Array (Option Value)} {oc0 kV0 dc0 pm0 cd0 ct0:Value}
  {od1 an1:Option Addr} {sl1:Array (Option Value)} {oc1 kV1 dc1 pm1 cd1 ct1:Value}
  {od2 an2:Option Addr} {sl2:Array (Option Value)} {oc2 kV2 dc2 pm2 cd2 ct2:Value}
  {od3 an3:Option Addr} {sl3:Array (Option Value)} {oc3 kV3 dc3 pm3 cd3 ct3:Value}
  {od4 an4:Option Addr} {sl4:Array (Option Value)} {oc4 kV4 dc4 pm4 cd4 ct4:Value}
  {od5 an5:Option Addr} {sl5:Array (Option Value)} {oc5 kV5 dc5 pm5 cd5 ct5:Value}
  {od6 an6:Option Addr} {sl6:Array (Option Value)} {oc6 kV6 dc6 pm6 cd6 ct6:Value}
  {od7 an7:Option Addr} {sl7:Array (Option Value)} {oc7 kV7 dc7 pm7 cd7 ct7:Value}
  {od8 an8:Option Addr} {sl8:Array (Option Value)} {oc8 kV8 dc8 pm8 cd8 ct8:Value}
  {od9 an9:Option Addr} {sl9:Array (Option Value)} {oc9 kV9 dc9 pm9 cd9 ct9:Value}
  {od10 an10:Option Addr} {sl10:Array (Option Value)} {oc10 kV10 dc10 pm10 cd10 ct10:Value}
  {od11 an11:Option Addr} {sl11:Array (Option Value)} {oc11 kV11 dc11 pm11 cd11 ct11:Value}
  {od12 an12:Option Addr} {sl12:Array (Option Value)} {oc12 kV12 dc12 pm12 cd12 ct12:Value}
  {od13 an13:Option Addr} {sl13:Array (Option Value)} {oc13 kV13 dc13 pm13 cd13 ct13:Value}
  {od14 an14:Option Addr} {sl14:Array (Option Value)} {oc14 kV14 dc14 pm14 cd14 ct14:Value}
  {od15 an15:Option Addr} {sl15:Array (Option Value)} {oc15 kV15 dc15 pm15 cd15 ct15:Value}
  {od16 an16:Option Addr} {sl16:Array (Option Value)} {oc16 kV16 dc16 pm16 cd16 ct16:Value}
  {od17 an17:Option Addr} {sl17:Array (Option Value)} {oc17 kV17 dc17 pm17 cd17 ct17:Value}
  {od18 an18:Option Addr} {sl18:Array (Option Value)} {oc18 kV18 dc18 pm18 cd18 ct18:Value}
  {od19 an19:Option Addr} {sl19:Array (Option Value)} {oc19 kV19 dc19 pm19 cd19 ct19:Value}
  {od20 an20:Option Addr} {sl20:Array (Option Value)} {oc20 kV20 dc20 pm20 cd20 ct20:Value}
  {od21 an21:Option Addr} {sl21:Array (Option Value)} {oc21 kV21 dc21 pm21 cd21 ct21:Value}
  {od22 an22:Option Addr} {sl22:Array (Option Value)} {oc22 kV22 dc22 pm22 cd22 ct22:Value}
  {od23 an23:Option Addr} {sl23:Array (Option Value)} {oc23 kV23 dc23 pm23 cd23 ct23:Value}
  {od24 an24:Option Addr} {sl24:Array (Option Value)} {oc24 kV24 dc24 pm24 cd24 ct24:Value}
  {od25 an25:Option Addr} {sl25:Array (Option Value)} {oc25 kV25 dc25 pm25 cd25 ct25:Value}
  {od26 an26:Option Addr} {sl26:Array (Option Value)} {oc26 kV26 dc26 pm26 cd26 ct26:Value}
  {od27 an27:Option Addr} {sl27:Array (Option Value)} {oc27 kV27 dc27 pm27 cd27 ct27:Value}
  {od28 an28:Option Addr} {sl28:Array (Option Value)} {oc28 kV28 dc28 pm28 cd28 ct28:Value}
  {od29 an29:Option Addr} {sl29:Array (Option Value)} {oc29 kV29 dc29 pm29 cd29 ct29:Value}
  {od30 an30:Option Addr} {sl30:Array (Option Value)} {oc30 kV30 dc30 pm30 cd30 ct30:Value}
  {od31 an31:Option Addr} {sl31:Array (Option Value)} {oc31 kV31 dc31 pm31 cd31 ct31:Value}
  {od32 an32:Option Addr} {sl32:Array (Option Value)} {oc32 kV32 dc32 pm32 cd32 ct32:Value}
  {od33 an33:Option Addr} {sl33:Array (Option Value)} {oc33 kV33 dc33 pm33 cd33 ct33:Value}
  {od34 an34:Option Addr} {sl34:Array (Option Value)} {oc34 kV34 dc34 pm34 cd34 ct34:Value}
  {od35 an35:Option Addr} {sl35:Array (Option Value)} {oc35 kV35 dc35 pm35 cd35 ct35:Value}
  {od36 an36:Option Addr} {sl36:Array (Option Value)} {oc36 kV36 dc36 pm36 cd36 ct36:Value}
  {od37 an37:Option Addr} {sl37:Array (Option Value)} {oc37 kV37 dc37 pm37 cd37 ct37:Value}
  {od38 an38:Option Addr} {sl38:Array (Option Value)} {oc38 kV38 dc38 pm38 cd38 ct38:Value}
  {od39 an39:Option Addr} {sl39:Array (Option Value)} {oc39 kV39 dc39 pm39 cd39 ct39:Value}
  (a0:W.nsIn K mainGlobals "kind_of" =some (some (.ref f0)))
  (l0:K.lookup f0=some ⟨oc0,od0, .func (W.fnOf "kind_of" "kind_of" (yC gJ) (yB gJ) (zJ gJ) .none kV0 dc0 pm0 an0 cd0 ct0),sl0⟩)
  (c0:W.codeIn K cd0 "kind_of" =true)
  (k0:W.keepIn K (.ref f0)=true)
  (a1:W.nsIn K mainGlobals "alike" =some (some (.ref f1)))
  (l1:K.lookup f1=some ⟨oc1,od1, .func (W.fnOf "alike" "alike" (yC zHm) (yB zHm) (zJ zHm) .none kV1 dc1 pm1 an1 cd1 ct1),sl1⟩)
  (c1:W.codeIn K cd1 "alike" =true)
  (k1:W.keepIn K (.ref f1)=true)
  (a2:W.nsIn K mainGlobals "alike_rows" =some (some (.ref f2)))
  (l2:K.lookup f2=some ⟨oc2,od2, .func (W.fnOf "alike_rows" "alike_rows" (yC zBx) (yB zBx) (zJ zBx) .none kV2 dc2 pm2 an2 cd2 ct2),sl2⟩)
  (c2:W.codeIn K cd2 "alike_rows" =true)
  (k2:W.keepIn K (.ref f2)=true)
  (a3:W.nsIn K mainGlobals "alike_records" =some (some (.ref f3)))
  (l3:K.lookup f3=some ⟨oc3,od3, .func (W.fnOf "alike_records" "alike_records" (yC zCr) (yB zCr) (zJ zCr) .none kV3 dc3 pm3 an3 cd3 ct3),sl3⟩)
  (c3:W.codeIn K cd3 "alike_records" =true)
  (k3:W.keepIn K (.ref f3)=true)
  (a4:W.nsIn K mainGlobals "copied" =some (some (.ref f4)))
  (l4:K.lookup f4=some ⟨oc4,od4, .func (W.fnOf "copied" "copied" (yC sCp) (yB sCp) (zJ sCp) .none kV4 dc4 pm4 an4 cd4 ct4),sl4⟩)
  (c4:W.codeIn K cd4 "copied" =true)
  (k4:W.keepIn K (.ref f4)=true)
  (a5:W.nsIn K mainGlobals "difference" =some (some (.ref f5)))
  (l5:K.lookup f5=some ⟨oc5,od5, .func (W.fnOf "difference" "difference" (yC sDf) (yB sDf) (zJ sDf) .none kV5 dc5 pm5 an5 cd5 ct5),sl5⟩)
  (c5:W.codeIn K cd5 "difference" =true)
  (k5:W.keepIn K (.ref f5)=true)
  (a6:W.nsIn K mainGlobals "deeds_between" =some (some (.ref f6)))
  (l6:K.lookup f6=some ⟨oc6,od6, .func (W.fnOf "deeds_between" "deeds_between" (yC sDb) (yB sDb) (zJ sDb) .none kV6 dc6 pm6 an6 cd6 ct6),sl6⟩)
  (c6:W.codeIn K cd6 "deeds_between" =true)
  (k6:W.keepIn K (.ref f6)=true)
  (a7:W.nsIn K mainGlobals "deeds_between_records" =some (some (.ref f7)))
  (l7:K.lookup f7=some ⟨oc7,od7, .func (W.fnOf "deeds_between_records" "deeds_between_records" (yC sDc) (yB sDc) (zJ sDc) .none kV7 dc7 pm7 an7 cd7 ct7),sl7⟩)
  (c7:W.codeIn K cd7 "deeds_between_records" =true)
  (k7:W.keepIn K (.ref f7)=true)
  (a8:W.nsIn K mainGlobals "deeds_between_rows" =some (some (.ref f8)))
  (l8:K.lookup f8=some ⟨oc8,od8, .func (W.fnOf "deeds_between_rows" "deeds_between_rows" (yC sDr) (yB sDr) (zJ sDr) .none kV8 dc8 pm8 an8 cd8 ct8),sl8⟩)
  (c8:W.codeIn K cd8 "deeds_between_rows" =true)
  (k8:W.keepIn K (.ref f8)=true)
  (a9:W.nsIn K mainGlobals "alike_ahead" =some (some (.ref f9)))
  (l9:K.lookup f9=some ⟨oc9,od9, .func (W.fnOf "alike_ahead" "alike_ahead" (yC sAh) (yB sAh) (zJ sAh) .none kV9 dc9 pm9 an9 cd9 ct9),sl9⟩)
  (c9:W.codeIn K cd9 "alike_ahead" =true)
  (k9:W.keepIn K (.ref f9)=true)
  (a10:W.nsIn K mainGlobals "_law_cell" =some (some (.ref f10)))
  (l10:K.lookup f10=some ⟨oc10,od10, .func (W.fnOf "_law_cell" "_law_cell" (yC zEe) (yB zEe) (zJ zEe) .none kV10 dc10 pm10 an10 cd10 ct10),sl10⟩)
  (c10:W.codeIn K cd10 "_law_cell" =true)
  (k10:W.keepIn K (.ref f10)=true)
  (a11:W.nsIn K mainGlobals "_law_name_by" =some (some (.ref f11)))
  (l11:K.lookup f11=some ⟨oc11,od11, .func (W.fnOf "_law_name_by" "_law_name_by" (yC zEi) (yB zEi) (zJ zEi) .none kV11 dc11 pm11 an11 cd11 ct11),sl11⟩)
  (c11:W.codeIn K cd11 "_law_name_by" =true)
  (k11:W.keepIn K (.ref f11)=true)
  (a12:W.nsIn K mainGlobals "_law_signs" =some (some (.ref f12)))
  (l12:K.lookup f12=some ⟨oc12,od12, .func (W.fnOf "_law_signs" "_law_signs" (yC zAi) (yB zAi) (zJ zAi) .none kV12 dc12 pm12 an12 cd12 ct12),sl12⟩)
  (c12:W.codeIn K cd12 "_law_signs" =true)
  (k12:W.keepIn K (.ref f12)=true)
  (a13:W.nsIn K mainGlobals "_law_text_by" =some (some (.ref f13)))
  (l13:K.lookup f13=some ⟨oc13,od13, .func (W.fnOf "_law_text_by" "_law_text_by" (yC zEf) (yB zEf) (zJ zEf) .none kV13 dc13 pm13 an13 cd13 ct13),sl13⟩)
  (c13:W.codeIn K cd13 "_law_text_by" =true)
  (k13:W.keepIn K (.ref f13)=true)
  (a14:W.nsIn K mainGlobals "_law_number_by" =some (some (.ref f14)))
  (l14:K.lookup f14=some ⟨oc14,od14, .func (W.fnOf "_law_number_by" "_law_number_by" (yC zKt) (yB zKt) (zJ zKt) .none kV14 dc14 pm14 an14 cd14 ct14),sl14⟩)
  (c14:W.codeIn K cd14 "_law_number_by" =true)
  (k14:W.keepIn K (.ref f14)=true)
  (a15:W.nsIn K mainGlobals "_law_thing_by" =some (some (.ref f15)))
  (l15:K.lookup f15=some ⟨oc15,od15, .func (W.fnOf "_law_thing_by" "_law_thing_by" (yC kF) (yB kF) (zJ kF) .none kV15 dc15 pm15 an15 cd15 ct15),sl15⟩)
  (c15:W.codeIn K cd15 "_law_thing_by" =true)
  (k15:W.keepIn K (.ref f15)=true)
  (a16:W.nsIn K mainGlobals "_law_kind" =some (some (.ref f16)))
  (l16:K.lookup f16=some ⟨oc16,od16, .func (W.fnOf "_law_kind" "_law_kind" (yC zEb) (yB zEb) (zJ zEb) .none kV16 dc16 pm16 an16 cd16 ct16),sl16⟩)
  (c16:W.codeIn K cd16 "_law_kind" =true)
  (k16:W.keepIn K (.ref f16)=true)
  (a17:W.nsIn K mainGlobals "_law_rows_compare" =some (some (.ref f17)))
  (l17:K.lookup f17=some ⟨oc17,od17, .func (W.fnOf "_law_rows_compare" "_law_rows_compare" (yC zDb) (yB zDb) (zJ zDb) .none kV17 dc17 pm17 an17 cd17 ct17),sl17⟩)
  (c17:W.codeIn K cd17 "_law_rows_compare" =true)
  (k17:W.keepIn K (.ref f17)=true)
  (a18:W.nsIn K mainGlobals "_law_compare" =some (some (.ref f18)))
  (l18:K.lookup f18=some ⟨oc18,od18, .func (W.fnOf "_law_compare" "_law_compare" (yC zHo) (yB zHo) (zJ zHo) .none kV18 dc18 pm18 an18 cd18 ct18),sl18⟩)
  (c18:W.codeIn K cd18 "_law_compare" =true)
  (k18:W.keepIn K (.ref f18)=true)
  (a19:W.nsIn K mainGlobals "_law_same" =some (some (.ref f19)))
  (l19:K.lookup f19=some ⟨oc19,od19, .func (W.fnOf "_law_same" "_law_same" (yC zDr) (yB zDr) (zJ zDr) .none kV19 dc19 pm19 an19 cd19 ct19),sl19⟩)
  (c19:W.codeIn K cd19 "_law_same" =true)
  (k19:W.keepIn K (.ref f19)=true)
  (a20:W.nsIn K mainGlobals "_law_inner" =some (some (.ref f20)))
  (l20:K.lookup f20=some ⟨oc20,od20, .func (W.fnOf "_law_inner" "_law_inner" (yC zAf) (yB zAf) (zJ zAf) .none kV20 dc20 pm20 an20 cd20 ct20),sl20⟩)
  (c20:W.codeIn K cd20 "_law_inner" =true)
  (k20:W.keepIn K (.ref f20)=true)
  (a21:W.nsIn K mainGlobals "_law_depth" =some (some (.ref f21)))
  (l21:K.lookup f21=some ⟨oc21,od21, .func (W.fnOf "_law_depth" "_law_depth" (yC kK) (yB kK) (zJ kK) .none kV21 dc21 pm21 an21 cd21 ct21),sl21⟩)
  (c21:W.codeIn K cd21 "_law_depth" =true)
  (k21:W.keepIn K (.ref f21)=true)
  (a22:W.nsIn K mainGlobals "_law_size" =some (some (.ref f22)))
  (l22:K.lookup f22=some ⟨oc22,od22, .func (W.fnOf "_law_size" "_law_size" (yC zAz) (yB zAz) (zJ zAz) .none kV22 dc22 pm22 an22 cd22 ct22),sl22⟩)
  (c22:W.codeIn K cd22 "_law_size" =true)
  (k22:W.keepIn K (.ref f22)=true)
  (a23:W.nsIn K mainGlobals "_law_narrow" =some (some (.ref f23)))
  (l23:K.lookup f23=some ⟨oc23,od23, .func (W.fnOf "_law_narrow" "_law_narrow" (yC qL) (yB qL) (zJ qL) .none kV23 dc23 pm23 an23 cd23 ct23),sl23⟩)
  (c23:W.codeIn K cd23 "_law_narrow" =true)
  (k23:W.keepIn K (.ref f23)=true)
  (a24:W.nsIn K mainGlobals "_law_good" =some (some (.ref f24)))
  (l24:K.lookup f24=some ⟨oc24,od24, .func (W.fnOf "_law_good" "_law_good" (yC uX) (yB uX) (zJ uX) .none kV24 dc24 pm24 an24 cd24 ct24),sl24⟩)
  (c24:W.codeIn K cd24 "_law_good" =true)
  (k24:W.keepIn K (.ref f24)=true)
  (a25:W.nsIn K mainGlobals "_law_held" =some (some (.ref f25)))
  (l25:K.lookup f25=some ⟨oc25,od25, .func (W.fnOf "_law_held" "_law_held" (yC zBa) (yB zBa) (zJ zBa) .none kV25 dc25 pm25 an25 cd25 ct25),sl25⟩)
  (c25:W.codeIn K cd25 "_law_held" =true)
  (k25:W.keepIn K (.ref f25)=true)
  (a26:W.nsIn K mainGlobals "_law_put_in" =some (some (.ref f26)))
  (l26:K.lookup f26=some ⟨oc26,od26, .func (W.fnOf "_law_put_in" "_law_put_in" (yC sPi) (yB sPi) (zJ sPi) .none kV26 dc26 pm26 an26 cd26 ct26),sl26⟩)
  (c26:W.codeIn K cd26 "_law_put_in" =true)
  (k26:W.keepIn K (.ref f26)=true)
  (a27:W.nsIn K mainGlobals "_law_deed_on" =some (some (.ref f27)))
  (l27:K.lookup f27=some ⟨oc27,od27, .func (W.fnOf "_law_deed_on" "_law_deed_on" (yC sDo) (yB sDo) (zJ sDo) .none kV27 dc27 pm27 an27 cd27 ct27),sl27⟩)
  (c27:W.codeIn K cd27 "_law_deed_on" =true)
  (k27:W.keepIn K (.ref f27)=true)
  (a28:W.nsIn K mainGlobals "_law_base" =some (some (.ref f28)))
  (l28:K.lookup f28=some ⟨oc28,od28, .func (W.fnOf "_law_base" "_law_base" (yC sBa) (yB sBa) (zJ sBa) .none kV28 dc28 pm28 an28 cd28 ct28),sl28⟩)
  (c28:W.codeIn K cd28 "_law_base" =true)
  (k28:W.keepIn K (.ref f28)=true)
  (a29:W.nsIn K mainGlobals "_law_walk" =some (some (.ref f29)))
  (l29:K.lookup f29=some ⟨oc29,od29, .func (W.fnOf "_law_walk" "_law_walk" (yC sWk) (yB sWk) (zJ sWk) .none kV29 dc29 pm29 an29 cd29 ct29),sl29⟩)
  (c29:W.codeIn K cd29 "_law_walk" =true)
  (k29:W.keepIn K (.ref f29)=true)
  (a30:W.nsIn K mainGlobals "_law_step_at" =some (some (.ref f30)))
  (l30:K.lookup f30=some ⟨oc30,od30, .func (W.fnOf "_law_step_at" "_law_step_at" (yC sSa) (yB sSa) (zJ sSa) .none kV30 dc30 pm30 an30 cd30 ct30),sl30⟩)
  (c30:W.codeIn K cd30 "_law_step_at" =true)
  (k30:W.keepIn K (.ref f30)=true)
  (a31:W.nsIn K mainGlobals "_law_deed" =some (some (.ref f31)))
  (l31:K.lookup f31=some ⟨oc31,od31, .func (W.fnOf "_law_deed" "_law_deed" (yC sDe) (yB sDe) (zJ sDe) .none kV31 dc31 pm31 an31 cd31 ct31),sl31⟩)
  (c31:W.codeIn K cd31 "_law_deed" =true)
  (k31:W.keepIn K (.ref f31)=true)
  (a32:W.nsIn K mainGlobals "_law_deeds" =some (some (.ref f32)))
  (l32:K.lookup f32=some ⟨oc32,od32, .func (W.fnOf "_law_deeds" "_law_deeds" (yC sDs) (yB sDs) (zJ sDs) .none kV32 dc32 pm32 an32 cd32 ct32),sl32⟩)
  (c32:W.codeIn K cd32 "_law_deeds" =true)
  (k32:W.keepIn K (.ref f32)=true)
  (a33:W.nsIn K mainGlobals "_law_leaf_other" =some (some (.ref f33)))
  (l33:K.lookup f33=some ⟨oc33,od33, .func (W.fnOf "_law_leaf_other" "_law_leaf_other" (yC zEv) (yB zEv) (zJ zEv) .none kV33 dc33 pm33 an33 cd33 ct33),sl33⟩)
  (c33:W.codeIn K cd33 "_law_leaf_other" =true)
  (k33:W.keepIn K (.ref f33)=true)
  (a34:W.nsIn K mainGlobals "_law_varied" =some (some (.ref f34)))
  (l34:K.lookup f34=some ⟨oc34,od34, .func (W.fnOf "_law_varied" "_law_varied" (yC zHe) (yB zHe) (zJ zHe) .none kV34 dc34 pm34 an34 cd34 ct34),sl34⟩)
  (c34:W.codeIn K cd34 "_law_varied" =true)
  (k34:W.keepIn K (.ref f34)=true)
  (a35:W.nsIn K mainGlobals "_law_first_unlike" =some (some (.ref f35)))
  (l35:K.lookup f35=some ⟨oc35,od35, .func (W.fnOf "_law_first_unlike" "_law_first_unlike" (yC sFu) (yB sFu) (zJ sFu) .none kV35 dc35 pm35 an35 cd35 ct35),sl35⟩)
  (c35:W.codeIn K cd35 "_law_first_unlike" =true)
  (k35:W.keepIn K (.ref f35)=true)
  (a36:W.nsIn K mainGlobals "_law_touch_ok" =some (some (.ref f36)))
  (l36:K.lookup f36=some ⟨oc36,od36, .func (W.fnOf "_law_touch_ok" "_law_touch_ok" (yC sTo) (yB sTo) (zJ sTo) .none kV36 dc36 pm36 an36 cd36 ct36),sl36⟩)
  (c36:W.codeIn K cd36 "_law_touch_ok" =true)
  (k36:W.keepIn K (.ref f36)=true)
  (a37:W.nsIn K mainGlobals "_law_all_ok" =some (some (.ref f37)))
  (l37:K.lookup f37=some ⟨oc37,od37, .func (W.fnOf "_law_all_ok" "_law_all_ok" (yC sAo) (yB sAo) (zJ sAo) .none kV37 dc37 pm37 an37 cd37 ct37),sl37⟩)
  (c37:W.codeIn K cd37 "_law_all_ok" =true)
  (k37:W.keepIn K (.ref f37)=true)
  (a38:W.nsIn K mainGlobals "_law_pair" =some (some (.ref f38)))
  (l38:K.lookup f38=some ⟨oc38,od38, .func (W.fnOf "_law_pair" "_law_pair" (yC sPr) (yB sPr) (zJ sPr) .none kV38 dc38 pm38 an38 cd38 ct38),sl38⟩)
  (c38:W.codeIn K cd38 "_law_pair" =true)
  (k38:W.keepIn K (.ref f38)=true)
  (a39:W.nsIn K mainGlobals "law" =some (some (.ref f39)))
  (l39:K.lookup f39=some ⟨oc39,od39, .func (W.fnOf "law" "law" (yC zFl) (yB zFl) (zJ zFl) .none kV39 dc39 pm39 an39 cd39 ct39),sl39⟩)
  (c39:W.codeIn K cd39 "law" =true)
  (k39:W.keepIn K (.ref f39)=true)
  (z0:W.nsIn K mainGlobals "len" =some none)
  (z1:W.nsIn K mainGlobals "range" =some none)
  (z2:W.nsIn K mainGlobals "isinstance" =some none)
  (z3:W.nsIn K mainGlobals "all" =some none)
  (z4:W.nsIn K mainGlobals "sum" =some none)
  (z5:W.nsIn K mainGlobals "int" =some none)
  (z6:W.nsIn K mainGlobals "str" =some none)
  (z7:W.nsIn K mainGlobals "bool" =some none)
  (z8:W.nsIn K mainGlobals "list" =some none)
  (z9:W.nsIn K mainGlobals "dict" =some none)
  (z10:W.nsIn K mainGlobals "tuple" =some none)
  (y0:W.nsIn K mainGlobals "max" =some none)
  (y1:W.nsIn K mainGlobals "min" =some none)
  (y2:W.nsIn K mainGlobals "sorted" =some none)
  (r0:W.nsIn K mainGlobals "enumerate" =some none)
  (zz0:W.nsIn K mainGlobals "zip" =some none):
  ∃fd:FuncData,(∀(s:Shared)(v:Value),BindsTo s fd ⟨[v],[]⟩ [("_law_script",v)])∧∀base:Heap,K.In base→base.Ns mainGlobals mg→FnOk l.prog w K mg base CX0 107 fa fd ["_law_script"] (zJy K):=by
 have e:=hfa.symm.trans (nV X G a39);cases e;have Fkind_of:=yL (st:=gJ) l0 c0 k0;have bkind_of:=Fkind_of.binds (ps:=["thing"]) (by walk_at "b1");have mkind_of:=nV X G a0;have pkind_of:=k0;have Falike:=yL (st:=zHm) l1 c1 k1;have balike:=Falike.binds (ps:=["one","other"]) (by walk_at "b2");have malike:=nV X G a1;have palike:=k1;have Falike_rows:=yL (st:=zBx) l2 c2 k2;have balike_rows:=Falike_rows.binds (ps:=["one","other"]) (by walk_at "b2");have malike_rows:=nV X G a2;have palike_rows:=k2;have Falike_records:=yL (st:=zCr) l3 c3 k3;have balike_records:=Falike_records.binds (ps:=["one","other"]) (by walk_at "b2");have malike_records:=nV X G a3;have palike_records:=k3;have Fcopied:=yL (st:=sCp) l4 c4 k4;have bcopied:=Fcopied.binds (ps:=["thing"]) (by walk_at "b1");have mcopied:=nV X G a4;have pcopied:=k4;have Fdifference:=yL (st:=sDf) l5 c5 k5;have bdifference:=Fdifference.binds (ps:=["old","new"]) (by walk_at "b2");have mdifference:=nV X G a5;have pdifference:=k5;have Fdeeds_between:=yL (st:=sDb) l6 c6 k6;have bdeeds_between:=Fdeeds_between.binds (ps:=["old","new","path"]) (by walk_at "b3");have mdeeds_between:=nV X G a6;have pdeeds_between:=k6;have Fdeeds_between_records:=yL (st:=sDc) l7 c7 k7;have bdeeds_between_records:=Fdeeds_between_records.binds (ps:=["old","new","path"]) (by walk_at "b3");have mdeeds_between_records:=nV X G a7;have pdeeds_between_records:=k7;have Fdeeds_between_rows:=yL (st:=sDr) l8 c8 k8;have bdeeds_between_rows:=Fdeeds_between_rows.binds (ps:=["old","new","path"]) (by walk_at "b3");have mdeeds_between_rows:=nV X G a8;have pdeeds_between_rows:=k8;have Falike_ahead:=yL (st:=sAh) l9 c9 k9;have balike_ahead:=Falike_ahead.binds (ps:=["one","other"]) (by walk_at "b2");have malike_ahead:=nV X G a9;have palike_ahead:=k9;have F_law_cell:=yL (st:=zEe) l10 c10 k10;have b_law_cell:=F_law_cell.binds (ps:=["_law_script","_law_k"]) (by walk_at "b2");have m_law_cell:=nV X G a10;have p_law_cell:=k10;have F_law_name_by:=yL (st:=zEi) l11 c11 k11;have b_law_name_by:=F_law_name_by.binds (ps:=["_law_more"]) (by walk_at "b1");have m_law_name_by:=nV X G a11;have p_law_name_by:=k11;have F_law_signs:=yL (st:=zAi) l12 c12 k12;have b_law_signs:=F_law_signs.binds (ps:=[]) fun _ _ _ _ _ _ us hl=>by cases sN hl;rfl
 have m_law_signs:=nV X G a12;have p_law_signs:=k12;have F_law_text_by:=yL (st:=zEf) l13 c13 k13;have b_law_text_by:=F_law_text_by.binds (ps:=["_law_more"]) (by walk_at "b1");have m_law_text_by:=nV X G a13;have p_law_text_by:=k13;have F_law_number_by:=yL (st:=zKt) l14 c14 k14;have b_law_number_by:=F_law_number_by.binds (ps:=["_law_more"]) (by walk_at "b1");have m_law_number_by:=nV X G a14;have p_law_number_by:=k14;have F_law_thing_by:=yL (st:=kF) l15 c15 k15;have b_law_thing_by:=F_law_thing_by.binds (ps:=["_law_script","_law_k","_law_deep"]) (by walk_at "b3");have m_law_thing_by:=nV X G a15;have p_law_thing_by:=k15;have F_law_kind:=yL (st:=zEb) l16 c16 k16;have b_law_kind:=F_law_kind.binds (ps:=["_law_thing"]) (by walk_at "b1");have m_law_kind:=nV X G a16;have p_law_kind:=k16;have F_law_rows_compare:=yL (st:=zDb) l17 c17 k17;have b_law_rows_compare:=F_law_rows_compare.binds (ps:=["_law_one","_law_other"]) (by walk_at "b2");have m_law_rows_compare:=nV X G a17;have p_law_rows_compare:=k17;have F_law_compare:=yL (st:=zHo) l18 c18 k18;have b_law_compare:=F_law_compare.binds (ps:=["_law_one","_law_other"]) (by walk_at "b2");have m_law_compare:=nV X G a18;have p_law_compare:=k18;have F_law_same:=yL (st:=zDr) l19 c19 k19;have b_law_same:=F_law_same.binds (ps:=["_law_one","_law_other"]) (by walk_at "b2");have m_law_same:=nV X G a19;have p_law_same:=k19;have F_law_inner:=yL (st:=zAf) l20 c20 k20;have b_law_inner:=F_law_inner.binds (ps:=["_law_thing"]) (by walk_at "b1");have m_law_inner:=nV X G a20;have p_law_inner:=k20;have F_law_depth:=yL (st:=kK) l21 c21 k21;have b_law_depth:=F_law_depth.binds (ps:=["_law_thing"]) (by walk_at "b1");have m_law_depth:=nV X G a21;have p_law_depth:=k21;have F_law_size:=yL (st:=zAz) l22 c22 k22;have b_law_size:=F_law_size.binds (ps:=["_law_thing"]) (by walk_at "b1");have m_law_size:=nV X G a22;have p_law_size:=k22;have F_law_narrow:=yL (st:=qL) l23 c23 k23;have b_law_narrow:=F_law_narrow.binds (ps:=["_law_thing"]) (by walk_at "b1");have m_law_narrow:=nV X G a23;have p_law_narrow:=k23;have F_law_good:=yL (st:=uX) l24 c24 k24;have b_law_good:=F_law_good.binds (ps:=["_law_thing"]) (by walk_at "b1");have m_law_good:=nV X G a24;have p_law_good:=k24;have F_law_held:=yL (st:=zBa) l25 c25 k25;have b_law_held:=F_law_held.binds (ps:=["_law_thing"]) (by walk_at "b1");have m_law_held:=nV X G a25;have p_law_held:=k25;have F_law_put_in:=yL (st:=sPi) l26 c26 k26;have b_law_put_in:=F_law_put_in.binds (ps:=["_law_thing","_law_word","_law_step","_law_new"]) (by walk_at "b4");have m_law_put_in:=nV X G a26;have p_law_put_in:=k26;have F_law_deed_on:=yL (st:=sDo) l27 c27 k27;have b_law_deed_on:=F_law_deed_on.binds (ps:=["_law_thing","_law_deed_here"]) (by walk_at "b2");have m_law_deed_on:=nV X G a27;have p_law_deed_on:=k27;have F_law_base:=yL (st:=sBa) l28 c28 k28;have b_law_base:=F_law_base.binds (ps:=["_law_script","_law_k"]) (by walk_at "b2");have m_law_base:=nV X G a28;have p_law_base:=k28;have F_law_walk:=yL (st:=sWk) l29 c29 k29;have b_law_walk:=F_law_walk.binds (ps:=["_law_script","_law_k","_law_thing"]) (by walk_at "b3");have m_law_walk:=nV X G a29;have p_law_walk:=k29;have F_law_step_at:=yL (st:=sSa) l30 c30 k30;have b_law_step_at:=F_law_step_at.binds (ps:=["_law_there","_law_more"]) (by walk_at "b2");have m_law_step_at:=nV X G a30;have p_law_step_at:=k30;have F_law_deed:=yL (st:=sDe) l31 c31 k31;have b_law_deed:=F_law_deed.binds (ps:=["_law_script","_law_k","_law_thing"]) (by walk_at "b3");have m_law_deed:=nV X G a31;have p_law_deed:=k31;have F_law_deeds:=yL (st:=sDs) l32 c32 k32;have b_law_deeds:=F_law_deeds.binds (ps:=["_law_script","_law_k","_law_thing","_law_many"]) (by walk_at "b4");have m_law_deeds:=nV X G a32;have p_law_deeds:=k32;have F_law_leaf_other:=yL (st:=zEv) l33 c33 k33;have b_law_leaf_other:=F_law_leaf_other.binds (ps:=["_law_thing","_law_more"]) (by walk_at "b2");have m_law_leaf_other:=nV X G a33;have p_law_leaf_other:=k33;have F_law_varied:=yL (st:=zHe) l34 c34 k34;have b_law_varied:=F_law_varied.binds (ps:=["_law_thing","_law_more","_law_names"]) (by walk_at "b3");have m_law_varied:=nV X G a34;have p_law_varied:=k34;have F_law_first_unlike:=yL (st:=sFu) l35 c35 k35;have b_law_first_unlike:=F_law_first_unlike.binds (ps:=["_law_one","_law_other"]) (by walk_at "b2");have m_law_first_unlike:=nV X G a35;have p_law_first_unlike:=k35;have F_law_touch_ok:=yL (st:=sTo) l36 c36 k36;have b_law_touch_ok:=F_law_touch_ok.binds (ps:=["_law_deeds_here","_law_path","_law_old","_law_new"]) (by walk_at "b4");have m_law_touch_ok:=nV X G a36;have p_law_touch_ok:=k36;have F_law_all_ok:=yL (st:=sAo) l37 c37 k37;have b_law_all_ok:=F_law_all_ok.binds (ps:=["_law_deeds_here","_law_path","_law_old","_law_new"]) (by walk_at "b4");have m_law_all_ok:=nV X G a37;have p_law_all_ok:=k37;have F_law_pair:=yL (st:=sPr) l38 c38 k38;have b_law_pair:=F_law_pair.binds (ps:=["_law_script"]) (by walk_at "b1");have m_law_pair:=nV X G a38;have p_law_pair:=k38;have Flaw:=yL (st:=zFl) l39 c39 k39;have blaw:=Flaw.binds (ps:=["_law_script"]) (by walk_at "b1");have mlaw:=nV X G a39;have plaw:=k39;have B:Bl mg:=⟨pG X G z0,pG X G z1,pG X G z2,pG X G z3,pG X G z4,pG X G z5,pG X G z6,pG X G z7,pG X G z8,pG X G z9,pG X G z10⟩;have B2:Bl2 mg:=⟨B,pG X G y0,pG X G y1,pG X G y2⟩;have B4:Bl4 mg:=⟨B2,pG X G r0⟩;have B6:Bl6 mg:=⟨B2,pG X G zz0⟩;refine⟨W.fnOf "law" "law" (yC zFl) (yB zFl) (zJ zFl) .none kV39 dc39 pm39 an39 cd39 ct39,fun s v=>.of_eq rfl,fun base _ _=>?_⟩;have Gcell:Dn l.prog w K mg base 1 "_law_cell" ["_law_script","_law_k"] (vD K):=⟨_,_,zRa F_law_cell B,b_law_cell,p_law_cell,m_law_cell⟩;have Gnum:Dn l.prog w K mg base 1 "_law_number_by" ["_law_more"] zHn:=⟨_,_,zTb F_law_number_by,b_law_number_by,p_law_number_by,m_law_number_by⟩;have Gname:Dn l.prog w K mg base 1 "_law_name_by" ["_law_more"] jX:=⟨_,_,zRp F_law_name_by B,b_law_name_by,p_law_name_by,m_law_name_by⟩;have Gsigns:Dn l.prog w K mg base 1 "_law_signs" [] zFj:=⟨_,_,zOt F_law_signs,b_law_signs,p_law_signs,m_law_signs⟩;have Gtext:Dn l.prog w K mg base 2 "_law_text_by" ["_law_more"] zBw:=⟨_,_,zQs F_law_text_by B Gsigns,b_law_text_by,p_law_text_by,m_law_text_by⟩;have Gthing:Dn l.prog w K mg base (3+3) "_law_thing_by" ["_law_script","_law_k","_law_deep"] (jL K 3):=⟨_,_,zLn (zEk F_law_thing_by B Gcell Gnum Gtext Gname b_law_thing_by p_law_thing_by m_law_thing_by),b_law_thing_by,p_law_thing_by,m_law_thing_by⟩;have Gheld:Dn l.prog w K mg base (1+20) "_law_held" ["_law_thing"] (gQ 20):=⟨_,_,zGq F_law_held B b_law_held p_law_held m_law_held 20,b_law_held,p_law_held,m_law_held⟩;have Gco:Dn l.prog w K mg base (1+20) "_law_held" ["_law_thing"] (zAr 20):=⟨_,_,zOa F_law_held B b_law_held p_law_held m_law_held 20,b_law_held,p_law_held,m_law_held⟩;have Gkind:Dn l.prog w K mg base 1 "_law_kind" ["_law_thing"] zAo:=⟨_,_,zPp F_law_kind B,b_law_kind,p_law_kind,m_law_kind⟩;have Gcmp:Dn l.prog w K mg base (2+2*40) "_law_compare" ["_law_one","_law_other"] (zDv 40):=⟨_,_,zJg F_law_compare F_law_rows_compare B2 Gkind b_law_compare p_law_compare m_law_compare b_law_rows_compare p_law_rows_compare m_law_rows_compare 40,b_law_compare,p_law_compare,m_law_compare⟩;have Gsame:Dn l.prog w K mg base (2+2*40+1) "_law_same" ["_law_one","_law_other"] (zCz 40):=⟨_,_,zQk F_law_same B2 Gkind Gcmp,b_law_same,p_law_same,m_law_same⟩;have Gleaf:Dn l.prog w K mg base 1 "_law_leaf_other" ["_law_thing","_law_more"] zFo:=⟨_,_,zPv F_law_leaf_other B,b_law_leaf_other,p_law_leaf_other,m_law_leaf_other⟩;have Gvar:Dn l.prog w K mg base (21+20) "_law_varied" ["_law_thing","_law_more","_law_names"] (zDl 20):=⟨_,_,zKm F_law_varied B2 Gleaf Gheld b_law_varied p_law_varied m_law_varied 20,b_law_varied,p_law_varied,m_law_varied⟩;have Gkr:Dn l.prog w K mg base 1 "kind_of" ["thing"] zBi:=⟨_,_,zIs Fkind_of B,bkind_of,pkind_of,mkind_of⟩;have Galk:Dn l.prog w K mg base (2+2*20) "alike" ["one","other"] (jP 20):=⟨_,_,zKj Falike Falike_rows Falike_records B4 Gkr balike palike malike balike_rows palike_rows malike_rows balike_records palike_records malike_records 20,balike,palike,malike⟩;have Gcp:Dn l.prog w K mg base (1+20) "copied" ["thing"] (zCl 20):=⟨_,_,zOe Fcopied B bcopied pcopied mcopied 20,bcopied,pcopied,mcopied⟩;have Gah:Dn l.prog w K mg base (2+2*20+1) "alike_ahead" ["one","other"] (zMx 20):=⟨_,_,ok_ah Falike_ahead B6 Galk,balike_ahead,palike_ahead,malike_ahead⟩;have Ga:∀k,43≤k→Dn l.prog w K mg base k "alike" ["one","other"] (jP 20):=fun k hk=>by obtain⟨_,_,z,b,p,m⟩:=Galk;exact⟨_,_,FnOk.mono z (by lia),b,p,m⟩
 have Gh:∀k,43≤k→Dn l.prog w K mg base k "alike_ahead" ["one","other"] (zMx 20):=fun k hk=>by obtain⟨_,_,z,b,p,m⟩:=Gah;exact⟨_,_,FnOk.mono z (by lia),b,p,m⟩
 have Gc:∀k,43≤k→Dn l.prog w K mg base k "copied" ["thing"] (zCl 20):=fun k hk=>by obtain⟨_,_,z,b,p,m⟩:=Gcp;exact⟨_,_,FnOk.mono z (by lia),b,p,m⟩
 have Gdb:Dn l.prog w K mg base (43+2+2*20) "deeds_between" ["old","new","path"] (zIy 20):=⟨_,_,zPo Fdeeds_between Fdeeds_between_rows Fdeeds_between_records B6 Ga Gh Gc bdeeds_between pdeeds_between mdeeds_between bdeeds_between_rows pdeeds_between_rows mdeeds_between_rows bdeeds_between_records pdeeds_between_records mdeeds_between_records 20,bdeeds_between,pdeeds_between,mdeeds_between⟩;have Gdf:Dn l.prog w K mg base 106 "difference" ["old","new"] zSp:=⟨_,_,FnOk.mono (ok_df Fdifference Gdb) (show 43+2+2*20+1≤106 by decide),bdifference,pdifference,mdifference⟩;have Gnr:Dn l.prog w K mg base 1 "_law_inner" ["_law_thing"] vZ:=⟨_,_,zPf F_law_inner B,b_law_inner,p_law_inner,m_law_inner⟩;have Gdp:Dn l.prog w K mg base (2+20) "_law_depth" ["_law_thing"] (gI 20):=⟨_,_,zDp F_law_depth B2 Gnr b_law_depth p_law_depth m_law_depth 20,b_law_depth,p_law_depth,m_law_depth⟩;have Gsz:Dn l.prog w K mg base (2+20) "_law_size" ["_law_thing"] (uV 20):=⟨_,_,zGw F_law_size B Gnr b_law_size p_law_size m_law_size 20,b_law_size,p_law_size,m_law_size⟩;have Gnw:Dn l.prog w K mg base (2+20) "_law_narrow" ["_law_thing"] (qD 20):=⟨_,_,zBz F_law_narrow B Gnr b_law_narrow p_law_narrow m_law_narrow 20,b_law_narrow,p_law_narrow,m_law_narrow⟩;have Ggd:Dn l.prog w K mg base 41 "_law_good" ["_law_thing"] zUp:=⟨_,_,FnOk.mono (zOw F_law_good B Gnw Gdp Gsz) (show 23≤41 by decide),b_law_good,p_law_good,m_law_good⟩;have Gfu:Dn l.prog w K mg base 84 "_law_first_unlike" ["_law_one","_law_other"] (zSz 40):=⟨_,_,ok_fu F_law_first_unlike B2 Gsame,b_law_first_unlike,p_law_first_unlike,m_law_first_unlike⟩;have Gsame2:Dn l.prog w K mg base 84 "_law_same" ["_law_one","_law_other"] (zCz 40):=by obtain⟨_,_,z,b,p,m⟩:=Gsame;exact⟨_,_,FnOk.mono z (by decide),b,p,m⟩
 have Gto:Dn l.prog w K mg base 85 "_law_touch_ok" ["_law_deeds_here","_law_path","_law_old","_law_new"] (zMu 40):=⟨_,_,ok_to F_law_touch_ok B2 Gsame2 Gfu,b_law_touch_ok,p_law_touch_ok,m_law_touch_ok⟩;have Gta:∀k,85≤k→Dn l.prog w K mg base k "_law_touch_ok" ["_law_deeds_here","_law_path","_law_old","_law_new"] (zMu 40):=fun k hk=>by obtain⟨_,_,z,b,p,m⟩:=Gto;exact⟨_,_,FnOk.mono z (by lia),b,p,m⟩
 have Gao:Dn l.prog w K mg base 106 "_law_all_ok" ["_law_deeds_here","_law_path","_law_old","_law_new"] (zPa 20):=⟨_,_,FnOk.mono (zNv F_law_all_ok B2 Gta b_law_all_ok p_law_all_ok m_law_all_ok 20) (show 85+1+20≤106 by decide),b_law_all_ok,p_law_all_ok,m_law_all_ok⟩;have Gsa:Dn l.prog w K mg base 6 "_law_step_at" ["_law_there","_law_more"] zRn:=⟨_,_,FnOk.mono (ok_sa F_law_step_at B2 Gname) (show 2≤6 by decide),b_law_step_at,p_law_step_at,m_law_step_at⟩;have Gwk:Dn l.prog w K mg base 6 "_law_walk" ["_law_script","_law_k","_law_thing"] (zSi K):=⟨_,_,FnOk.mono (ok_wk F_law_walk B2 Gcell) (show 2≤6 by decide),b_law_walk,p_law_walk,m_law_walk⟩;have Gcell6:Dn l.prog w K mg base 6 "_law_cell" ["_law_script","_law_k"] (vD K):=by obtain⟨_,_,z,b,p,m⟩:=Gcell;exact⟨_,_,FnOk.mono z (by decide),b,p,m⟩
 have Gde:Dn l.prog w K mg base 23 "_law_deed" ["_law_script","_law_k","_law_thing"] (zSv K):=⟨_,_,FnOk.mono (ok_de F_law_deed B2 Gcell6 Gwk Gsa Gthing) (show 7≤23 by decide),b_law_deed,p_law_deed,m_law_deed⟩;have Gpi:Dn l.prog w K mg base 22 "_law_put_in" ["_law_thing","_law_word","_law_step","_law_new"] zTr:=⟨_,_,FnOk.mono (ok_pi F_law_put_in B Gco) (show 1+20+1≤22 by decide),b_law_put_in,p_law_put_in,m_law_put_in⟩;have Gco22:Dn l.prog w K mg base 22 "_law_held" ["_law_thing"] (zAr 20):=by obtain⟨_,_,z,b,p,m⟩:=Gco;exact⟨_,_,FnOk.mono z (by decide),b,p,m⟩
 have Gdo:Dn l.prog w K mg base 23 "_law_deed_on" ["_law_thing","_law_deed_here"] zSw:=⟨_,_,ok_do F_law_deed_on B Gco22 Gpi,b_law_deed_on,p_law_deed_on,m_law_deed_on⟩;have Gco23:Dn l.prog w K mg base 23 "_law_held" ["_law_thing"] (zAr 20):=by obtain⟨_,_,z,b,p,m⟩:=Gco;exact⟨_,_,FnOk.mono z (by decide),b,p,m⟩
 have Gds:Dn l.prog w K mg base 41 "_law_deeds" ["_law_script","_law_k","_law_thing","_law_many"] (zSg K):=⟨_,_,FnOk.mono (ok_ds F_law_deeds B2 Gco23 Gde Gdo) (show 24≤41 by decide),b_law_deeds,p_law_deeds,m_law_deeds⟩;have Gba:Dn l.prog w K mg base 41 "_law_base" ["_law_script","_law_k"] (zUb K):=⟨_,_,FnOk.mono (ok_ba F_law_base B2 Gcell6 Gthing) (show 7≤41 by decide),b_law_base,p_law_base,m_law_base⟩;have Gcell41:Dn l.prog w K mg base 41 "_law_cell" ["_law_script","_law_k"] (vD K):=by obtain⟨_,_,z,b,p,m⟩:=Gcell;exact⟨_,_,FnOk.mono z (by decide),b,p,m⟩
 have Gco41:Dn l.prog w K mg base 41 "_law_held" ["_law_thing"] (zAr 20):=by obtain⟨_,_,z,b,p,m⟩:=Gco;exact⟨_,_,FnOk.mono z (by decide),b,p,m⟩
 have Gname41:Dn l.prog w K mg base 41 "_law_name_by" ["_law_more"] jX:=by obtain⟨_,_,z,b,p,m⟩:=Gname;exact⟨_,_,FnOk.mono z (by decide),b,p,m⟩
 have Gpr:Dn l.prog w K mg base 106 "_law_pair" ["_law_script"] (zTw K):=⟨_,_,FnOk.mono (ok_pr F_law_pair B2 Gcell41 Gba Gco41 Gname41 Gvar Gds Ggd) (show 42≤106 by decide),b_law_pair,p_law_pair,m_law_pair⟩;exact zUe Flaw Gpr Gdf Gao
theorem walk{l:W.OpenLaw}{q:Program}{loose:List Str}{XP:(Str→Option Value)→Heap→Prop}{YP:World→Heap→Prop}{d:DefRec}{K:Params→W.Frag}(hn:l.most=some 63)(hdf:d.params.defaults= [])
  (hY:∀(w:World)(h:Heap),YP w h→(K w.params).In h)
  (F:∀(w:World)(mg:Str→Option Value)(fa:Addr)(h:Heap),(K w.params).In h→h.Ns mainGlobals mg→mg d.name=some (.ref fa)→
   ∃fd:FuncData,(∀(s:Shared)(u:Value),BindsTo s fd ⟨[u],[]⟩ [("_law_script",u)])∧∀base:Heap,(K w.params).In base→base.Ns mainGlobals mg→FnOk l.prog w (K w.params) mg base CX0 107 fa fd ["_law_script"] (zJy (K w.params))):
  W.WalkO q loose XP YP l.row.toRowW d [] (fun f vs=>PySem.call f vs):=
 L2.zKp (n:=63) (k:=107) (x:="_law_script") (CX:=fun _=>CX0) (sp:=fun w=>zJy (K w.params)) hn (by decide) hdf ⟨rfl,by decide,by decide⟩ hY F (fun _ _ a ns hl _ hS=>⟨a,ns,rfl,hS,hl,fun _=>rfl⟩) fun _ _ _ _ _ z=>z
end K45
end
namespace PySem.W.Fast
def tw7788668763715353434:=()
def tw7808187869953854975:=()
def tw5413593314369827143:=()
def tw15500140786573562492:=()
def tw12989196579090932971:=()
def tw12130196874685333899:=()
def tw4153071798253411887:=()
def tw8573850426193486403:=()
def tw15879443491194341018:=()
def tw3616097424564562800:=()
def tw15196503460879559235:=()
def tw1306183378960750814:=()
def tw14999475495561616965:=()
def tw15145038763422967110:=()
def tw14172594871465168189:=()
def tw7488693950132122172:=()
def tw14243823064886184943:=()
def tw7077466415665963146:=()
def tw17080716724244607378:=()
def tw15944471867701834729:=()
def tw12960525510931011997:=()
def tw13568322732238702351:=()
def tw10051927586664711753:=()
def tw17541979007080275658:=()
def tw11673007653455061121:=()
def tw8500454758796151558:=()
def tw1229773730806089397:=()
def tw12584822823725003121:=()
def tw17941166532441162433:=()
def tw4509571096354629468:=()
def tw4096055738505969416:=()
def tw13634803772778575175:=()
def tw7926618503870520452:=()
def tw6281398996962701125:=()
def tw1645403541527016014:=()
def tw11285541059291378151:=()
def tw3050156671180404812:=()
def tw5727641102335856726:=()
def tw16786210854749496631:=()
def tw5900624556314401896:=()
def tw10240177141288708515:=()
def tw5346432470630616782:=()
def tw17352301235670201248:=()
def tw16582839288257435151:=()
def tw11091136118456870991:=()
def tw11815454421692581229:=()
def tw15790772841977376363:=()
def tw7730528217151440636:=()
def tw3995820141386918430:=()
def tw2536690090838147550:=()
def tw39089850141194190:=()
def tw8931941994596132745:=()
def tw13004550837614554580:=()
def tw3856287738828937081:=()
def tw5614435363101756139:=()
def tw2016279775724913046:=()
def tw2494660178837544747:=()
def tw14196375117068830087:=()
def tw13060180806193345517:=()
def tw260525300002136506:=()
def tw16433100361979784196:=()
def tw15626237949473621442:=()
def tw1592830577107677817:=()
def tw2652395151182243046:=()
def tw13501992441117764508:=()
def tw17261064273651562593:=()
def tw12310696962719799408:=()
def tw10611355236913581902:=()
def tw1015796731284672580:=()
def tw16807855063530206572:=()
def tw17617929400809300839:=()
def tw2158818961261147075:=()
def tw3489529212930164109:=()
def tw5192415123187463945:=()
def tw7119956009028439033:=()
def tw3166315176224738061:=()
def tw2009424541025164536:=()
def tw12288024801377838941:=()
def tw1590040058883143159:=()
def tw9148894234353230593:=()
def tw13907022052081489094:=()
def tw4131852203870425292:=()
def tw17207977922633722092:=()
def tw12167590526509548458:=()
def tw1826352646909969843:=()
def tw9540581319421894122:=()
def tw606306921082208163:=()
def tw5658659671522296037:=()
def tw3268627787267455020:=()
def tw2185777647417278592:=()
def tw9955527261288641717:=()
def tw15658207987505819533:=()
def tw5226409407961478215:=()
def tw8059043092297048853:=()
def tw2076002070673656046:=()
def tw13114765858349002180:=()
def tw16110796082264385526:=()
def tw7437176327183011906:=()
def tw9772144401445305324:=()
def tw14150483743738547166:=()
def tw2165405067379859165:=()
def tw6296694726947104731:=()
def tw15599157549501444815:=()
def tw367870361200682294:=()
def tw13990107797159329256:=()
def tw14816775637386266829:=()
def tw16235660435830987015:=()
def tw349870535816889104:=()
def tw18104333442001662836:=()
def tw15380736217463503330:=()
def tw17743672356239985469:=()
def tw18274919170612486692:=()
def tw2297613274228721888:=()
def tw6873047294529303192:=()
def tw11032786371136726116:=()
def tw2609999259453625193:=()
def tw10731168050276986461:=()
def tw1544672628985067491:=()
def tw6695215276796392435:=()
def tw14861607030568770813:=()
def tw18179941096970050983:=()
def tw16323796014452277676:=()
def tw7151308530906533744:=()
def tw17788081146493996502:=()
def tw1013936425865054825:=()
def tw12833153126417689354:=()
def tw4417541128911338139:=()
def tw16359823195494305551:=()
def tw16168511545244605269:=()
def tw10450330642790265794:=()
def tw5109237895744126265:=()
def tw6705966075569029160:=()
def tw13825195785723703398:=()
def tw17899395739105191236:=()
def tw17005665554885930848:=()
def tw5698664011194298752:=()
def tw5913100291159936233:=()
def tw12233688974538232164:=()
def tw8455697891839225565:=()
def tw11373624986151694066:=()
def tw2421267523280075205:=()
def tw6500247846660934677:=()
def tw11903578055356763680:=()
def tw17586081258367585242:=()
def tw738962790810496149:=()
def tw5567348973240387837:=()
def tw9047676237271854570:=()
def tw13862537901667259888:=()
end PySem.W.Fast
open PySem PySem.W PyProof.Rows
set_option maxRecDepth 100000 in
set_option maxHeartbeats 0 in
theorem PySem.Challenge.cw_cabinet_k45_untouched_holds : PySem.Challenge.rw_cabinet_k45_untouched.Holds := by
  w_on;o_law;k_head;(case hw=>w_witness2)
  k_fill
  refine K45.walk (l:=PySem.Challenge.rw_cabinet_k45_untouched) rfl rfl (fun w h Y=>PySem.W.kIn_of Y) ?F
  case F=>
    intro w mg fa h KX G hmg;refine' K45.all_mk KX G hmg ?a0 ?l0 ?c0 ?k0 ?a1 ?l1 ?c1 ?k1 ?a2 ?l2 ?c2 ?k2 ?a3 ?l3 ?c3 ?k3 ?a4 ?l4 ?c4 ?k4 ?a5 ?l5 ?c5 ?k5 ?a6 ?l6 ?c6 ?k6 ?a7 ?l7 ?c7 ?k7 ?a8 ?l8 ?c8 ?k8 ?a9 ?l9 ?c9 ?k9 ?a10 ?l10 ?c10 ?k10 ?a11 ?l11 ?c11 ?k11 ?a12 ?l12 ?c12 ?k12 ?a13 ?l13 ?c13 ?k13 ?a14 ?l14 ?c14 ?k14 ?a15 ?l15 ?c15 ?k15 ?a16 ?l16 ?c16 ?k16 ?a17 ?l17 ?c17 ?k17 ?a18 ?l18 ?c18 ?k18 ?a19 ?l19 ?c19 ?k19 ?a20 ?l20 ?c20 ?k20 ?a21 ?l21 ?c21 ?k21 ?a22 ?l22 ?c22 ?k22 ?a23 ?l23 ?c23 ?k23 ?a24 ?l24 ?c24 ?k24 ?a25 ?l25 ?c25 ?k25 ?a26 ?l26 ?c26 ?k26 ?a27 ?l27 ?c27 ?k27 ?a28 ?l28 ?c28 ?k28 ?a29 ?l29 ?c29 ?k29 ?a30 ?l30 ?c30 ?k30 ?a31 ?l31 ?c31 ?k31 ?a32 ?l32 ?c32 ?k32 ?a33 ?l33 ?c33 ?k33 ?a34 ?l34 ?c34 ?k34 ?a35 ?l35 ?c35 ?k35 ?a36 ?l36 ?c36 ?k36 ?a37 ?l37 ?c37 ?k37 ?a38 ?l38 ?c38 ?k38 ?a39 ?l39 ?c39 ?k39 ?z0 ?z1 ?z2 ?z3 ?z4 ?z5 ?z6 ?z7 ?z8 ?z9 ?z10 ?y0 ?y1 ?y2 ?r0 ?zz0
    case a0 | l0 | c0 | k0 | a1 | l1 | c1 | k1 | a2 | l2 | c2 | k2 | a3 | l3 | c3 | k3 | a4 | l4 | c4 | k4 | a5 | l5 | c5 | k5 | a6 | l6 | c6 | k6 | a7 | l7 | c7 | k7 | a8 | l8 | c8 | k8 | a9 | l9 | c9 | k9 | a10 | l10 | c10 | k10 | a11 | l11 | c11 | k11 | a12 | l12 | c12 | k12 | a13 | l13 | c13 | k13 | a14 | l14 | c14 | k14 | a15 | l15 | c15 | k15 | a16 | l16 | c16 | k16 | a17 | l17 | c17 | k17 | a18 | l18 | c18 | k18 | a19 | l19 | c19 | k19 | a20 | l20 | c20 | k20 | a21 | l21 | c21 | k21 | a22 | l22 | c22 | k22 | a23 | l23 | c23 | k23 | a24 | l24 | c24 | k24 | a25 | l25 | c25 | k25 | a26 | l26 | c26 | k26 | a27 | l27 | c27 | k27 | a28 | l28 | c28 | k28 | a29 | l29 | c29 | k29 | a30 | l30 | c30 | k30 | a31 | l31 | c31 | k31 | a32 | l32 | c32 | k32 | a33 | l33 | c33 | k33 | a34 | l34 | c34 | k34 | a35 | l35 | c35 | k35 | a36 | l36 | c36 | k36 | a37 | l37 | c37 | k37 | a38 | l38 | c38 | k38 | a39 | l39 | c39 | k39 | z0 | z1 | z2 | z3 | z4 | z5 | z6 | z7 | z8 | z9 | z10 | y0 | y1 | y2 | r0 | zz0=>k_is
