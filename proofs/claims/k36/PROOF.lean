import PyProof.Rows.All
import Wide.All
import OpenK.AllK
import Wide.FinOn
import Lean
import PyProof.EqAt
import PyProof.EqKinds
import PyProof.TupleCall
import PyProof.StrReplace2
import PyProof.DictItems
import PyProof.EnumStmt
import PyProof.EnumFor
import PyProof.DictItemsLoops
import PyProof.ZipIter
import PyProof.IsRules
import PyProof.Rows.SortRev
import KE.KIntText
import OpenK.KRaise
import KE.TryInHelper
import PyProof.RulesRaise
import PyProof.Rows.RaiseClass
import PyProof.RaisesMany
import PyProof.ExcClass3
import PyProof.ExcBaseAll.ValueError
import KE.KTryMore
import PyProof.InstStoreFacts
import OpenK.KMake
import PyProof.ExcAttrAll.ValueError
import KE.KIsAll
import OpenK.KWalk
import OpenK.KDescr
import PyProof.PureStr
import PyProof.ExcStr
import PyProof.CallStr
import KE.KCallOwn
import KE.KSortTup
import PyProof.Rows.StrCut
import PyProof.StrBlock
import KE.IntTextLaws
import PyProof.DictValues
import PyProof.DictWalks
import PyProof.Rows.Range3
import KE.KDictOf
import PySem.Challenge.RW_cabinet_k36_inserted_and_taken
set_option compiler.extract_closed false
set_option Elab.async false
set_option linter.all false
set_option maxRecDepth 100000
set_option maxHeartbeats 4000000
namespace L2
open PySem PySem.Spec PyProof.Rows
abbrev mD:=@wpAny_bind
abbrev mE:=@Nat.le_refl
abbrev mF:=@List.mem_cons
abbrev mG:=@if_neg
abbrev mH:=@True.intro
abbrev mI:=@List.length_map
abbrev mJ:=@List.mem_cons_of_mem
abbrev mK:=@if_pos
abbrev mL:=@List.length_append
abbrev mM:=@List.mem_cons_self
abbrev mN:=@Heap.get?_push_of_some
abbrev mO:=@List.mem_singleton
abbrev mP:=@List.mem_of_getElem?
abbrev mQ:=@List.getElem?_eq_some_iff
abbrev mR:=@sizeLine_eq
abbrev mS:=@wpAny_pure
abbrev mT:=@List.mem_append
abbrev mU:=@List.map_cons
abbrev mW:=@Option.some.inj
abbrev mX:=@List.map_append
abbrev mY:=@Heap.lt_size
abbrev mZ:=@List.size_toArray
abbrev nA:=@Bool.false_ne_true
abbrev nB:=@decide_eq_true
abbrev nC:=@Heap.get?_push_size
abbrev nD:=@List.getElem?_map
abbrev nE:=@decide_eq_false
abbrev nF:=@Nat.lt_of_lt_of_le
abbrev nG:=@List.length_cons
abbrev nH:=@List.getElem?_eq_getElem
abbrev nI:=@List.getD_eq_getElem?_getD
abbrev nJ:=@Heap.get?_update_other
abbrev nL:=@List.length_singleton
abbrev nM:=@List.mem_append_right
abbrev nN:=@Nat.le_trans
abbrev nO:=@Nat.ne_of_lt
abbrev nP:=@List.mem_map
abbrev nQ:=@List.length_replicate
abbrev nR:=@Or.inl
abbrev nS:=@List.replicate_succ
abbrev nU:=@List.getElem?_append_right
abbrev nV:=@List.getElem?_append_left
abbrev nW:=@List.length_take
abbrev nX:=@List.take_length
abbrev nY:=@Nat.zero_le
abbrev nZ:=@List.nodup_cons
abbrev pF:=@List.length_nil
abbrev pH:=@List.mem_append_left
abbrev pJ:=@List.append_nil
abbrev pK:=@List.take_of_length_le
abbrev pP:=@List.getElem?_cons_zero
abbrev pQ:=@List.all_eq_true
abbrev pT:=@wpAny_holding
abbrev pU:=@List.length_drop
abbrev pX:=@Bool.and_eq_true
abbrev pY:=@PySem.F.plainAttrs_list
abbrev pZ:=@wpAny_truthy_bool
abbrev rA:=@decide_eq_true_eq
abbrev rB:=@List.mem_of_mem_take
abbrev rC:=@List.not_mem_nil
abbrev rD:=@List.length_range
abbrev rE:=@wpAny_mono
abbrev rF:=@Nat.le_succ
abbrev rG:=@Nat.lt_succ_self
abbrev rH:=@List.length_set
abbrev rJ:=@List.getElem_mem
abbrev rK:=@Nat.ne_of_gt
abbrev rL:=@List.map_map
abbrev rM:=@Array.getElem?_eq_some_iff
abbrev rN:=@List.mem_range
abbrev rO:=@List.flatten_cons
abbrev rP:=@List.append_assoc
abbrev rQ:=@List.filterMap_cons
abbrev rR:=@PySem.mem_of_lookup
abbrev rT:=@List.getLast?_eq_getElem?
abbrev rV:=@wpAny_Call_Name_kw
abbrev rW:=@PySem.F.slot_list_append
abbrev rX:=@List.mem_of_mem_drop
abbrev rY:=@List.mem_of_getLast?
abbrev rZ:=@Int.toNat_natCast
abbrev sF:=@Nat.not_lt_zero
abbrev sH:=@List.lookup_cons
abbrev sJ:=@Array.getElem?_toList
abbrev sK:=@List.drop_eq_getElem_cons
abbrev sP:=@List.getElem?_set_ne
abbrev sQ:=@List.map_nil
abbrev sS:=@List.length_dropLast
abbrev sU:=@PySem.F.type_list_append
abbrev sX:=@Nat.lt_succ_of_lt
abbrev sY:=@Nat.lt_irrefl
abbrev sZ:=@PySem.F.plainAttrs_dict
abbrev tD:=@Int.eq_ofNat_of_zero_le
abbrev tE:=@beq_eq_false_iff_ne
abbrev tF:=@List.drop_zero
abbrev tG:=@F.plain_max_loop
abbrev tH:=@Nat.succ_le_succ
abbrev tI:=@wpAny_typeOf_ref
abbrev tJ:=@List.drop_eq_nil_of_le
abbrev tK:=@List.getElem?_dropLast
abbrev tL:=@W.kia_one
abbrev tM:=@List.all_map
abbrev tO:=@Int.emod_lt_of_pos
abbrev tP:=@wpAny_passesOwn
abbrev tQ:=@Bool.eq_iff_iff
abbrev tR:=@Heap.get?_update_self
abbrev tS:=@List.nil_append
abbrev tT:=@Nat.min_eq_left
abbrev tU:=@List.getElem?_eq_none
abbrev tV:=@Nat.le_add_left
abbrev tW:=@List.any_cons
abbrev tX:=@Nat.le_succ_of_le
abbrev tY:=@Heap.get?_none_of_le
abbrev tZ:=@wpAny_call
abbrev aD:=@Around.under_plainId
abbrev aE:=@codeAny_call_builtin
abbrev aF:=@Bool.and_false
abbrev aG:=@codeAny_mono
abbrev aH:=@List.any_eq_true
abbrev aI:=@Nat.min_eq_right
abbrev aJ:=@PySem.F.slot_dict_values
abbrev aK:=@Array.length_toList
abbrev aL:=@List.map_congr_left
abbrev aM:=@List.length_pos_iff
abbrev aN:=@wpAny_getItem_str_slice
abbrev aO:=@List.filter_cons_of_pos
abbrev aP:=@wpAny_standAt
abbrev aQ:=@List.mem_filter
abbrev aR:=@List.foldl_cons
abbrev aS:=@call_meets
abbrev aT:=@List.find?_cons
abbrev aU:=@Int.emod_nonneg
abbrev aV:=@List.contains_cons
abbrev aW:=@List.getElem?_set_self
abbrev aX:=@wpAny_pyNext_list_item
abbrev aY:=@Calls.callWith_builtin
abbrev aZ:=@List.drop_of_length_le
abbrev bA:=@List.eq_nil_of_length_eq_zero
abbrev bB:=@Int.mul_le_mul_of_nonneg_left
abbrev bC:=@Nat.le_of_lt
abbrev bD:=@wpAny_pyNext_list_end
abbrev bE:=@Heap.size_push
abbrev bF:=@wpAny_tryCatch
abbrev bG:=@PyProof.Rows.callWith_type1
abbrev bH:=@List.idxOf_lt_length_of_mem
abbrev bI:=@or_false
abbrev bJ:=@List.nodup_range
abbrev bK:=@List.replicate_succ'
abbrev bM:=@plainId_quiet
abbrev bN:=@Array.getElem?_setIfInBounds_self_of_lt
abbrev bO:=@wpAny_execs_nil
abbrev bP:=@Option.map_some
abbrev bQ:=@codeAny_builtin
abbrev bR:=@List.getLast?_eq_none_iff
abbrev bS:=@tupleKind_room_in1
abbrev bU:=@Bool.false_eq_true
abbrev bV:=@Bool.or_true
abbrev bW:=@Int.zero_add
abbrev bX:=@PySem.F.type_dict_values
abbrev bY:=@List.map_set
abbrev bZ:=@List.getElem?_replicate
abbrev cA:=@List.getElem?_cons_succ
abbrev cB:=@List.filter_cons_of_neg
abbrev cC:=@wpAny_pyIter_list
abbrev cD:=@List.nodup_append
abbrev cE:=@wpAny_field
abbrev cF:=@Bool.true_and
abbrev cG:=@List.take_append_drop
abbrev cH:=@Array.getElem?_setIfInBounds_ne
abbrev cI:=@List.of_mem_zip
abbrev cJ:=@PyProof.Rows.callWith_builtin1
abbrev cK:=@SeqAt.EqAt.bool_bool
abbrev cL:=@Nat.lt_trans
abbrev cM:=@Or.inr
abbrev cN:=@post_val_or_str
abbrev cO:=@F.excBase_ValueError
abbrev cP:=@Int.mul_le_mul_of_nonneg_right
abbrev cQ:=@F.slot_dict_itemiterator_iter
abbrev cR:=@wpAny_seqItems
abbrev cS:=@wpAny_setField
abbrev cT:=@wpAny_nameGoes
abbrev cU:=@W.kitx_dict
abbrev cV:=@wpAny_letGo
abbrev cW:=@Nat.lt_of_le_of_lt
abbrev cX:=@List.pairwise_cons
abbrev cY:=@List.set_cons_zero
abbrev cZ:=@List.set_cons_succ
abbrev dA:=@List.all_cons
abbrev dB:=@List.take_nil
abbrev dC:=@Option.isSome_map
abbrev dD:=@of_decide_eq_true
abbrev dE:=@wpAny_newObj_type
abbrev dF:=@List.take_add_one
abbrev dG:=@if_true
abbrev dH:=@if_false
abbrev dI:=@List.filter_cons
abbrev dJ:=@Txt.slice_le
abbrev dL:=@F.entry_max_loop
abbrev dM:=@Nat.le_add_right
abbrev dN:=@Nat.sub_zero
abbrev dO:=@List.drop_length
abbrev dP:=@Option.bind_some
abbrev dQ:=@Bool.or_eq_true
abbrev dR:=@wpAny_updateSeq
abbrev dS:=@exists_eq_left'
abbrev dU:=@W.kitx_list
abbrev Key:=Sum Int Str
def zDd:Key→Value→Bool
 | .inl k,v=>Value.isInt k v
 | .inr x,v=>Value.isStrOf x v
def keyH(w:World):Key→Int
 | .inl k=>hashInt k
 | .inr x=>hashStr w x
theorem xQ:∀{k:Key}{v:Value},zDd k v=true→(∃i t,k=Sum.inl i∧v=Value.int i t)∨(∃x t,k=Sum.inr x∧v=Value.str x t)
 | .inl i,v,h=>by
  obtain⟨t,e⟩:=Value.isInt_shape (k:=i) (v:=v) h;exact .inl ⟨i,t,rfl,e⟩
 | .inr x,v,h=>by
  obtain⟨t,e⟩:=Value.isStrOf_shape (x:=x) (v:=v) h;exact .inr ⟨x,t,rfl,e⟩
theorem zOz(i:Int)(t:Tok):zDd (.inl i) (.int i t)=true:=by simp[zDd,Value.isInt]
theorem zPa(x:Str)(t:Tok):zDd (.inr x) (.str x t)=true:=by simp[zDd,Value.isStrOf]
theorem yCc(a b:Int):decide ((Sum.inl a:Key)=Sum.inl b)=(a==b):=by
 by_cases e:a=b
 ·subst e;simp
 ·have h:¬(Sum.inl a:Key)=Sum.inl b:=fun q=>e (Sum.inl.inj q)
  rw[nE h];exact(tE.mpr e).symm
theorem zZw(a b:Str):decide ((Sum.inr a:Key)=Sum.inr b)=decide (a=b):=by
 by_cases e:a=b
 ·subst e;simp
 ·have h:¬(Sum.inr a:Key)=Sum.inr b:=fun q=>e (Sum.inr.inj q)
  rw[nE h,nE e]
theorem yAt(a:Int)(b:Str):decide ((Sum.inl a:Key)=Sum.inr b)=false:=nE (fun q=>nomatch q)
theorem zYk(a:Str)(b:Int):decide ((Sum.inr a:Key)=Sum.inl b)=false:=nE (fun q=>nomatch q)
def yO(prog:Program)(w:World):PySem.KeyKind prog w Key where
 is:=zDd
 hash:=keyH w
 inj:=fun v a b ha hb=>by
  rcases xQ ha with⟨i,t,rfl,rfl⟩|⟨x,t,rfl,rfl⟩
  ·rcases xQ hb with⟨j,u,rfl,e⟩|⟨y,u,rfl,e⟩
   ·injection e with e1 _;rw[e1]
   ·exact nomatch e
  ·rcases xQ hb with⟨j,u,rfl,e⟩|⟨y,u,rfl,e⟩
   ·exact nomatch e
   ·injection e with e1 _;rw[e1]
 byValue:=fun k v h=>by
  rcases xQ h with⟨i,t,rfl,rfl⟩|⟨x,t,rfl,rfl⟩<;>rfl
 pyHash:=fun hv h=>by
  rcases xQ hv with⟨i,t,rfl,rfl⟩|⟨x,t,rfl,rfl⟩
  ·exact wpAny_pyHash_int h
  ·exact wpAny_pyHash_str h
 eqBool:=fun hu hv h=>by
  rcases xQ hu with⟨i,t,rfl,rfl⟩|⟨x,t,rfl,rfl⟩
  ·rcases xQ hv with⟨j,u,rfl,rfl⟩|⟨y,u,rfl,rfl⟩
   ·rw[yCc] at h;exact wpAny_eqBool_int h
   ·rw[yAt] at h;exact SeqAt.EqAt.int_str i t y u _ _ _ _ h
  ·rcases xQ hv with⟨j,u,rfl,rfl⟩|⟨y,u,rfl,rfl⟩
   ·rw[zYk] at h;exact SeqAt.EqAt.str_int x t j u _ _ _ _ h
   ·rw[zZw] at h;exact wpAny_eqBool_str h
 «strs»:=fun k x t v h=>by
  rcases xQ h with⟨i,u,rfl,e⟩|⟨y,u,rfl,e⟩
  ·exact nomatch e
  ·injection e with e1 _
   subst e1;cases v<;>rfl
theorem zIm(prog:Program)(w:World)(i:Int)(t:Tok):(yO prog w).is (.inl i) (.int i t)=true:=zOz i t
theorem zJm(prog:Program)(w:World)(x:Str)(t:Tok):(yO prog w).is (.inr x) (.str x t)=true:=zPa x t
inductive V where
 | non | bl (b:Bool)| int (i:Int)| str (x:Str)| byt (b:Array UInt8)| flt (b:UInt64)| ref (a:Addr)| ty (n:String)
 deriving DecidableEq
def RelV:V→Value→Prop
 | .non,u=>u=Value.none
 | .bl b,u=>u=Value.bool b
 | .int i,u=>∃t,u=Value.int i t
 | .str x,u=>∃t,u=Value.str x t
 | .byt b,u=>∃t,u=Value.bytes b t
 | .flt b,u=>∃t,u=Value.float b t
 | .ref a,u=>u=Value.ref a
 | .ty n,u=>u=Value.type n
abbrev Vals:List V→List Value→Prop:=Paired RelV
theorem Vals.length{xs:List V}{us:List Value}(r:Vals xs us):xs.length=us.length:=Paired.length r
theorem Vals.get:∀{xs:List V}{us:List Value}{i:Nat}{x:V},Vals xs us→xs[i]? =some x→∃u,us[i]? =some u∧RelV x u
 | _,_,_,_, .nil,e=>by simp at e
 | _,_,0,_, .cons r _,e=>by simp at e;subst e;exact⟨_,rfl,r⟩
 | _,_,i+1,x, .cons _ t,e=>by
  obtain⟨u,h1,h2⟩:=Vals.get (i:=i) (x:=x) t (by simpa using e);exact⟨u,by simpa using h1,h2⟩
theorem Vals.set{x:V}{u:Value}(r:RelV x u):∀{xs:List V}{us:List Value}(i:Nat),Vals xs us→Vals (xs.set i x) (us.set i u)
 | _,_,_, .nil=>.nil
 | _,_,0, .cons _ t=>.cons r t
 | _,_,i+1, .cons q t=>.cons q (Vals.set r i t)
theorem Vals.append:∀{xs ys:List V}{us ws:List Value},Vals xs us→Vals ys ws→Vals (xs++ys) (us++ws)
 | _,_,_,_, .nil,s=>s
 | _,_,_,_, .cons r t,s=>.cons r (Vals.append t s)
theorem Vals.take:∀{xs:List V}{us:List Value}(n:Nat),Vals xs us→Vals (xs.take n) (us.take n)
 | _,_,0,_=>.nil
 | _,_,_+1, .nil=>.nil
 | _,_,n+1, .cons r t=>.cons r (Vals.take n t)
theorem Vals.drop:∀{xs:List V}{us:List Value}(n:Nat),Vals xs us→Vals (xs.drop n) (us.drop n)
 | _,_,0,r=>r
 | _,_,_+1, .nil=>.nil
 | _,_,n+1, .cons _ t=>Vals.drop n t
def RelO:Option V→Option Value→Prop
 | some v,some u=>RelV v u
 | none,none=>True
 | _,_=>False
def KV{κ:Type}:List (κ×V)→List (κ×Value)→Prop:=Paired fun(p:κ×V) (q:κ×Value)=>p.1=q.1∧RelV p.2 q.2
def kV:Key→V
 | .inl i=>.int i
 | .inr x=>.str x
inductive HO where
 /-- a list -/
 | lst (xs:List V)
 /-- a tuple (never changes)-/
 | tup (xs:List V)
 /-- a dict whose keys are ints and texts;one whose keys are tuples of ints and texts (the empty one is both)-/
 | dK (kvs:List (Key×V))| dT (kvs:List (List Key×V))
 /-- a set of ints:its members,its size -/
 | set (S:Int→Bool) (n:Nat)
 /-- an instance of the class at C,its dict at dx,its attributes -/
 | ins (C dx:Addr) (fs:List (Str×V))
 /-- the dict of the instance at x -/
 | own (x:Addr)
 /-- the dict of an exception -/
 | xd (fs:List (Str×V))
 /-- a bound method,f of x -/
 | met (f x:Addr)
 /-- a range object lo,lo+1, .. below hi -/
 | rng (lo hi:Int)
 /-- a thing that is known to the object (the script;a dict while a loop walks it):read,never written while it is so -/
 | frz (o:Obj) (u:HO)
 /-- a code object's table -/
 | tbl (ps:Array Value)
 /-- any other thing,by what is true of its one object (a def of one's own:SetO a S n:=HO.ext fun h=>..)-/
 | ext (φ:Heap→Prop)
abbrev Hp:=Addr→Option HO
def upd(H:Hp)(a:Addr)(o:HO):Hp:=fun b=>if b=a then some o else H b
theorem zB{H:Hp}{a:Addr}{o:HO}:upd H a o a=some o:=by unfold upd;rw[mK rfl]
theorem zO{H:Hp}{a b:Addr}{o:HO}(h:b≠a):upd H a o b=H b:=by unfold upd;rw[mG h]
theorem zLr{H:Hp}{a:Addr}{o u:HO}:upd (upd H a o) a u=upd H a u:=by
 funext b;unfold upd;split<;>rfl
theorem ne_of{H:Hp}{a b:Addr}{o u:HO}(h:H a=some o)(h':H b=some u)(d:o≠u):a≠b:=by
 intro e;subst e;rw[h] at h';exact d (mW h')
theorem yC{H:Hp}{a b:Addr}{o:HO}(h:H a=some o)(h':H b=none):a≠b:=by
 intro e;subst e;rw[h] at h';cases h'
section
variable(P:Program)(w:World)
def ObjOk(H:Hp)(h:Heap)(a:Addr):HO→Prop
 | .lst xs=>xs.length≤sizeLine∧∃(its:List Value)(n:Nat),Vals xs its∧h.get? a=some {cls:=.type "list",data:=.seq its.toArray n}
 | .tup xs=>xs.length≤sizeLine∧∃its:List Value,Vals xs its∧IsTup h a its.toArray
 | .dK kvs=>kvs.length≤sizeLine∧(a==sysModules)=false∧∃vs,KV kvs vs∧h.DictOf (yO P w) a vs
 | .dT kvs=>kvs.length≤sizeLine∧(a==sysModules)=false∧∃xs:List (List Key×Addr×Value),
   Paired (fun(p:List Key×V) (q:List Key×Addr×Value)=>p.1=q.1∧H q.2.1=some (.tup (p.1.map kV))∧RelV p.2 q.2.2) kvs xs∧
   ∃o es ep,h.get? a=some o∧o.ExactDict∧o.data= .dict es ep∧es.toList=xs.map (entryOfKey (tupleKind (yO P w)))∧(xs.map (·.1)).Nodup
 | .set S n=>h.SetOf (intKind P w) a S n
 | .ins C dx fs=>H dx=some (.own a)∧fs.length≤1000∧dx≠a∧h.get? a=some (W.instObj C dx)∧
   ∃mA,h.Ns1 dx mA∧(∀f,RelO (fs.lookup f) (mA f))∧PySem.Within mA (fs.map (·.1))
 | .own _=>∃o,h.get? a=some o
 | .xd fs=>∃mA,h.Ns1 a mA∧∀f,RelO (fs.lookup f) (mA f)
 | .rng lo hi=>∃t u v,h.get? a=some {cls:=.type "range",data:=.fields #[.int lo t, .int hi u, .int 1 v]}
 | .frz o u=>h.get? a=some o∧ObjOk H h a u
 | .tbl ps=>h.get? a=some {cls:=.none,data:=.fields ps}
 | .met f x=>h.get? a=some (W.methodObj (.ref f) (.ref x))
 | .ext φ=>φ h∧(∃o,h.get? a=some o)∧∀h1 h2:Heap,φ h1→(∀o,h1.get? a=some o→h2.get? a=some o)→φ h2
def HOk(H:Hp)(h:Heap):Prop:=∀a o,H a=some o→ObjOk P w H h a o
end
section
variable{P:Program}{w:World}{H H':Hp}{h h':Heap}{a:Addr}{o:HO}
theorem ObjOk.lt(x:ObjOk P w H h a o):a<h.objs.size:=by
 cases o with
 | lst xs=>obtain⟨_,_,_,_,e⟩:=x;exact mY e
 | tup xs=>obtain⟨_,_,_,p⟩:=x;exact p.lt
 | dK kvs=>obtain⟨_,_,_,_,o,_,_,e,_⟩:=x;exact mY e
 | dT kvs=>obtain⟨_,_,_,_,o,_,_,e,_⟩:=x;exact mY e
 | set S n=>obtain⟨o,_,_,_,e,_⟩:=x;exact mY e
 | ins C dx fs=>obtain⟨_,_,_,e,_⟩:=x;exact mY e
 | own y=>obtain⟨_,e⟩:=x;exact mY e
 | xd fs=>obtain⟨_,⟨_,_,_,e,_⟩,_⟩:=x;exact mY e
 | rng lo hi=>obtain⟨_,_,_,e⟩:=x;exact mY e
 | frz ob u=>obtain⟨e,_⟩:=x;exact mY e
 | tbl ps=>exact mY (show h.get? a=some _ from x)
 | met f y=>exact mY (show h.get? a=some _ from x)
 | ext φ=>obtain⟨_,⟨_,e⟩,_⟩:=x;exact mY e
theorem Paired.mapP{α β:Type}{F G:α→β→Prop}:∀{l₁:List α}{l₂:List β},Paired F l₁ l₂→(∀a b,F a b→G a b)→Paired G l₁ l₂
 | _,_, .nil,_=>.nil
 | _,_, .cons r t,f=>.cons (f _ _ r) (Paired.mapP t f)
theorem ObjOk.stay(x:ObjOk P w H h a o)(k:∀b u,(b=a∨H b=some (.own a))→h.get? b=some u→h'.get? b=some u)
  (ho:∀b,H b=some (.own a)→H' b=some (.own a)) (ht:∀b xs,H b=some (.tup xs)→H' b=some (.tup xs)):ObjOk P w H' h' a o:=by
 induction o with
 | lst xs=>obtain⟨z,its,n,r,e⟩:=x;exact⟨z,its,n,r,k _ _ (.inl rfl) e⟩
 | tup xs=>obtain⟨z,its,r,ob,e,c⟩:=x;exact⟨z,its,r,ob,k _ _ (.inl rfl) e,c⟩
 | dK kvs=>obtain⟨z,y,vs,r,ob,es,ep,e,c⟩:=x;exact⟨z,y,vs,r,ob,es,ep,k _ _ (.inl rfl) e,c⟩
 | dT kvs=>
  obtain⟨z,y,xs,r,ob,es,ep,e,c⟩:=x;exact⟨z,y,xs,Paired.mapP r fun p q z=>⟨z.1,ht _ _ z.2.1,z.2.2⟩,ob,es,ep,k _ _ (.inl rfl) e,c⟩
 | set S n=>obtain⟨ob,es,ep,t,e,c⟩:=x;exact⟨ob,es,ep,t,k _ _ (.inl rfl) e,c⟩
 | ins C dx fs=>
  obtain⟨d,z,ne,e,mA,⟨od,es,ep,e2,c⟩,r⟩:=x;exact⟨ho _ d,z,ne,k _ _ (.inl rfl) e,mA,⟨od,es,ep,k _ _ (.inr d) e2,c⟩,r⟩
 | own y=>obtain⟨ob,e⟩:=x;exact⟨ob,k _ _ (.inl rfl) e⟩
 | xd fs=>obtain⟨mA,⟨od,es,ep,e,c⟩,r⟩:=x;exact⟨mA,⟨od,es,ep,k _ _ (.inl rfl) e,c⟩,r⟩
 | rng lo hi=>obtain⟨t,u,v,e⟩:=x;exact⟨t,u,v,k _ _ (.inl rfl) e⟩
 | frz ob u ih=>obtain⟨e,q⟩:=x;exact⟨k _ _ (.inl rfl) e,ih q⟩
 | tbl ps=>
  have e:h.get? a=some {cls:=.none,data:=.fields ps}:=x;show h'.get? a=some {cls:=.none,data:=.fields ps};exact k a _ (.inl rfl) e
 | met f y=>
  have e:h.get? a=some (W.methodObj (.ref f) (.ref y)):=x;show h'.get? a=some (W.methodObj (.ref f) (.ref y));exact k a _ (.inl rfl) e
 | ext φ=>obtain⟨p,⟨o,e⟩,st⟩:=x;exact⟨st _ _ p fun o q=>k _ _ (.inl rfl) q,⟨o,k _ _ (.inl rfl) e⟩,st⟩
theorem HOk.lt(x:HOk P w H h)(e:H a=some o):a<h.objs.size:=(x a o e).lt
theorem HOk.fresh(x:HOk P w H h)(e:h.objs.size≤a):H a=none:=by
 cases q:H a with
 | none=>rfl
 | some u=>exact absurd (nF (x.lt q) e) (sY _)
theorem HOk.kept(x:HOk P w H h)(k:∀b u,h.get? b=some u→h'.get? b=some u):HOk P w H h':=fun a o e=>
 (x a o e).stay (fun b u _ q=>k b u q) (fun _ q=>q) fun _ _ q=>q
theorem HOk.laid(x:HOk P w H h)(k:∀b u,h.get? b=some u→h'.get? b=some u)(hp:h.objs.size≤a)(new:ObjOk P w (upd H a o) h' a o):HOk P w (upd H a o) h':=fun b u e=>by
 have hn:=x.fresh hp
 by_cases hb:b=a
 ·subst hb;rw[zB] at e;cases e;exact new
 ·rw[zO hb] at e
  exact(x b u e).stay (fun c v _ q=>k c v q) (fun c q=>by rw[zO (yC q hn)];exact q) fun c xs q=>by rw[zO (yC q hn)];exact q
end
def Rd(H:Hp)(a:Addr)(u:HO):Prop:=H a=some u∨∃o,H a=some (.frz o u)
theorem Rd.ok{P:Program}{w:World}{H:Hp}{h:Heap}{a:Addr}{u:HO}(r:Rd H a u)(x:HOk P w H h):ObjOk P w H h a u:=by
 rcases r with r |⟨o,r⟩
 ·exact x a u r
 ·obtain⟨_,q⟩:=x a _ r
  exact q
def Mut:Option HO→Prop
 | some (.lst _)=>True
 | some (.dK _)=>True
 | some (.dT _)=>True
 | some (.set _ _)=>True
 | some (.ins _ _ _)=>True
 | some (.ext _)=>True
 | _=>False
section
variable{P:Program}{w:World}{H:Hp}{h h':Heap}{x e:Addr}{o':HO}
theorem HOk.write(ok:HOk P w H h)(mu:Mut (H x))(he:e=x∨H e=some (.own x))(k:∀b u,b≠e→h.get? b=some u→h'.get? b=some u)(heo:∃u,h'.get? e=some u)
  (new:ObjOk P w (upd H x o') h' x o'):HOk P w (upd H x o') h':=fun b u q=>by
 have nown:∀c y,H c=some (.own y)→c≠x:=fun c y r z=>by subst z;rw[r] at mu;exact mu
 have ntup:∀c xs,H c=some (.tup xs)→c≠x:=fun c xs r z=>by subst z;rw[r] at mu;exact mu
 by_cases hb:b=x
 ·subst hb;rw[zB] at q;cases q;exact new
 ·rw[zO hb] at q
  by_cases hbe:b=e
  ·have q':H b=some (.own x):=by
    rcases he with z | z
    ·exact absurd (hbe.trans z) hb
    ·rw[hbe];exact z
   rw[q] at q';cases q';obtain⟨v,hv⟩:=heo;exact⟨v,by rw[hbe];exact hv⟩
  ·refine(ok b u q).stay (fun c v hc r=>k c v ?_ r) (fun c r=>by rw[zO (nown c b r)];exact r) fun c xs r=>by rw[zO (ntup c xs r)];exact r
   rcases hc with rfl | hc
   ·exact hbe
   ·rintro rfl
    rcases he with z | z
    ·exact nown c b hc z
    ·rw[hc] at z;cases z;exact hb rfl
end
structure Un(fs ex:List Addr)(H H':Hp)(h h':Heap):Prop where
 keep:∀b o,h.get? b=some o→H b=none→b∉fs→b∉ex→h'.get? b=some o
 slot:∀b o,h.get? b=some o→H b=none→b∈fs→b∉ex→∃sl,h'.get? b=some {o with slots:=sl}
 free:∀b o,h.get? b=some o→H b=none→b∉ex→H' b=none
 there:∀b o,h.get? b=some o→b∉ex→∃o',h'.get? b=some o'
 tups:∀b xs,H b=some (.tup xs)→H' b=some (.tup xs)
 frzs:∀b o u,H b=some (.frz o u)→H' b=some (.frz o u)
 tbls:∀b ps,H b=some (.tbl ps)→∃more,H' b=some (.tbl (ps++more))
section
variable{fs fs' ex ex':List Addr}{H H1 H2:Hp}{h h1 h2 h':Heap}{a x e:Addr}{o:HO}
theorem Un.any(u:Un fs ex H H1 h h1){b:Addr}{ob:Obj}(q:h.get? b=some ob)(n:H b=none)(hx:b∉ex):∃sl,h1.get? b=some {ob with slots:=sl}:=by
 by_cases hb:b∈fs
 ·exact u.slot b ob q n hb hx
 ·exact⟨ob.slots,u.keep b ob q n hb hx⟩
theorem Un.kept(k:∀b u,h.get? b=some u→h'.get? b=some u):Un fs ex H H h h':=
 ⟨fun b ob q _ _ _=>k b ob q,fun b ob q _ _ _=>⟨ob.slots,k b ob q⟩,fun _ _ _ n _=>n,fun b ob q _=>⟨ob,k b ob q⟩,fun _ _ q=>q,fun _ _ _ q=>q,fun _ ps q=>⟨#[],by rw[q];simp⟩⟩
theorem Un.refl:Un fs ex H H h h:=Un.kept fun _ _ q=>q
theorem Un.laid(k:∀b u,h.get? b=some u→h'.get? b=some u)(hp:h.objs.size≤a)(hn:H a=none):Un fs ex H (upd H a o) h h' where
 keep:=fun b u q _ _ _=>k b u q
 slot:=fun b u q _ _ _=>⟨u.slots,k b u q⟩
 free:=fun b u q n _=>by rw[zO (nO (nF (mY q) hp))];exact n
 there:=fun b u q _=>⟨u,k b u q⟩
 tups:=fun b xs q=>by rw[zO (yC q hn)];exact q
 frzs:=fun b u xs q=>by rw[zO (yC q hn)];exact q
 tbls:=fun b ps q=>⟨#[],by rw[zO (yC q hn),q];simp⟩
theorem Un.write(mu:Mut (H x))(he:e=x∨H e=some (.own x))(k:∀b u,b≠e→h.get? b=some u→h'.get? b=some u)(heo:∃u,h'.get? e=some u):Un fs ex H (upd H x o) h h':=by
 have hx:∀b,H b=none→b≠x:=fun b n z=>by subst z;rw[n] at mu;exact mu
 have hb:∀b,H b=none→b≠e:=fun b n z=>by
  subst z;rcases he with r | r
  ·exact hx b n r
  ·rw[n] at r;cases r
 have hm:∀b u,H b=some u→¬Mut (some u)→b≠x:=fun b u q nm z=>by subst z;rw[q] at mu;exact nm mu
 refine⟨fun b u q n _ _=>k b u (hb b n) q,fun b u q n _ _=>⟨u.slots,k b u (hb b n) q⟩,fun b u q n _=>by rw[zO (hx b n)];exact n,fun b u q _=>?_,
  fun b xs q=>by rw[zO (hm b _ q fun z=>z)];exact q,fun b u xs q=>by rw[zO (hm b _ q fun z=>z)];exact q,fun b ps q=>⟨#[],by rw[zO (hm b _ q fun z=>z),q];simp⟩⟩
 by_cases hbe:b=e
 ·subst hbe;exact heo
 ·exact⟨u,k b u hbe q⟩
end
def trk(h:Heap)(H:Hp):List Addr:=(List.range h.objs.size).filter fun a=>(H a).isSome
def zHj(h:Heap)(H:Hp):Heap:=W.hideAll h (trk h H)
theorem zOe(h:Heap)(H:Hp):(zHj h H).objs.size=h.objs.size:=W.hideAll_size _ _
theorem zQo{h:Heap}{H:Hp}{b:Addr}{o:Obj}(e:h.get? b=some o)(n:H b=none):(zHj h H).get? b=some o:=
 W.hideAll_get _ e fun hm=>by
  have q:(H b).isSome=true:=(aQ.mp hm).2;rw[n] at q;simp at q
theorem zVm{h:Heap}{H:Hp}{b:Addr}{o:Obj}(e:(zHj h H).get? b=some o):h.get? b=some o∧H b=none:=by
 have e':h.get? b=some o:=W.of_hideAll (trk h H) e;refine⟨e', ?_⟩
 cases q:H b with
 | none=>rfl
 | some x=>
  have hm:b∈trk h H:=aQ.mpr ⟨rN.mpr (mY e'),by simp[q]⟩;have z:(zHj h H).get? b=none:=W.hideAll_none (trk h H) hm;rw[z] at e;cases e
def zUl(g h:Heap)(L:Addr):List (Addr×Obj):=(List.range h.objs.size).filterMap fun a=>if a=L∨(g.get? a).isSome=true then none else(h.get? a).map fun o=>(a,o)
def rest(g h:Heap)(L d:Addr):List (Addr×Obj):=(zUl g h L).filter fun p=>decide (p.1≠d)
structure Mod(K:W.Frag)(mg:Str→Option Value)(base:Heap):Prop where
 kin:K.In base
 glob:base.Ns mainGlobals mg
 blt:∃mb,base.Ns builtinsNs mb∧∀x:Str,x≠ "__name__"→mb x=bootBuiltins x
 nolimit:base.NoLimit
structure Cx where
 prog:Program
 w:World
 K:W.Frag
 mg:Str→Option Value
 base:Heap
 A:Around
 N:List Str
 s₀:Shared
 H₀:Hp
 env:Env
 outer:List Env
 stack:List Env
 ex:List Addr
 fn:Str→Bool
 calm:Bool
 pn:List (Addr×Obj)
 xe:Value→Shared→Prop
def frs(l:List Env):List Addr:=l.filterMap (·.frame)
abbrev Cx.fs(X:Cx):List Addr:=frs X.outer
def Vis(sc:Scope)(x:Str):Prop:=sc.names.lookup x=some .local∨sc.names.lookup x=some .cell∨sc.names.lookup x=some .free
def Loc(sc:Scope)(x:Str):Prop:=sc.names.lookup x=some .local∨sc.names.lookup x=some .cell
def Look(env:Env)(h:Heap)(m:Str→Option Value)(x:Str)(u:Value):Prop:=
 (env.kindOf x=some .local∧m x=some u)∨((env.kindOf x=some .cell∨env.kindOf x=some .free)∧∃c,env.cells.lookup x=some c∧h.IsCell c (some u))
structure Cx.Ok(X:Cx):Prop where
 mod:Mod X.K X.mg X.base
 kind:X.env.scope.kind= .function
 glob:X.env.globals=mainGlobals
 blt:X.env.builtins=builtinsNs
 above:X.s₀.heap.objs.size≤X.env.locals
 inj:∀x y c,X.env.cells.lookup x=some c→X.env.cells.lookup y=some c→x=y
 has:∀x,(X.env.kindOf x=some .cell∨X.env.kindOf x=some .free)→∃c,X.env.cells.lookup x=some c
 cab:∀x c,X.fn x=true→X.env.cells.lookup x=some c→X.s₀.heap.objs.size≤c
 hd:X.calm=true→X.A.handled=none
 frames:X.A.frames=some X.stack
 stk:X.stack=X.outer∨(X.stack=X.env::X.outer∧X.env.frame=some X.env.locals)
 exf:∀b∈X.ex,b≠X.env.locals∧∀x c,X.env.cells.lookup x=some c→c≠b
 bs:∀b o,X.base.get? b=some o→X.s₀.heap.get? b=some o∧X.H₀ b=none
 bsz:X.base.objs.size≤X.s₀.heap.objs.size
 noex:∀b o,X.base.get? b=some o→b∉X.ex
 exfs:∀b∈X.ex,b∉X.fs
 funs:X.s₀.heap.FunFrames X.base X.outer
 frf:∀b∈X.fs,X.H₀ b=none
structure Inv(X:Cx)(pins:List (Addr×Obj))(σ:List (Option V))(H:Hp)(s:Shared):Prop where
 ok:X.Ok
 os:s.os=X.s₀.os
 bare:AllBare s.gens
 base:Un X.fs X.ex X.H₀ H X.s₀.heap s.heap
 loc:∃m,s.heap.Ns X.env.locals m∧∀(i:Nat)(x:Str)(v:V),X.N[i]? =some x→σ[i]? =some (some v)→Vis X.env.scope x→∃u,RelV v u∧Look X.env s.heap m x u
 cell:∀x c,X.env.cells.lookup x=some c→∃v,s.heap.IsCell c v
 free:H X.env.locals=none
 freeC:∀x c,X.env.cells.lookup x=some c→H c=none
 pin:∀p∈X.pn++pins,s.heap.get? p.1=some p.2∧H p.1=none∧p.1≠X.env.locals∧p.1∉X.fs∧∀v,p.2.data≠ .cell v
 hok:HOk X.prog X.w H s.heap
 len:σ.length=X.N.length
section
variable{X:Cx}{pins:List (Addr×Obj)}{σ:List (Option V)}{H H':Hp}{s:Shared}{h':Heap}
theorem Cx.Ok.nofr(ok:X.Ok){b:Addr}{o:Obj}(e:X.base.get? b=some o):b∉X.fs:=fun hb=>by
 have:=(ok.funs.mem hb).1;rw[e] at this;cases this
theorem Inv.bs(I:Inv X pins σ H s):∀b o,X.base.get? b=some o→s.heap.get? b=some o∧H b=none:=fun b o e=>
 ⟨I.base.keep b o (I.ok.bs b o e).1 (I.ok.bs b o e).2 (I.ok.nofr e) (I.ok.noex b o e),I.base.free b o (I.ok.bs b o e).1 (I.ok.bs b o e).2 (I.ok.noex b o e)⟩
theorem Inv.bk(I:Inv X pins σ H s):∀b o,X.base.get? b=some o→s.heap.get? b=some o:=fun b o e=>(I.bs b o e).1
theorem Inv.mod(I:Inv X pins σ H s):Mod X.K X.mg X.base:=I.ok.mod
theorem Inv.kIn(I:Inv X pins σ H s):X.K.In s.heap:=I.ok.mod.kin.keeps I.bk
theorem Inv.lt(I:Inv X pins σ H s):X.env.locals<s.heap.objs.size:=let ⟨_,hn,_⟩:=I.loc;hn.lt
theorem Inv.sz(I:Inv X pins σ H s):X.s₀.heap.objs.size≤s.heap.objs.size:=nN I.ok.above (bC I.lt)
theorem Inv.nofs(I:Inv X pins σ H s){a:Addr}(h:s.heap.objs.size≤a):a∉X.fs:=fun hb=>by
 obtain⟨_,o,ho,_⟩:=I.ok.funs.mem hb;exact absurd (nF (mY ho) (nN I.sz h)) (sY _)
theorem Inv.cne(I:Inv X pins σ H s):∀x c,X.env.cells.lookup x=some c→c≠X.env.locals:=fun x c e z=>by
 obtain⟨v,o,ho,hd⟩:=I.cell x c e;obtain⟨m,⟨o',es,ep,ho',hd',_⟩,_⟩:=I.loc;rw[z,ho'] at ho;cases ho;rw[hd'] at hd;cases hd
theorem Inv.funs(I:Inv X pins σ H s):s.heap.FunFrames X.base X.outer:=by
 have all:∀(l:List Env),(∀b∈frs l,b∈X.fs)→X.s₀.heap.FunFrames X.base l→s.heap.FunFrames X.base l:=by
  intro l
  induction l with
  | nil=>intro _ _;trivial
  | cons env r ih=>
   intro hs hl;obtain⟨hk,⟨L,o,hf,hn,ho,hd⟩,hr⟩:=hl;have hL:L∈X.fs:=hs L (by unfold frs;rw[rQ,hf];exact mM);obtain⟨sl,e⟩:=I.base.slot L o ho (I.ok.frf L hL) hL fun z=>I.ok.exfs L z hL;exact⟨hk,⟨L,_,hf,hn,e,hd⟩,ih (fun b hb=>hs b (by unfold frs;rw[rQ,hf];exact mJ _ hb)) hr⟩
 exact all X.outer (fun _ hb=>hb) I.ok.funs
theorem Inv.stack(I:Inv X pins σ H s):s.heap.FunFrames X.base X.stack:=by
 rcases I.ok.stk with e |⟨e,hf⟩
 ·rw[e];exact I.funs
 ·rw[e]
  obtain⟨m,hn,_⟩:=I.loc;refine .cons (by rw[I.ok.kind];decide) hf hn ?_ I.funs;exact tY (nN I.ok.bsz I.ok.above)
theorem Inv.stkSub(I:Inv X pins σ H s):∀b∈frs X.stack,b∈X.env.locals::X.fs:=fun b hb=>by
 rcases I.ok.stk with e |⟨e,hf⟩
 ·rw[e] at hb;exact mJ _ hb
 ·rw[e] at hb
  unfold frs at hb;rw[rQ,hf] at hb;exact hb
theorem Inv.stkFree(I:Inv X pins σ H s):∀b∈frs X.stack,H b=none:=fun b hb=>by
 rcases mF.mp (I.stkSub b hb) with e | hb
 ·rw[e];exact I.free
 ·obtain⟨_,o,ho,_⟩:=I.ok.funs.mem hb
  exact I.base.free b o ho (I.ok.frf b hb) fun z=>I.ok.exfs b z hb
theorem Inv.step{g':Array GenState}{t':Nat}{d':Drawn}{ch:List Addr}(I:Inv X pins σ H s)
  (hch:∀b∈ch,(b∈X.ex∨X.s₀.heap.objs.size≤b)∧b≠X.env.locals∧(∀x c,X.env.cells.lookup x=some c→c≠b)∧∀p∈X.pn++pins,p.1≠b)
  (keep:∀b o,b≠X.env.locals→b∉X.fs→b∉ch→s.heap.get? b=some o→H b=none→h'.get? b=some o)
  (slot:∀b o,b≠X.env.locals→b∈X.fs→b∉ch→s.heap.get? b=some o→H b=none→∃sl,h'.get? b=some {o with slots:=sl}) (free:∀b o,b∉ch→s.heap.get? b=some o→H b=none→H' b=none)
  (there:∀b o,b∉ch→s.heap.get? b=some o→∃o',h'.get? b=some o')
  (tups:∀b xs,H b=some (.tup xs)→H' b=some (.tup xs)) (frzs:∀b o u,H b=some (.frz o u)→H' b=some (.frz o u)) (tbls:∀b ps,H b=some (.tbl ps)→∃more,H' b=some (.tbl (ps++more)))
  (ns:∀m,s.heap.Ns X.env.locals m→h'.Ns X.env.locals m) (hok:HOk X.prog X.w H' h') (hg:AllBare g'):
  Inv X pins σ H' {s with heap:=h',gens:=g',drawn:=d',toks:=t'}:=by
 have neL:∀b o,X.s₀.heap.get? b=some o→b≠X.env.locals:=fun b o e=>nO (nF (mY e) I.ok.above);have neC:∀b o,X.s₀.heap.get? b=some o→b∉X.ex→b∉ch:=fun b o e hx hb=>by
  rcases(hch b hb).1 with z | z
  ·exact hx z
  ·exact absurd (nF (mY e) z) (sY _)
 have cellK:∀x c,X.env.cells.lookup x=some c→∀v,s.heap.IsCell c v→h'.IsCell c v:=fun x c e v ⟨o,ho,hd⟩=>by
  have nch:c∉ch:=fun z=>(hch c z).2.2.1 x c e rfl
  by_cases hc:c∈X.fs
  ·obtain⟨sl,q⟩:=slot c o (I.cne x c e) hc nch ho (I.freeC x c e)
   exact⟨_,q,hd⟩
  ·exact⟨o,keep c o (I.cne x c e) hc nch ho (I.freeC x c e),hd⟩
 refine⟨I.ok,I.os,hg,⟨fun b o e n hb hx=>?_,fun b o e n hb hx=>?_,fun b o e n hx=>?_,fun b o e hx=>?_,fun b xs e=>tups b xs (I.base.tups b xs e),fun b o xs e=>frzs b o xs (I.base.frzs b o xs e),fun b ps e=>?_⟩, ?_,fun x c e=>?_, ?_,fun x c e=>?_,fun p hp=>?_,hok,I.len⟩
 ·exact keep b o (neL b o e) hb (neC b o e hx) (I.base.keep b o e n hb hx) (I.base.free b o e n hx)
 ·obtain⟨sl,e1⟩:=I.base.slot b o e n hb hx
  obtain⟨sl',e2⟩:=slot b _ (neL b o e) hb (neC b o e hx) e1 (I.base.free b o e n hx);exact⟨sl',e2⟩
 ·obtain⟨o',e1⟩:=I.base.there b o e hx
  exact free b o' (neC b o e hx) e1 (I.base.free b o e n hx)
 ·obtain⟨o',e1⟩:=I.base.there b o e hx
  exact there b o' (neC b o e hx) e1
 ·obtain⟨m1,e1⟩:=I.base.tbls b ps e
  obtain⟨m2,e2⟩:=tbls b _ e1;exact⟨m1++m2,by rw[e2,Array.append_assoc]⟩
 ·obtain⟨m,hn,hl⟩:=I.loc
  refine⟨m,ns m hn,fun i x v e1 e2 e3=>?_⟩;obtain⟨u,r,l⟩:=hl i x v e1 e2 e3;refine⟨u,r, ?_⟩;rcases l with l |⟨k,c,e,z⟩
  ·exact .inl l
  ·exact .inr ⟨k,c,e,cellK x c e _ z⟩
 ·obtain⟨v,z⟩:=I.cell x c e
  exact⟨v,cellK x c e v z⟩
 ·obtain⟨m,⟨o,_,_,ho,_⟩,_⟩:=I.loc
  exact free _ o (fun z=>(hch _ z).2.1 rfl) ho I.free
 ·obtain⟨v,o,ho,hd⟩:=I.cell x c e
  exact free c o (fun z=>(hch c z).2.2.1 x c e rfl) ho (I.freeC x c e)
 ·obtain⟨e,n,ne,nf,d⟩:=I.pin p hp
  have nch:p.1∉ch:=fun z=>(hch p.1 z).2.2.2 p hp rfl;exact⟨keep p.1 p.2 ne nf nch e n,free p.1 p.2 nch e n,ne,nf,d⟩
theorem Inv.un{t':Nat}(I:Inv X pins σ H s)(u:Un X.fs [] H H' s.heap h')(hok:HOk X.prog X.w H' h'):Inv X pins σ H' {s with heap:=h',toks:=t'}:=by
 obtain⟨m,⟨o,es,ep,ho,r⟩,_⟩:=id I.loc;obtain⟨sl,hL⟩:=u.any ho I.free (by simp);exact I.step (g':=s.gens) (d':=s.drawn) (ch:=[]) (fun _ z=>nomatch z) (fun b o _ hb _ e n=>u.keep b o e n hb (by simp)) (fun b o _ hb _ e n=>u.slot b o e n hb (by simp)) (fun b o _ e n=>u.free b o e n (by simp)) (fun b o _ e=>u.there b o e (by simp)) u.tups u.frzs u.tbls (fun m' hm=>by
  obtain⟨o',es',ep',ho',r'⟩:=hm;rw[ho] at ho';cases ho';exact⟨_,es',ep',hL,r'⟩) hok I.bare
theorem Inv.call{g':Array GenState}{t':Nat}{d':Drawn}{ch:List Addr}(I:Inv X pins σ H s)(u:Un (frs X.stack) ch H H' s.heap h')(hok:HOk X.prog X.w H' h')(hg:AllBare g')
  (hch:∀b∈ch,(b∈X.ex∨X.s₀.heap.objs.size≤b)∧b≠X.env.locals∧(∀x c,X.env.cells.lookup x=some c→c≠b)∧∀p∈X.pn++pins,p.1≠b):
  Inv X pins σ H' {s with heap:=h',gens:=g',drawn:=d',toks:=t'}:=by
 obtain⟨m,⟨o,es,ep,ho,r⟩,_⟩:=id I.loc;obtain⟨sl,hL⟩:=u.any ho I.free fun z=>(hch _ z).2.1 rfl;exact I.step (ch:=ch) hch (fun b o hL hb hc e n=>u.keep b o e n (fun z=>(mF.mp (I.stkSub b z)).elim hL hb) hc) (fun b o _ _ hc e n=>u.any e n hc) (fun b o hc e n=>u.free b o e n hc) (fun b o hc e=>u.there b o e hc) u.tups u.frzs u.tbls (fun m' hm=>by
  obtain⟨o',es',ep',ho',r'⟩:=hm;rw[ho] at ho';cases ho';exact⟨_,es',ep',hL,r'⟩) hok hg
theorem Inv.turned{t':Nat}{it:Addr}(I:Inv X pins σ H s)(k:∀b o,b≠it→s.heap.get? b=some o→h'.get? b=some o)(hn:H it=none)(hL:it≠X.env.locals)
  (h1:it∈X.ex∨X.s₀.heap.objs.size≤it) (h2:∀x c,X.env.cells.lookup x=some c→c≠it) (h3:∀p∈X.pn++pins,p.1≠it):Inv X pins σ H {s with heap:=h',toks:=t'}:=by
 have nit:∀b u,H b=some u→b≠it:=fun b u e z=>by rw[z,hn] at e;cases e
 refine I.step (g':=s.gens) (d':=s.drawn) (ch:=[it]) (fun b hb=>?_) (fun b o _ _ hc e _=>k b o (fun z=>hc (by simp[z])) e) (fun b o _ _ hc e _=>⟨o.slots,k b o (fun z=>hc (by simp[z])) e⟩) (fun _ _ _ _ n=>n)
  (fun b o hc e=>⟨o,k b o (fun z=>hc (by simp[z])) e⟩) (fun _ _ e=>e) (fun _ _ _ e=>e) (fun b ps e=>⟨#[],by rw[e];simp⟩) (fun m hm=>?_) (fun b u e=>?_) I.bare
 ·have e:b=it:=by simpa using hb
  subst e;exact⟨h1,hL,h2,h3⟩
 ·obtain⟨o,es,ep,ho,r⟩:=hm
  exact⟨o,es,ep,k _ o (Ne.symm hL) ho,r⟩
 ·refine(I.hok b u e).stay (fun c v hc q=>k c v ?_ q) (fun _ q=>q) fun _ _ q=>q
  rcases hc with z | z
  ·rw[z];exact nit b u e
  ·exact nit c _ z
theorem Inv.tok(I:Inv X pins σ H s)(t:Nat):Inv X pins σ H {s with toks:=t}:=I.un (h':=s.heap) (t':=t) Un.refl I.hok
theorem Inv.kept{t':Nat}(I:Inv X pins σ H s)(k:∀b u,s.heap.get? b=some u→h'.get? b=some u):Inv X pins σ H {s with heap:=h',toks:=t'}:=I.un (Un.kept k) (I.hok.kept k)
theorem Inv.laid{a:Addr}{o:HO}{t':Nat}(I:Inv X pins σ H s)(k:∀b u,s.heap.get? b=some u→h'.get? b=some u)(hp:s.heap.objs.size≤a)(new:ObjOk X.prog X.w (upd H a o) h' a o):
  Inv X pins σ (upd H a o) {s with heap:=h',toks:=t'}:=I.un (Un.laid k hp (I.hok.fresh hp)) (I.hok.laid k hp new)
theorem Inv.write{x e:Addr}{o:HO}{t':Nat}(I:Inv X pins σ H s)(mu:Mut (H x))(he:e=x∨H e=some (.own x))(k:∀b u,b≠e→s.heap.get? b=some u→h'.get? b=some u)(heo:∃u,h'.get? e=some u)
  (new:ObjOk X.prog X.w (upd H x o) h' x o):Inv X pins σ (upd H x o) {s with heap:=h',toks:=t'}:=I.un (Un.write mu he k heo) (I.hok.write mu he k heo new)
theorem Inv.weak{σ':List (Option V)}(I:Inv X pins σ H s)(hl:σ'.length=σ.length)(w:∀(i:Nat) v,σ'[i]? =some (some v)→σ[i]? =some (some v)):Inv X pins σ' H s:=
 ⟨I.ok,I.os,I.bare,I.base,let ⟨m,hn,hl'⟩:=I.loc;⟨m,hn,fun i x v e1 e2 e3=>hl' i x v e1 (w i v e2) e3⟩,I.cell,I.free,I.freeC,I.pin,I.hok,hl.trans I.len⟩
theorem Inv.pins_of{pins':List (Addr×Obj)}(I:Inv X pins σ H s)(h:∀p∈pins',s.heap.get? p.1=some p.2∧H p.1=none∧p.1≠X.env.locals∧p.1∉X.fs∧∀v,p.2.data≠ .cell v):Inv X pins' σ H s:=
 ⟨I.ok,I.os,I.bare,I.base,I.loc,I.cell,I.free,I.freeC,fun p hp=>(mT.mp hp).elim (fun z=>I.pin p (pH _ z)) (h p),I.hok,I.len⟩
theorem zIx{N:List Str}(hN:N.Nodup){i j:Nat}{x:Str}(a:N[i]? =some x)(b:N[j]? =some x):i=j:=by
 obtain⟨h1,e1⟩:=mQ.mp a;obtain⟨h2,e2⟩:=mQ.mp b;exact(List.getElem_inj hN).mp (e1.trans e2.symm)
theorem zEo{M:Model}{A:Around}{E:Value→Shared→Prop}{i:Nat}{x:Str}{v:V}{u:Value}{Q:Unit→Shared→Prop}(I:Inv X pins σ H s)(hN:X.N.Nodup)(hi:X.N[i]? =some x)(hx:Loc X.env.scope x)(r:RelV v u)
  (h:∀s',Inv X pins (σ.set i (some v)) H s'→(∃a,Heap.SameBut a s.heap s'.heap∧(a=X.env.locals∨X.env.cells.lookup x=some a))→Q () s') (hf:X.fn x=true∨X.env.scope.names.lookup x=some .local:=by first | exact .inl rfl | exact .inr rfl | assumption):wpAny M A (storeName X.env x u) Q E s:=by
 obtain⟨m,hn,hl⟩:=id I.loc;have hcls:(X.env.scope.kind== .class ||(X.env.scope.kind== .module && X.env.locals !=X.env.globals))=false:=by rw[I.ok.kind];rfl
 have hiσ:i<σ.length:=by rw[I.len];exact(mQ.mp hi).1
 have cne:=I.cne;have tracked:∀{a:Addr}{h':Heap},(∃o,s.heap.get? a=some o∧H a=none)→Heap.SameBut a s.heap h'→HOk X.prog X.w H h':=fun {a h'} ha hs b ob e=>by
  obtain⟨_,_,hfree⟩:=ha;refine(I.hok b ob e).stay (fun c w' hc q=>(hs.2 c ?_).trans q) (fun _ q=>q) fun _ _ q=>q;rintro rfl;rcases hc with rfl | hc
  ·rw[hfree] at e;cases e
  ·rw[hfree] at hc;cases hc
 rcases hx with hk | hk
 ·refine wpAny_storeName_local hk hn (fun h' hn' hs=>?_) hcls
  obtain⟨oL,_,_,hoL,_⟩:=id hn;refine h _ ⟨I.ok,I.os,I.bare,⟨fun b o e n hb hx=>?_,fun b o e n hb hx=>?_,I.base.free,fun b o e hx=>?_,I.base.tups,I.base.frzs,I.base.tbls⟩,⟨_,hn',fun j y v' e1 e2 e3=>?_⟩,fun y c e=>?_,I.free,I.freeC,fun p hp=>?_,tracked ⟨oL,hoL,I.free⟩ hs,by simpa using I.len⟩ ⟨_,hs, .inl rfl⟩
  ·exact(hs.2 b (nO (nF (mY e) I.ok.above))).trans (I.base.keep b o e n hb hx)
  ·obtain⟨sl,e1⟩:=I.base.slot b o e n hb hx
   exact⟨sl,(hs.2 b (nO (nF (mY e) I.ok.above))).trans e1⟩
  ·obtain⟨o',e1⟩:=I.base.there b o e hx
   exact⟨o',(hs.2 b (nO (nF (mY e) I.ok.above))).trans e1⟩
  ·by_cases hj:j=i
   ·subst hj
    rw[hi] at e1;cases e1;rw[aW hiσ] at e2;cases e2;exact⟨u,r, .inl ⟨hk,by simp⟩⟩
   ·rw[sP (Ne.symm hj)] at e2
    obtain⟨u',r',q⟩:=hl j y v' e1 e2 e3;refine⟨u',r', ?_⟩;rcases q with⟨k,e⟩|⟨k,c,e,z⟩
    ·refine .inl ⟨k, ?_⟩
     have:y≠x:=fun e=>hj (zIx hN e1 (e▸hi));simp[this,e]
    ·exact .inr ⟨k,c,e,z.sameBut hs (cne y c e)⟩
  ·obtain⟨w',z⟩:=I.cell y c e
   exact⟨w',z.sameBut hs (cne y c e)⟩
  ·obtain⟨e,n,ne,nf,d⟩:=I.pin p hp
   exact⟨(hs.2 p.1 ne).trans e,n,ne,nf,d⟩
 ·have hfn:X.fn x=true:=by
   rcases hf with z | z
   ·exact z
   ·rw[z] at hk;cases hk
  obtain⟨c,hc⟩:=I.ok.has x (.inl hk);obtain⟨w',z⟩:=I.cell x c hc;refine wpAny_storeName_cell I.ok.kind hk hc z (fun h' hc' hs=>?_);obtain⟨oc,hoc,hocd⟩:=id z;refine h {s with heap:=h'} ⟨I.ok,I.os,I.bare,⟨fun b o e n hb hx=>?_,fun b o e n hb hx=>?_,I.base.free,fun b o e hx=>?_,I.base.tups,I.base.frzs,I.base.tbls⟩,⟨m,hn.sameBut hs (Ne.symm (cne x c hc)),fun j y v' e1 e2 e3=>?_⟩,fun y c' e=>?_,I.free,I.freeC,fun p hp=>?_,tracked ⟨oc,hoc,I.freeC x c hc⟩ hs,by simpa using I.len⟩ ⟨c,hs, .inr hc⟩
  ·exact(hs.2 b (nO (nF (mY e) (I.ok.cab x c hfn hc)))).trans (I.base.keep b o e n hb hx)
  ·obtain⟨sl,e1⟩:=I.base.slot b o e n hb hx
   exact⟨sl,(hs.2 b (nO (nF (mY e) (I.ok.cab x c hfn hc)))).trans e1⟩
  ·obtain⟨o',e1⟩:=I.base.there b o e hx
   exact⟨o',(hs.2 b (nO (nF (mY e) (I.ok.cab x c hfn hc)))).trans e1⟩
  ·by_cases hj:j=i
   ·subst hj
    rw[hi] at e1;cases e1;rw[aW hiσ] at e2;cases e2;exact⟨u,r, .inr ⟨.inl hk,c,hc,hc'⟩⟩
   ·rw[sP (Ne.symm hj)] at e2
    obtain⟨u',r',q⟩:=hl j y v' e1 e2 e3;refine⟨u',r', ?_⟩;rcases q with q |⟨k,c',e,z'⟩
    ·exact .inl q
    ·refine .inr ⟨k,c',e,z'.sameBut hs ?_⟩
     rintro rfl;exact hj (zIx hN e1 (I.ok.inj _ _ _ e hc▸hi))
  ·by_cases hcc:c'=c
   ·subst hcc;exact⟨_,hc'⟩
   ·obtain⟨w2,z2⟩:=I.cell y c' e
    exact⟨w2,z2.sameBut hs hcc⟩
  ·obtain⟨e,n,ne,nf,d⟩:=I.pin p hp
   refine⟨(hs.2 p.1 ?_).trans e,n,ne,nf,d⟩;intro q;rw[q,hoc] at e;have q':oc=p.2:=mW e;exact d w' (by rw[←q'];exact hocd)
theorem zAo{M:Model}{A:Around}{E:Value→Shared→Prop}{i:Nat}{x:Str}{v:V}{u:Value}{Q:Unit→Shared→Prop}(I:Inv X pins σ H s)(hN:X.N.Nodup)(hi:X.N[i]? =some x)(hx:Loc X.env.scope x)(r:RelV v u)
  (h:∀s',Inv X pins (σ.set i (some v)) H s'→Q () s') (hf:X.fn x=true∨X.env.scope.names.lookup x=some .local:=by first | exact .inl rfl | exact .inr rfl | assumption):wpAny M A (storeName X.env x u) Q E s:=
 zEo I hN hi hx r (fun s' I' _=>h s' I') hf
theorem Inv.call'{s':Shared}{ch:List Addr}(I:Inv X pins σ H s)(ho:s'.os=s.os)(u:Un (frs X.stack) ch H H' s.heap s'.heap)(hok:HOk X.prog X.w H' s'.heap)(hg:AllBare s'.gens)
  (hch:∀b∈ch,(b∈X.ex∨X.s₀.heap.objs.size≤b)∧b≠X.env.locals∧(∀x c,X.env.cells.lookup x=some c→c≠b)∧∀p∈X.pn++pins,p.1≠b):Inv X pins σ H' s':=by
 obtain⟨h',g',d',t',o'⟩:=s';have e:o'=s.os:=ho;subst e;exact I.call (g':=g') (t':=t') (d':=d') u hok hg hch
end
abbrev XK:=Value→Option Addr→Hp→Prop
abbrev St:=List (Option V)
abbrev VK:=V→Hp→Prop
abbrev TE:=St→Hp→VK→Prop
abbrev TT:=St→Hp→(Bool→Hp→Prop)→Prop
abbrev TA:=St→Hp→(List V→Hp→Prop)→Prop
structure zBr where
 nx:St→Hp→Prop
 rt:VK
 bk:St→Hp→Prop:=fun _ _=>False
 ct:St→Hp→Prop:=fun _ _=>False
abbrev TS:=zBr→St→Hp→Prop
def EP(X:Cx)(pins:List (Addr×Obj))(σ:St)(Q:VK)(u:Value)(s':Shared):Prop:=∃v H',Inv X pins σ H' s'∧RelV v u∧Q v H'
def TP(X:Cx)(pins:List (Addr×Obj))(σ:St)(Q:Bool→Hp→Prop)(b:Bool)(s':Shared):Prop:=∃H',Inv X pins σ H' s'∧Q b H'
def AP(X:Cx)(pins:List (Addr×Obj))(σ:St)(Q:List V→Hp→Prop)(us:List Value)(s':Shared):Prop:=∃vs H',Inv X pins σ H' s'∧Vals vs us∧Q vs H'
def SP(X:Cx)(pins:List (Addr×Obj))(D:zBr)(f:Flow)(s':Shared):Prop:=
 match f with
 | .next=>∃σ' H',Inv X pins σ' H' s'∧D.nx σ' H'
 | .brk=>∃σ' H',Inv X pins σ' H' s'∧D.bk σ' H'
 | .cont=>∃σ' H',Inv X pins σ' H' s'∧D.ct σ' H'
 | .ret u=>∃v σ' H',Inv X pins σ' H' s'∧RelV v u∧D.rt v H'
def PE(X:Cx)(e:Expr)(t:TE):Prop:=
 ∀(pins:List (Addr×Obj))(s:Shared)(σ:St)(H:Hp)(Q:VK),Inv X pins σ H s→t σ H Q→wpAny (model X.prog X.w) X.A (eval e X.env) (EP X pins σ Q) X.xe s
def PT(X:Cx)(e:Expr)(t:TT):Prop:=
 ∀(pins:List (Addr×Obj))(s:Shared)(σ:St)(H:Hp)(Q:Bool→Hp→Prop),Inv X pins σ H s→t σ H Q→wpAny (model X.prog X.w) X.A (isTrue e X.env (eval e X.env)) (TP X pins σ Q) X.xe s
def PW(X:Cx)(e:Expr)(t:TT):Prop:=
 ∀(whole:Sem Value)(pins:List (Addr×Obj))(s:Shared)(σ:St)(H:Hp)(Q:Bool→Hp→Prop),Inv X pins σ H s→t σ H Q→wpAny (model X.prog X.w) X.A (isTrue e X.env whole) (TP X pins σ Q) X.xe s
theorem PW.pt{X:Cx}{e:Expr}{t:TT}(h:PW X e t):PT X e t:=h _
def PA(X:Cx)(es:List Expr)(t:TA):Prop:=
 ∀(pos:Pos)(pins:List (Addr×Obj))(s:Shared)(σ:St)(H:Hp)(Q:List V→Hp→Prop),Inv X pins σ H s→t σ H Q→wpAny (model X.prog X.w) X.A (spliced (backTo pos (starEach es X.env))) (AP X pins σ Q) X.xe s
def PS(X:Cx)(st:Stmt)(t:TS):Prop:=
 ∀(pins:List (Addr×Obj))(s:Shared)(σ:St)(H:Hp)(D:zBr),Inv X pins σ H s→t D σ H→wpAny (model X.prog X.w) X.A (exec st X.env) (SP X pins D) X.xe s
def PSs(X:Cx)(st:List Stmt)(t:TS):Prop:=
 ∀(pins:List (Addr×Obj))(s:Shared)(σ:St)(H:Hp)(D:zBr),Inv X pins σ H s→t D σ H→wpAny (model X.prog X.w) X.A (execs st X.env) (SP X pins D) X.xe s
theorem thn{α:Type}{t:Sem α}{Q Q':α→Shared→Prop}{M:Model}{A:Around}{E:Value→Shared→Prop}{s:Shared}(h:wpAny M A t Q E s)(hQ:∀a s,Q a s→Q' a s):wpAny M A t Q' E s:=rE h hQ fun _ _ x=>x
section
variable{X:Cx}
def zIe(i:Nat):TE:=fun σ H Q=>∃v,σ[i]? =some (some v)∧Q v H
def tC(v:V):TE:=fun _ H Q=>Q v H
theorem yBh{i:Nat}{x:Str}{pos:Pos}(hN:X.N[i]? =some x)(hv:Vis X.env.scope x)(hd:(x==("__debug__" :Str))=false:=by decide)(hcd:(x==("__classdict__" :Str))=false:=by decide):PE X (.Name x pos) (zIe i):=by
 intro pins s σ H Q I h;obtain⟨v,e,h⟩:=h;obtain⟨m,hn,hl⟩:=I.loc;obtain⟨u,r,l⟩:=hl i x v hN e hv;have fin:EP X pins σ Q u s:=⟨v,H,I,r,h⟩;rcases l with⟨hk,hm⟩|⟨hk,c,hc,hcell⟩
 ·exact wpAny_Name (wpAny_loadName_local I.ok.kind hk hn hm fin) hd
 ·rcases hk with hk | hk
  ·exact wpAny_Name (wpAny_loadName_cell I.ok.kind hk hc hcell fin) hd
  ·exact wpAny_Name (wpAny_loadName_free I.ok.kind hk hc hcell fin hcd) hd
theorem zF{i j pos}:PE X (.Constant (.int i) j pos) (tC (.int i)):=fun _ _ _ H _ I h=>wpAny_Constant_int ⟨.int i,H,I.tok _,⟨_,rfl⟩,h⟩
theorem vO{b j pos}:PE X (.Constant (.bool b) j pos) (tC (.bl b)):=fun _ _ _ H _ I h=>Constant_bool ⟨.bl b,H,I,rfl,h⟩
theorem qV{j pos}:PE X (.Constant .none j pos) (tC .non):=fun _ _ _ H _ I h=>Constant_none ⟨.non,H,I,rfl,h⟩
theorem zY{x j pos}:PE X (.Constant (.str x) j pos) (tC (.str x)):=fun _ _ _ H _ I h=>Calls.Constant_str ⟨.str x,H,I.tok _,⟨_,rfl⟩,h⟩
def Gl(X:Cx)(x:Str):Prop:=X.env.kindOf x=some .globalImplicit
theorem jI{E:Value→Shared→Prop}{pins:List (Addr×Obj)}{s:Shared}{σ:St}{H:Hp}{x:Str}{u:Value}{pos:Pos}{Q:Value→Shared→Prop}(I:Inv X pins σ H s)(hg:Gl X x)(hm:X.mg x=some u)(h:Q u s)
  (hd:(x==("__debug__" :Str))=false:=by decide):wpAny (model X.prog X.w) X.A (eval (.Name x pos) X.env) Q E s:=
 Calls.Name_function_global I.ok.kind hg (Calls.loadGlobal_global (by rw[I.ok.glob];exact I.mod.glob.keeps I.bk) hm h) hd
theorem zBl{E:Value→Shared→Prop}{pins:List (Addr×Obj)}{s:Shared}{σ:St}{H:Hp}{x:Str}{u:Value}{pos:Pos}{Q:Value→Shared→Prop}(I:Inv X pins σ H s)(hg:Gl X x)(hm:X.mg x=none)(hv:bootBuiltins x=some u)(h:Q u s)
  (hn:x≠ "__name__":=by decide) (hd:(x==("__debug__" :Str))=false:=by decide):wpAny (model X.prog X.w) X.A (eval (.Name x pos) X.env) Q E s:=by
 obtain⟨mb,h1,h2⟩:=I.mod.blt;exact Calls.Name_function_global I.ok.kind hg (Calls.loadGlobal_builtin (by rw[I.ok.glob];exact I.mod.glob.keeps I.bk) hm (by rw[I.ok.blt];exact h1.keeps I.bk) ((h2 x hn).trans hv) h) hd
theorem xM{x:Str}{v:V}{u:Value}{pos:Pos}(hg:Gl X x)(hm:X.mg x=some u)(r:RelV v u)(hd:(x==("__debug__" :Str))=false:=by decide):PE X (.Name x pos) (tC v):=
 fun _ _ _ H _ I h=>jI I hg hm ⟨v,H,I,r,h⟩ hd
theorem xP{x:Str}{v:V}{u:Value}{pos:Pos}(hg:Gl X x)(hm:X.mg x=none)(hv:bootBuiltins x=some u)(r:RelV v u)(hn:x≠ "__name__":=by decide)(hd:(x==("__debug__" :Str))=false:=by decide):PE X (.Name x pos) (tC v):=
 fun _ _ _ H _ I h=>zBl I hg hm hv ⟨v,H,I,r,h⟩ hn hd
variable{a b:Expr}{ta tb:TE}{pos:Pos}
def PC(X:Cx)(op:CmpOp)(a b:Expr)(t:TE):Prop:=
 ∀(pins:List (Addr×Obj))(s:Shared)(σ:St)(H:Hp)(Q:VK),Inv X pins σ H s→t σ H Q→
  wpAny (model X.prog X.w) X.A (eval a X.env) (fun v s₁=>wpAny (model X.prog X.w) X.A (eval b X.env) (fun u s₂=>wpAny (model X.prog X.w) X.A (compareOp op v u) (EP X pins σ Q) X.xe s₂) X.xe s₁) X.xe s
theorem zIk(b:Expr){op:CmpOp}(h:op≠ .In)(h2:op≠ .NotIn):behindInMarks op b=false:=by
 have e1:(op==CmpOp.In)=false:=by cases op<;>first | rfl | exact absurd rfl h
 have e2:(op==CmpOp.NotIn)=false:=by cases op<;>first | rfl | exact absurd rfl h2
 cases b<;>simp[behindInMarks,e1,e2]
def zYv(ta:TE):TE:=fun σ H Q=>ta σ H fun x H1=>Q (.bl (decide (x= .non))) H1
def zQa(ta:TE):TE:=fun σ H Q=>ta σ H fun x H1=>Q (.bl (!decide (x= .non))) H1
theorem RelV.none_iff{x:V}{v:Value}(r:RelV x v):(v==Value.none)=decide (x= .non):=by
 cases x with
 | non=>cases r;rfl
 | bl _=>cases r;rfl
 | int _=>obtain⟨t,rfl⟩:=r;rfl
 | str _=>obtain⟨t,rfl⟩:=r;rfl
 | byt _=>obtain⟨t,rfl⟩:=r;rfl
 | flt _=>obtain⟨t,rfl⟩:=r;rfl
 | ref _=>cases r;rfl
 | ty _=>cases r;rfl
theorem zLd{j pos'}(ha:PE X a ta):PC X .Is a (.Constant .none j pos') (zYv ta):=by
 intro pins s σ H Q I h;refine thn (ha pins s σ H _ I h) fun v s1 ⟨x,H1,I1,r1,q1⟩=>?_;exact Constant_none (is_none_gen ⟨.bl _,H1,I1,by rw[r1.none_iff];rfl,q1⟩)
theorem zWb{j pos'}(ha:PE X a ta):PC X .IsNot a (.Constant .none j pos') (zQa ta):=by
 intro pins s σ H Q I h;refine thn (ha pins s σ H _ I h) fun v s1 ⟨x,H1,I1,r1,q1⟩=>?_;exact Constant_none (isnot_none_gen ⟨.bl _,H1,I1,by rw[r1.none_iff];rfl,q1⟩)
def tB(t:TE):TT:=fun σ H Q=>t σ H fun x H1=>∃c,x= .bl c∧Q c H1
theorem zGx{op:CmpOp}{t:TE}(h:PC X op a b t)(h1:behindInMarks op b=false:=by first | exact zIk _ (by decide) (by decide)| rfl):PE X (.Compare a [op] [b] pos) t:=fun pins s σ H Q I hw=>wpAny_Compare1 (h pins s σ H Q I hw) h1
theorem zGh{op:CmpOp}{t:TE}(h:PC X op a b t)(h1:behindInMarks op b=false:=by first | exact zIk _ (by decide) (by decide)| rfl):PT X (.Compare a [op] [b] pos) (tB t):=by
 intro pins s σ H Q I hw;refine wpAny_isTrue_Compare1 (thn (h pins s σ H _ I hw) fun v s1 h1=>thn h1 fun u s2 h2=>thn h2 fun c s3 ⟨x,H1,I1,r1,q1⟩=>?_) h1;obtain⟨d,rfl,q⟩:=q1;cases r1;exact pZ ⟨H1,I1,q⟩
theorem yA{e:Expr}{t:TE}(h:PE X e t)(he:∀whole,isTrue e X.env whole=(do let v ←whole;standAt e.pos;holding [v] (truthy v)):=by intro _;rfl):PT X e (tB t):=by
 intro pins s σ H Q I hw;refine isTrue_plain (thn (h pins s σ H _ I hw) fun v s1 ⟨x,H1,I1,r1,q1⟩=>?_) (he _);obtain⟨d,rfl,q⟩:=q1;cases r1;exact pZ ⟨H1,I1,q⟩
variable{tA tB':TT}{rest:List Expr}
def zYi(t u:TT):TT:=fun σ H Q=>t σ H fun c H1=>if c=true then u σ H1 Q else Q false H1
def tOr(t u:TT):TT:=fun σ H Q=>t σ H fun c H1=>if c=true then Q true H1 else u σ H1 Q
def yBt(t:TT):TT:=fun σ H Q=>t σ H fun c H1=>Q (!c) H1
theorem uK(ha:PT X a tA):PW X (.BoolOp .And [a] pos) tA:=by
 intro wh pins s σ H Q I h;refine isTrue_and (thn (ha pins s σ H Q I h) fun c s1 e=>?_)
 cases c with
 | true=>exact isTrue_and_nil e
 | false=>exact e
theorem jN(ha:PT X a tA):PW X (.BoolOp .Or [a] pos) tA:=by
 intro wh pins s σ H Q I h;refine isTrue_or (thn (ha pins s σ H Q I h) fun c s1 e=>?_)
 cases c with
 | false=>exact isTrue_or_nil e
 | true=>exact e
theorem zBc(ha:PT X a tA)(hb:PW X (.BoolOp .And (b::rest) pos) tB'):PW X (.BoolOp .And (a::b::rest) pos) (zYi tA tB'):=by
 intro wh pins s σ H Q I h;refine isTrue_and (thn (ha pins s σ H _ I h) fun c s1 ⟨H1,I1,q1⟩=>?_)
 cases c with
 | true=>exact hb wh pins s1 σ H1 Q I1 q1
 | false=>exact⟨H1,I1,q1⟩
theorem gZ(ha:PT X a tA)(hb:PW X (.BoolOp .Or (b::rest) pos) tB'):PW X (.BoolOp .Or (a::b::rest) pos) (tOr tA tB'):=by
 intro wh pins s σ H Q I h;refine isTrue_or (thn (ha pins s σ H _ I h) fun c s1 ⟨H1,I1,q1⟩=>?_)
 cases c with
 | true=>exact⟨H1,I1,q1⟩
 | false=>exact hb wh pins s1 σ H1 Q I1 q1
theorem xX(ha:PT X a tA):PT X (.UnaryOp .Not a pos) (yBt tA):=by
 intro pins s σ H Q I h;exact isTrue_not (ha pins s σ H (fun c H1=>Q (!c) H1) I h)
def zSt(ta tb:TE):TE:=fun σ H Q=>ta σ H fun x H1=>∃c,x= .bl c∧if c=true then tb σ H1 Q else Q (.bl false) H1
def yAe(ta tb:TE):TE:=fun σ H Q=>ta σ H fun x H1=>∃c,x= .bl c∧if c=true then Q (.bl true) H1 else tb σ H1 Q
def zPr(ta:TE):TE:=fun σ H Q=>ta σ H fun x H1=>∃c,x= .bl c∧Q (.bl (!c)) H1
theorem xY{op}{t:TE}(h:PE X a t):PE X (.BoolOp op [a] pos) t:=fun pins s σ H Q I hw=>BoolOp_one (h pins s σ H Q I hw)
theorem xV(ha:PE X a ta)(hb:PE X (.BoolOp .And (b::rest) pos) tb):PE X (.BoolOp .And (a::b::rest) pos) (zSt ta tb):=by
 intro pins s σ H Q I h;refine BoolOp_and (thn (ha pins s σ H _ I h) fun v s1 ⟨x,H1,I1,r1,q1⟩=>?_);obtain⟨c,rfl,q1⟩:=q1;cases r1;refine pZ ?_
 cases c with
 | true=>exact hb pins s1 σ H1 Q I1 q1
 | false=>exact⟨.bl false,H1,I1,rfl,q1⟩
theorem pe_or(ha:PE X a ta)(hb:PE X (.BoolOp .Or (b::rest) pos) tb):PE X (.BoolOp .Or (a::b::rest) pos) (yAe ta tb):=by
 intro pins s σ H Q I h;refine BoolOp_or (thn (ha pins s σ H _ I h) fun v s1 ⟨x,H1,I1,r1,q1⟩=>?_);obtain⟨c,rfl,q1⟩:=q1;cases r1;refine pZ ?_
 cases c with
 | false=>exact hb pins s1 σ H1 Q I1 q1
 | true=>exact⟨.bl true,H1,I1,rfl,q1⟩
theorem zYg(ha:PE X a ta):PE X (.UnaryOp .Not a pos) (zPr ta):=by
 intro pins s σ H Q I h;refine UnaryOp_ (thn (ha pins s σ H _ I h) fun v s1 ⟨x,H1,I1,r1,q1⟩=>?_);obtain⟨c,rfl,q1⟩:=q1;cases r1;exact not_of (pZ ⟨.bl (!c),H1,I1,rfl,q1⟩)
def tIf(t:TT)(ta tb:TE):TE:=fun σ H Q=>t σ H fun c H1=>if c=true then ta σ H1 Q else tb σ H1 Q
theorem zRc{c:Expr}(hc:PT X c tA)(ha:PE X a ta)(hb:PE X b tb):PE X (.IfExp c a b pos) (tIf tA ta tb):=by
 intro pins s σ H Q I h;refine wpAny_IfExp (thn (hc pins s σ H _ I h) fun d s1 ⟨H1,I1,q1⟩=>?_)
 cases d with
 | true=>exact ha pins s1 σ H1 Q I1 q1
 | false=>exact hb pins s1 σ H1 Q I1 q1
end
def SqL(K:W.Frag)(H:Hp)(a:Addr)(xs:List V):Prop:=
 Rd H a (.lst xs)∨
  ∃(o:Obj)(its:Array Value)(n:Nat),K.lookup a=some o∧o.cls= .type "list"∧o.dict=none∧o.data= .seq its n∧its.size≤sizeLine∧Vals xs its.toList
def SqT(K:W.Frag)(H:Hp)(a:Addr)(xs:List V):Prop:=
 Rd H a (.tup xs)∨
  ∃(o:Obj)(its:Array Value)(n:Nat),K.lookup a=some o∧o.cls= .type "tuple"∧o.data= .seq its n∧its.size≤sizeLine∧Vals xs its.toList
def absV:Value→Option V
 | .none=>some .non
 | .bool b=>some (.bl b)
 | .int i _=>some (.int i)
 | .str x _=>some (.str x)
 | .bytes b _=>some (.byt b)
 | .float b _=>some (.flt b)
 | .ref a=>some (.ref a)
 | .type n=>some (.ty n)
 | _=>none
theorem RelV.abs{x:V}{u:Value}(r:RelV x u):absV u=some x:=by
 cases x with
 | non=>cases r;rfl
 | bl _=>cases r;rfl
 | int _=>obtain⟨t,rfl⟩:=r;rfl
 | str _=>obtain⟨t,rfl⟩:=r;rfl
 | byt _=>obtain⟨t,rfl⟩:=r;rfl
 | flt _=>obtain⟨t,rfl⟩:=r;rfl
 | ref _=>cases r;rfl
 | ty _=>cases r;rfl
theorem RelV.inj{x y:V}{u:Value}(r:RelV x u)(q:RelV y u):x=y:=mW (r.abs.symm.trans q.abs)
theorem Vals.inj:∀{xs ys:List V}{us:List Value},Vals xs us→Vals ys us→xs=ys
 | _,_,_, .nil, .nil=>rfl
 | _,_,_, .cons r t, .cons r' t'=>by rw[r.inj r',Vals.inj t t']
section
variable{X:Cx}{pins:List (Addr×Obj)}{σ:St}{H:Hp}{s:Shared}{a:Addr}{xs ys:List V}
theorem SqL.of{K:W.Frag}(h:H a=some (.lst xs)):SqL K H a xs:=.inl (.inl h)
theorem SqT.of{K:W.Frag}(h:H a=some (.tup xs)):SqT K H a xs:=.inl (.inl h)
theorem Inv.list(I:Inv X pins σ H s)(h:SqL X.K H a xs):∃its:List Value,Vals xs its∧PlainL s.heap a its.toArray∧xs.length≤sizeLine:=by
 rcases h with h |⟨o,its,n,hk,hc,hd,hs,hz,r⟩
 ·obtain⟨z,its,n,r,e⟩:=h.ok I.hok
  exact⟨its,r,⟨_,n,e,rfl,rfl,rfl⟩,z⟩
 ·refine⟨its.toList,r,⟨o,n,I.kIn a o hk,hc,hd,by simpa using hs⟩, ?_⟩
  have e:=r.length;simp only[aK] at e
  lia
theorem Inv.tuple(I:Inv X pins σ H s)(h:SqT X.K H a xs):∃its:List Value,Vals xs its∧IsTup s.heap a its.toArray∧xs.length≤sizeLine:=by
 rcases h with h |⟨o,its,n,hk,hc,hs,hz,r⟩
 ·obtain⟨z,its,r,p⟩:=h.ok I.hok
  exact⟨its,r,p,z⟩
 ·refine⟨its.toList,r,⟨o,I.kIn a o hk,hc,n,by simpa using hs⟩, ?_⟩
  have e:=r.length;simp only[aK] at e
  lia
theorem Inv.list_inj(I:Inv X pins σ H s)(h:SqL X.K H a xs)(h':SqL X.K H a ys):xs=ys:=by
 obtain⟨its,r,⟨o,n,e,_,_,d⟩,_⟩:=I.list h;obtain⟨its',r',⟨o',n',e',_,_,d'⟩,_⟩:=I.list h';rw[e] at e';cases e';rw[d] at d';injection d' with d1 _;have:its=its':=by simpa using congrArg Array.toList d1
 subst this;exact r.inj r'
theorem Inv.tuple_inj(I:Inv X pins σ H s)(h:SqT X.K H a xs)(h':SqT X.K H a ys):xs=ys:=by
 obtain⟨its,r,⟨o,e,_,n,d⟩,_⟩:=I.tuple h;obtain⟨its',r',⟨o',e',_,n',d'⟩,_⟩:=I.tuple h';rw[e] at e';cases e';rw[d] at d';injection d' with d1 _;have:its=its':=by simpa using congrArg Array.toList d1
 subst this;exact r.inj r'
end
abbrev Cx.wish(X:Cx)(E:Value→Shared→Prop):Cx:={X with xe:=E}
abbrev Cx.nox(X:Cx):Cx:=X.wish fun _ _=>False
theorem Cx.Ok.wish{X:Cx}(ok:X.Ok)(E:Value→Shared→Prop):(X.wish E).Ok:=
 ⟨ok.mod,ok.kind,ok.glob,ok.blt,ok.above,ok.inj,ok.has,ok.cab,ok.hd,ok.frames,ok.stk,ok.exf,ok.bs,ok.bsz,ok.noex,ok.exfs,ok.funs,ok.frf⟩
theorem Cx.Ok.unwish{X:Cx}{E:Value→Shared→Prop}(ok:(X.wish E).Ok):X.Ok:=
 ⟨ok.mod,ok.kind,ok.glob,ok.blt,ok.above,ok.inj,ok.has,ok.cab,ok.hd,ok.frames,ok.stk,ok.exf,ok.bs,ok.bsz,ok.noex,ok.exfs,ok.funs,ok.frf⟩
section
variable{X:Cx}{pins:List (Addr×Obj)}{σ:St}{H:Hp}{s:Shared}{E:Value→Shared→Prop}
theorem Inv.wish(I:Inv X pins σ H s)(E:Value→Shared→Prop):Inv (X.wish E) pins σ H s:=⟨I.ok.wish E,I.os,I.bare,I.base,I.loc,I.cell,I.free,I.freeC,I.pin,I.hok,I.len⟩
theorem Inv.unwish(I:Inv (X.wish E) pins σ H s):Inv X pins σ H s:=⟨I.ok.unwish,I.os,I.bare,I.base,I.loc,I.cell,I.free,I.freeC,I.pin,I.hok,I.len⟩
theorem SP.unwish{D:zBr}{f:Flow}{s':Shared}(h:SP (X.wish E) pins D f s'):SP X pins D f s':=by
 cases f with
 | next=>obtain⟨σ',H',I,q⟩:=h;exact⟨σ',H',I.unwish,q⟩
 | brk=>obtain⟨σ',H',I,q⟩:=h;exact⟨σ',H',I.unwish,q⟩
 | cont=>obtain⟨σ',H',I,q⟩:=h;exact⟨σ',H',I.unwish,q⟩
 | ret u=>obtain⟨v,σ',H',I,r,q⟩:=h;exact⟨v,σ',H',I.unwish,r,q⟩
theorem PSs.nox{st:List Stmt}{t:TS}(h:PSs X.nox st t):PSs X st t:=fun pins s σ H D I hw=>
 rE (h pins s σ H D (I.wish _) hw) (fun _ _ q=>q.unwish) fun _ _ z=>False.elim z
end
section
variable{X:Cx}{st:Stmt}{rest:List Stmt}{t u:TS}{e:Expr}{te:TE}{pos:Pos}
def zRy:TS:=fun D σ H=>D.nx σ H
def zZf(t u:TS):TS:=fun D σ H=>t {D with nx:=u D} σ H
theorem zL:PSs X [] zRy:=fun _ _ σ H _ I h=>bO ⟨σ,H,I,h⟩
theorem zE(h1:PS X st t)(h2:PSs X rest u):PSs X (st::rest) (zZf t u):=by
 intro pins s σ H D I h;refine wpAny_execs_cons (thn (h1 pins s σ H {D with nx:=u D} I h) fun f s1 q=>?_)
 cases f with
 | next=>
  obtain⟨σ',H',I',q⟩:=q;exact h2 pins s1 σ' H' D I' q
 | ret v=>exact q
 | brk=>exact q
 | cont=>exact q
theorem zG(h1:PS X st t):PSs X [st] t:=by
 intro pins s σ H D I h;refine wpAny_execs_cons (thn (h1 pins s σ H D I h) fun f s1 q=>?_)
 cases f with
 | next=>exact bO q
 | ret v=>exact q
 | brk=>exact q
 | cont=>exact q
theorem Inv.quiet{pins:List (Addr×Obj)}{σ:St}{H:Hp}{s:Shared}(I:Inv X pins σ H s):interactive X.env=false:=by simp[interactive,I.ok.kind]
def zRh(te:TE):TS:=fun D σ H=>te σ H fun _ H1=>D.nx σ H1
theorem vJ(he:PE X e te)(hs:swapsWith e none pos.line X.env=pure false:=by rfl):PS X (.Expr e pos) (zRh te):=by
 intro pins s σ H D I h;exact wpAny_Expr_any (thn (he pins s σ H _ I h) fun v s1 ⟨x,H1,I1,r1,q1⟩=>⟨σ,H1,I1,q1⟩) I.quiet hs
def zWg(te:TE):TS:=fun D σ H=>te σ H D.rt
theorem zK(he:PE X e te):PS X (.Return (some e) pos) (zWg te):=by
 intro pins s σ H D I h;exact wpAny_Return_some (thn (he pins s σ H _ I h) fun v s1 ⟨x,H1,I1,r1,q1⟩=>⟨x,σ,H1,I1,r1,q1⟩)
def zXt:TS:=fun D _ H=>D.rt .non H
def yBw(c:TT)(t u:TS):TS:=fun D σ H=>c σ H fun b H1=>if b=true then t D σ H1 else u D σ H1
theorem zS{c:Expr}{a b:List Stmt}{tc:TT}(hc:PT X c tc)(ha:PSs X a t)(hb:PSs X b u):PS X (.If c a b pos) (yBw tc t u):=by
 intro pins s σ H D I h;refine wpAny_If (thn (hc pins s σ H _ I h) fun d s1 ⟨H1,I1,q1⟩=>?_)
 cases d with
 | true=>exact ha pins s1 σ H1 D I1 q1
 | false=>exact hb pins s1 σ H1 D I1 q1
def zKx:TS:=fun _ _ _=>False
theorem zNm{sts:List Stmt}:PSs X sts zKx:=fun _ _ _ _ _ _ h=>h.elim
end
abbrev TG:=V→St→Hp→(St→Hp→Prop)→Prop
abbrev TGs:=List V→St→Hp→(St→Hp→Prop)→Prop
def PG(X:Cx)(target:Expr)(t:TG):Prop:=
 ∀(pins:List (Addr×Obj))(s:Shared)(σ:St)(H:Hp)(v:V)(u:Value)(Q:St→Hp→Prop),Inv X pins σ H s→RelV v u→t v σ H Q→
  wpAny (model X.prog X.w) X.A (assign target X.env u) (fun _ s'=>∃σ' H',Inv X pins σ' H' s'∧Q σ' H') X.xe s
def PGs(X:Cx)(ts:List Expr)(t:TGs):Prop:=
 ∀(pins:List (Addr×Obj))(s:Shared)(σ:St)(H:Hp)(vs:List V)(us:List Value)(Q:St→Hp→Prop),Inv X pins σ H s→Vals vs us→t vs σ H Q→
  wpAny (model X.prog X.w) X.A (assignInOrder ((assignEach ts X.env).map (·.2)) us) (fun _ s'=>∃σ' H',Inv X pins σ' H' s'∧Q σ' H') X.xe s
abbrev zZy:=V→V→V→Hp→(Hp→Prop)→Prop
def PSet(X:Cx)(t:zZy):Prop:=
 ∀(pins:List (Addr×Obj))(s:Shared)(σ:St)(H:Hp)(o i v:V)(ov iv u:Value)(Q:Hp→Prop),Inv X pins σ H s→RelV o ov→RelV i iv→RelV v u→t o i v H Q→
  wpAny (model X.prog X.w) X.A (setItem ov iv u) (fun _ s'=>∃H',Inv X pins σ H' s'∧Q H') X.xe s
abbrev TIp:=V→V→Hp→VK→Prop
def PIp(X:Cx)(op:Operator)(t:TIp):Prop:=
 ∀(pins:List (Addr×Obj))(s:Shared)(σ:St)(H:Hp)(x y:V)(v u:Value)(Q:VK),Inv X pins σ H s→RelV x v→RelV y u→t x y H Q→
  wpAny (model X.prog X.w) X.A (inplaceOp op v u) (EP X pins σ Q) X.xe s
section
variable{X:Cx}{pos:Pos}
def qA(i:Nat):TG:=fun v σ H Q=>Q (σ.set i (some v)) H
theorem yB{i:Nat}{x:Str}(hN:X.N.Nodup)(hi:X.N[i]? =some x)(hx:Loc X.env.scope x)(hf:X.fn x=true∨X.env.scope.names.lookup x=some .local:=by first | exact .inl rfl | exact .inr rfl | assumption):PG X (.Name x pos) (qA i):=by
 intro pins s σ H v u Q I r h;exact wpAny_assign_Name (zAo I hN hi hx r (fun s' I'=>⟨_,H,I',h⟩) hf)
def zWo:TGs:=fun vs σ H Q=>vs= []∧Q σ H
def zIn(t:TG)(u:TGs):TGs:=fun vs σ H Q=>∃v r,vs=v::r∧t v σ H fun σ' H'=>u r σ' H' Q
theorem zGw:PGs X [] zWo:=by
 intro pins s σ H vs us Q I r h;obtain⟨e,h⟩:=h;subst e;cases r;exact assignInOrder_nil ⟨σ,H,I,h⟩
theorem jR{e:Expr}{es:List Expr}{t:TG}{u:TGs}(h1:PG X e t)(h2:PGs X es u)
  (hs:(assignEach (e::es) X.env).map (·.2)=assign e X.env::(assignEach es X.env).map (·.2):=by rfl):PGs X (e::es) (zIn t u):=by
 intro pins s σ H vs us Q I r h;obtain⟨v,vr,e1,h⟩:=h;subst e1
 cases r with
 | cons r rr=>
  rw[hs];refine assignInOrder_cons (thn (h1 pins s σ H _ _ _ I r h) fun _ s1 ⟨σ1,H1,I1,q1⟩=>?_);exact h2 pins s1 σ1 H1 _ _ Q I1 rr q1
def zQu(K:W.Frag)(n:Nat)(t:TGs):TG:=fun v σ H Q=>∃a xs,v= .ref a∧SqT K H a xs∧xs.length=n∧t xs σ H Q
theorem zKf{es:List Expr}{k:Nat}{t:TGs}{n:Nat}(hc:X.calm=true)(h:PGs X es t)
  (hn:(assignEach es X.env).length=n:=by rfl) (hst:(assignEach es X.env).findIdx? (·.1)=none:=by rfl):PG X (.Tuple es k pos) (zQu X.K n t):=by
 intro pins s σ H v u Q I r hw;obtain⟨a,xs,e1,hq,hl,hw⟩:=hw;subst e1;cases r;obtain⟨its,rv,ht,hz⟩:=I.tuple hq;refine assign_Tuple_tuple (I.ok.hd hc) ht (by simp[hn,←hl,rv.length]) hst fun h' hx=>?_;have I1:Inv X pins σ H {s with heap:=h'}:=I.kept (t':=s.toks) fun b o e=>hx b o (nO (mY e)) e;exact h pins _ σ H xs _ Q I1 (by simpa using rv) hw
def gSub(to ti:TE)(t:zZy):TG:=fun v σ H Q=>to σ H fun o H1=>ti σ H1 fun i H2=>t o i v H2 fun H3=>Q σ H3
theorem yBa{o i:Expr}{to ti:TE}{t:zZy}(ho:PE X o to)(hi:PE X i ti)(hs:PSet X t)
  (ha:∀v,assign (.Subscript o i pos) X.env v=(do
   let ov ←holding [v] (eval o X.env);let iv ←holding [v,ov] (eval i X.env)
   standAt pos
   holding [v,ov,iv] (setItem ov iv v)
   release [v,ov,iv] []):=by intro _;rfl):PG X (.Subscript o i pos) (gSub to ti t):=by
 intro pins s σ H v u Q I r h;rw[ha];refine mD (pT (thn (ho pins s σ H _ I h) fun ov s1 ⟨x,H1,I1,r1,q1⟩=>?_));refine mD (pT (thn (hi pins s1 σ H1 _ I1 q1) fun iv s2 ⟨y,H2,I2,r2,q2⟩=>?_));refine mD (aP (mD (pT (thn (hs pins s2 σ H2 x y v ov iv u _ I2 r1 r2 r q2) fun _ s3 ⟨H3,I3,q3⟩=>?_))));exact wpAny_release ⟨σ,H3,I3,q3⟩
def zPe(te:TE)(g:TG):TS:=fun D σ H=>te σ H fun x H1=>g x σ H1 D.nx
theorem zKm{tg e:Expr}{te:TE}{g:TG}(he:PE X e te)(hg:PG X tg g)(hs:swapsWithSole [tg] e pos.line X.env=pure false:=by rfl)(hw:swappedStores [tg] e X.env=pure none:=by rfl)
  (h1:(assignEach [tg] X.env).map (·.2)= [assign tg X.env]:=by rfl):PS X (.Assign [tg] e pos) (zPe te g):=by
 intro pins s σ H D I h;refine wpAny_Assign_stores (thn (he pins s σ H _ I h) fun v s1 ⟨x,H1,I1,r1,q1⟩=>?_) hs hw;rw[h1];exact thn (hg pins s1 σ H1 x v _ I1 r1 q1) fun _ s2 q=>q
theorem zBd{i:Nat}{x:Str}{e:Expr}{te:TE}{pos':Pos}(hN:X.N.Nodup)(hi:X.N[i]? =some x)(hx:Loc X.env.scope x)(he:PE X e te)(hs:swapsWith e (some (.Name x pos')) pos.line X.env=pure false:=by rfl)(hf:X.fn x=true∨X.env.scope.names.lookup x=some .local:=by first | exact .inl rfl | exact .inr rfl | assumption):
  PS X (.Assign [.Name x pos'] e pos) (zPe te (qA i)):=by
 intro pins s σ H D I h;refine wpAny_Assign_Name (thn (he pins s σ H _ I h) fun v s1 ⟨y,H1,I1,r1,q1⟩=>?_) hs;exact zAo I1 hN hi hx r1 (fun s2 I2=>⟨_,H1,I2,q1⟩) hf
def tAug(i:Nat)(te:TE)(ti:TIp):TS:=fun D σ H=>∃x,σ[i]? =some (some x)∧te σ H fun y H1=>ti x y H1 fun z H2=>D.nx (σ.set i (some z)) H2
theorem zTj{i:Nat}{x:Str}{e:Expr}{te:TE}{op:Operator}{ti:TIp}{pos':Pos}(hN:X.N.Nodup)(hi:X.N[i]? =some x)(hx:Loc X.env.scope x)(he:PE X e te)(ho:PIp X op ti)(hf:X.fn x=true∨X.env.scope.names.lookup x=some .local:=by first | exact .inl rfl | exact .inr rfl | assumption):
  PS X (.AugAssign (.Name x pos') op e pos) (tAug i te ti):=by
 intro pins s σ H D I h;obtain⟨v,e1,h⟩:=h;obtain⟨m,hn,hl⟩:=I.loc;have vis:Vis X.env.scope x:=by rcases hx with k | k;exact .inl k;exact .inr (.inl k)
 obtain⟨u,r,l⟩:=hl i x v hi e1 vis;refine wpAny_AugAssign_Name ?_;have go:wpAny (model X.prog X.w) X.A (eval e X.env) (fun w s₂=>wpAny (model X.prog X.w) X.A (inplaceOp op u w) (fun r s₃=>wpAny (model X.prog X.w) X.A (storeName X.env x r) (fun _=>SP X pins D .next) X.xe s₃) X.xe s₂) X.xe s:=by
  refine thn (he pins s σ H _ I h) fun w s1 ⟨y,H1,I1,r1,q1⟩=>?_;refine thn (ho pins s1 σ H1 v y u w _ I1 r r1 q1) fun z s2 ⟨zv,H2,I2,r2,q2⟩=>?_;exact zAo I2 hN hi hx r2 (fun s3 I3=>⟨_,H2,I3,q2⟩) hf
 rcases l with⟨hk,hm⟩|⟨hk,c,hc,hcell⟩
 ·exact wpAny_loadName_local I.ok.kind hk hn hm go
 ·rcases hk with hk | hk
  ·exact wpAny_loadName_cell I.ok.kind hk hc hcell go
  ·rcases hx with k | k
   ·have:X.env.scope.names.lookup x=some .free:=hk
    rw[k] at this;cases this
   ·have:X.env.scope.names.lookup x=some .free:=hk
    rw[k] at this;cases this
def ipI(f:Int→Int→Int):TIp:=fun x y H Q=>∃i j,x= .int i∧y= .int j∧Q (.int (f i j)) H
theorem zTn:PIp X .Add (ipI fun i j=>i+j):=by
 intro pins s σ H x y v u Q I r1 r2 h;obtain⟨i,j,e1,e2,q⟩:=h;subst e1;subst e2;obtain⟨t,rfl⟩:=r1;obtain⟨t',rfl⟩:=r2;exact iadd_int ⟨.int _,H,I.tok _,⟨_,rfl⟩,q⟩
def yBo(c:TT)(tb:TS):TS:=fun D σ H=>∃W:Nat→St→Hp→Prop,(∃m,W m σ H)∧∀m σ H,W m σ H→
 c σ H fun b H1=>if b=true then∃N:St→Hp→Prop,(∀σ' H',N σ' H'→∃m',m'<m∧W m' σ' H')∧tb {D with nx:=N,ct:=N,bk:=D.nx} σ H1 else D.nx σ H1
theorem zIy{c:Expr}{body:List Stmt}{tc:TT}{tb:TS}(hp:PassesOwn (model X.prog X.w) X.A X.env X.xe)(hc:PT X c tc)(hb:PSs X body tb):PS X (.While c body [] pos) (yBo tc tb):=by
 intro pins s σ H D I h;obtain⟨W,⟨m0,w0⟩,turn⟩:=h;refine wpAny_While (codeAny_whileLoop (fun n s'=>∃σ' H',Inv X pins σ' H' s'∧W n σ' H') ?_ m0 ⟨σ,H,I,w0⟩);rintro n s1 ⟨σ1,H1,I1,w1⟩;refine tP hp (thn (hc pins s1 σ1 H1 _ I1 (turn n σ1 H1 w1)) fun b s2 ⟨H2,I2,q2⟩=>?_)
 cases b with
 | true=>
  obtain⟨N,hN,q2⟩:=q2;rw[mK rfl];refine tP hp (thn (hb pins s2 σ1 H2 _ I2 q2) fun f s3 q3=>?_)
  cases f with
  | next=>
   obtain⟨σ3,H3,I3,n3⟩:=q3;obtain⟨m',hm,w3⟩:=hN σ3 H3 n3;exact⟨m',hm,σ3,H3,I3,w3⟩
  | cont=>
   obtain⟨σ3,H3,I3,n3⟩:=q3;obtain⟨m',hm,w3⟩:=hN σ3 H3 n3;exact⟨m',hm,σ3,H3,I3,w3⟩
  | brk=>exact q3
  | ret v=>exact q3
 | false=>
  rw[mG nA];exact bO ⟨σ1,H2,I2,q2⟩
end
structure It where
 go:Nat→Hp→Prop
 yld:Nat→Hp→V→Hp→Prop
 stop:Nat→Hp→Prop
def zDu(X:Cx)(pins:List (Addr×Obj))(H:Hp)(b:Addr):Prop:=
 H b=none∧b≠X.env.locals∧b∉X.fs∧(b∈X.ex∨X.s₀.heap.objs.size≤b)∧(∀x c,X.env.cells.lookup x=some c→c≠b)∧∀p∈X.pn++pins,p.1≠b
theorem Inv.fpOk{X:Cx}{pins:List (Addr×Obj)}{σ:St}{H H':Hp}{s:Shared}{b:Addr}(I:Inv X pins σ H s)(hb:s.heap.objs.size≤b)(hn:H' b=none):zDu X pins H' b:=by
 refine⟨hn,rK (nF I.lt hb),I.nofs hb, .inr (nN I.sz hb),fun x c e z=>?_,fun p hp z=>?_⟩
 ·obtain⟨v,q⟩:=I.cell x c e
  exact absurd (nF q.lt (by rw[z];exact hb)) (sY _)
 ·exact absurd (nF (mY (I.pin p hp).1) (by rw[z];exact hb)) (sY _)
structure zGj(P:Program)(w:World)(K:W.Frag)(tg:Expr)(J:It)(fp:List Addr)(it:Addr)(tn:Nat→Heap→Prop):Prop where
 mem:it∈fp
 obj:∀i h,tn i h→∀b∈fp,∃o,h.get? b=some o∧∀v,o.data≠ .cell v
 keep:∀i h h',tn i h→(∀b∈fp,∀o,h.get? b=some o→h'.get? b=some o)→tn i h'
 item:∀(X:Cx),X.prog=P→X.w=w→X.K=K→X.calm=true→∀(i:Nat)(pins:List (Addr×Obj))(s:Shared)(σ:St)(H:Hp)(E:Value→Shared→Prop),Inv X pins σ H s→(∀b∈fp,zDu X pins H b)→tn i s.heap→J.go i H→
  wpAny (model P w) X.A (pyNext (.ref it)) (fun r s1=>∃u,r=some u∧
   wpAny (model P w) X.A (letOwnedTupleGo tg (.ref it) u) (fun _ s2=>∃x H',Inv X pins σ H' s2∧RelV x u∧J.yld i H x H'∧tn (i+1) s2.heap∧∀b∈fp,H' b=none) E s1) E s
 done:∀(X:Cx),X.prog=P→X.w=w→X.K=K→X.calm=true→∀(i:Nat)(pins:List (Addr×Obj))(s:Shared)(σ:St)(H:Hp)(E:Value→Shared→Prop),Inv X pins σ H s→(∀b∈fp,zDu X pins H b)→tn i s.heap→J.stop i H→
  wpAny (model P w) X.A (pyNext (.ref it)) (fun r s1=>r=none∧Inv X pins σ H s1) E s
 self:∀(A:Around)(i:Nat)(s:Shared)(Q:Value→Shared→Prop)(E:Value→Shared→Prop),tn i s.heap→Q (.ref it) s→wpAny (model P w) A (pyIter (.ref it)) Q E s
abbrev TI:=St→Hp→(It→Hp→Prop)→Prop
def PIE(X:Cx)(pins:List (Addr×Obj))(σ:St)(tg:Expr)(R:It→Hp→Prop)(itv:Value)(s2:Shared):Prop:=
 ∃(it:Addr)(fp:List Addr)(tn:Nat→Heap→Prop)(J:It)(H':Hp),itv= .ref it∧Inv X pins σ H' s2∧zGj X.prog X.w X.K tg J fp it tn∧tn 0 s2.heap∧(∀b∈fp,zDu X pins H' b)∧R J H'
def PI(X:Cx)(tg iter:Expr)(wi:TI):Prop:=
 ∀(pins:List (Addr×Obj))(s:Shared)(σ:St)(H:Hp)(R:It→Hp→Prop),Inv X pins σ H s→wi σ H R→
  wpAny (model X.prog X.w) X.A (eval iter X.env) (fun v s1=>wpAny (model X.prog X.w) X.A (pyIter v) (PIE X pins σ tg R) X.xe s1) X.xe s
theorem zFt{M:Model}{A:Around}{E:Value→Shared→Prop}{s:Shared}{tg:Expr}{it:Addr}{u:Value}{o:Obj}{n:String}{vs:Array Value}{Q:Unit→Shared→Prop}(ho:s.heap.get? it=some o)(hc:o.cls= .type n)(hd:o.data= .fields vs)
    (hn: ["enumerate","zip","dict_itemiterator","dict_reverseitemiterator","odict_iterator","itertools.zip_longest","itertools.pairwise"].contains n=false) (hQ:Q () s):wpAny M A (letOwnedTupleGo tg (.ref it) u) Q E s:=by
  unfold letOwnedTupleGo;cases tg<;>first
    | exact mS hQ
    |(cases u<;>first
        | exact mS hQ
        | (refine mD (wpAny_load ho ?_)
           rw[hc,hd];show wpAny M A (if(["enumerate","zip","dict_itemiterator","dict_reverseitemiterator","odict_iterator","itertools.zip_longest","itertools.pairwise"].contains n && vs[0]? ==some (rawInt _))=true then _ else _) Q E s;rw[mG (by intro h;rw[hn,Bool.false_and] at h;cases h)];exact mS hQ))
def Itl(K:W.Frag)(a:Addr):It:=
 ⟨fun i H=>∃xs x,SqL K H a xs∧xs[i]? =some x,fun i H x H'=>H'=H∧∀xs,SqL K H a xs→xs[i]? =some x,fun i H=>∃xs,SqL K H a xs∧xs.length≤i⟩
def Itt(K:W.Frag)(a:Addr):It:=
 ⟨fun i H=>∃xs x,SqT K H a xs∧xs[i]? =some x,fun i H x H'=>H'=H∧∀xs,SqT K H a xs→xs[i]? =some x,fun i H=>∃xs,SqT K H a xs∧xs.length≤i⟩
def Itr(lo:Int)(n:Nat):It:=⟨fun i _=>i<n,fun i H x H'=>H'=H∧x= .int (lo+i),fun i _=>n≤i⟩
theorem zNi{P:Program}{w:World}{K:W.Frag}{tg:Expr}(a it:Addr):zGj P w K tg (Itl K a) [it] it (fun i h=>h.IsListIter it a i) where
 mem:=by simp
 obj:=fun i h st b hb=>by
  have e:b=it:=by simpa using hb
  subst e;obtain⟨o,e,c,d⟩:=st;exact⟨o,e,fun v z=>by rw[d] at z;cases z⟩
 keep:=fun i h h' st k=>st.at fun o e=>k it (by simp) o e
 item:=by
  intro X hP hw hK hc i pins s σ H E I hf st hg;subst hP hw hK;obtain⟨xs,x,hq,hx⟩:=hg;obtain⟨its,rv,p,hz⟩:=I.list hq;obtain⟨u,hu,ru⟩:=rv.get hx;obtain⟨f0,f1,f2,f3,f4,f5⟩:=hf it (by simp);refine aX st p.isList (x:=u) (by simpa using hu) fun h' st' sb=>?_;have I1:Inv X pins σ H {s with heap:=h'}:=I.turned (t':=s.toks) (fun b o hb e=>(sb.2 b hb).trans e) f0 f1 f3 f4 f5;obtain⟨o,e,c,d⟩:=id st';exact⟨u,rfl,zFt (s:={s with heap:=h'}) e c d (by decide) ⟨x,H,I1,ru,⟨rfl,fun ys hy=>by rw[I.list_inj hy hq];exact hx⟩,st',fun b hb=>(hf b hb).1⟩⟩
 done:=by
  intro X hP hw hK hc i pins s σ H E I hf st hg;subst hP hw hK;obtain⟨xs,hq,hx⟩:=hg;obtain⟨its,rv,p,hz⟩:=I.list hq;obtain⟨f0,f1,f2,f3,f4,f5⟩:=hf it (by simp);have hl:=rv.length;exact bD (I.ok.hd hc) st p.isList (by simp;lia) fun h' eb=>⟨rfl,I.turned (t':=s.toks) (fun b o hb e=>eb b o hb e) f0 f1 f3 f4 f5⟩
 self:=fun _ _ _ _ _ st h=>wpAny_pyIter_listiter st h
theorem zLo{P:Program}{w:World}{K:W.Frag}{tg:Expr}(a it:Addr):zGj P w K tg (Itt K a) [it] it (fun i h=>h.IsTupleIter it a i) where
 mem:=by simp
 obj:=fun i h st b hb=>by
  have e:b=it:=by simpa using hb
  subst e;obtain⟨o,e,c,d⟩:=st;exact⟨o,e,fun v z=>by rw[d] at z;cases z⟩
 keep:=fun i h h' st k=>st.at fun o e=>k it (by simp) o e
 item:=by
  intro X hP hw hK hc i pins s σ H E I hf st hg;subst hP hw hK;obtain⟨xs,x,hq,hx⟩:=hg;obtain⟨its,rv,p,hz⟩:=I.tuple hq;obtain⟨u,hu,ru⟩:=rv.get hx;obtain⟨f0,f1,f2,f3,f4,f5⟩:=hf it (by simp);refine wpAny_pyNext_tuple_item st (show s.heap.IsTuple a its.toArray from p) (x:=u) (by simpa using hu) fun h' st' sb=>?_;have I1:Inv X pins σ H {s with heap:=h'}:=I.turned (t':=s.toks) (fun b o hb e=>(sb.2 b hb).trans e) f0 f1 f3 f4 f5;obtain⟨o,e,c,d⟩:=id st';exact⟨u,rfl,zFt (s:={s with heap:=h'}) e c d (by decide) ⟨x,H,I1,ru,⟨rfl,fun ys hy=>by rw[I.tuple_inj hy hq];exact hx⟩,st',fun b hb=>(hf b hb).1⟩⟩
 done:=by
  intro X hP hw hK hc i pins s σ H E I hf st hg;subst hP hw hK;obtain⟨xs,hq,hx⟩:=hg;obtain⟨its,rv,p,hz⟩:=I.tuple hq;obtain⟨f0,f1,f2,f3,f4,f5⟩:=hf it (by simp);have hl:=rv.length;exact wpAny_pyNext_tuple_end (I.ok.hd hc) st (show s.heap.IsTuple a its.toArray from p) (by simp;lia) fun h' eb=>⟨rfl,I.turned (t':=s.toks) (fun b o hb e=>eb b o hb e) f0 f1 f3 f4 f5⟩
 self:=fun _ _ _ _ _ st h=>wpAny_pyIter_tupleiter st h
theorem zKc{P:Program}{w:World}{K:PySem.W.Frag}{tg:Expr}(it:Addr)(lo:Int)(n:Nat):zGj P w K tg (Itr lo n) [it] it (fun i h=>IsRangeIter h it (lo+(i:Nat)*1) ((n:Int)- (i:Nat)) 1) where
 mem:=by simp
 obj:=fun i h st b hb=>by
  have e:b=it:=by simpa using hb
  subst e;exact⟨_,st,fun v z=>by
   have z':Data.fields _=Data.cell v:=z;cases z'⟩
 keep:=fun i h h' st k=>k it (by simp) _ st
 item:=by
  intro X hP hw hK hc i pins s σ H E I hf st hg;subst hP hw hK;obtain⟨f0,f1,f2,f3,f4,f5⟩:=hf it (by simp);have W:=Walks.range (prog:=X.prog) (w:=X.w) (I.ok.hd hc) it lo 1 n;refine W.item i s _ _ hg st fun v h' tk hv st' kk=>?_;obtain⟨t,rfl⟩:=hv;have I1:Inv X pins σ H {s with heap:=h',toks:=tk}:=I.turned (fun b o hb e=>kk b o (by simpa using hb) e) f0 f1 f3 f4 f5;refine⟨_,rfl,zFt (s:={s with heap:=h',toks:=tk}) (n:="range_iterator") st' rfl rfl (by decide) ⟨.int (lo+i),H,I1,⟨t, ?_⟩,⟨rfl,rfl⟩,st',fun b hb=>(hf b hb).1⟩⟩;rw[Int.mul_one]
 done:=by
  intro X hP hw hK hc i pins s σ H E I hf st hg;subst hP hw hK;obtain⟨f0,f1,f2,f3,f4,f5⟩:=hf it (by simp);exact wpAny_pyNext_range_end (I.ok.hd hc) st (by have:n≤i:=hg;lia) fun h' eb=>⟨rfl,I.turned (t':=s.toks) (fun b o hb e=>eb b o hb e) f0 f1 f3 f4 f5⟩
 self:=fun _ _ _ _ _ st h=>wpAny_pyIter_rangeiter st h
section
variable{X:Cx}{tg:Expr}
def zSi(K:W.Frag)(tl:TE):TI:=fun σ H R=>tl σ H fun x H1=>∃a,x= .ref a∧(∃xs,SqL K H1 a xs)∧R (Itl K a) H1
def iTup(K:W.Frag)(tl:TE):TI:=fun σ H R=>tl σ H fun x H1=>∃a,x= .ref a∧(∃xs,SqT K H1 a xs)∧R (Itt K a) H1
theorem wJ{l:Expr}{tl:TE}(hl:PE X l tl):PI X tg l (zSi X.K tl):=by
 intro pins s σ H R I h;refine thn (hl pins s σ H _ I h) fun v s1 ⟨x,H1,I1,r1,q1⟩=>?_;obtain⟨a,e,⟨xs,hq⟩,q⟩:=q1;subst e;cases r1;obtain⟨its,rv,p,hz⟩:=I1.list hq;refine cC p.isList ?_;refine⟨s1.heap.objs.size,[s1.heap.objs.size],_,_,H1,rfl,I1.kept (t':=s1.toks) fun b o e=>mN _ e,zNi a _,⟨_,nC _ rfl,rfl,rfl⟩,fun b hb=>?_,q⟩;have e:b=s1.heap.objs.size:=by simpa using hb
 subst e;exact I1.fpOk (mE _) (I1.hok.fresh (mE _))
theorem zTs{l:Expr}{tl:TE}(hl:PE X l tl):PI X tg l (iTup X.K tl):=by
 intro pins s σ H R I h;refine thn (hl pins s σ H _ I h) fun v s1 ⟨x,H1,I1,r1,q1⟩=>?_;obtain⟨a,e,⟨xs,hq⟩,q⟩:=q1;subst e;cases r1;obtain⟨its,rv,p,hz⟩:=I1.tuple hq;refine wpAny_pyIter_tuple (show s1.heap.IsTuple a its.toArray from p) ?_;refine⟨s1.heap.objs.size,[s1.heap.objs.size],_,_,H1,rfl,I1.kept (t':=s1.toks) fun b o e=>mN _ e,zLo a _,⟨_,nC _ rfl,rfl,rfl⟩,fun b hb=>?_,q⟩;have e:b=s1.heap.objs.size:=by simpa using hb
 subst e;exact I1.fpOk (mE _) (I1.hok.fresh (mE _))
theorem zTb{pins:List (Addr×Obj)}{σ:St}{H:Hp}{s:Shared}{R:It→Hp→Prop}{E:Value→Shared→Prop}{lo hi:Int}{t u v:Tok}{tk:Nat}(I:Inv X pins σ H s)(h1: -(2 ^ 62)≤lo)(h2:lo<2 ^ 62)(h3: -(2 ^ 62)≤hi)(h4:hi<2 ^ 62)
  (q:R (Itr lo (hi - lo).toNat) H):wpAny (model X.prog X.w) X.A (pyIter (.ref s.heap.objs.size)) (PIE X pins σ tg R) E {s with heap:=s.heap.push {cls:=.type "range",data:=.fields #[.int lo t, .int hi u, .int 1 v]},toks:=tk}:=by
 refine wpAny_pyIter_range (IsRange.new ..) (small_one h1 h2 h3 h4) ?_;have I1:Inv X pins σ H {s with heap:=s.heap.push {cls:=.type "range",data:=.fields #[.int lo t, .int hi u, .int 1 v]},toks:=tk}:=I.kept fun b o e=>mN _ e;refine⟨(s.heap.push {cls:=.type "range",data:=.fields #[.int lo t, .int hi u, .int 1 v]}).objs.size,[(s.heap.push {cls:=.type "range",data:=.fields #[.int lo t, .int hi u, .int 1 v]}).objs.size],_,_,H,rfl,
  I1.kept (t':=tk) fun b o e=>mN _ e,zKc _ lo (hi - lo).toNat, ?_,fun b hb=>?_,q⟩
 ·have e1:lo+((0:Nat):Int)*1=lo:=by simp
  have e2:(((hi - lo).toNat:Nat):Int)- ((0:Nat):Int)=Builtin.Range.rangeSize lo hi 1:=by rw[rangeSize_one];split<;>lia
  show IsRangeIter _ _ (lo+((0:Nat):Int)*1) ((((hi - lo).toNat:Nat):Int)- ((0:Nat):Int)) 1;rw[e1,e2];exact nC _ rfl
 ·have e:b=(s.heap.push {cls:=.type "range",data:=.fields #[.int lo t, .int hi u, .int 1 v]}).objs.size:=by simpa using hb
  subst e;exact I1.fpOk (mE _) (I1.hok.fresh (mE _))
def zRv(ta:TA):TI:=fun σ H R=>ta σ H fun vs H1=>∃j:Int,vs= [.int j]∧-(2 ^ 62)≤j∧j<2 ^ 62∧R (Itr 0 j.toNat) H1
theorem xR{a:Expr}{ta:TA}{p pos:Pos}(hg:Gl X "range")(hm:X.mg "range" =none)(ha:PA X [a] ta)(hs:starEach [a] X.env= [(false,eval a X.env)]:=by rfl):PI X tg (.Call (.Name "range" p) [a] [] pos) (zRv ta):=by
 intro pins s σ H R I h;refine Call_ (zBl I hg hm boot_range (bG (thn (ha pos pins s σ H _ I h) fun us s1 ⟨vs,H1,I1,r1,q1⟩=>?_) hs rfl));obtain⟨j,e,q1,q2,q⟩:=q1;subst e
 cases r1 with
 | cons r rr=>
  cases rr;obtain⟨t,rfl⟩:=r;exact call_range_1 (zTb I1 (by lia) (by lia) q1 q2 (by simpa using q))
def tFor(wi:TI)(g:TG)(tb:TS):TS:=fun D σ H=>wi σ H fun J H1=>∃W:Nat→Nat→St→Hp→Prop,(∃m,W 0 m σ H1)∧∀i m σ H,W i m σ H→
 (J.stop i H∧D.nx σ H)∨(J.go i H∧∃N:St→Hp→Prop,(∀σ' H',N σ' H'→∃m',m'<m∧W (i+1) m' σ' H')∧∀x H',J.yld i H x H'→g x σ H' fun σ2 H2=>tb {D with nx:=N,ct:=N,bk:=D.nx} σ2 H2)
def zDx(fp:List Addr)(h:Heap):List (Addr×Obj):=fp.filterMap fun b=>(h.get? b).map fun o=>(b,o)
theorem kI{fp:List Addr}{h:Heap}{b:Addr}{o:Obj}(hb:b∈fp)(e:h.get? b=some o):(b,o)∈zDx fp h:=List.mem_filterMap.mpr ⟨b,hb,by rw[e];rfl⟩
theorem zOp{fp:List Addr}{h:Heap}{p:Addr×Obj}(hp:p∈zDx fp h):p.1∈fp∧h.get? p.1=some p.2:=by
 obtain⟨b,hb,e⟩:=List.mem_filterMap.mp hp
 cases q:h.get? b with
 | none=>rw[q] at e;cases e
 | some o=>
  rw[q] at e;have e':(b,o)=p:=mW e;subst e';exact⟨hb,q⟩
theorem Inv.pinned{pins:List (Addr×Obj)}{σ:St}{H:Hp}{s:Shared}{fp:List Addr}(I:Inv X pins σ H s)(hf:∀b∈fp,zDu X pins H b)(ho:∀b∈fp,∃o,s.heap.get? b=some o∧∀v,o.data≠ .cell v):Inv X (pins++zDx fp s.heap) σ H s:=
 I.pins_of fun p hp=>(mT.mp hp).elim (fun z=>I.pin p (nM _ z)) fun z=>by
  obtain⟨hb,e⟩:=zOp z;obtain⟨f0,f1,f2,_⟩:=hf p.1 hb;obtain⟨o,e',d⟩:=ho p.1 hb;rw[e] at e';cases e';exact⟨e,f0,f1,f2,d⟩
theorem Inv.unpinned{pins pl:List (Addr×Obj)}{σ:St}{H:Hp}{s:Shared}(I:Inv X (pins++pl) σ H s):Inv X pins σ H s:=I.pins_of fun p hp=>I.pin p (nM _ (pH _ hp))
theorem vZ{iter:Expr}{body:List Stmt}{wi:TI}{g:TG}{tb:TS}{pos:Pos}(hp:PassesOwn (model X.prog X.w) X.A X.env X.xe)(hc:X.calm=true)(hi:PI X tg iter wi)(hg:PG X tg g)(hb:PSs X body tb)
  (hs:∀x,foldedSetIterable iter X.env x=pure x:=by intro _;rfl):PS X (.For tg iter body [] pos) (tFor wi g tb):=by
 intro pins s σ H D I h;refine wpAny_For (thn (hi pins s σ H _ I h) fun v s1 h1=>thn h1 fun itv s2 h2=>?_) hs;obtain⟨it,fp,tn,J,H2,e,I2,T,st2,f2,W,⟨m0,w0⟩,turn⟩:=h2;subst e
 -- what stays true of the iterator's objects through the loop
 have stat:∀{H':Hp},(∀b∈fp,H' b=none)→∀b∈fp,zDu X pins H' b:=fun hn b hb=>⟨hn b hb,(f2 b hb).2⟩;refine codeAny_forLoop_any (fun n s'=>∃i σ' H',Inv X pins σ' H' s'∧tn i s'.heap∧(∀b∈fp,H' b=none)∧W i n σ' H') ?_ m0 ⟨0,σ,H2,I2,st2,fun b hb=>(f2 b hb).1,w0⟩;rintro n s3 ⟨i,σ3,H3,I3,st3,fr3,w3⟩;rcases turn i n σ3 H3 w3 with⟨stop,qn⟩|⟨go,N,hN,step⟩
 ·refine tP hp (thn (T.done X rfl rfl rfl hc i pins s3 σ3 H3 X.xe I3 (stat fr3) st3 stop) fun r s4 ⟨hr,I4⟩=>?_)
  subst hr;exact bO ⟨σ3,H3,I4,qn⟩
 ·refine tP hp (thn (T.item X rfl rfl rfl hc i pins s3 σ3 H3 X.xe I3 (stat fr3) st3 go) fun r s4 ⟨u,hr,h4⟩=>?_)
  subst hr;refine tP hp (thn h4 fun _ s5 ⟨x,H5,I5,r5,y5,st5,fr5⟩=>?_);have I5':=I5.pinned (stat fr5) (T.obj _ _ st5);refine tP hp (thn (hg _ s5 σ3 H5 x u _ I5' r5 (step x H5 y5)) fun _ s6 ⟨σ6,H6,I6,q6⟩=>?_);refine tP hp (thn (hb _ s6 σ6 H6 _ I6 q6) fun f s7 q7=>?_);have again:∀{σ7:St}{H7:Hp},Inv X (pins++zDx fp s5.heap) σ7 H7 s7→N σ7 H7→∃m,m<n∧∃i σ' H',Inv X pins σ' H' s7∧tn i s7.heap∧(∀b∈fp,H' b=none)∧W i m σ' H':=fun {σ7 H7} I7 n7=>by
   obtain⟨m',hm,w7⟩:=hN σ7 H7 n7;refine⟨m',hm,i+1,σ7,H7,I7.unpinned,T.keep _ _ _ st5 fun b hb o e=>(I7.pin (b,o) (nM _ (nM _ (kI hb e)))).1,fun b hb=>?_,w7⟩;obtain⟨o,e,d⟩:=T.obj _ _ st5 b hb;exact(I7.pin (b,o) (nM _ (nM _ (kI hb e)))).2.1
  cases f with
  | next=>obtain⟨σ7,H7,I7,n7⟩:=q7;exact again I7 n7
  | cont=>obtain⟨σ7,H7,I7,n7⟩:=q7;exact again I7 n7
  | brk=>obtain⟨σ7,H7,I7,q7⟩:=q7;exact⟨σ7,H7,I7.unpinned,q7⟩
  | ret v=>obtain⟨x7,σ7,H7,I7,r7,q7⟩:=q7;exact⟨x7,σ7,H7,I7.unpinned,r7,q7⟩
end
theorem zRa{K:PySem.W.Frag}{a:Addr}{xs:List V}{g:TG}{tb:TS}{D:zBr}{σ:St}{H:Hp}(Pv:Nat→St→Hp→Prop)(h0:Pv 0 σ H)(hl:∀i σ H,i≤xs.length→Pv i σ H→SqL K H a xs)
  (hs:∀i x σ H,xs[i]? =some x→Pv i σ H→g x σ H fun σ2 H2=>tb {D with nx:=Pv (i+1),ct:=Pv (i+1),bk:=D.nx} σ2 H2) (hd:∀σ H,Pv xs.length σ H→D.nx σ H):
  ∃W:Nat→Nat→St→Hp→Prop,(∃m,W 0 m σ H)∧∀i m σ H,W i m σ H→
   ((Itl K a).stop i H∧D.nx σ H)∨((Itl K a).go i H∧∃N:St→Hp→Prop,(∀σ' H',N σ' H'→∃m',m'<m∧W (i+1) m' σ' H')∧∀x H',(Itl K a).yld i H x H'→g x σ H' fun σ2 H2=>tb {D with nx:=N,ct:=N,bk:=D.nx} σ2 H2):=by
 refine⟨fun i m σ H=>m=xs.length - i∧i≤xs.length∧Pv i σ H,⟨xs.length,by simp,nY _,h0⟩, ?_⟩;rintro i m σ H ⟨rfl,hi,p⟩;have q:=hl i σ H hi p
 by_cases hlt:i<xs.length
 ·refine .inr ⟨⟨xs,xs[i],q,by simp[hlt]⟩,Pv (i+1),fun σ' H' p'=>⟨xs.length - (i+1),by lia,rfl,hlt,p'⟩,fun x H' y=>?_⟩
  obtain⟨e,y⟩:=y;subst e;exact hs i x σ _ (y xs q) p
 ·have e:i=xs.length:=by lia
  subst e;exact .inl ⟨⟨xs,q,mE _⟩,hd σ H p⟩
theorem zNe{lo:Int}{n:Nat}{g:TG}{tb:TS}{D:zBr}{σ:St}{H:Hp}(Pv:Nat→St→Hp→Prop)(h0:Pv 0 σ H)
  (hs:∀i σ H,i<n→Pv i σ H→g (.int (lo+i)) σ H fun σ2 H2=>tb {D with nx:=Pv (i+1),ct:=Pv (i+1),bk:=D.nx} σ2 H2) (hd:∀σ H,Pv n σ H→D.nx σ H):
  ∃W:Nat→Nat→St→Hp→Prop,(∃m,W 0 m σ H)∧∀i m σ H,W i m σ H→
   ((Itr lo n).stop i H∧D.nx σ H)∨((Itr lo n).go i H∧∃N:St→Hp→Prop,(∀σ' H',N σ' H'→∃m',m'<m∧W (i+1) m' σ' H')∧∀x H',(Itr lo n).yld i H x H'→g x σ H' fun σ2 H2=>tb {D with nx:=N,ct:=N,bk:=D.nx} σ2 H2):=by
 refine⟨fun i m σ H=>m=n - i∧i≤n∧Pv i σ H,⟨n,by simp,nY _,h0⟩, ?_⟩;rintro i m σ H ⟨rfl,hi,p⟩
 by_cases hlt:i<n
 ·refine .inr ⟨hlt,Pv (i+1),fun σ' H' p'=>⟨n - (i+1),by lia,rfl,hlt,p'⟩,fun x H' y=>?_⟩
  obtain⟨e,y⟩:=y;subst e y;exact hs i σ _ hlt p
 ·have e:i=n:=by lia
  subst e;exact .inl ⟨mE _,hd σ H p⟩
abbrev R2:=V→V→Hp→VK→Prop
def OpR(X:Cx)(f:Value→Value→Sem Value)(r:R2):Prop:=
 ∀(pins:List (Addr×Obj))(s:Shared)(σ:St)(H:Hp)(x y:V)(v u:Value)(Q:VK),Inv X pins σ H s→RelV x v→RelV y u→r x y H Q→
  wpAny (model X.prog X.w) X.A (f v u) (EP X pins σ Q) X.xe s
def UnR(X:Cx)(f:Value→Sem Value)(r:V→Hp→VK→Prop):Prop:=
 ∀(pins:List (Addr×Obj))(s:Shared)(σ:St)(H:Hp)(x:V)(v:Value)(Q:VK),Inv X pins σ H s→RelV x v→r x H Q→
  wpAny (model X.prog X.w) X.A (f v) (EP X pins σ Q) X.xe s
def xW(X:Cx)(f:Value)(r:List V→Hp→VK→Prop):Prop:=
 ∀(pins:List (Addr×Obj))(s:Shared)(σ:St)(H:Hp)(xs:List V)(us:List Value)(Q:VK),Inv X pins σ H s→Vals xs us→r xs H Q→
  wpAny (model X.prog X.w) X.A (call f us) (EP X pins σ Q) X.xe s
def TruR(X:Cx)(r:V→Hp→(Bool→Hp→Prop)→Prop):Prop:=
 ∀(pins:List (Addr×Obj))(s:Shared)(σ:St)(H:Hp)(x:V)(v:Value)(Q:Bool→Hp→Prop),Inv X pins σ H s→RelV x v→r x H Q→
  wpAny (model X.prog X.w) X.A (truthy v) (TP X pins σ Q) X.xe s
def tOp(r:R2)(ta tb:TE):TE:=fun σ H Q=>ta σ H fun x H1=>tb σ H1 fun y H2=>r x y H2 Q
def tUn(r:V→Hp→VK→Prop)(ta:TE):TE:=fun σ H Q=>ta σ H fun x H1=>r x H1 Q
def rI(C:Int→Int→Prop)(g:Int→Int→V):R2:=fun x y H Q=>∃i j,x= .int i∧y= .int j∧C i j∧Q (g i j) H
def rI0(g:Int→Int→V):R2:=fun x y H Q=>∃i j,x= .int i∧y= .int j∧Q (g i j) H
def rU(g:Int→V):V→Hp→VK→Prop:=fun x H Q=>∃i,x= .int i∧Q (g i) H
section
variable{X:Cx}{a b c:Expr}{ta tb tc:TE}{pos:Pos}
theorem yBn(ha:PE X a ta)(hb:PE X b tb){pins:List (Addr×Obj)}{s:Shared}{σ:St}{H:Hp}{R:V→V→Hp→Prop}(I:Inv X pins σ H s)
  (h:ta σ H fun x H1=>tb σ H1 fun y H2=>R x y H2) {Q:Value→Shared→Prop} {f:Value→Value→Sem Value}
  (hf:∀v u s2 x y H2,Inv X pins σ H2 s2→RelV x v→RelV y u→R x y H2→wpAny (model X.prog X.w) X.A (f v u) Q X.xe s2):
  wpAny (model X.prog X.w) X.A (eval a X.env) (fun v s₁=>wpAny (model X.prog X.w) X.A (eval b X.env) (fun u s₂=>wpAny (model X.prog X.w) X.A (f v u) Q X.xe s₂) X.xe s₁) X.xe s:=by
 refine thn (ha pins s σ H _ I h) fun v s1 ⟨x,H1,I1,r1,q1⟩=>?_;refine thn (hb pins s1 σ H1 _ I1 q1) fun u s2 ⟨y,H2,I2,r2,q2⟩=>?_;exact hf v u s2 x y H2 I2 r1 r2 q2
theorem zJ{op:Operator}{r:R2}(ho:OpR X (binaryOp op) r)(ha:PE X a ta)(hb:PE X b tb):PE X (.BinOp a op b pos) (tOp r ta tb):=by
 intro pins s σ H Q I h;exact wpAny_BinOp (yBn ha hb I h fun v u s2 x y H2 I2 rx ry q=>ho pins s2 σ H2 x y v u Q I2 rx ry q)
theorem qE{op:UnaryOp}{r:V→Hp→VK→Prop}(ho:UnR X (unaryOp op) r)(ha:PE X a ta):PE X (.UnaryOp op a pos) (tUn r ta):=by
 intro pins s σ H Q I h;exact UnaryOp_ (thn (ha pins s σ H _ I h) fun v s1 ⟨x,H1,I1,r1,q1⟩=>ho pins s1 σ H1 x v Q I1 r1 q1)
theorem opI{f:Value→Value→Sem Value}{C:Int→Int→Prop}{g:Int→Int→Int}
  (rule:∀(i j:Int)(t u:Tok)(s:Shared)(Q:Value→Shared→Prop)(E:Value→Shared→Prop),C i j→Q (.int (g i j) s.toks) {s with toks:=s.toks+1}→wpAny (model X.prog X.w) X.A (f (.int i t) (.int j u)) Q E s):
  OpR X f (rI C fun i j=>.int (g i j)):=by
 intro pins s σ H x y v u Q I rx ry h;obtain⟨i,j,rfl,rfl,hc,q⟩:=h;obtain⟨t,rfl⟩:=rx;obtain⟨t',rfl⟩:=ry;exact rule i j t t' s _ _ hc ⟨.int (g i j),H,I.tok _,⟨_,rfl⟩,q⟩
theorem opI0{f:Value→Value→Sem Value}{g:Int→Int→Int}
  (rule:∀(i j:Int)(t u:Tok)(s:Shared)(Q:Value→Shared→Prop)(E:Value→Shared→Prop),Q (.int (g i j) s.toks) {s with toks:=s.toks+1}→wpAny (model X.prog X.w) X.A (f (.int i t) (.int j u)) Q E s):
  OpR X f (rI0 fun i j=>.int (g i j)):=by
 intro pins s σ H x y v u Q I rx ry h;obtain⟨i,j,rfl,rfl,q⟩:=h;obtain⟨t,rfl⟩:=rx;obtain⟨t',rfl⟩:=ry;exact rule i j t t' s _ _ ⟨.int (g i j),H,I.tok _,⟨_,rfl⟩,q⟩
theorem zZl{f:Value→Value→Sem Value}{g:Int→Int→Bool}
  (rule:∀(i j:Int)(t u:Tok)(s:Shared)(Q:Value→Shared→Prop)(E:Value→Shared→Prop),Q (.bool (g i j)) s→wpAny (model X.prog X.w) X.A (f (.int i t) (.int j u)) Q E s):
  OpR X f (rI0 fun i j=>.bl (g i j)):=by
 intro pins s σ H x y v u Q I rx ry h;obtain⟨i,j,rfl,rfl,q⟩:=h;obtain⟨t,rfl⟩:=rx;obtain⟨t',rfl⟩:=ry;exact rule i j t t' s _ _ ⟨.bl (g i j),H,I,rfl,q⟩
def zYd(i j:Int):Prop:=0<j∧j<1073741824
def yAj(i j:Int):Prop:=0≤j∧j≤1000000∧i.natAbs<2 ^ 64
def CMul(i j:Int):Prop:=(-(2 ^ 64)<i∧i<2 ^ 64)∨(-(2 ^ 64)<j∧j<2 ^ 64)
theorem CMul.ok{i j:Int}(h:CMul i j):IntMulOk i j:=by
 rcases h with⟨h1,h2⟩|⟨h1,h2⟩
 ·exact .of_left (intBits_le_64 h1 h2)
 ·exact .of_right (intBits_le_64 h1 h2)
theorem yK:OpR X (binaryOp .Add) (rI0 fun i j=>.int (i+j)):=opI0 fun _ _ _ _ _ _ _ q=>add_int q
theorem wY:OpR X (binaryOp .Sub) (rI0 fun i j=>.int (i - j)):=opI0 fun _ _ _ _ _ _ _ q=>sub_int q
theorem qX:OpR X (binaryOp .Mult) (rI CMul fun i j=>.int (i*j)):=opI fun _ _ _ _ _ _ _ hc q=>mul_int q hc.ok
theorem zZ:OpR X (binaryOp .FloorDiv) (rI zYd fun i j=>.int (i / j)):=opI fun i j _ _ _ _ _ hc q=>by
 have h1:(0:Int)<j:=hc.1;have h2:j<1073741824:=hc.2;exact floordiv_int (by lia) (by rw[Int.fdiv_eq_ediv_of_nonneg i (by lia)];exact q) (.inl (PyProof.noPylong_small (by lia)))
theorem zX:OpR X (binaryOp .Mod) (rI (fun _ j=>0<j) fun i j=>.int (i % j)):=opI fun i j _ _ _ _ _ hc q=>by
 have h1:(0:Int)<j:=hc;exact mod_int' (by lia) (by rw[Int.fmod_eq_emod_of_nonneg i (by lia)];exact q)
theorem kU:OpR X (binaryOp .Pow) (rI yAj fun i j=>.int (i ^ j.toNat)):=opI fun _ _ _ _ _ _ _ hc q=>pow_int_small hc.1 hc.2.1 hc.2.2 q
theorem unI{f:Value→Sem Value}{g:Int→Int}
  (rule:∀(i:Int)(t:Tok)(s:Shared)(Q:Value→Shared→Prop)(E:Value→Shared→Prop),Q (.int (g i) s.toks) {s with toks:=s.toks+1}→wpAny (model X.prog X.w) X.A (f (.int i t)) Q E s):
  UnR X f (rU fun i=>.int (g i)):=by
 intro pins s σ H x v Q I rx h;obtain⟨i,rfl,q⟩:=h;obtain⟨t,rfl⟩:=rx;exact rule i t s _ _ ⟨.int (g i),H,I.tok _,⟨_,rfl⟩,q⟩
theorem wQ:UnR X (unaryOp .USub) (rU fun i=>.int (-i)):=unI fun _ _ _ _ _ q=>neg_int q
def zXi:V→V→Bool
 | .non, .non=>true | .non, .int _=>true | .int _, .non=>true | .non, .bl _=>true | .bl _, .non=>true | .non, .str _=>true | .str _, .non=>true
 | .int _, .int _=>true | .bl _, .bl _=>true | .str _, .str _=>true | .byt _, .byt _=>true
 | .int _, .str _=>true | .str _, .int _=>true | .bl _, .str _=>true | .str _, .bl _=>true
 | _,_=>false
def rEq:R2:=fun x y H Q=>zXi x y=true∧Q (.bl (decide (x=y))) H
def rNe:R2:=fun x y H Q=>zXi x y=true∧Q (.bl (!decide (x=y))) H
theorem zMh{i j:Int}:decide (V.int i=V.int j)=(i==j):=by
 rw[tQ];simp
theorem zTi{i j:Bool}:decide (V.bl i=V.bl j)=(i==j):=by
 rw[tQ];simp
theorem zLx{i j:Str}:decide (V.str i=V.str j)=(i==j):=by
 rw[tQ];simp
theorem zMi{i j:Array UInt8}:decide (V.byt i=V.byt j)=(i.toList==j.toList):=by
 rw[tQ];cases i;cases j;simp
theorem yT{pins:List (Addr×Obj)}{σ:St}{H:Hp}{s:Shared}{Q:VK}{k k':Bool}(I:Inv X pins σ H s)(q:Q (.bl k) H)(e:k=k'):EP X pins σ Q (.bool k') s:=by
 subst e;exact⟨.bl k,H,I,rfl,q⟩
theorem xC:OpR X (compareOp .Eq) rEq:=by
 intro pins s σ H x y v u Q I rx ry h;obtain⟨hs,q⟩:=h
 cases x with
 | non=>
  cases rx
  cases y with
  | non=>cases ry;exact PySem.EqNone.eq_none_none (yT I q (by simp))
  | bl j=>cases ry;exact PySem.EqNone.eq_none_bool (yT I q (by simp))
  | int j=>obtain⟨t',rfl⟩:=ry;exact PySem.EqNone.eq_none_int (yT I q (by simp))
  | str j=>obtain⟨t',rfl⟩:=ry;exact PySem.EqNone.eq_none_str (yT I q (by simp))
  | _=>exact absurd (show false=true from hs) nA
 | bl i=>
  cases rx
  cases y with
  | non=>cases ry;exact PySem.EqNone.eq_bool_none (yT I q (by simp))
  | bl j=>cases ry;exact eq_bool (yT I q zTi)
  | str j=>obtain⟨t',rfl⟩:=ry;exact PySem.EqMixed.eq_bool_str (yT I q (by simp))
  | _=>exact absurd (show false=true from hs) nA
 | int i=>
  obtain⟨t,rfl⟩:=rx
  cases y with
  | non=>cases ry;exact PySem.EqNone.eq_int_none (yT I q (by simp))
  | int j=>obtain⟨t',rfl⟩:=ry;exact eq_int (yT I q zMh)
  | str j=>obtain⟨t',rfl⟩:=ry;exact PySem.EqMixed.eq_int_str (yT I q (by simp))
  | _=>exact absurd (show false=true from hs) nA
 | str i=>
  obtain⟨t,rfl⟩:=rx
  cases y with
  | non=>cases ry;exact PySem.EqNone.eq_str_none (yT I q (by simp))
  | bl j=>cases ry;exact PySem.EqMixed.eq_str_bool (yT I q (by simp))
  | int j=>obtain⟨t',rfl⟩:=ry;exact PySem.EqMixed.eq_str_int (yT I q (by simp))
  | str j=>obtain⟨t',rfl⟩:=ry;exact eq_str (yT I q zLx)
  | _=>exact absurd (show false=true from hs) nA
 | byt i=>
  obtain⟨t,rfl⟩:=rx
  cases y with
  | byt j=>obtain⟨t',rfl⟩:=ry;exact W.eq_bytes (yT I q zMi)
  | _=>exact absurd (show false=true from hs) nA
 | _=>cases y<;>exact absurd (show false=true from hs) nA
theorem uS:OpR X (compareOp .NotEq) rNe:=by
 intro pins s σ H x y v u Q I rx ry h;obtain⟨hs,q⟩:=h
 cases x with
 | non=>
  cases rx
  cases y with
  | non=>cases ry;exact PySem.EqNone.ne_none_none (yT I q (by simp))
  | bl j=>cases ry;exact PySem.EqNone.ne_none_bool (yT I q (by simp))
  | int j=>obtain⟨t',rfl⟩:=ry;exact PySem.EqNone.ne_none_int (yT I q (by simp))
  | str j=>obtain⟨t',rfl⟩:=ry;exact PySem.EqNone.ne_none_str (yT I q (by simp))
  | _=>exact absurd (show false=true from hs) nA
 | bl i=>
  cases rx
  cases y with
  | non=>cases ry;exact PySem.EqNone.ne_bool_none (yT I q (by simp))
  | bl j=>cases ry;exact ne_bool (yT I q (congrArg not zTi))
  | str j=>obtain⟨t',rfl⟩:=ry;exact PySem.EqMixed.ne_bool_str (yT I q (by simp))
  | _=>exact absurd (show false=true from hs) nA
 | int i=>
  obtain⟨t,rfl⟩:=rx
  cases y with
  | non=>cases ry;exact PySem.EqNone.ne_int_none (yT I q (by simp))
  | int j=>obtain⟨t',rfl⟩:=ry;exact ne_int (yT I q (congrArg not zMh))
  | str j=>obtain⟨t',rfl⟩:=ry;exact PySem.EqMixed.ne_int_str (yT I q (by simp))
  | _=>exact absurd (show false=true from hs) nA
 | str i=>
  obtain⟨t,rfl⟩:=rx
  cases y with
  | non=>cases ry;exact PySem.EqNone.ne_str_none (yT I q (by simp))
  | bl j=>cases ry;exact PySem.EqMixed.ne_str_bool (yT I q (by simp))
  | int j=>obtain⟨t',rfl⟩:=ry;exact PySem.EqMixed.ne_str_int (yT I q (by simp))
  | str j=>obtain⟨t',rfl⟩:=ry;exact ne_str (yT I q (congrArg not zLx))
  | _=>exact absurd (show false=true from hs) nA
 | byt i=>
  obtain⟨t,rfl⟩:=rx
  cases y with
  | byt j=>obtain⟨t',rfl⟩:=ry;exact W.ne_bytes (yT I q (congrArg not zMi))
  | _=>exact absurd (show false=true from hs) nA
 | _=>cases y<;>exact absurd (show false=true from hs) nA
theorem zBx:OpR X (compareOp .Lt) (rI0 fun i j=>.bl (decide (i<j))):=zZl fun _ _ _ _ _ _ _ q=>lt_int q
theorem jY:OpR X (compareOp .LtE) (rI0 fun i j=>.bl (decide (i≤j))):=zZl fun _ _ _ _ _ _ _ q=>le_int q
theorem zIb:OpR X (compareOp .Gt) (rI0 fun i j=>.bl (decide (j<i))):=zZl fun _ _ _ _ _ _ _ q=>gt_int q
theorem zOf:OpR X (compareOp .In) (fun x y H Q=>∃i j,x= .str i∧y= .str j∧Q (.bl (!(Builtin.Str.occurrences j i 0 j.length 1).isEmpty)) H):=by
 intro pins s σ H x y v u Q I rx ry h;obtain⟨i,j,rfl,rfl,q⟩:=h;obtain⟨t,rfl⟩:=rx;obtain⟨t',rfl⟩:=ry;exact in_str (yT I q rfl)
theorem zR(b:Expr){op:CmpOp}(h:op≠ .In:=by decide)(h2:op≠ .NotIn:=by decide):behindInMarks op b=false:=by
 have e1:(op==CmpOp.In)=false:=by cases op<;>first | rfl | exact absurd rfl h
 have e2:(op==CmpOp.NotIn)=false:=by cases op<;>first | rfl | exact absurd rfl h2
 cases b<;>simp[behindInMarks,e1,e2]
theorem yZ{op:CmpOp}{r:R2}(ho:OpR X (compareOp op) r)(ha:PE X a ta)(hb:PE X b tb)(hm:behindInMarks op b=false):PE X (.Compare a [op] [b] pos) (tOp r ta tb):=by
 intro pins s σ H Q I h;exact wpAny_Compare1 (yBn ha hb I h fun v u s2 x y H2 I2 rx ry q=>ho pins s2 σ H2 x y v u Q I2 rx ry q) hm
def zMa(t:TE):TT:=fun σ H Q=>t σ H fun x H'=>∃k,x= .bl k∧Q k H'
theorem zW{op:CmpOp}{r:R2}(ho:OpR X (compareOp op) r)(ha:PE X a ta)(hb:PE X b tb)(hm:behindInMarks op b=false):PT X (.Compare a [op] [b] pos) (zMa (tOp r ta tb)):=by
 intro pins s σ H Q I h;refine wpAny_isTrue_Compare1 (thn (ha pins s σ H _ I h) fun v s1 ⟨x,H1,I1,r1,q1⟩=>thn (hb pins s1 σ H1 _ I1 q1) fun u s2 ⟨y,H2,I2,r2,q2⟩=>
  thn (ho pins s2 σ H2 x y v u _ I2 r1 r2 q2) fun c s3 ⟨z,H3,I3,r3,k,e,q3⟩=>?_) hm
 subst e;cases r3;exact pZ ⟨H3,I3,q3⟩
def zGl(r r':R2)(ta tb tc:TE):TE:=fun σ H Q=>ta σ H fun x H1=>tb σ H1 fun y H2=>r x y H2 fun z H3=>∃k,z= .bl k∧
 (if k=true then tc σ H3 fun w' H4=>r' y w' H4 Q else Q (.bl false) H3)
theorem zJi{op op':CmpOp}{r r':R2}(ho:OpR X (compareOp op) r)(ho':OpR X (compareOp op') r')(ha:PE X a ta)(hb:PE X b tb)(hc:PE X c tc)
  (hm:lastMarks [op,op'] [b,c]=false:=by with_unfolding_all rfl):PE X (.Compare a [op,op'] [b,c] pos) (zGl r r' ta tb tc):=by
 intro pins s σ H Q I h;refine Compare_chain (thn (ha pins s σ H _ I h) fun v s1 ⟨x,H1,I1,r1,q1⟩=>chain_link (thn (hb pins s1 σ H1 _ I1 q1) fun u s2 ⟨y,H2,I2,r2,q2⟩=>
  thn (ho pins s2 σ H2 x y v u _ I2 r1 r2 q2) fun d s3 ⟨z,H3,I3,r3,k,e,q3⟩=>?_)) hm
 subst e;cases r3;refine pZ ?_
 cases k with
 | false=>exact ite_ff ⟨.bl false,H3,I3,rfl,q3⟩
 | true=>exact ite_tt (chain_last (thn (hc pins s3 σ H3 _ I3 q3) fun w' s4 ⟨z',H4,I4,r4,q4⟩=>ho' pins s4 σ H4 y z' u w' Q I4 r2 r4 q4))
theorem zQx{op op':CmpOp}{r r':R2}(ho:OpR X (compareOp op) r)(ho':OpR X (compareOp op') r')(ha:PE X a ta)(hb:PE X b tb)(hc:PE X c tc)
  (hm:lastMarks [op,op'] [b,c]=false:=by with_unfolding_all rfl):PT X (.Compare a [op,op'] [b,c] pos) (zMa (zGl r r' ta tb tc)):=by
 intro pins s σ H Q I h;refine isTrue_chain (thn (ha pins s σ H _ I h) fun v s1 ⟨x,H1,I1,r1,q1⟩=>test_link (thn (hb pins s1 σ H1 _ I1 q1) fun u s2 ⟨y,H2,I2,r2,q2⟩=>
  thn (ho pins s2 σ H2 x y v u _ I2 r1 r2 q2) fun d s3 ⟨z,H3,I3,r3,k,e,q3⟩=>?_)) hm
 subst e;cases r3;refine pZ ?_
 cases k with
 | false=>
  obtain⟨k',e',q'⟩:=q3;cases e';exact ite_ff ⟨H3,I3,q'⟩
 | true=>
  refine ite_tt (test_last (thn (hc pins s3 σ H3 _ I3 q3) fun w' s4 ⟨z',H4,I4,r4,q4⟩=>thn (ho' pins s4 σ H4 y z' u w' _ I4 r2 r4 q4) fun d' s5 ⟨z2,H5,I5,r5,k2,e2,q5⟩=>?_));subst e2;cases r5;exact pZ ⟨H5,I5,q5⟩
def TruV(K:W.Frag)(x:V)(H:Hp)(k:Bool):Prop:=
 match x with
 | .non=>k=false
 | .bl b=>k=b
 | .int i=>k=(i !=0)
 | .str y=>y.length≤sizeLine∧k=((y.length:Int) !=0)
 | .byt y=>y.size≤sizeLine∧k=((y.size:Int) !=0)
 | .ref p=>(∃xs,SqL K H p xs∧k= !xs.isEmpty)∨(∃xs,SqT K H p xs∧k= !xs.isEmpty)∨∃kvs,H p=some (.dK kvs)∧k= !kvs.isEmpty
 | _=>False
theorem zKp{κ:Type}{kvs:List (κ×V)}{vs:List (κ×Value)}(r:KV kvs vs):(!vs.isEmpty)= !kvs.isEmpty:=by
 cases r<;>rfl
theorem zDk{xs:List V}{its:List Value}(r:Vals xs its):(!its.toArray.isEmpty)= !xs.isEmpty:=by
 cases r<;>simp
theorem uZ:(sizeLine:Nat)<2 ^ 63:=by rw[mR];decide
theorem zYq:TruR X (fun x H Q=>∃k,TruV X.K x H k∧Q k H):=by
 intro pins s σ H x v Q I rx h;obtain⟨k,e,q⟩:=h;have hl:=uZ;have hs:sizeLine=16777216:=mR
 cases x with
 | non=>
  cases rx;have e':k=false:=e;subst e';exact truthy_none ⟨H,I,q⟩
 | bl b=>
  cases rx;have e':k=b:=e;subst e';exact pZ ⟨H,I,q⟩
 | int i=>
  obtain⟨t,rfl⟩:=rx;have e':k=(i !=0):=e;subst e';exact PySem.P.truthy_int ⟨H,I,q⟩
 | str y=>
  obtain⟨t,rfl⟩:=rx;obtain⟨hy,e'⟩:y.length≤sizeLine∧k=((y.length:Int) !=0):=e;subst e';exact PySem.P.truthy_str (by lia) ⟨H,I.tok _,q⟩
 | byt y=>
  obtain⟨t,rfl⟩:=rx;obtain⟨hy,e'⟩:y.size≤sizeLine∧k=((y.size:Int) !=0):=e;subst e';exact W.truthy_bytes (by lia) ⟨H,I.tok _,q⟩
 | ref p=>
  cases rx;have e':(∃xs,SqL X.K H p xs∧k= !xs.isEmpty)∨(∃xs,SqT X.K H p xs∧k= !xs.isEmpty)∨∃kvs,H p=some (.dK kvs)∧k= !kvs.isEmpty:=e;rcases e' with⟨xs,hx,e'⟩|⟨xs,hx,e'⟩|⟨kvs,hx,e'⟩
  ·subst e'
   obtain⟨its,r,pl,hz⟩:=I.list hx;have hlen:=r.length;exact wpAny_truthy_list pl.isList (by simp only[mZ];lia) ⟨H,I.tok _,by rw[zDk r];exact q⟩
  ·subst e'
   obtain⟨its,r,pl,hz⟩:=I.tuple hx;have hlen:=r.length;exact truthy_tuple pl (by simp only[mZ];lia) ⟨H,I.tok _,by rw[zDk r];exact q⟩
  ·subst e'
   obtain⟨hz,hS,vs,r,m⟩:kvs.length≤sizeLine∧(p==sysModules)=false∧∃vs,KV kvs vs∧s.heap.DictOf (yO X.prog X.w) p vs:=I.hok p _ hx;have hlen:kvs.length=vs.length:=Paired.length r;exact wpAny_truthy_dict hS m (by lia) ⟨H,I.tok _,by rw[zKp r];exact q⟩
 | _=>exact(show False from e).elim
theorem zJe(ha:PE X a ta)(he:∀whole,isTrue a X.env whole=(do let v ←whole;standAt a.pos;holding [v] (truthy v))):
  PT X a (fun σ H Q=>ta σ H fun x H'=>∃k,TruV X.K x H' k∧Q k H'):=by
 intro pins s σ H Q I h;exact isTrue_plain (thn (ha pins s σ H _ I h) fun v s1 ⟨x,H1,I1,r1,q1⟩=>zYq pins s1 σ H1 x v Q I1 r1 q1) (he _)
theorem vC:OpR X (binaryOp .Add) (fun x y H Q=>∃i j,x= .str i∧y= .str j∧i.length+j.length≤sizeLine∧Q (.str (i++j)) H):=by
 intro pins s σ H x y v u Q I rx ry h;obtain⟨i,j,rfl,rfl,hz,q⟩:=h;obtain⟨t,rfl⟩:=rx;obtain⟨t',rfl⟩:=ry;exact add_str (fun t' tk=>⟨.str (i++j),H,I.tok _,⟨_,rfl⟩,q⟩) hz
theorem vG{x:V}{us:List Value}(r:Vals [x] us):∃u,us= [u]∧RelV x u:=by
 cases r with
 | cons r1 r2=>cases r2;exact⟨_,rfl,r1⟩
theorem uM{x y:V}{us:List Value}(r:Vals [x,y] us):∃u w',us= [u,w']∧RelV x u∧RelV y w':=by
 cases r with
 | cons r1 r2=>
  cases r2 with
  | cons r3 r4=>cases r4;exact⟨_,_,rfl,r1,r3⟩
theorem zPm:xW X (.builtin "abs") (fun xs H Q=>∃i,xs= [.int i]∧Q (.int (if i<0 then -i else i)) H):=by
 intro pins s σ H xs us Q I r h;obtain⟨i,rfl,q⟩:=h;obtain⟨u,rfl,t,rfl⟩:=vG r;exact call_abs_int fun u tk=>⟨.int (if i<0 then -i else i),H,I.tok _,⟨_,rfl⟩,q⟩
theorem zEj(hc:X.calm=true):xW X (.builtin "min") (fun xs H Q=>∃i j,xs= [.int i, .int j]∧Q (.int (if j<i then j else i)) H):=by
 intro pins s σ H xs us Q I r h;obtain⟨i,j,rfl,q⟩:=h;obtain⟨u,w',rfl,⟨t,rfl⟩,⟨t',rfl⟩⟩:=uM r;refine min_two_ints (I.ok.hd hc) fun h' tk k=>⟨_,H,I.kept k, ?_,q⟩
 by_cases hj:j<i
 ·rw[mK hj,mK hj];exact⟨_,rfl⟩
 ·rw[mG hj,mG hj];exact⟨_,rfl⟩
theorem zOh:xW X (.type "int") (fun xs H Q=>(∃i,xs= [.int i]∧Q (.int i) H)∨∃k,xs= [.bl k]∧Q (.int (if k then 1 else 0)) H):=by
 intro pins s σ H xs us Q I r h;rcases h with⟨i,rfl,q⟩|⟨k,rfl,q⟩
 ·obtain⟨u,rfl,t,rfl⟩:=vG r
  exact call_int_int ⟨.int i,H,I,⟨_,rfl⟩,q⟩
 ·obtain⟨u,rfl,r1⟩:=vG r
  cases r1;exact call_int_bool ⟨.int (if k then 1 else 0),H,I.tok _,⟨_,rfl⟩,q⟩
theorem zGy:xW X (.type "str") (fun xs H Q=>∃i,xs= [.int i]∧i.natAbs.log2<1920∧Q (.str (toString i)) H):=by
 intro pins s σ H xs us Q I r h;obtain⟨i,rfl,hz,q⟩:=h;obtain⟨u,rfl,t,rfl⟩:=vG r;exact PySem.P.str_of_int hz ⟨.str _,H,I.tok _,⟨_,rfl⟩,q⟩
theorem zQq:xW X (.builtin "ord") (fun xs H Q=>∃x,xs= [.str x]∧x.length=1∧Q (.int (x.cps.getD 0 0:Nat)) H):=by
 intro pins s σ H xs us Q I r h;obtain⟨x,rfl,hz,q⟩:=h;obtain⟨u,rfl,t,rfl⟩:=vG r;exact ord_of_one hz ⟨.int _,H,I.tok _,⟨_,rfl⟩,q⟩
end
structure ObjM(h:Heap)(x dx C:Addr)(mA:Str→Option Value):Prop where
 obj:h.get? x=some (W.instObj C dx)
 ns:h.Ns1 dx mA
 ne:dx≠x
theorem zFl{h:Heap}{dx:Addr}{mA:Str→Option Value}(n:h.Ns1 dx mA):∃od,h.get? dx=some od∧∀name,W.lookIn name od=some (mA name):=by
 obtain⟨o,es,ep,ho,hd,hk,_,hm⟩:=n;refine⟨o,ho,fun name=>?_⟩;have e:=hm name;unfold nsFind findBy at e;rw[←Array.find?_toList] at e;unfold W.lookIn;rw[hd];dsimp only;split
 ·rename_i y q
  rw[q] at e;exact congrArg some e
 ·rename_i q
  rw[q] at e;have a:es.toList.any (·.refKey)=false:=by
   rw[List.any_eq_false];intro y hy;obtain⟨z,t,hkey⟩:=hk y (Array.mem_toList_iff.mp hy);simp[DictEntry.refKey,hkey]
  have a':¬es.toList.any (·.refKey)=true:=by rw[a];exact nA
  rw[mG a'];exact congrArg some e
theorem ObjM.look{h:Heap}{x dx C:Addr}{mA:Str→Option Value}(I:ObjM h x dx C mA):∃od,W.InstAt h x (W.instObj C dx) C (some od)∧∀name,W.lookIn name od=some (mA name):=
 let ⟨od,ho,hl⟩:=zFl I.ns
 ⟨od,⟨I.obj,rfl,rfl,ho⟩,hl⟩
section
variable{prog:Program}{w:World}{A:Around}{E:Value→Shared→Prop}{s:Shared}{K:W.Frag}{x dx C f:Addr}{mA:Str→Option Value}{name:Str}{v:Value}
end
theorem RelO.some_of{v:V}{o:Option Value}(r:RelO (some v) o):∃u,o=some u∧RelV v u:=by
 cases o with
 | none=>exact(show False from r).elim
 | some u=>exact⟨u,rfl,r⟩
section
variable{P:Program}{w:World}{H H':Hp}{h h':Heap}{a C dx:Addr}{fs fs':List (Str×V)}
theorem zVo(hok:HOk P w H h)(e:H a=some (.ins C dx fs)):∃mA,ObjM h a dx C mA∧(∀f,RelO (fs.lookup f) (mA f))∧PySem.Within mA (fs.map (·.1))∧fs.length≤1000∧H dx=some (.own a):=by
 obtain⟨d,z,ne,ob,mA,n,r,q⟩:=(show ObjOk P w H h a (.ins C dx fs) from hok a _ e);exact⟨mA,⟨ob,n,ne⟩,r,q,z,d⟩
end
structure Cls(K:W.Frag)(C:Addr):Prop where
 pg:W.plainGet K C Str.empty=true
 hd:W.hasDictIn K C=true
 po:W.plainOver K C=true
 sa:W.findIn K (.ref C) "__setattr__" =some (some (.builtin "object.__setattr__"))
theorem Cls.get{K:W.Frag}{C:Addr}(c:Cls K C)(f:Str):W.plainGet K C f=true:=c.pg
structure Con(K:W.Frag)(C:Addr)(f:Str)(v:V)(u:Value):Prop where
 at_:W.findIn K (.ref C) f=some (some u)
 rel:RelV v u
 get:W.specialIn K u "__get__" =some none
 cp:W.copiedNames.contains f=false
structure Meth(K:W.Frag)(C:Addr)(m:Str)(f:Addr):Prop where
 at_:W.findIn K (.ref C) m=some (some (.ref f))
 fn:W.isFn K (.ref f)=true
 kp:W.keepIn K (.ref f)=true
section
variable{X:Cx}{pins:List (Addr×Obj)}{σ:St}{H:Hp}{s:Shared}{a C dx:Addr}{fs:List (Str×V)}{f:Str}{v:V}{A:Around}{E:Value→Shared→Prop}
theorem zUg{prog:Program}{w:World}{env:Env}{e:Expr}{f:Str}{pos:Pos}{s:Shared}{Q:Value→Shared→Prop}(hb:attributeBase e f env (eval e env)=eval e env)
  (h:wpAny (model prog w) A (eval e env) (fun o s₁=>wpAny (model prog w) A (getAttr o f true) Q E s₁) E s):wpAny (model prog w) A (eval (.Attribute e f pos) env) Q E s:=
 Attribute_any_ h (by rw[arm_eval_Attribute,hb])
end
section
variable{X:Cx}{o e value:Expr}{f:Str}{pos pos' tpos:Pos}{ta tv:TE}
end
section
variable{X:Cx}{pins:List (Addr×Obj)}{σ:St}{H:Hp}{s:Shared}{A:Around}{E:Value→Shared→Prop}{Q:Value→Shared→Prop}{c:Value}{b:Bool}
inductive zBf (K:W.Frag) (H:Hp):V→Value→Prop where
 | non:zBf K H .non (.type "NoneType")
 | bl (x:Bool):zBf K H (.bl x) (.type "bool")
 | int (i:Int):zBf K H (.int i) (.type "int")
 | str (x:Str):zBf K H (.str x) (.type "str")
 | flt (x:UInt64):zBf K H (.flt x) (.type "float")
 | lst {a:Addr} {xs:List V} (e:H a=some (.lst xs)):zBf K H (.ref a) (.type "list")
 | frz {a:Addr} {o:Obj} {xs:List V} (e:H a=some (.frz o (.lst xs))):zBf K H (.ref a) (.type "list")
 | tup {a:Addr} {xs:List V} (e:H a=some (.tup xs)):zBf K H (.ref a) (.type "tuple")
 | dK {a:Addr} {kvs:List (Key×V)} (e:H a=some (.dK kvs)):zBf K H (.ref a) (.type "dict")
 | dT {a:Addr} {kvs:List (List Key×V)} (e:H a=some (.dT kvs)):zBf K H (.ref a) (.type "dict")
 | ins {a C dx:Addr} {fs:List (Str×V)} (e:H a=some (.ins C dx fs)) (cl:Cls K C) (ha:W.findIn K (.ref C) "__class__" =some (some (.builtin "object.__class__")))
   (hn:W.specialIn K (.builtin "object.__class__") "__get__" =some (some (.builtin "getset_descriptor.__get__"))) (htk:W.takesIn K (.builtin "object.__class__")=some true)
   (hm:W.mroIn K C (.type "object")=some true):zBf K H (.ref a) (.ref C)
theorem zNf{x:V}{u t:Value}(I:Inv X pins σ H s)(rx:RelV x u)(ty:zBf X.K H x t)(e:W.kitOne X.K t c=some b)(h:∀tk,Q (.bool b) {s with toks:=tk}):
  wpAny (model X.prog X.w) A (call (.builtin "isinstance") [u,c]) Q E s:=by
 cases ty with
 | non=>cases (show u=Value.none from rx);exact tL W.kitx_none I.kIn mH e (fun z=>nomatch z) h
 | bl y=>cases (show u=Value.bool y from rx);exact tL W.kitx_bool I.kIn mH e (fun z=>nomatch z) h
 | int i=>obtain⟨t,q⟩:=(show∃t,u=Value.int i t from rx);cases q;exact tL W.kitx_int I.kIn mH e (fun z=>nomatch z) h
 | str y=>obtain⟨t,q⟩:=(show∃t,u=Value.str y t from rx);cases q;exact tL W.kitx_str I.kIn mH e (fun z=>nomatch z) h
 | flt y=>obtain⟨t,q⟩:=(show∃t,u=Value.float y t from rx);cases q;exact tL W.kitx_float I.kIn mH e (fun z=>nomatch z) h
 | @lst a xs ea=>
  cases (show u=Value.ref a from rx);obtain⟨_,_,n,_,h1⟩:=(show ObjOk X.prog X.w H s.heap a (.lst xs) from I.hok a _ ea);exact tL dU I.kIn ⟨_,h1,rfl⟩ e (fun z=>nomatch z) h
 | @frz a ob xs ea=>
  cases (show u=Value.ref a from rx);obtain⟨_,_,_,n,_,h1⟩:=(show ObjOk X.prog X.w H s.heap a (.frz ob (.lst xs)) from I.hok a _ ea);exact tL dU I.kIn ⟨_,h1,rfl⟩ e (fun z=>nomatch z) h
 | @tup a xs ea=>
  cases (show u=Value.ref a from rx);obtain⟨_,_,_,p⟩:=(show ObjOk X.prog X.w H s.heap a (.tup xs) from I.hok a _ ea);obtain⟨o,h1,h2,_⟩:=p;exact tL W.kitx_tuple I.kIn ⟨o,h1,h2⟩ e (fun z=>nomatch z) h
 | @dK a kvs ea=>
  cases (show u=Value.ref a from rx);obtain⟨_,_,vs,_,p⟩:=(show ObjOk X.prog X.w H s.heap a (.dK kvs) from I.hok a _ ea);obtain⟨o,es,ep,h1,h2,_⟩:=p;exact tL cU I.kIn ⟨o,h1,h2.1⟩ e (fun z=>nomatch z) h
 | @dT a kvs ea=>
  cases (show u=Value.ref a from rx);obtain⟨_,_,xs,_,o,es,ep,h1,h2,_⟩:=(show ObjOk X.prog X.w H s.heap a (.dT kvs) from I.hok a _ ea);exact tL cU I.kIn ⟨o,h1,h2.1⟩ e (fun z=>nomatch z) h
 | @ins a C dx fs ea cl ha hn htk hm=>
  cases (show u=Value.ref a from rx);obtain⟨mA,O,_⟩:=zVo I.hok ea;obtain⟨od,J,_⟩:=O.look;exact tL (W.kitx_own (cl.get _) cl.hd ha hn htk hm) I.kIn J e (fun z=>nomatch z) h
end
structure Room(k:Nat)(A:Around):Prop where
 hd:A.handled=none
 dp:A.depth+3*k+5<recursionLimit
 un:A.units+16*k+200<cLine
theorem Room.mono{j k:Nat}{A:Around}(r:Room k A)(h:j≤k):Room j A:=⟨r.hd,by have:=r.dp;lia,by have:=r.un;lia⟩
theorem Room.deeper{k:Nat}{A:Around}(r:Room (k+1) A)(env:Env):Room k (A.deeper env):=
 ⟨r.hd,by have:=r.dp;show A.depth+1+3*k+5<_;lia,by have:=r.un;show A.units+3+16*k+200<_;lia⟩
theorem zKa{A:Around}{C:Addr}{us:List Value}{kw:List (Str×Value)}:(A.under (.builtin "type.__call__" ⟨.ref C::us,kw⟩)).depth=A.depth+1:=by
 first | rfl | simp[Around.under,Code.weight,Code.isCreation,Code.isGuard,Code.isCaller,Code.frames,Code.isFrame,guardIds]
theorem zKz{A:Around}{C:Addr}{us:List Value}{kw:List (Str×Value)}:(A.under (.builtin "type.__call__" ⟨.ref C::us,kw⟩)).units=A.units+1:=by
 first | rfl | simp[Around.under,Code.cUnits,Code.frames,Code.isFrame]
theorem Room.make{k:Nat}{A:Around}(r:Room (k+1) A)(C:Addr)(us:List Value)(kw:List (Str×Value)):Room k (A.under (.builtin "type.__call__" ⟨.ref C::us,kw⟩)):=
 ⟨r.hd,by have:=r.dp;rw[zKa];lia,by have:=r.un;rw[zKz];lia⟩
theorem Room.depth{k:Nat}{A:Around}(r:Room k A):A.depth<recursionLimit:=by have:=r.dp;lia
theorem Room.units{k:Nat}{A:Around}(r:Room k A):A.units+64<cLine:=by have:=r.un;lia
theorem Room.units0{k:Nat}{A:Around}(r:Room k A):A.units<cLine:=by have:=r.un;lia
def zHl:TA:=fun _ H Q=>Q [] H
def zBy(ta:TE)(tr:TA):TA:=fun σ H Q=>ta σ H fun x H1=>tr σ H1 fun xs H2=>Q (x::xs) H2
section
variable{X:Cx}{e:Expr}{es:List Expr}{te:TE}{t:TA}{pos:Pos}
theorem zD:PA X [] zHl:=fun _ _ _ _ H Q I h=>Calls.spliced_nil ⟨[],H,I, .nil,h⟩
theorem zA(ha:PE X e te)(hr:PA X es t)(hs:starEach (e::es) X.env=(false,eval e X.env)::starEach es X.env:=by rfl):PA X (e::es) (zBy te t):=by
 intro pos pins s σ H Q I h;rw[hs];show wpAny _ _ (spliced ((false,eval e X.env)::backTo pos (starEach es X.env))) _ _ s;refine Calls.spliced_cons (thn (ha pins s σ H _ I h) fun u s1 ⟨x,H1,I1,r1,q1⟩=>?_);exact thn (hr pos pins s1 σ H1 _ I1 q1) fun us s2 ⟨xs,H2,I2,r2,q2⟩=>⟨x::xs,H2,I2, .cons r1 r2,q2⟩
def zYx(t:TA):TE:=fun σ H Q=>t σ H fun xs H1=>xs.length≤sizeLine∧∀p,H1 p=none→Q (.ref p) (upd H1 p (.tup xs))
def yBm(t:TA):TE:=fun σ H Q=>t σ H fun xs H1=>xs.length≤sizeLine∧∀p,H1 p=none→Q (.ref p) (upd H1 p (.lst xs))
theorem xJ{x1}(h:PA X es t):PE X (.Tuple es x1 pos) (zYx t):=by
 intro pins s σ H Q I hq;refine wpAny_Tuple_spliced (thn (h pos pins s σ H _ I hq) fun us s1 ⟨xs,H1,I1,r,z,q⟩=>⟨by rw[←r.length];exact z, ?_⟩);have hf:H1 s1.heap.objs.size=none:=I1.hok.fresh (mE _);refine⟨.ref s1.heap.objs.size,upd H1 s1.heap.objs.size (.tup xs),I1.laid (t':=s1.toks) (fun b u e=>mN _ e) (mE _) ?_,rfl,q _ hf⟩;exact⟨z,us,r,⟨_,nC _ rfl,rfl,_,rfl⟩⟩
theorem yG(h:PA X es t):PE X (.List es pos) (yBm t):=by
 intro pins s σ H Q I hq;refine wpAny_List_spliced (thn (h pos pins s σ H _ I hq) fun us s1 ⟨xs,H1,I1,r,z,q⟩=>⟨by rw[←r.length];exact z, ?_⟩);have hf:H1 s1.heap.objs.size=none:=I1.hok.fresh (mE _);refine⟨.ref s1.heap.objs.size,upd H1 s1.heap.objs.size (.lst xs),I1.laid (t':=s1.toks) (fun b u e=>mN _ e) (mE _) ?_,rfl,q _ hf⟩;exact⟨z,us,0,r,nC _ rfl⟩
end
abbrev Sp:=List V→Hp→VK→XK→Prop
abbrev CXT:=List Env→Hp→Shared→XK→Value→Shared→Prop
structure Env0(P:Program)(w:World)(K:W.Frag)(mg:Str→Option Value)(base:Heap)(A:Around)(outer:List Env)(s:Shared)(H:Hp):Prop where
 frames:A.frames=some outer
 mod:Mod K mg base
 bs:∀b o,base.get? b=some o→s.heap.get? b=some o∧H b=none
 bsz:base.objs.size≤s.heap.objs.size
 funs:s.heap.FunFrames base outer
 frf:∀b∈frs outer,H b=none
 hok:HOk P w H s.heap
 bare:AllBare s.gens
def CE(outer:List Env)(P:Program)(w:World)(H:Hp)(s:Shared)(Q:VK)(u:Value)(s':Shared):Prop:=
 ∃v H',s'.os=s.os∧AllBare s'.gens∧Un (frs outer) [] H H' s.heap s'.heap∧HOk P w H' s'.heap∧RelV v u∧Q v H'
def CR(CX:CXT)(outer:List Env)(P:Program)(w:World)(H:Hp)(s:Shared)(Q:VK)(E:XK)(r:Result)(s':Shared):Prop:=
 match r with
 | .ok (.ret u)=>CE outer P w H s Q u s'
 | .ok _=>False
 | .error e=>CX outer H s E e s'
structure FnOk(P:Program)(w:World)(K:W.Frag)(mg:Str→Option Value)(base:Heap)(CX:CXT)(k:Nat)(f:Addr)(fd:FuncData)(ps:List Str)(sp:Sp):Prop where
 len:∀vs H Q E,sp vs H Q E→vs.length=ps.length
 run:∀(A:Around)(outer:List Env)(s:Shared)(H:Hp)(args:Args)(us:List Value)(vs:List V)(Q:VK)(E:XK),Room k A→Env0 P w K mg base A outer s H→BindsTo s fd args (ps.zip us)→Vals vs us→sp vs H Q E→
  codeAny (model P w) A (.call (.ref f) args) (CR CX outer P w H s Q E) s
theorem FnOk.imp{P:Program}{w:World}{K:W.Frag}{mg:Str→Option Value}{base:Heap}{CX:CXT}{k:Nat}{f:Addr}{fd:FuncData}{ps:List Str}{sp sp':Sp}(F:FnOk P w K mg base CX k f fd ps sp)
  (h:∀vs H Q E,sp' vs H Q E→sp vs H Q E):FnOk P w K mg base CX k f fd ps sp':=
 ⟨fun vs H Q E q=>F.len vs H Q E (h _ _ _ _ q),fun A outer s H args us vs Q E hr he hb hv hs=>F.run A outer s H args us vs Q E hr he hb hv (h _ _ _ _ hs)⟩
theorem Env0.make{P:Program}{w:World}{K:W.Frag}{mg:Str→Option Value}{base:Heap}{A:Around}{outer:List Env}{s:Shared}{H:Hp}(e:Env0 P w K mg base A outer s H)(C:Addr)(us:List Value)(kw:List (Str×Value)):
  Env0 P w K mg base (A.under (.builtin "type.__call__" ⟨.ref C::us,kw⟩)) outer s H:=⟨by first | exact e.frames |(simpa [Around.under,Code.envs,Code.isFrame,pushEnvs] using e.frames),e.mod,e.bs,e.bsz,e.funs,e.frf,e.hok,e.bare⟩
section
variable{X:Cx}{pins:List (Addr×Obj)}{σ:St}{H:Hp}{s s':Shared}
theorem Inv.env0(I:Inv X pins σ H s):Env0 X.prog X.w X.K X.mg X.base X.A X.stack s H:=
 ⟨I.ok.frames,I.ok.mod,I.bs,nN I.ok.bsz I.sz,I.stack,I.stkFree,I.hok,I.bare⟩
theorem Inv.after{Q:VK}{u:Value}(I:Inv X pins σ H s)(h:CE X.stack X.prog X.w H s Q u s'):EP X pins σ Q u s':=by
 obtain⟨v,H',os,bare,un,hok,r,q⟩:=h;obtain⟨hh,g,d,t,os'⟩:=s';obtain rfl:os'=s.os:=os;exact⟨v,H',I.call (h':=hh) (g':=g) (d':=d) (t':=t) (ch:=[]) un hok bare (fun b z=>absurd z (by simp)),r,q⟩
end
def jS(sp:Sp)(dvs:List V)(E:XK)(t:TA):TE:=fun σ H Q=>t σ H fun vs H1=>sp (vs++dvs) H1 Q E
def Binds(K:W.Frag)(fd:FuncData)(ps:List Str)(ds:List Value):Prop:=
 ∀(s:Shared)(us:List Value),K.In s.heap→(us++ds).length=ps.length→BindsTo s fd ⟨us,[]⟩ (ps.zip (us++ds))
theorem Binds.all{K:W.Frag}{fd:FuncData}{ps:List Str}(h:∀us:List Value,us.length=ps.length→bindArgs fd ⟨us,[]⟩=pure (ps.zip us)):Binds K fd ps []:=fun s us _ hl=>by
 rw[pJ] at hl⊢;exact .of_eq (h us hl)
def kZ(CX:CXT)(X:Cx)(E:XK):Prop:=∀(pins:List (Addr×Obj))(σ:St)(H:Hp)(s:Shared)(e:Value)(s':Shared),Inv X pins σ H s→CX X.stack H s E e s'→X.xe e s'
section
variable{X:Cx}{CX:CXT}{k:Nat}{f C:Addr}{fd:FuncData}{ps:List Str}{sp:Sp}{dvs:List V}{ds:List Value}{E:XK}{x m:Str}{p pos apos:Pos}{e o:Expr}{es:List Expr}{ta:TE}{t:TA}
theorem zSo{pins:List (Addr×Obj)}{σ:St}{H:Hp}{s:Shared}{Q:VK}{us:List Value}{vs:List V}(F:FnOk X.prog X.w X.K X.mg X.base CX k f fd ps sp)(hr:Room k X.A)(hb:Binds X.K fd ps ds)(hd:Vals dvs ds)(hx:kZ CX X E)
  (I:Inv X pins σ H s) (r:Vals vs us) (h:sp (vs++dvs) H Q E):wpAny (model X.prog X.w) X.A (call (.ref f) us) (EP X pins σ Q) X.xe s:=by
 have r2:Vals (vs++dvs) (us++ds):=r.append hd;have hl:(us++ds).length=ps.length:=by rw[←r2.length];exact F.len _ _ _ _ h
 refine tZ (aG (F.run X.A X.stack s H ⟨us,[]⟩ (us++ds) (vs++dvs) Q E hr I.env0 (hb s us I.kIn hl) r2 h) fun r s' hq=>?_)
 cases r with
 | error e=>exact hx pins σ H s e s' I hq
 | ok fl=>
  cases fl with
  | ret u=>exact I.after hq
  | next=>exact False.elim hq
  | brk=>exact False.elim hq
  | cont=>exact False.elim hq
theorem zCn(F:FnOk X.prog X.w X.K X.mg X.base CX k f fd ps sp)(hr:Room k X.A)(hg:Gl X x)(hm:X.mg x=some (.ref f))(hk:W.keepIn X.K (.ref f)=true)(hb:Binds X.K fd ps ds)(hd:Vals dvs ds)(hx:kZ CX X E)
  (ha:PA X (e::es) t) (hdb:(x==("__debug__" :Str))=false:=by decide) (he:starEach (e::es) X.env=(false,eval e X.env)::starEach es X.env:=by rfl) (hpl:(backTo pos (starEach es X.env)).any (·.1)=false:=by rfl):
  PE X (.Call (.Name x p) (e::es) [] pos) (jS sp dvs E t):=by
 intro pins s σ H Q I h;refine rV (jI I hg hm ?_ hdb);refine W.callWith_K (h₀:=X.base) I.ok.mod.kin hk (thn (ha pos pins s σ H _ I h) fun us s1 ⟨vs,H1,I1,r,q⟩=>⟨I1.kIn, ?_⟩) he hpl;exact zSo F hr hb hd hx I1 r q
theorem zRf(F:FnOk X.prog X.w X.K X.mg X.base CX k f fd ps sp)(hr:Room k X.A)(hg:Gl X x)(hm:X.mg x=some (.ref f))(hk:W.keepIn X.K (.ref f)=true)(hb:Binds X.K fd ps ds)(hd:Vals dvs ds)(hx:kZ CX X E)
  (hdb:(x==("__debug__" :Str))=false:=by decide):PE X (.Call (.Name x p) [] [] pos) (jS sp dvs E zHl):=by
 intro pins s σ H Q I h;refine rV (jI I hg hm ?_ hdb);exact W.callWith_K0 I.kIn hk (zSo (us:=[]) F hr hb hd hx I .nil h)
structure Mk(K:W.Frag)(C f:Addr):Prop where
 makes:W.makesIn K C=true
 init:W.findIn K (.ref C) "__init__" =some (some (.ref f))
 fn:W.isFn K (.ref f)=true
 kp:W.keepIn K (.ref C)=true
end
section
variable{X:Cx}{CX:CXT}{k:Nat}{f C:Addr}{fd:FuncData}{ps ks:List Str}{sp:Sp}{E:XK}{x m:Str}{p pos apos kpos:Pos}{e o:Expr}{es:List Expr}{kws:List Keyword}{te ta:TE}{t tk:TA}{nm:Option Str}
structure KBinds(K:W.Frag)(fd:FuncData)(ps ks:List Str)(g:List Value→List Value→List Value)(gV:List V→List V→List V):Prop where
 to:∀(s:Shared)(us ws:List Value),K.In s.heap→(g us ws).length=ps.length→BindsTo s fd ⟨us,ks.zip ws⟩ (ps.zip (g us ws))
 rel:∀{vs:List V}{us:List Value}{zs:List V}{ws:List Value},Vals vs us→Vals zs ws→Vals (gV vs zs) (g us ws)
variable{g:List Value→List Value→List Value}{gV:List V→List V→List V}
end
structure zV(N P:List Str)(sc:Scope):Prop where
 kind:sc.kind= .function
 co:sc.isCoroutine=false
 gen:sc.isGenerator=false
 nd:N.Nodup
 pre:N.take P.length=P
 par:∀x∈P,sc.names.lookup x=some .local∨sc.names.lookup x=some .cell
 nofree:∀y∈sc.names,y.2≠ .free
theorem zFs{kindOf:Str→Option NameKind}{x:Str}:∀{binds:List (Str×Value)}{m:Str→Option Value},(∀v,(x,v)∉binds)→bindL kindOf binds m x=m x
 | [],_,_=>rfl
 |(n,v)::r,m,h=>by
  unfold bindL;rw[zFs fun w hw=>h w (mJ _ hw)];split
  ·have:x≠n:=by rintro rfl;exact h v mM
   simp[this]
  ·rfl
theorem zEs{kindOf:Str→Option NameKind}{x:Str}:∀{binds:List (Str×Value)}{m:Str→Option Value},(∀v,(x,v)∉binds)→bindC kindOf binds m x=m x
 | [],_,_=>rfl
 |(n,v)::r,m,h=>by
  unfold bindC;rw[zEs fun w hw=>h w (mJ _ hw)];split
  ·rfl
  ·have:x≠n:=by rintro rfl;exact h v mM
   simp[this]
theorem zEx{kindOf:Str→Option NameKind}{x:Str}{v:Value}:∀{P:List Str}{vs:List Value}{i:Nat}{m:Str→Option Value},P.Nodup→P[i]? =some x→vs[i]? =some v→kindOf x=some .local→
  bindL kindOf (P.zip vs) m x=some v
 | [],_,_,_,_,h,_,_=>by simp at h
 | _::_,[],_,_,_,_,h,_=>by simp at h
 | p::P,w::vs,0,m,nd,h1,h2,hk=>by
  simp at h1 h2;subst h1;subst h2;show bindL kindOf ((p,w)::P.zip vs) m p=_;unfold bindL;rw[zFs fun v hv=>(nZ.mp nd).1 (cI hv).1,mK hk];simp
 | p::P,w::vs,i+1,m,nd,h1,h2,hk=>by
  show bindL kindOf ((p,w)::P.zip vs) m x=_;unfold bindL;exact zEx (i:=i) (nZ.mp nd).2 (by simpa using h1) (by simpa using h2) hk
theorem zEn{kindOf:Str→Option NameKind}{x:Str}{v:Value}:∀{P:List Str}{vs:List Value}{i:Nat}{m:Str→Option Value},P.Nodup→P[i]? =some x→vs[i]? =some v→kindOf x≠some .local→
  bindC kindOf (P.zip vs) m x=some v
 | [],_,_,_,_,h,_,_=>by simp at h
 | _::_,[],_,_,_,_,h,_=>by simp at h
 | p::P,w::vs,0,m,nd,h1,h2,hk=>by
  simp at h1 h2;subst h1;subst h2;show bindC kindOf ((p,w)::P.zip vs) m p=_;unfold bindC;rw[zEs fun v hv=>(nZ.mp nd).1 (cI hv).1,mG hk];simp
 | p::P,w::vs,i+1,m,nd,h1,h2,hk=>by
  show bindC kindOf ((p,w)::P.zip vs) m x=_;unfold bindC;exact zEn (i:=i) (nZ.mp nd).2 (by simpa using h1) (by simpa using h2) hk
def qO(N:List Str)(vs:List V):St:=vs.map some++List.replicate (N.length - vs.length) none
def zCf(CX:CXT)(P:Program)(w:World)(K:W.Frag)(mg:Str→Option Value)(base:Heap)(N:List Str)(qual:Str)(scope:Scope)(f:Addr)(cd:Value)(A:Around)(outer:List Env)(s:Shared)(H:Hp)(E:XK):Cx where
 prog:=P
 w:=w
 K:=K
 mg:=mg
 base:=base
 A:=A.deeper (envOfC qual scope s.heap.objs.size f cd)
 N:=N
 s₀:=s
 H₀:=H
 env:=envOfC qual scope s.heap.objs.size f cd
 outer:=outer
 stack:=envOfC qual scope s.heap.objs.size f cd::outer
 ex:=[]
 calm:=true
 fn:=fun _=>true
 pn:=[]
 xe:=fun e s'=>wpAny (model P w) (A.deeper (envOfC qual scope s.heap.objs.size f cd)) (leaving (envOfC qual scope s.heap.objs.size f cd) e) (fun _ s''=>CX outer H s E e s'') (fun e' s''=>CX outer H s E e' s'') s'
theorem zIi{sc:Scope}{n:Nat}{x:Str}(h:sc.names.lookup x=some .cell):∃c,(cellsFrom n sc.names []).lookup x=some c:=by
 have q:=W.cellsFrom_some sc.names n [] (.inl h);exact Option.isSome_iff_exists.mp q
theorem zFb{CX:CXT}{P:Program}{w:World}{K:W.Frag}{mg:Str→Option Value}{base:Heap}{N ps:List Str}{qual:Str}{scope:Scope}{f:Addr}{cd:Value}{A:Around}{outer:List Env}{s s1:Shared}{H:Hp}{E:XK}{us:List Value}{vs:List V}
  (S:zV N ps scope) (hd:A.handled=none) (e0:Env0 P w K mg base A outer s H) (hl:vs.length=ps.length) (r:Vals vs us)
  (x:InCallC s s.heap.objs.size (bindL (envOfC qual scope s.heap.objs.size f cd).kindOf (ps.zip us) fun _=>none) (cellsFrom (s.heap.objs.size+1) scope.names []) (bindC (envOfC qual scope s.heap.objs.size f cd).kindOf (ps.zip us) fun _=>none) s1):
  Inv (zCf CX P w K mg base N qual scope f cd A outer s H E) [] (qO N vs) H s1:=by
 have hpl:ps.length≤N.length:=by have:=congrArg List.length S.pre;rw[nW] at this;lia
 obtain⟨h1,tk,rfl,hk⟩:=x.done;have noA:∀b:Addr,b∉(zCf CX P w K mg base N qual scope f cd A outer s H E).ex:=fun b z=>absurd (show b∈([]:List Addr) from z) (by simp);refine⟨⟨e0.mod,S.kind,rfl,rfl,mE _,fun y z c h1 h2=>?_,fun y hy=>?_,fun y c _ h=>?_,fun _=>hd,Around.frames_deeper e0.frames, .inr ⟨rfl,rfl⟩,fun b z=>absurd z (noA b),e0.bs,e0.bsz,fun b _ _=>noA b,fun b z=>absurd z (noA b),e0.funs,e0.frf⟩,
  rfl,e0.bare,Un.kept hk,⟨_,x.toInCall.ns,fun i y v h1 h2 h3=>?_⟩,fun y c h=>⟨_,x.cell y c h⟩,e0.hok.fresh (mE _),fun y c h=>?_,fun p hp=>absurd (show p∈([]:List (Addr×Obj)) from hp) (by simp),e0.hok.kept hk, ?_⟩
 ·exact name_of_addr x.apart (rR h1) (rR h2)
 ·have hy:scope.names.lookup y=some .cell∨scope.names.lookup y=some .free:=hy
  rcases hy with hy | hy
  ·exact zIi hy
  ·exact absurd rfl (S.nofree _ (rR hy))
 ·exact bC (x.above y c (rR h))
 ·have hi:i<vs.length:=by
   unfold qO at h2
   by_cases hi:i<vs.length
   ·exact hi
   ·rw[nU (by simpa using hi)] at h2
    rw[bZ] at h2;split at h2<;>cases h2
  have ha:vs[i]? =some v:=by
   unfold qO at h2;rw[nV (by simpa using hi),nD] at h2
   cases e:vs[i]? with
   | none=>rw[e] at h2;cases h2
   | some a=>rw[e] at h2;cases h2;rfl
  obtain⟨u,hu,rv⟩:=r.get ha;have hp:ps[i]? =some y:=by
   rw[←S.pre,List.getElem?_take_of_lt (by lia)];exact h1
  have ndP:ps.Nodup:=by rw[←S.pre];exact S.nd.sublist (List.take_sublist _ _)
  refine⟨u,rv, ?_⟩;rcases S.par y (mP hp) with k | k
  ·exact .inl ⟨k,zEx ndP hp hu k⟩
  ·obtain⟨c,e⟩:=zIi (n:=s.heap.objs.size+1) k
   refine .inr ⟨.inl k,c,e, ?_⟩;have q:=x.cell y c e;rw[zEn ndP hp hu (by show scope.names.lookup y≠_;rw[k];decide)] at q;exact q
 ·exact e0.hok.fresh (bC (x.above y c (rR h)))
 ·unfold qO
  show _=N.length;rw[mL,mI,nQ]
  lia
theorem zLt{CX:CXT}{P:Program}{w:World}{K:W.Frag}{mg:Str→Option Value}{base:Heap}{k:Nat}{f:Addr}{name qual:Str}{params:Arguments}{body:List Stmt}{scope:Scope}{dV kV doc pm cdv ct oc:Value}{an od:Option Addr}
  {osl:Array (Option Value)} {N ps:List Str} {sp:Sp} (lk:K.lookup f=some ⟨oc,od, .func (W.fnOf name qual params body scope dV kV doc pm an cdv ct),osl⟩) (hcd:W.codeIn K cdv qual=true) (S:zV N ps scope)
  (len:∀vs H Q E,sp vs H Q E→vs.length=ps.length)
  (hbody:∀(A:Around)(outer:List Env)(s:Shared)(H:Hp)(vs:List V)(Q:VK)(E:XK),Room k (A.deeper (envOfC qual scope s.heap.objs.size f cdv))→sp vs H Q E→
   ∃t,PSs (zCf CX P w K mg base N qual scope f cdv A outer s H E) body t∧t {nx:=fun _ H'=>Q .non H',rt:=Q} (qO N vs) H):
  FnOk P w K mg base CX (k+1) f (W.fnOf name qual params body scope dV kV doc pm an cdv ct) ps sp:=by
 refine⟨len,fun A outer s H args us vs Q E hr e0 hb r hsp=>?_⟩;have hl:=len _ _ _ _ hsp;have KX:K.In s.heap:=e0.mod.kin.keeps fun b o e=>(e0.bs b o e).1;have lim:s.heap.NoLimit:=e0.mod.nolimit.keeps fun b o e=>(e0.bs b o e).1;have hkind:∀y∈ps.zip us,scope.names.lookup y.1=some .local∨(scope.names.lookup y.1=some .cell∧((cellsFrom (s.heap.objs.size+1) scope.names []).lookup y.1).isSome=true):=fun⟨n,v⟩ hy=>by
  rcases S.par n (cI hy).1 with q | q
  ·exact .inl q
  ·exact .inr ⟨q,W.cellsFrom_some _ _ _ (.inl q)⟩
 refine codeAny_call_function hr.depth (KX _ _ lk) rfl S.co S.gen rfl (W.codeRec_of KX hcd) (hb _ _ _ _ ?_);refine wpAny_newFunctionEnv_cells S.kind hkind fun env he s1 x=>?_;subst he;refine⟨lim.keeps x.toInCall.keep,codeAny_func ?_⟩;obtain⟨t,ht,hq⟩:=hbody A outer s H vs Q E (hr.deeper _) hsp;have I:Inv (zCf CX P w K mg base N qual scope f cdv A outer s H E) [] (qO N vs) H s1:=zFb S hr.hd e0 hl r x;refine rE (ht [] s1 (qO N vs) H _ I hq) (fun fl s' hs=>?_) fun e s' hs=>hs;have fin:∀{σ':St}{H':Hp}{v:V}{u:Value},Inv (zCf CX P w K mg base N qual scope f cdv A outer s H E) [] σ' H' s'→RelV v u→Q v H'→CE outer P w H s Q u s':=
  fun {σ' H' v u} J rv q=>⟨v,H',J.os,J.bare,J.base,J.hok,rv,q⟩
 cases fl with
 | ret u=>
  obtain⟨v,σ',H',J,rv,q⟩:=hs;exact fin J rv q
 | next=>
  obtain⟨σ',H',J,q⟩:=hs;exact fin (v:=V.non) (u:=Value.none) J rfl q
 | brk=>
  obtain⟨_,_,_,q⟩:=hs;exact False.elim q
 | cont=>
  obtain⟨_,_,_,q⟩:=hs;exact False.elim q
section
variable{X:Cx}{x:Str}{p pos:Pos}{e:Expr}{es:List Expr}{t:TA}{id T:String}{r:List V→Hp→VK→Prop}
def tCB(r:List V→Hp→VK→Prop)(t:TA):TE:=fun σ H Q=>t σ H fun vs H1=>r vs H1 Q
theorem zN(hc:xW X (.builtin id) r)(hg:Gl X x)(hm:X.mg x=none)(hv:bootBuiltins x=some (.builtin id))(ha:PA X (e::es) t)(hn:x≠ "__name__":=by decide)(hdb:(x==("__debug__" :Str))=false:=by decide)
  (he:starEach (e::es) X.env=(false,eval e X.env)::starEach es X.env:=by rfl) (hpl:(backTo pos (starEach es X.env)).any (·.1)=false:=by rfl):PE X (.Call (.Name x p) (e::es) [] pos) (tCB r t):=by
 intro pins s σ H Q I h;refine rV (zBl I hg hm hv ?_ hn hdb);exact cJ (thn (ha pos pins s σ H _ I h) fun us s1 ⟨vs,H1,I1,r1,q1⟩=>hc pins s1 σ H1 vs us Q I1 r1 q1) he hpl
theorem yN(hc:xW X (.type T) r)(hg:Gl X x)(hm:X.mg x=none)(hv:bootBuiltins x=some (.type T))(ha:PA X (e::es) t)(hn:x≠ "__name__":=by decide)(hdb:(x==("__debug__" :Str))=false:=by decide)
  (he:starEach (e::es) X.env=(false,eval e X.env)::starEach es X.env:=by rfl) (hpl:(backTo pos (starEach es X.env)).any (·.1)=false:=by rfl):PE X (.Call (.Name x p) (e::es) [] pos) (tCB r t):=by
 intro pins s σ H Q I h;refine rV (zBl I hg hm hv ?_ hn hdb);exact bG (thn (ha pos pins s σ H _ I h) fun us s1 ⟨vs,H1,I1,r1,q1⟩=>hc pins s1 σ H1 vs us Q I1 r1 q1) he hpl
end
end L2
namespace HT
open PySem PyProof.Rows
section
open PySem.SeqAt
open PySem.AutoSeq1 (wpAny_loadPart')
open PySem.MeetsSeq PySem.MeetsSeq2 PySem.MeetsSeq3
end
section
variable{prog:Program}{w:World}{A:Around}{E:Value→Shared→Prop}{s:Shared}
def sIx(n d:Nat):Option Int→Nat
 | none=>d
 | some v=>if v<0 then(v+(n:Int)).toNat else min v.toNat n
theorem sIx_none(n d:Nat):sIx n d none=d:=rfl
theorem sIx_nat(n d k:Nat):sIx n d (some (k:Int))=min k n:=by
 show(if(k:Int)<0 then((k:Int)+(n:Int)).toNat else min (k:Int).toNat n)=min k n;rw[if_neg (by lia),Int.toNat_natCast]
end
end HT
namespace L2
open PySem PySem.Spec PyProof.Rows
abbrev TO:=St→Hp→(Option Int→Hp→Prop)→Prop
def PO(X:Cx)(e:Option Expr)(t:TO):Prop:=
 ∀(pins:List (Addr×Obj))(s:Shared)(σ:St)(H:Hp)(Q:Option Int→Hp→Prop),Inv X pins σ H s→t σ H Q→
  wpAny (model X.prog X.w) X.A (evalPart e X.env) (fun u s'=>∃o H',Inv X pins σ H' s'∧IsPart u o∧Q o H') X.xe s
def zGo:TO:=fun _ H Q=>Q none H
def zPj(t:TE):TO:=fun σ H Q=>t σ H fun x H1=>∃i,x= .int i∧Q (some i) H1
theorem zLe{ns:List Int}:∀{us:List Value},Vals (ns.map V.int) us→IntsAre us ns:=by
 induction ns with
 | nil=>intro us r;rw[sQ] at r;cases r;exact .nil
 | cons n ns ih=>
  intro us r;rw[mU] at r
  cases r with
  | cons r1 r2=>
   obtain⟨t,e⟩:=r1;subst e;exact .cons n t (ih r2)
section
variable{X:Cx}{e:Expr}{te:TE}{lo hi:Option Expr}{tl th:TO}{pos p2:Pos}
theorem wW:PO X none zGo:=by
 intro pins s σ H Q I h;rw[evalPart_none];exact mS ⟨none,H,I, .none,h⟩
theorem wX(h:PE X e te):PO X (some e) (zPj te):=by
 intro pins s σ H Q I hw;rw[evalPart_some];refine thn (h pins s σ H _ I hw) fun u s1 ⟨x,H1,I1,r1,q1⟩=>?_;obtain⟨i,rfl,q⟩:=q1;obtain⟨t,rfl⟩:=r1;exact⟨some i,H1,I1, .int i t,q⟩
def SlR(X:Cx)(r:V→Option Int→Option Int→Hp→VK→Prop):Prop:=
 ∀(pins:List (Addr×Obj))(s:Shared)(σ:St)(H:Hp)(x:V)(v vl vu:Value)(lo hi:Option Int)(sl:Addr)(Q:VK),Inv X pins σ H s→RelV x v→s.heap.IsSliceOf sl vl vu .none→IsPart vl lo→IsPart vu hi→r x lo hi H Q→
  ∃T id,typeLookup (.type T) "__getitem__" =pure (some (.builtin id))∧s.TypeIs v T∧wpAny (model X.prog X.w) X.A (getItem v (.ref sl)) (EP X pins σ Q) X.xe s
def tSl(r:V→Option Int→Option Int→Hp→VK→Prop)(te:TE)(tl th:TO):TE:=fun σ H Q=>te σ H fun x H1=>tl σ H1 fun l H2=>th σ H2 fun u H3=>r x l u H3 Q
theorem wE{r:V→Option Int→Option Int→Hp→VK→Prop}(hr:SlR X r)(he:PE X e te)(hl:PO X lo tl)(hu:PO X hi th):PE X (.Subscript e (.Slice lo hi none p2) pos) (tSl r te tl th):=by
 intro pins s σ H Q I h;refine Subscript_ (thn (he pins s σ H _ I h) fun v s1 ⟨x,H1,I1,r1,q1⟩=>?_);refine wpAny_Slice (thn (hl pins s1 σ H1 _ I1 q1) fun vl s2 ⟨l,H2,I2,pl,q2⟩=>thn (hu pins s2 σ H2 _ I2 q2) fun vu s3 ⟨u,H3,I3,pu,q3⟩=>?_);rw[evalPart_none];refine mS ?_;have I4:Inv X pins σ H3 {s3 with heap:=s3.heap.push {cls:=.type "slice",data:=.fields #[vl,vu, .none]}}:=I3.kept (t':=s3.toks) fun b ob q=>mN _ q;obtain⟨T,id,hT,ht,hg⟩:=hr pins {s3 with heap:=s3.heap.push {cls:=.type "slice",data:=.fields #[vl,vu, .none]}} σ H3 x v vl vu l u s3.heap.objs.size Q I4 r1 (Heap.IsSliceOf.new ..) pl pu q3;show wpAny (model X.prog X.w) X.A (subscriptTail e (.Slice lo hi none p2) v (.ref s3.heap.objs.size)) (EP X pins σ Q) X.xe {s3 with heap:=s3.heap.push {cls:=.type "slice",data:=.fields #[vl,vu, .none]}};exact tail_any (ops:=[.ref s3.heap.objs.size,v]) ht hT hg (by with_unfolding_all rfl)
def jU(xs:List V)(lo hi:Option Int):List V:=(xs.drop (HT.sIx xs.length 0 lo)).take (HT.sIx xs.length xs.length hi - HT.sIx xs.length 0 lo)
theorem zJk(xs:List V)(lo hi:Option Int):(jU xs lo hi).length≤xs.length:=by
 unfold jU;rw[nW,pU]
 lia
end
def ixN(n:Nat)(i:Int):Option Nat:=if 0≤i then(if i<n then some i.toNat else none) else if -(n:Int)≤i then some (i+n).toNat else none
def atI{α:Type}(xs:List α)(i:Int):Option α:=(ixN xs.length i).bind fun j=>xs[j]?
theorem zMk{n:Nat}{i:Int}{j:Nat}(h:ixN n i=some j):seqIndex? i n=some j∧j<n∧-(n:Int)≤i∧i<n:=by
 unfold ixN at h
 by_cases h0:0≤i
 ·rw[mK h0] at h
  by_cases h1:i<n
  ·rw[mK h1] at h
   have e:i.toNat=j:=mW h;exact⟨by rw[seqIndex_of h0 h1,e],by lia,by lia,h1⟩
  ·rw[mG h1] at h;cases h
 ·rw[mG h0] at h
  by_cases h1: -(n:Int)≤i
  ·rw[mK h1] at h
   have e:(i+n).toNat=j:=mW h;exact⟨by rw[seqIndex_neg (by lia) h1,e],by lia,h1,by lia⟩
  ·rw[mG h1] at h;cases h
theorem zGq{α:Type}{xs:List α}{i:Int}{v:α}(h:atI xs i=some v):∃j,seqIndex? i xs.length=some j∧xs[j]? =some v∧j<xs.length∧-(xs.length:Int)≤i∧i<xs.length:=by
 unfold atI at h
 cases e:ixN xs.length i with
 | none=>rw[e] at h;cases h
 | some j=>
  rw[e] at h;obtain⟨h1,h2,h3,h4⟩:=zMk e;exact⟨j,h1,h,h2,h3,h4⟩
theorem xI{α:Type}{xs:List α}{j:Nat}{v:α}(h:xs[j]? =some v):atI xs (j:Int)=some v:=by
 have hj:j<xs.length:=(mQ.mp h).1;have e:ixN xs.length (j:Int)=some j:=by
  unfold ixN;rw[mK (by lia),mK (by lia)];simp
 unfold atI;rw[e];exact h
theorem zAn{α:Type}(xs:List α)(v:α):atI (xs++ [v]) (-1)=some v:=by
 have hl:(xs++ [v]).length=xs.length+1:=by simp
 have e:ixN (xs++ [v]).length (-1)=some xs.length:=by
  unfold ixN;rw[hl,mG (by decide),mK (by lia)]
  congr 1
  lia
 unfold atI;rw[e];show(xs++ [v])[xs.length]? =some v;simp
def zVr(b:Expr):Prop:=∀o i,subscripted b false o i=operate [o,i] (getItem o i)
def IxR(X:Cx)(r:R2):Prop:=
 ∀(value slice:Expr)(pins:List (Addr×Obj))(s:Shared)(σ:St)(H:Hp)(x y:V)(v u:Value)(Q:VK),Inv X pins σ H s→RelV x v→RelV y u→r x y H Q→
  subscripted slice false v u=operate [v,u] (getItem v u)→wpAny (model X.prog X.w) X.A (subscriptTail value slice v u) (EP X pins σ Q) X.xe s
def MtR(X:Cx)(id:String)(r:V→List V→Hp→VK→Prop):Prop:=
 ∀(pins:List (Addr×Obj))(s:Shared)(σ:St)(H:Hp)(x:V)(xs:List V)(v:Value)(us:List Value)(Q:VK),Inv X pins σ H s→RelV x v→Vals xs us→r x xs H Q→
  wpAny (model X.prog X.w) X.A (call (.builtin id) (v::us)) (EP X pins σ Q) X.xe s
section
variable{X:Cx}{a b:Expr}{ta tb:TE}{pos:Pos}
theorem IxR.or{r r':R2}(h:IxR X r)(h':IxR X r'):IxR X (fun x y H Q=>r x y H Q∨r' x y H Q):=by
 intro value slice pins s σ H x y v u Q I rx ry q hs;rcases q with q | q
 ·exact h value slice pins s σ H x y v u Q I rx ry q hs
 ·exact h' value slice pins s σ H x y v u Q I rx ry q hs
theorem yR{r:R2}(hr:IxR X r)(ha:PE X a ta)(hb:PE X b tb)(hs:zVr b):PE X (.Subscript a b pos) (tOp r ta tb):=by
 intro pins s σ H Q I h;exact Subscript_ (yBn ha hb I h fun v u s2 x y H2 I2 rx ry q=>hr a b pins s2 σ H2 x y v u Q I2 rx ry q (hs _ _))
def zSc(K:W.Frag):R2:=fun x y H Q=>∃p xs i v,x= .ref p∧y= .int i∧SqL K H p xs∧atI xs i=some v∧Q v H
def zRn(K:W.Frag):R2:=fun x y H Q=>∃p xs i v,x= .ref p∧y= .int i∧SqT K H p xs∧atI xs i=some v∧Q v H
def yCf:R2:=fun x y H Q=>∃z i c,x= .str z∧y= .int i∧z.length≤sizeLine∧atI z.cps.toList i=some c∧Q (.str ⟨#[c]⟩) H
theorem ix_list:IxR X (zSc X.K):=by
 intro value slice pins s σ H x y v u Q I rx ry h hs;obtain⟨p,xs,i,z,rfl,rfl,hq,he,q⟩:=h;cases rx;obtain⟨t,rfl⟩:=ry;obtain⟨its,r,pl,hz⟩:=I.list hq;obtain⟨j,h1,h2,h3,h4,h5⟩:=zGq he;obtain⟨w,ew,rw'⟩:=r.get h2;have hl:=r.length;have hn:=uZ;have fin:EP X pins σ Q w s:=⟨z,H,I,rw',q⟩
 by_cases h0:0≤i
 ·have hj:i.toNat=j:=by
   rw[seqIndex_of h0 h5] at h1;exact mW h1
  exact item_listR pl.isList h0 (by lia) (by rw[hj];simpa using ew) fin hs
 ·have hj:(i+(its.toArray.size:Int)).toNat=j:=by
   rw[seqIndex_neg (by lia) h4] at h1;rw[mZ,←hl];exact mW h1
  exact subscriptTail_builtinR (x:=w) pl.isList.typeIs slot_list_getitem.lookup
   (wpAny_getItem_list_neg (Q:=fun r s'=>r=w∧EP X pins σ Q r s') pl.isList (by lia) (by rw[mZ]<;>lia) (by lia) (by rw[hj];simpa using ew) ⟨rfl,fin⟩) hs
theorem ix_tup:IxR X (zRn X.K):=by
 intro value slice pins s σ H x y v u Q I rx ry h hs;obtain⟨p,xs,i,z,rfl,rfl,hq,he,q⟩:=h;cases rx;obtain⟨t,rfl⟩:=ry;obtain⟨its,r,pl,hz⟩:=I.tuple hq;obtain⟨j,h1,h2,h3,h4,h5⟩:=zGq he;obtain⟨w,ew,rw'⟩:=r.get h2;have hl:=r.length;have hn:=uZ;have fin:EP X pins σ Q w s:=⟨z,H,I,rw',q⟩;exact subscriptTail_builtinR (x:=w) pl.typeIs slot_tuple_getitem.lookup
  (getItem_tuple (j:=j) (Q:=fun r s'=>r=w∧EP X pins σ Q r s') pl (by lia) (by lia) (by rw[mZ,←hl];exact h1) (by simpa using ew) ⟨rfl,fin⟩) hs
theorem gJ:IxR X yCf:=by
 intro value slice pins s σ H x y v u Q I rx ry h hs;obtain⟨z,i,c,rfl,rfl,hz,he,q⟩:=h;obtain⟨t,rfl⟩:=rx;obtain⟨t',rfl⟩:=ry;obtain⟨j,h1,h2,h3,h4,h5⟩:=zGq he;have hl:z.cps.toList.length=z.length:=by simp[Str.length]
 rw[hl] at h1 h4 h5;have hn:=uZ;exact tail_any (typeIs_str s z t) slot_str_getitem.lookup (getItem_str (c:=c) (by
  have e1:decide (i< -(2 ^ 63:Int))=false:=nE (by lia);have e2:decide (i≥2 ^ 63)=false:=nE (by lia);rw[e1,e2,Bool.or_false]) (by rw[h1];simpa using h2) ⟨.str ⟨#[c]⟩,H,I.tok _,⟨_,rfl⟩,q⟩) hs
def rIx(K:W.Frag):R2:=fun x y H Q=>zSc K x y H Q∨zRn K x y H Q∨yCf x y H Q
theorem zXz:IxR X (rIx X.K):=ix_list.or (ix_tup.or gJ)
theorem zLm(its:List Value)(n j:Nat)(u:Value):Obj.mapSeq (·.setIfInBounds j u) {cls:=.type "list",data:=.seq its.toArray n}={cls:=.type "list",data:=.seq (its.set j u).toArray n}:=by
 simp[Obj.mapSeq]
theorem Inv.lst{pins:List (Addr×Obj)}{σ:St}{H:Hp}{s:Shared}{p:Addr}{xs:List V}(I:Inv X pins σ H s)(h:H p=some (.lst xs)):
  ∃(its:List Value)(n:Nat),Vals xs its∧s.heap.get? p=some {cls:=.type "list",data:=.seq its.toArray n}∧xs.length≤sizeLine:=by
 obtain⟨z,its,n,r,e⟩:=I.hok p _ h;exact⟨its,n,r,e,z⟩
theorem Inv.lstUpd{pins:List (Addr×Obj)}{σ:St}{H:Hp}{s:Shared}{p:Addr}{xs ys:List V}{its its':List Value}{n n':Nat}{f:Obj→Obj}(I:Inv X pins σ H s)(h:H p=some (.lst xs))
  (ho:s.heap.get? p=some {cls:=.type "list",data:=.seq its.toArray n}) (hf:f {cls:=.type "list",data:=.seq its.toArray n}={cls:=.type "list",data:=.seq its'.toArray n'}) (r:Vals ys its') (hz:ys.length≤sizeLine) (t:Nat):
  Inv X pins σ (upd H p (.lst ys)) {s with heap:=s.heap.update p f,toks:=t}:=by
 have e:(s.heap.update p f).get? p=some {cls:=.type "list",data:=.seq its'.toArray n'}:=by
  rw[tR f ho (by rw[hf]<;>rfl),hf]
 refine I.write (x:=p) (e:=p) (by rw[h];trivial) (.inl rfl) (fun b u hb q=>(nJ _ _ (Ne.symm hb)).trans q) ⟨_,e⟩ ?_;exact⟨hz,its',n',r,e⟩
def rSetL:V→V→V→Hp→(Hp→Prop)→Prop:=fun o i v H Q=>∃p xs k j,o= .ref p∧i= .int k∧H p=some (.lst xs)∧ixN xs.length k=some j∧Q (upd H p (.lst (xs.set j v)))
theorem zPs:PSet X rSetL:=by
 intro pins s σ H o i v ov iv u Q I ro ri rv h;obtain⟨p,xs,k,j,rfl,rfl,hp,hj,q⟩:=h;cases ro;obtain⟨t,rfl⟩:=ri;obtain⟨its,n,r,ho,hz⟩:=I.lst hp;obtain⟨h1,h2,h3,h4⟩:=zMk hj;have hl:=r.length;have hn:=uZ;have I':Inv X pins σ (upd H p (.lst (xs.set j v))) {s with heap:=s.heap.update p (Obj.mapSeq (·.setIfInBounds j u))}:=
  I.lstUpd hp ho (zLm its n j u) (r.set rv j) (by rw[rH];exact hz) s.toks
 by_cases h0:0≤k
 ·have hk:k.toNat=j:=by
   rw[seqIndex_of h0 h4] at h1;exact mW h1
  exact W.ki_setAt ho h0 (by lia) (by rw[mZ,←hl];exact h4) (by rw[hk];exact⟨_,I',q⟩)
 ·have hk:(k+(its.toArray.size:Int)).toNat=j:=by
   rw[seqIndex_neg (by lia) h3] at h1;rw[mZ,←hl];exact mW h1
  exact W.ki_setBack ho (by lia) (by rw[mZ,←hl];exact h3) (by lia) (by rw[hk];exact⟨_,I',q⟩)
theorem zHa(lo hi:Option Int)(n:Nat):(sliceBounds lo hi none n).1=((HT.sIx n 0 lo:Nat):Int)∧(sliceBounds lo hi none n).2.1=((HT.sIx n n hi:Nat):Int)∧(sliceBounds lo hi none n).2.2=1:=by
 refine⟨?_, ?_,rfl⟩
 ·cases lo with
  | none=>simp[sliceBounds,HT.sIx]
  | some i=>
   simp only[sliceBounds,HT.sIx,Option.getD_none,show(1:Int)>0 by decide,dG]
   by_cases h:i<0
   ·simp only[h,dG]<;>lia
   ·simp only[h,dH]<;>lia
 ·cases hi with
  | none=>simp[sliceBounds,HT.sIx]
  | some i=>
   simp only[sliceBounds,HT.sIx,Option.getD_none,show(1:Int)>0 by decide,dG]
   by_cases h:i<0
   ·simp only[h,dG]<;>lia
   ·simp only[h,dH]<;>lia
theorem zEg(its:List Value)(lo hi:Option Int):slicePick its.toArray lo hi none=((its.drop (HT.sIx its.length 0 lo)).take (HT.sIx its.length its.length hi - HT.sIx its.length 0 lo)).toArray:=by
 obtain⟨h1,h2,h3⟩:=zHa lo hi its.toArray.size;unfold slicePick;rw[h1,h2,h3];simp only[sliceRange_one,pick_run,mZ]<;>rfl
def rSlL(K:W.Frag):V→Option Int→Option Int→Hp→VK→Prop:=fun x lo hi H Q=>∃a xs,x= .ref a∧SqL K H a xs∧∀p,H p=none→Q (.ref p) (upd H p (.lst (jU xs lo hi)))
theorem vM:SlR X (rSlL X.K):=by
 intro pins s σ H x v vl vu lo hi sl Q I rx hs pl pu h;obtain⟨a,xs,rfl,hx,q⟩:=h;cases rx;obtain⟨its,r,ht,hz⟩:=I.list hx;have hlen:=r.length;refine⟨"list",_,slot_list_getitem.lookup,ht.isList.typeIs, ?_⟩;refine wpAny_getItem_list_slice ht.isList hs pl pu .none (by simp) ?_ (by rw[mZ]<;>lia);rw[zEg,←hlen];refine⟨.ref s.heap.objs.size,_,I.laid (t':=s.toks) (o:=.lst (jU xs lo hi)) (fun b ob q=>mN _ q) (mE _) ?_,rfl,q _ (I.hok.fresh (mE _))⟩;exact⟨nN (zJk xs lo hi) hz,_,0,(r.drop (HT.sIx xs.length 0 lo)).take (HT.sIx xs.length xs.length hi - HT.sIx xs.length 0 lo),nC _ rfl⟩
def vW:V→Bool
 | .non=>true
 | .bl _=>true
 | .int _=>true
 | .str _=>true
 | _=>false
def eqV:V→V→Bool
 | .non, .non=>true
 | .bl a, .bl b=>a==b
 | .bl a, .int b=>(if a then 1 else 0)==b
 | .int a, .bl b=>a==(if b then 1 else 0)
 | .int a, .int b=>a==b
 | .str a, .str b=>a==b
 | _,_=>false
theorem zRp{A:Around}{s:Shared}{y x:V}{u v:Value}(ry:RelV y u)(rx:RelV x v)(fy:vW y=true)(fx:vW x=true):SeqAt.EqAt A s u v (eqV y x):=by
 cases y with
 | non=>
  cases ry
  cases x with
  | non=>cases rx;exact SeqAt.EqAt.same _
  | bl b=>cases rx;exact SeqAt.EqAt.none_bool b
  | int b=>obtain⟨t,rfl⟩:=rx;exact SeqAt.EqAt.none_int b t
  | str b=>obtain⟨t,rfl⟩:=rx;exact SeqAt.EqAt.none_str b t
  | _=>exact absurd (show false=true from fx) nA
 | bl a=>
  cases ry
  cases x with
  | non=>cases rx;exact SeqAt.EqAt.bool_none a
  | bl b=>cases rx;exact cK a b
  | int b=>obtain⟨t,rfl⟩:=rx;exact SeqAt.EqAt.bool_int a b t
  | str b=>obtain⟨t,rfl⟩:=rx;exact SeqAt.EqAt.bool_str a b t
  | _=>exact absurd (show false=true from fx) nA
 | int a=>
  obtain⟨t',rfl⟩:=ry
  cases x with
  | non=>cases rx;exact SeqAt.EqAt.int_none a t'
  | bl b=>cases rx;exact SeqAt.EqAt.int_bool a t' b
  | int b=>obtain⟨t,rfl⟩:=rx;exact SeqAt.EqAt.int_int a t' b t
  | str b=>obtain⟨t,rfl⟩:=rx;exact SeqAt.EqAt.int_str a t' b t
  | _=>exact absurd (show false=true from fx) nA
 | str a=>
  obtain⟨t',rfl⟩:=ry
  cases x with
  | non=>cases rx;exact SeqAt.EqAt.str_none a t'
  | bl b=>cases rx;exact SeqAt.EqAt.str_bool a t' b
  | int b=>obtain⟨t,rfl⟩:=rx;exact SeqAt.EqAt.str_int a t' b t
  | str b=>obtain⟨t,rfl⟩:=rx;exact SeqAt.EqAt.str_str a t' b t
  | _=>exact absurd (show false=true from fx) nA
 | _=>exact absurd (show false=true from fy) nA
def eqU(x:V)(u:Value):Bool:=match u with
 | .none=>eqV .non x
 | .bool b=>eqV (.bl b) x
 | .int i _=>eqV (.int i) x
 | .str z _=>eqV (.str z) x
 | _=>false
theorem zRj{x y:V}{u:Value}(r:RelV y u)(f:vW y=true):eqU x u=eqV y x:=by
 cases y with
 | non=>cases r;rfl
 | bl b=>cases r;rfl
 | int i=>obtain⟨t,rfl⟩:=r;rfl
 | str z=>obtain⟨t,rfl⟩:=r;rfl
 | _=>exact absurd (show false=true from f) nA
theorem zHf{x:V}:∀{xs:List V}{us:List Value},Vals xs us→xs.all vW=true→us.any (eqU x)=xs.any fun y=>eqV y x
 | _,_, .nil,_=>rfl
 | y::xs,u::us, .cons r t,f=>by
  rw[dA,pX] at f;rw[tW,tW,zRj r f.1,zHf t f.2]
theorem zDv{A:Around}{s:Shared}{x:V}{v:Value}(rx:RelV x v)(fx:vW x=true):∀{xs:List V}{us:List Value},Vals xs us→xs.all vW=true→∀u∈us,SeqAt.EqAt A s u v (eqU x u)
 | _,_, .nil,_=>fun u hu=>by cases hu
 | y::xs,u::us, .cons r t,f=>fun u' hu=>by
  rw[dA,pX] at f;rcases mF.mp hu with rfl | hu
  ·rw[zRj r f.1];exact zRp r rx f.1 fx
  ·exact zDv rx fx t f.2 u' hu
def inV(x:V)(xs:List V):Bool:=xs.any fun y=>eqV y x
def rIn(K:W.Frag)(neg:Bool):R2:=fun x y H Q=>∃p xs,y= .ref p∧(SqL K H p xs∨SqT K H p xs)∧vW x=true∧xs.all vW=true∧Q (.bl (if neg then !inV x xs else inV x xs)) H
theorem zNz:OpR X (compareOp .In) (rIn X.K false):=by
 intro pins s σ H x y v u Q I rx ry h;obtain⟨p,xs,rfl,hq,fx,fs,q⟩:=h;cases ry;rcases hq with hq | hq
 ·obtain⟨its,r,pl,hz⟩:=I.list hq
  refine SeqAt.in_listAt (eqU x) pl.isList (fun w hw=>zDv rx fx r fs w (by simpa using hw)) ⟨.bl _,H,I,rfl, ?_⟩;rw[show its.toArray.any (eqU x)=its.any (eqU x) by simp,zHf r fs];exact q
 ·obtain⟨its,r,pl,hz⟩:=I.tuple hq
  refine SeqAt.in_tupleAt (eqU x) pl (fun w hw=>zDv rx fx r fs w (by simpa using hw)) ⟨.bl _,H,I,rfl, ?_⟩;rw[show its.toArray.any (eqU x)=its.any (eqU x) by simp,zHf r fs];exact q
theorem qG:xW X (.builtin "len") (fun xs H Q=>∃p ys,xs= [.ref p]∧(SqL X.K H p ys∨SqT X.K H p ys)∧Q (.int ys.length) H):=by
 intro pins s σ H xs us Q I r h;obtain⟨p,ys,rfl,hq,q⟩:=h;obtain⟨u,rfl,rx⟩:=vG r;cases rx;have hn:=uZ;rcases hq with hq | hq
 ·obtain⟨its,r',pl,hz⟩:=I.list hq
  have hlen:=r'.length;exact Calls.call_len_list pl.isList (by simp only[mZ]<;>lia) ⟨.int ys.length,H,I.tok _,⟨s.toks+1,by rw[mZ,hlen]⟩,q⟩
 ·obtain⟨its,r',pl,hz⟩:=I.tuple hq
  have hlen:=r'.length;exact len_tuple pl (by simp only[mZ]<;>lia) ⟨.int ys.length,H,I.tok _,⟨s.toks+1,by rw[mZ,hlen]⟩,q⟩
theorem zAm:xW X (.builtin "len") (fun xs H Q=>∃z,xs= [.str z]∧z.length≤sizeLine∧Q (.int z.length) H):=by
 intro pins s σ H xs us Q I r h;obtain⟨z,rfl,hz,q⟩:=h;obtain⟨u,rfl,t,rfl⟩:=vG r;have hn:=uZ;exact len_str (by lia) ⟨.int z.length,H,I.tok _,⟨_,rfl⟩,q⟩
theorem qI:xW X (.type "list") (fun xs H Q=>∃p ys,xs= [.ref p]∧(SqL X.K H p ys∨SqT X.K H p ys)∧∀l,H l=none→Q (.ref l) (upd H l (.lst ys))):=by
 intro pins s σ H xs us Q I r h;obtain⟨p,ys,rfl,hq,q⟩:=h;obtain⟨u,rfl,rx⟩:=vG r;cases rx;have fin:∀(its:List Value),Vals ys its→ys.length≤sizeLine→∀(h':Heap)(c':Nat),(∀b o',s.heap.get? b=some o'→h'.get? b=some o')→
   h'.get? s.heap.objs.size=some {cls:=.type "list",dict:=none,data:=.seq its.toArray c',slots:=#[]}→EP X pins σ Q (.ref s.heap.objs.size) {s with heap:=h'}:=fun its r' hz h' c' kp e=>
  ⟨.ref s.heap.objs.size,_,I.laid (t':=s.toks) kp (mE _) (show ObjOk X.prog X.w _ h' _ (.lst ys) from⟨hz,its,c',r',e⟩),rfl,q _ (I.hok.fresh (mE _))⟩
 rcases hq with hq | hq
 ·obtain⟨its,r',pl,hz⟩:=I.list hq
  have hlen:=r'.length;obtain⟨o,ho,hc,n,hd⟩:=pl.isList;exact call_list_seq p (.inl rfl) ho hc hd (fun h' c' kp e=>fin its r' hz h' c' kp e) (by simp only[mZ]<;>lia)
 ·obtain⟨its,r',pl,hz⟩:=I.tuple hq
  have hlen:=r'.length;obtain⟨o,ho,hc,n,hd⟩:=pl;exact call_list_seq p (.inr rfl) ho hc hd (fun h' c' kp e=>fin its r' hz h' c' kp e) (by simp only[mZ]<;>lia)
theorem uQ:xW X (.type "tuple") (fun xs H Q=>∃p ys,xs= [.ref p]∧((SqL X.K H p ys∧∀l,H l=none→Q (.ref l) (upd H l (.tup ys)))∨(SqT X.K H p ys∧Q (.ref p) H))):=by
 intro pins s σ H xs us Q I r h;obtain⟨p,ys,rfl,h⟩:=h;obtain⟨u,rfl,rx⟩:=vG r;cases rx;rcases h with⟨hq,q⟩|⟨hq,q⟩
 ·obtain⟨its,r',pl,hz⟩:=I.list hq
  have hlen:=r'.length;refine call_tuple_list pl.isList (fun h' kp=>?_) (by simp only[mZ]<;>lia);have I1:Inv X pins σ H {s with heap:=h'}:=I.kept (t':=s.toks) kp;have I2:Inv X pins σ (upd H h'.objs.size (.tup ys)) {s with heap:=h'.push {cls:=.type "tuple",data:=.seq its.toArray}}:=
   I1.laid (t':=s.toks) (fun b o e=>mN _ e) (mE _) (show ObjOk X.prog X.w _ _ _ (.tup ys) from⟨hz,its,r',IsTup.new _ _⟩)
  exact⟨.ref h'.objs.size,_,I2,rfl,q _ (I1.hok.fresh (mE _))⟩
 ·obtain⟨its,r',pl,hz⟩:=I.tuple hq
  exact call_tuple_same pl ⟨.ref p,H,I,rfl,q⟩
def tyV(K:W.Frag)(T:String)(x:V)(H:Hp):Prop:=match x with
 | .str _=>T= "str"
 | .int _=>T= "int"
 | .ref p=>(T= "list"∧∃xs,SqL K H p xs)∨(T= "tuple"∧∃o,K.lookup p=some o∧o.cls= .type "tuple"∧o.dict=none)∨
   (T= "dict"∧((∃kvs,H p=some (.dK kvs))∨∃kvs,H p=some (.dT kvs)))∨(T= "set"∧∃S n,H p=some (.set S n))
 | _=>False
theorem zTk{pins:List (Addr×Obj)}{σ:St}{H:Hp}{s:Shared}{T:String}{x:V}{v:Value}(I:Inv X pins σ H s)(r:RelV x v)(ty:tyV X.K T x H):
  s.TypeIs v T∧∀a,v= .ref a→∃ob,s.heap.get? a=some ob∧ob.dict=none:=by
 cases x with
 | str z=>
  obtain⟨t,rfl⟩:=r;cases (show T= "str" from ty);exact⟨typeIs_str s z t,fun _ e=>nomatch e⟩
 | int i=>
  obtain⟨t,rfl⟩:=r;cases (show T= "int" from ty);exact⟨typeIs_int s i t,fun _ e=>nomatch e⟩
 | ref p=>
  cases r;rcases ty with⟨rfl,xs,hq⟩|⟨rfl,o,hk,hc,hd⟩|⟨rfl,hk⟩|⟨rfl,S,n,hk⟩
  ·obtain⟨its,_,pl,_⟩:=I.list hq
   refine⟨pl.isList.typeIs,fun a e=>?_⟩;cases e;obtain⟨o,n,e,c,hd,_⟩:=pl;exact⟨o,e,hd⟩
  ·refine⟨⟨o,I.kIn p o hk,hc⟩,fun a e=>?_⟩
   cases e;exact⟨o,I.kIn _ o hk,hd⟩
  ·have z:∃o,s.heap.get? p=some o∧o.ExactDict:=by
    rcases hk with⟨kvs,hk⟩|⟨kvs,hk⟩
    ·obtain⟨_,_,_,_,o,_,_,e,ex,_⟩:=I.hok p _ hk
     exact⟨o,e,ex⟩
    ·obtain⟨_,_,_,_,o,_,_,e,ex,_⟩:=I.hok p _ hk
     exact⟨o,e,ex⟩
   obtain⟨o,e,ex⟩:=z;refine⟨⟨o,e,ex.1⟩,fun a e2=>?_⟩;cases e2;exact⟨o,e,ex.2.1⟩
  ·obtain⟨o,_,_,_,e,ex,_⟩:=I.hok p _ hk
   refine⟨⟨o,e,ex.1⟩,fun a e2=>?_⟩;cases e2;exact⟨o,e,ex.2.1⟩
 | _=>exact False.elim ty
def zYf(K:W.Frag)(T:String)(r:V→List V→Hp→VK→Prop)(to:TE):TE:=fun σ H Q=>to σ H fun x H1=>tyV K T x H1∧r x [] H1 Q
def tBM(K:W.Frag)(T:String)(r:V→List V→Hp→VK→Prop)(to:TE)(t:TA):TE:=fun σ H Q=>to σ H fun x H1=>tyV K T x H1∧t σ H1 fun xs H2=>r x xs H2 Q
variable{o e:Expr}{es:List Expr}{to:TE}{t:TA}{name:Str}{apos cpos:Pos}{T id:String}{r:V→List V→Hp→VK→Prop}
theorem zHt(pa:PlainAttrs T)(slot:Slot T name id)(hty:typeOf (.builtin id)=pure (.type "method_descriptor"))(hm:MtR X id r)(ho:PE X o to)
  (hbase:attributeBase o name X.env (eval o X.env)=eval o X.env:=by rfl) (hline:(apos.endLine==cpos.line)=true:=by rfl):PE X (.Call (.Attribute o name apos) [] [] cpos) (zYf X.K T r to):=by
 intro pins s σ H Q I h;refine wpAny_Call_method0_late hbase hline (thn (ho pins s σ H _ I h) fun v s1 ⟨x,H1,I1,r1,ty,q1⟩=>?_);obtain⟨h1,h2⟩:=zTk I1 r1 ty;exact⟨T,id,pa,slot,hty,h1,h2,aY rfl (PySem.evalArgs_none (hm pins s1 σ H1 x [] v [] Q I1 r1 .nil q1))⟩
theorem uO(pa:PlainAttrs T)(slot:Slot T name id)(hty:typeOf (.builtin id)=pure (.type "method_descriptor"))(hm:MtR X id r)(ho:PE X o to)(ha:PA X (e::es) t)
  (hbase:attributeBase o name X.env (eval o X.env)=eval o X.env:=by rfl)
  (hfew:((backTo cpos (starEach (e::es) X.env)).all (fun x=>!x.1)&& (backToKw cpos (keywordEach [] X.env)).all (fun x=>x.1.isSome)
   && decide ((e::es).length+([]:List Keyword).length+(if([]:List Keyword).isEmpty then 0 else 1)<30))=true:=by rfl)
  (hline:(apos.endLine==cpos.line)=true:=by rfl) (hs:starEach (e::es) X.env=(false,eval e X.env)::starEach es X.env:=by rfl) (hplain:(backTo cpos (starEach es X.env)).any (·.1)=false:=by rfl):
  PE X (.Call (.Attribute o name apos) (e::es) [] cpos) (tBM X.K T r to t):=by
 intro pins s σ H Q I h;refine wpAny_Call_method_late hbase hfew hline rfl (thn (ho pins s σ H _ I h) fun v s1 ⟨x,H1,I1,r1,ty,q1⟩=>?_);obtain⟨h1,h2⟩:=zTk I1 r1 ty;refine⟨T,id,pa,slot,hty,h1,h2, ?_⟩;have hA:=ha cpos pins s1 σ H1 _ I1 q1;rw[hs] at hA⊢;refine aY (by show(false ||(backTo cpos (starEach es X.env)).any (·.1))=false;rw[hplain]<;>rfl) (Calls.evalArgs_plain ?_)
 exact thn hA fun us s2 ⟨vs,H2,I2,r2,q2⟩=>hm pins s2 σ H2 x vs v us Q I2 r1 r2 q2
/- xs.append(e),list.index on a module's tuple .. are MtR facts of 06m -/
end
def MtM(X:Cx)(id:String)(r:V→List V→Hp→VK→Prop):Prop:=
 ∀(pins:List (Addr×Obj))(s:Shared)(σ:St)(H:Hp)(x:V)(xs:List V)(v:Value)(us:List Value)(Q:VK),Inv X pins σ H s→RelV x v→Vals xs us→r x xs H Q→
  wpAny (model X.prog X.w) X.A (call (.builtin id) (v::us)) (EP X pins σ Q) X.xe s
theorem Vals.one:∀{x:V}{us:List Value},Vals [x] us→∃u,us= [u]∧RelV x u
 | _,_, .cons r .nil=>⟨_,rfl,r⟩
theorem Vals.zero:∀{us:List Value},Vals [] us→us= []
 | _, .nil=>rfl
theorem Vals.dropLast{xs:List V}{us:List Value}(h:Vals xs us):Vals xs.dropLast us.dropLast:=by
 induction h with
 | nil=>exact .nil
 | cons r t ih=>
  cases t with
  | nil=>exact .nil
  | cons q t'=>exact .cons r ih
theorem Vals.rep{xs:List V}{us:List Value}(h:Vals xs us):∀k:Nat,Vals (List.replicate k xs).flatten (List.replicate k us).flatten
 | 0=>.nil
 | k+1=>by
  rw[nS,nS,rO,rO];exact Vals.append h (Vals.rep h k)
theorem zKh{α:Type}(l:List α):l.eraseIdx (l.length - 1)=l.dropLast:=by
 induction l with
 | nil=>rfl
 | cons a r ih=>
  cases r with
  | nil=>rfl
  | cons b r=>
   have e:(a::b::r).length - 1=((b::r).length - 1)+1:=by
    have h1:(a::b::r).length=r.length+2:=rfl;have h2:(b::r).length=r.length+1:=rfl
    lia
   rw[e,List.eraseIdx_cons_succ,ih]
   all_goals rfl
theorem zEu(its:List Value):∀(k:Nat)(acc:List Value),
  List.foldl (fun x1 x2=>x1++x2) acc.toArray (List.replicate k its.toArray)=(acc++(List.replicate k its).flatten).toArray
 | 0,acc=>by simp
 | k+1,acc=>by
  have e:acc.toArray++its.toArray=(acc++its).toArray:=by simp
  have e2:(acc++its)++(List.replicate k its).flatten=acc++(List.replicate (k+1) its).flatten:=by
   rw[nS,rO,rP]
  rw[←e2,←zEu its k (acc++its),←e,nS,aR]
section
variable{X:Cx}{pins:List (Addr×Obj)}{σ:St}{H:Hp}{s:Shared}{l b:Addr}{xs ys zs:List V}
theorem Inv.lset{its its':List Value}{n:Nat}{f:Array Value→Array Value}{t':Nat}(I:Inv X pins σ H s)(hH:H l=some (.lst xs))
  (e:s.heap.get? l=some {cls:=.type "list",data:=.seq its.toArray n}) (hf:f its.toArray=its'.toArray) (hv:Vals ys its') (hz:ys.length≤sizeLine):
  Inv X pins σ (upd H l (.lst ys)) {s with heap:=s.heap.update l (Obj.mapSeq f),toks:=t'}:=by
 have q:=PySem.IsL.update e f;rw[hf] at q;refine I.write (x:=l) (e:=l) (by rw[hH];exact trivial) (.inl rfl) (fun b' u hb hu=>(nJ s.heap (Obj.mapSeq f) (Ne.symm hb)).trans hu) ⟨_,q⟩ ?_;exact⟨hz,its',_,hv,q⟩
theorem Inv.lnew{its:List Value}{t':Nat}(I:Inv X pins σ H s)(hv:Vals ys its)(hz:ys.length≤sizeLine):
  Inv X pins σ (upd H s.heap.objs.size (.lst ys)) {s with heap:=s.heap.push {cls:=.type "list",data:=.seq its.toArray},toks:=t'}:=
 I.laid (fun _ _ q=>mN _ q) (mE _) ⟨hz,its,0,hv,nC _ rfl⟩
theorem Inv.fresh(I:Inv X pins σ H s):H s.heap.objs.size=none:=I.hok.fresh (mE _)
theorem Inv.lstM(I:Inv X pins σ H s)(hH:H l=some (.lst xs)):xs.length≤sizeLine∧∃(its:List Value)(n:Nat),Vals xs its∧xs.length=its.length∧s.heap.get? l=some {cls:=.type "list",data:=.seq its.toArray n}:=by
 obtain⟨z,its,n,r,e⟩:=I.hok l _ hH;exact⟨z,its,n,r,r.length,e⟩
theorem zIh{n:Nat}(h:n≤sizeLine):Builtin.List.listTooLong n=false:=by
 unfold Builtin.List.listTooLong;exact nE (by lia)
end
section
variable{X:Cx}
def zGe:V→List V→Hp→VK→Prop:=fun x vs H Q=>∃l xs y,x= .ref l∧vs= [y]∧H l=some (.lst xs)∧xs.length<sizeLine∧Q .non (upd H l (.lst (xs++ [y])))
theorem jV:MtM X "list.append" zGe:=by
 intro pins s σ H x vs v us Q I rx rv h;obtain⟨l,xs,y,rfl,rfl,hH,hz,q⟩:=h;cases rx;obtain⟨u,rfl,ru⟩:=rv.one;obtain⟨z,its,n,r,hl,e⟩:=I.lstM hH;refine aS F.slot_list_append ⟨_,e,rfl⟩ F.entry_list_append (F.args_list_append_2 _ _) (PySem.list_append l its.toArray n u (by rw[mZ];lia)) ⟨e, ?_⟩;refine⟨.non,_,I.lset (its':=its++ [u]) hH e (by simp) (r.append (.cons ru .nil)) ?_,rfl,q⟩;rw[mL,nL]
 lia
def zVd:V→List V→Hp→VK→Prop:=fun x vs H Q=>∃l b xs zs,x= .ref l∧vs= [.ref b]∧H l=some (.lst xs)∧H b=some (.lst zs)∧xs.length+zs.length≤sizeLine∧Q .non (upd H l (.lst (xs++zs)))
theorem zPc:MtM X "list.extend" zVd:=by
 intro pins s σ H x vs v us Q I rx rv h;obtain⟨l,b,xs,zs,rfl,rfl,hH,hB,hz,q⟩:=h;cases rx;obtain⟨u,rfl,ru⟩:=rv.one;cases ru;obtain⟨z,its,n,r,hl,e⟩:=I.lstM hH;obtain⟨z2,its2,n2,r2,hl2,e2⟩:=I.lstM hB;have hsz:its.toArray.size+its2.toArray.size≤sizeLine:=by rw[mZ,mZ];lia
 have hlong:¬(!its.toArray.isEmpty && Builtin.List.listTooLong (its.toArray.size+its2.toArray.size))=true:=by
  rw[zIh hsz,aF];exact nA
 refine aS F.slot_list_extend ⟨_,e,rfl⟩ F.entry_list_extend (F.args_list_extend_2 _ _)
  (AutoSeq1.list_extend_list_list_0 l its.toArray n b its2.toArray n2 hlong (by rw[mZ];lia) (by lia)) ⟨e,e2, ?_⟩
 refine⟨.non,_,I.lset (its':=its++its2) hH e (by simp) (r.append r2) ?_,rfl,q⟩;rw[mL]
 lia
def rPop:V→List V→Hp→VK→Prop:=fun x vs H Q=>∃l xs y,x= .ref l∧vs= []∧H l=some (.lst xs)∧xs[xs.length - 1]? =some y∧Q y (upd H l (.lst xs.dropLast))
theorem yBd:MtM X "list.pop" rPop:=by
 intro pins s σ H x vs v us Q I rx rv h;obtain⟨l,xs,y,rfl,rfl,hH,hy,q⟩:=h;cases rx;have hus:=rv.zero;subst hus;obtain⟨z,its,n,r,hl,e⟩:=I.lstM hH;obtain⟨u,hu,ru⟩:=r.get hy;have hy':its.toArray[its.toArray.size - 1]? =some u:=by
  show its.toArray[its.length - 1]? =some u;rw[←sJ,←hl];exact hu
 refine aS F.slot_list_pop ⟨_,e,rfl⟩ F.entry_list_pop (F.args_list_pop_1 _) (MeetsSeq.list_pop_last l its.toArray n u hy' (by rw[mZ];lia)) ⟨e, ?_⟩;refine⟨y,_,I.lset (its':=its.dropLast) hH e ?_ r.dropLast ?_,ru,q⟩
 ·show its.toArray.eraseIdxIfInBounds (its.toArray.size - 1)=its.dropLast.toArray
  rw[mZ,List.eraseIdxIfInBounds_toArray,zKh]
 ·rw[sS]
  lia
def zWm:R2:=fun x y H Q=>∃l b xs zs,x= .ref l∧y= .ref b∧H l=some (.lst xs)∧H b=some (.lst zs)∧xs.length+zs.length≤sizeLine∧∀p,H p=none→Q (.ref p) (upd H p (.lst (xs++zs)))
theorem kK:OpR X (binaryOp .Add) zWm:=by
 intro pins s σ H x y v u Q I rx ry h;obtain⟨l,b,xs,zs,rfl,rfl,hH,hB,hz,q⟩:=h;cases rx;cases ry;obtain⟨z,its,n,r,hl,e⟩:=I.lstM hH;obtain⟨z2,its2,n2,r2,hl2,e2⟩:=I.lstM hB;refine PySem.P.add_list e e2 ?_ (by rw[mZ,mZ];lia);have ea:its.toArray++its2.toArray=(its++its2).toArray:=by simp
 rw[ea];exact⟨.ref _,_,I.lnew (t':=s.toks) (r.append r2) (by rw[mL];lia),rfl,q _ I.fresh⟩
def rRep:R2:=fun x y H Q=>∃l k xs,x= .ref l∧y= .int k∧H l=some (.lst xs)∧-(2 ^ 63)≤k∧k<2 ^ 63∧xs.length*k.toNat≤sizeLine∧
 ∀p,H p=none→Q (.ref p) (upd H p (.lst (List.replicate k.toNat xs).flatten))
theorem zUf{α:Type}(xs:List α)(k:Nat):(List.replicate k xs).flatten.length=k*xs.length:=by
 induction k with
 | zero=>simp
 | succ k ih=>rw[nS,rO,mL,ih,Nat.succ_mul,Nat.add_comm]
theorem zBp:OpR X (binaryOp .Mult) rRep:=by
 intro pins s σ H x y v u Q I rx ry h;obtain⟨l,k,xs,rfl,rfl,hH,h1,h2,hz,q⟩:=h;cases rx;obtain⟨t,rfl⟩:=ry;obtain⟨z,its,n,r,hl,e⟩:=I.lstM hH;have hlen:its.toArray.size*k.toNat≤sizeLine:=by rw[mZ,←hl];exact hz
 have hcap:¬its.toArray.size*k.toNat>(2 ^ 63 - 1)/ 8:=by
  have:(sizeLine:Nat)≤(2 ^ 63 - 1)/ 8:=by decide
  lia
 have hfit:¬(!Builtin.List.listFitsIndex k)=true:=by
  rw[fitsIndex_both h1 h2];exact nA
 have hlong:¬Builtin.List.listTooLong (its.toArray.size*k.toNat)=true:=by
  rw[zIh hlen];exact nA
 have hnew:List.foldl (fun x1 x2=>x1++x2) #[] (List.replicate (if its.toArray.isEmpty=true then 0 else k.toNat) its.toArray)=(List.replicate k.toNat its).flatten.toArray:=by
  have f0:∀m:Nat,List.foldl (fun x1 x2=>x1++x2) #[] (List.replicate m its.toArray)=(List.replicate m its).flatten.toArray:=fun m=>by
   have:=zEu its m [];rw[tS] at this;exact this
  rw[f0]
  cases its with
  | nil=>simp
  | cons a r'=>rw[mG (by simp)]
 refine wpAny_binaryOp_repeat_ref (T:="list") (U:="int") (by decide) ⟨_,e,rfl⟩ (fun s'=>typeIs_int s' k t) noFill_list_mul F.fills_int_mul F.slot_int_rmul repeat_list F.slot_int_index.lookup
  (aS F.slot_int_rmul (typeIs_int s k t) F.entry_int_rmul (F.args_int_rmul_2 _ _) (int___rmul___int_list k t l its.toArray n)
   ⟨e,rfl,⟨_,e,rfl⟩,aS F.slot_list_mul ⟨_,e,rfl⟩ F.entry_list_mul (F.args_list_mul_2 _ _) (AutoListH.list___mul___list_int_3 l its.toArray n k t hfit hcap hlong) ⟨e, ?_⟩⟩)
 rw[hnew];exact⟨.ref _,_,I.lnew (t':=s.toks) (r.rep k.toNat) (by rw[zUf,Nat.mul_comm];exact hz),rfl,q _ I.fresh⟩
end
section
variable{prog:Program}{w:World}{A:Around}{E:Value→Shared→Prop}{s:Shared}
set_option maxRecDepth 100000 in
end
section
variable{X:Cx}
end
section
variable{κ:Type} [DecidableEq κ]
def wR(kvs:List (κ×V))(k:κ):Option V:=(kvs.find? fun kv=>decide (kv.1=k)).map (·.2)
def yY(kvs:List (κ×V))(k:κ)(v:V):List (κ×V):=
 if(kvs.any fun kv=>decide (kv.1=k))=true then kvs.map (fun kv=>if kv.1=k then(kv.1,v) else kv) else kvs++ [(k,v)]
def dropK(kvs:List (κ×V))(k:κ):List (κ×V):=kvs.filter fun kv=>decide (kv.1≠k)
theorem wD{p:κ×V}{r:List (κ×V)}{k:κ}(e:p.1=k):wR (p::r) k=some p.2:=by simp[wR,aT,e]
theorem xZ{p:κ×V}{r:List (κ×V)}{k:κ}(e:¬p.1=k):wR (p::r) k=wR r k:=by simp[wR,aT,e]
theorem qQ(k:κ):∀kvs:List (κ×V),(kvs.any fun kv=>decide (kv.1=k))=(wR kvs k).isSome
 | []=>rfl
 | p::r=>by
  rw[tW]
  by_cases e:p.1=k
  ·simp only[wD e,nB e,Bool.true_or,Option.isSome_some]
  ·rw[xZ e,nE e,Bool.false_or];exact qQ k r
theorem zIv(k j:κ)(y:V):∀kvs:List (κ×V),wR (kvs.map fun kv=>if kv.1=k then(kv.1,y) else kv) j=(wR kvs j).map fun x=>if j=k then y else x
 | []=>rfl
 | p::r=>by
  have ih:=zIv k j y r;rw[mU]
  by_cases h:p.1=k
  ·rw[mK h]
   by_cases e:p.1=j
   ·rw[wD (p:=(p.1,y)) e,wD e,bP,mK (e.symm.trans h)]
   ·rw[xZ (p:=(p.1,y)) e,xZ e,ih]
  ·rw[mG h]
   by_cases e:p.1=j
   ·rw[wD (p:=p) e,wD e,bP,mG (fun z=>h (e.trans z))]
   ·rw[xZ (p:=p) e,xZ e,ih]
theorem zFo(k j:κ)(y:V):∀kvs:List (κ×V),wR kvs k=none→wR (kvs++ [(k,y)]) j=if j=k then some y else wR kvs j
 | [],_=>by
  by_cases e:k=j
  ·rw[mK e.symm];exact wD (p:=(k,y)) e
  ·rw[mG (fun z=>e z.symm)];exact xZ (p:=(k,y)) e
 | p::r,hn=>by
  rw[List.cons_append];have hk:¬p.1=k:=fun z=>by rw[wD z] at hn;cases hn
  rw[xZ hk] at hn;have ih:=zFo k j y r hn
  by_cases e:p.1=j
  ·rw[wD e,wD e,mG (fun z=>hk (e.trans z))]
  ·rw[xZ e,xZ e,ih]
theorem zSv(kvs:List (κ×V))(k j:κ)(y:V):wR (yY kvs k y) j=if j=k then some y else wR kvs j:=by
 unfold yY
 by_cases a:(kvs.any fun kv=>decide (kv.1=k))=true
 ·rw[mK a,zIv]
  rw[qQ] at a
  by_cases e:j=k
  ·obtain⟨x,hx⟩:=Option.isSome_iff_exists.mp a
   rw[mK e,e,hx,bP,mK rfl]
  ·rw[mG e]
   cases wR kvs j with
   | none=>rfl
   | some x=>rw[bP,mG e]
 ·rw[mG a]
  refine zFo k j y kvs ?_;rw[qQ] at a
  cases q:wR kvs k with
  | none=>rfl
  | some x=>rw[q] at a;exact(a rfl).elim
theorem kQ(kvs:List (κ×V))(k:κ)(v:V):(yY kvs k v).length≤kvs.length+1:=by
 unfold yY;split
 ·rw[mI];lia
 ·rw[mL,nG,pF];lia
theorem zRe{kvs:List (κ×V)}{k:κ}(v:V)(h:wR kvs k=none):yY kvs k v=kvs++ [(k,v)]:=by
 unfold yY;rw[qQ,h];exact mG (by decide)
theorem RelO.isSome_eq{o:Option V}{u:Option Value}(r:RelO o u):o.isSome=u.isSome:=by
 cases o with
 | none=>cases u with
  | none=>rfl
  | some _=>exact(show False from r).elim
 | some _=>cases u with
  | none=>exact(show False from r).elim
  | some _=>rfl
theorem KV.val{kvs:List (κ×V)}{vs:List (κ×Value)}(r:KV kvs vs)(k:κ):RelO (wR kvs k) (valueAt vs k):=by
 unfold KV at r
 induction r with
 | nil=>exact mH
 | @cons p q ps qs h t ih=>
  obtain⟨h1,h2⟩:=h
  by_cases e:p.1=k
  ·have e':q.1=k:=h1.symm.trans e
   have b:valueAt (q::qs) k=some q.2:=by simp[valueAt,aT,e']
   rw[wD e,b];exact h2
  ·have e':¬q.1=k:=fun z=>e (h1.trans z)
   have b:valueAt (q::qs) k=valueAt qs k:=by simp[valueAt,aT,e']
   rw[xZ e,b];exact ih
theorem KV.any{kvs:List (κ×V)}{vs:List (κ×Value)}(r:KV kvs vs)(k:κ):(kvs.any fun kv=>decide (kv.1=k))=vs.any fun kv=>decide (kv.1=k):=by
 unfold KV at r
 induction r with
 | nil=>rfl
 | cons h t ih=>rw[tW,tW,ih,h.1]
theorem KV.repl{kvs:List (κ×V)}{vs:List (κ×Value)}(r:KV kvs vs)(k:κ){y:V}{u:Value}(ry:RelV y u):
  KV (kvs.map fun kv=>if kv.1=k then(kv.1,y) else kv) (vs.map fun kv=>if kv.1=k then(kv.1,u) else kv):=by
 unfold KV at r⊢
 induction r with
 | nil=>exact .nil
 | @cons p q ps qs h t ih=>
  rw[mU,mU];refine .cons ?_ ih;obtain⟨h1,h2⟩:=h
  by_cases e:p.1=k
  ·rw[mK e,mK (h1.symm.trans e)];exact⟨h1,ry⟩
  ·rw[mG e,mG (fun z=>e (h1.trans z))];exact⟨h1,h2⟩
theorem KV.put{kvs:List (κ×V)}{vs:List (κ×Value)}(r:KV kvs vs)(k:κ){y:V}{u:Value}(ry:RelV y u):KV (yY kvs k y) (stored vs k u):=by
 unfold yY stored;rw[r.any k]
 by_cases e:(vs.any fun kv=>decide (kv.1=k))=true
 ·rw[mK e,mK e];exact r.repl k ry
 ·rw[mG e,mG e];exact Paired.snoc r ⟨rfl,ry⟩
theorem KV.drop{kvs:List (κ×V)}{vs:List (κ×Value)}(r:KV kvs vs)(k:κ):KV (dropK kvs k) (without vs k):=by
 unfold KV at r⊢;unfold dropK without
 induction r with
 | nil=>exact .nil
 | @cons p q ps qs h t ih=>
  obtain⟨h1,h2⟩:=h;rw[dI,dI]
  by_cases e:p.1=k
  ·have a:¬decide (p.1≠k)=true:=by simp[e]
   have b:¬decide (q.1≠k)=true:=by simp[h1.symm.trans e]
   rw[mG a,mG b];exact ih
  ·have e':¬q.1=k:=fun z=>e (h1.trans z)
   have a:decide (p.1≠k)=true:=by simp[e]
   have b:decide (q.1≠k)=true:=by simp[e']
   rw[mK a,mK b];exact .cons ⟨h1,h2⟩ ih
theorem KV.keys{kvs:List (κ×V)}{vs:List (κ×Value)}(r:KV kvs vs):kvs.map (·.1)=vs.map (·.1):=by
 unfold KV at r
 induction r with
 | nil=>rfl
 | cons h t ih=>rw[mU,mU,ih,h.1]
theorem KV.length{kvs:List (κ×V)}{vs:List (κ×Value)}(r:KV kvs vs):kvs.length=vs.length:=Paired.length r
theorem zSk(kvs:List (κ×V))(k:κ):(dropK kvs k).length≤kvs.length:=List.length_filter_le _ _
end
theorem zBw{P:Program}{w:World}{k:Key}{u:Value}(r:RelV (kV k) u):(yO P w).is k u=true:=by
 cases k with
 | inl i=>obtain⟨t,e⟩:=(show∃t,u=Value.int i t from r);subst e;exact zIm P w i t
 | inr x=>obtain⟨t,e⟩:=(show∃t,u=Value.str x t from r);subst e;exact zJm P w x t
theorem zFv{P:Program}{w:World}:∀{ks:List Key}{us:List Value},Vals (ks.map kV) us→ItemsAre (yO P w) ks us
 | [],_,r=>by rw[sQ] at r;cases r;exact .nil
 | k::ks,_,r=>by
  rw[mU] at r
  cases r with
  | cons h t=>exact .cons (zBw h) (zFv t)
abbrev KT(H:Hp):List (List Key×V)→List (List Key×Addr×Value)→Prop:=Paired fun p q=>p.1=q.1∧H q.2.1=some (.tup (p.1.map kV))∧RelV p.2 q.2.2
theorem KT.val{H:Hp}{kvs:List (List Key×V)}{xs:List (List Key×Addr×Value)}(r:KT H kvs xs)(k:List Key):RelO (wR kvs k) ((atKey xs k).map (·.2)):=by
 induction r with
 | nil=>exact mH
 | @cons p q ps qs h t ih=>
  obtain⟨h1,_,h2⟩:=h
  by_cases e:p.1=k
  ·have e':q.1=k:=h1.symm.trans e
   have b:atKey (q::qs) k=some q.2:=by simp[atKey,aT,e']
   rw[wD e,b];exact h2
  ·have e':¬q.1=k:=fun z=>e (h1.trans z)
   have b:atKey (q::qs) k=atKey qs k:=by simp[atKey,aT,e']
   rw[xZ e,b];exact ih
theorem KT.repl{H:Hp}{kvs:List (List Key×V)}{xs:List (List Key×Addr×Value)}(r:KT H kvs xs)(k:List Key){y:V}{u:Value}(ry:RelV y u):
  KT H (kvs.map fun kv=>if kv.1=k then(kv.1,y) else kv) (xs.map (putAt k u)):=by
 induction r with
 | nil=>exact .nil
 | @cons p q ps qs h t ih=>
  rw[mU,mU];refine .cons ?_ ih;obtain⟨h1,h2,h3⟩:=h;unfold putAt
  by_cases e:p.1=k
  ·rw[mK e,mK (h1.symm.trans e)];exact⟨h1,h2,ry⟩
  ·rw[mG e,mG (fun z=>e (h1.trans z))];exact⟨h1,h2,h3⟩
theorem KT.put{H:Hp}{kvs:List (List Key×V)}{xs:List (List Key×Addr×Value)}(r:KT H kvs xs)(k:List Key){b:Addr}{y:V}{u:Value}(hb:H b=some (.tup (k.map kV)))(ry:RelV y u):
  KT H (yY kvs k y) (storedH xs k b u):=by
 have e:(kvs.any fun kv=>decide (kv.1=k))=(atKey xs k).isSome:=by
  rw[qQ,(r.val k).isSome_eq,dC]
 unfold yY storedH;rw[e]
 by_cases q:(atKey xs k).isSome=true
 ·rw[mK q,mK q];exact r.repl k ry
 ·rw[mG q,mG q];exact Paired.snoc r ⟨rfl,hb,ry⟩
theorem KT.keeps{H H':Hp}{kvs:List (List Key×V)}{xs:List (List Key×Addr×Value)}(r:KT H kvs xs)(ht:∀b ys,H b=some (.tup ys)→H' b=some (.tup ys)):KT H' kvs xs:=
 Paired.mapP r fun _ _ z=>⟨z.1,ht _ _ z.2.1,z.2.2⟩
section
variable{P:Program}{w:World}{H:Hp}{h:Heap}{a:Addr}
theorem zXn{u:HO}(ok:HOk P w H h)(e:Rd H a u):ObjOk P w H h a u:=e.ok ok
theorem jK{kvs:List (Key×V)}(ok:HOk P w H h)(e:Rd H a (.dK kvs)):kvs.length≤sizeLine∧(a==sysModules)=false∧∃vs,KV kvs vs∧h.DictOf (yO P w) a vs:=
 show ObjOk P w H h a (.dK kvs) from zXn ok e
theorem zPx{kvs:List (Key×V)}(ok:HOk P w H h)(e:H a=some (.dK kvs)):kvs.length≤sizeLine∧(a==sysModules)=false∧∃vs,KV kvs vs∧h.DictOf (yO P w) a vs:=jK ok (.inl e)
theorem zDr{ks:List Key}(ok:HOk P w H h)(e:H a=some (.tup (ks.map kV))):(tupleKind (yO P w)).is h ks a:=by
 obtain⟨_,its,r,o,h1,h2,n,h3⟩:=(show ObjOk P w H h a (.tup (ks.map kV)) from ok a _ e);exact⟨o,its.toArray,n,h1,h2,h3,by simpa using zFv r⟩
theorem zFe{kvs:List (List Key×V)}(ok:HOk P w H h)(e:Rd H a (.dT kvs)):kvs.length≤sizeLine∧(a==sysModules)=false∧
  ∃xs,KT H kvs xs∧h.DictOfH (tupleKind (yO P w)) a xs:=by
 obtain⟨z,y,xs,r,o,es,ep,h1,h2,h3,h4,h5⟩:=(show ObjOk P w H h a (.dT kvs) from zXn ok e);refine⟨z,y,xs,r,o,es,ep,h1,h2,h3,h4,fun x hx=>?_,h5⟩;have all:∀{l:List (List Key×V)}{m:List (List Key×Addr×Value)},KT H l m→∀x∈m,(tupleKind (yO P w)).is h x.1 x.2.1:=by
  intro l m q
  induction q with
  | nil=>intro x hx;exact nomatch hx
  | @cons p q ps qs hq t ih=>
   intro x hx;rcases mF.mp hx with e | hx
   ·subst e
    exact zDr ok (by rw[←hq.1];exact hq.2.1)
   ·exact ih x hx
 exact all r x hx
theorem dt_of{kvs:List (List Key×V)}(ok:HOk P w H h)(e:H a=some (.dT kvs)):kvs.length≤sizeLine∧(a==sysModules)=false∧
  ∃xs,KT H kvs xs∧h.DictOfH (tupleKind (yO P w)) a xs:=zFe ok (.inl e)
end
def zJb(H:Hp)(a:Addr)(y:V)(r:Option V):Prop:=
 (∃kvs k,Rd H a (.dK kvs)∧y=kV k∧r=wR kvs k)∨∃kvs k b,Rd H a (.dT kvs)∧y= .ref b∧H b=some (.tup (k.map kV))∧r=wR kvs k
def DPut(H:Hp)(a:Addr)(y v:V)(H':Hp):Prop:=
 (∃kvs k,H a=some (.dK kvs)∧y=kV k∧kvs.length<sizeLine∧H'=upd H a (.dK (yY kvs k v)))∨
 ∃kvs k b,H a=some (.dT kvs)∧y= .ref b∧H b=some (.tup (k.map kV))∧kvs.length<sizeLine∧H'=upd H a (.dT (yY kvs k v))
theorem DPut.k{H:Hp}{a:Addr}{kvs:List (Key×V)}{k:Key}{v:V}(e:H a=some (.dK kvs))(hl:kvs.length<sizeLine):DPut H a (kV k) v (upd H a (.dK (yY kvs k v))):=.inl ⟨kvs,k,e,rfl,hl,rfl⟩
section
variable{X:Cx}{pins:List (Addr×Obj)}{σ:St}{H:Hp}{s:Shared}{a:Addr}{y v:V}{u r:Value}{o:Option V}{A:Around}{E:Value→Shared→Prop}
theorem Inv.big(I:Inv X pins σ H s):sysModules<s.heap.objs.size:=by
 have h:mainGlobals<s.heap.objs.size:=(I.mod.glob.keeps I.bk).lt;exact cL (by decide) h
theorem zOb{Q:Value→Shared→Prop}(hu:A.units+1<cLine)(I:Inv X pins σ H s)(g:zJb H a y (some v))(ry:RelV y u)(h:∀w' s',Inv X pins σ H s'→RelV v w'→Q w' s'):
  wpAny (model X.prog X.w) A (getItem (.ref a) u) Q E s:=by
 rcases g with⟨kvs,k,e,ey,l⟩|⟨kvs,k,b,e,ey,eb,l⟩
 ·subst ey
  obtain⟨z,hd,vs,rel,dd⟩:=jK I.hok e;obtain⟨w',hw,rw'⟩:=RelO.some_of (v:=v) (o:=valueAt vs k) (by rw[l];exact rel.val k);exact wpAny_getItem_of (zBw ry) dd.mapOf hw (h w' _ (I.tok _) rw')
 ·subst ey
  cases (show u=Value.ref b from ry);obtain⟨z,hd,xs,rel,dd⟩:=zFe I.hok e;obtain⟨w',hw,rw'⟩:=RelO.some_of (v:=v) (o:=(atKey xs k).map (·.2)) (by rw[l];exact rel.val k);obtain⟨p,hp,hp2⟩:=Option.map_eq_some_iff.mp hw;refine wpAny_getItem_heap (bS hu) (zDr I.hok eb) dd hp ?_;rw[hp2];exact h w' _ (I.tok _) rw'
theorem d_in{Q:Value→Shared→Prop}(hu:A.units+1<cLine)(I:Inv X pins σ H s)(g:zJb H a y o)(ry:RelV y u)(h:∀s',Inv X pins σ H s'→Q (.bool o.isSome) s'):
  wpAny (model X.prog X.w) A (compareOp .In u (.ref a)) Q E s:=by
 rcases g with⟨kvs,k,e,ey,l⟩|⟨kvs,k,b,e,ey,eb,l⟩
 ·subst ey
  obtain⟨z,hd,vs,rel,dd⟩:=jK I.hok e;refine wpAny_in_of (zBw ry) hd dd.mapOf ?_;rw[←(rel.val k).isSome_eq,←l];exact h _ (I.tok _)
 ·subst ey
  cases (show u=Value.ref b from ry);obtain⟨z,hd,xs,rel,dd⟩:=zFe I.hok e;refine wpAny_in_heap (bS hu) (zDr I.hok eb) hd dd ?_;have q:=(rel.val k).isSome_eq;rw[dC] at q;rw[←q,←l];exact h _ (I.tok _)
theorem zUb{Q:Value→Shared→Prop}(hu:A.units+1<cLine)(I:Inv X pins σ H s)(g:zJb H a y o)(ry:RelV y u)(h:∀s',Inv X pins σ H s'→Q (.bool (!o.isSome)) s'):
  wpAny (model X.prog X.w) A (compareOp .NotIn u (.ref a)) Q E s:=by
 rcases g with⟨kvs,k,e,ey,l⟩|⟨kvs,k,b,e,ey,eb,l⟩
 ·subst ey
  obtain⟨z,hd,vs,rel,dd⟩:=jK I.hok e;refine wpAny_notIn_of (zBw ry) hd dd.mapOf ?_;rw[←(rel.val k).isSome_eq,←l];exact h _ (I.tok _)
 ·subst ey
  cases (show u=Value.ref b from ry);obtain⟨z,hd,xs,rel,dd⟩:=zFe I.hok e;refine wpAny_notIn_heap (bS hu) (zDr I.hok eb) hd dd ?_;have q:=(rel.val k).isSome_eq;rw[dC] at q;rw[←q,←l];exact h _ (I.tok _)
theorem zCk{h':Heap}{t':Nat}{ob:HO}(I:Inv X pins σ H s)(mu:Mut (H a))(hs:Heap.SameBut a s.heap h')(he:∃q,h'.get? a=some q)(new:ObjOk X.prog X.w (upd H a ob) h' a ob):
  Inv X pins σ (upd H a ob) {s with heap:=h',toks:=t'}:=
 I.write (x:=a) (e:=a) mu (.inl rfl) (fun b q hb z=>(hs.2 b hb).trans z) he new
theorem zGi{P:Program}{w:World}{H':Hp}{h':Heap}{kvs:List (Key×V)}{vs:List (Key×Value)}(z:kvs.length≤sizeLine)(hd:(a==sysModules)=false)(rel:KV kvs vs)(dd:h'.DictOf (yO P w) a vs):
  ObjOk P w H' h' a (.dK kvs):=⟨z,hd,vs,rel,dd⟩
theorem zPg{H':Hp}{Q:Unit→Shared→Prop}(hu:A.units+1<cLine)(I:Inv X pins σ H s)(g:DPut H a y v H')(ry:RelV y u)(rv:RelV v r)(h:∀s',Inv X pins σ H' s'→Q () s'):
  wpAny (model X.prog X.w) A (setItem (.ref a) u r) Q E s:=by
 rcases g with⟨kvs,k,e,ey,l,eH⟩|⟨kvs,k,b,e,ey,eb,l,eH⟩
 ·subst ey eH
  obtain⟨z,hd,vs,rel,dd⟩:=zPx I.hok e;have hz:vs.length≤sizeLine:=by rw[←rel.length];exact z
  have hl:(yY kvs k v).length≤sizeLine:=by have:=kQ kvs k v;lia
  refine wpAny_setItem_pairs (hsz:=hz) (zBw ry) dd fun h' dd' hs=>h _ ?_;have he:∃q,h'.get? a=some q:=let ⟨q,_,_,hq,_⟩:=dd';⟨q,hq⟩;exact zCk I (by rw[e];exact mH) hs he (zGi hl hd (rel.put k rv) dd')
 ·subst ey eH
  cases (show u=Value.ref b from ry);obtain⟨z,hd,xs,rel,dd⟩:=dt_of I.hok e;have hz:xs.length≤sizeLine:=by rw[←Paired.length rel];exact z
  have hl:(yY kvs k v).length≤sizeLine:=by have:=kQ kvs k v;lia
  refine wpAny_setItem_heap (hsz:=hz) (bS hu) (zDr I.hok eb) dd fun h' dd' hs=>h _ ?_;obtain⟨q,es,ep,hq,h2,h3,h4,_,h5⟩:=dd';refine zCk I (by rw[e];exact mH) hs ⟨q,hq⟩ ⟨hl,hd,_,(rel.put k eb rv).keeps fun c ys ec=>?_,q,es,ep,hq,h2,h3,h4,h5⟩;rw[zO (ne_of ec e (fun z=>nomatch z))];exact ec
end
section
variable{X:Cx}{pins:List (Addr×Obj)}{σ:St}{H:Hp}{s:Shared}{a:Addr}{kvs:List (Key×V)}{k:Key}{u:Value}{A:Around}{E:Value→Shared→Prop}
theorem d_pop{v:V}{more:List Value}{Q:Value→Shared→Prop}(I:Inv X pins σ H s)(e:H a=some (.dK kvs))(ry:RelV (kV k) u)(l:wR kvs k=some v)(hm:more= []∨∃x,more= [x])
  (h:∀w' s',Inv X pins σ (upd H a (.dK (dropK kvs k))) s'→RelV v w'→Q w' s'):wpAny (model X.prog X.w) A (call (.builtin "dict.pop") (.ref a::u::more)) Q E s:=by
 obtain⟨z,hd,vs,rel,dd⟩:=zPx I.hok e;obtain⟨w',hw,rw'⟩:=RelO.some_of (v:=v) (o:=valueAt vs k) (by rw[←l];exact rel.val k);have hp:(keyPart u).isSome=true:=by
  cases k with
  | inl i=>obtain⟨t,q⟩:=(show∃t,u=Value.int i t from ry);subst q;rfl
  | inr x=>obtain⟨t,q⟩:=(show∃t,u=Value.str x t from ry);subst q;rfl
 have ha:argsOk "dict.pop" ⟨.ref a::u::more,[]⟩:=by
  rcases hm with q |⟨x,q⟩
  ·subst q;exact PySem.F.args_dict_pop_2 _ _
  ·subst q;exact PySem.F.args_dict_pop_3 _ _ _
 refine call_meetsIn PySem.F.slot_dict_pop dd.typeIs PySem.F.entry_dict_pop ha (meets_dict_pop_there (yO X.prog X.w) a (zBw ry) more hm hp)
  ⟨vs,w',dd,by rw[←rel.length];exact z,hw,fun h' dd' hs=>h w' _ ?_ rw'⟩
 have he:∃q,h'.get? a=some q:=let ⟨q,_,_,hq,_⟩:=dd';⟨q,hq⟩;exact zCk I (by rw[e];exact mH) hs he (zGi (nN (zSk kvs k) z) hd (rel.drop k) dd')
theorem zXp{Q:Value→Shared→Prop}(I:Inv X pins σ H s)(e:Rd H a (.dK kvs))(h:∀t s',Inv X pins σ H s'→Q (.int kvs.length t) s'):wpAny (model X.prog X.w) A (call (.builtin "len") [.ref a]) Q E s:=by
 obtain⟨z,hd,vs,rel,dd⟩:=jK I.hok e;refine call_len_dict hd dd (by rw[←rel.length];rw[mR] at z;lia) ?_;rw[←rel.length];exact h _ _ (I.tok _)
end
def NoSl(i:Expr):Prop:=∀ov iv,subscripted i false ov iv=operate [ov,iv] (getItem ov iv)
theorem zXa{prog:Program}{w:World}{A:Around}{E:Value→Shared→Prop}{s:Shared}{env:Env}{value slice:Expr}{pos:Pos}{T id:String}{Q:Value→Shared→Prop}
  (hl:typeLookup (.type T) "__getitem__" =pure (some (.builtin id))) (hs:NoSl slice)
  (h:wpAny (model prog w) A (eval value env) (fun o s₁=>wpAny (model prog w) A (eval slice env) (fun i s₂=>s₂.TypeIs o T∧wpAny (model prog w) A (getItem o i) Q E s₂) E s₁) E s):
  wpAny (model prog w) A (eval (.Subscript value slice pos) env) Q E s:=by
 refine Subscript_ (rE h (fun o s₁ h₁=>rE h₁ (fun i s₂ h₂=>?_) fun _ _ x=>x) fun _ _ x=>x);obtain⟨hT,h₂⟩:=h₂;unfold subscriptTail;refine mD ?_;rw[getitemInPython_of_ne hT.not_modules];refine mD (wpAny_specialOf hT hl ?_);have fin:wpAny (model prog w) A (subscripted slice false o i) (fun r s₃=>wpAny (model prog w) A (letTemporaryGo value o r>>=fun _=>pure r) Q E s₃) E s₂:=by
  rw[hs o i];exact wpAny_operating (rE h₂ (fun r s₃ h₃=>mD (wpAny_letTemporaryGo (mS h₃))) fun _ _ x=>x)
 first
  | exact mS (mD fin)
  | exact mD (mS (mD fin))
  | exact mD fin
theorem zIq{X:Cx}{pins:List (Addr×Obj)}{σ:St}{H:Hp}{s:Shared}{a:Addr}{y:V}{o:Option V}(I:Inv X pins σ H s)(g:zJb H a y o):s.TypeIs (.ref a) "dict":=by
 rcases g with⟨kvs,k,e,_,_⟩|⟨kvs,k,b,e,_,_,_⟩
 ·obtain⟨_,_,vs,_,dd⟩:=jK I.hok e
  exact dd.typeIs
 ·obtain⟨_,_,xs,_,dd⟩:=zFe I.hok e
  exact dd.typeIs
def zRd(td ty:TE):TE:=fun σ H Q=>td σ H fun x H1=>ty σ H1 fun y H2=>∃a v,x= .ref a∧zJb H2 a y (some v)∧Q v H2
def tDIn(ty td:TE):TE:=fun σ H Q=>ty σ H fun y H1=>td σ H1 fun x H2=>∃a o,x= .ref a∧zJb H2 a y o∧Q (.bl o.isSome) H2
def zWy(ty td:TE):TE:=fun σ H Q=>ty σ H fun y H1=>td σ H1 fun x H2=>∃a o,x= .ref a∧zJb H2 a y o∧Q (.bl (!o.isSome)) H2
def zRg(td ty tv:TE):TS:=fun D σ H=>tv σ H fun v H1=>td σ H1 fun x H2=>ty σ H2 fun y H3=>∃a H4,x= .ref a∧DPut H3 a y v H4∧D.nx σ H4
section
variable{X:Cx}{o i e value:Expr}{pos pos' tpos:Pos}{td ty tv:TE}
theorem qF(hu:X.A.units+1<cLine)(ho:PE X o td)(hi:PE X i ty)(hs:NoSl i):PE X (.Subscript o i pos) (zRd td ty):=by
 intro pins s σ H Q I h;refine zXa PySem.F.slot_dict_getitem.lookup hs (thn (ho pins s σ H _ I h) fun u s1 ⟨x,H1,I1,rx,q1⟩=>thn (hi pins s1 σ H1 _ I1 q1) fun iv s2 ⟨y,H2,I2,ry,a,v,ex,g,q2⟩=>?_);subst ex;obtain rfl:u=Value.ref a:=rx;exact⟨zIq I2 g,zOb hu I2 g ry fun w' s3 I3 rw'=>⟨v,H2,I3,rw',q2⟩⟩
theorem zKi(hu:X.A.units+1<cLine)(hi:PE X i ty)(ho:PE X o td):PC X .In i o (tDIn ty td):=by
 intro pins s σ H Q I h;refine thn (hi pins s σ H _ I h) fun iv s1 ⟨y,H1,I1,ry,q1⟩=>thn (ho pins s1 σ H1 _ I1 q1) fun u s2 ⟨x,H2,I2,rx,a,ov,ex,g,q2⟩=>?_;subst ex;obtain rfl:u=Value.ref a:=rx;exact d_in hu I2 g ry fun s3 I3=>⟨.bl ov.isSome,H2,I3,rfl,q2⟩
theorem zOc(hu:X.A.units+1<cLine)(hi:PE X i ty)(ho:PE X o td):PC X .NotIn i o (zWy ty td):=by
 intro pins s σ H Q I h;refine thn (hi pins s σ H _ I h) fun iv s1 ⟨y,H1,I1,ry,q1⟩=>thn (ho pins s1 σ H1 _ I1 q1) fun u s2 ⟨x,H2,I2,rx,a,ov,ex,g,q2⟩=>?_;subst ex;obtain rfl:u=Value.ref a:=rx;exact zUb hu I2 g ry fun s3 I3=>⟨.bl (!ov.isSome),H2,I3,rfl,q2⟩
theorem kG(hu:X.A.units+1<cLine)(ho:PE X o td)(hi:PE X i ty)(hv:PE X value tv)(hs:swapsWith value (some (.Subscript o i pos')) pos.line X.env=pure false):
  PS X (.Assign [.Subscript o i pos'] value pos) (zRg td ty tv):=by
 intro pins s σ H D I h;refine wpAny_Assign_Subscript (thn (hv pins s σ H _ I h) fun r s1 ⟨v,H1,I1,rv,q1⟩=>thn (ho pins s1 σ H1 _ I1 q1) fun u s2 ⟨x,H2,I2,rx,q2⟩=>thn (hi pins s2 σ H2 _ I2 q2) fun iv s3 ⟨y,H3,I3,ry,a,H4,ex,g,q3⟩=>?_) hs;subst ex;obtain rfl:u=Value.ref a:=rx;exact zPg hu I3 g ry rv fun s4 I4=>⟨σ,H4,I4,q3⟩
end
theorem zJc{P:Program}{w:World}{H:Hp}(h:Heap)(hb:sysModules<h.objs.size):ObjOk P w H (h.push {cls:=.type "dict",data:=.dict #[]}) h.objs.size (.dK []):=
 ⟨nY _,tE.mpr (Ne.symm (nO hb)),[], .nil,Heap.DictOf.new h⟩
def zKe:TE:=fun _ H Q=>∀p,H p=none→Q (.ref p) (upd H p (.dK []))
section
variable{X:Cx}{pos:Pos}
theorem zDt:PE X (.Dict [] [] pos) zKe:=fun pins s σ H Q I h=>
 wpAny_Dict_empty ⟨.ref s.heap.objs.size,_,I.laid (a:=s.heap.objs.size) (o:=.dK []) (t':=s.toks) (fun _ _ q=>mN _ q) (mE _) (zJc s.heap I.big),rfl,h _ (I.hok.fresh (mE _))⟩
end
def zDm:List (TE×TE)→St→Hp→(List (V×V)→Hp→Prop)→Prop
 | [],_,H,Q=>Q [] H
 |(tk,tv)::r,σ,H,Q=>tk σ H fun x H1=>tv σ H1 fun y H2=>zDm r σ H2 fun ps H3=>Q ((x,y)::ps) H3
abbrev VV:List (V×V)→List (Value×Value)→Prop:=Paired fun p q=>RelV p.1 q.1∧RelV p.2 q.2
def PPs(X:Cx)(pos:Pos)(keys:List (Option Expr))(values:List Expr)(trs:List (TE×TE)):Prop:=
 ∀(pins:List (Addr×Obj))(s:Shared)(σ:St)(H:Hp)(Q:List (V×V)→Hp→Prop),Inv X pins σ H s→zDm trs σ H Q→
  wpAny (model X.prog X.w) X.A (evalPairs (pairTrees keys values X.env pos)) (fun vs s'=>∃ps H',Inv X pins σ H' s'∧VV ps vs∧Q ps H') X.xe s
theorem zUt{X:Cx}{pos:Pos}:PPs X pos [] [] []:=fun pins s σ H Q I h=>pairTrees_nil_walk ⟨[],H,I, .nil,h⟩
theorem zPk{X:Cx}{pos:Pos}{k v:Expr}{ks:List (Option Expr)}{vs:List Expr}{tk tv:TE}{trs:List (TE×TE)}(hk:PE X k tk)(hv:PE X v tv)(hr:PPs X pos ks vs trs):
  PPs X pos (some k::ks) (v::vs) ((tk,tv)::trs):=fun pins s σ H Q I h=>
 pairTrees_cons_walk (thn (hk pins s σ H _ I h) fun u s1 ⟨x,H1,I1,rx,q1⟩=>thn (hv pins s1 σ H1 _ I1 q1) fun w2 s2 ⟨y,H2,I2,ry,q2⟩=>
  thn (hr pins s2 σ H2 _ I2 q2) fun ws s3 ⟨ps,H3,I3,rel,q3⟩=>⟨(x,y)::ps,H3,I3, .cons ⟨rx,ry⟩ rel,q3⟩)
def wZ(kvs more:List (Key×V)):List (Key×V):=more.foldl (fun acc kv=>yY acc kv.1 kv.2) kvs
theorem KV.merge:∀{more:List (Key×V)}{rs:List (Key×Value)}{kvs:List (Key×V)}{vs:List (Key×Value)},KV more rs→KV kvs vs→KV (wZ kvs more) (merged vs rs):=by
 intro more rs kvs vs r;unfold KV at r
 induction r generalizing kvs vs with
 | nil=>intro q;exact q
 | @cons p q ps qs h t ih=>
  intro r0;have e:KV (yY kvs p.1 p.2) (stored vs q.1 q.2):=by
   have:=r0.put p.1 h.2;rw[←h.1];exact this
  exact ih e
theorem jM:∀(more kvs:List (Key×V)),(wZ kvs more).length≤kvs.length+more.length
 | [],kvs=>by show kvs.length≤kvs.length+0;lia
 | p::r,kvs=>by
  have h1:=jM r (yY kvs p.1 p.2);have h2:=kQ kvs p.1 p.2;show(wZ (yY kvs p.1 p.2) r).length≤_;rw[nG];lia
theorem zDe{P:Program}{w:World}:∀{kvs:List (Key×V)}{ws:List (Value×Value)},VV (kvs.map fun kv=>(kV kv.1,kv.2)) ws→∃rs,Carries (yO P w) ws rs∧KV kvs rs
 | [],_,r=>by rw[sQ] at r;cases r;exact⟨[],mH, .nil⟩
 | p::kvs,_,r=>by
  rw[mU] at r
  cases r with
  | @cons a b as bs h t=>
   obtain⟨rs,c,q⟩:=zDe (P:=P) (w:=w) t;obtain⟨b1,b2⟩:=b;exact⟨(p.1,b2)::rs,⟨zBw h.1,rfl,c⟩, .cons ⟨rfl,h.2⟩ q⟩
def zTv(trs:List (TE×TE)):TE:=fun σ H Q=>∀p,H p=none→zDm trs σ (upd H p (.dK [])) fun ps H2=>H2 p=some (.dK [])∧∃kvs:List (Key×V),ps=kvs.map (fun kv=>(kV kv.1,kv.2))∧kvs.length≤15∧Q (.ref p) (upd H2 p (.dK (wZ [] kvs)))
theorem zXb{X:Cx}{pos:Pos}{keys:List (Option Expr)}{values:List Expr}{trs:List (TE×TE)}(h:PPs X pos keys values trs)(hall:keys.all (·.isSome)=true)(hl:keys.length=values.length)(h0:keys≠ [])
  (h15:keys.length≤15):PE X (.Dict keys values pos) (zTv trs):=by
 intro pins s σ H Q I q;have hn:=I.hok.fresh (mE s.heap.objs.size);have I1:=I.laid (a:=s.heap.objs.size) (o:=.dK []) (h':=s.heap.push {cls:=.type "dict",data:=.dict #[]}) (t':=s.toks) (fun _ _ q=>mN _ q) (mE _) (zJc s.heap I.big);refine wpAny_Dict_walk (knd:=yO X.prog X.w) hall hl h0 h15 (thn (h pins _ σ _ _ I1 (q _ hn)) fun ws s2 ⟨ps,H2,I2,rel,e,kvs,ep,lk,q2⟩=>?_);subst ep;obtain⟨rs,c,rk⟩:=zDe (P:=X.prog) (w:=X.w) rel;obtain⟨z,hd,vs0,r0,dd⟩:=zPx I2.hok e;cases r0;refine⟨rs,c,dd,fun h' dd' hs=>⟨.ref s.heap.objs.size,_, ?_,rfl,q2⟩⟩;have hz:(wZ [] kvs).length≤sizeLine:=by
  have h1:=jM kvs [];rw[pF] at h1;rw[mR];lia
 have he:∃q,h'.get? s.heap.objs.size=some q:=let ⟨q,_,_,hq,_⟩:=dd';⟨q,hq⟩;exact zCk I2 (by rw[e];exact mH) hs he (zGi hz hd (rk.merge .nil) dd')
structure M1(X:Cx)(o:Expr)(m:Str)(apos:Pos)(e:Expr)(cpos:Pos):Prop where
 base:attributeBase o m X.env (eval o X.env)=eval o X.env
 few:((backTo cpos (starEach [e] X.env)).all (fun x=>!x.1)&& (backToKw cpos (keywordEach [] X.env)).all (fun x=>x.1.isSome)
  && decide (([e]:List Expr).length+([]:List Keyword).length+(if([]:List Keyword).isEmpty then 0 else 1)<30))=true
 line:(apos.endLine==cpos.line)=true
 trees:backTo cpos (starEach [e] X.env)= [(false,eval e X.env)]
structure M2(X:Cx)(o:Expr)(m:Str)(apos:Pos)(e f:Expr)(cpos:Pos):Prop where
 base:attributeBase o m X.env (eval o X.env)=eval o X.env
 few:((backTo cpos (starEach [e,f] X.env)).all (fun x=>!x.1)&& (backToKw cpos (keywordEach [] X.env)).all (fun x=>x.1.isSome)
  && decide (([e,f]:List Expr).length+([]:List Keyword).length+(if([]:List Keyword).isEmpty then 0 else 1)<30))=true
 line:(apos.endLine==cpos.line)=true
 trees:backTo cpos (starEach [e,f] X.env)= [(false,eval e X.env),(false,eval f X.env)]
def IsD(H:Hp)(a:Addr):Prop:=(∃kvs,Rd H a (.dK kvs))∨∃kvs,Rd H a (.dT kvs)
theorem yAc{X:Cx}{pins:List (Addr×Obj)}{σ:St}{H:Hp}{s:Shared}{a:Addr}(I:Inv X pins σ H s)(d:IsD H a):
  s.TypeIs (.ref a) "dict"∧(∀b,Value.ref a= .ref b→∃ob,s.heap.get? b=some ob∧ob.dict=none)∧(a==sysModules)=false:=by
 rcases d with⟨kvs,e⟩|⟨kvs,e⟩
 ·obtain⟨_,hd,vs,_,dd⟩:=jK I.hok e
  refine⟨dd.typeIs,fun b q=>?_,hd⟩;cases q;obtain⟨ob,_,_,h1,h2,_⟩:=dd;exact⟨ob,h1,h2.2.1⟩
 ·obtain⟨_,hd,xs,_,dd⟩:=zFe I.hok e
  refine⟨dd.typeIs,fun b q=>?_,hd⟩;cases q;obtain⟨ob,_,_,h1,h2,_⟩:=dd;exact⟨ob,h1,h2.2.1⟩
section
variable{X:Cx}{pins:List (Addr×Obj)}{σ:St}{H:Hp}{s:Shared}{a:Addr}{y d:V}{u r:Value}{o:Option V}{A:Around}{E:Value→Shared→Prop}
end
def yAu(td ty:TE):TE:=fun σ H Q=>td σ H fun x H1=>∃a,x= .ref a∧IsD H1 a∧ty σ H1 fun y H2=>∃kvs k v,H2 a=some (.dK kvs)∧y=kV k∧wR kvs k=some v∧Q v (upd H2 a (.dK (dropK kvs k)))
section
variable{X:Cx}{o e f:Expr}{apos cpos:Pos}{td ty tx:TE}
theorem zQz(ho:PE X o td)(he:PE X e ty)(m:M1 X o "pop" apos e cpos):PE X (.Call (.Attribute o "pop" apos) [e] [] cpos) (yAu td ty):=by
 intro pins s σ H Q I h;refine wpAny_Call_method m.base m.few m.line sZ PySem.F.slot_dict_pop PySem.F.type_dict_pop (thn (ho pins s σ H _ I h) fun u s1 ⟨x,H1,I1,rx,a,ex,d,q1⟩=>?_);subst ex;obtain rfl:u=Value.ref a:=rx;obtain⟨t1,t2,_⟩:=yAc I1 d;refine⟨t1,t2, ?_⟩;rw[m.trees];refine aY rfl (Calls.evalArgs_plain (Calls.spliced_cons (thn (he pins s1 σ H1 _ I1 q1) fun iv s2 ⟨y,H2,I2,ry,kvs,k,v,ea,ey,l,q2⟩=>Calls.spliced_nil ?_)));subst ey;exact d_pop I2 ea ry l (.inl rfl) fun w' s3 I3 rw'=>⟨v,_,I3,rw',q2⟩
end
section
variable{X:Cx}{pins:List (Addr×Obj)}{σ:St}{H:Hp}{s:Shared}{a:Addr}{kvs:List (Key×V)}{A:Around}{E:Value→Shared→Prop}
end
section
variable{X:Cx}{pins:List (Addr×Obj)}{σ:St}{H:Hp}{s:Shared}{a:Addr}{y:V}{u:Value}{A:Around}{E:Value→Shared→Prop}
end
end L2
namespace Att
open PySem PySem.W PySem.Calls PyProof.Rows
theorem zCe{P:Params}{h:Heap}:∀(ns:List Int)(vs:List Value),WellAll P h vs (ns.map WData.int)→IntsAre vs ns:=by
 intro ns
 induction ns with
 | nil=>
  intro vs w;rw[List.map_nil] at w;cases w;exact .nil
 | cons n ns ih=>
  intro vs w;rw[List.map_cons] at w
  cases w with
  | cons a b=>
   cases a;exact .cons _ _ (ih _ b)
theorem zMz{l:OpenLaw}{n:Nat}(hn:l.most=some n){P:Params}{h:Heap}{args:List WData}{vals:List Value}
  (hpre:l.row.toRowW.claim.pre args=true) (hwl:WellAll P h vals args):
  ∃a vs ns,vals= [Value.ref a]∧args= [WData.list (ns.map WData.int)]∧h.get? a=some {cls:=.type "list",data:=.seq vs.toArray}∧IntsAre vs ns∧ns.length≤n:=by
 have hsh:WShape.hasAll [] args [.list .int]=true:=(pre_splitW hpre).1;have hc:l.pre.holds [] {args:=args}=true:=(pre_splitW hpre).2;obtain⟨d,r,rfl,h1,h2⟩:=hasAllW_cons hsh;obtain rfl:=hasAllW_nil h2;obtain⟨xs,rfl,h3⟩:=hasW_list h1;obtain⟨ns,rfl⟩:=items_int h3;have hlen:ns.length≤n:=by
  unfold OpenLaw.pre at hc;have h4:(WTm.not (.lt (.lit (.int (n:Int))) (.len (.arg 0)))).holds [] {args:=[.list (ns.map .int)]}=true:=by
   have h4:=(holds_andW hc).1;rw[hn] at h4;exact h4
  have h5:=condW_of h4 (w_not (w_lt w_lit (w_len_list (w_arg rfl))));rw[List.length_map] at h5;refine Nat.le_of_not_lt fun q=>?_;have q':(n:Int)<((ns.length:Nat):Int):=by lia
  first
   |(rw[decide_eq_true q'] at h5;exact absurd h5 (by decide))
   |(simp at h5;lia)
 cases hwl with
 | cons w1 w2=>
  cases w2
  cases w1 with
  | list ho hall=>exact⟨_,_,ns,rfl,rfl,ho,zCe ns _ hall,hlen⟩
theorem zOg(l:OpenLaw)(args:List WData):l.row.toRowW.claim.post args (.bool true) args=true:=
 postW_of (r:=l.row.toRowW) (X:=(true==true))
  (show WShape.has [] (.bool true) .bool=true by first | rfl | decide | simp[WShape.has,WShape.arms,WShape.armsAll])
  (show(WTm.eq .res (.lit (.bool true))).value [] {args:=args,res:=some (.bool true),after:=args}=some (.bool (true==true)) from w_eq_bool (w_res rfl) w_lit) rfl
theorem attach_call{l:OpenLaw}{n:Nat}{q:Program}{loose:List Str}{XP:(Str→Option Value)→Heap→Prop}{YP:World→Heap→Prop}{d:DefRec}
  (hn:l.most=some n) (hdf:d.params.defaults= [])
  (call:∀(w:World)(s₀ s₁:Shared)(mg mb:Str→Option Value)(fa:Addr)(o:Obj)(pm cd doc:Value)(a:Addr)(vs:List Value)(ns:List Int),
   Ground q loose [] XP w s₀ mg mb s₁.heap→YP w s₁.heap→
   s₁.heap.get? fa=some o→o.data= .func (docDef d.name d.params d.body d.scope pm cd doc)→s₁.heap.CodeRec cd d.name→mg d.name=some (.ref fa)→
   s₁.heap.get? a=some {cls:=.type "list",data:=.seq vs.toArray}→IntsAre vs ns→ns.length≤n→s₁.gens= #[]→
   codeAny (model l.prog w) callerA (.call (.ref fa) ⟨[.ref a],[]⟩) (fun r s'=>r= .ok (.ret (.bool true))∧OldK s₁.heap s'.heap∧s'.os=s₁.os∧AllBare s'.gens) s₁):
  WalkO q loose XP YP l.row.toRowW d [] (fun f vs=>PySem.call f vs):=by
 intro w s₀ s₁ mg mb G Y fa o pm cd doc dV kV ho hd hcd hD hmg hg args vals as hpre hlay hrd hwl hlo;obtain rfl:dV= .none:=Dflts.none hD hdf;obtain rfl:kV= .none:=Dflts.noKw hD;obtain⟨a,vs,ns,rfl,rfl,hobj,hints,hlen⟩:=zMz hn hpre hwl;refine enter_call (codeAny_mono (call w s₀ s₁ mg mb fa o pm cd doc a vs ns G Y ho (fd_plain hd) hcd hmg hobj hints hlen hg) fun r s' hq=>?_);obtain⟨rfl,h2,h3,h4⟩:=hq;exact⟨.inl ⟨.bool true, .bool true,[],rfl,fun _=>rfl, .bool true,zOg l _,fun _=>⟨List.Pairwise.nil,fun _ hm=>(nomatch hm)⟩⟩,h2,h3,h4⟩
section
variable{prog:Program}{w:World}{A:Around}{E:Value→Shared→Prop}{s:Shared}{K:Frag}
end
end Att
namespace L2
open PySem PySem.Spec PyProof.Rows
theorem zGa:∀{vs:List Value}{ns:List Int},IntsAre vs ns→Vals (ns.map V.int) vs
 | _,_, .nil=>.nil
 | _,_, .cons n t h=>.cons ⟨t,rfl⟩ (zGa h)
def zRz(H:Hp):Prop:=∀b,H b=none∨∃o xs,H b=some (.frz o (.lst xs))
theorem zSj{P:Program}{w:World}{K:W.Frag}{mg mb:Str→Option Value}{CX:CXT}{k:Nat}{fa a:Addr}{fd:FuncData}{x:Str}{sp:Sp}{s₁:Shared}{vs:List Value}{ns:List Int}
  (KX:K.In s₁.heap) (hns:s₁.heap.Ns mainGlobals mg) (hb:s₁.heap.Ns builtinsNs mb) (hbb:∀x:Str,x≠ "__name__"→mb x=bootBuiltins x) (hlim:s₁.heap.NoLimit) (hg:s₁.gens= #[])
  (ha:s₁.heap.get? a=some {cls:=.type "list",data:=.seq vs.toArray}) (hi:IntsAre vs ns) (hl:ns.length≤sizeLine) (hr:Room k callerA)
  (F:∀base:Heap,K.In base→base.Ns mainGlobals mg→FnOk P w K mg base CX k fa fd [x] sp) (hbind:∀(s:Shared)(u:Value),BindsTo s fd ⟨[u],[]⟩ [(x,u)])
  (hsp:∀H:Hp,zRz H→SqL K H a (ns.map V.int)→sp [.ref a] H (fun v _=>v= .bl true) fun _ _ _=>False)
  (hCX:∀H e s',CX [] H s₁ (fun _ _ _=>False) e s'→False):
  codeAny (model P w) callerA (.call (.ref fa) ⟨[.ref a],[]⟩) (fun r s'=>r= .ok (.ret (.bool true))∧OldK s₁.heap s'.heap∧s'.os=s₁.os∧AllBare s'.gens) s₁:=by
 have rv:=zGa hi;have lenV:=hi.length
 -- from an abstract heap in which nothing but the script may be tracked
 have core:∀H:Hp,zRz H→SqL K H a (ns.map V.int)→HOk P w H s₁.heap→(∀b,H b≠none→b=a)→(H a≠none→K.lookup a=none)→
   codeAny (model P w) callerA (.call (.ref fa) ⟨[.ref a],[]⟩) (fun r s'=>r= .ok (.ret (.bool true))∧OldK s₁.heap s'.heap∧s'.os=s₁.os∧AllBare s'.gens) s₁:=by
  intro H hO hS hok hA hK;have base_of:∀{b:Addr}{o:Obj},s₁.heap.get? b=some o→H b=none→(zHj s₁.heap H).get? b=some o:=fun e n=>zQo e n;have noA:∀{b:Addr}{o:Obj}{es:Array DictEntry}{ep:Nat},s₁.heap.get? b=some o→o.data= .dict es ep→H b=none:=fun {b o es ep} e d=>by
   cases q:H b with
   | none=>rfl
   | some u=>
    have e':b=a:=hA b (by rw[q];simp);subst e';rw[ha] at e;cases e;have d':Data.seq vs.toArray _=Data.dict es ep:=d;cases d'
  have nsK:∀{b:Addr}{m:Str→Option Value},s₁.heap.Ns b m→(zHj s₁.heap H).Ns b m:=fun {b m} ⟨o,es,ep,e,d,r⟩=>⟨o,es,ep,base_of e (noA e d),d,r⟩;have hKb:K.In (zHj s₁.heap H):=fun b o e=>base_of (KX b o e) (by
   cases q:H b with
   | none=>rfl
   | some u=>
    have e':b=a:=hA b (by rw[q];simp);subst e';rw[hK (by rw[q];simp)] at e;cases e)
  have hM:Mod K mg (zHj s₁.heap H):=⟨hKb,nsK hns,⟨mb,nsK hb,hbb⟩,let ⟨mc,h1,h2⟩:=hlim;⟨mc,nsK h1,h2⟩⟩;have e0:Env0 P w K mg (zHj s₁.heap H) callerA [] s₁ H:=⟨rfl,hM,fun b o e=>zVm e,Nat.le_of_eq (zOe _ _),trivial,fun b hb=>absurd (show b∈([]:List Addr) from hb) (by simp),hok, .of_eq hg⟩;refine aG ((F _ hKb (nsK hns)).run callerA [] s₁ H ⟨[.ref a],[]⟩ [.ref a] [.ref a] _ _ hr e0 (hbind s₁ (.ref a)) (.cons rfl .nil) (hsp H hO hS)) fun r s' h=>?_
  cases r with
  | error e=>exact(hCX H e s' h).elim
  | ok fl=>
   cases fl with
   | next=>exact False.elim h
   | brk=>exact False.elim h
   | cont=>exact False.elim h
   | ret u=>
    obtain⟨v,H',os,bare,un,hok',r',q⟩:=h;have q':v= .bl true:=q;subst q';obtain rfl:u=Value.bool true:=r';refine⟨rfl,OldK.of_keep fun b o e=>?_,os,bare⟩
    cases q:H b with
    | none=>exact un.keep b o e q (by intro z;exact absurd (show b∈([]:List Addr) from z) (by simp)) (by simp)
    | some u=>
     rcases hO b with z |⟨ob,xs,z⟩
     ·rw[q] at z;cases z
     ·have z2:=un.frzs b ob _ z
      obtain⟨e1,_⟩:=hok b _ z;obtain⟨e2,_⟩:=hok' b _ z2;rw[e] at e1;cases e1;exact e2
 cases hk:K.lookup a with
 | some o=>
  -- the script is one of the module's own objects
  have e:=KX a o hk;rw[ha] at e;cases e;refine core (fun _=>none) (fun _=>.inl rfl) (.inr ⟨_,vs.toArray,_,hk,rfl,rfl,rfl,by rw[mZ,lenV];exact hl,by simpa using rv⟩) (fun b u z=>by have z':(none:Option HO)=some u:=z;cases z') (fun b z=>absurd rfl z) fun z=>absurd rfl z
 | none=>
  refine core (fun b=>if b=a then some (.frz {cls:=.type "list",data:=.seq vs.toArray} (.lst (ns.map V.int))) else none) (fun b=>?_) (.inl (.inr ⟨{cls:=.type "list",data:=.seq vs.toArray},mK rfl⟩)) (fun b u z=>?_) (fun b z=>?_) fun _=>hk
  ·by_cases hb:b=a
   ·exact .inr ⟨_,_,mK hb⟩
   ·exact .inl (mG hb)
  ·by_cases hb:b=a
   ·have z':=(mK hb).symm.trans z
    cases z';subst hb;exact⟨ha,by rw[mI];exact hl,vs,_,rv,ha⟩
   ·have z':=(mG hb).symm.trans z
    cases z'
  ·by_cases hb:b=a
   ·exact hb
   ·exact absurd (mG hb) z
abbrev KOf{K:W.Frag}{h:Heap}(_:K.In h):W.Frag:=K
theorem zMv{l:W.OpenLaw}{n k:Nat}{q:Program}{loose:List Str}{XP:(Str→Option Value)→Heap→Prop}{YP:World→Heap→Prop}{d:DefRec}{K:Params→W.Frag}{CX:World→CXT}{sp:World→Sp}{x:Str}
  (hn:l.most=some n) (hn2:n≤sizeLine) (hdf:d.params.defaults= []) (hr:Room k callerA)
  (hY:∀(w:World)(h:Heap),YP w h→(K w.params).In h)
  (F:∀(w:World)(mg:Str→Option Value)(fa:Addr)(h:Heap),(K w.params).In h→h.Ns mainGlobals mg→mg d.name=some (.ref fa)→
   ∃fd:FuncData,(∀(s:Shared)(u:Value),BindsTo s fd ⟨[u],[]⟩ [(x,u)])∧
    ∀base:Heap,(K w.params).In base→base.Ns mainGlobals mg→FnOk l.prog w (K w.params) mg base (CX w) k fa fd [x] (sp w))
  (hsp:∀(w:World)(H:Hp)(a:Addr)(ns:List Int),ns.length≤n→zRz H→SqL (K w.params) H a (ns.map V.int)→sp w [.ref a] H (fun v _=>v= .bl true) fun _ _ _=>False)
  (hCX:∀(w:World)(H:Hp)(s:Shared)(e:Value)(s':Shared),CX w [] H s (fun _ _ _=>False) e s'→False):
  W.WalkO q loose XP YP l.row.toRowW d [] (fun f vs=>PySem.call f vs):=by
 refine Att.attach_call hn hdf fun w s₀ s₁ mg mb fa o pm cd doc a vs ns G Y ho hd hcd hmg hobj hints hlen hg=>?_;have KX:=hY w _ Y;obtain⟨fd,hb,hF⟩:=F w mg fa _ KX G.T.g hmg;exact zSj KX G.T.g G.T.b G.T.builtins G.T.nolimit hg hobj hints (nN hlen hn2) hr hF hb (fun H hO hS=>hsp w H a ns hlen hO hS) fun H e s'=>hCX w H s₁ e s'
end L2
/- THE LAST THEOREM (shape;LID,My.*are yours):
   My.Adr:a structure of the addresses that your layer names (classes,functions);My.Txt K t:a structure (Prop) of the equations over K;
   My.txt_mk:{K} {implicit addresses ..} (e1:nsIn K mainGlobals "law" =some (some (.ref f))) (e2:K.lookup f=some ⟨oc,od, .func (fnOf "law" "law" params body scope dV kV doc pm an cdv ct),sl⟩) (e3:codeIn K cdv "law" =true) .. :∃t,My.Txt K t
set_option maxRecDepth 100000 in
set_option maxHeartbeats 0 in
theorem PySem.Challenge.cw_LID_holds : PySem.Challenge.rw_LID.Holds := by
  w_on;o_law;k_head;(case hw=>w_witness2)
  k_fill
  refine L2.zMv (l:=PySem.Challenge.rw_LID) (n:=63) (k:=40) (x:="script") (CX:=fun w=>..) (sp:=fun _=>My.sp_law) rfl (by decide) rfl ⟨rfl,by decide,by decide⟩ (fun w h Y=>PySem.W.kIn_of Y) ?F ?S ?C
  case F=>
    intro w mg fa h KX G hmg;have T:∃t,My.Txt (L2.KOf KX) t:=by
      dsimp only[L2.KOf]                          -- K must stand as «<heap const>w.params» for k_is;refine' My.txt_mk ?e1 ?e2 ?e3 ..
      (case e1=>PySem.W.k_is)                    -- in the order:a name ->its address ->its object ->its parts
      (case e2=>PySem.W.k_is)
      ..
    obtain⟨t,T⟩:=T;have e0:=hmg.symm.trans (PySem.W.mg_of KX G T.law);cases e0                                       -- fa is the law's own address;exact⟨_,fun s u=>.of_eq rfl,fun base kb nb=>My.law_fn T kb nb⟩     -- if «.of_eq rfl» comes too early:refine' ⟨_, ?b,fun base kb nb=>My.law_fn T kb nb⟩;exact fun s u=>.of_eq rfl
  case S=>exact fun w H a ns hl hO hS=>..
  case C=>exact ..
(the tactic k_is has no namespace:write k_is)-/
namespace L2
open PySem PySem.Spec PyProof.Rows
def zQ(s:Stmt):Arguments:=match s with
 | .FunctionDef _ a _ _ _ _ _ _ _ _=>a
 | _=>{posonlyargs:=[],args:=[],vararg:=none,kwonlyargs:=[],kw_defaults:=[],kwarg:=none,defaults:=[]}
def zP(s:Stmt):List Stmt:=match s with
 | .FunctionDef _ _ b _ _ _ _ _ _ _=>b
 | _=>[]
def zH(s:Stmt):Scope:=match s with
 | .FunctionDef _ _ _ _ _ _ sc _ _ _=>sc
 | _=>{kind:=.function,names:=[],isGenerator:=false,isCoroutine:=false}
abbrev CX0:CXT:=fun _ _ _ _ _ _=>False
abbrev E0:XK:=fun _ _ _=>False
theorem zXs{X:Cx}:kZ CX0 X E0:=fun _ _ _ _ _ _ _ h=>h.elim
structure Fun(K:W.Frag)(x qual:Str)(st:Stmt)(f:Addr)(fd:FuncData):Prop where
 ex:∃(oc:Value)(od:Option Addr)(kV doc pm:Value)(an:Option Addr)(cdv ct:Value)(osl:Array (Option Value)),
  fd=W.fnOf x qual (zQ st) (zP st) (zH st) .none kV doc pm an cdv ct∧K.lookup f=some ⟨oc,od, .func fd,osl⟩∧W.codeIn K cdv qual=true
 kp:W.keepIn K (.ref f)=true
section
variable{P:Program}{w:World}{K:W.Frag}{mg:Str→Option Value}{base:Heap}
theorem Fun.ok{x qual:Str}{st:Stmt}{f:Addr}{fd:FuncData}{N ps:List Str}{k:Nat}{sp:Sp}(F:Fun K x qual st f fd)(S:zV N ps (zH st))(len:∀vs H Q E,sp vs H Q E→vs.length=ps.length)
  (hbody:∀(cdv:Value)(A:Around)(outer:List Env)(s:Shared)(H:Hp)(vs:List V)(Q:VK)(E:XK),Room k (A.deeper (envOfC qual (zH st) s.heap.objs.size f cdv))→sp vs H Q E→
   ∃t,PSs (zCf CX0 P w K mg base N qual (zH st) f cdv A outer s H E).nox (zP st) t∧t {nx:=fun _ H'=>Q .non H',rt:=Q} (qO N vs) H):FnOk P w K mg base CX0 (k+1) f fd ps sp:=by
 obtain⟨oc,od,kV,doc,pm,an,cdv,ct,osl,rfl,lk,hcd⟩:=F.ex;refine zLt lk hcd S len fun A outer s H vs Q E hr hsp=>?_;obtain⟨t,h,q⟩:=hbody cdv A outer s H vs Q E hr hsp;exact⟨t,h.nox,q⟩
theorem Fun.binds{x qual:Str}{st:Stmt}{f:Addr}{fd:FuncData}{ps:List Str}(F:Fun K x qual st f fd)
  (h:∀(kV doc pm:Value)(an:Option Addr)(cdv ct:Value)(us:List Value),us.length=ps.length→bindArgs (W.fnOf x qual (zQ st) (zP st) (zH st) .none kV doc pm an cdv ct) ⟨us,[]⟩=pure (ps.zip us)):Binds K fd ps []:=by
 obtain⟨oc,od,kV,doc,pm,an,cdv,ct,osl,rfl,lk,hcd⟩:=F.ex;exact .all (h kV doc pm an cdv ct)
theorem yD{x qual:Str}{st:Stmt}{f:Addr}{oc:Value}{od an:Option Addr}{osl:Array (Option Value)}{kV doc pm cdv ct:Value}(l:K.lookup f=some ⟨oc,od, .func (W.fnOf x qual (zQ st) (zP st) (zH st) .none kV doc pm an cdv ct),osl⟩)
  (c:W.codeIn K cdv qual=true) (k:W.keepIn K (.ref f)=true):Fun K x qual st f (W.fnOf x qual (zQ st) (zP st) (zH st) .none kV doc pm an cdv ct):=⟨⟨oc,od,kV,doc,pm,an,cdv,ct,osl,rfl,l,c⟩,k⟩
end
theorem vK{A:Around}{k:Nat}(hr:Room k A):A.units+1<cLine:=cW (Nat.add_le_add_left (by decide:1≤64) _) hr.units
section
variable{X:Cx}
theorem pv(i:Nat){x:Str}{pos:Pos}(hN:X.N[i]? =some x:=by rfl)(hv:Vis X.env.scope x:=by first | exact nR rfl | exact cM (nR rfl)| exact cM (cM rfl))(hd:(x==("__debug__" :Str))=false:=by decide)
  (hcd:(x==("__classdict__" :Str))=false:=by decide):PE X (.Name x pos) (zIe i):=yBh hN hv hd hcd
theorem zJx{A B:Prop}(h:B):if false=true then A else B:=by
 rw[mG nA];exact h
theorem zYu{A B:Prop}(h:A):if true=true then A else B:=by
 rw[mK rfl];exact h
def Same(H H':Hp):Prop:=∀b o,H b=some o→H' b=some o
theorem Same.refl(H:Hp):Same H H:=fun _ _ h=>h
theorem Same.trans{H H1 H2:Hp}(a:Same H H1)(b:Same H1 H2):Same H H2:=fun c o h=>b c o (a c o h)
theorem Same.seq{K:W.Frag}{H H':Hp}{a:Addr}{xs:List V}(e:Same H H')(h:SqL K H a xs):SqL K H' a xs:=by
 rcases h with(h |⟨o,h⟩)| h
 ·exact .inl (.inl (e _ _ h))
 ·exact .inl (.inr ⟨o,e _ _ h⟩)
 ·exact .inr h
theorem zBg:xW X (.builtin "len") (fun xs H Q=>∃a kvs,xs= [V.ref a]∧H a=some (.dK kvs)∧Q (.int kvs.length) H):=by
 intro pins s σ H xs us Q I r h;obtain⟨a,kvs,rfl,ha,q⟩:=h;obtain⟨u,rfl,ru⟩:=vG r;cases ru;exact zXp I (.inl ha) fun t s' I'=>⟨.int kvs.length,H,I',⟨t,rfl⟩,q⟩
end
section
variable{κ:Type} [DecidableEq κ]
theorem zVw{kvs:List (κ×V)}{k:κ}{v:V}(h:wR kvs k=some v):k∈kvs.map (·.1):=by
 have q:(kvs.any fun kv=>decide (kv.1=k))=true:=by
  rw[qQ,h]
  all_goals rfl
 obtain⟨p,hp,e⟩:=aH.mp q;exact nP.mpr ⟨p,hp,dD e⟩
theorem zGn:∀{l:List κ}{k:κ},l.Nodup→¬k∈l→(l++ [k]).Nodup
 | [],k,_,_=>by simp
 | a::r,k,h,hk=>by
  obtain⟨h1,h2⟩:=nZ.mp h;show(a::(r++ [k])).Nodup;refine nZ.mpr ⟨fun m=>?_,zGn h2 fun m=>hk (mF.mpr (cM m))⟩;rcases mT.mp m with q | q
  ·exact h1 q
  ·exact hk (mF.mpr (nR (mO.mp q).symm))
end
abbrev ts(x:Str):List Nat:=x.cps.toList
abbrev tx(l:List Nat):Str:=⟨l.toArray⟩
theorem vE(l:List Nat):ts (tx l)=l:=rfl
theorem qC(x:Str):tx (ts x)=x:=by cases x;simp[tx,ts]
theorem zDc(x:Str):x.length=(ts x).length:=by simp[Str.length,ts]
theorem wN(l:List Nat):(tx l).length=l.length:=by simp[Str.length,tx]
theorem zCl{x y:Str}(h:ts x=ts y):x=y:=by rw[←qC x,←qC y,h]
theorem uX(a b:List Nat):tx a++tx b=tx (a++b):=by
 apply zCl;show(a.toArray++b.toArray).toList=a++b;simp
theorem zGd(xs:Array Nat):∀(k:Nat)(acc:Array Nat),((List.replicate k xs).foldl (· ++ ·) acc).toList=acc.toList++(List.replicate k xs.toList).flatten
 | 0,acc=>by simp
 | k+1,acc=>by
  rw[nS,aR,zGd xs k (acc++xs)];simp[nS]
theorem yCi(x:Str)(n:Int):Txt.mul x n=tx (List.replicate n.toNat (ts x)).flatten:=by
 apply zCl;rw[vE];unfold Txt.mul
 by_cases h1:n<1
 ·rw[mK h1]
  have e:n.toNat=0:=by lia
  rw[e];rfl
 ·rw[mG h1]
  by_cases h2:(n==1 || x.length==0)=true
  ·rw[mK h2]
   rcases(dQ _ _).mp h2 with h3 | h3
   ·have e:n=1:=by simpa using h3
    subst e;simp
   ·have e:x.length=0:=by simpa using h3
    rw[zDc] at e;have e2:ts x= []:=bA e;show ts x=_;rw[e2];simp
  ·rw[mG h2]
   show((List.replicate n.toNat x.cps).foldl (· ++ ·) #[]).toList=_;rw[zGd];simp
section
variable{X:Cx}
def zPz:R2:=fun x y H Q=>∃z n,x= .str z∧y= .int n∧z.length≤1000∧-1000≤n∧n≤1000∧Q (.str (tx (List.replicate n.toNat (ts z)).flatten)) H
theorem qZ:OpR X (binaryOp .Mult) zPz:=by
 intro pins s σ H x y v u Q I rx ry h;obtain⟨z,n,rfl,rfl,hz,h0,h1,q⟩:=h;obtain⟨t,rfl⟩:=rx;obtain⟨t',rfl⟩:=ry;refine SB.mul ⟨by rw[nE (by lia),nE (by lia)];rfl,fun a _ b=>?_,fun a _=>?_⟩ fun t' k=>⟨.str (Txt.mul z n),H,I.tok _,⟨_,rfl⟩,by rw[yCi];exact q⟩
 ·have h2:(9223372036854775:Int)≤(2 ^ 63 - 1:Int)/ n:=Int.le_ediv_of_mul_le (by lia) (by lia)
  lia
 ·unfold PySem.Builtin.Str.tooLong
  have e:z.length*n.toNat≤1000*1000:=Nat.mul_le_mul hz (by lia);exact nE (by rw[mR];lia)
theorem zKl{ys:List Str}:∀{us:List Value},Vals (ys.map V.str) us→StrsAre us ys:=by
 induction ys with
 | nil=>intro us r;rw[sQ] at r;cases r;exact .nil
 | cons n ns ih=>
  intro us r;rw[mU] at r
  cases r with
  | cons r1 r2=>
   obtain⟨t,e⟩:=r1;subst e;exact .cons n t (ih r2)
theorem zDj(g:Str):∀(ps:List Str)(acc:Array Nat),(ps.foldl (fun a p=>a++g.cps++p.cps) acc).toList=acc.toList++(ps.map fun p=>ts g++ts p).flatten
 | [],acc=>by simp
 | p::ps,acc=>by
  rw[aR,zDj g ps];simp
theorem zSd(ys:List Str):Txt.join (tx []) ys=tx (ys.map ts).flatten:=by
 apply zCl;show((ys.drop 1).foldl (fun acc p=>acc++(tx []).cps++p.cps) (ys.headD Str.empty).cps).toList=_;rw[zDj]
 cases ys with
 | nil=>rfl
 | cons y r=>
  show ts y++(List.map (fun p=>ts (tx [])++ts p) r).flatten=ts y++(List.map ts r).flatten;simp only[vE,tS]
def rJoin(K:W.Frag):V→List V→Hp→VK→Prop:=fun x vs H Q=>∃(p:Addr)(ys:List Str),x= .str (tx [])∧vs= [.ref p]∧SqL K H p (ys.map V.str)∧((ys.map ts).flatten).length≤100000∧Q (.str (tx (ys.map ts).flatten)) H
theorem zWk(ys:List Str):(ys.map (·.length)).sum=((ys.map ts).flatten).length:=by
 induction ys with
 | nil=>rfl
 | cons y r ih=>rw[mU,List.sum_cons,ih,mU,rO,mL,zDc]
theorem zLu:MtR X "str.join" (rJoin X.K):=by
 intro pins s σ H x vs v us Q I rx rv h;obtain⟨p,ys,rfl,rfl,hq,hz,q⟩:=h;obtain⟨t,rfl⟩:=rx;obtain⟨u,rfl,ru⟩:=rv.one;cases ru;obtain⟨its,r,pl,_⟩:=I.list hq;refine join_list (ys:=ys) pl.isList (by simpa using zKl r) ?_ fun t' k=>⟨.str (Txt.join (tx []) ys),H,I.tok _,⟨_,rfl⟩,by rw[zSd];exact q⟩;rw[zWk,show(tx []).length=0 from rfl,Nat.mul_zero]
 lia
theorem zJg(a b n:Nat):PySem.Builtin.Str.strSliceIndices (some (a:Int)) (some (b:Int)) 1 n=PySem.Builtin.Str.strSliceIndices (some ((min a n:Nat):Int)) (some ((min b n:Nat):Int)) 1 n:=by
 have h1:¬((a:Int)<0):=by lia
 have h2:¬((b:Int)<0):=by lia
 have h3:¬(((min a n:Nat):Int)<0):=by lia
 have h4:¬(((min b n:Nat):Int)<0):=by lia
 have e1:max (0:Int) (min (a:Int) (n:Int))=max (0:Int) (min ((min a n:Nat):Int) (n:Int)):=by lia
 have e2:max (0:Int) (min (b:Int) (n:Int))=max (0:Int) (min ((min b n:Nat):Int) (n:Int)):=by lia
 unfold PySem.Builtin.Str.strSliceIndices;simp only[h1,h2,h3,h4,dH,show((1:Int)>0)=True from by simp,dG];rw[e1,e2]
theorem zQl{a b n:Nat}(h:b<a)(hb:a≤n):PySem.Builtin.Str.strSliceIndices (some (a:Int)) (some (b:Int)) 1 n= []:=by
 have h1:¬((a:Int)<0):=by lia
 have h2:¬((b:Int)<0):=by lia
 have e1:max (0:Int) (min (a:Int) (n:Int))=a:=by lia
 have e2:max (0:Int) (min (b:Int) (n:Int))=b:=by lia
 have h3:¬((a:Int)<(b:Int)):=by lia
 simp only[PySem.Builtin.Str.strSliceIndices,PySem.sliceRange,h1,h2,dH,e1,e2,show((1:Int)>0)=True from by simp,dG,h3]
 rfl
theorem zWx{α:Type}(l:List α)(a b:Nat):(l.drop (min a l.length)).take (min b l.length - min a l.length)=(l.take b).drop a:=by
 rw[List.drop_take]
 by_cases ha:a≤l.length
 ·rw[tT ha]
  by_cases hb:b≤l.length
  ·rw[tT hb]
  ·rw[aI (by lia),pK (by rw[pU];lia),pK (by rw[pU];lia)]
 ·have e1:min a l.length=l.length:=aI (by lia)
  rw[e1,tJ (mE _),tJ (as:=l) (i:=a) (by lia),dB,dB]
theorem zOu(x:Str)(a b:Nat):Txt.slice x (some (a:Int)) (some (b:Int))=tx (((ts x).take b).drop a):=by
 have hl:x.length=(ts x).length:=zDc x
 by_cases h:min a x.length≤min b x.length
 ·have e:=StrLaws.sliceText_nat x h (Nat.min_le_right _ _)
  have e2:Txt.slice x (some (a:Int)) (some (b:Int))=StrLaws.sliceText x (some ((min a x.length:Nat):Int)) (some ((min b x.length:Nat):Int)):=by
   unfold Txt.slice StrLaws.sliceText;rw[zJg a b]
  rw[e2,e,hl,zWx]
 ·have h1:min b x.length=b:=by lia
  have h2:b<a:=by lia
  have e:PySem.Builtin.Str.strSliceIndices (some (a:Int)) (some (b:Int)) 1 x.length= []:=by
   rw[zJg a b,h1];exact zQl (by lia) (Nat.min_le_right _ _)
  unfold Txt.slice;rw[e,mG (by simp;lia)];apply zCl;rw[vE,tJ (by rw[nW];lia)]
  rfl
theorem zJo(x:Str)(j:Nat):Txt.slice x none (some (j:Int))=tx ((ts x).take j):=by
 have e:Txt.slice x none (some (j:Int))=Txt.slice x (some ((0:Nat):Int)) (some (j:Int)):=by
  unfold Txt.slice;rw[StrLaws.sliceIdx_none_lo];rfl
 rw[e,zOu,tF]
def rSlS:V→Option Int→Option Int→Hp→VK→Prop:=fun x lo hi H Q=>∃z,x= .str z∧z.length≤sizeLine∧Q (.str (Txt.slice z lo hi)) H
theorem yBg:SlR X rSlS:=by
 intro pins s σ H x v vl vu lo hi sl Q I rx hs pl pu h;obtain⟨z,rfl,hz,q⟩:=h;obtain⟨t,rfl⟩:=rx;refine⟨"str",_,F.slot_str_getitem.lookup,typeIs_str _ _ _, ?_⟩;have fin:∀t' k,EP X pins σ Q (.str (Txt.slice z lo hi) t') {s with toks:=k}:=fun t' k=>⟨.str (Txt.slice z lo hi),H,I.tok _,⟨_,rfl⟩,q⟩;obtain⟨o,ho,hc,hd⟩:=hs
 cases pl with
 | none=>
  cases pu with
  | none=>exact aN (l:=none) (u:=none) (st:=none) ⟨o,ho,hc,hd⟩ rfl (cN ⟨nN (dJ z _ _) hz,fin⟩)
  | int j uj=>exact aN (l:=none) (u:=some (j,uj)) (st:=none) ⟨o,ho,hc,hd⟩ rfl (cN ⟨nN (dJ z _ _) hz,fin⟩)
 | int i ui=>
  cases pu with
  | none=>exact aN (l:=some (i,ui)) (u:=none) (st:=none) ⟨o,ho,hc,hd⟩ rfl (cN ⟨nN (dJ z _ _) hz,fin⟩)
  | int j uj=>exact aN (l:=some (i,ui)) (u:=some (j,uj)) (st:=none) ⟨o,ho,hc,hd⟩ rfl (cN ⟨nN (dJ z _ _) hz,fin⟩)
def zZg(neg:Bool):R2:=fun x y H Q=>∃c j,x= .str (tx [c])∧y= .str j∧Q (.bl (if neg then !decide (c∈ts j) else decide (c∈ts j))) H
theorem zMg:OpR X (compareOp .In) (zZg false):=by
 intro pins s σ H x y v u Q I rx ry h;obtain⟨c,j,rfl,rfl,q⟩:=h;refine zOf pins s σ H _ _ v u Q I rx ry ⟨_,_,rfl,rfl, ?_⟩;have e:=StrLaws.found_one j c;rw[show(tx [c]:Str)=⟨#[c]⟩ from rfl,e];exact q
def Its(x:Str):It:=⟨fun i _=>i<(ts x).length,fun i H y H'=>H'=H∧∃c,(ts x)[i]? =some c∧y= .str (tx [c]),fun i _=>(ts x).length≤i⟩
theorem zQn{P:Program}{w:World}{K:W.Frag}{tg:Expr}(x:Str)(t:Tok)(it:Addr)(ty:String)(hty:ty= "str_ascii_iterator"∨ty= "str_iterator"):zGj P w K tg (Its x) [it] it (fun i h=>h.IsStrIter it ty x t i) where
 mem:=by simp
 obj:=fun i h st b hb=>by
  have e:b=it:=by simpa using hb
  subst e;obtain⟨o,e,c,d⟩:=st;exact⟨o,e,fun v z=>by rw[d] at z;cases z⟩
 keep:=fun i h h' st k=>by
  obtain⟨o,e,c,d⟩:=st;exact⟨o,k it (by simp) o e,c,d⟩
 item:=by
  intro X hP hw hK hc i pins s σ H E I hf st hg;subst hP hw hK;obtain⟨f0,f1,f2,f3,f4,f5⟩:=hf it (by simp);have hi:i<(ts x).length:=hg;have hx:x.cps[i]? =some (ts x)[i]:=by
   rw[←sJ];simp[hi]
  have fin:∀h',h'.IsStrIter it ty x t (i+1)→Heap.SameBut it s.heap h'→∃u,some (Value.str ⟨#[(ts x)[i]]⟩ s.toks)=some u∧
    wpAny (model X.prog X.w) X.A (letOwnedTupleGo tg (.ref it) u) (fun _ s2=>∃x' H',Inv X pins σ H' s2∧RelV x' u∧(Its x).yld i H x' H'∧s2.heap.IsStrIter it ty x t (i+1)∧∀b∈ [it],H' b=none) E {s with heap:=h',toks:=s.toks+1}:=fun h' st' sb=>by
   have I1:Inv X pins σ H {s with heap:=h',toks:=s.toks+1}:=I.turned (t':=s.toks+1) (fun b o hb e=>(sb.2 b hb).trans e) f0 f1 f3 f4 f5;obtain⟨o,e,c,d⟩:=id st';refine⟨_,rfl,zFt (s:={s with heap:=h',toks:=s.toks+1}) e c d ?_ ⟨.str (tx [(ts x)[i]]),H,I1,⟨_,rfl⟩,⟨rfl,_,by simp[hi],rfl⟩,st',fun b hb=>(hf b hb).1⟩⟩;rcases hty with z | z<;>(rw[z];decide)
  rcases hty with z | z
  ·subst z;exact wpAny_pyNext_ascii_item st hx fun h' st' sb=>fin h' st' sb
  ·subst z;exact wpAny_pyNext_wide_item st hx fun h' st' sb=>fin h' st' sb
 done:=by
  intro X hP hw hK hc i pins s σ H E I hf st hg;subst hP hw hK;obtain⟨f0,f1,f2,f3,f4,f5⟩:=hf it (by simp);have hi:(ts x).length≤i:=hg;have hx:x.cps[i]? =none:=by
   rw[←sJ];exact tU hi
  rcases hty with z | z
  ·subst z;exact wpAny_pyNext_ascii_end (I.ok.hd hc) st hx fun h' eb=>⟨rfl,I.turned (t':=s.toks) (fun b o hb e=>eb b o hb e) f0 f1 f3 f4 f5⟩
  ·subst z;exact wpAny_pyNext_wide_end (I.ok.hd hc) st hx fun h' eb=>⟨rfl,I.turned (t':=s.toks) (fun b o hb e=>eb b o hb e) f0 f1 f3 f4 f5⟩
 self:=fun _ _ _ _ _ st h=>by
  rcases hty with z | z
  ·subst z;exact wpAny_pyIter_striter_ascii st h
  ·subst z;exact wpAny_pyIter_striter_wide st h
def yAh(tl:TE):TI:=fun σ H R=>tl σ H fun x H1=>∃z,x= .str z∧R (Its z) H1
theorem zQc{tg l:Expr}{tl:TE}(hl:PE X l tl):PI X tg l (yAh tl):=by
 intro pins s σ H R I h;refine thn (hl pins s σ H _ I h) fun v s1 ⟨x,H1,I1,r1,q1⟩=>?_;obtain⟨z,rfl,q⟩:=q1;obtain⟨t,rfl⟩:=r1;have fin:∀ty,(ty= "str_ascii_iterator"∨ty= "str_iterator")→PIE X pins σ tg R (.ref s1.heap.objs.size) {s1 with heap:=s1.heap.push {cls:=.type ty,data:=.fields #[.str z t, .int 0 0]}}:=fun ty hty=>by
  refine⟨s1.heap.objs.size,[s1.heap.objs.size],_,_,H1,rfl,I1.kept (t':=s1.toks) fun b o e=>mN _ e,zQn z t _ ty hty,⟨_,nC _ rfl,rfl,rfl⟩,fun b hb=>?_,q⟩;have e:b=s1.heap.objs.size:=by simpa using hb
  subst e;exact I1.fpOk (mE _) (I1.hok.fresh (mE _))
 cases ha:z.cps.all (· <128) with
 | true=>exact wpAny_pyIter_ascii ha (fin _ (.inl rfl))
 | false=>exact wpAny_pyIter_wide ha (fin _ (.inr rfl))
theorem zJw{bs:List Bool}:∀{us:List Value},Vals (bs.map V.bl) us→PyProof.Rows.LSm.BoolsAre us bs:=by
 induction bs with
 | nil=>intro us r;rw[sQ] at r;cases r;exact .nil
 | cons n ns ih=>
  intro us r;rw[mU] at r
  cases r with
  | cons r1 r2=>
   cases (show _=Value.bool n from r1);exact .cons n (ih r2)
theorem vX(hc:X.calm=true):xW X (.builtin "all") (fun xs H Q=>∃(p:Addr)(bs:List Bool),xs= [.ref p]∧SqL X.K H p (bs.map V.bl)∧Q (.bl (bs.all id)) H):=by
 intro pins s σ H xs us Q I r h;obtain⟨p,bs,rfl,hq,q⟩:=h;obtain⟨u,rfl,rx⟩:=vG r;cases rx;obtain⟨its,rv,pl,hz⟩:=I.list hq;have hl:=pl.isList;have hb:=zJw rv;have hlt:p<s.heap.objs.size:=by obtain⟨_,e,_⟩:=hl;exact mY e
 refine call_all_walk (cC hl ?_);refine⟨s.heap.objs.size,[s.heap.objs.size,p],[s.heap.objs.size],its.toArray.size,_,_,fun i=>(bs[i]?).getD true,rfl,Walks.list (A:=X.A.in1) (I.ok.hd hc) _ p (nO hlt) its.toArray,
  ⟨⟨_,nC _ rfl,rfl,rfl⟩,hl.push _⟩,fun i v s' Q' E' hP hQ=>?_,fun h' tk hk=>?_⟩
 ·obtain⟨b,e,rfl⟩:=hb.get i v (by simpa using hP)
  simp only[e,Option.getD_some] at hQ;exact pZ hQ
 ·have e:((List.range its.toArray.size).all fun i=>(bs[i]?).getD true)=bs.all id:=by
   rw[mZ,hb.length];exact PyProof.Rows.LSm.range_all bs
  rw[e];exact⟨.bl _,H,I.kept (PyProof.Rows.LSm.kept_iter hk),rfl,q⟩
theorem zRr(hc:X.calm=true):xW X (.builtin "sum") (fun xs H Q=>∃(p:Addr)(ns:List Int),xs= [.ref p]∧SqL X.K H p (ns.map V.int)∧Q (.int ns.sum) H):=by
 intro pins s σ H xs us Q I r h;obtain⟨p,ns,rfl,hq,q⟩:=h;obtain⟨u,rfl,rx⟩:=vG r;cases rx;obtain⟨its,rv,pl,hz⟩:=I.list hq;have hi:=zLe rv;obtain⟨xs,hx⟩:=hi.allInts.items;have hl':s.heap.IsList p (intItems xs):=hx▸pl.isList;refine sum_intListG (I.ok.hd hc) hl' fun h' tk t' hk=>?_;have e1:ns=xs.toList.map (·.1):=by
  rw[←nums_intItems,←hx];exact(show numsOf its.toArray.toList=ns from hi.numsOf).symm
 have e2:preSum (numAt xs) xs.size=ns.sum:=by
  rw[preSum_eq,pK (by simp),e1]
 rw[e2];exact⟨.int _,H,I.kept hk,⟨_,rfl⟩,q⟩
def zEe:List V→List V→Bool
 | [],[]=>true
 | x::xs,y::ys=>eqV x y && zEe xs ys
 | _,_=>false
theorem zCs:∀(xs ys:List V),xs.length=ys.length→(List.range xs.length).all (fun j=>match xs[j]?,ys[j]? with | some a,some b=>eqV a b | _,_=>true)=zEe xs ys
 | [],[],_=>rfl
 | x::xs,y::ys,h=>by
  have ih:=zCs xs ys (by simpa using h);rw[nG,List.range_succ_eq_map,dA,tM];show(eqV x y && _)=(eqV x y && zEe xs ys);rw[←ih]
  congr 1
theorem zJh:∀{xs ys:List V},xs.length≠ys.length→zEe xs ys=false
 | [],[],h=>absurd rfl h
 | [],_::_,_=>rfl
 | _::_,[],_=>rfl
 | x::xs,y::ys,h=>by
  have ih:=zJh (xs:=xs) (ys:=ys) (by simpa using h);show(eqV x y && zEe xs ys)=false;rw[ih,aF]
def rEqL(K:W.Frag)(neg:Bool):R2:=fun x y H Q=>∃a b xs ys,x= .ref a∧y= .ref b∧SqL K H a xs∧SqL K H b ys∧xs.all vW=true∧ys.all vW=true∧Q (.bl (if neg then !zEe xs ys else zEe xs ys)) H
theorem Vals.some_at{xs:List V}{us:List Value}(r:Vals xs us){j:Nat}(h:j<us.length):∃x,xs[j]? =some x∧RelV x us[j]:=by
 have hl:=r.length;obtain⟨x,e⟩:∃x,xs[j]? =some x:=⟨xs[j],by simp[hl,h]⟩;obtain⟨u,hu,ru⟩:=r.get e;have e2:us[j]? =some us[j]:=by simp[h]
 rw[e2] at hu;cases hu;exact⟨x,e,ru⟩
theorem zTc{A:Around}{s:Shared}{xs ys:List V}{us ws:List Value}(r:Vals xs us)(q:Vals ys ws)(fx:xs.all vW=true)(fy:ys.all vW=true):
  ∀j(h1:j<us.toArray.size)(h2:j<ws.toArray.size),SeqAt.EqAt A s us.toArray[j] ws.toArray[j] ((fun j=>match xs[j]?,ys[j]? with | some a,some b=>eqV a b | _,_=>true) j):=fun j h1 h2=>by
 obtain⟨x,e1,r1⟩:=r.some_at (j:=j) (by simpa using h1);obtain⟨y,e2,r2⟩:=q.some_at (j:=j) (by simpa using h2);have f1:vW x=true:=pQ.mp fx x (mP e1);have f2:vW y=true:=pQ.mp fy y (mP e2);have z:=zRp (A:=A) (s:=s) r1 r2 f1 f2;simp only[e1,e2]
 simpa using z
theorem zWj(hu:X.A.units<cLine):OpR X (compareOp .NotEq) (rEqL X.K true):=by
 intro pins s σ H x y v u Q I rx ry h;obtain⟨a,b,xs,ys,rfl,rfl,ha,hb,fx,fy,q⟩:=h;cases rx;cases ry;obtain⟨its,r1,pl1,_⟩:=I.list ha;obtain⟨its2,r2,pl2,_⟩:=I.list hb;have l1:=r1.length;have l2:=r2.length
 by_cases e:xs.length=ys.length
 ·refine SeqAt.RcNeAt.lists pl1.isList pl2.isList (by simp only[mZ];lia) hu (zTc r1 r2 fx fy) X.prog X.w X.xe _ ⟨.bl _,H,I,rfl, ?_⟩
  rw[mZ,←l1,zCs xs ys e];exact q
 ·refine SeqAt.RcNeAt.lists_lengths pl1.isList pl2.isList (by simp only[mZ];simpa [←l1,←l2] using e) hu X.prog X.w X.xe _ ⟨.bl _,H,I,rfl, ?_⟩
  have z:=zJh e
  simpa [z] using q
def tyS(H:Hp):V→Option String
 | .non=>some "NoneType"
 | .bl _=>some "bool"
 | .int _=>some "int"
 | .str _=>some "str"
 | .ref a=>match H a with
  | some (.lst _)=>some "list"
  | some (.tup _)=>some "tuple"
  | some (.dK _)=>some "dict"
  | _=>none
 | _=>none
def zM(t T:String):Bool:=t==T ||(t== "bool" && T== "int")
theorem zSn{K:W.Frag}{H:Hp}{x:V}{t:String}(h:tyS H x=some t):zBf K H x (.type t):=by
 cases x with
 | non=>cases h;exact .non
 | bl b=>cases h;exact .bl b
 | int i=>cases h;exact .int i
 | str z=>cases h;exact .str z
 | ref a=>
  have h':(match H a with | some (.lst _)=>some "list" | some (.tup _)=>some "tuple" | some (.dK _)=>some "dict" | _=>none)=some t:=h
  cases e:H a with
  | none=>rw[e] at h';cases h'
  | some o=>
   rw[e] at h'
   cases o with
   | lst xs=>cases h';exact .lst e
   | tup xs=>cases h';exact .tup e
   | dK kvs=>cases h';exact .dK e
   | _=>cases h'
 | byt b=>cases h
 | flt b=>cases h
 | ty n=>cases h
def tyL:List String:=["NoneType","bool","int","str","list","tuple","dict"]
def kitB(t T:String):Option Bool:=if(Value.type t==Value.type T)=true then some true else if W.kitMeta T=true then(fastBuiltinMro t).map (·.contains (.type T)) else none
theorem zUv:(tyL.all fun t=>tyL.all fun T=>kitB t T==some (zM t T))=true:=by decide+kernel
theorem zBa{K:W.Frag}{t T:String}(h1:t∈tyL)(h2:T∈tyL):W.kitOne K (.type t) (.type T)=some (zM t T):=by
 have a:=pQ.mp (pQ.mp zUv t h1) T h2;have b:kitB t T=some (zM t T):=by simpa using a
 exact b
theorem vI{H:Hp}{x:V}{t:String}(h:tyS H x=some t):t∈tyL:=by
 cases x<;>first |(cases h;simp[tyL];done)|(cases h;done)| skip
 rename_i a;have h':(match H a with | some (.lst _)=>some "list" | some (.tup _)=>some "tuple" | some (.dK _)=>some "dict" | _=>none)=some t:=h
 split at h'<;>first |(cases h';simp[tyL];done)|(cases h';done)
theorem zVf{pins:List (Addr×Obj)}{σ:St}{H:Hp}{s:Shared}{x:V}{u:Value}{t:String}(I:Inv X pins σ H s)(rx:RelV x u)(h:tyS H x=some t):
  ∃φ:Heap→Prop,W.KitX X.K u (.type t) φ∧φ s.heap∧u≠ .builtin "__main__.__loader__#opaque":=by
 cases zSn (K:=X.K) h with
 | non=>cases (show u=Value.none from rx);exact⟨_,W.kitx_none,mH,fun z=>nomatch z⟩
 | bl y=>cases (show u=Value.bool y from rx);exact⟨_,W.kitx_bool,mH,fun z=>nomatch z⟩
 | int i=>obtain⟨t,q⟩:=(show∃t,u=Value.int i t from rx);cases q;exact⟨_,W.kitx_int,mH,fun z=>nomatch z⟩
 | str y=>obtain⟨t,q⟩:=(show∃t,u=Value.str y t from rx);cases q;exact⟨_,W.kitx_str,mH,fun z=>nomatch z⟩
 | flt y=>obtain⟨t,q⟩:=(show∃t,u=Value.float y t from rx);cases q;exact⟨_,W.kitx_float,mH,fun z=>nomatch z⟩
 | @lst a xs ea=>
  cases (show u=Value.ref a from rx);obtain⟨_,_,n,_,h1⟩:=(show ObjOk X.prog X.w H s.heap a (.lst xs) from I.hok a _ ea);exact⟨_,dU,⟨_,h1,rfl⟩,fun z=>nomatch z⟩
 | @frz a ob xs ea=>
  cases (show u=Value.ref a from rx);obtain⟨_,_,_,n,_,h1⟩:=(show ObjOk X.prog X.w H s.heap a (.frz ob (.lst xs)) from I.hok a _ ea);exact⟨_,dU,⟨_,h1,rfl⟩,fun z=>nomatch z⟩
 | @tup a xs ea=>
  cases (show u=Value.ref a from rx);obtain⟨_,_,_,p⟩:=(show ObjOk X.prog X.w H s.heap a (.tup xs) from I.hok a _ ea);obtain⟨o,h1,h2,_⟩:=p;exact⟨_,W.kitx_tuple,⟨o,h1,h2⟩,fun z=>nomatch z⟩
 | @dK a kvs ea=>
  cases (show u=Value.ref a from rx);obtain⟨_,_,vs,_,p⟩:=(show ObjOk X.prog X.w H s.heap a (.dK kvs) from I.hok a _ ea);obtain⟨o,es,ep,h1,h2,_⟩:=p;exact⟨_,cU,⟨o,h1,h2.1⟩,fun z=>nomatch z⟩
 | @dT a kvs ea=>
  cases (show u=Value.ref a from rx);obtain⟨_,_,xs,_,o,es,ep,h1,h2,_⟩:=(show ObjOk X.prog X.w H s.heap a (.dT kvs) from I.hok a _ ea);exact⟨_,cU,⟨o,h1,h2.1⟩,fun z=>nomatch z⟩
theorem vQ{T U:String}(hT:T∈tyL)(hU:U∈tyL):xW X (.builtin "isinstance") (fun xs H Q=>∃x t p,xs= [x, .ref p]∧H p=some (.tup [.ty T, .ty U])∧tyS H x=some t∧Q (.bl (zM t T || zM t U)) H):=by
 intro pins s σ H xs us Q I r h;obtain⟨x,t,p,rfl,hp,ht,q⟩:=h;obtain⟨u,w',rfl,ru,rw'⟩:=uM r;cases (show w'=Value.ref p from rw');obtain⟨φ,Z,hφ,hne⟩:=zVf I ru ht;obtain⟨_,its,rv,pl⟩:=(show ObjOk X.prog X.w H s.heap p (.tup [.ty T, .ty U]) from I.hok p _ hp);obtain⟨v1,v2,e,r1,r2⟩:=uM rv;subst e;cases (show v1=Value.type T from r1);cases (show v2=Value.type U from r2);obtain⟨o,ho,hc,n,hd⟩:=pl;obtain⟨oc,od,odt,osl⟩:=o;cases (show oc=Value.type "tuple" from hc);cases (show odt=Data.seq _ n from hd);refine W.kia_tup Z I.kIn hφ ho (b:=zM t T || zM t U) ?_ hne fun tk=>⟨.bl _,H,I.tok _,rfl,q⟩
 have k1:=zBa (K:=X.K) (vI ht) hT;have k2:=zBa (K:=X.K) (vI ht) hU;simp only[W.kitAny,k1,k2];cases zM t T<;>cases zM t U<;>rfl
theorem zDy{T:String}(hT:T∈tyL):xW X (.builtin "isinstance") (fun xs H Q=>∃x t,xs= [x, .ty T]∧tyS H x=some t∧Q (.bl (zM t T)) H):=by
 intro pins s σ H xs us Q I r h;obtain⟨x,t,rfl,ht,q⟩:=h;obtain⟨u,w',rfl,ru,rw'⟩:=uM r;cases (show w'=Value.type T from rw');exact zNf I ru (zSn ht) (zBa (vI ht) hT) fun tk=>⟨.bl _,H,I.tok _,rfl,q⟩
end
theorem xH:bootBuiltins "len" =some (.builtin "len"):=by decide+kernel
theorem zI:bootBuiltins "isinstance" =some (.builtin "isinstance"):=by decide+kernel
theorem gL:bootBuiltins "all" =some (.builtin "all"):=by decide+kernel
theorem zZt:bootBuiltins "sum" =some (.builtin "sum"):=by decide+kernel
theorem zZv:bootBuiltins "abs" =some (.builtin "abs"):=by decide+kernel
theorem yAp:bootBuiltins "ord" =some (.builtin "ord"):=by decide+kernel
theorem zTg:bootBuiltins "min" =some (.builtin "min"):=by decide+kernel
theorem zZc:bootBuiltins "max" =some (.builtin "max"):=by decide+kernel
theorem zEy:bootBuiltins "sorted" =some (.builtin "sorted"):=by decide+kernel
theorem gM:bootBuiltins "int" =some (.type "int"):=by decide+kernel
theorem qR:bootBuiltins "str" =some (.type "str"):=by decide+kernel
theorem uA:bootBuiltins "bool" =some (.type "bool"):=by decide+kernel
theorem yS:bootBuiltins "list" =some (.type "list"):=by decide+kernel
theorem yX:bootBuiltins "dict" =some (.type "dict"):=by decide+kernel
theorem wU:bootBuiltins "tuple" =some (.type "tuple"):=by decide+kernel
structure Bl(mg:Str→Option Value):Prop where
 len:mg "len" =none
 range:mg "range" =none
 isinstance:mg "isinstance" =none
 all:mg "all" =none
 sum:mg "sum" =none
 int:mg "int" =none
 str:mg "str" =none
 bool:mg "bool" =none
 list:mg "list" =none
 dict:mg "dict" =none
 tuple:mg "tuple" =none
structure Dn(P:Program)(w:World)(K:W.Frag)(mg:Str→Option Value)(base:Heap)(k:Nat)(x:Str)(ps:List Str)(sp:Sp):Prop where
 ex:∃(f:Addr)(fd:FuncData),FnOk P w K mg base CX0 k f fd ps sp∧Binds K fd ps []∧W.keepIn K (.ref f)=true∧mg x=some (.ref f)
section
variable{X:Cx}{k j:Nat}{x:Str}{ps:List Str}{sp:Sp}{e:Expr}{es:List Expr}{t:TA}{p pos:Pos}
theorem zU(D:Dn X.prog X.w X.K X.mg X.base k x ps sp)(hr:Room j X.A)(hj:k≤j)(hg:Gl X x)(ha:PA X (e::es) t)(hdb:(x==("__debug__" :Str))=false:=by decide)
  (he:starEach (e::es) X.env=(false,eval e X.env)::starEach es X.env:=by rfl) (hpl:(backTo pos (starEach es X.env)).any (·.1)=false:=by rfl):PE X (.Call (.Name x p) (e::es) [] pos) (jS sp [] E0 t):=by
 obtain⟨f,fd,h1,h2,h3,h4⟩:=D.ex;exact zCn h1 (hr.mono hj) hg h4 h3 h2 .nil zXs ha hdb he hpl
theorem zZo(D:Dn X.prog X.w X.K X.mg X.base k x ps sp)(hr:Room j X.A)(hj:k≤j)(hg:Gl X x)(hdb:(x==("__debug__" :Str))=false:=by decide):PE X (.Call (.Name x p) [] [] pos) (jS sp [] E0 zHl):=by
 obtain⟨f,fd,h1,h2,h3,h4⟩:=D.ex;exact zRf h1 (hr.mono hj) hg h4 h3 h2 .nil zXs hdb
end
theorem zLk{α β:Type}{l:List α}{f:α→β→Sem (ForInStep β)}(g:β→α→β)(h:∀x∈l,∀c,f x c=pure (.yield (g c x))):∀b:β,forIn l b f=pure (l.foldl g b):=by
 induction l with
 | nil=>intro b;rfl
 | cons a r ih=>
  intro b;rw[List.forIn_cons,h a mM];show forIn r (g b a) f=_;rw[ih (fun x hx=>h x (mJ _ hx)) (g b a)]
  rfl
def wV(env:Env)(cs:List (Str×Addr))(x:Str×NameKind):List (Str×Addr):=
 if(x.2==NameKind.free)=true then(match env.cells.lookup x.1 with | some a=>(x.1,a)::cs | none=>cs) else cs
def clo(env:Env)(names:List (Str×NameKind)):List (Str×Addr):=names.foldl (wV env) []
theorem kY{scope:Scope}{env:Env}(h:∀x∈scope.names,x.2= .free→∃c,env.cells.lookup x.1=some c):closureFor scope env=pure (clo env scope.names):=by
 simp only[closureFor];rw[zLk (wV env) (fun x hx c=>by
  obtain⟨n,k⟩:=x
  by_cases hk:k= .free
  ·subst hk
   obtain⟨a,e⟩:=h _ hx rfl;have e':env.cells.lookup n=some a:=e;simp[wV,cellOf,e']
  ·have e:(k==NameKind.free)=false:=by simpa using hk
   simp[wV,e])]
 rfl
theorem zMu{env:Env}:∀(names:List (Str×NameKind))(cs:List (Str×Addr)),(∀p∈cs,env.cells.lookup p.1=some p.2)→∀p∈names.foldl (wV env) cs,env.cells.lookup p.1=some p.2
 | [],_,h=>h
 | x::r,cs,h=>by
  refine zMu r (wV env cs x) fun p hp=>?_;unfold wV at hp;split at hp
  ·split at hp
   ·rename_i a e
    rcases mF.mp hp with z | z
    ·rw[z];exact e
    ·exact h p z
   ·exact h p hp
  ·exact h p hp
theorem zJy{env:Env}{p:Str×Addr}:∀(names:List (Str×NameKind))(cs:List (Str×Addr)),p∈cs→p∈names.foldl (wV env) cs
 | [],_,h=>h
 | x::r,cs,h=>by
  refine zJy r (wV env cs x) ?_;unfold wV;split
  ·split
   ·exact mJ _ h
   ·exact h
  ·exact h
theorem zLz{env:Env}{n:Str}{c:Addr}(e:env.cells.lookup n=some c):∀(names:List (Str×NameKind))(cs:List (Str×Addr)),(n,NameKind.free)∈names→(n,c)∈names.foldl (wV env) cs
 | [],_,h=>nomatch h
 | x::r,cs,h=>by
  rcases mF.mp h with z | z
  ·subst z
   refine zJy r _ ?_;unfold wV;rw[mK (by rfl)];show(n,c)∈(match env.cells.lookup n with | some a=>(n,a)::cs | none=>cs)
   rw[e];exact mM
  ·exact zLz e r _ z
theorem qT{α:Type}{n:Str}{c:α}:∀{l:List (Str×α)},(n,c)∈l→∃c',l.lookup n=some c'
 | [],h=>nomatch h
 |(m,d)::r,h=>by
  by_cases e:n=m
  ·subst e;exact⟨d,by simp[sH]⟩
  ·rcases mF.mp h with z | z
   ·cases z;exact absurd rfl e
   ·obtain⟨c',q⟩:=qT z
    have e2:(n==m)=false:=by simpa using e
    exact⟨c',by rw[sH,e2];exact q⟩
theorem zTt{env:Env}{names:List (Str×NameKind)}{n:Str}{c:Addr}(h:(clo env names).lookup n=some c):env.cells.lookup n=some c:=
 zMu names [] (fun _ z=>nomatch z) (n,c) (rR h)
theorem zCt{env:Env}{names:List (Str×NameKind)}{n:Str}{c:Addr}(e:env.cells.lookup n=some c)(h:(n,NameKind.free)∈names):(clo env names).lookup n=some c:=by
 obtain⟨c',q⟩:=qT (zLz e names [] h);have q':(clo env names).lookup n=some c':=q;have z:=zTt q';rw[e] at z;rw[q',←z]
inductive FreeOk (X:Cx) (scope:Scope):List (Str×Nat)→Prop where
 | nil:FreeOk X scope []
 | cons {x:Str} {i:Nat} {r:List (Str×Nat)} (h1:X.N[i]? =some x) (h2:X.env.kindOf x=some .cell) (h3:scope.names.lookup x=some .free) (h:FreeOk X scope r):FreeOk X scope ((x,i)::r)
theorem FreeOk.mem{X:Cx}{scope:Scope}:∀{F:List (Str×Nat)},FreeOk X scope F→∀p∈F,X.N[p.2]? =some p.1∧X.env.kindOf p.1=some .cell∧scope.names.lookup p.1=some .free
 | _, .nil,_,h=>nomatch h
 | _, .cons h1 h2 h3 h,p,hp=>by
  rcases mF.mp hp with z | z
  ·subst z;exact⟨h1,h2,h3⟩
  ·exact h.mem p z
structure CompSc(X:Cx)(scope:Scope)(own:List Str)(F:List (Str×Nat)):Prop where
 kind:scope.kind= .function
 nocell:(scope.names.all fun y=>!(y.2==NameKind.cell))=true
 loc:(scope.names.all fun y=>!(y.2==NameKind.local)||(scope.names.lookup y.1==some NameKind.local))=true
 fr:(scope.names.all fun y=>!(y.2==NameKind.free)||(X.env.scope.names.lookup y.1==some NameKind.cell))=true
 free:FreeOk X scope F
def xS(own:List Str)(F:List (Str×Nat)):List Str:=own++F.map (·.1)
def uN(own:List Str)(F:List (Str×Nat))(σ:St):St:=own.map (fun _=>Option.none)++F.map (fun p=>(σ[p.2]?).join)
def wB(X:Cx)(own:List Str)(F:List (Str×Nat))(scope:Scope)(C:Addr)(s₃:Shared)(H₃:Hp)(ex:List Addr):Cx where
 prog:=X.prog
 w:=X.w
 K:=X.K
 mg:=X.mg
 base:=X.base
 A:=X.A
 N:=xS own F
 s₀:=s₃
 H₀:=H₃
 env:=compEnvC scope (clo X.env scope.names) C X.env
 outer:=X.stack
 stack:=X.stack
 ex:=ex
 fn:=fun _=>false
 calm:=X.calm
 pn:=[]
 xe:=fun _ _=>False
theorem CompSc.nc{X:Cx}{scope:Scope}{own:List Str}{F:List (Str×Nat)}(S:CompSc X scope own F):∀y∈scope.names,y.2≠ .cell:=fun y hy e=>by
 have q:=pQ.mp S.nocell y hy;rw[e] at q;exact absurd q (by decide)
theorem CompSc.lc{X:Cx}{scope:Scope}{own:List Str}{F:List (Str×Nat)}(S:CompSc X scope own F):∀y∈scope.names,y.2= .local→scope.names.lookup y.1=some .local:=fun y hy e=>by
 have q:=pQ.mp S.loc y hy;rw[e] at q
 simpa using q
theorem CompSc.fc{X:Cx}{scope:Scope}{own:List Str}{F:List (Str×Nat)}(S:CompSc X scope own F):∀y∈scope.names,y.2= .free→X.env.kindOf y.1=some .cell:=fun y hy e=>by
 have q:=pQ.mp S.fr y hy;rw[e] at q;have q':X.env.scope.names.lookup y.1=some NameKind.cell:=by simpa using q
 exact q'
theorem zHk{scope:Scope}{env:Env}(hc:∀y∈scope.names,y.2≠ .cell){x:Str}(h:(relabel scope env).names.lookup x=some .cell∨(relabel scope env).names.lookup x=some .free):(x,NameKind.free)∈scope.names:=by
 have go:∀k,(relabel scope env).names.lookup x=some k→k= .cell∨k= .free→(x,NameKind.free)∈scope.names:=fun k e hk=>by
  have m:=rR e;unfold relabel at m;obtain⟨⟨n,k0⟩,hm,e2⟩:=nP.mp m
  by_cases hf:k0= .free
  ·subst hf
   dsimp only at e2;split at e2<;>(cases e2;exact hm)
  ·have e3:(k0==NameKind.free)=false:=by simpa using hf
   simp only[e3,Bool.false_and,bU,dH] at e2;cases e2;rcases hk with z | z
   ·exact absurd z (hc _ hm)
   ·exact absurd z hf
 rcases h with h | h
 ·exact go _ h (.inl rfl)
 ·exact go _ h (.inr rfl)
theorem qB{env:Env}(hf:env.scope.kind= .function):∀{names:List (Str×NameKind)}{x:Str},names.lookup x=some .free→env.kindOf x=some .cell→
  (names.map fun(n,k)=>if(k==NameKind.free && env.scope.kind== .function && env.kindOf n==some .cell) then(n,NameKind.cell) else(n,k)).lookup x=some .cell
 | [],_,h,_=>by simp at h
 |(n,k)::r,x,h,hx=>by
  have ih:=@qB env hf r x;rw[mU]
  by_cases e:x=n
  ·subst e
   have hk:k= .free:=by simpa [sH] using h
   subst hk;have c:(NameKind.free==NameKind.free && env.scope.kind== .function && env.kindOf x==some .cell)=true:=by rw[hf,hx];rfl
   show List.lookup x ((if(NameKind.free==NameKind.free && env.scope.kind== .function && env.kindOf x==some .cell)=true then(x,NameKind.cell) else(x,NameKind.free))::_)=_;rw[mK c];simp[sH]
  ·have e2:(x==n)=false:=by simpa using e
   have h':r.lookup x=some .free:=by rw[sH,e2] at h;exact h
   have q:=ih h' hx;dsimp only;split
   ·rw[sH,e2];exact q
   ·rw[sH,e2];exact q
section
variable{X:Cx}{pins:List (Addr×Obj)}{σ:St}{H:Hp}{s:Shared}
theorem Inv.freeCells{scope:Scope}{own:List Str}{F:List (Str×Nat)}(I:Inv X pins σ H s)(S:CompSc X scope own F):∀x∈scope.names,x.2= .free→∃c,X.env.cells.lookup x.1=some c:=fun x hx e=>
 I.ok.has x.1 (.inl (S.fc x hx e))
theorem Inv.notStk(I:Inv X pins σ H s){b:Addr}(h1:b≠X.env.locals)(h2:b∉X.fs):b∉frs X.stack:=fun z=>(mF.mp (I.stkSub b z)).elim h1 h2
theorem zLn{scope:Scope}{own:List Str}{F:List (Str×Nat)}{fp:List Addr}{h1:Heap}{tk:Nat}(I:Inv X pins σ H s)(S:CompSc X scope own F)(hf:∀b∈fp,zDu X pins H b)(hlt:∀b∈fp,b<s.heap.objs.size){s3:Shared}
  (e3:s3={s with heap:=s.heap.push {cls:=.type "list",data:=.seq ([]:List Value).toArray}})
  (hns:h1.Ns s3.heap.objs.size (fun _=>none)) (hk:∀b o,s3.heap.get? b=some o→h1.get? b=some o):
  Inv (wB X own F scope s3.heap.objs.size s3 H (s.heap.objs.size::fp)) [] (uN own F σ) H {s3 with heap:=h1,toks:=tk}:=by
 have sz3:s3.heap.objs.size=s.heap.objs.size+1:=by rw[e3];exact bE ..
 have k3:∀b o,s.heap.get? b=some o→s3.heap.get? b=some o:=fun b o e=>by rw[e3];exact mN _ e
 have I3:Inv X pins σ H s3:=by rw[e3];exact I.kept (t':=s.toks) fun b o e=>mN _ e
 have lkup:∀x c,(clo X.env scope.names).lookup x=some c→X.env.cells.lookup x=some c:=fun x c e=>zTt e;have base_lt:∀b o,X.base.get? b=some o→b<X.s₀.heap.objs.size:=fun b o e=>nF (mY e) I.ok.bsz;have kf:X.env.scope.kind= .function:=I.ok.kind;refine⟨⟨I.ok.mod,S.kind,I.ok.glob,I.ok.blt,mE _,fun x y c h1 h2=>I.ok.inj x y c (lkup x c h1) (lkup y c h2),fun x hx=>?_,fun x c hx _=>(nomatch hx),I.ok.hd,I.ok.frames, .inl rfl,fun b hb=>?_,fun b o e=>?_, ?_,fun b o e hb=>?_,fun b hb=>?_,I3.stack,fun b hb=>I.stkFree b hb⟩,
  rfl,I3.bare,Un.kept hk,⟨_,hns,fun i x v e1 e2 e3'=>?_⟩,fun x c e=>?_, ?_,fun x c e=>I.freeC x c (lkup x c e),fun p hp=>absurd (show p∈([]:List (Addr×Obj)) from hp) (by simp),I3.hok.kept hk, ?_⟩
 ·have hm:=zHk S.nc hx
  obtain⟨c,e⟩:=I.freeCells S _ hm rfl;exact⟨c,zCt e hm⟩
 ·rcases mF.mp hb with z | z
  ·subst z
   refine⟨fun q=>?_,fun x c e q=>?_⟩
   ·have q':s.heap.objs.size=s3.heap.objs.size:=q
    lia
   ·obtain⟨v,u⟩:=I.cell x c (lkup x c e)
    exact absurd u.lt (by rw[q];exact sY _)
  ·refine⟨fun q=>?_,fun x c e=>(hf b z).2.2.2.2.1 x c (lkup x c e)⟩
   exact nO (nF (hlt b z) (show s.heap.objs.size≤s3.heap.objs.size by lia)) q
 ·obtain⟨a1,a2⟩:=I.bs b o e
  exact⟨k3 b o a1,a2⟩
 ·exact nN (nN I.ok.bsz I.sz) (by show s.heap.objs.size≤s3.heap.objs.size;lia)
 ·have l1:=base_lt b o e
  rcases mF.mp hb with z | z
  ·exact absurd (nF l1 I.sz) (by rw[z];exact sY _)
  ·rcases(hf b z).2.2.2.1 with q | q
   ·exact I.ok.noex b o e q
   ·exact absurd l1 (Nat.not_lt.mpr q)
 ·rcases mF.mp hb with z | z
  ·subst z
   exact I.notStk (rK I.lt) (I.nofs (mE _))
  ·exact I.notStk (hf b z).2.1 (hf b z).2.2.1
 ·-- a name that is seen
  have hi:own.length≤i:=by
   by_cases z:i<own.length
   ·rw[uN,nV (by simpa using z),nD] at e2
    cases q:own[i]? with
    | none=>rw[q] at e2;cases e2
    | some y=>rw[q] at e2;cases e2
   ·lia
  rw[uN,nU (by simpa using hi),nD] at e2;have e1':(own++F.map (·.1))[i]? =some x:=e1;rw[nU hi,nD] at e1';simp only[mI] at e2
  cases q:F[i - own.length]? with
  | none=>rw[q] at e2;cases e2
  | some p=>
   rw[q] at e1' e2;simp only[bP,Option.some.injEq] at e1' e2;obtain⟨f1,f2,f3⟩:=S.free.mem p (mP q);subst e1';obtain⟨m,hn,hl⟩:=I.loc;have e4:σ[p.2]? =some (some v):=by
    cases r:σ[p.2]? with
    | none=>rw[r] at e2;cases e2
    | some o=>rw[r] at e2;exact congrArg some e2
   obtain⟨u,ru,l⟩:=hl p.2 p.1 v f1 e4 (.inr (.inl f2));refine⟨u,ru, .inr ⟨.inl (qB kf f3 f2), ?_⟩⟩;rcases l with⟨l,_⟩|⟨_,c,ec,z⟩
   ·rw[f2] at l;cases l
   ·refine⟨c,zCt ec (rR f3), ?_⟩
    obtain⟨oc,ho,hd⟩:=z;exact⟨oc,hk _ _ (k3 _ _ ho),hd⟩
 ·obtain⟨v,oc,ho,hd⟩:=I.cell x c (lkup x c e)
  exact⟨v,oc,hk _ _ (k3 _ _ ho),hd⟩
 ·exact I.hok.fresh (by show s.heap.objs.size≤s3.heap.objs.size;lia)
 ·show(uN own F σ).length=(xS own F).length
  simp[uN,xS]
theorem zOy{scope:Scope}{own:List Str}{F:List (Str×Nat)}{fp:List Addr}{s3 s4:Shared}{σ':St}{H':Hp}{ys:List V}{its:List Value}{n:Nat}(I:Inv X pins σ H s)(hf:∀b∈fp,zDu X pins H b)
  (e3:s3={s with heap:=s.heap.push {cls:=.type "list",data:=.seq ([]:List Value).toArray}})
  (J:Inv (wB X own F scope s3.heap.objs.size s3 H (s.heap.objs.size::fp)) [] σ' H' s4) (hz:ys.length≤sizeLine) (hv:Vals ys its)
  (ha:s4.heap.get? s.heap.objs.size=some {cls:=.type "list",data:=.seq its.toArray n}) (hn:H' s.heap.objs.size=none):Inv X pins σ (upd H' s.heap.objs.size (.lst ys)) s4:=by
 have sz3:s3.heap.objs.size=s.heap.objs.size+1:=by rw[e3];exact bE ..
 have k3:∀b o,s.heap.get? b=some o→s3.heap.get? b=some o:=fun b o e=>by rw[e3];exact mN _ e
 have U:Un (frs X.stack) (s.heap.objs.size::fp) H H' s3.heap s4.heap:=J.base;have ne:∀b o,s.heap.get? b=some o→b≠s.heap.objs.size:=fun b o e=>nO (mY e);have nx:∀b o,s.heap.get? b=some o→b∉fp→b∉s.heap.objs.size::fp:=fun b o e h z=>(mF.mp z).elim (ne b o e) h;have os4:s4.os=s.os:=by
  have q:s4.os=s3.os:=J.os;rw[q,e3]
 refine I.call' (ch:=fp) os4 ⟨fun b o e z hb hx=>U.keep b o (k3 b o e) z hb (nx b o e hx),fun b o e z hb hx=>U.slot b o (k3 b o e) z hb (nx b o e hx),fun b o e z hx=>?_,fun b o e hx=>U.there b o (k3 b o e) (nx b o e hx),fun b xs e=>?_,fun b o u e=>?_,fun b ps e=>?_⟩ (fun b u e=>?_) J.bare fun b hb=>?_
 ·rw[zO (ne b o e)]
  exact U.free b o (k3 b o e) z (nx b o e hx)
 ·have q:=U.tups b xs e
  rw[zO (yC q hn)];exact q
 ·have q:=U.frzs b o u e
  rw[zO (yC q hn)];exact q
 ·obtain⟨more,q⟩:=U.tbls b ps e
  exact⟨more,by rw[zO (yC q hn)];exact q⟩
 ·by_cases hb:b=s.heap.objs.size
  ·subst hb
   rw[zB] at e;cases e;exact⟨hz,its,n,hv,ha⟩
  ·rw[zO hb] at e
   exact(J.hok b u e).stay (fun _ _ _ q=>q) (fun c q=>by rw[zO (yC q hn)];exact q) fun c xs q=>by rw[zO (yC q hn)];exact q
 ·obtain⟨_,f1,_,f3,f4,f5⟩:=hf b hb
  exact⟨f3,f1,f4,f5⟩
theorem zCw{H':Hp}{s4:Shared}{C:Addr}{h':Heap}{σ4:St}(I:Inv X pins σ H s)(hC:s.heap.objs.size≤C)(I4:Inv X pins σ4 H' s4)(hn:H' C=none)(hs:Heap.SameBut C s4.heap h'):Inv X pins σ4 H' {s4 with heap:=h'}:=by
 have q:=I4.turned (it:=C) (t':=s4.toks) (h':=h') (fun b o hb e=>(hs.2 b hb).trans e) hn (rK (nF I.lt hC)) (.inr (nN I.sz hC)) (fun x c e z=>?_) (fun p hp z=>?_)
 ·exact q
 ·obtain⟨v,u⟩:=I.cell x c e
  exact absurd (nF u.lt (by rw[z];exact hC)) (sY _)
 ·exact absurd (nF (mY (I.pin p hp).1) (by rw[z];exact hC)) (sY _)
end
def PTs(X:Cx)(ifs:List Expr)(t:TT):Prop:=
 ∀(pins:List (Addr×Obj))(s:Shared)(σ:St)(H:Hp)(Q:Bool→Hp→Prop),Inv X pins σ H s→t σ H Q→
  wpAny (model X.prog X.w) X.A (forIn ifs true fun c r=>if r=true then do let ok ←isTrue c X.env (eval c X.env);pure (ForInStep.yield ok) else pure (ForInStep.yield r)) (TP X pins σ Q) X.xe s
def zEb:TT:=fun _ H Q=>Q true H
theorem yW{X:Cx}:PTs X [] zEb:=fun _ _ _ H _ I h=>wpAny_tests_nil ⟨H,I,h⟩
theorem zMf{X:Cx}{c:Expr}{t:TT}(h:PT X c t):PTs X [c] t:=fun pins s σ H Q I q=>wpAny_tests_one (h pins s σ H Q I q)
theorem zJl{prog:Program}{w:World}{A:Around}{R:Result→Shared→Prop}{s:Shared}{elt target iter:Expr}{ifs:List Expr}{scope:Scope}{pos:Pos}{it acc:Value}{env:Env}(I:Nat→Shared→Prop)
  (turn:∀n s,I n s→wpAny (model prog w) A (pyNext it) (fun r s₁=>match r with
   | none=>R (.ok .next) s₁
   | some v=>wpAny (model prog w) A (letOwnedTupleGo target it v) (fun _ s₂=>wpAny (model prog w) A (assign target env v) (fun _ s₃=>
     wpAny (model prog w) A (forIn ifs true fun c r=>if r=true then do let ok ←isTrue c env (eval c env);pure (ForInStep.yield ok) else pure (ForInStep.yield r)) (fun ok s₄=>
      if ok=true then wpAny (model prog w) A (eval elt env) (fun x s₅=>
       wpAny (model prog w) A (call (.builtin "list.append") [acc,x]) (fun _ s₆=>∃m,m<n∧I m s₆) (fun _ _=>False) s₅) (fun _ _=>False) s₄
      else∃m,m<n∧I m s₄) (fun _ _=>False) s₃) (fun _ _=>False) s₂) (fun _ _=>False) s₁) (fun _ _=>False) s)
  (n:Nat) (h:I n s):codeAny (model prog w) A (.compLoop (.ListComp elt [⟨target,iter,ifs,0⟩] scope pos) 0 it acc env) R s:=by
 refine codeAny_loop rfl I (fun n s hI=>?_) n h;show wpAny _ A ((compTurn (.ListComp elt [⟨target,iter,ifs,0⟩] scope pos) 0 it acc env).onRaise (fun x=>do noteFrame x env;theTreesLotGoes x)) _ _ s;refine wpAny_noted ?_;rw[compTurn_list];refine mD (aP (mD (rE (turn n s hI) (fun r s₁ h₁=>?_) fun _ _ f=>f.elim)))
 cases r with
 | none=>exact mS h₁
 | some v=>
  refine mD (rE h₁ (fun _ s₂ h₂=>mD (rE h₂ (fun _ s₃ h₃=>mD (rE h₃ (fun ok s₄ h₄=>?_) fun _ _ f=>f.elim)) fun _ _ f=>f.elim)) fun _ _ f=>f.elim)
  cases ok with
  | false=>exact mS ⟨rfl,h₄⟩
  | true=>exact mD (mD (rE h₄ (fun x s₅ h₅=>mD (rE h₅ (fun _ s₆ h₆=>mS (mS ⟨rfl,h₆⟩)) fun _ _ f=>f.elim)) fun _ _ f=>f.elim))
def yBx(σ σ':St):Prop:=σ'.length=σ.length∧∀(i:Nat) v,σ'[i]? =some (some v)→σ[i]? =some (some v)
theorem zQh{σ:St}{i:Nat}{v:Option V}(h:σ[i]? =some none):yBx (σ.set i v) σ:=by
 refine⟨by simp,fun j u e=>?_⟩
 by_cases hj:i=j
 ·subst hj;rw[h] at e;cases e
 ·rw[sP hj];exact e
def wM(own:List Str)(F:List (Str×Nat))(g:TG)(tt:TT)(te:TE)(σ:St)(Q:VK)(J:It)(H1:Hp):Prop:=∃W:Nat→Nat→List V→Hp→Prop,(∃m,W 0 m [] H1)∧∀i m ys H',W i m ys H'→ys.length≤i→
 (J.stop i H'∧i≤sizeLine∧∀p,H' p=none→Q (.ref p) (upd H' p (.lst ys)))∨
 (J.go i H'∧i<sizeLine∧∃N:List V→Hp→Prop,(∀ys' H'',N ys' H''→∃m',m'<m∧W (i+1) m' ys' H'')∧
  ∀x H2,J.yld i H' x H2→g x (uN own F σ) H2 fun σ3 H3=>yBx σ3 (uN own F σ)∧tt σ3 H3 fun b H4=>if b=true then te σ3 H4 fun y H5=>N (ys++ [y]) H5 else N ys H4)
def zFf(own:List Str)(F:List (Str×Nat))(wi:TI)(g:TG)(tt:TT)(te:TE):TE:=fun σ H Q=>wi σ H fun J H1=>wM own F g tt te σ Q J H1
section
variable{X:Cx}{scope:Scope}{own:List Str}{F:List (Str×Nat)}{elt tg iter:Expr}{ifs:List Expr}{pos:Pos}{wi:TI}{g:TG}{tt:TT}{te:TE}
abbrev xA(s:Shared):Shared:={s with heap:=s.heap.push {cls:=.type "list",data:=.seq ([]:List Value).toArray}}
theorem zJt{pins:List (Addr×Obj)}{σ:St}{H:Hp}{s:Shared}{Q:VK}{RR:Addr→Result→Shared→Prop}{it:Addr}{fp:List Addr}{tn:Nat→Heap→Prop}{J:It}(S:CompSc X scope own F)(hc:X.calm=true)
  (hg:∀C s₃ H₃ ex,PG (wB X own F scope C s₃ H₃ ex) tg g) (ht:∀C s₃ H₃ ex,PTs (wB X own F scope C s₃ H₃ ex) ifs tt) (he:∀C s₃ H₃ ex,PE (wB X own F scope C s₃ H₃ ex) elt te)
  (I:Inv X pins σ H s) (T:zGj X.prog X.w X.K tg J fp it tn) (st:tn 0 s.heap) (hf:∀b∈fp,zDu X pins H b)
  (h:wM own F g tt te σ Q J H)
  (hR:∀C s4 H4,s.heap.objs.size≤C→C≠s.heap.objs.size→Inv X pins σ H4 s4→Q (.ref s.heap.objs.size) H4→H4 C=none→(∃m,s4.heap.Ns C m)→RR C (.ok .next) s4):
  wpAny (model X.prog X.w) X.A (newList []) (fun acc s₃=>wpAny (model X.prog X.w) X.A (newFunctionEnv scope X.env.globals (clo X.env scope.names) [] X.env.qual none .none (some X.env)) (fun cenv s₄=>
   codeAny (model X.prog X.w) X.A (.compStart (.ListComp elt [⟨tg,iter,ifs,0⟩] scope pos) 0 (.ref it) acc {cenv with scope:=relabel scope X.env}) (fun r s'=>acc= .ref s.heap.objs.size∧RR cenv.locals r s') s₄) X.xe s₃) X.xe s:=by
 obtain⟨W,⟨m0,w0⟩,turn⟩:=h;have hlt:∀b∈fp,b<s.heap.objs.size:=fun b hb=>by
  obtain⟨o,e,_⟩:=T.obj _ _ st b hb;exact mY e
 refine dE (wpAny_newFunctionEnv S.nc (by intro y hy;simp at hy) (fun h₁ hns₁ hsb₁=>?_) S.kind);dsimp only at hns₁ hsb₁⊢;have e3':xA s={s with heap:=s.heap.push {cls:=.type "list",data:=.seq ([]:List Value).toArray}}:=rfl;have sz3:(xA s).heap.objs.size=s.heap.objs.size+1:=bE ..;have k3:∀b o,(xA s).heap.get? b=some o→h₁.get? b=some o:=fun b o e=>hsb₁.extBut b o (nO (mY e)) (mN _ e);have k2:∀b o,s.heap.get? b=some o→(xA s).heap.get? b=some o:=fun b o e=>mN _ e;have hns:h₁.Ns (xA s).heap.objs.size (fun _=>none):=by simpa using hns₁
 have I0:Inv (wB X own F scope (xA s).heap.objs.size (xA s) H (s.heap.objs.size::fp)) [] (uN own F σ) H {xA s with heap:=h₁,toks:=(xA s).toks+([]:List (Str×Value)).length}:=zLn I S hf hlt e3' hns k3;have acc0:h₁.get? s.heap.objs.size=some {cls:=.type "list",data:=.seq ([]:List Value).toArray 0}:=k3 _ _ (nC _ rfl);have ht0:tn 0 h₁:=T.keep _ _ _ st fun b _ o e=>k3 b o (k2 b o e);have loop:codeAny (model X.prog X.w) X.A (.compLoop (.ListComp elt [⟨tg,iter,ifs,0⟩] scope pos) 0 (.ref it) (.ref s.heap.objs.size) (compEnvC scope (clo X.env scope.names) (xA s).heap.objs.size X.env)) (RR (xA s).heap.objs.size) {xA s with heap:=h₁,toks:=(xA s).toks+([]:List (Str×Value)).length}:=by
  refine zJl (fun n s'=>∃i ys H' its k,Inv (wB X own F scope (xA s).heap.objs.size (xA s) H (s.heap.objs.size::fp)) [] (uN own F σ) H' s'∧tn i s'.heap∧(∀b∈fp,H' b=none)∧H' s.heap.objs.size=none∧
   Vals ys its∧s'.heap.get? s.heap.objs.size=some {cls:=.type "list",data:=.seq its.toArray k}∧ys.length≤i∧W i n ys H') ?_ m0 ⟨0,[],H,[],0,I0,ht0,fun b hb=>(hf b hb).1,I.hok.fresh (mE _), .nil,acc0,mE _,w0⟩
  rintro n s5 ⟨i,ys,H5,its,k,I5,t5,fr5,ha5,v5,o5,l5,w5⟩;have pn5:Inv (wB X own F scope (xA s).heap.objs.size (xA s) H (s.heap.objs.size::fp)) [(s.heap.objs.size,{cls:=.type "list",data:=.seq its.toArray k})] (uN own F σ) H5 s5:=I5.pins_of fun p hp=>by
   have z:p=(s.heap.objs.size,{cls:=.type "list",data:=.seq its.toArray k}):=by simpa using hp
   subst z;obtain⟨x1,x2⟩:=I0.ok.exf s.heap.objs.size mM;exact⟨o5,ha5,x1,I0.ok.exfs _ mM,fun v z=>by cases z⟩
  have fp5:∀{H':Hp},(∀b∈fp,H' b=none)→∀b∈fp,zDu (wB X own F scope (xA s).heap.objs.size (xA s) H (s.heap.objs.size::fp)) [(s.heap.objs.size,{cls:=.type "list",data:=.seq its.toArray k})] H' b:=fun {H'} hn b hb=>by
   obtain⟨x1,x2⟩:=I0.ok.exf b (mJ _ hb);refine⟨hn b hb,x1,I0.ok.exfs b (mJ _ hb), .inl (mJ _ hb),x2,fun p hp=>?_⟩;have z:p=(s.heap.objs.size,{cls:=.type "list",data:=.seq its.toArray k}):=by
    have hp':p∈([]:List (Addr×Obj))++ [(s.heap.objs.size,{cls:=.type "list",data:=.seq its.toArray k})]:=hp
    simpa using hp'
   subst z;exact rK (hlt b hb)
  rcases turn i n ys H5 w5 l5 with⟨stop,hz,q⟩|⟨go,hz,N,hN,step⟩
  ·refine thn (T.done (wB X own F scope (xA s).heap.objs.size (xA s) H (s.heap.objs.size::fp)) rfl rfl rfl hc i _ s5 _ H5 (fun _ _=>False) pn5 (fp5 fr5) t5 stop) fun r s6 ⟨hr,I6⟩=>?_
   subst hr;obtain⟨a6,b6,_⟩:=I6.pin (s.heap.objs.size,{cls:=.type "list",data:=.seq its.toArray k}) (nM _ (mO.mpr rfl));have J6:=I6.pins_of (pins':=[]) (fun p hp=>nomatch hp);have I7:=zOy I hf e3' J6 (nN l5 hz) v5 a6 b6;have hC:H5 (xA s).heap.objs.size=none:=J6.free;refine hR _ s6 _ (show s.heap.objs.size≤(xA s).heap.objs.size by lia) (fun z=>by have z':(xA s).heap.objs.size=s.heap.objs.size:=z;lia) I7 (q _ b6) (by rw[zO (fun z=>by have z':(xA s).heap.objs.size=s.heap.objs.size:=z;lia)];exact hC) ?_;obtain⟨m,hn,_⟩:=J6.loc;exact⟨m,hn⟩
  ·refine thn (T.item (wB X own F scope (xA s).heap.objs.size (xA s) H (s.heap.objs.size::fp)) rfl rfl rfl hc i _ s5 _ H5 (fun _ _=>False) pn5 (fp5 fr5) t5 go) fun r s6 ⟨u,hr,h6⟩=>?_
   subst hr;refine thn h6 fun _ s7 ⟨x,H7,I7,r7,y7,t7,fr7⟩=>?_;have J7:=I7.pinned (fp5 fr7) (T.obj _ _ t7);refine thn (hg _ _ _ _ _ s7 _ H7 x u _ J7 r7 (step x H7 y7)) fun _ s8 ⟨σ8,H8,I8,wk,q8⟩=>?_;refine thn (ht _ _ _ _ _ s8 σ8 H8 _ I8 q8) fun ok s9 ⟨H9,I9,q9⟩=>?_;have keep:∀{σ':St}{H':Hp}{s':Shared},Inv (wB X own F scope (xA s).heap.objs.size (xA s) H (s.heap.objs.size::fp)) ([(s.heap.objs.size,{cls:=.type "list",data:=.seq its.toArray k})]++zDx fp s7.heap) σ' H' s'→
     tn (i+1) s'.heap∧(∀b∈fp,H' b=none)∧H' s.heap.objs.size=none∧s'.heap.get? s.heap.objs.size=some {cls:=.type "list",data:=.seq its.toArray k}:=fun {σ' H' s'} J=>by
    have pa:=J.pin (s.heap.objs.size,{cls:=.type "list",data:=.seq its.toArray k}) (nM _ (pH _ (mO.mpr rfl)));refine⟨T.keep _ _ _ t7 fun b hb o e=>(J.pin (b,o) (nM _ (nM _ (kI hb e)))).1,fun b hb=>?_,pa.2.1,pa.1⟩;obtain⟨o,e,d⟩:=T.obj _ _ t7 b hb;exact(J.pin (b,o) (nM _ (nM _ (kI hb e)))).2.1
   cases ok with
   | false=>
    rw[mG nA] at q9⊢;obtain⟨m',hm,w9⟩:=hN _ _ q9;obtain⟨a1,a2,a3,a4⟩:=keep I9;exact⟨m',hm,i+1,ys,H9,its,k,(I9.pins_of (pins':=[]) (fun p hp=>nomatch hp)).weak wk.1 wk.2,a1,a2,a3,v5,a4,tX l5,w9⟩
   | true=>
    rw[mK rfl] at q9⊢;refine thn (he _ _ _ _ _ s9 σ8 H9 _ I9 q9) fun u' s10 ⟨y,H10,I10,r10,q10⟩=>?_;obtain⟨m',hm,w10⟩:=hN _ _ q10;obtain⟨a1,a2,a3,a4⟩:=keep I10;have hl:=v5.length;refine aS rW ⟨_,a4,rfl⟩ PySem.F.entry_list_append (PySem.F.args_list_append_2 _ _) (PySem.list_append s.heap.objs.size its.toArray k u' (by rw[mZ];lia)) ⟨a4, ?_⟩;have q:=PySem.IsL.update a4 (fun xs:Array Value=>xs.push u');have eq:its.toArray.push u'=(its++ [u']).toArray:=by simp
    rw[eq] at q;obtain⟨x1,x2⟩:=I0.ok.exf s.heap.objs.size mM;have I11:=(I10.pins_of (pins':=[]) (fun p hp=>nomatch hp)).turned (it:=s.heap.objs.size) (t':=s10.toks) (h':=s10.heap.update s.heap.objs.size (Obj.mapSeq (fun xs:Array Value=>xs.push u'))) (fun b o hb e=>(nJ s10.heap _ (Ne.symm hb)).trans e) a3 x1 (.inl mM) x2 (fun p hp=>absurd (show p∈([]:List (Addr×Obj)) from hp) (by simp));refine⟨m',hm,i+1,ys++ [y],H10,its++ [u'],_,I11.weak wk.1 wk.2, ?_,a2,a3,v5.append (.cons r10 .nil),q,by rw[mL,nL];lia,w10⟩;exact T.keep _ _ _ a1 fun b hb o e=>(nJ s10.heap _ (rK (hlt b hb))).trans e
 have loop':=aG loop (R':=fun r s'=>Value.ref s.heap.objs.size= .ref s.heap.objs.size∧RR (xA s).heap.objs.size r s') fun r s' z=>⟨rfl,z⟩;exact codeAny_compStart_list loop' (T.self X.A 0 _ _ _ ht0 loop')
theorem xE(S:CompSc X scope own F)(hc:X.calm=true)(hi:PI X tg iter wi)
  (hg:∀C s₃ H₃ ex,PG (wB X own F scope C s₃ H₃ ex) tg g) (ht:∀C s₃ H₃ ex,PTs (wB X own F scope C s₃ H₃ ex) ifs tt) (he:∀C s₃ H₃ ex,PE (wB X own F scope C s₃ H₃ ex) elt te)
  (hs:∀x,foldedSetIterable iter X.env x=pure x:=by intro _;rfl):PE X (.ListComp elt [⟨tg,iter,ifs,0⟩] scope pos) (zFf own F wi g tt te):=by
 intro pins s σ H Q I h;rw[eval_ListComp];refine wpAny_comprehension_free (use:=none) rfl hs (kY (I.freeCells S)) S.kind S.lc ?_;refine thn (hi pins s σ H _ I h) fun v s1 h1=>thn h1 fun itv s2 ⟨it,fp,tn,J,H2,e,I2,T,st2,f2,q2⟩=>?_;subst e;refine thn (zJt (Q:=Q) (RR:=fun C r s'=>compPost (model X.prog X.w) X.A X.xe none (EP X pins σ Q) (.ref s2.heap.objs.size) C r s') S hc hg ht he I2 T st2 f2 q2 fun C s4 H4 c1 c2 I4 q4 n4 hm=>?_) fun acc s3 h3=>thn h3 fun cenv s4 h4=>aG h4 fun r s' ⟨ea,hr⟩=>?_
 ·obtain⟨m,hn⟩:=hm
  exact⟨m,hn,fun h' hs'=>⟨.ref s2.heap.objs.size,H4,zCw I2 c1 I4 n4 hs',rfl,q4⟩⟩
 ·rw[ea];exact hr
theorem zCj{i:Nat}{x:Str}{pos' spos:Pos}(hN:X.N.Nodup)(hi':X.N[i]? =some x)(hx:Loc X.env.scope x)(S:CompSc X scope own F)(hc:X.calm=true)(hi:PI X tg iter wi)
  (hg:∀C s₃ H₃ ex,PG (wB X own F scope C s₃ H₃ ex) tg g) (ht:∀C s₃ H₃ ex,PTs (wB X own F scope C s₃ H₃ ex) ifs tt) (he:∀C s₃ H₃ ex,PE (wB X own F scope C s₃ H₃ ex) elt te)
  (hsw:swapsWith (.ListComp elt [⟨tg,iter,ifs,0⟩] scope pos) (some (.Name x pos')) spos.line X.env=pure true:=by rfl)
  (hs:∀x,foldedSetIterable iter X.env x=pure x:=by intro _;rfl) (hf:X.fn x=true∨X.env.scope.names.lookup x=some .local:=by first | exact .inl rfl | exact .inr rfl | assumption):
  PS X (.Assign [.Name x pos'] (.ListComp elt [⟨tg,iter,ifs,0⟩] scope pos) spos) (zPe (zFf own F wi g tt te) (qA i)):=by
 intro pins s σ H D I h;rw[exec_Assign_Name_used x pos' _ _ hsw];refine mD (aP (mD ?_));refine mD ?_;refine rE (Q:=fun _ s'=>SP X pins D .next s') ?_ (fun _ s' q=>mS (mS q)) fun _ _ z=>z;refine wpAny_comprehension_free (use:=some (assign (.Name x pos') X.env)) rfl hs (kY (I.freeCells S)) S.kind S.lc ?_;refine thn (hi pins s σ H _ I h) fun v s1 h1=>thn h1 fun itv s2 ⟨it,fp,tn,J,H2,e,I2,T,st2,f2,q2⟩=>?_;subst e;refine thn (zJt (Q:=fun x H1=>qA i x σ H1 D.nx) (RR:=fun C r s'=>compPost (model X.prog X.w) X.A X.xe (some (assign (.Name x pos') X.env)) (fun _ s'=>SP X pins D .next s') (.ref s2.heap.objs.size) C r s') S hc hg ht he I2 T st2 f2 q2 fun C s4 H4 c1 c2 I4 q4 n4 hm=>?_) fun acc s3 h3=>thn h3 fun cenv s4 h4=>aG h4 fun r s' ⟨ea,hr⟩=>?_
 ·obtain⟨m,hn⟩:=hm
  refine wpAny_assign_Name (zEo I4 hN hi' hx (v:=.ref s2.heap.objs.size) rfl (fun s5 I5 ⟨a,sb,ha⟩=>?_) hf);have aC:a≠C:=by
   rcases ha with z | z
   ·rw[z];exact nO (nF I2.lt c1)
   ·obtain⟨v,u⟩:=I2.cell _ _ z
    exact nO (nF u.lt c1)
  exact⟨m,hn.sameBut sb (Ne.symm aC),fun h' hs'=>⟨_,H4,zCw I2 c1 I5 n4 hs',q4⟩⟩
 ·rw[ea];exact hr
end
inductive T where
 | non | bl (b:Bool)| int (i:Int)| str (x:List Nat)| lst (ts:List T)| dic (ks:List (List Nat)) (ts:List T)| tup (ts:List T)
mutual
def Rep(H:Hp):V→T→Prop
 | v, .non=>v= .non
 | v, .bl b=>v= .bl b
 | v, .int i=>v= .int i
 | v, .str x=>v= .str (tx x)
 | v, .lst ts=>∃a vs,v= .ref a∧H a=some (.lst vs)∧Reps H vs ts
 | v, .dic ks ts=>∃a ps,v= .ref a∧H a=some (.dK ps)∧ps.map (·.1)=ks.map (fun k=>(Sum.inr (tx k):Key))∧Reps H (ps.map (·.2)) ts
 | v, .tup ts=>∃a vs,v= .ref a∧H a=some (.tup vs)∧Reps H vs ts
def Reps(H:Hp):List V→List T→Prop
 | vs,[]=>vs= []
 | vs,t::ts=>∃v r,vs=v::r∧Rep H v t∧Reps H r ts
end
mutual
theorem Rep.same{H H':Hp}(e:Same H H'):∀(v:V)(t:T),Rep H v t→Rep H' v t
 | _, .non,h=>h
 | _, .bl _,h=>h
 | _, .int _,h=>h
 | _, .str _,h=>h
 | _, .lst ts,⟨a,vs,h1,h2,h3⟩=>⟨a,vs,h1,e _ _ h2,Reps.same e vs ts h3⟩
 | _, .dic ks ts,⟨a,ps,h1,h2,h3,h4⟩=>⟨a,ps,h1,e _ _ h2,h3,Reps.same e _ ts h4⟩
 | _, .tup ts,⟨a,vs,h1,h2,h3⟩=>⟨a,vs,h1,e _ _ h2,Reps.same e vs ts h3⟩
theorem Reps.same{H H':Hp}(e:Same H H'):∀(vs:List V)(ts:List T),Reps H vs ts→Reps H' vs ts
 | _,[],h=>h
 | _,t::ts,⟨v,r,h1,h2,h3⟩=>⟨v,r,h1,Rep.same e v t h2,Reps.same e r ts h3⟩
end
theorem Reps.snoc{H:Hp}{v:V}{t:T}(h:Rep H v t):∀{vs:List V}{ts:List T},Reps H vs ts→Reps H (vs++ [v]) (ts++ [t])
 | _,[],e=>by
  have e':_= []:=e;subst e';exact⟨v,[],rfl,h,rfl⟩
 | _,t'::ts,⟨v',r,h1,h2,h3⟩=>by
  subst h1;exact⟨v',r++ [v],rfl,h2,Reps.snoc h h3⟩
theorem Reps.length{H:Hp}:∀{vs:List V}{ts:List T},Reps H vs ts→vs.length=ts.length
 | _,[],e=>by
  have e':_= []:=e;subst e';rfl
 | _,t'::ts,⟨v',r,h1,h2,h3⟩=>by
  subst h1;simp[Reps.length h3]
theorem Reps.get{H:Hp}:∀{vs:List V}{ts:List T}{i:Nat}{v:V},Reps H vs ts→vs[i]? =some v→∃t,ts[i]? =some t∧Rep H v t
 | _,[],i,v,e,h=>by
  have e':_= []:=e;subst e';simp at h
 | _,t'::ts,0,v,⟨v',r,h1,h2,h3⟩,h=>by
  subst h1;simp at h;subst h;exact⟨t',rfl,h2⟩
 | _,t'::ts,i+1,v,⟨v',r,h1,h2,h3⟩,h=>by
  subst h1;obtain⟨t,e,q⟩:=Reps.get (i:=i) (v:=v) h3 (by simpa using h);exact⟨t,by simpa using e,q⟩
def tyT:T→String
 | .non=>"NoneType"
 | .bl _=>"bool"
 | .int _=>"int"
 | .str _=>"str"
 | .lst _=>"list"
 | .dic _ _=>"dict"
 | .tup _=>"tuple"
theorem Rep.ty{H:Hp}{v:V}:∀{t:T},Rep H v t→tyS H v=some (tyT t)
 | .non,h=>by cases (show v= .non from h);rfl
 | .bl b,h=>by cases (show v= .bl b from h);rfl
 | .int i,h=>by cases (show v= .int i from h);rfl
 | .str x,h=>by cases (show v= .str (tx x) from h);rfl
 | .lst ts,h=>by obtain⟨a,vs,e,h2,_⟩:=h;subst e;show(match H a with | some (.lst _)=>some "list" | some (.tup _)=>some "tuple" | some (.dK _)=>some "dict" | _=>none)=_;rw[h2];rfl
 | .dic ks ts,h=>by obtain⟨a,vs,e,h2,_⟩:=h;subst e;show(match H a with | some (.lst _)=>some "list" | some (.tup _)=>some "tuple" | some (.dK _)=>some "dict" | _=>none)=_;rw[h2];rfl
 | .tup ts,h=>by obtain⟨a,vs,e,h2,_⟩:=h;subst e;show(match H a with | some (.lst _)=>some "list" | some (.tup _)=>some "tuple" | some (.dK _)=>some "dict" | _=>none)=_;rw[h2];rfl
def letL:List Nat:=(List.range 26).map (· +97)
def zBo:List Nat:=(List.range 10).map (· +48)
def sgnL:List Nat:=((List.range 95).map (· +32)).filter (· !=37)
def yU(w:List Nat):Bool:=decide (1≤w.length)&& decide (w.length≤12)&& (match w with | []=>false | c::_=>decide (c∈letL))&& w.all (fun c=>decide (c∈letL++zBo))
def zBm(w:List Nat):Bool:=decide (w.length≤30)&& w.all (fun c=>decide (c∈sgnL))
mutual
def Nice:Nat→T→Prop
 | _, .non=>True
 | _, .bl _=>True
 | _, .int i=>-(10 ^ 12)≤i∧i≤10 ^ 12
 | _, .str x=>zBm x=true
 | d, .lst ts=>1≤d∧ts.length≤4∧NiceL (d - 1) ts
 | d, .dic ks ts=>1≤d∧ts.length≤4∧ks.length=ts.length∧ks.Nodup∧(∀k∈ks,yU k=true)∧NiceL (d - 1) ts
 | _, .tup _=>False
def NiceL:Nat→List T→Prop
 | _,[]=>True
 | d,t::ts=>Nice d t∧NiceL d ts
end
theorem zC{H:Hp}{p:Addr}(h:H p=none)(o:HO):Same H (upd H p o):=fun b u q=>by rw[zO (yC q h)];exact q
section
variable{K:W.Frag}{H:Hp}{Q:VK}{a b:Addr}{xs ys:List V}
theorem yBr{neg:Bool}(h1:SqL K H a xs)(h2:SqL K H b ys)(f1:xs.all vW=true)(f2:ys.all vW=true)(q:Q (.bl (if neg then !zEe xs ys else zEe xs ys)) H):rEqL K neg (.ref a) (.ref b) H Q:=
 ⟨a,b,xs,ys,rfl,rfl,h1,h2,f1,f2,q⟩
theorem yP{i:Int}{v:V}(h1:SqL K H a xs)(h2:atI xs i=some v)(q:Q v H):zSc K (.ref a) (.int i) H Q:=⟨a,xs,i,v,rfl,rfl,h1,h2,q⟩
theorem zBj{i:Int}{v:V}(h1:SqT K H a xs)(h2:atI xs i=some v)(q:Q v H):zRn K (.ref a) (.int i) H Q:=⟨a,xs,i,v,rfl,rfl,h1,h2,q⟩
theorem uV{z:Str}{i:Int}{c:Nat}(h1:z.length≤sizeLine)(h2:atI (ts z) i=some c)(q:Q (.str (tx [c])) H):yCf (.str z) (.int i) H Q:=⟨z,i,c,rfl,rfl,h1,h2,q⟩
end
theorem zPo{α:Type}{xs:List α}{i:Int}(h0:0≤i)(h1:i<xs.length):∃v,atI xs i=some v∧v∈xs:=by
 obtain⟨j,rfl⟩:=tD h0;have hj:j<xs.length:=by lia
 exact⟨xs[j],xI (by simp[hj]),rJ hj⟩
theorem qN{α:Type}{xs:List α}{i:Int}{d:α}(h0:0≤i)(h1:i<xs.length):atI xs i=some (xs.getD i.toNat d):=by
 obtain⟨j,rfl⟩:=tD h0;have hj:j<xs.length:=by lia
 refine xI ?_;simp[List.getD,hj]
theorem zAy{x:Str}{F:List (Str×Nat)}{J:It}{n:Nat}{tt:TT}{te:TE}{σ:St}{Q:VK}{H1:Hp}(Pv:Nat→List V→Hp→Prop)(hn:n≤sizeLine)(h0:Pv 0 [] H1)(hgo:∀i ys H,i<n→Pv i ys H→J.go i H)
  (hst:∀ys H,Pv n ys H→J.stop n H)
  (hs:∀i ys H y H2,i<n→ys.length≤i→Pv i ys H→J.yld i H y H2→tt (some y::F.map (fun p=>(σ[p.2]?).join)) H2 fun b H3=>if b=true then te (some y::F.map (fun p=>(σ[p.2]?).join)) H3 fun z H4=>Pv (i+1) (ys++ [z]) H4 else Pv (i+1) ys H3)
  (hd:∀ys H,ys.length≤n→Pv n ys H→∀p,H p=none→Q (.ref p) (upd H p (.lst ys))):wM [x] F (qA 0) tt te σ Q J H1:=by
 refine⟨fun i m ys H=>m=n - i∧i≤n∧Pv i ys H,⟨n,by simp,nY _,h0⟩, ?_⟩;rintro i m ys H ⟨rfl,hi,p⟩ hl
 by_cases hlt:i<n
 ·refine .inr ⟨hgo i ys H hlt p,by lia,Pv (i+1),fun ys' H'' q=>⟨n - (i+1),by lia,rfl,hlt,q⟩,fun y H2 hy=>?_⟩
  exact⟨zQh (i:=0) rfl,hs i ys H y H2 hlt hl p hy⟩
 ·have e:i=n:=by lia
  subst e;exact .inl ⟨hst ys H p,hn,hd ys H hl p⟩
theorem wS{x:Str}{F:List (Str×Nat)}{lo:Int}{n:Nat}{te:TE}{σ:St}{Q:VK}{H1:Hp}(Pv:Nat→List V→Hp→Prop)(hn:n≤sizeLine)(h0:Pv 0 [] H1)
  (hs:∀(i:Nat) ys H,i<n→ys.length≤i→Pv i ys H→te (some (.int (lo+i))::F.map (fun p=>(σ[p.2]?).join)) H fun z H4=>Pv (i+1) (ys++ [z]) H4)
  (hd:∀ys H,ys.length≤n→Pv n ys H→∀p,H p=none→Q (.ref p) (upd H p (.lst ys))):wM [x] F (qA 0) zEb te σ Q (Itr lo n) H1:=
 zAy Pv hn h0 (fun i _ _ h _=>h) (fun _ _ _=>mE _) (fun i ys H y H2 h1 h2 h3 h4=>by
  obtain⟨rfl,rfl⟩:=h4;exact hs i ys _ h1 h2 h3) hd
theorem zJf{x:Str}{F:List (Str×Nat)}{w:Str}{tt:TT}{te:TE}{σ:St}{Q:VK}{H1:Hp}(Pv:Nat→List V→Hp→Prop)(hn:(ts w).length≤sizeLine)(h0:Pv 0 [] H1)
  (hs:∀i c ys H,(ts w)[i]? =some c→ys.length≤i→Pv i ys H→tt (some (.str (tx [c]))::F.map (fun p=>(σ[p.2]?).join)) H fun b H3=>if b=true then te (some (.str (tx [c]))::F.map (fun p=>(σ[p.2]?).join)) H3 fun z H4=>Pv (i+1) (ys++ [z]) H4 else Pv (i+1) ys H3)
  (hd:∀ys H,ys.length≤(ts w).length→Pv (ts w).length ys H→∀p,H p=none→Q (.ref p) (upd H p (.lst ys))):wM [x] F (qA 0) tt te σ Q (Its w) H1:=
 zAy Pv hn h0 (fun i _ _ h _=>h) (fun _ _ _=>mE _) (fun i ys H y H2 h1 h2 h3 h4=>by
  obtain⟨rfl,c,hc,rfl⟩:=h4;exact hs i c ys _ hc h2 h3) hd
section
variable{X:Cx}{x:Str}{pos:Pos}
theorem zXv{z:Str}(hg:Gl X x)(h:∃t,X.mg x=some (.str z t))(hd:(x==("__debug__" :Str))=false:=by decide):PE X (.Name x pos) (tC (.str z)):=by
 obtain⟨t,h⟩:=h;exact xM hg h ⟨t,rfl⟩ hd
theorem zDp{z:Int}(hg:Gl X x)(h:∃t,X.mg x=some (.int z t))(hd:(x==("__debug__" :Str))=false:=by decide):PE X (.Name x pos) (tC (.int z)):=by
 obtain⟨t,h⟩:=h;exact xM hg h ⟨t,rfl⟩ hd
end
theorem yBk{CX:CXT}{P:Program}{w:World}{K:W.Frag}{mg:Str→Option Value}{base:Heap}{N:List Str}{qual:Str}{scope:Scope}{f:Addr}{cd:Value}{A:Around}{outer:List Env}{s:Shared}{H:Hp}{E:XK}:(zCf CX P w K mg base N qual scope f cd A outer s H E).K=K:=rfl
theorem nox_K{X:Cx}:X.nox.K=X.K:=rfl
theorem zRw{X:Cx}{own:List Str}{F:List (Str×Nat)}{scope:Scope}{C:Addr}{s₃:Shared}{H₃:Hp}{ex:List Addr}:(wB X own F scope C s₃ H₃ ex).K=X.K:=rfl
theorem zOm(ns:List Int):(ns.map V.int).all vW=true:=by
 rw[tM];exact pQ.mpr fun _ _=>rfl
theorem zTo(xs:List V):zEe xs []=xs.isEmpty:=by cases xs<;>rfl
end L2
namespace L2
theorem zRo:Int.natAbs 10=10:=rfl
end L2
namespace L2
open PySem PySem.Spec PyProof.Rows
def zXc(g:TG)(tb:TS)(D:zBr)(σ:St)(J:It)(H1:Hp):Prop:=∃W:Nat→Nat→St→Hp→Prop,(∃m,W 0 m σ H1)∧∀i m σ H,W i m σ H→
 (J.stop i H∧D.nx σ H)∨(J.go i H∧∃N:St→Hp→Prop,(∀σ' H',N σ' H'→∃m',m'<m∧W (i+1) m' σ' H')∧∀x H',J.yld i H x H'→g x σ H' fun σ2 H2=>tb {D with nx:=N,ct:=N,bk:=D.nx} σ2 H2)
theorem zVy(wi:TI)(g:TG)(tb:TS)(D:zBr)(σ:St)(H:Hp):tFor wi g tb D σ H=wi σ H fun J H1=>zXc g tb D σ J H1:=rfl
theorem zAt{lo:Int}{n:Nat}{g:TG}{tb:TS}{D:zBr}{σ:St}{H:Hp}(Pv:Nat→St→Hp→Prop)(h0:Pv 0 σ H)
  (hs:∀i σ H,i<n→Pv i σ H→g (.int (lo+i)) σ H fun σ2 H2=>tb {D with nx:=Pv (i+1),ct:=Pv (i+1),bk:=D.nx} σ2 H2) (hd:∀σ H,Pv n σ H→D.nx σ H):zXc g tb D σ (Itr lo n) H:=zNe Pv h0 hs hd
theorem vP{K:W.Frag}{a:Addr}{xs:List V}{g:TG}{tb:TS}{D:zBr}{σ:St}{H:Hp}(Pv:Nat→St→Hp→Prop)(h0:Pv 0 σ H)(hl:∀i σ H,i≤xs.length→Pv i σ H→SqL K H a xs)
  (hs:∀i x σ H,xs[i]? =some x→Pv i σ H→g x σ H fun σ2 H2=>tb {D with nx:=Pv (i+1),ct:=Pv (i+1),bk:=D.nx} σ2 H2) (hd:∀σ H,Pv xs.length σ H→D.nx σ H):zXc g tb D σ (Itl K a) H:=zRa Pv h0 hl hs hd
section
variable{X:Cx}
theorem uE:xW X (.type "int") (fun xs H Q=>∃k,xs= [.bl k]∧Q (.int (if k then 1 else 0)) H):=fun pins s σ H xs us Q I r h=>zOh pins s σ H xs us Q I r (.inr h)
theorem yL:xW X (.builtin "len") (fun xs H Q=>∃p,xs= [.ref p]∧∃ys,SqL X.K H p ys∧Q (.int ys.length) H):=fun pins s σ H xs us Q I r ⟨p,e,ys,h,q⟩=>qG pins s σ H xs us Q I r ⟨p,ys,e, .inl h,q⟩
end
abbrev nK(k:List Nat):Key:=Sum.inr (tx k)
theorem zAc{a b:List Nat}(h:nK a=nK b):a=b:=by
 have e:tx a=tx b:=Sum.inr.inj h;rw[←vE a,e,vE]
theorem Reps.repl{H:Hp}{k:Key}{v:V}{t:T}(hv:Rep H v t):∀{ps:List (Key×V)}{ts:List T},Reps H (ps.map (·.2)) ts→∃ts',Reps H ((ps.map fun kv=>if kv.1=k then(kv.1,v) else kv).map (·.2)) ts'∧ts'.length=ts.length∧∀u∈ts',u∈ts∨u=t
 | [],ts,h=>⟨ts,h,rfl,fun u hu=>.inl hu⟩
 | p::ps,[],h=>by
  have h':(p::ps).map (·.2)= []:=h;cases h'
 | p::ps,u::ts,⟨v',r,e,h1,h2⟩=>by
  have e':p.2::ps.map (·.2)=v'::r:=e;injection e' with e1 e2;subst e1 e2;obtain⟨ts',r',l',m'⟩:=Reps.repl hv h2
  by_cases hk:p.1=k
  ·refine⟨t::ts',⟨v,_, ?_,hv,r'⟩,by simp[l'],fun z hz=>?_⟩
   ·rw[mU,mK hk,mU]
   ·rcases mF.mp hz with q | q
    ·exact .inr q
    ·exact(m' z q).imp (mJ _) id
  ·refine⟨u::ts',⟨p.2,_, ?_,h1,r'⟩,by simp[l'],fun z hz=>?_⟩
   ·rw[mU,mG hk,mU]
   ·rcases mF.mp hz with q | q
    ·exact .inl (by rw[q];exact mM)
    ·exact(m' z q).imp (mJ _) id
theorem zWl{H:Hp}{ps:List (Key×V)}{ks:List (List Nat)}{ts:List T}{n:List Nat}{v:V}{t:T}(hk:ps.map (·.1)=ks.map nK)(hR:Reps H (ps.map (·.2)) ts)(nd:ks.Nodup)(hv:Rep H v t):
  ∃(ks':List (List Nat))(ts':List T),(yY ps (nK n) v).map (·.1)=ks'.map nK∧Reps H ((yY ps (nK n) v).map (·.2)) ts'∧ks'.Nodup∧(∀k∈ks',k∈ks∨k=n)∧(∀u∈ts',u∈ts∨u=t)∧ks'.length≤ks.length+1:=by
 unfold yY
 by_cases h:(ps.any fun kv=>decide (kv.1=nK n))=true
 ·rw[mK h]
  obtain⟨ts',r',l',m'⟩:=Reps.repl (k:=nK n) hv hR;refine⟨ks,ts', ?_,r',nd,fun k hk=>.inl hk,m',rF _⟩;rw[←hk,rL];apply aL;intro p _;show(if p.1=nK n then(p.1,v) else p).1=p.1;split<;>rfl
 ·rw[mG h]
  refine⟨ks++ [n],ts++ [t],by rw[mX,hk,mX];rfl,by rw[mX];exact Reps.snoc hv hR, ?_,fun k hk=>?_,fun u hu=>?_,by simp⟩
  ·refine zGn nd fun hm=>h (aH.mpr ?_)
   have hm':nK n∈ps.map (·.1):=by rw[hk];exact nP.mpr ⟨n,hm,rfl⟩
   obtain⟨p,hp,e⟩:=nP.mp hm';exact⟨p,hp,nB e⟩
  ·rcases mT.mp hk with q | q
   ·exact .inl q
   ·exact .inr (mO.mp q)
  ·rcases mT.mp hu with q | q
   ·exact .inl q
   ·exact .inr (mO.mp q)
theorem NiceL_iff{d:Nat}:∀{ts:List T},NiceL d ts↔∀t∈ts,Nice d t
 | []=>⟨fun _ _ h=>(nomatch h),fun _=>trivial⟩
 | u::ts=>by
  show(Nice d u∧NiceL d ts)↔_;rw[NiceL_iff (ts:=ts)];exact⟨fun h t ht=>(mF.mp ht).elim (fun e=>e▸h.1) (h.2 t),fun h=>⟨h u mM,fun t ht=>h t (mJ _ ht)⟩⟩
theorem zGg:ts (Str.ofString "abcdefghijklmnopqrstuvwxyz0123456789")=letL++zBo:=by decide+kernel
theorem zZu:ts (Str.ofString "abcdefghijklmnopqrstuvwxyz")=letL:=by decide+kernel
theorem ts_a:ts (Str.ofString "a")= [97]:=by decide+kernel
theorem ts_q:ts (Str.ofString "'")= [39]:=by decide+kernel
theorem zSw:Str.ofString "" =tx []:=by decide+kernel
theorem zCo(c k:Nat):(List.replicate k [c]).flatten=List.replicate k c:=by
 induction k with
 | zero=>rfl
 | succ k ih=>rw[nS,rO,ih,nS];rfl
theorem zBu{w:List Nat}(h1:w.length≤12)(h3:∃c r,w=c::r∧c∈letL)(h4:∀c∈w,c∈letL++zBo):yU w=true:=by
 obtain⟨c,r,rfl,hc⟩:=h3;unfold yU;simp only[pX,rA,pQ];exact⟨⟨⟨by simp,h1⟩,hc⟩,h4⟩
theorem zEk{w:List Nat}(h1:w.length≤30)(h4:∀c∈w,c∈sgnL):zBm w=true:=by
 unfold zBm;simp only[pX,rA,pQ];exact⟨h1,h4⟩
theorem zZd{i:Int}(h0:0≤i)(h1:i<26):∃c,atI (letL++zBo) i=some c∧c∈letL:=by
 obtain⟨j,rfl⟩:=tD h0;have hj:j<26:=by lia
 have hj':j<letL.length:=hj;refine⟨letL[j],xI (by rw[nV hj'];simp[hj']),rJ hj'⟩
theorem zLb:97∈letL:=by decide
theorem zAx{c:Nat}(h:c∈letL):c∈letL++zBo:=pH _ h
end L2
namespace L2
end L2
namespace L2
open PySem PySem.Spec PyProof.Rows
theorem yBf:Str.ofString " !\"#$&'()*+,-./0123456789:;<=>?@ABCDEFGHIJKLMNOPQRSTUVWXYZ[\\]^_`" ++Str.ofString "abcdefghijklmnopqrstuvwxyz{|}~" =tx sgnL:=by decide+kernel
theorem yAv:39∈sgnL:=by decide
theorem gW(cs:List Nat):((cs.map fun c=>tx [c]).map ts).flatten=cs:=by
 induction cs with
 | nil=>rfl
 | cons d r ih=>simp only[mU,rO,ih,vE];rfl
theorem HOk.sim{P:Program}{w:World}{H H':Hp}{h:Heap}(ok:HOk P w H h)(ho:∀b a,H b=some (.own a)→H' b=some (.own a))(ht:∀b xs,H b=some (.tup xs)→H' b=some (.tup xs))
  (hs:∀b u,H' b=some u→H b=some u∨(∃o,H b=some (.frz o u))∨∃o u',u= .frz o u'∧H b=some u'∧h.get? b=some o):HOk P w H' h:=fun b u e=>by
 rcases hs b u e with q |⟨o,q⟩|⟨o,u',rfl,q,g⟩
 ·exact(ok b u q).stay (fun _ _ _ z=>z) (fun c z=>ho c b z) fun c xs z=>ht c xs z
 ·obtain⟨_,z⟩:=(show ObjOk P w H h b (.frz o u) from ok b _ q)
  exact z.stay (fun _ _ _ z=>z) (fun c z=>ho c b z) fun c xs z=>ht c xs z
 ·exact⟨g,(ok b u' q).stay (fun _ _ _ z=>z) (fun c z=>ho c b z) fun c xs z=>ht c xs z⟩
section
variable{X:Cx}{pins:List (Addr×Obj)}{σ σ':St}{H H':Hp}{s s':Shared}
theorem Inv.sim(I:Inv X pins σ H s)(hn:∀b,H b=none→H' b=none)(ho:∀b a,H b=some (.own a)→H' b=some (.own a))(ht:∀b xs,H b=some (.tup xs)→H' b=some (.tup xs))
  (hb:∀b ps,H b=some (.tbl ps)→H' b=some (.tbl ps)) (hf:∀b o u,X.H₀ b=some (.frz o u)→H' b=some (.frz o u))
  (hs:∀b u,H' b=some u→H b=some u∨(∃o,H b=some (.frz o u))∨∃o u',u= .frz o u'∧H b=some u'∧s.heap.get? b=some o):Inv X pins σ H' s:=
 ⟨I.ok,I.os,I.bare,⟨I.base.keep,I.base.slot,fun b o e n hx=>hn b (I.base.free b o e n hx),I.base.there,fun b xs e=>ht b xs (I.base.tups b xs e),hf,fun b ps e=>by
  obtain⟨m,q⟩:=I.base.tbls b ps e;exact⟨m,hb b _ q⟩⟩,I.loc,I.cell,hn _ I.free,fun x c e=>hn _ (I.freeC x c e),fun p hp=>by
  obtain⟨a,b,c,d,e⟩:=I.pin p hp;exact⟨a,hn _ b,c,d,e⟩,I.hok.sim ho ht hs,I.len⟩
theorem Inv.freeze{d:Addr}{kvs:List (Key×V)}{o:Obj}(I:Inv X pins σ H s)(h:H d=some (.dK kvs))(hg:s.heap.get? d=some o):Inv X pins σ (upd H d (.frz o (.dK kvs))) s:=by
 have ne:∀b u,H b=u→u≠some (.dK kvs)→b≠d:=fun b u e n z=>by subst z;exact n (e.symm.trans h)
 refine I.sim (fun b e=>by rw[zO (ne b _ e (by intro z;cases z))];exact e) (fun b a e=>by rw[zO (ne b _ e (by intro z;cases z))];exact e) (fun b a e=>by rw[zO (ne b _ e (by intro z;cases z))];exact e)
  (fun b a e=>by rw[zO (ne b _ e (by intro z;cases z))];exact e) (fun b o' u e=>?_) fun b u e=>?_
 ·have e':=I.base.frzs b o' u e
  rw[zO (ne b _ e' (by intro z;cases z))];exact e'
 ·by_cases hb:b=d
  ·subst hb
   rw[zB] at e;cases e;exact .inr (.inr ⟨o,_,rfl,h,hg⟩)
  ·rw[zO hb] at e;exact .inl e
def thaw(H H':Hp):Hp:=fun b=>match H b with
 | some (.frz _ _)=>H' b
 | _=>match H' b with
  | some (.frz _ u)=>some u
  | y=>y
theorem zJd{b:Addr}{o:Obj}{u:HO}(h:H b=some (.frz o u)):thaw H H' b=H' b:=by unfold thaw;rw[h]
theorem zOd{b:Addr}(h:H' b=none):thaw H H' b=none:=by unfold thaw;rw[h];split<;>rfl
theorem wC{b:Addr}{u:HO}(h:H' b=some u)(n:∀o v,u≠ .frz o v):thaw H H' b=some u:=by
 unfold thaw;rw[h];split
 ·rfl
 ·cases u<;>first | rfl | exact absurd rfl (n _ _)
theorem zWa{b:Addr}{o:Obj}{u:HO}(h:H' b=some (.frz o u))(n:∀o v,H b≠some (.frz o v)):thaw H H' b=some u:=by
 unfold thaw;rw[h]
 cases e:H b with
 | none=>rfl
 | some v=>cases v<;>first | rfl | exact absurd e (n _ _)
theorem zRm{b:Addr}{u:HO}(h:thaw H H' b=some u):H' b=some u∨∃o,H' b=some (.frz o u):=by
 unfold thaw at h;split at h
 ·exact .inl h
 ·split at h
  ·rename_i o v e
   cases h;exact .inr ⟨_,e⟩
  ·exact .inl h
theorem Inv.thaw(I:Inv X pins σ H s)(J:Inv X pins σ' H' s'):Inv X pins σ' (thaw H H') s':=
 J.sim (fun b e=>zOd e) (fun b a e=>wC e (by intro o v z;cases z)) (fun b a e=>wC e (by intro o v z;cases z)) (fun b a e=>wC e (by intro o v z;cases z))
  (fun b o u e=>by rw[zJd (I.base.frzs b o u e)];exact J.base.frzs b o u e) fun b u e=>(zRm e).imp id .inl
theorem zFm{H H':Hp}(h:∀b u,H b=some u→H' b=some u∨((∃o,H' b=some (.frz o u))∧∀o v,u≠ .frz o v)):Same H (L2.thaw H H'):=fun b u e=>by
 rcases h b u e with q |⟨⟨o,q⟩,n⟩
 ·cases u with
  | frz o v=>rw[zJd e];exact q
  | _=>exact wC q (by intro o v z;cases z)
 ·refine zWa q fun o' v z=>?_
  rw[e] at z;cases z;exact n _ _ rfl
def zSg(t:TE):TE:=fun σ H Q=>t σ H fun v H'=>Q v (thaw H H')
theorem uL{e:Expr}{t:TE}(h:PE X e t):PE X e (zSg t):=by
 intro pins s σ H Q I q;refine thn (h pins s σ H _ I q) fun u s1 ⟨v,H1,I1,r,q1⟩=>⟨v,_,I.thaw I1,r,q1⟩
end
theorem KV.get{κ:Type}:∀{kvs:List (κ×V)}{vs:List (κ×Value)}{i:Nat}{kv:κ×V},KV kvs vs→kvs[i]? =some kv→∃q,vs[i]? =some q∧kv.1=q.1∧RelV kv.2 q.2
 | _,_,_,_, .nil,e=>by simp at e
 | _,_,0,_, .cons r _,e=>by simp at e;subst e;exact⟨_,rfl,r⟩
 | _,_,i+1,x, .cons _ t,e=>by
  obtain⟨u,h1,h2⟩:=KV.get (i:=i) (kv:=x) t (by simpa using e);exact⟨u,by simpa using h1,h2⟩
theorem zGm{P:Program}{w:World}{k:Key}{u:Value}(h:(yO P w).is k u=true):RelV (kV k) u:=by
 rcases xQ (show zDd k u=true from h) with⟨i,t,rfl,rfl⟩|⟨x,t,rfl,rfl⟩
 ·exact⟨t,rfl⟩
 ·exact⟨t,rfl⟩
theorem uI{P:Program}{w:World}{H:Hp}{h:Heap}{d:Addr}{o:Obj}{kvs:List (Key×V)}{es:Array DictEntry}{ep:Nat}(ok:HOk P w H h)(e:H d=some (.frz o (.dK kvs)))(he:o.data= .dict es ep):
  ∃vs,KV kvs vs∧h.DictAt (yO P w) d vs ep∧(d==sysModules)=false∧kvs.length≤sizeLine:=by
 obtain⟨g,z,hd,vs,rel,o',es',ep',ho,c,hdat,r⟩:=(show ObjOk P w H h d (.frz o (.dK kvs)) from ok d _ e);rw[g] at ho;cases ho;rw[he] at hdat;cases hdat;exact⟨vs,rel,⟨o,es,g,c,he,r⟩,hd,z⟩
def Itd(d:Addr)(o:Obj)(kvs:List (Key×V)):It:=
 ⟨fun i H=>i<kvs.length∧H d=some (.frz o (.dK kvs)),fun i H y H'=>H'=H∧∃kv,kvs[i]? =some kv∧y=kV kv.1,fun i H=>kvs.length≤i∧H d=some (.frz o (.dK kvs))⟩
theorem zOa{P:Program}{w:World}{K:W.Frag}{tg:Expr}(d it:Addr)(o:Obj)(kvs:List (Key×V)):zGj P w K tg (Itd d o kvs) [it] it (fun i h=>∃es ep,o.data= .dict es ep∧h.IsKeyIter it d i kvs.length ep) where
 mem:=by simp
 obj:=fun i h st b hb=>by
  obtain⟨es,ep,_,ob,e,c,dd⟩:=st;have e':b=it:=by simpa using hb
  subst e';exact⟨ob,e,fun v z=>by rw[dd] at z;cases z⟩
 keep:=fun i h h' st k=>by
  obtain⟨es,ep,a,st⟩:=st;exact⟨es,ep,a,st.at fun ob e=>k it (by simp) ob e⟩
 item:=by
  intro X hP hw hK hc i pins s σ H E I hf st hg;subst hP hw hK;obtain⟨es,ep,hes,st⟩:=st;obtain⟨hi,hg⟩:=hg;obtain⟨vs,rel,hm,_,_⟩:=uI I.hok hg hes;obtain⟨f0,f1,f2,f3,f4,f5⟩:=hf it (by simp);have hl:=rel.length;obtain⟨kv,hkv⟩:∃kv,kvs[i]? =some kv:=⟨kvs[i],by simp[hi]⟩;obtain⟨q,hq,hq1,hq2⟩:=KV.get rel hkv;rw[hl] at st;refine wpAny_pyNext_dict_item (k:=q.1) (v:=q.2) st hm hq fun key h' hk st' sb=>?_;have I1:Inv X pins σ H {s with heap:=h'}:=I.turned (t':=s.toks) (fun b o hb e=>(sb.2 b hb).trans e) f0 f1 f3 f4 f5;obtain⟨ob,e,c,dd⟩:=id st';exact⟨key,rfl,zFt (s:={s with heap:=h'}) e c dd (by decide) ⟨kV kv.1,H,I1,by rw[hq1];exact zGm hk,⟨rfl,kv,hkv,rfl⟩,⟨es,ep,hes,by rw[hl];exact st'⟩,fun b hb=>(hf b hb).1⟩⟩
 done:=by
  intro X hP hw hK hc i pins s σ H E I hf st hg;subst hP hw hK;obtain⟨es,ep,hes,st⟩:=st;obtain⟨hi,hg⟩:=hg;obtain⟨vs,rel,hm,_,_⟩:=uI I.hok hg hes;obtain⟨f0,f1,f2,f3,f4,f5⟩:=hf it (by simp);have hl:=rel.length;rw[hl] at st;exact wpAny_pyNext_dict_end (I.ok.hd hc) st hm (by simp;lia) fun h' eb=>⟨rfl,I.turned (t':=s.toks) (fun b o hb e=>eb b o hb e) f0 f1 f3 f4 f5⟩
 self:=fun _ _ _ _ _ st h=>by
  obtain⟨es,ep,_,st⟩:=st;exact wpAny_pyIter_keyiter st h
def zPy(tl:TE):TI:=fun σ H R=>tl σ H fun x H1=>∃d kvs,x= .ref d∧((H1 d=some (.dK kvs)∧∀o,R (Itd d o kvs) (upd H1 d (.frz o (.dK kvs))))∨∃o,H1 d=some (.frz o (.dK kvs))∧R (Itd d o kvs) H1)
section
variable{X:Cx}
theorem zAj{tg l:Expr}{tl:TE}(hl:PE X l tl):PI X tg l (zPy tl):=by
 intro pins s σ H R I h;refine thn (hl pins s σ H _ I h) fun v s1 ⟨x,H1,I1,r1,q1⟩=>?_;obtain⟨d,kvs,rfl,q⟩:=q1;cases r1;have fin:∀o H2,Inv X pins σ H2 s1→H2 d=some (.frz o (.dK kvs))→R (Itd d o kvs) H2→wpAny (model X.prog X.w) X.A (pyIter (.ref d)) (PIE X pins σ tg R) X.xe s1:=fun o H2 I2 e q=>by
  obtain⟨g,z,hd,vs,rel,o',es,ep,ho,c,hdat,r⟩:=(show ObjOk X.prog X.w H2 s1.heap d (.frz o (.dK kvs)) from I2.hok d _ e);rw[g] at ho;cases ho;have hm:s1.heap.DictAt (yO X.prog X.w) d vs ep:=⟨o,es,g,c,hdat,r⟩;refine wpAny_pyIter_dict hd hm ?_;refine⟨s1.heap.objs.size,[s1.heap.objs.size],_,_,H2,rfl,I2.kept (t':=s1.toks) fun b o e=>mN _ e,zOa d _ o kvs,⟨es,ep,hdat,_,nC _ rfl,rfl,by rw[rel.length];rfl⟩,fun b hb=>?_,q⟩;have e:b=s1.heap.objs.size:=by simpa using hb
  subst e;exact I2.fpOk (mE _) (I2.hok.fresh (mE _))
 rcases q with⟨e,q⟩|⟨o,e,q⟩
 ·obtain⟨z,hd,vs,rel,o,es,ep,ho,_⟩:=(show ObjOk X.prog X.w H1 s1.heap d (.dK kvs) from I1.hok d _ e)
  exact fin o _ (I1.freeze e ho) zB (q o)
 ·exact fin o _ I1 e q
theorem kA{x:Str}{F:List (Str×Nat)}{d:Addr}{o:Obj}{kvs:List (Key×V)}{tt:TT}{te:TE}{σ:St}{Q:VK}{H1:Hp}(Pv:Nat→List V→Hp→Prop)(hn:kvs.length≤sizeLine)(h0:Pv 0 [] H1)(hz:∀i ys H,Pv i ys H→H d=some (.frz o (.dK kvs)))
  (hs:∀i kv ys H,kvs[i]? =some kv→ys.length≤i→Pv i ys H→tt (some (kV kv.1)::F.map (fun p=>(σ[p.2]?).join)) H fun b H3=>if b=true then te (some (kV kv.1)::F.map (fun p=>(σ[p.2]?).join)) H3 fun z H4=>Pv (i+1) (ys++ [z]) H4 else Pv (i+1) ys H3)
  (hd:∀ys H,ys.length≤kvs.length→Pv kvs.length ys H→∀p,H p=none→Q (.ref p) (upd H p (.lst ys))):wM [x] F (qA 0) tt te σ Q (Itd d o kvs) H1:=
 zAy Pv hn h0 (fun i ys H h p=>⟨h,hz i ys H p⟩) (fun ys H p=>⟨mE _,hz _ ys H p⟩) (fun i ys H y H2 h1 h2 h3 h4=>by
  obtain⟨rfl,kv,hkv,rfl⟩:=h4;exact hs i kv ys _ hkv h2 h3) hd
theorem vF{K:W.Frag}{x:Str}{F:List (Str×Nat)}{a:Addr}{xs:List V}{tt:TT}{te:TE}{σ:St}{Q:VK}{H1:Hp}(Pv:Nat→List V→Hp→Prop)(hn:xs.length≤sizeLine)(h0:Pv 0 [] H1)(hz:∀i ys H,i≤xs.length→Pv i ys H→SqL K H a xs)
  (hs:∀i v ys H,xs[i]? =some v→ys.length≤i→Pv i ys H→tt (some v::F.map (fun p=>(σ[p.2]?).join)) H fun b H3=>if b=true then te (some v::F.map (fun p=>(σ[p.2]?).join)) H3 fun z H4=>Pv (i+1) (ys++ [z]) H4 else Pv (i+1) ys H3)
  (hd:∀ys H,ys.length≤xs.length→Pv xs.length ys H→∀p,H p=none→Q (.ref p) (upd H p (.lst ys))):wM [x] F (qA 0) tt te σ Q (Itl K a) H1:=
 zAy Pv hn h0 (fun i ys H h p=>⟨xs,xs[i],hz i ys H (bC h) p,by simp[h]⟩) (fun ys H p=>⟨xs,hz _ ys H (mE _) p,mE _⟩) (fun i ys H y H2 h1 h2 h3 h4=>by
  obtain⟨rfl,hy⟩:=h4;exact hs i y ys _ (hy xs (hz i ys _ (bC h1) h3)) h2 h3) hd
def zAg(p d:Addr):HO:=.ext fun h=>h.IsValuesView p d
theorem zMo{κ:Type}:∀{kvs:List (κ×V)}{vs:List (κ×Value)},KV kvs vs→Vals (kvs.map (·.2)) (vs.map (·.2))
 | _,_, .nil=>.nil
 | _,_, .cons r t=>.cons r.2 (zMo t)
def zPw:V→List V→Hp→VK→Prop:=fun x vs H Q=>∃d kvs,x= .ref d∧vs= []∧Rd H d (.dK kvs)∧∀p,H p=none→Q (.ref p) (upd H p (zAg p d))
theorem zBn:MtR X "dict.values" zPw:=by
 intro pins s σ H x vs v us Q I rx rv h;obtain⟨d,kvs,rfl,rfl,hq,q⟩:=h;cases rx;cases rv;obtain⟨z,hd,ws,rel,dd⟩:=jK I.hok hq;refine call_meetsIn aJ dd.typeIs PySem.F.entry_dict_values (PySem.F.args_dict_values_1 _) (meets_dict_values (yO X.prog X.w) d hd) ⟨⟨ws,dd⟩, ?_⟩;refine⟨.ref s.heap.objs.size,_,I.laid (t':=s.toks) (fun b o e=>mN _ e) (mE _) (o:=zAg s.heap.objs.size d) ?_,rfl,q _ (I.hok.fresh (mE _))⟩;exact⟨⟨_,nC _ rfl,rfl,rfl⟩,⟨_,nC _ rfl⟩,fun h1 h2 ⟨o,e,r⟩ k=>⟨o,k o e,r⟩⟩
theorem gG(hc:X.calm=true):xW X (.type "list") (fun xs H Q=>∃p d kvs,xs= [.ref p]∧H p=some (zAg p d)∧Rd H d (.dK kvs)∧∀l,H l=none→Q (.ref l) (upd H l (.lst (kvs.map (·.2))))):=by
 intro pins s σ H xs us Q I r h;obtain⟨p,d,kvs,rfl,hp,hq,q⟩:=h;obtain⟨u,rfl,rx⟩:=vG r;cases rx;obtain⟨z,hd,vs,rel,dd⟩:=jK I.hok hq;obtain⟨hv,_⟩:=(show ObjOk X.prog X.w H s.heap p (zAg p d) from I.hok p _ hp);obtain⟨ep,hat⟩:=dd.dictAt;have hl:=rel.length;refine W.kdl_call (W.kdl_values (knd:=yO X.prog X.w) (kvs:=vs) (ep:=ep)) (I.ok.hd hc) ⟨hv,hat⟩ (by lia) fun h' tk acc c' hk hg hi=>?_;refine⟨.ref s.heap.objs.size,_,I.laid (t':=tk) hk (mE _) (o:=.lst (kvs.map (·.2))) ?_,rfl,q _ (I.hok.fresh (mE _))⟩;have e:acc.toList=vs.map (·.2):=W.kdl_vals_eq acc.toList (by rw[aK];exact hi.1) (fun j v e=>hi.2 j v (by rw[←sJ];exact e));exact⟨by rw[mI];exact z,acc.toList,c',by rw[e];exact zMo rel,by simpa using hg⟩
end
theorem zGs:typeLookup (.type "list") "keys" =pure none:=am_miss_of_fast (by decide+kernel)
theorem uP:entryFor table "dict.update.loop" =some Builtin.«dict.update.loop»:=entryFor_of_tree (by kernel_rfl)
theorem vU:plainId "dict.update.loop" =true:=by decide+kernel
section
variable{prog:Program}{w:World}{A:Around}{E:Value→Shared→Prop}
theorem zOo{s:Shared}{a:Addr}{xs:Array Value}{k:Nat}{name:Str}{Q:Option Value→Shared→Prop}
  (hx:s.heap.get? a=some {cls:=.type "list",dict:=none,data:=.seq xs k,slots:=#[]}) (hmiss:typeLookup (.type "list") name=pure none) (hname:(["__module__","__name__","__qualname__","__doc__","__annotations__"]:List Str).contains name=false) (hA:A.handled=none)
  (h:∀h' tk,(∀b o,s.heap.get? b=some o→h'.get? b=some o)→Q none {s with heap:=h',toks:=tk}) (hsz:name.length+100≤sizeLine:=by size_fits):
  wpAny (model prog w) A (getAttr? (.ref a) name) Q E s:=by
 obtain⟨hp,g,d,tk,os⟩:=s;have hT:∀tk',(⟨hp,g,d,tk',os⟩:Shared).TypeIs (.ref a) "list":=fun _=>⟨_,hx,rfl⟩;have f1:=sub_AttributeError;have f3:=F.slot_list_getattribute.lookup;have f4:=F.slot_list_getattribute.bind (.ref a);have f5:=am_list_getattr_none;unfold getAttr? getAttrBy? getAttrBy
 repeat (any_goals (first | assumption | exact hT _ |((with_reducible show wpAny _ _ (call (Value.builtin "list.__getattribute__") _ _) _ _ _);refine aS F.slot_list_getattribute (hT _) am_entry_list_getattribute (F.args_list_getattribute_2 _ _) (meets_getattribute_miss_list a xs k #[] name _ hmiss hname hsz) ⟨hx,hA,fun h' tk' e hx'=>?_⟩)| wp_step))
 obtain⟨t',u',he⟩:=hx'.there;show wpAny _ _ (getattributeRaised _ _ _ _ _ _ _) _ _ _;unfold getattributeRaised
 repeat (any_goals (first | assumption | wp_step))
 exact h h' tk' fun b o e=>hx'.keeps b o e
theorem zWn{κ:Type} [DecidableEq κ] (knd:KeyKind prog w κ) (hh:A.handled=none) {d it l:Addr} {items:Array Value} {ps:List (κ×Value)} {R:Result→Shared→Prop} (hdi:d≠it) (hdl:d≠l) (hil:it≠l) (hps:ps.length=items.size):
  ∀(n i:Nat)(s:Shared)(kvs:List (κ×Value)),items.size - i=n→i≤items.size→s.heap.IsListIter it l i→s.heap.IsList l items→
   (∀(j:Nat) k v,ps[j]? =some (k,v)→∃a key,items[j]? =some (.ref a)∧a≠d∧a≠it∧IsTup s.heap a #[key,v]∧knd.is k key=true)→s.heap.DictOf knd d kvs→kvs.length+n≤sizeLine→
   (∀h' tk,h'.DictOf knd d ((ps.drop i).foldl (fun m kv=>stored m kv.1 kv.2) kvs)→(∀b o,b≠d→b≠it→s.heap.get? b=some o→h'.get? b=some o)→R (.ok (.ret .none)) {s with heap:=h',toks:=tk})→
   codeAny (model prog w) A (.builtin "dict.update.loop" ⟨[.ref d, .ref it,rawInt i, .none],[]⟩) R s:=by
 intro n
 induction n with
 | zero=>
  intro i s kvs hn hi hit hl hp hd hz hR;refine bQ uP ?_;rw[aD vU _];unfold Builtin.«dict.update.loop»;show wpAny _ A.in1 (pyNext (.ref it)>>=_) _ _ s;refine mD (bD (show A.in1.handled=none from hh) hit hl (by simp;lia) fun h' eb=>?_);show wpAny _ _ (Builtin.Dict.addKeywords d []>>=fun _=>ret .none) _ _ _;refine mD (mS (mS (hR h' _ ?_ fun b o hb hi' e=>eb b o hi' e)));rw[tJ (by lia)];exact hd.extBut eb hdi
 | succ n ih=>
  intro i s kvs hn hi hit hl hp hd hz hR;refine bQ uP ?_;rw[aD vU _];unfold Builtin.«dict.update.loop»;have hlt:i<items.size:=by lia
  obtain⟨kv,hkv⟩:∃kv,ps[i]? =some kv:=⟨ps[i],by simp[hps,hlt]⟩;obtain⟨a,key,ha,had,hai,ht,hk⟩:=hp i kv.1 kv.2 hkv;show wpAny _ A.in1 (pyNext (.ref it)>>=_) _ _ s;refine mD (aX hit hl (x:=.ref a) ha fun h' st' sb=>?_);show wpAny _ _ (holding [Value.ref a] (Sem.tryCatch (Builtin.Dict.pairItems (.ref a)) _>>=_)>>=fun _=>again _) _ _ _;have kp:∀b o,b≠it→s.heap.get? b=some o→h'.get? b=some o:=fun b o hb e=>(sb.2 b hb).trans e;obtain⟨o,ho,hc,m,hdat⟩:=id ht;refine mD (pT (mD (bF ?_)));unfold Builtin.Dict.pairItems;refine mD (wpAny_typeOf (T:="tuple") ⟨o,kp a o hai ho,hc⟩ ?_);rw[mK (by decide)];refine mD (cR (kp a o hai ho) hdat (mS ?_));show wpAny _ _ (holding [key,kv.2] (dictSet d key kv.2)) _ _ _;refine pT (wpAny_dictSet_pairs hk (hd.sameBut sb hdi) (fun h2 hd2 sb2=>?_) (by lia));have kp2:∀b o,b≠d→b≠it→s.heap.get? b=some o→h2.get? b=some o:=fun b o hb hi' e=>(sb2.2 b hb).trans (kp b o hi' e);have hc':((i:Int)+1)=((i+1:Nat):Int):=by lia
  rw[hc'];refine mS ⟨bM vU _,ih (i+1) _ (stored kvs kv.1 kv.2) (by lia) (by lia) ?_ ?_ ?_ hd2 ?_ ?_⟩
  ·exact st'.at fun o e=>(sb2.2 it (Ne.symm hdi)).trans e
  ·obtain⟨ol,e1,e2⟩:=hl
   exact⟨ol,kp2 l ol (Ne.symm hdl) (Ne.symm hil) e1,e2⟩
  ·intro j k v e
   obtain⟨a',key',x1,x2,x3,⟨o',y1,y2⟩,x5⟩:=hp j k v e;exact⟨a',key',x1,x2,x3,⟨o',kp2 a' o' x2 x3 y1,y2⟩,x5⟩
  ·have:(stored kvs kv.1 kv.2).length≤kvs.length+1:=by
    unfold stored;split<;>simp
   lia
  ·intro h3 tk hd3 k3
   refine hR h3 tk ?_ fun b o hb hi' e=>k3 b o hb hi' (kp2 b o hb hi' e);have e:ps.drop i=kv::ps.drop (i+1):=by
    obtain⟨hlt',e'⟩:=mQ.mp hkv;rw[sK hlt',e']
   rw[e,aR];exact hd3
end
section
variable{X:Cx}
theorem zIt{P:Program}{w:World}{H:Hp}{h:Heap}(ok:HOk P w H h):∀{kvs:List (Key×V)}{ys:List V}{its:List Value},Vals ys its→kvs.length=ys.length→(∀(j:Nat) kv,kvs[j]? =some kv→∃a,ys[j]? =some (.ref a)∧H a=some (.tup [kV kv.1,kv.2]))→
  ∃ps:List (Key×Value),KV kvs ps∧∀(j:Nat) k v,ps[j]? =some (k,v)→∃a key,its[j]? =some (.ref a)∧IsTup h a #[key,v]∧(yO P w).is k key=true
 | [],[],_, .nil,_,_=>⟨[], .nil,fun j k v e=>by simp at e⟩
 | kv::kvs,y::ys,_, .cons r t,hl,hp=>by
  obtain⟨ps,rel,h2⟩:=zIt ok (kvs:=kvs) t (by simpa using hl) fun j kv' e=>by
   obtain⟨a,e1,e2⟩:=hp (j+1) kv' (by simpa using e);exact⟨a,by simpa using e1,e2⟩
  obtain⟨a,e1,e2⟩:=hp 0 kv rfl;simp only[pP,Option.some.injEq] at e1;subst e1;cases r;obtain⟨_,its2,rv,pl⟩:=(show ObjOk P w H h a (.tup [kV kv.1,kv.2]) from ok a _ e2);obtain⟨u1,u2,e3,r1,r2⟩:=uM rv;subst e3;refine⟨(kv.1,u2)::ps, .cons ⟨rfl,r2⟩ rel,fun j k v e=>?_⟩
  cases j with
  | zero=>
   simp only[pP,Option.some.injEq,Prod.mk.injEq] at e;obtain⟨rfl,rfl⟩:=e;exact⟨a,u1,rfl,pl,zBw r1⟩
  | succ j=>simpa using h2 j k v (by simpa using e)
 | [],_::_,_,_,hl,_=>by simp at hl
 | _::_,[],_,_,hl,_=>by simp at hl
theorem jH(hc:X.calm=true):xW X (.type "dict") (fun xs H Q=>∃(p:Addr)(ys:List V)(kvs:List (Key×V)),xs= [.ref p]∧H p=some (.lst ys)∧kvs.length=ys.length∧(∀(j:Nat) kv,kvs[j]? =some kv→∃a,ys[j]? =some (.ref a)∧H a=some (.tup [kV kv.1,kv.2]))∧
  ∀l,H l=none→Q (.ref l) (upd H l (.dK (wZ [] kvs)))):=by
 intro pins s σ H xs us Q I r h;obtain⟨p,ys,kvs,rfl,hq,hlen,hpair,q⟩:=h;obtain⟨u,rfl,rx⟩:=vG r;cases rx;obtain⟨hz,its,n,rv,hg⟩:=(show ObjOk X.prog X.w H s.heap p (.lst ys) from I.hok p _ hq);obtain⟨ps,rel,hps⟩:=zIt I.hok rv hlen hpair;have hl1:=rv.length;have hl2:=rel.length;have hplt:p<s.heap.objs.size:=mY hg;refine callType_codes (Q₁:=fun obj s₁=>obj= .ref s.heap.objs.size∧s₁={s with heap:=s.heap.push {cls:=.type "dict",data:=.dict #[]}}) F.kt_called_dict (F.kt_typeCall_dict_1 _) F.entry_dict_init (kt_code_dict_new _ ⟨rfl,rfl⟩) ?_;rintro obj s₁ ⟨rfl,rfl⟩;have hnew:(s.heap.push {cls:=.type "dict",data:=.dict #[]}).DictOf (yO X.prog X.w) s.heap.objs.size []:=Heap.DictOf.new s.heap;have hg1:=mN {cls:=.type "dict",data:=.dict #[]} hg;refine⟨hnew.typeIs,F.args_dict_init_2 _ _, ?_⟩;unfold Builtin.«dict.__init__»;refine mD ?_;unfold Builtin.Dict.selfAndRest;refine mD (wpAny_notOrdered_dict hnew.typeIs ?_);show wpAny _ _ (pure (s.heap.objs.size,[Value.ref p])) _ _ _;refine mS ?_;show wpAny _ _ (Builtin.Dict.updateFrom "dict.__init__" s.heap.objs.size (.ref p) [] .none) _ _ _;unfold Builtin.Dict.updateFrom;refine mD (wpAny_typeOf (T:="list") ⟨_,hg1,rfl⟩ ?_);rw[mK (by decide)];refine mD (zOo hg1 zGs (by decide+kernel) (I.ok.hd hc) (fun h2 tk2 k2=>?_));rw[mK (by rfl)];refine mD (wpAny_rule (mD (cC (items:=its.toArray) ⟨_,k2 _ _ hg1,rfl,n,rfl⟩ ?_)));have k1:∀b o,s.heap.get? b=some o→h2.get? b=some o:=fun b o e=>k2 b o (mN _ e);have hd2:s.heap.objs.size<h2.objs.size:=mY (k2 _ _ (nC _ rfl));have hpl:∀b o,h2.get? b=some o→(h2.push {cls:=.type "list_iterator",data:=.fields #[.ref p, .int 0 0]}).get? b=some o:=fun b o e=>mN _ e;refine mS ⟨bM vU _,zWn (yO X.prog X.w) (show X.A.in1.handled=none from I.ok.hd hc) (d:=s.heap.objs.size) (it:=h2.objs.size) (l:=p) (items:=its.toArray) (ps:=ps) (nO hd2) (rK hplt) (rK (cL hplt hd2)) (by simp;lia) _ 0 _ [] rfl (nY _) ?_ ?_ ?_ ?_ ?_ ?_⟩
 ·exact⟨_,nC _ rfl,rfl,rfl⟩
 ·exact⟨_,hpl _ _ (k2 _ _ hg1),rfl,n,rfl⟩
 ·intro j k v e
  obtain⟨a,key,e1,⟨o,e2,e3⟩,e4⟩:=hps j k v e;have hlt:=mY e2;exact⟨a,key,by simpa using e1,nO hlt,nO (cL hlt hd2),⟨o,hpl _ _ (k1 _ _ e2),e3⟩,e4⟩
 ·obtain⟨o,es,ep,ho,rest⟩:=hnew
  exact⟨o,es,ep,hpl _ _ (k2 _ _ ho),rest⟩
 ·simp;lia
 ·intro h3 tk3 hd3 k3
  rw[tF] at hd3;have k4:∀b o,s.heap.get? b=some o→h3.get? b=some o:=fun b o e=>k3 b o (nO (mY e)) (nO (cL (mY e) hd2)) (hpl _ _ (k1 _ _ e));refine⟨rfl, .ref s.heap.objs.size,_,I.laid (t':=tk3) k4 (mE _) (o:=.dK (wZ [] kvs)) ?_,rfl,q _ (I.hok.fresh (mE _))⟩;have hm:(wZ [] kvs).length≤kvs.length:=by
   have:=jM kvs []
   simpa using this
  exact zGi (by lia) (tE.mpr (Ne.symm (nO I.big))) (KV.merge rel .nil) hd3
end
structure Bl2(mg:Str→Option Value):Prop extends Bl mg where
 max:mg "max" =none
 min:mg "min" =none
 sorted:mg "sorted" =none
def mxI(b z:Int):Int:=if z>b then z else b
def mxD(k:Int):List Int→Int
 | []=>k
 | b::r=>r.foldl mxI b
theorem zUa(a d:Value):argsOk "max" ⟨[a],[("default",d)]⟩:=by unfold argsOk;kernel_rfl
section
variable{prog:Program}{w:World}{A:Around}
theorem zVz{it l S:Addr}{items:List Value}{ns:List Int}(hh:A.handled=none)(hi:Vals (ns.map V.int) items)(hSi:S≠it)(hSl:S≠l)(hil:it≠l)(dv:Value){R:Result→Shared→Prop}:
  ∀(n i:Nat)(s:Shared)(c:Nat)(b:Int)(tb:Tok),ns.length - i=n→i≤ns.length→s.heap.IsListIter it l i→s.heap.IsList l items.toArray→s.heap.get? S=some {cls:=.type "list",dict:=none,data:=.seq #[.int b tb, .int b tb] c,slots:=#[]}→
   (∀h' tk t,(∀x o,x≠S→x≠it→s.heap.get? x=some o→h'.get? x=some o)→R (.ok (.ret (.int ((ns.drop i).foldl mxI b) t))) {s with heap:=h',toks:=tk})→
   codeAny (model prog w) A (.builtin "max.loop" ⟨[.ref it, .none, .ref S],[("default",dv)]⟩) R s:=by
 have hnm:(toString "max" ++toString ".loop" :String)= "max.loop":=by decide
 intro n
 induction n with
 | zero=>
  intro i s c b tb hn hin st hl hS hR;refine bQ dL ?_;rw[aD tG _];show wpAny _ A.in1 (seqItems? (.ref S)>>=_) _ _ s;refine mD (cR hS rfl ?_);have hlen:=hi.length;rw[mI] at hlen;refine mD (bF (bD (show A.in1.handled=none from hh) st hl (by simp;lia) fun h' eb=>?_));show wpAny _ A.in1 (updateSeq S (fun _=>#[])>>=_) _ _ _;refine mD (dR (eb S _ hSi hS) rfl (mD (cV (mS ?_))));have q:=hR (h'.update S (Obj.mapSeq fun _=>#[])) s.toks tb fun x o hx hxi e=>(nJ _ _ (Ne.symm hx)).trans (eb x o hxi e);rw[tJ (by lia)] at q;exact q
 | succ n ih=>
  intro i s c b tb hn hin st hl hS hR;have hlt:i<ns.length:=by lia
  have hlen:=hi.length;rw[mI] at hlen;obtain⟨z,hz⟩:∃z,ns[i]? =some z:=⟨ns[i],by simp[hlt]⟩;obtain⟨u,ht,t,rfl⟩:=hi.get (i:=i) (x:=.int z) (by rw[nD,hz];rfl);have ed:ns.drop i=z::ns.drop (i+1):=by
   obtain⟨h1,e1⟩:=mQ.mp hz;rw[sK h1,e1]
  refine bQ dL ?_;rw[aD tG _];show wpAny _ A.in1 (seqItems? (.ref S)>>=_) _ _ s;refine mD (cR hS rfl ?_);refine mD (bF (aX st hl (x:=.int z t) (by simpa using ht) fun h' st' sb=>?_));have kp:∀x o,x≠it→s.heap.get? x=some o→h'.get? x=some o:=fun x o hx e=>(sb.2 x hx).trans e;have hS':=kp S _ hSi hS;have hl':h'.IsList l items.toArray:=by
   obtain⟨o,e1,e2⟩:=hl;exact⟨o,kp l o (Ne.symm hil) e1,e2⟩
  show wpAny _ A.in1 (tryCatch (holding [Value.int z t,Value.int z t] (richCompare .Gt (.int z t) (.int b tb)>>=_)) _>>=_) _ _ _;refine mD (bF (pT (mD (show wpAny (model prog w) A.in1 (compareOp .Gt (.int z t) (.int b tb)) _ _ _ from gt_int ?_))));refine mD (pT (pZ (mD (cV (mS ?_)))))
  by_cases hb:z>b
  ·rw[nB hb,mK rfl]
   refine mD (dR hS' rfl (mD (cV ?_)));rw[hnm];refine mS ⟨bM tG _,ih (i+1) _ _ z t (by lia) (by lia) ?_ ?_ (tR _ hS' rfl) fun h2 tk t2 k2=>?_⟩
   ·exact st'.at fun o e=>(nJ _ _ hSi).trans e
   ·obtain⟨o,e1,e2⟩:=hl'
    exact⟨o,(nJ _ _ hSl).trans e1,e2⟩
   ·have q:=hR h2 tk t2 fun x o hx hxi e=>k2 x o hx hxi ((nJ _ _ (Ne.symm hx)).trans (kp x o hxi e))
    rw[ed,aR,show mxI b z=z from mK hb] at q;exact q
  ·rw[nE hb,mG nA]
   refine mD (cV ?_);rw[hnm];refine mS ⟨bM tG _,ih (i+1) _ _ b tb (by lia) (by lia) st' hl' hS' fun h2 tk t2 k2=>?_⟩;have q:=hR h2 tk t2 fun x o hx hxi e=>k2 x o hx hxi (kp x o hxi e);rw[ed,aR,show mxI b z=b from mG hb] at q;exact q
theorem zSy{it l S:Addr}{items:List Value}{ns:List Int}{s:Shared}{c:Nat}(hh:A.handled=none)(hi:Vals (ns.map V.int) items)(hSi:S≠it)(hSl:S≠l)(hil:it≠l)(dv:Value){R:Result→Shared→Prop}
  (st:s.heap.IsListIter it l 0) (hl:s.heap.IsList l items.toArray) (hS:s.heap.get? S=some {cls:=.type "list",dict:=none,data:=.seq #[] c,slots:=#[]})
  (hR:∀h' tk v,(∀x o,x≠S→x≠it→s.heap.get? x=some o→h'.get? x=some o)→(match ns with | []=>v=dv | b::r=>∃t,v= .int (r.foldl mxI b) t)→R (.ok (.ret v)) {s with heap:=h',toks:=tk}):
  codeAny (model prog w) A (.builtin "max.loop" ⟨[.ref it, .none, .ref S],[("default",dv)]⟩) R s:=by
 have hnm:(toString "max" ++toString ".loop" :String)= "max.loop":=by decide
 have hlen:=hi.length;rw[mI] at hlen;refine bQ dL ?_;rw[aD tG _];show wpAny _ A.in1 (seqItems? (.ref S)>>=_) _ _ s;refine mD (cR hS rfl ?_)
 cases ns with
 | nil=>
  refine mD (bF (bD (show A.in1.handled=none from hh) st hl (by simp at hlen;simp[hlen]) fun h' eb=>?_));refine mD (wpAny_rule (mS ?_));exact hR h' s.toks dv (fun x o _ hx e=>eb x o hx e) rfl
 | cons z r=>
  obtain⟨u,ht,t,rfl⟩:=hi.get (i:=0) (x:=.int z) rfl;refine mD (bF (aX st hl (x:=.int z t) (by simpa using ht) fun h' st' sb=>?_));have kp:∀x o,x≠it→s.heap.get? x=some o→h'.get? x=some o:=fun x o hx e=>(sb.2 x hx).trans e;have hS':=kp S _ hSi hS;show wpAny _ A.in1 (updateSeq S (fun _=>#[.int z t, .int z t])>>=_) _ _ _;refine mD (dR hS' rfl ?_);rw[hnm];refine mS ⟨bM tG _,zVz hh hi hSi hSl hil dv _ 1 _ _ z t rfl (by simp) ?_ ?_ (tR _ hS' rfl) fun h2 tk t2 k2=>?_⟩
  ·exact st'.at fun o e=>(nJ _ _ hSi).trans e
  ·obtain⟨o,e1,e2⟩:=hl
   exact⟨o,(nJ _ _ hSl).trans (kp l o (Ne.symm hil) e1),e2⟩
  ·exact hR h2 tk _ (fun x o hx hxi e=>k2 x o hx hxi ((nJ _ _ (Ne.symm hx)).trans (kp x o hxi e))) ⟨t2,rfl⟩
end
section
variable{X:Cx}
def zHy(K:W.Frag):V→V→Hp→VK→Prop:=fun x y H Q=>∃(p:Addr)(ns:List Int)(k:Int),x= .ref p∧y= .int k∧SqL K H p (ns.map V.int)∧Q (.int (mxD k ns)) H
theorem zOn(hc:X.calm=true){pins:List (Addr×Obj)}{s:Shared}{σ:St}{H:Hp}{x y:V}{u dv:Value}{Q:VK}(I:Inv X pins σ H s)(rx:RelV x u)(ry:RelV y dv)(h:zHy X.K x y H Q):
  wpAny (model X.prog X.w) X.A (call (.builtin "max") [u] [("default",dv)]) (EP X pins σ Q) X.xe s:=by
 obtain⟨p,ns,k,rfl,rfl,hq,q⟩:=h;cases rx;obtain⟨its,rv,pl,hz⟩:=I.list hq;have hl:=pl.isList;have hplt:p<s.heap.objs.size:=by obtain⟨_,e,_⟩:=hl;exact mY e
 have hnm:(toString "max" ++toString ".loop" :String)= "max.loop":=by decide
 refine tZ (aE F.plain_max F.entry_max ?_);simp only[checkBuiltinCall,F.kind_max];have hgo:wpAny (model X.prog X.w) X.A.in1 (Builtin.«max» ⟨[.ref p],[("default",dv)]⟩) (fun fin s'=>match fin with
   | .done f=>(match (Except.ok f:Result) with | .ok (.ret v)=>EP X pins σ Q v s' | .ok _=>False | .error e=>X.xe e s')
   | .again c'=>c'.quiet=true∧codeAny (model X.prog X.w) X.A c' (fun r s'=>match r with | .ok (.ret v)=>EP X pins σ Q v s' | .ok _=>False | .error e=>X.xe e s') s') X.xe s:=by
  show wpAny _ X.A.in1 (Builtin.Builtins.bindParams "max" ["key","default"] 0 ⟨[],[("default",dv)]⟩>>=_) _ _ s;refine mD (wpAny_of_eq (show Builtin.Builtins.bindParams "max" ["key","default"] 0 ⟨[],[("default",dv)]⟩=pure [none,some dv] from rfl) ?_);refine mD (mS ?_);refine mD (cC hl ?_);refine mD (dE ?_);rw[hnm];have hk:∀b o,s.heap.get? b=some o→((s.heap.push {cls:=.type "list_iterator",data:=.fields #[.ref p, .int 0 0]}).push {cls:=.type "list",data:=.seq #[]}).get? b=some o:=fun b o e=>mN _ (mN _ e);have hsz:(s.heap.push {cls:=.type "list_iterator",data:=.fields #[.ref p, .int 0 0]}).objs.size=s.heap.objs.size+1:=bE ..;refine mS ⟨bM tG _,zSy (it:=s.heap.objs.size) (l:=p) (S:=(s.heap.push {cls:=.type "list_iterator",data:=.fields #[.ref p, .int 0 0]}).objs.size) (c:=0) (I.ok.hd hc) rv (by rw[hsz];exact rK (rG _)) (by rw[hsz];exact rK (sX hplt)) (rK hplt) dv ?_ ?_ (nC _ rfl) fun h' tk v k2 hv=>?_⟩
  ·exact⟨_,mN _ (nC _ rfl),rfl,rfl⟩
  ·obtain⟨o,e1,e2⟩:=hl
   exact⟨o,hk _ _ e1,e2⟩
  ·have I2:Inv X pins σ H {s with heap:=h',toks:=tk}:=I.kept fun b o e=>k2 b o (by rw[hsz];exact nO (sX (mY e))) (nO (mY e)) (hk b o e)
   cases ns with
   | nil=>exact⟨.int k,H,I2,by rw[show v=dv from hv];exact ry,q⟩
   | cons b r=>
    obtain⟨t,e⟩:=hv;exact⟨.int (r.foldl mxI b),H,I2,⟨t,e⟩,q⟩
 cases hsig:Manifest.signature? "max" with
 | none=>exact mS hgo
 | some sig=>
  have ha:=zUa (.ref p) dv;simp only[argsOk,hsig] at ha;have h2:Bind.checkArgs "max" sig ⟨[.ref p],[("default",dv)]⟩=pure ():=ha;show wpAny _ X.A.in1 (Bind.checkArgs "max" sig ⟨[.ref p],[("default",dv)]⟩) _ _ s;rw[h2];exact mS hgo
variable{e d:Expr}{te td:TE}{p kp pos:Pos}
def zQi(K:W.Frag)(te td:TE):TE:=fun σ H Q=>te σ H fun x H1=>td σ H1 fun y H2=>zHy K x y H2 Q
theorem zWt(hc:X.calm=true)(hg:Gl X "max")(hm:X.mg "max" =none)(ha:PA X [e] (zBy te zHl))(hd:PE X d td)(he:backTo pos (starEach [e] X.env)=(false,eval e X.env)::backTo pos (starEach [] X.env):=by rfl)(hpl:(backTo pos (starEach [e] X.env)).any (·.1)=false:=by rfl):
  PE X (.Call (.Name "max" p) [e] [⟨some "default",d,kp⟩] pos) (zQi X.K te td):=by
 intro pins s σ H Q I h;refine rV (zBl I hg hm zZc ?_ (by decide) (by decide));refine callWith_kw ?_ he hpl;refine thn (ha pos pins s σ H (fun vs H1=>match vs with | [x]=>td σ H1 (fun y H2=>zHy X.K x y H2 Q)| _=>False) I h) fun us s1 ⟨vs,H1,I1,r1,q1⟩=>?_
 match vs,q1,r1 with
 | [x],q1,r1=>
  obtain⟨u,rfl,rx⟩:=vG r1;refine kws_cons (thn (hd pins s1 σ H1 _ I1 q1) fun dv s2 ⟨y,H2,I2,ry,q2⟩=>kws_nil ?_);exact zOn hc I2 rx ry q2
end
end L2
namespace L2
open PySem PySem.Spec PyProof.Rows
mutual
def T.dep:T→Nat
 | .lst ts=>T.deps ts+1
 | .dic _ ts=>T.deps ts+1
 | .tup ts=>T.deps ts+1
 | .non=>0
 | .bl _=>0
 | .int _=>0
 | .str _=>0
def T.deps:List T→Nat
 | []=>0
 | t::ts=>max (T.dep t) (T.deps ts)
end
mutual
def T.pure:T→Prop
 | .tup _=>False
 | .lst ts=>T.pures ts
 | .dic ks ts=>ks.Nodup∧T.pures ts
 | .non=>True
 | .bl _=>True
 | .int _=>True
 | .str _=>True
def T.pures:List T→Prop
 | []=>True
 | t::ts=>T.pure t∧T.pures ts
end
theorem T.deps_le{t:T}:∀{ts:List T},t∈ts→T.dep t≤T.deps ts
 | [],h=>nomatch h
 | u::ts,h=>by
  show T.dep t≤max (T.dep u) (T.deps ts);rcases mF.mp h with e | e
  ·subst e;exact Nat.le_max_left _ _
  ·exact nN (T.deps_le e) (Nat.le_max_right _ _)
section
variable{P:Program}{w:World}
open AutoSeq1 (wpAny_loadPart')
open MeetsSeq MeetsSeq2 MeetsSeq3 SeqRoads2 SeqAt
end
section
variable{X:Cx}{pins:List (Addr×Obj)}{σ:St}{H:Hp}{s:Shared}
theorem wL{ks:List (List Nat)}(h:ks.Nodup):(ks.map nK).Nodup:=by
 induction ks with
 | nil=>exact List.nodup_nil
 | cons k r ih=>
  rw[nZ] at h;rw[mU,nZ];refine⟨fun hm=>?_,ih h.2⟩;obtain⟨k',hk,e⟩:=nP.mp hm;exact h.1 (zAc e▸hk)
def rEq0(K:W.Frag)(neg:Bool):R2:=fun x y H Q=>∃a b xs,x= .ref a∧y= .ref b∧SqL K H a xs∧SqL K H b []∧Q (.bl (if neg then !xs.isEmpty else xs.isEmpty)) H
theorem zVu(hu:X.A.units<cLine):OpR X (compareOp .Eq) (rEq0 X.K false):=by
 intro pins s σ H x y v u Q I rx ry h;obtain⟨a,b,xs,rfl,rfl,ha,hb,q⟩:=h;cases rx;cases ry;obtain⟨us,r1,pl1,_⟩:=I.list ha;obtain⟨vs,r2,pl2,_⟩:=I.list hb;cases r2
 cases xs with
 | nil=>
  cases r1;exact SeqAt.eq_listAt (e:=fun _=>true) pl1.isList pl2.isList rfl hu (fun j h1=>absurd h1 (by simp)) ⟨.bl true,H,I,rfl,q⟩
 | cons x xs=>
  have n1:=r1.length;exact SeqAt.eq_list_lengthsAt pl1.isList pl2.isList (by simp[←n1]) hu ⟨.bl false,H,I,rfl,q⟩
theorem zHi(hu:X.A.units<cLine):OpR X (compareOp .NotEq) (rEq0 X.K true):=by
 intro pins s σ H x y v u Q I rx ry h;obtain⟨a,b,xs,rfl,rfl,ha,hb,q⟩:=h;cases rx;cases ry;obtain⟨us,r1,pl1,_⟩:=I.list ha;obtain⟨vs,r2,pl2,_⟩:=I.list hb;cases r2
 cases xs with
 | nil=>
  cases r1;exact SeqAt.RcNeAt.lists (e:=fun _=>true) pl1.isList pl2.isList rfl hu (fun j h1=>absurd h1 (by simp)) X.prog X.w X.xe _ ⟨.bl false,H,I,rfl,q⟩
 | cons x xs=>
  have n1:=r1.length;exact SeqAt.RcNeAt.lists_lengths pl1.isList pl2.isList (by simp[←n1]) hu X.prog X.w X.xe _ ⟨.bl true,H,I,rfl,q⟩
end
end L2
namespace L2
open PySem PySem.Spec PyProof.Rows
mutual
def T.sz:T→Nat
 | .lst ts=>T.szs ts+1
 | .dic _ ts=>T.szs ts+1
 | .tup ts=>T.szs ts+1
 | .non=>1
 | .bl _=>1
 | .int _=>1
 | .str _=>1
def T.szs:List T→Nat
 | []=>0
 | t::ts=>T.sz t+T.szs ts
end
mutual
def Occ(H:Hp)(d:Addr):V→T→Prop
 | v, .lst ts=>v= .ref d∨∃a vs,v= .ref a∧H a=some (.lst vs)∧Occs H d vs ts
 | v, .dic _ ts=>v= .ref d∨∃a ps,v= .ref a∧H a=some (.dK ps)∧Occs H d (ps.map (·.2)) ts
 | v, .tup ts=>v= .ref d∨∃a vs,v= .ref a∧H a=some (.tup vs)∧Occs H d vs ts
 | _, .non=>False
 | _, .bl _=>False
 | _, .int _=>False
 | _, .str _=>False
def Occs(H:Hp)(d:Addr):List V→List T→Prop
 | v::vs,t::ts=>Occ H d v t∨Occs H d vs ts
 | _,_=>False
end
mutual
theorem Rep.away{H:Hp}{d:Addr}{o:HO}:∀(x:V)(t:T),Rep H x t→¬Occ H d x t→Rep (upd H d o) x t
 | _, .non,h,_=>h
 | _, .bl _,h,_=>h
 | _, .int _,h,_=>h
 | _, .str _,h,_=>h
 | x, .lst ts,⟨a,vs,e,ha,hs⟩,n=>by
  have ne:a≠d:=fun z=>n (.inl (by rw[e,z]));exact⟨a,vs,e,by rw[zO ne];exact ha,Reps.away vs ts hs fun z=>n (.inr ⟨a,vs,e,ha,z⟩)⟩
 | x, .dic ks ts,⟨a,ps,e,ha,hk,hs⟩,n=>by
  have ne:a≠d:=fun z=>n (.inl (by rw[e,z]));exact⟨a,ps,e,by rw[zO ne];exact ha,hk,Reps.away _ ts hs fun z=>n (.inr ⟨a,ps,e,ha,z⟩)⟩
 | x, .tup ts,⟨a,vs,e,ha,hs⟩,n=>by
  have ne:a≠d:=fun z=>n (.inl (by rw[e,z]));exact⟨a,vs,e,by rw[zO ne];exact ha,Reps.away vs ts hs fun z=>n (.inr ⟨a,vs,e,ha,z⟩)⟩
theorem Reps.away{H:Hp}{d:Addr}{o:HO}:∀(xs:List V)(ts:List T),Reps H xs ts→¬Occs H d xs ts→Reps (upd H d o) xs ts
 | _,[],h,_=>h
 | _,t::ts,⟨x,xr,e,h1,h2⟩,n=>by
  subst e;exact⟨x,xr,rfl,Rep.away x t h1 fun z=>n (.inl z),Reps.away xr ts h2 fun z=>n (.inr z)⟩
end
mutual
theorem Occ.sub{H:Hp}{d:Addr}:∀(x:V)(t:T),Rep H x t→Occ H d x t→∃t',Rep H (.ref d) t'∧T.sz t'≤T.sz t
 | _, .non,_,h=>h.elim
 | _, .bl _,_,h=>h.elim
 | _, .int _,_,h=>h.elim
 | _, .str _,_,h=>h.elim
 | x, .lst ts,hr,h=>by
  rcases h with e |⟨a,vs,e,ha,h⟩
  ·exact⟨.lst ts,e▸hr,mE _⟩
  ·obtain⟨a',vs',e',ha',hs⟩:=hr
   rw[e] at e';cases e';rw[ha] at ha';cases ha';obtain⟨t',q,l⟩:=Occs.sub vs ts hs h;exact⟨t',q,tX l⟩
 | x, .dic ks ts,hr,h=>by
  rcases h with e |⟨a,vs,e,ha,h⟩
  ·exact⟨.dic ks ts,e▸hr,mE _⟩
  ·obtain⟨a',vs',e',ha',_,hs⟩:=hr
   rw[e] at e';cases e';rw[ha] at ha';cases ha';obtain⟨t',q,l⟩:=Occs.sub _ ts hs h;exact⟨t',q,tX l⟩
 | x, .tup ts,hr,h=>by
  rcases h with e |⟨a,vs,e,ha,h⟩
  ·exact⟨.tup ts,e▸hr,mE _⟩
  ·obtain⟨a',vs',e',ha',hs⟩:=hr
   rw[e] at e';cases e';rw[ha] at ha';cases ha';obtain⟨t',q,l⟩:=Occs.sub vs ts hs h;exact⟨t',q,tX l⟩
theorem Occs.sub{H:Hp}{d:Addr}:∀(xs:List V)(ts:List T),Reps H xs ts→Occs H d xs ts→∃t',Rep H (.ref d) t'∧T.sz t'≤T.szs ts
 | xs,[],_,h=>by cases xs<;>exact h.elim
 | _,t::ts,⟨x,xr,e,h1,h2⟩,h=>by
  subst e;rcases h with h | h
  ·obtain⟨t',q,l⟩:=Occ.sub x t h1 h
   exact⟨t',q,nN l (dM _ _)⟩
  ·obtain⟨t',q,l⟩:=Occs.sub xr ts h2 h
   exact⟨t',q,nN l (tV _ _)⟩
end
theorem zMw:∀{a b:List (List Nat)},a.map nK=b.map nK→a=b
 | [],[],_=>rfl
 | [],_::_,h=>by simp at h
 | _::_,[],h=>by simp at h
 | x::a,y::b,h=>by
  rw[mU,mU] at h;injection h with h1 h2;rw[zAc h1,zMw h2]
mutual
theorem Rep.one{H:Hp}:∀(t:T)(x:V)(t':T),Rep H x t→Rep H x t'→t=t'
 | .non,x,t',h,h'=>by
  cases (show x= .non from h)
  cases t' with
  | non=>rfl
  | bl b=>cases (show V.non= .bl b from h')
  | int b=>cases (show V.non= .int b from h')
  | str b=>cases (show V.non= .str (tx b) from h')
  | lst ts=>obtain⟨a,vs,e,_⟩:=h';cases e
  | dic ks ts=>obtain⟨a,vs,e,_⟩:=h';cases e
  | tup ts=>obtain⟨a,vs,e,_⟩:=h';cases e
 | .bl c,x,t',h,h'=>by
  cases (show x= .bl c from h)
  cases t' with
  | non=>cases (show V.bl c= .non from h')
  | bl b=>cases (show V.bl c= .bl b from h');rfl
  | int b=>cases (show V.bl c= .int b from h')
  | str b=>cases (show V.bl c= .str (tx b) from h')
  | lst ts=>obtain⟨a,vs,e,_⟩:=h';cases e
  | dic ks ts=>obtain⟨a,vs,e,_⟩:=h';cases e
  | tup ts=>obtain⟨a,vs,e,_⟩:=h';cases e
 | .int c,x,t',h,h'=>by
  cases (show x= .int c from h)
  cases t' with
  | non=>cases (show V.int c= .non from h')
  | bl b=>cases (show V.int c= .bl b from h')
  | int b=>cases (show V.int c= .int b from h');rfl
  | str b=>cases (show V.int c= .str (tx b) from h')
  | lst ts=>obtain⟨a,vs,e,_⟩:=h';cases e
  | dic ks ts=>obtain⟨a,vs,e,_⟩:=h';cases e
  | tup ts=>obtain⟨a,vs,e,_⟩:=h';cases e
 | .str c,x,t',h,h'=>by
  cases (show x= .str (tx c) from h)
  cases t' with
  | non=>cases (show V.str (tx c)= .non from h')
  | bl b=>cases (show V.str (tx c)= .bl b from h')
  | int b=>cases (show V.str (tx c)= .int b from h')
  | str b=>
   have e:V.str (tx c)= .str (tx b):=h';injection e with e;have e2:ts (tx c)=ts (tx b):=by rw[e]
   rw[vE,vE] at e2;rw[e2]
  | lst ts=>obtain⟨a,vs,e,_⟩:=h';cases e
  | dic ks ts=>obtain⟨a,vs,e,_⟩:=h';cases e
  | tup ts=>obtain⟨a,vs,e,_⟩:=h';cases e
 | .lst us,x,t',⟨a,vs,e,ha,hs⟩,h'=>by
  subst e
  cases t' with
  | non=>cases (show V.ref a= .non from h')
  | bl b=>cases (show V.ref a= .bl b from h')
  | int b=>cases (show V.ref a= .int b from h')
  | str b=>cases (show V.ref a= .str (tx b) from h')
  | lst ts=>
   obtain⟨a',vs',e',ha',hs'⟩:=h';cases e';rw[ha] at ha';cases ha';rw[Reps.one us vs ts hs hs']
  | dic ks ts=>obtain⟨a',vs',e',ha',_⟩:=h';cases e';rw[ha] at ha';cases ha'
  | tup ts=>obtain⟨a',vs',e',ha',_⟩:=h';cases e';rw[ha] at ha';cases ha'
 | .dic js us,x,t',⟨a,vs,e,ha,hk,hs⟩,h'=>by
  subst e
  cases t' with
  | non=>cases (show V.ref a= .non from h')
  | bl b=>cases (show V.ref a= .bl b from h')
  | int b=>cases (show V.ref a= .int b from h')
  | str b=>cases (show V.ref a= .str (tx b) from h')
  | lst ts=>obtain⟨a',vs',e',ha',_⟩:=h';cases e';rw[ha] at ha';cases ha'
  | dic ks ts=>
   obtain⟨a',vs',e',ha',hk',hs'⟩:=h';cases e';rw[ha] at ha';cases ha';rw[Reps.one us _ ts hs hs',zMw (hk.symm.trans hk')]
  | tup ts=>obtain⟨a',vs',e',ha',_⟩:=h';cases e';rw[ha] at ha';cases ha'
 | .tup us,x,t',⟨a,vs,e,ha,hs⟩,h'=>by
  subst e
  cases t' with
  | non=>cases (show V.ref a= .non from h')
  | bl b=>cases (show V.ref a= .bl b from h')
  | int b=>cases (show V.ref a= .int b from h')
  | str b=>cases (show V.ref a= .str (tx b) from h')
  | lst ts=>obtain⟨a',vs',e',ha',_⟩:=h';cases e';rw[ha] at ha';cases ha'
  | dic ks ts=>obtain⟨a',vs',e',ha',_⟩:=h';cases e';rw[ha] at ha';cases ha'
  | tup ts=>
   obtain⟨a',vs',e',ha',hs'⟩:=h';cases e';rw[ha] at ha';cases ha';rw[Reps.one us vs ts hs hs']
theorem Reps.one{H:Hp}:∀(us:List T)(xs:List V)(ts:List T),Reps H xs us→Reps H xs ts→us=ts
 | [],xs,ts,h,h'=>by
  cases (show xs= [] from h)
  cases ts with
  | nil=>rfl
  | cons t ts=>obtain⟨x,r,e,_⟩:=h';cases e
 | u::us,xs,ts,⟨x,r,e,h1,h2⟩,h'=>by
  subst e
  cases ts with
  | nil=>cases (show x::r= [] from h')
  | cons t ts=>
   obtain⟨x',r',e',h1',h2'⟩:=h';cases e';rw[Rep.one u x t h1 h1',Reps.one us r ts h2 h2']
end
theorem Reps.dic_away{H:Hp}{d:Addr}{o:HO}{ps:List (Key×V)}{ks:List (List Nat)}{ts:List T}(hd:H d=some (.dK ps))(hk:ps.map (·.1)=ks.map nK)(h:Reps H (ps.map (·.2)) ts):Reps (upd H d o) (ps.map (·.2)) ts:=by
 refine Reps.away _ ts h fun z=>?_;obtain⟨t',q,l⟩:=Occs.sub _ ts h z;have e:=Rep.one (.dic ks ts) (.ref d) t' ⟨d,ps,rfl,hd,hk,h⟩ q;rw[←e] at l;exact absurd l (Nat.not_le_of_lt (rG _))
theorem kJ:∀{vs:List (Key×V)}{i:Nat}{k:Key}{y:V},(vs.map (·.1)).Nodup→vs[i]? =some (k,y)→wR vs k=some y
 | [],i,k,y,_,h=>by simp at h
 | p::vs,0,k,y,_,h=>by
  simp only[pP,Option.some.injEq] at h;subst h;exact wD rfl
 | p::vs,i+1,k,y,nd,h=>by
  rw[mU,nZ] at nd;have h':vs[i]? =some (k,y):=by simpa using h
  have ne:¬p.1=k:=fun e=>nd.1 (nP.mpr ⟨(k,y),mP h',e.symm⟩);rw[xZ ne];exact kJ nd.2 h'
theorem vL:∀(more kvs:List (Key×V)),((kvs++more).map (·.1)).Nodup→wZ kvs more=kvs++more
 | [],kvs,_=>by show kvs=_;rw[pJ]
 | p::r,kvs,h=>by
  show wZ (yY kvs p.1 p.2) r=_;have hn:wR kvs p.1=none:=by
   cases e:wR kvs p.1 with
   | none=>rfl
   | some v=>
    have hm:=zVw e;rw[mX,cD] at h;exact absurd rfl (h.2.2 p.1 hm p.1 (by simp))
  rw[zRe _ hn,vL r (kvs++ [(p.1,p.2)]) (by rw[rP];exact h),rP]
  rfl
mutual
theorem Nice.dep:∀(t:T){d:Nat},Nice d t→T.dep t≤d
 | .non,_,_=>nY _
 | .bl _,_,_=>nY _
 | .int _,_,_=>nY _
 | .str _,_,_=>nY _
 | .lst ts,d,h=>by
  have:=NiceL.dep ts h.2.2;have:=h.1;show T.deps ts+1≤d
  lia
 | .dic ks ts,d,h=>by
  have:=NiceL.dep ts h.2.2.2.2.2;have:=h.1;show T.deps ts+1≤d
  lia
 | .tup _,_,h=>h.elim
theorem NiceL.dep:∀(ts:List T){d:Nat},NiceL d ts→T.deps ts≤d
 | [],_,_=>nY _
 | t::ts,_,h=>Nat.max_le.mpr ⟨Nice.dep t h.1,NiceL.dep ts h.2⟩
end
theorem jP(d:Nat):1≤5 ^ d:=Nat.one_le_pow _ _ (by decide)
mutual
theorem Nice.sz:∀(t:T){d:Nat},Nice d t→T.sz t≤5 ^ d
 | .non,d,_=>jP d
 | .bl _,d,_=>jP d
 | .int _,d,_=>jP d
 | .str _,d,_=>jP d
 | .lst ts,d,h=>by
  obtain⟨h1,h2,h3⟩:=h;obtain⟨e,rfl⟩:∃e,d=e+1:=⟨d - 1,by lia⟩;have:=NiceL.sz ts h3;have p:=jP e;show T.szs ts+1≤5 ^ (e+1);rw[Nat.add_sub_cancel] at this;have q:ts.length*5 ^ e≤4*5 ^ e:=Nat.mul_le_mul_right _ h2;rw[Nat.pow_succ];lia
 | .dic ks ts,d,h=>by
  obtain⟨h1,h2,_,_,_,h3⟩:=h;obtain⟨e,rfl⟩:∃e,d=e+1:=⟨d - 1,by lia⟩;have:=NiceL.sz ts h3;have p:=jP e;show T.szs ts+1≤5 ^ (e+1);rw[Nat.add_sub_cancel] at this;have q:ts.length*5 ^ e≤4*5 ^ e:=Nat.mul_le_mul_right _ h2;rw[Nat.pow_succ];lia
 | .tup _,_,h=>h.elim
theorem NiceL.sz:∀(ts:List T){d:Nat},NiceL d ts→T.szs ts≤ts.length*5 ^ d
 | [],_,_=>nY _
 | t::ts,d,h=>by
  have a:=Nice.sz t h.1;have b:=NiceL.sz ts h.2;show T.sz t+T.szs ts≤(ts.length+1)*5 ^ d;rw[Nat.succ_mul];lia
end
theorem kD{H:Hp}{a:Addr}{xs:List V}(h:H a=some (.tup xs)):tyS H (.ref a)=some "tuple":=by
 show(match H a with | some (.lst _)=>some "list" | some (.tup _)=>some "tuple" | some (.dK _)=>some "dict" | _=>none)=_;rw[h]
theorem wI{H:Hp}{a:Addr}{xs:List V}(h:H a=some (.lst xs)):tyS H (.ref a)=some "list":=by
 show(match H a with | some (.lst _)=>some "list" | some (.tup _)=>some "tuple" | some (.dK _)=>some "dict" | _=>none)=_;rw[h]
theorem wK{H:Hp}{a:Addr}{xs:List (Key×V)}(h:H a=some (.dK xs)):tyS H (.ref a)=some "dict":=by
 show(match H a with | some (.lst _)=>some "list" | some (.tup _)=>some "tuple" | some (.dK _)=>some "dict" | _=>none)=_;rw[h]
theorem wT{H H':Hp}(g:Same H H'){v:V}{t:String}(h:tyS H v=some t):tyS H' v=some t:=by
 cases v with
 | ref a=>
  have h':(match H a with | some (.lst _)=>some "list" | some (.tup _)=>some "tuple" | some (.dK _)=>some "dict" | _=>none)=some t:=h
  cases e:H a with
  | none=>rw[e] at h';cases h'
  | some o=>
   rw[e] at h'
   cases o with
   | lst xs=>cases h';exact wI (g _ _ e)
   | tup xs=>cases h';exact kD (g _ _ e)
   | dK kvs=>cases h';exact wK (g _ _ e)
   | _=>cases h'
 | _=>exact h
theorem Same.put{H H':Hp}{p:Addr}(g:Same H H')(h:H p=none)(o:HO):Same H (upd H' p o):=fun b u e=>by
 rw[zO (yC e h)];exact g b u e
theorem T.pures_mem{t:T}:∀{ts:List T},T.pures ts→t∈ts→T.pure t
 | [],_,h=>nomatch h
 | u::ts,h,hm=>(mF.mp hm).elim (fun e=>e▸h.1) (T.pures_mem h.2)
theorem yE{α:Type}{l:List α}{i:Nat}{a:α}(h:l[i]? =some a):l.take (i+1)=l.take i++ [a]:=by rw[dF,h];rfl
theorem T.sz_pos:∀t:T,1≤T.sz t
 | .non=>mE _
 | .bl _=>mE _
 | .int _=>mE _
 | .str _=>mE _
 | .lst _=>tV _ _
 | .dic _ _=>tV _ _
 | .tup _=>tV _ _
theorem T.szs_len:∀ts:List T,ts.length≤T.szs ts
 | []=>mE _
 | t::ts=>by
  have a:=T.sz_pos t;have b:=T.szs_len ts;show ts.length+1≤T.sz t+T.szs ts
  lia
theorem T.szs_le{t:T}:∀{ts:List T},t∈ts→T.sz t≤T.szs ts
 | [],h=>nomatch h
 | u::ts,h=>by
  show T.sz t≤T.sz u+T.szs ts;rcases mF.mp h with e | e
  ·subst e;exact dM _ _
  ·exact nN (T.szs_le e) (tV _ _)
theorem qK{H H':Hp}{d:Addr}{o:Obj}{ps:List (Key×V)}(hd:H d=some (.dK ps))(g:Same (upd H d (.frz o (.dK ps))) H'):Same H (L2.thaw H H'):=zFm fun b u e=>by
 by_cases hb:b=d
 ·subst hb
  rw[hd] at e;cases e;exact .inr ⟨⟨o,g _ _ zB⟩,by intro o v z;cases z⟩
 ·exact .inl (g _ _ (by rw[zO hb];exact e))
def T.kids:T→List T
 | .lst us=>us
 | .dic _ us=>us
 | _=>[]
def T.next(ts:List T):List T:=(ts.map T.kids).flatten
theorem T.szs_append:∀(a b:List T),T.szs (a++b)=T.szs a+T.szs b
 | [],b=>by show T.szs b=0+T.szs b;lia
 | t::a,b=>by
  show T.sz t+T.szs (a++b)=T.sz t+T.szs a+T.szs b;rw[T.szs_append a b];lia
theorem Reps.append{H:Hp}{ys:List V}{vs:List T}(h':Reps H ys vs):∀{xs:List V}{us:List T},Reps H xs us→Reps H (xs++ys) (us++vs)
 | xs,[],h=>by
  cases (show xs= [] from h);exact h'
 | _,u::us,⟨x,r,e,h1,h2⟩=>by
  subst e;exact⟨x,r++ys,rfl,h1,Reps.append h' h2⟩
def T.holds(t:T):Bool:=zM (tyT t) "list" || zM (tyT t) "dict"
def zQd(t:TS):TS:=fun D σ H=>∃M:St→Hp→Prop,t {D with nx:=M} σ H∧∀σ' H',M σ' H'→D.nx σ' H'
theorem wP{X:Cx}{st:Stmt}{t:TS}(h:PS X st t):PS X st (zQd t):=by
 intro pins s σ H D I ⟨M,q,m⟩;refine thn (h pins s σ H _ I q) fun f s1 z=>?_
 cases f with
 | next=>obtain⟨σ',H',J,q⟩:=z;exact⟨σ',H',J,m _ _ q⟩
 | brk=>exact z
 | cont=>exact z
 | ret u=>exact z
section
variable{X:Cx}
theorem zLw{P:Program}{w:World}:∀{vs:List (Key×Value)}{ks:List Str}{us:List Value},vs.map (·.1)=ks.map Sum.inr→us.length=vs.length→(∀(j:Nat)(v:Value),us[j]? =some v→∃k x,vs[j]? =some (k,x)∧(yO P w).is k v=true)→StrsAre us ks
 | [],[],[],_,_,_=>.nil
 | p::vs,k::ks,u::us,e,hl,h=>by
  rw[mU,mU] at e;injection e with e1 e2;obtain⟨k',x,e3,hk⟩:=h 0 u rfl;simp only[pP,Option.some.injEq] at e3;rw[e3] at e1;have e4:k'=Sum.inr k:=e1;rw[e4] at hk;obtain⟨t,et⟩:=(show∃t,u=Value.str k t from zGm hk);subst et;exact .cons k t (zLw e2 (by simpa using hl) fun j v hv=>by simpa using h (j+1) v (by simpa using hv))
 | [],_::_,_,e,_,_=>by simp at e
 | _::_,[],_,e,_,_=>by simp at e
 | [],[],_::_,_,hl,_=>by simp at hl
 | _::_,_::_,[],_,hl,_=>by simp at hl
theorem zMb:∀{us:List Value}{ss:List Str},StrsAre us ss→Vals (ss.map V.str) us
 | _,_, .nil=>.nil
 | _,_, .cons x t r=>.cons ⟨t,rfl⟩ (zMb r)
theorem uR(hc:X.calm=true):xW X (.builtin "sorted") (fun xs H Q=>∃(p:Addr)(kvs:List (Key×V))(ks:List Str),xs= [.ref p]∧Rd H p (.dK kvs)∧kvs.map (·.1)=ks.map Sum.inr∧ks.length<64∧
  ∀l ss,H l=none→ss.Perm ks→sortedS ss=true→Q (.ref l) (upd H l (.lst (ss.map V.str)))):=by
 intro pins s σ H xs us Q I r h;obtain⟨p,kvs,ks,rfl,hq,hk,h64,q⟩:=h;obtain⟨u,rfl,rx⟩:=vG r;cases rx;obtain⟨z,hd,vs,rel,dd⟩:=jK I.hok hq;obtain⟨ep,hat⟩:=dd.dictAt;have hl:=rel.length;refine PySem.Calls.call_function_entry kind_sorted plain_sorted entry_sorted (args_sorted1 _) ?_;unfold Builtin.«sorted»;refine mD (m:=checkCount "sorted" 1 1 _) (mS ?_);refine mD (W.kdu_collect (A:=X.A.in1) (W.kdl_dict (knd:=yO X.prog X.w) (kvs:=vs) (ep:=ep) hd) (show X.A.in1.handled=none from I.ok.hd hc) hat (by lia) fun h' tk acc hkp hacc=>?_);have hlen:acc.toList.length=vs.length:=by rw[aK];exact hacc.1
 have hS:StrsAre acc.toList ks:=zLw (P:=X.prog) (w:=X.w) (by rw[←rel.keys];exact hk) hlen fun j v e=>hacc.2 j v (by rw[←sJ];exact e);have hkl:ks.length=vs.length:=by
  have:=congrArg List.length hk;simp only[mI] at this
  lia
 refine mD (wpAny_newList ?_ (by rw[hlen];lia));have hoL:(h'.push (seqObj "list" acc.toList.toArray 0)).get? h'.objs.size=some (seqObj "list" acc.toList.toArray 0):=nC _ rfl;refine mD (pT (wpAny_call_entry slot_list_sort ⟨_,hoL,rfl⟩ entry_list_sort (list_sort_treeK strKind_oneLt hoL hS.keysOf (fun v₁ v₂ rest e=>keyKind_strs (by rw[←e];exact hS)) (by lia) fun st' a1 a2=>⟨_,rfl, ?_⟩) (args_list_sort _)));refine mS ⟨_,rfl, ?_⟩;obtain⟨ss',h1,h2,h3⟩:=sorted_out_str hS a1 a2;have I':Inv X pins σ H {s with heap:=h',toks:=tk}:=I.kept (t':=tk) hkp;have hL:h'.objs.size<(h'.push (seqObj "list" acc.toList.toArray 0)).objs.size:=mY hoL;obtain⟨e,he⟩:=sortedHeap_at (out:=(arrOf st').map (·.2)) hoL;have rS:Vals (ss'.map V.str) ((arrOf st').map (·.2)).toList:=zMb h1;have hp:=h2.length_eq;refine⟨.ref h'.objs.size,_,I'.laid (a:=h'.objs.size) (t':=tk) (h':=sortedHeap (h'.push (seqObj "list" acc.toList.toArray 0)) h'.objs.size acc.toList ((arrOf st').map (·.2))) (fun b u eb=>?_) (mE _) (o:=.lst (ss'.map V.str)) ?_,rfl,q _ ss' (I'.hok.fresh (mE _)) h2 h3⟩
 ·have lt:b<h'.objs.size:=mY eb
  exact(sortedHeap_old (nO lt) (cL lt hL)).trans (mN _ eb)
 ·exact⟨by rw[mI];lia,_,e,rS,by rw[Array.toArray_toList];exact he⟩
end
section
variable{X:Cx}
end
def leK(a b:List Nat):Bool:=!decide (b<a)
theorem zFd(a b c:List Nat)(h1:leK a b=true)(h2:leK b c=true):leK a c=true:=by
 have x1:a≤b:=by simpa [leK] using h1
 have x2:b≤c:=by simpa [leK] using h2
 have:=List.le_trans x1 x2
 simpa [leK] using this
theorem zNt(a b:List Nat):(leK a b || leK b a)=true:=by
 rcases List.le_total a b with h | h
 ·have:leK a b=true:=by simpa [leK] using h
  rw[this];rfl
 ·have:leK b a=true:=by simpa [leK] using h
  rw[this,bV]
theorem zPl{a b:List Nat}(h1:leK a b=true)(h2:leK b a=true):a=b:=by
 have x1:a≤b:=by simpa [leK] using h1
 have x2:b≤a:=by simpa [leK] using h2
 exact List.le_antisymm x1 x2
def qD(ks:List (List Nat)):List (List Nat):=ks.mergeSort leK
theorem jB(ks:List (List Nat)):(qD ks).Perm ks:=List.mergeSort_perm ks leK
theorem zHx(ks:List (List Nat)):(qD ks).Pairwise (fun a b=>leK a b=true):=List.pairwise_mergeSort zFd zNt ks
theorem zCr:∀{a b:List (List Nat)},a.Perm b→a.Pairwise (fun a b=>leK a b=true)→b.Pairwise (fun a b=>leK a b=true)→a=b
 | [],b,p,_,_=>(List.nil_perm.mp p).symm
 | x::a,[],p,_,_=>absurd p.length_eq (by simp)
 | x::a,y::b,p,h1,h2=>by
  rw[cX] at h1 h2;have hx:x∈y::b:=p.mem_iff.mp mM;have hy:y∈x::a:=p.mem_iff.mpr mM;have e:x=y:=by
   rcases mF.mp hx with z | z
   ·exact z
   ·rcases mF.mp hy with z' | z'
    ·exact z'.symm
    ·exact zPl (h1.1 y z') (h2.1 x z)
  subst e;rw[zCr p.cons_inv h1.2 h2.2]
theorem zBz:∀(p:Str)(l:List Str),risingS p l=true→((p::l).map ts).Pairwise (fun a b=>leK a b=true)
 | p,[],_=>List.pairwise_singleton _ _
 | p,x::r,h=>by
  have h':(!ltCps x.cps.toList p.cps.toList && risingS x r)=true:=h;rw[pX] at h';have ih:=zBz x r h'.2;have hpx:leK (ts p) (ts x)=true:=by
   have:=h'.1;rw[ltCps_eq] at this;exact this
  rw[mU,cX];refine⟨fun y hy=>?_,ih⟩;rw[mU] at hy ih;rw[cX] at ih;rcases mF.mp hy with z | z
  ·rw[z];exact hpx
  ·exact zFd _ _ _ hpx (ih.1 y z)
theorem zHw{l:List Str}(h:sortedS l=true):(l.map ts).Pairwise (fun a b=>leK a b=true):=by
 cases l with
 | nil=>exact List.Pairwise.nil
 | cons p r=>exact zBz p r h
theorem zAv{ss:List Str}{ks:List (List Nat)}(hp:ss.Perm (ks.map tx))(hs:sortedS ss=true):ss=(qD ks).map tx:=by
 have e:ss.map ts=qD ks:=by
  refine zCr ?_ (zHw hs) (zHx ks);have z:=hp.map ts;rw[rL] at z;have e2:ks.map (ts∘tx)=ks:=by
   conv=>rhs;rw[←List.map_id ks]
   exact aL fun k _=>vE k
  rw[e2] at z;exact z.trans (jB ks).symm
 have e3:(ss.map ts).map tx=ss:=by
  rw[rL]
  conv=>rhs;rw[←List.map_id ss]
  exact aL fun k _=>qC k
 rw[←e3,e]
inductive C where
 | non | bl (b:Bool)| int (i:Int)| str (x:List Nat)| row (xs:List C)| rcd (xs:List C)| odd
def C.ord:C→Nat
 | .non=>0
 | .bl _=>1
 | .int _=>2
 | .str _=>3
 | .row _=>4
 | .rcd _=>5
 | .odd=>6
def xG(k:List Nat):List (List Nat)→List T→T
 | k'::ks,c::cs=>if k'=k then c else xG k ks cs
 | _,_=>.tup []
mutual
def T.few:T→Prop
 | .dic ks ts=>ks.Nodup∧ks.length<64∧ks.length=ts.length∧T.fews ts
 | .lst ts=>ts.length≤100000∧T.fews ts
 | .tup _=>False
 | .non=>True
 | .bl _=>True
 | .int _=>True
 | .str _=>True
def T.fews:List T→Prop
 | []=>True
 | t::ts=>T.few t∧T.fews ts
end
theorem T.fews_mem{t:T}:∀{ts:List T},T.fews ts→t∈ts→T.few t
 | [],_,h=>nomatch h
 | u::ts,h,hm=>(mF.mp hm).elim (fun e=>e▸h.1) (T.fews_mem h.2)
theorem zDn{k:List Nat}:∀{ks:List (List Nat)}{ts:List T}{i:Nat}{t:T},ks.Nodup→ks[i]? =some k→ts[i]? =some t→xG k ks ts=t
 | [],_,i,_,_,h,_=>by simp at h
 | k'::ks,[],i,_,_,_,h=>by simp at h
 | k'::ks,u::ts,0,t,nd,h1,h2=>by
  simp only[pP,Option.some.injEq] at h1 h2;subst h1 h2;exact mK rfl
 | k'::ks,u::ts,i+1,t,nd,h1,h2=>by
  rw[nZ] at nd;have h1':ks[i]? =some k:=by simpa using h1
  have ne:¬k'=k:=fun e=>nd.1 (e▸mP h1');show(if k'=k then u else xG k ks ts)=t;rw[mG ne];exact zDn nd.2 h1' (by simpa using h2)
theorem vD{k:List Nat}:∀{ks:List (List Nat)}{ts:List T},k∈ks→ks.length=ts.length→xG k ks ts∈ts
 | [],_,h,_=>nomatch h
 | k'::ks,[],_,h=>by simp at h
 | k'::ks,u::ts,h,hl=>by
  show(if k'=k then u else xG k ks ts)∈u::ts;split
  ·exact mM
  ·rename_i ne
   rcases mF.mp h with e | e
   ·exact absurd e.symm ne
   ·exact mJ _ (vD e (by simpa using hl))
theorem mem_sortK{k:List Nat}{ks:List (List Nat)}:k∈qD ks↔k∈ks:=(jB ks).mem_iff
theorem Rep.at_name{H:Hp}{ps:List (Key×V)}{ks:List (List Nat)}{us:List T}(nk:ks.Nodup)(hk:ps.map (·.1)=ks.map fun k=>(Sum.inr (tx k):Key))(hs:Reps H (ps.map (·.2)) us){k:List Nat}(hm:k∈ks):
  ∃v,wR ps (Sum.inr (tx k))=some v∧Rep H v (xG k ks us):=by
 obtain⟨j,hj⟩:=List.mem_iff_getElem?.mp hm;have hp:(ps.map (·.1))[j]? =some (Sum.inr (tx k):Key):=by rw[hk,nD,hj];rfl
 rw[nD] at hp
 cases hpj:ps[j]? with
 | none=>rw[hpj] at hp;cases hp
 | some kv=>
  rw[hpj] at hp;have ek:kv.1=(Sum.inr (tx k):Key):=mW hp;have hpj':ps[j]? =some ((Sum.inr (tx k):Key),kv.2):=by rw[hpj,←ek]
  obtain⟨t,ht,hr⟩:=hs.get (i:=j) (v:=kv.2) (by rw[nD,hpj];rfl);refine⟨kv.2,kJ (by rw[hk];exact wL nk) hpj', ?_⟩;rw[zDn nk hj ht];exact hr
def LtM(P:Program)(w:World)(A:Around)(s:Shared)(u v:Value)(b:Bool):Prop:=∀(E:Value→Shared→Prop)(Q:Value→Shared→Prop),Q (.bool b) s→wpAny (model P w) A (richCompare .Lt u v) Q E s
def EqB(P:Program)(w:World)(A:Around)(s:Shared)(u v:Value)(b:Bool):Prop:=∀(E:Value→Shared→Prop)(Q:Bool→Shared→Prop),Q b s→wpAny (model P w) A (eqBool u v) Q E s
inductive Zc (P:Program) (w:World) (A:Around) (s:Shared):List Value→List Value→Int→Prop
 | nil:Zc P w A s [] [] 0
 | less {y:Value} {ys:List Value}:Zc P w A s [] (y::ys) (-1)
 | more {x:Value} {xs:List Value}:Zc P w A s (x::xs) [] 1
 | eq {x y:Value} {xs ys:List Value} {c:Int}:EqB P w A s x y true→Zc P w A s xs ys c→Zc P w A s (x::xs) (y::ys) c
 | ne {x y:Value} {xs ys:List Value} {c:Int}:EqB P w A s x y false→LtM P w A s x y (decide (c<0))→c≠0→Zc P w A s (x::xs) (y::ys) c
section
variable{P:Program}{w:World}{A:Around}{s:Shared}{E:Value→Shared→Prop}
end
section
variable{X:Cx}{pins:List (Addr×Obj)}{σ:St}{H:Hp}{s:Shared}
end
def rawC:C→T
 | .str x=>.str x
 | _=>.non
mutual
def rk:C→T
 | .non=>.tup [.int 0]
 | .bl b=>.tup [.int 1, .bl b]
 | .int i=>.tup [.int 2, .int i]
 | .str x=>.tup [.int 3, .str x]
 | .row cs=>.tup [.int 4, .tup (rks cs)]
 | .rcd cs=>.tup [.int 5, .tup (rkps cs)]
 | .odd=>.non
def rks:List C→List T
 | []=>[]
 | c::cs=>rk c::rks cs
def rkps:List C→List T
 | []=>[]
 | c::cs=>rkq c::rkps cs
def rkq:C→T
 | .row cs=>.tup (rkl cs)
 | .non=>.non
 | .bl _=>.non
 | .int _=>.non
 | .str _=>.non
 | .rcd _=>.non
 | .odd=>.non
def rkl:List C→List T
 | []=>[]
 | c::cs=>rawC c::rks cs
end
mutual
def C.ok:C→Prop
 | .odd=>False
 | .row cs=>C.oks cs
 | .rcd cs=>C.okps cs
 | .non=>True
 | .bl _=>True
 | .int _=>True
 | .str _=>True
def C.oks:List C→Prop
 | []=>True
 | c::cs=>C.ok c∧C.oks cs
def C.okps:List C→Prop
 | []=>True
 | c::cs=>C.okq c∧C.okps cs
def C.okq:C→Prop
 | .row cs=>C.okl cs
 | .non=>False
 | .bl _=>False
 | .int _=>False
 | .str _=>False
 | .rcd _=>False
 | .odd=>False
def C.okl:List C→Prop
 | []=>False
 | c::cs=>(∃k,c= .str k)∧cs.length=1∧C.oks cs
end
theorem T.deps_of{n:Nat}{ts:List T}(h:∀t∈ts,T.dep t≤n):T.deps ts≤n:=by
 induction ts with
 | nil=>exact nY _
 | cons t ts ih=>exact Nat.max_le.mpr ⟨h t mM,ih fun u hu=>h u (mJ _ hu)⟩
section
variable{X:Cx}
end
section
variable{X:Cx}{e k:Expr}{te:TE}{tk:TO}{pos p2:Pos}
end
mutual
def T.calm:T→Prop
 | .int i=>-(10 ^ 12)≤i∧i≤10 ^ 12
 | .str x=>x.length≤100
 | .lst ts=>T.calms ts
 | .dic _ ts=>T.calms ts
 | .tup ts=>T.calms ts
 | .non=>True
 | .bl _=>True
def T.calms:List T→Prop
 | []=>True
 | t::ts=>T.calm t∧T.calms ts
end
structure Fit(d z:Nat)(t:T):Prop where
 few:T.few t
 calm:T.calm t
 dep:T.dep t≤d
 sz:T.sz t≤z
theorem zCu{K:W.Frag}{H:Hp}{p:Addr}{xs:List V}{i:Int}{Q:VK}(h:H p=some (.lst xs))(h0:0≤i)(h1:i<xs.length)(q:∀x∈xs,Q x H):zSc K (.ref p) (.int i) H Q:=by
 obtain⟨x,hx,hm⟩:=zPo h0 h1;exact yP (SqL.of h) hx (q x hm)
theorem zAk:∀(n:Nat)(t:T),T.dep t≤n→T.few t→T.pure t:=by
 intro n
 induction n with
 | zero=>
  intro t hd hf
  cases t with
  | lst ts=>exact absurd hd (Nat.not_succ_le_zero _)
  | dic ks ts=>exact absurd hd (Nat.not_succ_le_zero _)
  | tup ts=>exact hf.elim
  | _=>exact mH
 | succ n ih=>
  have all:∀ts:List T,T.deps ts≤n→T.fews ts→T.pures ts:=by
   intro ts
   induction ts with
   | nil=>intros;exact mH
   | cons t ts ih2=>
    intro hd hf;have hd':max (T.dep t) (T.deps ts)≤n:=hd;exact⟨ih t (by lia) hf.1,ih2 (by lia) hf.2⟩
  intro t hd hf
  cases t with
  | lst ts=>exact all ts (Nat.le_of_succ_le_succ hd) hf.2
  | dic ks ts=>exact⟨hf.1,all ts (Nat.le_of_succ_le_succ hd) hf.2.2.2⟩
  | tup ts=>exact hf.elim
  | _=>exact mH
section
variable{P:Program}{w:World}
end
section
variable{X:Cx}
end
theorem zHn(xs:List V)(i:Nat):jU xs none (some (i:Int))=xs.take i:=by
 unfold jU;rw[HT.sIx_nat];show(xs.drop 0).take (min i xs.length - 0)=_;rw[tF,dN]
 by_cases h:i≤xs.length
 ·rw[tT h]
 ·rw[aI (by lia),nX,pK (by lia)]
theorem kS(xs:List V)(i:Nat):jU xs (some (i:Int)) none=xs.drop i:=by
 unfold jU;rw[HT.sIx_nat];show(xs.drop (min i xs.length)).take (xs.length - min i xs.length)=_
 by_cases h:i≤xs.length
 ·rw[tT h,pK (by rw[pU];lia)]
 ·rw[aI (by lia),dO,aZ (by lia),dB]
theorem zCx(xs:List V):jU xs none (some (-1))=xs.take (xs.length - 1):=by
 unfold jU;show(xs.drop 0).take ((-1+(xs.length:Int)).toNat - 0)=_;rw[tF,dN]
 congr 1
 lia
theorem Reps.take{H:Hp}:∀{xs:List V}{us:List T}(i:Nat),Reps H xs us→Reps H (xs.take i) (us.take i)
 | xs,us,0,_=>by rw[List.take_zero,List.take_zero];exact rfl
 | xs,[],i+1,h=>by cases (show xs= [] from h);exact rfl
 | xs,u::us,i+1,⟨x,r,e,h1,h2⟩=>by
  subst e;rw[List.take_succ_cons,List.take_succ_cons];exact⟨x,_,rfl,h1,Reps.take i h2⟩
theorem Reps.drop{H:Hp}:∀{xs:List V}{us:List T}(i:Nat),Reps H xs us→Reps H (xs.drop i) (us.drop i)
 | xs,us,0,h=>by rw[tF,tF];exact h
 | xs,[],i+1,h=>by cases (show xs= [] from h);exact rfl
 | xs,u::us,i+1,⟨x,r,e,h1,h2⟩=>by
  subst e;rw[List.drop_succ_cons,List.drop_succ_cons];exact Reps.drop i h2
section
variable{X:Cx}{pins:List (Addr×Obj)}{σ σ':St}{H H':Hp}{s s':Shared}
end
theorem zQw{X:Cx}{K:W.Frag}(h:X.K=K):IxR X (zSc K):=by subst h;exact ix_list
end L2
namespace L2
open PySem PySem.Spec PyProof.Rows PySem.Builtin PySem.Builtin.Str
section
variable{prog:Program}{w:World}{A:Around}{E:Value→Shared→Prop}{s:Shared}{x y:Str}{t u:Tok}{Q:Value→Shared→Prop}
end
section
variable{X:Cx}
end
structure Bl3(mg:Str→Option Value):Prop extends Bl2 mg where
 abs:mg "abs" =none
end L2
namespace L2
open PySem PySem.Spec PyProof.Rows
def yQ(ns:List Int)(k:Int):Int:=
 let m:=if ns= [] then k*7919 else(k*7919+k / ns.length*104729+ns.getD (k % ns.length).toNat 0*48271)% 1000003
 (m*m / 11+13*m)% 1000003
theorem vN(ns:List Int)(k:Int):0≤yQ ns k:=aU _ (by decide)
theorem qP(ns:List Int)(k:Int):yQ ns k<1000003:=tO _ (by decide)
def zNs(m:Int):Int:=if m % 3=0 then m / 3 % 41 - 20 else if m % 3=1 then m ^ 4 % 2000000000001 - 1000000000000
 else([1000000000000,-1000000000000,999999999999,0,1,-1,100000000000,999]:List Int).getD (m / 3 % 8).toNat 0
theorem zAr{α:Type}{xs:List α}{i:Int}(d:α)(h0:0≤i)(h1:i<xs.length):xs.getD i.toNat d∈xs:=by
 have h:i.toNat<xs.length:=by lia
 rw[nI,nH h];exact rJ h
theorem zVt(m:Int): -(10 ^ 12)≤zNs m∧zNs m≤10 ^ 12:=by
 unfold zNs;split
 ·lia
 ·split
  ·have h1:=aU (m ^ 4) (show(2000000000001:Int)≠0 by decide)
   have h2:=tO (m ^ 4) (show(0:Int)<2000000000001 by decide)
   lia
  ·have h:=zAr (xs:=([1000000000000,-1000000000000,999999999999,0,1,-1,100000000000,999]:List Int)) (i:=m / 3 % 8) 0 (by lia) (by simp only[nG,pF];lia)
   revert h
   generalize ([1000000000000,-1000000000000,999999999999,0,1,-1,100000000000,999]:List Int).getD (m / 3 % 8).toNat 0=z;intro h;simp only[mF,rC,bI] at h;rcases h with rfl | rfl | rfl | rfl | rfl | rfl | rfl | rfl<;>decide
def chF(i:Int):Nat:=(letL++zBo).getD i.toNat 0
theorem zHg{i:Int}(h0:0≤i)(h1:i<36):atI (letL++zBo) i=some (chF i):=qN h0 (by show i<((36:Nat):Int);lia)
theorem zZz{i:Int}(h0:0≤i)(h1:i<36):chF i∈letL++zBo:=zAr 0 h0 (by show i<((36:Nat):Int);lia)
theorem zMn{i:Int}(h0:0≤i)(h1:i<26):chF i∈letL:=by
 obtain⟨c,e,h⟩:=zZd h0 h1;rw[zHg h0 (by lia)] at e;cases e;exact h
def zBs(m:Int):Int:=([1,1+m / 3 % 4,1+m / 3 % 12]:List Int).getD (m % 3).toNat 0
theorem zMl(m:Int):1≤zBs m∧zBs m≤12:=by
 unfold zBs;have h:=zAr (xs:=([1,1+m / 3 % 4,1+m / 3 % 12]:List Int)) (i:=m % 3) 0 (by lia) (by simp only[nG,pF];lia)
 revert h
 generalize ([1,1+m / 3 % 4,1+m / 3 % 12]:List Int).getD (m % 3).toNat 0=z;intro h;simp only[mF,rC,bI] at h;rcases h with rfl | rfl | rfl<;>lia
theorem zUq(m:Int):atI [V.int 1,V.int (1+m / 3 % 4),V.int (1+m / 3 % 12)] (m % 3)=some (.int (zBs m)):=by
 rw[qN (d:=V.int 0) (by lia) (by simp only[nG,pF];lia)];unfold zBs;rcases(by lia:m % 3=0∨m % 3=1∨m % 3=2) with e | e | e<;>rw[e]<;>rfl
def zCv(m:Int)(n:Nat):List Nat:=(List.range n).map fun(i:Nat)=>chF ((m / 7+(0+(i:Int))*(1+m / 11 % 35))% 36)
def jT(m:Int):List Nat:=
 if m / 36 % 2=1 then List.replicate (m / 72 % zBs m).toNat 97++ [chF (m / 864 % 26)]++List.replicate (zBs m - m / 72 % zBs m - 1).toNat 97
 else chF (m / 72 % 26)::zCv m (zBs m - 1).toNat
theorem jZ(m:Int):yU (jT m)=true:=by
 obtain⟨n1,n12⟩:=zMl m;unfold jT;split
 ·have a0:=aU (m / 72) (show zBs m≠0 by lia)
  have a1:=tO (m / 72) (show 0<zBs m by lia);have hcl:=zMn (i:=m / 864 % 26) (by lia) (by lia);refine zBu ?_ ?_ ?_
  ·simp only[mL,nQ,nL];lia
  ·cases e:(m / 72 % zBs m).toNat with
   | zero=>exact⟨_,_,rfl,hcl⟩
   | succ k=>exact⟨97,_,rfl,zLb⟩
  ·intro d hd
   simp only[mT,List.mem_replicate,mO] at hd;rcases hd with(⟨_,rfl⟩| rfl)|⟨_,rfl⟩
   ·exact zAx zLb
   ·exact zAx hcl
   ·exact zAx zLb
 ·have hcl:=zMn (i:=m / 72 % 26) (by lia) (by lia)
  refine zBu ?_ ⟨_,_,rfl,hcl⟩ ?_
  ·simp only[nG,zCv,mI,rD];lia
  ·intro d hd
   rcases mF.mp hd with z | z
   ·rw[z];exact zAx hcl
   ·obtain⟨i,_,rfl⟩:=nP.mp z
    exact zZz (by lia) (by lia)
def sgF(i:Int):Nat:=sgnL.getD i.toNat 0
theorem zSr{i:Int}(h0:0≤i)(h1:i<94):atI sgnL i=some (sgF i):=qN h0 (by show i<((94:Nat):Int);lia)
theorem zSu{i:Int}(h0:0≤i)(h1:i<94):sgF i∈sgnL:=zAr 0 h0 (by show i<((94:Nat):Int);lia)
def zEc(m:Int):Int:=([m / 5 % 4,m / 5 % 9,m / 5 % 31]:List Int).getD (m % 3).toNat 0
theorem zMt(m:Int):0≤zEc m∧zEc m≤30:=by
 unfold zEc;have h:=zAr (xs:=([m / 5 % 4,m / 5 % 9,m / 5 % 31]:List Int)) (i:=m % 3) 0 (by lia) (by simp only[nG,pF];lia)
 revert h
 generalize ([m / 5 % 4,m / 5 % 9,m / 5 % 31]:List Int).getD (m % 3).toNat 0=z;intro h;simp only[mF,rC,bI] at h;rcases h with rfl | rfl | rfl<;>lia
theorem zUi(m:Int):atI [V.int (m / 5 % 4),V.int (m / 5 % 9),V.int (m / 5 % 31)] (m % 3)=some (.int (zEc m)):=by
 rw[qN (d:=V.int 0) (by lia) (by simp only[nG,pF];lia)];unfold zEc;rcases(by lia:m % 3=0∨m % 3=1∨m % 3=2) with e | e | e<;>rw[e]<;>rfl
def zKr(m:Int)(n:Nat):List Nat:=(List.range n).map fun(i:Nat)=>sgF ((m / 7+(0+(i:Int))*(1+m / 13 % 93))% 94)
def zJj(m:Int):List Nat:=
 if m / 155 % 3=1 then List.replicate (zEc m / 2).toNat 39++List.replicate (zEc m - zEc m / 2).toNat (sgF (m / 465 % 94)) else zKr m (zEc m).toNat
theorem zQt(m:Int):zBm (zJj m)=true:=by
 obtain⟨n0,n30⟩:=zMt m;unfold zJj;split
 ·refine zEk ?_ ?_
  ·simp only[mL,nQ];lia
  ·intro d hd
   simp only[mT,List.mem_replicate] at hd;rcases hd with⟨_,rfl⟩|⟨_,rfl⟩
   ·exact yAv
   ·exact zSu (by lia) (by lia)
 ·refine zEk ?_ ?_
  ·simp only[zKr,mI,rD];lia
  ·intro d hd
   obtain⟨i,_,rfl⟩:=nP.mp hd;exact zSu (by lia) (by lia)
theorem zAb{α:Type}(f:Nat→α)(i:Nat):(List.range (i+1)).map f=(List.range i).map f++ [f i]:=by rw[List.range_succ,mX];rfl
def yI(n:List Nat)(t:T):List (List Nat)→List T→List T
 | k::ks,u::us=>(if k=n then t else u)::yI n t ks us
 | _,us=>us
def xO(p:List (List Nat)×List T)(n:List Nat)(t:T):List (List Nat)×List T:=if n∈p.1 then(p.1,yI n t p.1 p.2) else(p.1++ [n],p.2++ [t])
theorem xL(n:List Nat)(t:T):∀(ks:List (List Nat))(us:List T),(yI n t ks us).length=us.length
 | [],us=>by unfold yI;rfl
 | _::_,[]=>rfl
 | k::ks,u::us=>by
  show(yI n t ks us).length+1=us.length+1;rw[xL n t ks us]
theorem jW(n:List Nat)(t:T):∀(ks:List (List Nat))(us:List T)(u:T),u∈yI n t ks us→u∈us∨u=t
 | [],us,u,h=>by unfold yI at h;exact .inl h
 | _::_,[],u,h=>.inl h
 | k::ks,v::us,u,h=>by
  have h':u∈(if k=n then t else v)::yI n t ks us:=h;rcases mF.mp h' with z | z
  ·split at z
   ·exact .inr z
   ·exact .inl (by rw[z];exact mM)
  ·exact(jW n t ks us u z).imp (mJ _) id
theorem Reps.replT{H:Hp}{n:List Nat}{v:V}{t:T}(hv:Rep H v t):∀{ps:List (Key×V)}{ks:List (List Nat)}{us:List T},ps.map (·.1)=ks.map nK→Reps H (ps.map (·.2)) us→Reps H ((ps.map fun kv=>if kv.1=nK n then(kv.1,v) else kv).map (·.2)) (yI n t ks us)
 | [],[],us,_,h=>by
  have e:yI n t [] us=us:=by unfold yI;rfl
  rw[e];exact h
 | [],_::_,_,e,_=>by simp at e
 | _::_,[],_,e,_=>by simp at e
 | p::ps,k::ks,[],_,h=>by
  have h':(p::ps).map (·.2)= []:=h;cases h'
 | p::ps,k::ks,u::us,e,⟨v',r,e0,h1,h2⟩=>by
  have e':p.2::ps.map (·.2)=v'::r:=e0;injection e' with e1 e2;subst e1 e2;have e3:p.1::ps.map (·.1)=nK k::ks.map nK:=e;injection e3 with e4 e5;have ih:=Reps.replT (n:=n) hv e5 h2
  by_cases hk:k=n
  ·refine⟨v,_, ?_, ?_,ih⟩
   ·rw[mU,mK (by rw[e4,hk]),mU]
   ·rw[mK hk];exact hv
  ·refine⟨p.2,_, ?_, ?_,ih⟩
   ·rw[mU,mG (by rw[e4];exact fun z=>hk (zAc z)),mU]
   ·rw[mG hk];exact h1
theorem zAu{H:Hp}{ps:List (Key×V)}{p:List (List Nat)×List T}{n:List Nat}{v:V}{t:T}(hk:ps.map (·.1)=p.1.map nK)(hR:Reps H (ps.map (·.2)) p.2)(hv:Rep H v t):
  (yY ps (nK n) v).map (·.1)=(xO p n t).1.map nK∧Reps H ((yY ps (nK n) v).map (·.2)) (xO p n t).2:=by
 have hm:(ps.any fun kv=>decide (kv.1=nK n))=true↔n∈p.1:=by
  rw[aH];constructor
  ·rintro⟨kv,hkv,e⟩
   have:nK n∈ps.map (·.1):=nP.mpr ⟨kv,hkv,dD e⟩;rw[hk] at this;obtain⟨k,h1,h2⟩:=nP.mp this;rw[←zAc h2];exact h1
  ·intro h
   have:nK n∈ps.map (·.1):=by rw[hk];exact nP.mpr ⟨n,h,rfl⟩
   obtain⟨kv,h1,h2⟩:=nP.mp this;exact⟨kv,h1,nB h2⟩
 unfold yY xO
 by_cases h:n∈p.1
 ·rw[mK (hm.mpr h),mK h]
  refine⟨?_,Reps.replT hv hk hR⟩;show _=p.1.map nK;rw[←hk,rL];apply aL;intro q _;show(if q.1=nK n then(q.1,v) else q).1=q.1;split<;>rfl
 ·rw[mG (fun z=>h (hm.mp z)),mG h]
  exact⟨by rw[mX,hk,mX];rfl,by rw[mX];exact Reps.snoc hv hR⟩
def zAe(nm:Nat→List Nat)(us:List T):Nat→List (List Nat)×List T
 | 0=>([],[])
 | i+1=>xO (zAe nm us i) (nm i) (us.getD i .non)
theorem zHo(nm:Nat→List Nat)(us:List T)(hn:∀i,yU (nm i)=true):∀i,i≤us.length→(zAe nm us i).1.Nodup∧(∀n∈(zAe nm us i).1,yU n=true)∧(∀u∈(zAe nm us i).2,u∈us)∧(zAe nm us i).1.length=(zAe nm us i).2.length∧(zAe nm us i).1.length≤i
 | 0,_=>⟨List.nodup_nil,fun _ h=>(nomatch h),fun _ h=>(nomatch h),rfl,mE _⟩
 | i+1,hi=>by
  obtain⟨h1,h2,h3,h4,h5⟩:=zHo nm us hn i (by lia);have hin:us.getD i .non∈us:=by
   rw[nI,nH (by lia)];exact rJ _
  unfold zAe xO;split
  ·exact⟨h1,h2,fun u hu=>(jW _ _ _ _ u hu).elim (h3 u) (fun e=>by rw[e];exact hin),by rw[xL];exact h4,tX h5⟩
  ·rename_i hm
   refine⟨zGn h1 hm,fun n hn'=>?_,fun u hu=>?_,by simp[h4],by simp only[mL,nL];lia⟩
   ·rcases mT.mp hn' with q | q
    ·exact h2 n q
    ·rw[mO.mp q];exact hn i
   ·rcases mT.mp hu with q | q
    ·exact h3 u q
    ·rw[mO.mp q];exact hin
def jX(m kd:Int):T:=if kd=0 then([.non, .bl true, .bl false]:List T).getD (m / 9 % 3).toNat .non else if kd<3 then .int (zNs (m / 9)) else .str (zJj (m / 9))
theorem zDf(m kd:Int)(d:Nat):Nice d (jX m kd):=by
 unfold jX;split
 ·rcases(by lia:m / 9 % 3=0∨m / 9 % 3=1∨m / 9 % 3=2) with e | e | e<;>rw[e]<;>exact mH
 ·split
  ·exact zVt _
  ·exact zQt _
theorem zIf{H:Hp}(m:Int):∃v,atI [V.non,V.bl true,V.bl false] (m / 9 % 3)=some v∧Rep H v (jX m 0):=by
 have e0:jX m 0=([.non, .bl true, .bl false]:List T).getD (m / 9 % 3).toNat .non:=mK rfl;rw[e0];rcases(by lia:m / 9 % 3=0∨m / 9 % 3=1∨m / 9 % 3=2) with e | e | e<;>rw[e]
 ·exact⟨.non,rfl,rfl⟩
 ·exact⟨.bl true,rfl,rfl⟩
 ·exact⟨.bl false,rfl,rfl⟩
def zDh(ns:List Int)(k:Int)(j:Nat):List Nat:=jT (yQ ns (k*5+1+(0+(j:Int)))/ 9+(0+(j:Int)))
def thT(ns:List Int):Nat→Int→T
 | 0,k=>jX (yQ ns k) (yQ ns k % 5)
 | e+1,k=>if yQ ns k % 9<5 then jX (yQ ns k) (yQ ns k % 9) else
  if yQ ns k % 9<7 then .lst ((List.range (yQ ns k / 9 % 5).toNat).map fun(j:Nat)=>thT ns e (k*5+1+(0+(j:Int))))
  else .dic (zAe (zDh ns k) ((List.range (yQ ns k / 9 % 5).toNat).map fun(j:Nat)=>thT ns e (k*5+1+(0+(j:Int)))) (yQ ns k / 9 % 5).toNat).1 (zAe (zDh ns k) ((List.range (yQ ns k / 9 % 5).toNat).map fun(j:Nat)=>thT ns e (k*5+1+(0+(j:Int)))) (yQ ns k / 9 % 5).toNat).2
theorem gR(ns:List Int):∀(d:Nat)(k:Int),Nice d (thT ns d k)
 | 0,k=>zDf _ _ _
 | e+1,k=>by
  unfold thT;split
  ·exact zDf _ _ _
  ·have hN:NiceL e ((List.range (yQ ns k / 9 % 5).toNat).map fun(j:Nat)=>thT ns e (k*5+1+(0+(j:Int)))):=NiceL_iff.mpr fun t ht=>by
    obtain⟨j,_,rfl⟩:=nP.mp ht;exact gR ns e _
   have hl:((List.range (yQ ns k / 9 % 5).toNat).map fun(j:Nat)=>thT ns e (k*5+1+(0+(j:Int)))).length=(yQ ns k / 9 % 5).toNat:=by simp
   have hle:(yQ ns k / 9 % 5).toNat≤4:=by lia
   split
   ·exact⟨by lia,by lia,hN⟩
   ·obtain⟨h1,h2,h3,h4,h5⟩:=zHo (zDh ns k) _ (fun j=>jZ _) (yQ ns k / 9 % 5).toNat (Nat.le_of_eq hl.symm)
    exact⟨by lia,by lia,h4,h1,h2,NiceL_iff.mpr fun u hu=>NiceL_iff.mp hN u (h3 u hu)⟩
end L2
namespace L2
open PySem PySem.Spec PyProof.Rows PySem.Builtin PySem.Builtin.Str
theorem zDz{k:List Nat}(h:yU k=true):k.length≤12:=by
 unfold yU at h;simp only[pX,rA] at h
 lia
theorem zVq{i:Int}(h: -(10 ^ 12)≤i∧i≤10 ^ 12):(Str.ofString (toString i)).length≤14:=by
 rw[ofString_len];have z:∀m:Nat,m≤10 ^ 12→(Nat.repr m).length≤13:=fun m hm=>(Nat.length_repr_le_iff (by decide)).mpr (cW hm (by decide))
 cases i with
 | ofNat m=>
  have hm:m≤10 ^ 12:=by
   have:=h.2;have e:(Int.ofNat m)=(m:Int):=rfl
   lia
  exact nN (z m hm) (by decide)
 | negSucc m=>
  have hm:m+1≤10 ^ 12:=by
   have:=h.1;have e:Int.negSucc m= -((m:Int)+1):=by lia
   lia
  show("-" ++Nat.repr (m+1)).length≤14;rw[String.length_append];have h1:("-" :String).length=1:=by decide
  have:=z _ hm
  lia
theorem zPi{b:Int}(h1: -(10 ^ 12)≤b)(h2:b≤10 ^ 12):b.natAbs.log2<1920:=by
 by_cases h:b.natAbs=0
 ·rw[h];decide
 ·refine(Nat.log2_lt h).mpr (cW (show b.natAbs≤10 ^ 12 by lia) (nF (show 10 ^ 12<2 ^ 40 by decide) (Nat.pow_le_pow_right (by decide) (by decide))))
end L2
namespace L2
open PySem PySem.Spec PyProof.Rows
theorem zQb:bootBuiltins "range" =some (.type "range"):=by decide+kernel
def zUy(p:Addr)(n:Int):HO:=.ext fun h=>∃t u v,IsRange h p 0 n 1 t u v
section
variable{X:Cx}
theorem zKs:xW X (.type "range") (fun xs H Q=>∃n,xs= [.int n]∧∀p,H p=none→Q (.ref p) (upd H p (zUy p n))):=by
 intro pins s σ H xs us Q I r h;obtain⟨n,rfl,q⟩:=h;obtain⟨u,rfl,t,rfl⟩:=vG r;refine call_range_1 ?_;refine⟨.ref s.heap.objs.size,_,I.laid (t':=s.toks+1+1) (fun b o e=>mN _ e) (mE _) (o:=zUy s.heap.objs.size n) ?_,rfl,q _ (I.hok.fresh (mE _))⟩;exact⟨⟨_,_,_,nC _ rfl⟩,⟨_,nC _ rfl⟩,fun h1 h2 ⟨t,u,v,e⟩ k=>⟨t,u,v,k _ e⟩⟩
theorem zFu:∀(us:List Value)(k:Nat),(∀(j:Nat)(v:Value),us[j]? =some v→∃t,v= .int (0+((k+j:Nat):Int)*1) t)→Vals ((List.range' k us.length).map fun(i:Nat)=>V.int (i:Int)) us
 | [],_,_=>.nil
 | u::us,k,h=>by
  obtain⟨t,e⟩:=h 0 u rfl;subst e;rw[nG,List.range'_succ,mU];refine .cons ⟨t, ?_⟩ (zFu us (k+1) fun j v hv=>?_)
  ·show Value.int _ t=Value.int _ t
   congr 1
   lia
  ·obtain⟨t',e'⟩:=h (j+1) v (by simpa using hv)
   exact⟨t',by rw[e'];congr 2;lia⟩
theorem zIg(hc:X.calm=true):xW X (.type "list") (fun xs H Q=>∃p n,xs= [.ref p]∧H p=some (zUy p n)∧0≤n∧n≤100000∧∀l,H l=none→Q (.ref l) (upd H l (.lst ((List.range n.toNat).map fun(i:Nat)=>V.int (i:Int))))):=by
 intro pins s σ H xs us Q I r h;obtain⟨p,n,rfl,hp,n0,n1,q⟩:=h;obtain⟨u,rfl,rx⟩:=vG r;cases rx;obtain⟨⟨t,u,v,hr⟩,_⟩:=(show ObjOk X.prog X.w H s.heap p (zUy p n) from I.hok p _ hp);refine call_list_range (n:=n.toNat) (I.ok.hd hc) hr (small_one (by lia) (by lia) (by lia) (by lia)) ?_ (by lia) fun h' tk acc c' hk hg hi=>?_
 ·rw[rangeSize_one];split<;>lia
 refine⟨.ref s.heap.objs.size,_,I.laid (t':=tk) hk (mE _) (o:=.lst ((List.range n.toNat).map fun(i:Nat)=>V.int (i:Int))) ?_,rfl,q _ (I.hok.fresh (mE _))⟩;have hl:acc.toList.length=n.toNat:=by rw[aK];exact hi.1
 refine⟨by rw[mI,rD,mR];lia,acc.toList,c', ?_,by simpa using hg⟩;have z:=zFu acc.toList 0 fun j v e=>by
  obtain⟨t',e'⟩:=hi.2 j v (by rw[←sJ];exact e);exact⟨t',by rw[e'];congr 2;lia⟩
 rw[hl] at z;rw[List.range_eq_range'];exact z
def zWe(t u:TE):TE:=fun σ H Q=>t σ H Q∨u σ H Q
theorem zBi{e:Expr}{t u:TE}(h1:PE X e t)(h2:PE X e u):PE X e (zWe t u):=fun pins s σ H Q I h=>h.elim (h1 pins s σ H Q I) (h2 pins s σ H Q I)
end
section
variable{X:Cx}{pins:List (Addr×Obj)}{σ:St}{H:Hp}{s:Shared}{h':Heap}
theorem Inv.turnedNew{fp:List Addr}{a:Addr}{o:HO}{t':Nat}(I:Inv X pins σ H s)(hf:∀b∈fp,zDu X pins H b)(k:∀b ob,b∉fp→s.heap.get? b=some ob→h'.get? b=some ob)(hp:s.heap.objs.size≤a)
  (new:ObjOk X.prog X.w (upd H a o) h' a o):Inv X pins σ (upd H a o) {s with heap:=h',toks:=t'}:=by
 have hn:H a=none:=I.hok.fresh hp;have nfp:∀b u,H b=some u→b∉fp:=fun b u e z=>by rw[(hf b z).1] at e;cases e
 have nea:∀b ob,s.heap.get? b=some ob→b≠a:=fun b ob e=>nO (nF (mY e) hp);refine I.step (g':=s.gens) (d':=s.drawn) (ch:=fp) (fun b hb=>?_) (fun b ob _ _ hc e _=>k b ob hc e) (fun b ob _ _ hc e _=>⟨ob.slots,k b ob hc e⟩) (fun b ob _ e n=>by rw[zO (nea b ob e)];exact n)
  (fun b ob hc e=>⟨ob,k b ob hc e⟩) (fun b xs e=>by rw[zO (yC e hn)];exact e) (fun b ob u e=>by rw[zO (yC e hn)];exact e) (fun b ps e=>⟨#[],by rw[zO (yC e hn),e];simp⟩) (fun m hm=>?_) (fun b u e=>?_) I.bare
 ·obtain⟨_,f1,_,f3,f4,f5⟩:=hf b hb
  exact⟨f3,f1,f4,f5⟩
 ·obtain⟨ob,es,ep,ho,r⟩:=hm
  exact⟨ob,es,ep,k _ ob (fun z=>(hf _ z).2.1 rfl) ho,r⟩
 ·by_cases hb:b=a
  ·subst hb;rw[zB] at e;cases e;exact new
  ·rw[zO hb] at e
   refine(I.hok b u e).stay (fun c v hc q=>k c v ?_ q) (fun c q=>by rw[zO (yC q hn)];exact q) fun c xs q=>by rw[zO (yC q hn)];exact q
   rcases hc with z | z
   ·rw[z];exact nfp b u e
   ·exact nfp c _ z
end
def Iti(d:Addr)(o:Obj)(kvs:List (Key×V)):It:=
 ⟨fun i H=>i<kvs.length∧H d=some (.frz o (.dK kvs)),fun i H y H'=>∃p kv,H p=none∧kvs[i]? =some kv∧y= .ref p∧H'=upd H p (.tup [kV kv.1,kv.2]),fun i H=>kvs.length≤i∧H d=some (.frz o (.dK kvs))⟩
theorem zSb:entryFor table "dict_itemiterator.__iter__" =some Builtin.«dict_keyiterator.__iter__»:=
 entryFor_alias (by kernel_rfl) rfl (by decide+kernel) (by kernel_rfl) (id':="dict_keyiterator.__iter__")
theorem zLj{P:Program}{w:World}{K:W.Frag}{elts:List Expr}{x1:Nat}{pos:Pos}(d it:Addr)(o:Obj)(kvs:List (Key×V)):
  zGj P w K (.Tuple elts x1 pos) (Iti d o kvs) [it] it (fun i h=>∃es ep ok ov,o.data= .dict es ep∧IsItemIter h it d i kvs.length ep ok ov) where
 mem:=by simp
 obj:=fun i h st b hb=>by
  obtain⟨es,ep,ok,ov,_,e⟩:=st;have e':b=it:=by simpa using hb
  subst e';exact⟨_,e,fun v z=>by cases z⟩
 keep:=fun i h h' st k=>by
  obtain⟨es,ep,ok,ov,a,st⟩:=st;exact⟨es,ep,ok,ov,a,k it (by simp) _ st⟩
 item:=by
  intro X hP hw hK hc i pins s σ H E I hf st hg;subst hP hw hK;obtain⟨es,ep,ok,ov,hes,st⟩:=st;obtain⟨hi,hg⟩:=hg;obtain⟨vs,rel,hm,_,_⟩:=uI I.hok hg hes;have hl:=rel.length;obtain⟨kv,hkv⟩:∃kv,kvs[i]? =some kv:=⟨kvs[i],by simp[hi]⟩;obtain⟨q,hq,hq1,hq2⟩:=KV.get rel hkv;rw[hl] at st;have hlt:it<s.heap.objs.size:=mY st;refine wpAny_pyNext_items_item (k:=q.1) (v:=q.2) st hm hq fun key h1 hk so ht hz keep=>⟨_,rfl, ?_⟩;refine wpAny_letOwnedTupleGo_items so fun h2 st2 sb=>?_;have sb:Heap.SameBut it h1 h2:=sb;have ht2:h2.get? s.heap.objs.size=some {cls:=.type "tuple",data:=.seq #[key,q.2]}:=(sb.2 _ (rK hlt)).trans ht;have hnew:H s.heap.objs.size=none:=I.hok.fresh (mE _);refine⟨.ref s.heap.objs.size,upd H s.heap.objs.size (.tup [kV kv.1,kv.2]),I.turnedNew (t':=s.toks) hf (fun b ob hb e=>?_) (mE _) ?_,rfl,⟨_,kv,hnew,hkv,rfl,rfl⟩,⟨es,ep,key,q.2,hes,by rw[hl];exact st2⟩,fun b hb=>?_⟩
  ·have hne:b≠it:=by simpa using hb
   exact(sb.2 b hne).trans (keep b ob hne e)
  ·refine⟨by rw[mR];simp,[key,q.2], .cons (by rw[hq1];exact zGm hk) (.cons hq2 .nil),⟨_,ht2,rfl,_,rfl⟩⟩
  ·have e:b=it:=by simpa using hb
   subst e;rw[zO (nO hlt)];exact(hf _ (by simp)).1
 done:=by
  intro X hP hw hK hc i pins s σ H E I hf st hg;subst hP hw hK;obtain⟨es,ep,ok,ov,hes,st⟩:=st;obtain⟨hi,hg⟩:=hg;obtain⟨vs,rel,hm,_,_⟩:=uI I.hok hg hes;obtain⟨f0,f1,f2,f3,f4,f5⟩:=hf it (by simp);have hl:=rel.length;rw[hl] at st;exact wpAny_pyNext_items_end (I.ok.hd hc) st hm (by simp;lia) fun h' eb=>⟨rfl,I.turned (t':=s.toks) (fun b o hb e=>eb b o hb e) f0 f1 f3 f4 f5⟩
 self:=fun A i s Q E st h=>by
  obtain⟨es,ep,ok,ov,_,st⟩:=st;have hT:s.TypeIs (.ref it) "dict_itemiterator":=⟨_,st,rfl⟩;refine wpAny_pyIter_slot hT cQ (wpAny_call_entry cQ hT zSb ?_ (F.args_dict_itemiterator_iter_1 _));show wpAny _ _ (ret (.ref it)) _ _ s;exact mS ⟨_,rfl,"dict_itemiterator",_,hT,F.slot_dict_itemiterator_next.lookup,h⟩
def zEf(p d:Addr):HO:=.ext fun h=>h.IsItemsView p d
def yAm:V→List V→Hp→VK→Prop:=fun x vs H Q=>∃d kvs,x= .ref d∧vs= []∧Rd H d (.dK kvs)∧∀p,H p=none→Q (.ref p) (upd H p (zEf p d))
def yCg(tl:TE):TI:=fun σ H R=>tl σ H fun x H1=>∃p d kvs,x= .ref p∧H1 p=some (zEf p d)∧((H1 d=some (.dK kvs)∧∀o,R (Iti d o kvs) (upd H1 d (.frz o (.dK kvs))))∨∃o,H1 d=some (.frz o (.dK kvs))∧R (Iti d o kvs) H1)
section
variable{X:Cx}
theorem zQs:MtR X "dict.items" yAm:=by
 intro pins s σ H x vs v us Q I rx rv h;obtain⟨d,kvs,rfl,rfl,hq,q⟩:=h;cases rx;cases rv;obtain⟨z,hd,ws,rel,dd⟩:=jK I.hok hq;refine call_meetsIn PySem.F.slot_dict_items dd.typeIs PySem.F.entry_dict_items (PySem.F.args_dict_items_1 _) (meets_dict_items (yO X.prog X.w) d hd) ⟨⟨ws,dd⟩, ?_⟩;refine⟨.ref s.heap.objs.size,_,I.laid (t':=s.toks) (fun b o e=>mN _ e) (mE _) (o:=zEf s.heap.objs.size d) ?_,rfl,q _ (I.hok.fresh (mE _))⟩;exact⟨⟨_,nC _ rfl,rfl,rfl⟩,⟨_,nC _ rfl⟩,fun h1 h2 ⟨o,e,r⟩ k=>⟨o,k o e,r⟩⟩
theorem zTe{elts:List Expr}{x1:Nat}{pos:Pos}{l:Expr}{tl:TE}(hl:PE X l tl):PI X (.Tuple elts x1 pos) l (yCg tl):=by
 intro pins s σ H R I h;refine thn (hl pins s σ H _ I h) fun v s1 ⟨x,H1,I1,r1,q1⟩=>?_;obtain⟨p,d,kvs,rfl,hp,q⟩:=q1;cases r1;obtain⟨hv,_⟩:=(show ObjOk X.prog X.w H1 s1.heap p (zEf p d) from I1.hok p _ hp);have fin:∀o H2,Inv X pins σ H2 s1→H2 d=some (.frz o (.dK kvs))→R (Iti d o kvs) H2→wpAny (model X.prog X.w) X.A (pyIter (.ref p)) (PIE X pins σ (.Tuple elts x1 pos) R) X.xe s1:=fun o H2 I2 e q=>by
  obtain⟨g,z,hd,vs,rel,o',es,ep,ho,c,hdat,r⟩:=(show ObjOk X.prog X.w H2 s1.heap d (.frz o (.dK kvs)) from I2.hok d _ e);rw[g] at ho;cases ho;have hm:s1.heap.DictAt (yO X.prog X.w) d vs ep:=⟨o,es,g,c,hdat,r⟩;refine wpAny_pyIter_items hv hm ?_;refine⟨s1.heap.objs.size,[s1.heap.objs.size],_,_,H2,rfl,I2.kept (t':=s1.toks) fun b o e=>mN _ e,zLj d _ o kvs,⟨es,ep, .none, .none,hdat, ?_⟩,fun b hb=>?_,q⟩
  ·rw[rel.length];exact nC _ rfl
  ·have e:b=s1.heap.objs.size:=by simpa using hb
   subst e;exact I2.fpOk (mE _) (I2.hok.fresh (mE _))
 rcases q with⟨e,q⟩|⟨o,e,q⟩
 ·obtain⟨z,hd,vs,rel,o,es,ep,ho,_⟩:=(show ObjOk X.prog X.w H1 s1.heap d (.dK kvs) from I1.hok d _ e)
  exact fin o _ (I1.freeze e ho) zB (q o)
 ·exact fin o _ I1 e q
end
abbrev g2(K:W.Frag):TG:=zQu K 2 (zIn (qA 0) (zIn (qA 1) zWo))
theorem zTa{F:List (Option V)}{x y:V}:yBx (some x::some y::F) (none::none::F):=⟨rfl,fun i v e=>by
 match i,e with
 | 0,e=>cases e
 | 1,e=>cases e
 | i+2,e=>exact e⟩
theorem zSe{K:W.Frag}{x y:Str}{F:List (Str×Nat)}{J:It}{n:Nat}{te:TE}{σ:St}{Q:VK}{H1:Hp}(Pv:Nat→List V→Hp→Prop)(hn:n≤sizeLine)(h0:Pv 0 [] H1)(hgo:∀i ys H,i<n→Pv i ys H→J.go i H)
  (hst:∀ys H,Pv n ys H→J.stop n H)
  (hs:∀i ys H z H2,i<n→ys.length≤i→Pv i ys H→J.yld i H z H2→∃a u v,z= .ref a∧SqT K H2 a [u,v]∧te (some u::some v::F.map (fun p=>(σ[p.2]?).join)) H2 fun r H4=>Pv (i+1) (ys++ [r]) H4)
  (hd:∀ys H,ys.length≤n→Pv n ys H→∀p,H p=none→Q (.ref p) (upd H p (.lst ys))):wM [x,y] F (g2 K) zEb te σ Q J H1:=by
 refine⟨fun i m ys H=>m=n - i∧i≤n∧Pv i ys H,⟨n,by simp,nY _,h0⟩, ?_⟩;rintro i m ys H ⟨rfl,hi,p⟩ hl
 by_cases hlt:i<n
 ·refine .inr ⟨hgo i ys H hlt p,by lia,Pv (i+1),fun ys' H'' q=>⟨n - (i+1),by lia,rfl,hlt,q⟩,fun z H2 hz=>?_⟩
  obtain⟨a,u,v,rfl,hq,ht⟩:=hs i ys H z H2 hlt hl p hz;refine⟨a,[u,v],rfl,hq,rfl,u,[v],rfl,v,[],rfl,rfl, ?_⟩;exact⟨zTa,ht⟩
 ·have e:i=n:=by lia
  subst e;exact .inl ⟨hst ys H p,hn,hd ys H hl p⟩
theorem zLl{K:W.Frag}{x y:Str}{F:List (Str×Nat)}{d:Addr}{o:Obj}{kvs:List (Key×V)}{te:TE}{σ:St}{Q:VK}{H1:Hp}(Pv:Nat→List V→Hp→Prop)(hn:kvs.length≤sizeLine)(h0:Pv 0 [] H1)(hz:∀i ys H,Pv i ys H→H d=some (.frz o (.dK kvs)))
  (hs:∀i kv ys H p,kvs[i]? =some kv→ys.length≤i→Pv i ys H→H p=none→te (some (kV kv.1)::some kv.2::F.map (fun p=>(σ[p.2]?).join)) (upd H p (.tup [kV kv.1,kv.2])) fun z H4=>Pv (i+1) (ys++ [z]) H4)
  (hd:∀ys H,ys.length≤kvs.length→Pv kvs.length ys H→∀p,H p=none→Q (.ref p) (upd H p (.lst ys))):wM [x,y] F (g2 K) zEb te σ Q (Iti d o kvs) H1:=
 zSe Pv hn h0 (fun i ys H h p=>⟨h,hz i ys H p⟩) (fun ys H p=>⟨mE _,hz _ ys H p⟩) (fun i ys H z H2 h1 h2 h3 h4=>by
  obtain⟨p,kv,hp,hkv,rfl,rfl⟩:=h4;exact⟨p,_,_,rfl, .of zB,hs i kv ys H p hkv h2 h3 hp⟩) hd
def tyR(H:Hp):V→Option String
 | .ref a=>match H a with
  | some (.frz _ (.dK _))=>some "dict"
  | _=>tyS H (.ref a)
 | v=>tyS H v
theorem zUo{H:Hp}{x:V}{t:String}(h:tyR H x=some t):t∈tyL:=by
 cases x with
 | ref a=>
  have h':(match H a with | some (.frz _ (.dK _))=>some "dict" | _=>tyS H (.ref a))=some t:=h
  split at h'
  ·cases h';simp[tyL]
  ·exact vI h'
 | non=>exact vI (H:=H) (show tyS H .non=some t from h)
 | bl b=>exact vI (H:=H) (show tyS H (.bl b)=some t from h)
 | int b=>exact vI (H:=H) (show tyS H (.int b)=some t from h)
 | str b=>exact vI (H:=H) (show tyS H (.str b)=some t from h)
 | byt b=>exact vI (H:=H) (show tyS H (.byt b)=some t from h)
 | flt b=>exact vI (H:=H) (show tyS H (.flt b)=some t from h)
 | ty b=>exact vI (H:=H) (show tyS H (.ty b)=some t from h)
theorem zLq{H:Hp}{x:V}{t:String}(h:tyS H x=some t):tyR H x=some t:=by
 cases x with
 | ref a=>
  show(match H a with | some (.frz _ (.dK _))=>some "dict" | _=>tyS H (.ref a))=some t
  split
  ·rename_i o kvs e
   have h':(match H a with | some (.lst _)=>some "list" | some (.tup _)=>some "tuple" | some (.dK _)=>some "dict" | _=>none)=some t:=h
   rw[e] at h';cases h'
  ·exact h
 | _=>exact h
theorem zWz{H:Hp}{a:Addr}{ps:List (Key×V)}(h:Rd H a (.dK ps)):tyR H (.ref a)=some "dict":=by
 rcases h with h |⟨o,h⟩
 ·exact zLq (wK h)
 ·show(match H a with | some (.frz _ (.dK _))=>some "dict" | _=>tyS H (.ref a))=some "dict"
  rw[h]
section
variable{X:Cx}
theorem qM{T:String}(hT:T∈tyL):xW X (.builtin "isinstance") (fun xs H Q=>∃x t,xs= [x, .ty T]∧tyR H x=some t∧Q (.bl (zM t T)) H):=by
 intro pins s σ H xs us Q I r h;obtain⟨x,t,rfl,ht,q⟩:=h
 cases x with
 | ref a=>
  have h':(match H a with | some (.frz _ (.dK _))=>some "dict" | _=>tyS H (.ref a))=some t:=ht
  split at h'
  ·rename_i o kvs e
   cases h';obtain⟨u,w',rfl,ru,rw'⟩:=uM r;cases (show w'=Value.type T from rw');cases (show u=Value.ref a from ru);obtain⟨_,_,vs,_,p⟩:=jK I.hok (.inr ⟨o,e⟩);obtain⟨ob,es,ep,h1,h2,_⟩:=p;exact tL cU I.kIn ⟨ob,h1,h2.1⟩ (zBa (by simp[tyL]) hT) (fun z=>nomatch z) fun tk=>⟨.bl _,H,I.tok _,rfl,q⟩
  ·exact zDy hT pins s σ H _ us Q I r ⟨_,t,rfl,h',q⟩
 | _=>exact zDy hT pins s σ H _ us Q I r ⟨_,t,rfl,ht,q⟩
theorem zNv:xW X (.builtin "len") (fun xs H Q=>∃a kvs,xs= [V.ref a]∧Rd H a (.dK kvs)∧Q (.int kvs.length) H):=by
 intro pins s σ H xs us Q I r h;obtain⟨a,kvs,rfl,ha,q⟩:=h;obtain⟨u,rfl,ru⟩:=vG r;cases ru;exact zXp I ha fun t s' I'=>⟨.int kvs.length,H,I',⟨t,rfl⟩,q⟩
end
theorem Rd.same{H H':Hp}(g:Same H H'){a:Addr}{u:HO}(h:Rd H a u):Rd H' a u:=h.imp (g _ _) fun⟨o,e⟩=>⟨o,g _ _ e⟩
theorem zEl{k:Key}:∀{ps:List (Key×V)},k∉ps.map (·.1)→wR ps k=none
 | [],_=>rfl
 | p::ps,h=>by
  rw[xZ fun e=>h (by simp[e])];exact zEl fun z=>h (mJ _ z)
theorem zVx{X:Cx}{K:W.Frag}(hK:X.K=K){es:List Expr}{k:Nat}{pos:Pos}{t:TGs}{n:Nat}(hc:X.calm=true)(h:PGs X es t)
  (hn:(assignEach es X.env).length=n:=by rfl) (hst:(assignEach es X.env).findIdx? (·.1)=none:=by rfl):PG X (.Tuple es k pos) (zQu K n t):=by subst hK;exact zKf hc h hn hst
structure Bl4(mg:Str→Option Value):Prop extends Bl2 mg where
 enumerate:mg "enumerate" =none
mutual
def Sp1(H:Hp):V→T→List Addr→Prop
 | v, .non,D=>D= []∧v= .non
 | v, .bl b,D=>D= []∧v= .bl b
 | v, .int i,D=>D= []∧v= .int i
 | v, .str x,D=>D= []∧v= .str (tx x)
 | v, .lst ts,D=>∃a vs D',v= .ref a∧H a=some (.lst vs)∧D=a::D'∧a∉D'∧Sps H vs ts D'
 | v, .dic ks ts,D=>∃a ps D',v= .ref a∧H a=some (.dK ps)∧ps.map (·.1)=ks.map (fun k=>(Sum.inr (tx k):Key))∧D=a::D'∧a∉D'∧Sps H (ps.map (·.2)) ts D'
 | v, .tup ts,D=>∃a vs D',v= .ref a∧H a=some (.tup vs)∧D=a::D'∧a∉D'∧Sps H vs ts D'
def Sps(H:Hp):List V→List T→List Addr→Prop
 | vs,[],D=>vs= []∧D= []
 | vs,t::ts,D=>∃v r D1 D2,vs=v::r∧D=D1++D2∧Sp1 H v t D1∧Sps H r ts D2∧∀b∈D1,b∉D2
end
mutual
theorem Sp1.rep{H:Hp}:∀(v:V)(t:T)(D:List Addr),Sp1 H v t D→Rep H v t
 | _, .non,_,h=>h.2
 | _, .bl _,_,h=>h.2
 | _, .int _,_,h=>h.2
 | _, .str _,_,h=>h.2
 | _, .lst ts,_,⟨a,vs,D',h1,h2,_,_,h3⟩=>⟨a,vs,h1,h2,Sps.rep vs ts D' h3⟩
 | _, .dic ks ts,_,⟨a,ps,D',h1,h2,h3,_,_,h4⟩=>⟨a,ps,h1,h2,h3,Sps.rep _ ts D' h4⟩
 | _, .tup ts,_,⟨a,vs,D',h1,h2,_,_,h3⟩=>⟨a,vs,h1,h2,Sps.rep vs ts D' h3⟩
theorem Sps.rep{H:Hp}:∀(vs:List V)(ts:List T)(D:List Addr),Sps H vs ts D→Reps H vs ts
 | _,[],_,h=>h.1
 | _,t::ts,_,⟨v,r,D1,D2,h1,_,h2,h3,_⟩=>⟨v,r,h1,Sp1.rep v t D1 h2,Sps.rep r ts D2 h3⟩
end
mutual
theorem Sp1.keep{H H':Hp}:∀(v:V)(t:T)(D:List Addr),(∀b∈D,∀o,(∀ob u,o≠HO.frz ob u)→H b=some o→H' b=some o)→Sp1 H v t D→Sp1 H' v t D
 | _, .non,_,_,h=>h
 | _, .bl _,_,_,h=>h
 | _, .int _,_,_,h=>h
 | _, .str _,_,_,h=>h
 | _, .lst ts,_,k,⟨a,vs,D',h1,h2,e,n,h3⟩=>⟨a,vs,D',h1,k a (by rw[e];exact mM) _ (by intro ob u z;cases z) h2,e,n,Sps.keep vs ts D' (fun b hb=>k b (by rw[e];exact mJ _ hb)) h3⟩
 | _, .dic ks ts,_,k,⟨a,ps,D',h1,h2,h3,e,n,h4⟩=>⟨a,ps,D',h1,k a (by rw[e];exact mM) _ (by intro ob u z;cases z) h2,h3,e,n,Sps.keep _ ts D' (fun b hb=>k b (by rw[e];exact mJ _ hb)) h4⟩
 | _, .tup ts,_,k,⟨a,vs,D',h1,h2,e,n,h3⟩=>⟨a,vs,D',h1,k a (by rw[e];exact mM) _ (by intro ob u z;cases z) h2,e,n,Sps.keep vs ts D' (fun b hb=>k b (by rw[e];exact mJ _ hb)) h3⟩
theorem Sps.keep{H H':Hp}:∀(vs:List V)(ts:List T)(D:List Addr),(∀b∈D,∀o,(∀ob u,o≠HO.frz ob u)→H b=some o→H' b=some o)→Sps H vs ts D→Sps H' vs ts D
 | _,[],_,_,h=>h
 | _,t::ts,_,k,⟨v,r,D1,D2,h1,e,h2,h3,n⟩=>⟨v,r,D1,D2,h1,e,Sp1.keep v t D1 (fun b hb=>k b (by rw[e];exact pH _ hb)) h2,Sps.keep r ts D2 (fun b hb=>k b (by rw[e];exact nM _ hb)) h3,n⟩
end
mutual
theorem Sp1.there{H:Hp}{b:Addr}:∀(v:V)(t:T)(D:List Addr),Sp1 H v t D→b∈D→∃o,H b=some o
 | _, .non,_,h,hb=>by rw[h.1] at hb;cases hb
 | _, .bl _,_,h,hb=>by rw[h.1] at hb;cases hb
 | _, .int _,_,h,hb=>by rw[h.1] at hb;cases hb
 | _, .str _,_,h,hb=>by rw[h.1] at hb;cases hb
 | _, .lst ts,_,⟨a,vs,D',h1,h2,e,n,h3⟩,hb=>by
  rw[e] at hb;rcases mF.mp hb with z | z
  ·exact⟨_,by rw[z];exact h2⟩
  ·exact Sps.there vs ts D' h3 z
 | _, .dic ks ts,_,⟨a,ps,D',h1,h2,h3,e,n,h4⟩,hb=>by
  rw[e] at hb;rcases mF.mp hb with z | z
  ·exact⟨_,by rw[z];exact h2⟩
  ·exact Sps.there _ ts D' h4 z
 | _, .tup ts,_,⟨a,vs,D',h1,h2,e,n,h3⟩,hb=>by
  rw[e] at hb;rcases mF.mp hb with z | z
  ·exact⟨_,by rw[z];exact h2⟩
  ·exact Sps.there vs ts D' h3 z
theorem Sps.there{H:Hp}{b:Addr}:∀(vs:List V)(ts:List T)(D:List Addr),Sps H vs ts D→b∈D→∃o,H b=some o
 | _,[],_,h,hb=>by rw[h.2] at hb;cases hb
 | _,t::ts,_,⟨v,r,D1,D2,h1,e,h2,h3,n⟩,hb=>by
  rw[e] at hb;rcases mT.mp hb with z | z
  ·exact Sp1.there v t D1 h2 z
  ·exact Sps.there r ts D2 h3 z
end
theorem Sp1.same{H H':Hp}(g:Same H H'){v:V}{t:T}{D:List Addr}(h:Sp1 H v t D):Sp1 H' v t D:=Sp1.keep v t D (fun b _ o _ e=>g b o e) h
theorem Sps.same{H H':Hp}(g:Same H H'){v:List V}{t:List T}{D:List Addr}(h:Sps H v t D):Sps H' v t D:=Sps.keep v t D (fun b _ o _ e=>g b o e) h
theorem Sps.snoc{H:Hp}{v:V}{t:T}{D1:List Addr}(h:Sp1 H v t D1):∀{vs:List V}{ts:List T}{D:List Addr},Sps H vs ts D→(∀b∈D,b∉D1)→Sps H (vs++ [v]) (ts++ [t]) (D++D1)
 | _,[],D,e,_=>by
  obtain⟨e1,e2⟩:=e;subst e1 e2;exact⟨v,[],D1,[],rfl,by simp,h,⟨rfl,rfl⟩,fun _ _ z=>nomatch z⟩
 | _,t'::ts,D,⟨v',r,E1,E2,h1,e,h2,h3,n⟩,hd=>by
  subst h1 e;refine⟨v',r++ [v],E1,E2++D1,rfl,by simp,h2,Sps.snoc h h3 fun b hb=>hd b (nM _ hb),fun b hb z=>?_⟩;rcases mT.mp z with c | c
  ·exact n b hb c
  ·exact hd b (pH _ hb) c
theorem Sps.length{H:Hp}{vs:List V}{ts:List T}{D:List Addr}(h:Sps H vs ts D):vs.length=ts.length:=(Sps.rep vs ts D h).length
def Keep(D:List Addr)(H H':Hp):Prop:=∀b o,b∉D→H b=some o→H' b=some o
theorem Keep.trans{D:List Addr}{H H1 H2:Hp}(a:Keep D H H1)(b:Keep D H1 H2):Keep D H H2:=fun c o h e=>b c o h (a c o h e)
theorem Keep.mono{D D':List Addr}{H H':Hp}(h:Keep D H H')(s:∀b∈D,b∈D'):Keep D' H H':=fun b o hb e=>h b o (fun z=>hb (s b z)) e
theorem Keep.of{D:List Addr}{H H':Hp}(g:Same H H'):Keep D H H':=fun b o _ e=>g b o e
theorem Keep.put{D:List Addr}{H H':Hp}{a:Addr}(o:HO)(h:Keep D H H')(ha:a∈D):Keep D H (upd H' a o):=fun b u hb e=>by
 rw[zO fun z=>hb (by rw[z];exact ha)];exact h b u hb e
theorem zT{H H':Hp}(g:Same H H'){p:Addr}(h:H' p=none):H p=none:=by
 cases e:H p with
 | none=>rfl
 | some o=>rw[g _ _ e] at h;cases h
theorem Sps.thaw{H H':Hp}{vs:List V}{ts:List T}{D:List Addr}(h:Sps H' vs ts D):Sps (L2.thaw H H') vs ts D:=Sps.keep vs ts D (fun _ _ _ n e=>wC e n) h
section
variable{prog:Program}{w:World}{A:Around}{E:Value→Shared→Prop}{s:Shared}
end
section
variable{X:Cx}
end
section
variable{X:Cx}{a:Expr}{ta:TE}
end
inductive U where
 | leaf (v:V)| lst (us:List U)| dic (ks:List Key) (us:List U)
def lfS:V→Bool
 | .non=>true
 | .bl _=>true
 | .int _=>true
 | .str _=>true
 | _=>false
def Lf(H:Hp)(x:V):Prop:=lfS x=true∨∃(a:Addr)(xs:List V),x= .ref a∧H a=some (.tup xs)
theorem Lf.same{H H':Hp}(g:∀b xs,H b=some (.tup xs)→H' b=some (.tup xs)){x:V}(h:Lf H x):Lf H' x:=h.imp id fun⟨a,xs,e,h⟩=>⟨a,xs,e,g _ _ h⟩
mutual
def Ru(H:Hp):V→U→Prop
 | v, .leaf x=>v=x∧Lf H x
 | v, .lst us=>∃a vs,v= .ref a∧H a=some (.lst vs)∧Rus H vs us
 | v, .dic ks us=>∃a ps,v= .ref a∧Rd H a (.dK ps)∧ps.map (·.1)=ks∧Rus H (ps.map (·.2)) us
def Rus(H:Hp):List V→List U→Prop
 | vs,[]=>vs= []
 | vs,u::us=>∃v r,vs=v::r∧Ru H v u∧Rus H r us
end
mutual
theorem Ru.mono{H H':Hp}(e:∀b xs,H b=some (.lst xs)→H' b=some (.lst xs))(e2:∀b xs,H b=some (.tup xs)→H' b=some (.tup xs))(e3:∀b ps,Rd H b (.dK ps)→Rd H' b (.dK ps)):∀(v:V)(u:U),Ru H v u→Ru H' v u
 | _, .leaf _,h=>⟨h.1,h.2.same e2⟩
 | _, .lst us,⟨a,vs,h1,h2,h3⟩=>⟨a,vs,h1,e _ _ h2,Rus.mono e e2 e3 vs us h3⟩
 | _, .dic ks us,⟨a,ps,h1,h2,h3,h4⟩=>⟨a,ps,h1,e3 _ _ h2,h3,Rus.mono e e2 e3 _ us h4⟩
theorem Rus.mono{H H':Hp}(e:∀b xs,H b=some (.lst xs)→H' b=some (.lst xs))(e2:∀b xs,H b=some (.tup xs)→H' b=some (.tup xs))(e3:∀b ps,Rd H b (.dK ps)→Rd H' b (.dK ps)):∀(vs:List V)(us:List U),Rus H vs us→Rus H' vs us
 | _,[],h=>h
 | _,u::us,⟨v,r,h1,h2,h3⟩=>⟨v,r,h1,Ru.mono e e2 e3 v u h2,Rus.mono e e2 e3 r us h3⟩
end
theorem Ru.same{H H':Hp}(g:Same H H'){v:V}{u:U}(h:Ru H v u):Ru H' v u:=Ru.mono (fun b xs=>g b _) (fun b xs=>g b _) (fun b ps h=>h.same g) v u h
theorem Rus.same{H H':Hp}(g:Same H H'){v:List V}{u:List U}(h:Rus H v u):Rus H' v u:=Rus.mono (fun b xs=>g b _) (fun b xs=>g b _) (fun b ps h=>h.same g) v u h
theorem Rus.length{H:Hp}:∀{vs:List V}{us:List U},Rus H vs us→vs.length=us.length
 | _,[],e=>by
  have e':_= []:=e;subst e';rfl
 | _,_::us,⟨v',r,h1,h2,h3⟩=>by
  subst h1;simp[Rus.length h3]
theorem Rus.get{H:Hp}:∀{vs:List V}{us:List U}{i:Nat}{v:V},Rus H vs us→vs[i]? =some v→∃u,us[i]? =some u∧Ru H v u
 | _,[],i,v,e,h=>by
  have e':_= []:=e;subst e';simp at h
 | _,u'::us,0,v,⟨v',r,h1,h2,h3⟩,h=>by
  subst h1;simp at h;subst h;exact⟨u',rfl,h2⟩
 | _,_::us,i+1,v,⟨v',r,h1,h2,h3⟩,h=>by
  subst h1;obtain⟨u,e,q⟩:=Rus.get (i:=i) (v:=v) h3 (by simpa using h);exact⟨u,by simpa using e,q⟩
theorem Rus.append{H:Hp}{ws:List V}{xs:List U}(h':Rus H ws xs):∀{vs:List V}{us:List U},Rus H vs us→Rus H (vs++ws) (us++xs)
 | _,[],e=>by
  have e':_= []:=e;subst e';exact h'
 | _,u'::us,⟨v',r,h1,h2,h3⟩=>by
  subst h1;exact⟨v',r++ws,rfl,h2,Rus.append h' h3⟩
theorem Rus.snoc{H:Hp}{v:V}{u:U}(h:Ru H v u){vs:List V}{us:List U}(hs:Rus H vs us):Rus H (vs++ [v]) (us++ [u]):=Rus.append (show Rus H [v] [u] from⟨v,[],rfl,h,rfl⟩) hs
mutual
def U.sz:U→Nat
 | .leaf _=>1
 | .lst us=>U.szs us+1
 | .dic _ us=>U.szs us+1
def U.szs:List U→Nat
 | []=>0
 | u::us=>U.sz u+U.szs us
end
mutual
def U.dep:U→Nat
 | .leaf _=>0
 | .lst us=>U.deps us+1
 | .dic _ us=>U.deps us+1
def U.deps:List U→Nat
 | []=>0
 | u::us=>max (U.dep u) (U.deps us)
end
mutual
def U.ok:U→Prop
 | .leaf v=>∀x,v= .str x→x.length≤1000
 | .lst us=>U.oks us
 | .dic ks us=>ks.Nodup∧ks.length=us.length∧(∀x,Sum.inr x∈ks→x.length≤1000)∧U.oks us
def U.oks:List U→Prop
 | []=>True
 | u::us=>U.ok u∧U.oks us
end
theorem U.oks_mem{u:U}:∀{us:List U},U.oks us→u∈us→U.ok u
 | [],_,h=>nomatch h
 | x::us,h,hm=>(mF.mp hm).elim (fun e=>e▸h.1) (U.oks_mem h.2)
theorem U.oks_of{us:List U}(h:∀u∈us,U.ok u):U.oks us:=by
 induction us with
 | nil=>exact mH
 | cons t ts ih=>exact⟨h t mM,ih fun u hu=>h u (mJ _ hu)⟩
theorem U.szs_append:∀(a b:List U),U.szs (a++b)=U.szs a+U.szs b
 | [],b=>by simp[U.szs]
 | x::a,b=>by
  show U.sz x+U.szs (a++b)=U.sz x+U.szs a+U.szs b;rw[U.szs_append a b];lia
theorem U.szs_le{u:U}:∀{us:List U},u∈us→U.sz u≤U.szs us
 | [],h=>nomatch h
 | x::us,h=>by
  show U.sz u≤U.sz x+U.szs us;rcases mF.mp h with e | e
  ·rw[e];lia
  ·have:=U.szs_le e;lia
theorem U.sz_pos:∀u:U,1≤U.sz u
 | .leaf _=>mE _
 | .lst _=>tV _ _
 | .dic _ _=>tV _ _
theorem U.szs_len:∀us:List U,us.length≤U.szs us
 | []=>mE _
 | u::us=>by
  have:=U.szs_len us;have:=U.sz_pos u;show us.length+1≤U.sz u+U.szs us
  lia
def tyU:U→String
 | .leaf .non=>"NoneType"
 | .leaf (.bl _)=>"bool"
 | .leaf (.int _)=>"int"
 | .leaf (.str _)=>"str"
 | .leaf _=>"tuple"
 | .lst _=>"list"
 | .dic _ _=>"dict"
theorem Ru.ty{H:Hp}{v:V}:∀{u:U},Ru H v u→tyR H v=some (tyU u)
 | .leaf x,h=>by
  obtain⟨rfl,h |⟨a,xs,e,h⟩⟩:=h
  ·cases v<;>first | rfl | cases h
  ·subst e;exact zLq (kD h)
 | .lst us,h=>by obtain⟨a,vs,e,h2,_⟩:=h;subst e;exact zLq (wI h2)
 | .dic ks us,h=>by obtain⟨a,vs,e,h2,_⟩:=h;subst e;exact zWz h2
section
variable{X:Cx}{pins:List (Addr×Obj)}{σ:St}{H:Hp}{s:Shared}
theorem zFj:OpR X (compareOp .LtE) (fun x y H Q=>∃i j,x= .str i∧y= .str j∧Q (.bl (!decide (ts j<ts i))) H):=by
 intro pins s σ H x y v u Q I rx ry h;obtain⟨i,j,rfl,rfl,q⟩:=h;obtain⟨t,rfl⟩:=rx;obtain⟨t',rfl⟩:=ry;exact PySem.P.le_str (yT I q rfl)
theorem zKy{T W:String}(hT:T∈tyL)(hU:W∈tyL):xW X (.builtin "isinstance") (fun xs H Q=>∃x t p,xs= [x, .ref p]∧H p=some (.tup [.ty T, .ty W])∧tyR H x=some t∧Q (.bl (zM t T || zM t W)) H):=by
 intro pins s σ H xs us Q I r h;obtain⟨x,t,p,rfl,hp,ht,q⟩:=h
 cases x with
 | ref a=>
  have h':(match H a with | some (.frz _ (.dK _))=>some "dict" | _=>tyS H (.ref a))=some t:=ht
  split at h'
  ·rename_i o kvs e
   cases h';obtain⟨u,w',rfl,ru,rw'⟩:=uM r;cases (show w'=Value.ref p from rw');cases (show u=Value.ref a from ru);obtain⟨_,_,vs,_,pp⟩:=jK I.hok (.inr ⟨o,e⟩);obtain⟨ob,es,ep,h1,h2,_⟩:=pp;obtain⟨_,its,rv,pl⟩:=(show ObjOk X.prog X.w H s.heap p (.tup [.ty T, .ty W]) from I.hok p _ hp);obtain⟨v1,v2,ee,r1,r2⟩:=uM rv;subst ee;cases (show v1=Value.type T from r1);cases (show v2=Value.type W from r2);obtain⟨o2,ho,hc,n,hd⟩:=pl;obtain⟨oc,od,odt,osl⟩:=o2;cases (show oc=Value.type "tuple" from hc);cases (show odt=Data.seq _ n from hd);refine PySem.W.kia_tup PySem.W.kitx_dict I.kIn ⟨ob,h1,h2.1⟩ ho (b:=zM "dict" T || zM "dict" W) ?_ (fun z=>nomatch z) fun tk=>⟨.bl _,H,I.tok _,rfl,q⟩
   have k1:=zBa (K:=X.K) (t:="dict") (by simp[tyL]) hT;have k2:=zBa (K:=X.K) (t:="dict") (by simp[tyL]) hU;simp only[PySem.W.kitAny,k1,k2];cases zM "dict" T<;>cases zM "dict" W<;>rfl
  ·exact vQ hT hU pins s σ H _ us Q I r ⟨_,t,p,rfl,hp,h',q⟩
 | _=>exact vQ hT hU pins s σ H _ us Q I r ⟨_,t,p,rfl,hp,ht,q⟩
end
section
variable{X:Cx}{o:Expr}{to:TE}{name:Str}{apos cpos:Pos}{id:String}{r:V→List V→Hp→VK→Prop}
def tBMR(r:V→List V→Hp→VK→Prop)(to:TE):TE:=fun σ H Q=>to σ H fun x H1=>(∃p kvs,x= .ref p∧Rd H1 p (.dK kvs))∧r x [] H1 Q
theorem yBi(pa:PlainAttrs "dict")(slot:Slot "dict" name id)(hty:typeOf (.builtin id)=pure (.type "method_descriptor"))(hm:MtR X id r)(ho:PE X o to)
  (hbase:attributeBase o name X.env (eval o X.env)=eval o X.env:=by rfl) (hline:(apos.endLine==cpos.line)=true:=by rfl):PE X (.Call (.Attribute o name apos) [] [] cpos) (tBMR r to):=by
 intro pins s σ H Q I h;refine wpAny_Call_method0_late hbase hline (thn (ho pins s σ H _ I h) fun v s1 ⟨x,H1,I1,r1,⟨p,kvs,ex,hp⟩,q1⟩=>?_);subst ex;cases r1;obtain⟨_,_,_,_,ob,_,_,e,ex,_⟩:=jK I1.hok hp;refine⟨"dict",id,pa,slot,hty,⟨ob,e,ex.1⟩,(fun a e2=>by cases e2;exact⟨ob,e,ex.2.1⟩),aY rfl (PySem.evalArgs_none (hm pins s1 σ H1 (.ref p) [] (.ref p) [] Q I1 rfl .nil q1))⟩
end
structure Bl5(mg:Str→Option Value):Prop extends Bl2 mg where
 abs:mg "abs" =none
 ord:mg "ord" =none
section
variable{X:Cx}{pins:List (Addr×Obj)}{σ:St}{H:Hp}{s:Shared}{h':Heap}
end
def Itz(K:W.Frag)(l m:Addr):It:=
  ⟨fun i H=>∃xs ys x y,SqL K H l xs∧SqL K H m ys∧xs[i]? =some x∧ys[i]? =some y,
   fun i H v H'=>∃p x y,H p=none∧v= .ref p∧(∀xs,SqL K H l xs→xs[i]? =some x)∧(∀ys,SqL K H m ys→ys[i]? =some y)∧H'=upd H p (.tup [x,y]),
   fun i H=>∃xs ys,SqL K H l xs∧SqL K H m ys∧(xs.length≤i∨ys.length≤i)⟩
def iZip(K:W.Frag)(ta:TA):TI:=fun σ H R=>ta σ H fun vs H1=>∃l m xs ys,vs= [.ref l, .ref m]∧SqL K H1 l xs∧SqL K H1 m ys∧R (Itz K l m) H1
structure Bl6(mg:Str→Option Value):Prop extends Bl2 mg where
 zip:mg "zip" =none
theorem zMq{X:Cx}{K:W.Frag}(hK:X.K=K):IxR X (zRn K):=by subst hK;exact ix_tup
section
variable{X:Cx}{a:Expr}{ta:TE}
def tIsT(ta:TE):TE:=fun σ H Q=>ta σ H fun x H1=>∃b,x= .bl b∧Q (.bl b) H1
end
end L2
namespace HT
open PySem PyProof.Rows
open PySem.SeqAt
open PySem.AutoSeq1 (wpAny_loadPart')
open PySem.MeetsSeq PySem.MeetsSeq2 PySem.MeetsSeq3
section
variable{prog:Program}{w:World}{A:Around}{E:Value→Shared→Prop}{s:Shared}
end
end HT
namespace L2
open PySem PySem.Spec PyProof.Rows
end L2
namespace L2
open PySem PySem.Spec PyProof.Rows PySem.Builtin PySem.Builtin.Str
section
variable{X:Cx}
end
end L2
namespace L2
open PySem PySem.Spec PyProof.Rows
theorem zMj{X:Cx}{K:W.Frag}(h:X.K=K):IxR X (rIx K):=by subst h;exact zXz
section
variable{X:Cx}
end
mutual
def T.okq:T→Prop
 | .lst us=>us.length≤200000∧T.okqs us
 | .tup us=>us.length≤200000∧T.okqs us
 | .dic ks us=>ks.Nodup∧ks.length=us.length∧us.length≤200000∧T.okqs us
 | .non=>True
 | .bl _=>True
 | .int _=>True
 | .str _=>True
def T.okqs:List T→Prop
 | []=>True
 | t::us=>T.okq t∧T.okqs us
end
theorem T.okqs_mem{t:T}:∀{us:List T},T.okqs us→t∈us→T.okq t
 | [],_,h=>nomatch h
 | u::us,h,hm=>(mF.mp hm).elim (fun e=>e▸h.1) (T.okqs_mem h.2)
theorem T.okqs_of{us:List T}(h:∀t∈us,T.okq t):T.okqs us:=by
 induction us with
 | nil=>exact mH
 | cons t us ih=>exact⟨h t mM,ih fun u hu=>h u (mJ _ hu)⟩
mutual
theorem T.few_okq:∀t:T,T.few t→T.okq t
 | .lst us,h=>⟨nN h.1 (by decide),T.fews_okqs us h.2⟩
 | .dic ks us,h=>⟨h.1,h.2.2.1,by have:=h.2.1;have:=h.2.2.1;lia,T.fews_okqs us h.2.2.2⟩
 | .tup _,h=>h.elim
 | .non,_=>mH
 | .bl _,_=>mH
 | .int _,_=>mH
 | .str _,_=>mH
theorem T.fews_okqs:∀us:List T,T.fews us→T.okqs us
 | [],_=>mH
 | t::us,h=>⟨T.few_okq t h.1,T.fews_okqs us h.2⟩
end
mutual
def T.fewq:T→Prop
 | .dic ks us=>ks.Nodup∧ks.length<64∧ks.length=us.length∧T.fewqs us
 | .lst us=>us.length≤100000∧T.fewqs us
 | .tup us=>us.length≤100000∧T.fewqs us
 | .non=>True
 | .bl _=>True
 | .int _=>True
 | .str _=>True
def T.fewqs:List T→Prop
 | []=>True
 | t::us=>T.fewq t∧T.fewqs us
end
theorem T.fewqs_mem{t:T}:∀{us:List T},T.fewqs us→t∈us→T.fewq t
 | [],_,h=>nomatch h
 | u::us,h,hm=>(mF.mp hm).elim (fun e=>e▸h.1) (T.fewqs_mem h.2)
mutual
theorem T.few_fewq:∀t:T,T.few t→T.fewq t
 | .lst us,h=>⟨h.1,T.fews_fewqs us h.2⟩
 | .dic ks us,h=>⟨h.1,h.2.1,h.2.2.1,T.fews_fewqs us h.2.2.2⟩
 | .tup _,h=>h.elim
 | .non,_=>mH
 | .bl _,_=>mH
 | .int _,_=>mH
 | .str _,_=>mH
theorem T.fews_fewqs:∀us:List T,T.fews us→T.fewqs us
 | [],_=>mH
 | t::us,h=>⟨T.few_fewq t h.1,T.fews_fewqs us h.2⟩
end
mutual
def T.fewm(m:Nat):T→Prop
 | .dic ks us=>ks.Nodup∧ks.length≤m∧ks.length=us.length∧T.fewms m us
 | .lst us=>us.length≤100000∧T.fewms m us
 | .tup _=>False
 | .non=>True
 | .bl _=>True
 | .int _=>True
 | .str _=>True
def T.fewms(m:Nat):List T→Prop
 | []=>True
 | t::us=>T.fewm m t∧T.fewms m us
end
theorem T.fewms_mem{m:Nat}{t:T}:∀{us:List T},T.fewms m us→t∈us→T.fewm m t
 | [],_,h=>nomatch h
 | u::us,h,hm=>(mF.mp hm).elim (fun e=>e▸h.1) (T.fewms_mem h.2)
theorem T.fewms_of{m:Nat}{us:List T}(h:∀t∈us,T.fewm m t):T.fewms m us:=by
 induction us with
 | nil=>exact mH
 | cons t us ih=>exact⟨h t mM,ih fun u hu=>h u (mJ _ hu)⟩
mutual
theorem T.fewm_mono{m m':Nat}(l:m≤m'):∀t:T,T.fewm m t→T.fewm m' t
 | .lst us,h=>⟨h.1,T.fewms_mono l us h.2⟩
 | .dic ks us,h=>⟨h.1,nN h.2.1 l,h.2.2.1,T.fewms_mono l us h.2.2.2⟩
 | .tup _,h=>h.elim
 | .non,_=>mH
 | .bl _,_=>mH
 | .int _,_=>mH
 | .str _,_=>mH
theorem T.fewms_mono{m m':Nat}(l:m≤m'):∀us:List T,T.fewms m us→T.fewms m' us
 | [],_=>mH
 | t::us,h=>⟨T.fewm_mono l t h.1,T.fewms_mono l us h.2⟩
end
mutual
theorem T.fewm_few{m:Nat}(l:m≤63):∀t:T,T.fewm m t→T.few t
 | .lst us,h=>⟨h.1,T.fewms_few l us h.2⟩
 | .dic ks us,h=>⟨h.1,by have:=h.2.1;lia,h.2.2.1,T.fewms_few l us h.2.2.2⟩
 | .tup _,h=>h.elim
 | .non,_=>mH
 | .bl _,_=>mH
 | .int _,_=>mH
 | .str _,_=>mH
theorem T.fewms_few{m:Nat}(l:m≤63):∀us:List T,T.fewms m us→T.fews us
 | [],_=>mH
 | t::us,h=>⟨T.fewm_few l t h.1,T.fewms_few l us h.2⟩
end
def jF(f:T→Int→T×Int):List Nat→List T→Int→List T×Int
 | [],us,c=>(us,c)
 | i::is,us,c=>jF f is (us.set i (f (us.getD i .non) c).1) (f (us.getD i .non) c).2
def zzN:List Nat:=ts (Str.ofString "zz")
def ixs(ks:List (List Nat)):List Nat:=(qD ks).map fun k=>ks.idxOf k
def zVk(r:List T×Int):T×Int:=(.lst (r.1++ [.int r.2]),r.2+1)
def zWc(r:List T×Int):T×Int:=(.tup r.1,r.2+1)
def zUx(ks:List (List Nat))(r:List T×Int):T×Int:=(.dic (xO (ks,r.1) zzN (.int r.2)).1 (xO (ks,r.1) zzN (.int r.2)).2,r.2+1)
def wO:Nat→T→Int→T×Int
 | 0,t,c=>(t,c)
 | n+1, .lst us,c=>zVk (jF (wO n) (List.range us.length) us c)
 | n+1, .dic ks us,c=>zUx ks (jF (wO n) (ixs ks) us c)
 | n+1, .tup us,c=>zWc (jF (wO n) (List.range us.length) us c)
 | _+1,t,c=>(t,c+1)
theorem zAi{f:T→Int→T×Int}{A B:T→Prop}(hf:∀t c,A t→B (f t c).1):∀(is:List Nat)(us:List T)(c:Int),is.Nodup→(∀i∈is,i<us.length)→(∀i t,us[i]? =some t→(i∈is→A t)∧(i∉is→B t))→(∀t∈(jF f is us c).1,B t)∧(jF f is us c).1.length=us.length
 | [],us,c,_,_,h=>⟨fun t ht=>by
   obtain⟨i,hi⟩:=List.mem_iff_getElem?.mp ht;exact(h i t hi).2 (fun z=>nomatch z),rfl⟩
 | i::is,us,c,hn,hl,h=>by
  rw[nZ] at hn;have hi:=hl i mM;have e:us.getD i .non=us[i]:=by simp[nI,hi]
  have ih:=zAi hf is (us.set i (f (us.getD i .non) c).1) (f (us.getD i .non) c).2 hn.2 (fun j hj=>by rw[rH];exact hl j (mJ _ hj)) fun j t hj=>by
   by_cases hji:j=i
   ·subst hji
    refine⟨fun z=>absurd z hn.1,fun _=>?_⟩;rw[aW hi] at hj;rw[←mW hj,e];exact hf _ _ ((h j us[j] (nH hi)).1 mM)
   ·rw[sP (Ne.symm hji)] at hj
    obtain⟨h1,h2⟩:=h j t hj;exact⟨fun z=>h1 (mJ _ z),fun z=>h2 fun y=>(mF.mp y).elim hji z⟩
  rw[rH] at ih;exact ih
theorem zGr{ks:List (List Nat)}{k:List Nat}(h:k∈ks):ks[ks.idxOf k]? =some k:=by
 have hl:=bH h;rw[nH hl];exact congrArg some (List.getElem_idxOf hl)
theorem yAg{ks:List (List Nat)}(nd:ks.Nodup){i:Nat}{k:List Nat}(h:ks[i]? =some k):ks.idxOf k=i:=by
 obtain⟨hi,e⟩:=mQ.mp h;rw[←e];exact nd.idxOf_getElem i hi
theorem zFc{ks:List (List Nat)}(nd:ks.Nodup):(ixs ks).Nodup:=by
 unfold ixs;have hp:=jB ks;have hn:(qD ks).Nodup:=hp.nodup_iff.mpr nd;unfold List.Nodup;rw[List.pairwise_map];refine List.Pairwise.imp_of_mem ?_ hn;intro a b ha hb hab z;have h1:=zGr (hp.mem_iff.mp ha);have h2:=zGr (hp.mem_iff.mp hb);rw[z] at h1;rw[h1] at h2;exact hab (mW h2)
theorem zZb{ks:List (List Nat)}{i:Nat}(h:i∈ixs ks):i<ks.length:=by
 obtain⟨k,hk,rfl⟩:=nP.mp h;exact bH ((jB ks).mem_iff.mp hk)
theorem zVh{ks:List (List Nat)}(nd:ks.Nodup){i:Nat}(h:i<ks.length):i∈ixs ks:=by
 refine nP.mpr ⟨ks[i],(jB ks).mem_iff.mpr (rJ h), ?_⟩;exact yAg nd (nH h)
theorem zAw{ks:List (List Nat)}{us:List T}{n:List Nat}{t:T}(h:ks.length=us.length):(xO (ks,us) n t).1.length=(xO (ks,us) n t).2.length∧(xO (ks,us) n t).2.length≤us.length+1:=by
 unfold xO;split
 ·exact⟨by show ks.length=(yI n t ks us).length;rw[xL];exact h,by show(yI n t ks us).length≤_;rw[xL];exact rF _⟩
 ·exact⟨by show(ks++ [n]).length=(us++ [t]).length;rw[mL,mL,h];rfl,by show(us++ [t]).length≤_;rw[mL];exact mE _⟩
theorem kC{ks:List (List Nat)}{us:List T}{n:List Nat}{t:T}(h:ks.Nodup):(xO (ks,us) n t).1.Nodup:=by
 unfold xO;split
 ·exact h
 ·rename_i hn
  show(ks++ [n]).Nodup;rw[cD];exact⟨h,by simp,fun a ha b hb z=>hn (by rw[←mO.mp hb,←z];exact ha)⟩
theorem zAp{ks:List (List Nat)}{us:List T}{n:List Nat}{t u:T}(h:u∈(xO (ks,us) n t).2):u∈us∨u=t:=by
 unfold xO at h;split at h
 ·exact jW _ _ _ _ _ h
 ·rcases mT.mp h with z | z
  ·exact .inl z
  ·exact .inr (mO.mp z)
theorem T.deps_lt{n:Nat}{us:List T}(hn:0<n)(h:∀t∈us,T.dep t<n):T.deps us<n:=by
 have:=T.deps_of (n:=n - 1) (ts:=us) fun t ht=>by have:=h t ht;lia
 lia
theorem zCm:∀(n:Nat)(t:T)(c:Int),T.fewq t→T.dep t<n→T.okq (wO n t c).1∧T.dep (wO n t c).1<n
 | 0,_,_,_,h=>absurd h (sF _)
 | n+1, .lst us,c,hf,hd=>by
  have hd':T.deps us+1<n+1:=hd;obtain⟨h1,h2⟩:=zAi (f:=wO n) (A:=fun t=>T.fewq t∧T.dep t<n) (B:=fun t=>T.okq t∧T.dep t<n) (fun t c h=>zCm n t c h.1 h.2) (List.range us.length) us c bJ (fun i hi=>rN.mp hi) fun i t hi=>by
   refine⟨fun _=>?_,fun z=>absurd (rN.mpr (mQ.mp hi).1) z⟩;have hm:=mP hi;have:=T.deps_le hm;exact⟨T.fewqs_mem hf.2 hm,by lia⟩
  show T.okq (zVk (jF (wO n) (List.range us.length) us c)).1∧T.dep (zVk (jF (wO n) (List.range us.length) us c)).1<n+1;generalize jF (wO n) (List.range us.length) us c=r at h1 h2⊢;have hall:∀t∈r.1++ [T.int r.2],T.okq t∧T.dep t<n:=fun t ht=>by
   rcases mT.mp ht with z | z
   ·exact h1 t z
   ·rw[mO.mp z];exact⟨mH,show 0<n by lia⟩
  refine⟨⟨?_,T.okqs_of fun t ht=>(hall t ht).1⟩, ?_⟩
  ·rw[mL,h2]
   have:=hf.1;show us.length+1≤_
   lia
  ·show T.deps (r.1++ [T.int r.2])+1<n+1
   have:=T.deps_lt (n:=n) (by lia) fun t ht=>(hall t ht).2
   lia
 | n+1, .dic ks us,c,hf,hd=>by
  obtain⟨nk,h64,hl,hf⟩:=hf;have hd':T.deps us+1<n+1:=hd;obtain⟨h1,h2⟩:=zAi (f:=wO n) (A:=fun t=>T.fewq t∧T.dep t<n) (B:=fun t=>T.okq t∧T.dep t<n) (fun t c h=>zCm n t c h.1 h.2) (ixs ks) us c (zFc nk) (fun i hi=>by have:=zZb hi;lia) fun i t hi=>by
   refine⟨fun _=>?_,fun z=>absurd (zVh nk (by have:=(mQ.mp hi).1;lia)) z⟩;have hm:=mP hi;have:=T.deps_le hm;exact⟨T.fewqs_mem hf hm,by lia⟩
  show T.okq (zUx ks (jF (wO n) (ixs ks) us c)).1∧T.dep (zUx ks (jF (wO n) (ixs ks) us c)).1<n+1;generalize jF (wO n) (ixs ks) us c=r at h1 h2⊢;have hall:∀t∈(xO (ks,r.1) zzN (.int r.2)).2,T.okq t∧T.dep t<n:=fun t ht=>by
   rcases zAp ht with z | z
   ·exact h1 t z
   ·rw[z];exact⟨mH,show 0<n by lia⟩
  obtain⟨l1,l2⟩:=zAw (ks:=ks) (us:=r.1) (n:=zzN) (t:=.int r.2) (by rw[h2];exact hl);refine⟨⟨kC nk,l1,by lia,T.okqs_of fun t ht=>(hall t ht).1⟩, ?_⟩;show T.deps (xO (ks,r.1) zzN (.int r.2)).2+1<n+1;have:=T.deps_lt (n:=n) (by lia) fun t ht=>(hall t ht).2
  lia
 | n+1, .tup us,c,hf,hd=>by
  have hd':T.deps us+1<n+1:=hd;obtain⟨h1,h2⟩:=zAi (f:=wO n) (A:=fun t=>T.fewq t∧T.dep t<n) (B:=fun t=>T.okq t∧T.dep t<n) (fun t c h=>zCm n t c h.1 h.2) (List.range us.length) us c bJ (fun i hi=>rN.mp hi) fun i t hi=>by
   refine⟨fun _=>?_,fun z=>absurd (rN.mpr (mQ.mp hi).1) z⟩;have hm:=mP hi;have:=T.deps_le hm;exact⟨T.fewqs_mem hf.2 hm,by lia⟩
  show T.okq (zWc (jF (wO n) (List.range us.length) us c)).1∧T.dep (zWc (jF (wO n) (List.range us.length) us c)).1<n+1;generalize jF (wO n) (List.range us.length) us c=r at h1 h2⊢;refine⟨⟨?_,T.okqs_of fun t ht=>(h1 t ht).1⟩, ?_⟩
  ·rw[h2]
   have:=hf.1
   lia
  ·show T.deps r.1+1<n+1
   have:=T.deps_lt (n:=n) (by lia) fun t ht=>(h1 t ht).2
   lia
 | n+1, .non,c,hf,hd=>⟨mH,hd⟩
 | n+1, .bl _,c,hf,hd=>⟨mH,hd⟩
 | n+1, .int _,c,hf,hd=>⟨mH,hd⟩
 | n+1, .str _,c,hf,hd=>⟨mH,hd⟩
theorem Sps.at{H:Hp}:∀{us:List T}{vs:List V}{D:List Addr}{i:Nat}{t:T},Sps H vs us D→us[i]? =some t→∃v D1,vs[i]? =some v∧Sp1 H v t D1∧(∀b∈D1,b∈D)∧
  ∀H' t' D1',Sp1 H' v t' D1'→(∀b∈D1',b∈D1)→Keep D1 H H'→∃D',Sps H' vs (us.set i t') D'∧∀b∈D',b∈D
 | [],_,_,i,t,_,h=>by simp at h
 | u::us,_,_,0,t,⟨v,r,D1,D2,rfl,rfl,h1,h2,hd⟩,h=>by
  have e:u=t:=by simpa using h
  subst e;refine⟨v,D1,rfl,h1,fun b hb=>pH _ hb,fun H' t' D1' hs hsub hk=>⟨D1'++D2,⟨v,r,D1',D2,rfl,rfl,hs, ?_,fun b hb=>hd b (hsub b hb)⟩,fun b hb=>?_⟩⟩
  ·exact Sps.keep _ _ _ (fun b hb o _ e=>hk b o (fun z=>hd b z hb) e) h2
  ·exact(mT.mp hb).elim (fun z=>pH _ (hsub b z)) (fun z=>nM _ z)
 | u::us,_,_,i+1,t,⟨v,r,D1,D2,rfl,rfl,h1,h2,hd⟩,h=>by
  obtain⟨w,E1,g1,g2,g3,g4⟩:=Sps.at (i:=i) h2 (by simpa using h);refine⟨w,E1,by simpa using g1,g2,fun b hb=>nM _ (g3 b hb),fun H' t' D1' hs hsub hk=>?_⟩;obtain⟨D',k1,k2⟩:=g4 H' t' D1' hs hsub hk;refine⟨D1++D',⟨v,r,D1,D',rfl,rfl, ?_,k1,fun b hb z=>hd b hb (k2 b z)⟩,fun b hb=>(mT.mp hb).elim (fun z=>pH _ z) (fun z=>nM _ (k2 b z))⟩;exact Sp1.keep _ _ _ (fun b hb o _ e=>hk b o (fun z=>hd b hb (g3 b z)) e) h1
theorem Sps.replT{H:Hp}{n:List Nat}{c:Int}:∀{ps:List (Key×V)}{ks:List (List Nat)}{us:List T}{D:List Addr},ps.map (·.1)=ks.map nK→Sps H (ps.map (·.2)) us D→
  ∃D',Sps H ((ps.map fun kv=>if kv.1=nK n then(kv.1,V.int c) else kv).map (·.2)) (yI n (.int c) ks us) D'∧∀b∈D',b∈D
 | [],[],us,D,_,h=>by
  have e:yI n (.int c) [] us=us:=by unfold yI;rfl
  rw[e];exact⟨D,h,fun _ h=>h⟩
 | [],_::_,_,_,e,_=>by simp at e
 | _::_,[],_,_,e,_=>by simp at e
 | p::ps,k::ks,[],_,_,h=>by
  have h':(p::ps).map (·.2)= []:=h.1;cases h'
 | p::ps,k::ks,u::us,_,e,⟨v',r,D1,D2,e0,rfl,h1,h2,hd⟩=>by
  have e':p.2::ps.map (·.2)=v'::r:=e0;injection e' with e1 e2;subst e1 e2;have e3:p.1::ps.map (·.1)=nK k::ks.map nK:=e;injection e3 with e4 e5;obtain⟨D',i1,i2⟩:=Sps.replT (n:=n) (c:=c) e5 h2
  by_cases hk:k=n
  ·refine⟨D',⟨.int c,_,[],D', ?_,rfl, ?_,i1,fun _ z=>nomatch z⟩,fun b hb=>nM _ (i2 b hb)⟩
   ·rw[mU,mK (by rw[e4,hk]),mU]
   ·rw[mK hk];exact⟨rfl,rfl⟩
  ·refine⟨D1++D',⟨p.2,_,D1,D', ?_,rfl, ?_,i1,fun b hb z=>hd b hb (i2 b z)⟩,fun b hb=>(mT.mp hb).elim (fun z=>pH _ z) (fun z=>nM _ (i2 b z))⟩
   ·rw[mU,mG (by rw[e4];exact fun z=>hk (zAc z)),mU]
   ·rw[mG hk];exact h1
theorem zKo{ps:List (Key×V)}{ks:List (List Nat)}{n:List Nat}(hk:ps.map (·.1)=ks.map nK):(ps.any fun kv=>decide (kv.1=nK n))=true↔n∈ks:=by
 rw[aH];constructor
 ·rintro⟨kv,hkv,e⟩
  have:nK n∈ps.map (·.1):=nP.mpr ⟨kv,hkv,dD e⟩;rw[hk] at this;obtain⟨k,h1,h2⟩:=nP.mp this;rw[←zAc h2];exact h1
 ·intro h
  have:nK n∈ps.map (·.1):=by rw[hk];exact nP.mpr ⟨n,h,rfl⟩
  obtain⟨kv,h1,h2⟩:=nP.mp this;exact⟨kv,h1,nB h2⟩
theorem Sps.put{H:Hp}{ps:List (Key×V)}{ks:List (List Nat)}{us:List T}{D:List Addr}{n:List Nat}{c:Int}(hk:ps.map (·.1)=ks.map nK)(h:Sps H (ps.map (·.2)) us D):
  (yY ps (nK n) (.int c)).map (·.1)=(xO (ks,us) n (.int c)).1.map nK∧∃D',Sps H ((yY ps (nK n) (.int c)).map (·.2)) (xO (ks,us) n (.int c)).2 D'∧∀b∈D',b∈D:=by
 refine⟨(zAu (p:=(ks,us)) (n:=n) (t:=.int c) hk (Sps.rep _ _ _ h) (show Rep H (.int c) (.int c) from rfl)).1, ?_⟩
 by_cases hm:n∈ks
 ·have e1:yY ps (nK n) (.int c)=ps.map fun kv=>if kv.1=nK n then(kv.1,V.int c) else kv:=mK ((zKo hk).mpr hm)
  have e2:xO (ks,us) n (.int c)=(ks,yI n (.int c) ks us):=mK hm;rw[e1,e2];exact Sps.replT hk h
 ·have e1:yY ps (nK n) (.int c)=ps++ [(nK n, .int c)]:=mG fun z=>hm ((zKo hk).mp z)
  have e2:xO (ks,us) n (.int c)=(ks++ [n],us++ [.int c]):=mG hm;rw[e1,e2,mX];refine⟨D++ [],Sps.snoc (show Sp1 H (.int c) (.int c) [] from⟨rfl,rfl⟩) h (fun _ _ z=>nomatch z),fun b hb=>by simpa using hb⟩
def SmB(R:T→T→Prop):T→T→Prop
 | .lst us, .lst vs=>us.length=vs.length∧vs.length≤200000∧∀(i:Nat) a b,us[i]? =some a→vs[i]? =some b→R a b
 | .tup us, .tup vs=>us.length=vs.length∧vs.length≤200000∧∀(i:Nat) a b,us[i]? =some a→vs[i]? =some b→R a b
 | .dic ks us, .dic ls vs=>(ks.Nodup∧ls.Nodup∧ks.length=us.length∧ls.length=vs.length∧us.length=vs.length∧vs.length≤200000)∧∀k∈ls,k∈ks∧R (xG k ks us) (xG k ls vs)
 | .non, .non=>True
 | .bl a, .bl b=>a=b
 | .int a, .int b=>a=b
 | .str a, .str b=>a=b
 | _,_=>False
def Sm:Nat→T→T→Prop
 | 0,_,_=>False
 | n+1,t,u=>T.sz t≤T.sz u∧SmB (Sm n) t u
theorem Sm.sz{n:Nat}{t u:T}(h:Sm n t u):T.sz t≤T.sz u:=by
 cases n with
 | zero=>exact h.elim
 | succ n=>exact h.1
theorem Sm.refl:∀(n:Nat)(t:T),T.okq t→T.dep t<n→Sm n t t
 | 0,_,_,h=>absurd h (sF _)
 | n+1, .lst us,hq,hd=>⟨mE _,rfl,hq.1,fun i a b h1 h2=>by
   rw[h1] at h2;cases h2;have hm:=mP h1;have:=T.deps_le hm;have hd':T.deps us+1<n+1:=hd;exact Sm.refl n a (T.okqs_mem hq.2 hm) (by lia)⟩
 | n+1, .tup us,hq,hd=>⟨mE _,rfl,hq.1,fun i a b h1 h2=>by
   rw[h1] at h2;cases h2;have hm:=mP h1;have:=T.deps_le hm;have hd':T.deps us+1<n+1:=hd;exact Sm.refl n a (T.okqs_mem hq.2 hm) (by lia)⟩
 | n+1, .dic ks us,hq,hd=>⟨mE _,⟨hq.1,hq.1,hq.2.1,hq.2.1,rfl,hq.2.2.1⟩,fun k hk=>⟨hk,by
   have hm:=vD hk hq.2.1;have:=T.deps_le hm;have hd':T.deps us+1<n+1:=hd;exact Sm.refl n _ (T.okqs_mem hq.2.2.2 hm) (by lia)⟩⟩
 | n+1, .non,_,_=>⟨mE _,mH⟩
 | n+1, .bl _,_,_=>⟨mE _,rfl⟩
 | n+1, .int _,_,_=>⟨mE _,rfl⟩
 | n+1, .str _,_,_=>⟨mE _,rfl⟩
def moV:V:=.int 7
def moK:Key:=Sum.inr (Str.ofString "zz")
mutual
def T.cn:T→Nat
 | .lst ts=>T.cns ts+1
 | .dic _ ts=>T.cns ts+1
 | .tup ts=>T.cns ts+1
 | .non=>0
 | .bl _=>0
 | .int _=>0
 | .str _=>0
def T.cns:List T→Nat
 | []=>0
 | t::ts=>T.cn t+T.cns ts
end
mutual
theorem T.cn_sz:∀t:T,T.cn t≤T.sz t
 | .lst ts=>tH (T.cns_sz ts)
 | .dic _ ts=>tH (T.cns_sz ts)
 | .tup ts=>tH (T.cns_sz ts)
 | .non=>nY _
 | .bl _=>nY _
 | .int _=>nY _
 | .str _=>nY _
theorem T.cns_sz:∀ts:List T,T.cns ts≤T.szs ts
 | []=>nY _
 | t::ts=>Nat.add_le_add (T.cn_sz t) (T.cns_sz ts)
end
theorem T.cns_append:∀a b:List T,T.cns (a++b)=T.cns a+T.cns b
 | [],b=>(Nat.zero_add _).symm
 | t::a,b=>by
  show T.cn t+T.cns (a++b)=T.cn t+T.cns a+T.cns b;rw[T.cns_append a b];lia
def Mw(k:Nat)(o o':HO):Prop:=o'=o∨(∃xs j,o= .lst xs∧j≤k∧o'= .lst (xs++List.replicate j moV))∨∃ps,o= .dK ps∧o'= .dK (yY ps moK (.int 7))
theorem Mw.mono{k k':Nat}{o o':HO}(h:Mw k o o')(l:k≤k'):Mw k' o o':=by
 rcases h with h |⟨xs,j,e1,e2,e3⟩| h
 ·exact .inl h
 ·exact .inr (.inl ⟨xs,j,e1,nN e2 l,e3⟩)
 ·exact .inr (.inr h)
theorem Mw.lst{k:Nat}{xs:List V}{o':HO}(h:Mw k (.lst xs) o'):∃j,j≤k∧o'= .lst (xs++List.replicate j moV):=by
 rcases h with h |⟨ys,j,e1,e2,e3⟩|⟨ps,e,_⟩
 ·exact⟨0,nY _,by rw[h];simp⟩
 ·cases e1;exact⟨j,e2,e3⟩
 ·cases e
theorem Mw.dic{k:Nat}{ps:List (Key×V)}{o':HO}(h:Mw k (.dK ps) o'):o'= .dK ps∨o'= .dK (yY ps moK (.int 7)):=by
 rcases h with h |⟨ys,j,e1,e2,e3⟩|⟨qs,e,e2⟩
 ·exact .inl h
 ·cases e1
 ·cases e;exact .inr e2
def Mx(HD:Hp)(k:Nat)(H:Hp):Prop:=∀b o,HD b=some o→∃o',H b=some o'∧Mw k o o'
theorem Mx.of{HD H:Hp}(g:Same HD H):Mx HD 0 H:=fun b o e=>⟨o,g b o e, .inl rfl⟩
theorem Mx.mono{HD H:Hp}{k k':Nat}(h:Mx HD k H)(l:k≤k'):Mx HD k' H:=fun b o e=>by
 obtain⟨o',h1,h2⟩:=h b o e;exact⟨o',h1,h2.mono l⟩
theorem Mx.away{HD H:Hp}{k:Nat}{l:Addr}(h:Mx HD k H)(hl:H l=none):HD l=none:=by
 cases e:HD l with
 | none=>rfl
 | some o=>obtain⟨o',h1,_⟩:=h l o e;rw[hl] at h1;cases h1
theorem Mx.new{HD H:Hp}{k:Nat}{l:Addr}(h:Mx HD k H)(hl:H l=none)(o:HO):Mx HD k (upd H l o):=fun b u e=>by
 obtain⟨o',h1,h2⟩:=h b u e;exact⟨o',by rw[zO (fun z=>by rw[z,hl] at h1;cases h1)];exact h1,h2⟩
theorem Mx.put{HD H:Hp}{k:Nat}{a:Addr}{o o':HO}(h:Mx HD k H)(e:HD a=some o)(m:Mw k o o'):Mx HD k (upd H a o'):=fun b u eu=>by
 by_cases hb:b=a
 ·subst hb
  rw[e] at eu;cases eu;exact⟨o',zB,m⟩
 ·obtain⟨o2,h1,h2⟩:=h b u eu
  exact⟨o2,by rw[zO hb];exact h1,h2⟩
structure My(HD H H':Hp):Prop where
 keep:∀b o,HD b=none→H b=some o→H' b=some o
 stay:∀b ps,HD b=some (.dK ps)→H b=some (.dK (yY ps moK (.int 7)))→H' b=some (.dK (yY ps moK (.int 7)))
theorem My.trans{HD H H1 H2:Hp}(a:My HD H H1)(b:My HD H1 H2):My HD H H2:=⟨fun c o h e=>b.keep c o h (a.keep c o h e),fun c ps h e=>b.stay c ps h (a.stay c ps h e)⟩
theorem My.same{HD H H':Hp}(g:Same H H'):My HD H H':=⟨fun _ _ _ e=>g _ _ e,fun _ _ _ e=>g _ _ e⟩
theorem My.putL{HD H:Hp}{a:Addr}{xs:List V}(e:HD a=some (.lst xs))(o:HO):My HD H (upd H a o):=
 ⟨fun b u h hb=>by rw[zO (fun z=>by rw[z,e] at h;cases h)];exact hb,fun b ps h hb=>by rw[zO (fun z=>by rw[z,e] at h;cases h)];exact hb⟩
theorem My.putD{HD H:Hp}{a:Addr}{ps:List (Key×V)}(e:HD a=some (.dK ps)):My HD H (upd H a (.dK (yY ps moK (.int 7)))):=
 ⟨fun b u h hb=>by rw[zO (fun z=>by rw[z,e] at h;cases h)];exact hb,fun b qs h hb=>by
  by_cases hz:b=a
  ·subst hz
   rw[e] at h;cases h;exact zB
  ·rw[zO hz];exact hb⟩
theorem zTd(ps:List (Key×V))(k:Key)(v:V):yY (yY ps k v) k v=yY ps k v:=by
 have h1:((yY ps k v).any fun kv=>decide (kv.1=k))=true:=by
  rw[qQ,zSv,mK rfl];rfl
 have e0:yY (yY ps k v) k v=(yY ps k v).map (fun kv=>if kv.1=k then(kv.1,v) else kv):=mK h1;rw[e0];have:∀kv∈yY ps k v,(if kv.1=k then(kv.1,v) else kv)=kv:=by
  intro kv hm
  by_cases hk:kv.1=k
  ·rw[mK hk]
   unfold yY at hm;split at hm
   ·obtain⟨y,hy,e⟩:=nP.mp hm
    by_cases hy1:y.1=k
    ·rw[mK hy1] at e;rw[←e]
    ·rw[mG hy1] at e;rw[←e] at hk;exact absurd hk hy1
   ·rename_i hn
    rcases mT.mp hm with z | z
    ·exact absurd (aH.mpr ⟨kv,z,by simpa using hk⟩) hn
    ·rw[mO.mp z]
  ·rw[mG hk]
 exact(aL this).trans (List.map_id _)
theorem Reps.unsnoc{H:Hp}{x:V}:∀{xs:List V}{ts:List T},Reps H (xs++ [x]) ts→∃ts' t,ts=ts'++ [t]∧Reps H xs ts'∧Rep H x t
 | [],[],h=>by
  have h': [x]= []:=h;cases h'
 | [],t::ts,⟨v,r,e,h1,h2⟩=>by
  have e':x:: []=v::r:=e;injection e' with e1 e2;subst e1 e2;have:=h2.length
  cases ts with
  | nil=>exact⟨[],t,rfl,rfl,h1⟩
  | cons _ _=>simp at this
 | y::xs,[],h=>by
  have h':y::(xs++ [x])= []:=h;cases h'
 | y::xs,t::ts,⟨v,r,e,h1,h2⟩=>by
  have e':y::(xs++ [x])=v::r:=e;injection e' with e1 e2;subst e1 e2;obtain⟨ts',t',e3,h3,h4⟩:=Reps.unsnoc h2;exact⟨t::ts',t',by rw[e3];rfl,⟨_,_,rfl,h1,h3⟩,h4⟩
theorem Reps.sevens{H:Hp}:∀j:Nat,Reps H (List.replicate j moV) (List.replicate j (.int 7))
 | 0=>rfl
 | j+1=>⟨moV,List.replicate j moV,nS,rfl,Reps.sevens j⟩
theorem T.cns_sevens:∀j:Nat,T.cns (List.replicate j (.int 7))=0
 | 0=>rfl
 | j+1=>by
  rw[nS];show 0+T.cns (List.replicate j (.int 7))=0;rw[T.cns_sevens j]
theorem Reps.repl7{H:Hp}{k:Key}:∀{ps:List (Key×V)}{us:List T},Reps H (ps.map (·.2)) us→∃us',Reps H ((ps.map fun kv=>if kv.1=k then(kv.1,V.int 7) else kv).map (·.2)) us'∧T.cns us'≤T.cns us∧(∀u∈us',u∈us∨u= .int 7)∧us'.length=us.length
 | [],us,h=>⟨us,h,mE _,fun _ h=>.inl h,rfl⟩
 | p::ps,[],h=>by
  have h':(p::ps).map (·.2)= []:=h;cases h'
 | p::ps,u::us,⟨v,r,e,h1,h2⟩=>by
  have e':p.2::ps.map (·.2)=v::r:=e;injection e' with e1 e2;subst e1 e2;obtain⟨us',i1,i2,i3,i4⟩:=Reps.repl7 (k:=k) h2
  by_cases hk:p.1=k
  ·refine⟨.int 7::us',⟨.int 7,_,by rw[mU,mK hk,mU],rfl,i1⟩, ?_,fun w hw=>?_,by rw[nG,nG,i4]⟩
   ·show 0+T.cns us'≤T.cn u+T.cns us
    lia
   ·rcases mF.mp hw with z | z
    ·exact .inr z
    ·exact(i3 w z).imp (mJ _) id
  ·refine⟨u::us',⟨p.2,_,by rw[mU,mG hk,mU],h1,i1⟩,Nat.add_le_add_left i2 _,fun w hw=>?_,by rw[nG,nG,i4]⟩
   rcases mF.mp hw with z | z
   ·exact .inl (by rw[z];exact mM)
   ·exact(i3 w z).imp (mJ _) id
theorem Reps.put7{H:Hp}{k:Key}{ps qs:List (Key×V)}{us:List T}(h:Reps H (ps.map (·.2)) us)(hq:qs=ps∨qs=yY ps k (.int 7)):∃us',Reps H (qs.map (·.2)) us'∧T.cns us'≤T.cns us∧(∀u∈us',u∈us∨u= .int 7)∧us'.length≤us.length+1:=by
 rcases hq with e | e
 ·subst e;exact⟨us,h,mE _,fun _ h=>.inl h,rF _⟩
 ·subst e
  unfold yY;split
  ·obtain⟨us',i1,i2,i3,i4⟩:=Reps.repl7 (k:=k) h
   exact⟨us',i1,i2,i3,by lia⟩
  ·refine⟨us++ [.int 7], ?_, ?_,fun w hw=>?_,by rw[mL];exact mE _⟩
   ·rw[mX];exact Reps.snoc (show Rep H (.int 7) (.int 7) from rfl) h
   ·rw[T.cns_append];exact mE _
   ·rcases mT.mp hw with z | z
    ·exact .inl z
    ·exact .inr (mO.mp z)
def jE(H H':Hp):Hp:=fun b=>match H b with
 | none=>H' b
 | some _=>none
theorem qH{H H':Hp}{b:Addr}(h:H b=none):jE H H' b=H' b:=by unfold jE;rw[h]
theorem zCq(H H':Hp):Same (jE H H') H':=fun b o e=>by
 unfold jE at e
 cases h:H b with
 | none=>rw[h] at e;exact e
 | some _=>rw[h] at e;cases e
theorem zJr{H H':Hp}{b:Addr}{o:HO}(e:jE H H' b=some o):H b=none:=by
 unfold jE at e
 cases h:H b with
 | none=>rfl
 | some _=>rw[h] at e;cases e
theorem uG{H H' H2:Hp}(g:Same H' H2):Same (jE H H') (jE H H2):=fun b o e=>by
 have h:=zJr e;rw[qH h] at e⊢;exact g _ _ e
theorem Sp1.new{H H':Hp}{v:V}{t:T}{D:List Addr}(h:Sp1 H' v t D)(hD:∀b∈D,H b=none):Rep (jE H H') v t:=
 Sp1.rep _ _ _ (Sp1.keep _ _ _ (fun b hb o _ e=>by rw[qH (hD b hb)];exact e) h)
end L2
namespace L2
open PySem PySem.W PySem.Spec PyProof.Rows
structure Dd(P:Program)(w:World)(K:PySem.W.Frag)(mg:Str→Option Value)(base:Heap)(k:Nat)(x:Str)(ps:List Str)(dvs:List V)(sp:Sp):Prop where
 ex:∃(f:Addr)(fd:FuncData)(ds:List Value),FnOk P w K mg base CX0 k f fd ps sp∧Binds K fd ps ds∧Vals dvs ds∧PySem.W.keepIn K (.ref f)=true∧mg x=some (.ref f)
section
variable{X:Cx}{k j:Nat}{x:Str}{ps:List Str}{dvs:List V}{sp:Sp}{e:Expr}{es:List Expr}{t:TA}{p pos:Pos}
end
structure FunD(K:PySem.W.Frag)(x qual:Str)(st:Stmt)(f:Addr)(fd:FuncData):Prop where
 ex:∃(oc:Value)(od:Option Addr)(dV kV doc pm:Value)(an:Option Addr)(cdv ct:Value)(osl:Array (Option Value)),
  fd=PySem.W.fnOf x qual (zQ st) (zP st) (zH st) dV kV doc pm an cdv ct∧K.lookup f=some ⟨oc,od, .func fd,osl⟩∧PySem.W.codeIn K cdv qual=true
end L2
namespace L2
open PySem PySem.Spec PyProof.Rows
section
variable{X:Cx}
end
end L2
namespace L2
open PySem PySem.Builtin PySem.Builtin.Str
abbrev Tk:=Nat×List Nat
def stk(a b:Tk):Bool:=if b.2.take 1= [45]∧b.1=0 then false else if a.1=1 then decide (b.1=1)|| decide (b.1=0) else decide (a.1=b.1)&& !decide (a.1=3)
end L2
namespace L2
open PySem PySem.Spec PyProof.Rows
section
variable{P:Program}{w:World}{A:Around}{s:Shared}{E:Value→Shared→Prop}
end
section
variable{X:Cx}
end
end L2
namespace L2
open PySem PySem.Spec PyProof.Rows PySem.W
structure Kp(fs xs:List Addr)(h h':Heap):Prop where
 keep:∀b o,h.get? b=some o→b∉fs→b∉xs→h'.get? b=some o
 slot:∀b o,h.get? b=some o→b∈fs→b∉xs→∃sl,h'.get? b=some {o with slots:=sl}
theorem Kp.refl{fs xs:List Addr}{h:Heap}:Kp fs xs h h:=⟨fun _ _ e _ _=>e,fun _ o e _ _=>⟨o.slots,e⟩⟩
theorem Kp.trans{fs xs ys zs:List Addr}{h h1 h2:Heap}(a:Kp fs xs h h1)(b:Kp fs ys h1 h2)(hz:∀c,c∈xs∨(c∈ys∧h.get? c≠none)→c∈zs):Kp fs zs h h2 where
 keep c o e hf hx:=b.keep c o (a.keep c o e hf fun z=>hx (hz c (.inl z))) hf fun z=>hx (hz c (.inr ⟨z,by rw[e];exact fun z=>nomatch z⟩))
 slot c o e hf hx:=by
  obtain⟨sl,e1⟩:=a.slot c o e hf fun z=>hx (hz c (.inl z));obtain⟨sl2,e2⟩:=b.slot c _ e1 hf fun z=>hx (hz c (.inr ⟨z,by rw[e];exact fun z=>nomatch z⟩));exact⟨sl2,e2⟩
theorem zSx{base h h':Heap}{fs xs:List Addr}(k:Kp fs xs h h'):∀{l:List Env},(∀b∈frs l,b∈fs∧b∉xs)→h.FunFrames base l→h'.FunFrames base l
 | [],_,_=>by rw[Heap.FunFrames.eq_1];exact mH
 | env::l,hm,hf=>by
  rw[Heap.FunFrames.eq_2] at hf⊢;obtain⟨a,⟨L,o,e1,e2,e3,e4⟩,r⟩:=hf;have hL:L∈frs (env::l):=by unfold frs;rw[rQ,e1];exact mM
  obtain⟨sl,e5⟩:=k.slot L o e3 (hm L hL).1 (hm L hL).2;exact⟨a,⟨L,_,e1,e2,e5,e4⟩,zSx k (fun b hb=>hm b (by unfold frs;rw[rQ,e1];exact mJ _ hb)) r⟩
def Fl(h:Heap)(x T:Addr)(C:Value)(d:Option Addr)(a0 fl:Value):Prop:=∃(oe:Obj)(vs:Array Value)(oT:Obj)(ts:Array Value),h.get? x=some oe∧oe.cls=C∧oe.dict=d∧oe.data= .fields vs∧vs[0]? =some a0∧vs[1]? =some (.ref T)∧T≠x∧h.get? T=some oT∧oT.data= .fields ts∧ts[3]? =some fl
theorem zXm{o:Obj}{vs:Array Value}(h:o.data= .fields vs)(f:Array Value→Array Value):Obj.mapFields f o={o with data:=.fields (f vs)}:=by
 obtain⟨c,d,da,sl⟩:=o;cases h
 rfl
section
variable{M:Model}{A:Around}{E:Value→Shared→Prop}{s:Shared}{env:Env}{outer:List Env}{x T L:Addr}{C a0 fl:Value}{d:Option Addr}{base:Heap}{Q:Unit→Shared→Prop}
theorem zGt{h:Heap}{a:Addr}{o:Obj}{vs:Array Value}(e:h.get? a=some o)(hd:o.data= .fields vs)(i:Nat)(v:Value):(h.update a (Obj.mapFields fun xs=>xs.setIfInBounds i v)).get? a=some {o with data:=.fields (vs.setIfInBounds i v)}:=by
 rw[←zXm hd (fun xs=>xs.setIfInBounds i v)];exact tR _ e (by rw[zXm hd];rfl)
theorem jL(F:Fl s.heap x T C d a0 fl)(q:∀h',Fl h' x T C d a0 .none→Kp [] [T] s.heap h'→Q () {s with heap:=h'}):wpAny M A (setFlight (.ref x) none) Q E s:=by
 obtain⟨oe,vs,oT,ts,e1,e2,e3,e4,e5,e6,e7,e8,e9,e10⟩:=F;unfold setFlight;refine mD (cE e1 e4 e6 ?_);rw[mK (by rfl)];have hsz:3<ts.size:=by
  obtain⟨z,_⟩:=rM.mp e10;exact z
 refine cS e8 e9 hsz ?_;have hT:=zGt e8 e9 3 .none;refine q _ ⟨oe,vs,_,_,(nJ _ _ e7).trans e1,e2,e3,e4,e5,e6,e7,hT,rfl, ?_⟩ ⟨fun b o e _ hb=>(nJ _ _ fun z=>hb (by rw[z];exact mM)).trans e,fun b o e hb=>nomatch hb⟩;show(ts.setIfInBounds 3 Value.none)[3]? =some Value.none;rw[bN hsz]
theorem zSm{oe:Obj}{vs:Array Value}{head:Value}{b:Bool}(hfr:A.frames=some (env::outer))(hfu:s.heap.FunFrames base (env::outer))(hL:env.frame=some L)(e1:s.heap.get? x=some oe)(hx:x∉frs (env::outer))(e4:oe.data= .fields vs)(e5:vs[0]? =some a0)(hs:1<vs.size)
  (q:∀h' T',Fl h' x T' oe.cls oe.dict a0 (rawInt L)→Kp (frs (env::outer)) [x] s.heap h'→s.heap.get? T'=none→Q () {s with heap:=h'}):
  wpAny M A (do
   let a ←PySem.frameOf env;let pl ←entryPlaceOf L b;let b ←EntryCells.newEntry head a .none (rawInt L) .none pl
   setField (.ref x) 1 b) Q E s:=by
 refine mD (wpAny_frameOf_fun hfr hfu hL fun h1 so=>?_);refine mD (wpAny_entryPlaceOf fun pl hpl=>?_);refine mD ?_;unfold EntryCells.newEntry newFields;have hpz:(([head,Value.ref L,Value.none,rawInt L,Value.none]++if pl.isEmpty=true then List.replicate 6 Value.none else pl).toArray).size≤sizeLine+2:=by
  have:(if pl.isEmpty=true then List.replicate 6 Value.none else pl).length≤6:=by
   rcases hpl with rfl |⟨a,b,c,d,c9,b10,_,rfl⟩<;>simp
  rw[mZ,mL,mR];simp only[nG,pF]
  lia
 refine dE ?_ hpz;obtain⟨z1,z2,z3⟩:=so;have x1:h1.get? x=some oe:=by rw[z2 x hx];exact e1
 have hlt:x<h1.objs.size:=mY x1;refine cS (mN _ x1) e4 hs ?_;have hnew:h1.objs.size≠x:=rK hlt;have hx2:=zGt (mN (o:={cls:=.type "traceback",data:=.fields ([head,Value.ref L,Value.none,rawInt L,Value.none]++if pl.isEmpty=true then List.replicate 6 Value.none else pl).toArray}) (h:=h1) x1) e4 1 (.ref h1.objs.size);refine q _ h1.objs.size ⟨_,_,_,_,hx2,rfl,rfl,rfl, ?_, ?_,hnew,(nJ _ _ (Ne.symm hnew)).trans (nC _ rfl),rfl, ?_⟩ ⟨fun b o e hb hb2=>?_,fun b o e hb hb2=>?_⟩ ?_
 ·rw[cH (by decide)];exact e5
 ·rw[bN hs]
 ·simp
 ·refine(nJ _ _ fun z=>hb2 (by rw[z];exact mM)).trans (mN _ ?_)
  rw[z2 b hb];exact e
 ·obtain⟨sl,e'⟩:=z3 b o e
  exact⟨sl,(nJ _ _ fun z=>hb2 (by rw[z];exact mM)).trans (mN _ e')⟩
 ·rw[z1]
  exact tY (mE _)
theorem zSl{oe:Obj}{vs:Array Value}(hfr:A.frames=some (env::outer))(hfu:s.heap.FunFrames base (env::outer))(hL:env.frame=some L)(e1:s.heap.get? x=some oe)(hx:x∉frs (env::outer))(e4:oe.data= .fields vs)(e5:vs[0]? =some a0)(e6:vs[1]? =some .none)
  (q:∀h' T',Fl h' x T' oe.cls oe.dict a0 (rawInt L)→Kp (frs (env::outer)) [x] s.heap h'→s.heap.get? T'=none→Q () {s with heap:=h'}):wpAny M A (noteFrame (.ref x) env) Q E s:=by
 have hs:1<vs.size:=by
  obtain⟨z,_⟩:=rM.mp e6;exact z
 unfold noteFrame;rw[hL];refine mD (cE e1 e4 e6 ?_);exact zSm hfr hfu hL e1 hx e4 e5 hs q
theorem zLs(hfr:A.frames=some (env::outer))(hfu:s.heap.FunFrames base (env::outer))(hL:env.frame=some L)(hx:x∉frs (env::outer))(hT:T∉frs (env::outer))(F:Fl s.heap x T C d a0 .none)
  (q:∀h' T',Fl h' x T' C d a0 (rawInt L)→Kp (frs (env::outer)) [x,T] s.heap h'→s.heap.get? T'=none→Q () {s with heap:=h'}):wpAny M A (noteFrame (.ref x) env) Q E s:=by
 obtain⟨oe,vs,oT,ts,e1,e2,e3,e4,e5,e6,e7,e8,e9,e10⟩:=F;have hs:1<vs.size:=by
  obtain⟨z,_⟩:=rM.mp e6;exact z
 have hsz:3<ts.size:=by
  obtain⟨z,_⟩:=rM.mp e10;exact z
 unfold noteFrame;rw[hL];refine mD (cE e1 e4 e6 ?_);rw[mK (by rfl)];refine mD (cE e8 e9 e10 ?_);rw[mG (by intro z;cases (eq_of_beq z))];refine mD (cS e8 e9 hsz ?_);have k1:Kp (frs (env::outer)) [T] s.heap (s.heap.update T (Obj.mapFields fun x=>x.setIfInBounds 3 Value.none)):=⟨fun b o e _ hb=>(nJ _ _ fun z=>hb (by rw[z];exact mM)).trans e,fun b o e hb hb2=>⟨o.slots,(nJ _ _ fun z=>hb2 (by rw[z];exact mM)).trans e⟩⟩;have hfu2:(s.heap.update T (Obj.mapFields fun x=>x.setIfInBounds 3 Value.none)).FunFrames base (env::outer):=zSx k1 (fun b hb=>⟨hb,fun z=>hT (by rw[←mO.mp z];exact hb)⟩) hfu;have x2:(s.heap.update T (Obj.mapFields fun x=>x.setIfInBounds 3 Value.none)).get? x=some oe:=(nJ _ _ e7).trans e1;have q':=zSm (E:=E) (M:=M) (A:=A) (head:=.ref T) (b:=true) (s:={s with heap:=s.heap.update T (Obj.mapFields fun x=>x.setIfInBounds 3 Value.none)}) (Q:=Q) hfr hfu2 hL x2 hx e4 e5 hs;rw[e2,e3] at q';refine q' fun h' T' f k n=>q h' T' f (k1.trans k fun c hc=>?_) ?_
 ·rcases hc with z | z
  ·rw[mO.mp z];simp
  ·rw[mO.mp z.1];simp
 ·cases e:s.heap.get? T' with
  | none=>rfl
  | some o=>
   by_cases z:T'=T
   ·subst z
    rw[zGt e8 e9] at n;cases n
   ·have:=k1.keep
    rw[(nJ s.heap _ (Ne.symm z)).trans e] at n;cases n
end
section
variable{X:Cx}{pins:List (Addr×Obj)}{σ:St}{H H':Hp}{s s':Shared}
theorem ObjOk.got{P:Program}{w:World}{h:Heap}{a:Addr}{o:HO}(x:ObjOk P w H h a o):∃ob,h.get? a=some ob:=by
 induction o with
 | lst xs=>obtain⟨_,its,n,_,e⟩:=x;exact⟨_,e⟩
 | tup xs=>obtain⟨_,its,_,ob,e,_⟩:=x;exact⟨_,e⟩
 | dK kvs=>obtain⟨_,_,vs,_,ob,es,ep,e,_⟩:=x;exact⟨_,e⟩
 | dT kvs=>obtain⟨_,_,xs,_,ob,es,ep,e,_⟩:=x;exact⟨_,e⟩
 | set S n=>obtain⟨ob,es,ep,t,e,_⟩:=x;exact⟨_,e⟩
 | ins C dx fs=>obtain⟨_,_,_,e,_⟩:=x;exact⟨_,e⟩
 | own y=>exact x
 | xd fs=>obtain⟨mA,⟨od,es,ep,e,_⟩,_⟩:=x;exact⟨_,e⟩
 | rng lo hi=>obtain⟨t,u,v,e⟩:=x;exact⟨_,e⟩
 | frz ob u ih=>exact⟨_,x.1⟩
 | tbl ps=>exact⟨_,(show h.get? a=some _ from x)⟩
 | met f y=>exact⟨_,(show h.get? a=some _ from x)⟩
 | ext φ=>exact x.2.1
theorem zHp{B h:Heap}:∀{l:List Env},h.FunFrames B l→∀b∈frs l,∃o,h.get? b=some o∧∀vs:Array Value,o.data≠ .fields vs
 | [],_,b,hb=>nomatch hb
 | env::l,hf,b,hb=>by
  rw[Heap.FunFrames.eq_2] at hf;obtain⟨_,⟨L,o,e1,_,e3,e4⟩,r⟩:=hf;unfold frs at hb;rw[rQ,e1] at hb;rcases mF.mp hb with z | z
  ·rw[z];exact⟨o,e3,e4⟩
  ·exact zHp r b z
def CXE(P:Program)(w:World):CXT:=fun outer H s E e s'=>∃(x T:Addr)(C:Value)(d:Option Addr)(a0:Value)(H':Hp),e= .ref x∧s'.os=s.os∧AllBare s'.gens∧Un (frs outer) [] H H' s.heap s'.heap∧HOk P w H' s'.heap∧
 s.heap.get? x=none∧s.heap.get? T=none∧H' x=none∧H' T=none∧Fl s'.heap x T C d a0 .none∧E C d H'
theorem zMe{fs xs:List Addr}{H0 H':Hp}{h0 h h':Heap}(u:Un fs [] H0 H' h0 h)(k:Kp fs xs h h')(h1:∀b∈xs,h0.get? b=none):Un fs [] H0 H' h0 h' where
 keep b o e n hf hx:=k.keep b o (u.keep b o e n hf hx) hf fun z=>by rw[h1 b z] at e;cases e
 slot b o e n hf hx:=by
  obtain⟨sl,e1⟩:=u.slot b o e n hf hx;obtain⟨sl2,e2⟩:=k.slot b _ e1 hf fun z=>by rw[h1 b z] at e;cases e
  exact⟨sl2,e2⟩
 free b o e n hx:=u.free b o e n hx
 there b o e hx:=by
  obtain⟨o',e'⟩:=u.there b o e hx;have nx:b∉xs:=fun z=>by rw[h1 b z] at e;cases e
  by_cases hf:b∈fs
  ·obtain⟨sl2,e2⟩:=k.slot b _ e' hf nx
   exact⟨_,e2⟩
  ·exact⟨o',k.keep b o' e' hf nx⟩
 tups:=u.tups
 frzs:=u.frzs
 tbls:=u.tbls
theorem zHd{P:Program}{w:World}{H:Hp}{fs xs:List Addr}{h h':Heap}(x:HOk P w H h)(k:Kp fs xs h h')(hf:∀b∈fs,H b=none)(hx:∀b∈xs,H b=none):HOk P w H h':=fun a o e=>
 (x a o e).stay (fun b u hb q=>by
  have hn:H b≠none:=by
   rcases hb with z | z
   ·rw[z,e];exact fun z=>nomatch z
   ·rw[z];exact fun z=>nomatch z
  exact k.keep b u q (fun z=>hn (hf b z)) fun z=>hn (hx b z)) (fun _ q=>q) fun _ _ q=>q
theorem uD{fs fs' xs:List Addr}{h h':Heap}(k:Kp fs xs h h')(hm:∀b,b∈fs→b∈fs'∨b∈xs):Kp fs' xs h h' where
 keep b o e hf hx:=k.keep b o e (fun z=>(hm b z).elim hf hx) hx
 slot b o e hf hx:=by
  by_cases z:b∈fs
  ·exact k.slot b o e z hx
  ·exact⟨o.slots,k.keep b o e z hx⟩
theorem zXe{E:XK}{e:Value}{EE:Value→Shared→Prop}(I:Inv X pins σ H s)(hs:X.stack=X.env::X.outer)(hf:X.env.frame=some X.env.locals)(hex:X.ex= [])(h:CXE X.prog X.w X.stack H s E e s'):
  wpAny (model X.prog X.w) X.A (leaving X.env e) (fun _ s3=>CXE X.prog X.w X.outer X.H₀ X.s₀ E e s3) EE s':=by
 obtain⟨x,T,C,d,a0,H',rfl,os,bare,un,hok,hx,hT,hHx,hHT,fl,q⟩:=h;have I2:Inv X pins σ H' s':=I.call' os un hok bare (fun b z=>absurd z (by simp));have old:∀b,s.heap.get? b=none→X.s₀.heap.get? b=none:=fun b hb=>by
  cases e:X.s₀.heap.get? b with
  | none=>rfl
  | some o=>
   obtain⟨o',e'⟩:=I.base.there b o e (by rw[hex];exact fun z=>nomatch z);rw[hb] at e';cases e'
 have hfs:frs X.stack=X.env.locals::X.fs:=by
  rw[hs];unfold frs;rw[rQ,hf];rfl
 have hloc:X.s₀.heap.get? X.env.locals=none:=tY I.ok.above;have hfr:=I.ok.frames;rw[hs] at hfr;have nfr:∀b,s.heap.get? b=none→b∉frs X.stack:=fun b hb z=>by
  obtain⟨o,e,_⟩:=zHp I.stack b z;rw[hb] at e;cases e
 have nx:=nfr x hx;have nT:=nfr T hT;have st:=I2.stack;rw[hs] at nx nT st;unfold leaving;refine mD (zLs hfr st hf nx nT fl fun h1 T1 f1 k1 n1=>?_);refine jL f1 fun h2 f2 k2=>?_;rw[←hs] at k1;have hbase:=I2.base;rw[hex] at hbase;have hT1H:H' T1=none:=by
  cases e:H' T1 with
  | none=>rfl
  | some o=>
   obtain⟨ob,hob⟩:=ObjOk.got (I2.hok T1 o e);rw[n1] at hob;cases hob
 have hT1o:X.s₀.heap.get? T1=none:=by
  cases e:X.s₀.heap.get? T1 with
  | none=>rfl
  | some o=>
   obtain⟨o',e'⟩:=hbase.there T1 o e (fun z=>nomatch z);rw[n1] at e';cases e'
 have k3:Kp (frs X.stack) [x,T,T1] s'.heap h2:=k1.trans (uD k2 fun b hb=>nomatch hb) fun c hc=>by
  rcases hc with z | z
  ·rcases mF.mp z with z | z
   ·rw[z];simp
   ·rw[mO.mp z];simp
  ·rw[mO.mp z.1];simp
 have k4:Kp X.fs [x,T,T1,X.env.locals] s'.heap h2:=by
  have k5:Kp (frs X.stack) [x,T,T1,X.env.locals] s'.heap h2:=k3.trans Kp.refl (ys:=[]) fun c hc=>by
   rcases hc with z | z
   ·rcases mF.mp z with z | z
    ·rw[z];simp
    ·rcases mF.mp z with z | z
     ·rw[z];simp
     ·rw[mO.mp z];simp
   ·exact nomatch z.1
  refine uD k5 fun b hb=>?_;rw[hfs] at hb;rcases mF.mp hb with z | z
  ·rw[z];exact .inr (by simp)
  ·exact .inl z
 refine⟨x,T1,C,d,a0,H',rfl,I2.os,I2.bare,zMe hbase k4 fun b hb=>?_,zHd I2.hok k3 I2.stkFree fun b hb=>?_,old x hx,hT1o,hHx,hT1H,f2,q⟩
 ·rcases mF.mp hb with z | z
  ·rw[z];exact old x hx
  ·rcases mF.mp z with z | z
   ·rw[z];exact old T hT
   ·rcases mF.mp z with z | z
    ·rw[z];exact hT1o
    ·rw[mO.mp z];exact hloc
 ·rcases mF.mp hb with z | z
  ·rw[z];exact hHx
  ·rcases mF.mp z with z | z
   ·rw[z];exact hHT
   ·rw[mO.mp z];exact hT1H
end
end L2
namespace L2
open PySem PySem.Spec PyProof.Rows PySem.W
def zXj(nm:Str)(C N:Addr)(bm:List Value)(o:Obj):Prop:=∃(q:Str)(bs:List Value)(hdct:Bool)(sn:List Str)(sub:List Value)(ab:Bool)(col:Option Bool)(dd:Option Addr)(k0 k1 k2 k3 k5:Option Value),o=excClassObj nm q C N bs bm hdct sn sub ab col dd k0 k1 k2 k3 k5 "ValueError.__new__"
section
variable{M:Model}{A:Around}{E:Value→Shared→Prop}{s:Shared}{env:Env}
theorem zDa{nm:Str}{C N:Addr}{bm:List Value}{x:Sem Value}{Q:Flow→Shared→Prop}(hb:bm.contains (.type "BaseException")=true)(hh:A.handled=none)
  (h:wpAny M A x (fun v s1=>∃(e:Addr)(oe oC:Obj)(vs:Array Value),v= .ref e∧s1.heap.get? C=some oC∧zXj nm C N bm oC∧s1.heap.get? e=some oe∧oe.cls= .ref C∧oe.data= .fields vs∧vs[1]? =some .none∧E (.ref e) s1) E s):
  wpAny M A (raiseStmt env (some x) none) Q E s:=by
 unfold raiseStmt;refine mD (thn h fun v s1 ⟨e,oe,oC,vs,ev,hC,hX,he,hcl,hd,h1,q⟩=>?_);subst ev;obtain⟨q',bs,hdct,sn,sub,ab,col,dd,k0,k1,k2,k3,k5,rfl⟩:=hX;have hnc:∀c:ClassData,oe.data≠ .cls c:=fun c z=>by rw[hd] at z;cases z
 refine mD (mS ?_);refine mD (pT ?_);unfold excFromValue isExcClass;refine mD (mD (ks_wpAny_isType_inst he hnc ?_));rw[mG nA];refine mS ?_;rw[mG nA];unfold PySem.isInstance;refine mD (mD (tI he ?_));rw[hcl];refine wpAny_isSubtype_exc hC ?_;rw[show(Value.ref C::bm).contains (Value.type "BaseException")=true by
  rw[aV,hb,bV],mK rfl]
 refine mS ?_;refine mD (ks_wpAny_isType_inst he hnc ?_);rw[mG nA];unfold raisedInstance;refine mD (mD (tI he ?_));rw[hcl];refine mD (tI hC ?_);rw[mK (by rfl)];refine mS ?_;refine mD ?_;unfold setFlight;refine mD (cE he hd h1 ?_);rw[mG (by intro z;cases z)];refine mS ?_;exact wpAny_raiseNew_none hh q
end
end L2
namespace L2
open PySem PySem.Spec PyProof.Rows PySem.W
abbrev veMro:List Value:=[.type "ValueError", .type "Exception", .type "BaseException", .type "object"]
abbrev kP(C t:Addr):Obj:={cls:=.ref C,data:=.fields #[.ref t, .none, .none, .none, .bool false, .none]}
theorem zPq(a:Args):(Code.builtin "type.__call__" a).quiet=true:=by
 unfold Code.quiet
 first | rfl | kernel_rfl | decide+kernel
theorem zNh(a:Args):(Code.builtin "ValueError.__new__" a).quiet=true:=by
 unfold Code.quiet
 first | rfl | kernel_rfl | decide+kernel
section
variable{prog:Program}{w:World}{A:Around}{K:Frag}{C fI N:Addr}{nm:Str}{bm:List Value}{o:Obj}
theorem zYm{R:Result→Shared→Prop}{rest:List Value}{h:Heap}{g:Array GenState}{d:Drawn}{t:Nat}{os:OsState}(hK:K.In h)(lk:K.lookup C=some o)(hX:zXj nm C N bm o)(ht:tailIn K veMro bm=true)(hi:findIn K (.ref C) "__init__" =some (some (.ref fI)))(hf:typeIn K (.ref fI)=some (.type "function"))(hz:rest.length≤100)
  (hh:codeAny (model prog w) (A.under (.builtin "type.__call__" ⟨.ref C::rest,[]⟩)) (.call (.ref fI) ⟨.ref (h.objs.size+1)::rest,[]⟩) (InitBack (h.objs.size+1) R) ⟨(h.push {cls:=.type "tuple",data:=.seq rest.toArray}).push (kP C h.objs.size),g,d,t,os⟩):
  codeAny (model prog w) A (.call (.ref C) ⟨rest,[]⟩) R ⟨h,g,d,t,os⟩:=by
 have hC:h.get? C=some o:=hK _ _ lk;obtain⟨q',bs,hdct,sn,sub,ab,col,dd,k0,k1,k2,k3,k5,rfl⟩:=hX;have hT:=tail_of_in hK ht;refine codeAny_of_tree ?_;show wpAny _ _ (callAny (.ref C) ⟨rest,[]⟩) _ _ _;unfold callAny;refine mD (wpAny_load hC ?_);show wpAny _ _ (callAny.viaDunder (.ref C) ⟨rest,[]⟩) _ _ _;unfold callAny.viaDunder specialOf;refine mD (mD (tI hC ?_));rw[tc_lookup];refine mS ?_;dsimp only;rw[tc_bind];refine mD (mS ?_);dsimp only;refine mD ?_;unfold callAny.plainCallee;refine mS ?_;rw[mK (by rfl)];refine mS ⟨rfl, ?_⟩;refine codeAny_call_builtin_at (zPq _) F.entry_type_call (wpAny_check_type_call_sub hC ?_);show wpAny _ _ (Builtin.«type.__call__» ⟨.ref C::rest,[]⟩) _ _ _;unfold Builtin.«type.__call__»;dsimp only;rw[mG (by intro z;cases (eq_of_beq z))];refine mD (wpAny_mroOf_exc hC ?_);rw[mG (by intro z;cases z)];refine mD (wpAny_madeBy_exc hC ?_);dsimp only;refine mD (mS ?_);refine mD (pT (tZ ?_));refine codeAny_call_builtin_code (zNh _) (wpAny_check_new_subT cO hT hC ?_);refine codeAny_exc_new_subT cO hT hC ?_ (by rw[mR];lia);have k1':∀b ob,h.get? b=some ob→((h.push {cls:=.type "tuple",data:=.seq rest.toArray}).push (kP C h.objs.size)).get? b=some ob:=fun b ob e=>mN _ (mN _ e);have hsz:(h.push {cls:=.type "tuple",data:=.seq rest.toArray}).objs.size=h.objs.size+1:=bE ..;have he:((h.push {cls:=.type "tuple",data:=.seq rest.toArray}).push (kP C h.objs.size)).get? (h.objs.size+1)=some (kP C h.objs.size):=by
  rw[←hsz];exact nC _ rfl
 have hK2:K.In ((h.push {cls:=.type "tuple",data:=.seq rest.toArray}).push (kP C h.objs.size)):=hK.keeps k1';have hC2:=k1' _ _ hC;unfold PySem.isInstance;refine mD (mD (tI he ?_));refine wpAny_isSubtype_exc hC2 ?_;rw[show(Value.ref C::bm).contains (Value.ref C)=true by simp,mG (by decide)];refine mD (pT ?_);unfold callSpecial? specialOf;refine mD (mD (tI he ?_));refine Looks.here (looks_findIn hK2 hi) ?_;dsimp only;refine pT (mD (Looks.here (bind_fn hK2 _ hf) ?_));dsimp only;refine mD (tZ (aG hh fun r s' hr=>?_))
 cases r with
 | error e=>exact hr
 | ok fl=>
  cases fl with
  | ret v=>
   obtain⟨rfl,hr⟩:=hr;refine mS ?_;dsimp only;rw[mG (by intro z;cases z)];exact mS hr
  | next=>exact hr.elim
  | brk=>exact hr.elim
  | cont=>exact hr.elim
end
end L2
namespace L2
open PySem PySem.Spec PyProof.Rows PySem.W PySem.Builtin PySem.Builtin.ObjectAttr
section
variable{prog:Program}{w:World}{A:Around}{K:Frag}{C B x:Addr}{cd:ClassData}{ox:Obj}{name:Str}{v:Value}
theorem osa_x{R:Result→Shared→Prop}{s:Shared}{tk:Tok}(hK:K.In s.heap)(hc:clsIn K C=some cd)(hm:cd.mro= .ref C:: .ref B::veMro)(hd:cd.hasDict=true)(hx:s.heap.get? x=some ox)(hcl:ox.cls= .ref C)(hnc:∀c,ox.data≠ .cls c)(hdi:ox.dict=none)
  (hn:findIn K (.ref C) name=some none)
  (q:∀h' t',h'.get? x=some {ox with dict:=some s.heap.objs.size}→h'.Ns1 s.heap.objs.size (fun y=>if y=name then some v else none)→(∀b o,b≠x→s.heap.get? b=some o→h'.get? b=some o)→R (.ok (.ret .none)) {s with heap:=h',toks:=t'}):
  codeAny (model prog w) A (.call (.builtin "object.__setattr__") ⟨[.ref x, .str name tk,v],[]⟩) R s:=by
 have SF:=PySem.F.store_ValueError;obtain⟨h,g,dr,t,os⟩:=s;dsimp only at hK hx q;have tp:Looks (model prog w) h (typeOf (.ref x)) (.ref C):=by
  intro A Q E s k q;refine tI (k _ _ hx) ?_;rw[hcl];exact q
 have sub:Looks (model prog w) h (isInstance (.ref x) (.type "object")) true:=tp.andThen (looks_mroIn hK (by
  unfold mroIn;rw[hc,dP,mG (by rw[hm];exact nA),hm,aV,aV,show veMro.contains (.type "object")=true by decide,bV,bV]))
 refine aE SF.slot.plain SF.entry (@check_slot (model prog w) _ _ ⟨h,g,dr,t,os⟩ "object.__setattr__" "object" "__setattr__" (.ref x) [.str name tk,v] [] _ SF.kind SF.split sub (SF.args (.ref x) (.str name tk) v) ?_);have hmr:Looks (model prog w) h (mroOf (.ref C)) cd.mro:=(looks_clsIn hK hc).andThen .now;rw[osa_eq,refuse_eq];refine mD (mD (Looks.here tp (mD (Looks.here hmr ?_))));rw[hm,refuseLoop_ref,refuseLoop_ref,SF.passes];refine mS (mD (Looks.here tp (mD (Looks.here (looks_findIn hK hn) (mD ?_)))));refine mS ?_;dsimp only;unfold storeInOwnDict;refine mD (mS ?_);rw[mG (by intro z;cases (eq_of_beq z))];refine mD ?_;show wpAny _ _ (instanceDict x true) _ _ _;unfold instanceDict;refine mD (wpAny_loadPart hx ?_);obtain⟨oc,odi,oda,osl⟩:=ox;dsimp only at hcl hdi hnc;subst hcl hdi;dsimp only;refine mD (Looks.here (looks_clsIn hK hc) ?_);rw[hd];rw[mG (show¬((!true)=true) from nA),mG (by simp[typeHasDict])];have main:wpAny (model prog w) A.in1 (do
     let d ←alloc {cls:=Value.type "dict",data:=Data.dict #[]}
     update x fun o=>{cls:=o.cls,dict:=some d,data:=o.data,slots:=o.slots}
     dictMade (Value.ref C) x d)
   (fun a s'=>
   wpAny (model prog w) A.in1
    (match a with
    | some d=>storeInDict d (Value.str name tk) name v
    | none=>noDictFor (Value.ref x) (Value.ref C) name (none:Option Value).isSome)
    (fun fin s'=>
     match fin with
     | Fin.done f=>R (Except.ok f) s'
     | Fin.again c'=>c'.quiet=true∧codeAny (model prog w) A c' R s')
    (fun e s'=>R (Except.error e) s') s')
  (fun e s'=>R (Except.error e) s') {heap:=h,gens:=g,drawn:=dr,toks:=t,os:=os}:=by
  have hx₁:(h.push {cls:=.type "dict",data:=.dict #[]}).get? x=some _:=mN _ hx;have hxs:x≠h.objs.size:=nO (mY hx);refine mD (wpAny_alloc' ?_);refine mD (wpAny_update' hx₁ ?_);refine mS ?_;have hgd:((h.push {cls:=.type "dict",data:=.dict #[]}).update x fun o=>{cls:=o.cls,dict:=some h.objs.size,data:=o.data,slots:=o.slots}).get? h.objs.size=some {cls:=.type "dict",data:=.dict #[]}:=
   (Heap.get?_update_ne _ _ _ _ hxs.symm).trans (Heap.get?_push_at rfl rfl)
  have hnd:((h.push {cls:=.type "dict",data:=.dict #[]}).update x fun o=>{cls:=o.cls,dict:=some h.objs.size,data:=o.data,slots:=o.slots}).Ns h.objs.size (fun _=>none):=
   ⟨_,#[],_,hgd,rfl,fun e he=>absurd he (by simp),fun _=>rfl⟩
  show wpAny _ _ (storeInDict h.objs.size (.str name tk) name v) _ _ _;unfold storeInDict newKeyGuard;refine mD (mS (mD (wpAny_nsSet1 (Heap.Ns1.of_empty hnd) fun h' hn' hs=>?_)));obtain⟨oD,esD,epD,hoD,hdD,hcD⟩:=hn'.count (Within.cons name v Within.nil);refine mD (wpAny_lookBehind hoD (by rw[hdD];exact pastItsLine_dict (nN hcD (by rw[nG,pF,mR];lia))) ?_);refine mS ?_;have hfr:=(Heap.get?_some_iff.mp hx).2;refine q h' _ ((hs.2 x hxs).trans (tR _ hx₁ ?_)) hn' fun b o hb e=>?_
  ·cases oda<;>first | rfl | exact hfr
  ·exact(hs.2 b (nO (mY e))).trans ((Heap.get?_update_ne _ _ _ _ hb).trans (mN _ e))
 cases oda with
 | cls c=>exact absurd rfl (hnc c)
 | _=>exact main
theorem set_x{E:Value→Shared→Prop}{Q:Unit→Shared→Prop}{s:Shared}(hK:K.In s.heap)(hc:clsIn K C=some cd)(hm:cd.mro= .ref C:: .ref B::veMro)(hd:cd.hasDict=true)(hx:s.heap.get? x=some ox)(hcl:ox.cls= .ref C)(hnc:∀c,ox.data≠ .cls c)(hdi:ox.dict=none)
  (hs:findIn K (.ref C) "__setattr__" =some (some (.builtin "object.__setattr__"))) (hn:findIn K (.ref C) name=some none)
  (q:∀h' t',h'.get? x=some {ox with dict:=some s.heap.objs.size}→h'.Ns1 s.heap.objs.size (fun y=>if y=name then some v else none)→(∀b o,b≠x→s.heap.get? b=some o→h'.get? b=some o)→Q () {s with heap:=h',toks:=t'}):
  wpAny (model prog w) A (setAttr (.ref x) name v) Q E s:=by
 have hno:notCls ox=true:=by
  unfold notCls;obtain⟨oc,odi,oda,osl⟩:=ox
  cases oda with
  | cls c=>exact absurd rfl (hnc c)
  | _=>rfl
 refine set_plain (od:=none) hK ⟨hx,hcl,hno,by rw[hdi];trivial⟩ hs ?_;exact osa_x (s:={s with toks:=s.toks+1}) hK hc hm hd hx hcl hnc hdi hn fun h' t' a b c=>q h' t' a b c
end
end L2
namespace L2
open PySem PySem.Spec PyProof.Rows PySem.W
structure zLf(K:Frag)(nm:Str)(C B fI:Addr):Prop where
 obj:∃(N:Addr)(o:Obj),K.lookup C=some o∧zXj nm C N (.ref B::veMro) o
 cd:∃cd,clsIn K C=some cd∧cd.mro= .ref C:: .ref B::veMro∧cd.hasDict=true
 tl:tailIn K veMro (.ref B::veMro)=true
 init:findIn K (.ref C) "__init__" =some (some (.ref fI))
 fn:typeIn K (.ref fI)=some (.type "function")
 set:findIn K (.ref C) "__setattr__" =some (some (.builtin "object.__setattr__"))
 at_:findIn K (.ref C) "at" =some none
 kp:keepIn K (.ref C)=true
structure zTy(K:Frag)(B:Addr):Prop where
 sp:specialIn K (.ref B) "__getattribute__" =some (some (.builtin "type.__getattribute__"))
 rd:readsIn K B (.type "type")=true
 init:findCls K (.ref B) (.type "type") "__init__" =some (.val (.builtin "ValueError.__init__"))
def exO(x C:Addr)(d:Option Addr):HO:=.ext fun h=>∃vs:Array Value,h.get? x=some {cls:=.ref C,dict:=d,data:=.fields vs}∧vs.size=6∧vs[1]? =some .none
theorem zHv{P:Program}{w:World}{H:Hp}{h:Heap}{x C:Addr}{d:Option Addr}{vs:Array Value}(e:h.get? x=some {cls:=.ref C,dict:=d,data:=.fields vs})(h6:vs.size=6)(h1:vs[1]? =some .none):ObjOk P w H h x (exO x C d):=
 ⟨⟨vs,e,h6,h1⟩,⟨_,e⟩,fun _ _ ⟨vs,e,a,b⟩ k=>⟨vs,k _ e,a,b⟩⟩
theorem yCj{H:Hp}{a:Addr}{o:HO}(h:H a=some o):upd H a o=H:=by
 funext b
 unfold upd;split
 ·rename_i e;rw[e,h]
 ·rfl
theorem Un.also{fs ex:List Addr}{H H1:Hp}{h h':Heap}{a:Addr}{o:HO}(u:Un fs ex H H1 h h')(hp:h.objs.size≤a)(hn:H a=none):Un fs ex H (upd H1 a o) h h' where
 keep:=u.keep
 slot:=u.slot
 free:=fun b ob q n hx=>by rw[zO (nO (nF (mY q) hp))];exact u.free b ob q n hx
 there:=u.there
 tups:=fun b xs q=>by rw[zO (yC q hn)];exact u.tups b xs q
 frzs:=fun b ob xs q=>by rw[zO (yC q hn)];exact u.frzs b ob xs q
 tbls:=fun b ps q=>by rw[zO (yC q hn)];exact u.tbls b ps q
theorem HOk.also{P:Program}{w:World}{H:Hp}{h:Heap}{a:Addr}{o:HO}(x:HOk P w H h)(hn:H a=none)(new:ObjOk P w (upd H a o) h a o):HOk P w (upd H a o) h:=fun b u e=>by
 by_cases hb:b=a
 ·subst hb;rw[zB] at e;cases e;exact new
 ·rw[zO hb] at e
  exact(x b u e).stay (fun c v _ q=>q) (fun c q=>by rw[zO (yC q hn)];exact q) fun c xs q=>by rw[zO (yC q hn)];exact q
section
variable{X:Cx}{pins:List (Addr×Obj)}{σ:St}{H:Hp}{s:Shared}{x C B fI:Addr}{nm:Str}{d:Option Addr}
theorem zDb(I:Inv X pins σ H s)(h:H x=some (exO x C d)):∃vs:Array Value,s.heap.get? x=some {cls:=.ref C,dict:=d,data:=.fields vs}∧vs.size=6∧vs[1]? =some .none:=(I.hok x _ h).1
theorem zPf{Q:Value→Shared→Prop}{E:Value→Shared→Prop}{u:Value}(c:zLf X.K nm C B fI)(I:Inv X pins σ H s)(hH:H x=some (exO x C d))(q:∀s',Inv X pins σ H s'→Q .none s'):
  wpAny (model X.prog X.w) X.A (call (.builtin "ValueError.__init__") [.ref x,u]) Q E s:=by
 obtain⟨N,o,lk,q',bs,hdct,sn,sub,ab,col,dd,k0,k1,k2,k3,k5,rfl⟩:=c.obj;obtain⟨vs,he,h6,h1⟩:=zDb I hH;have hT:=tail_of_in I.kIn c.tl;have hC:=I.kIn _ _ lk;have I':=I;obtain⟨h,g,dr,t,os⟩:=s;dsimp only at he hC hT;have F:=cO;obtain⟨a0,h0⟩:∃a0,vs[0]? =some a0:=⟨_,rM.mpr ⟨by lia,rfl⟩⟩;refine tZ (aE F.init.plain F.initEntry (wpAny_check_init_subT F hT hC he rfl ?_));unfold Builtin.«BaseException.__init__»;dsimp only;rw[mG (by simp)];have hsz:0<vs.size:=by lia
 have he₁:=mN (h:=h) {cls:=.type "tuple",data:=.seq [u].toArray} he;have hup:=zGt he₁ rfl 0 (.ref h.objs.size);have fin:Inv X pins σ H ⟨(h.push {cls:=.type "tuple",data:=.seq [u].toArray}).update x (Obj.mapFields fun xs=>xs.setIfInBounds 0 (.ref h.objs.size)),g,dr,t,os⟩:=by
  rw[←yCj hH];refine Inv.write (t':=t) I' (e:=x) (by rw[hH];exact mH) (.inl rfl) (fun b ob hb e=>(nJ _ _ (Ne.symm hb)).trans (mN _ e)) ⟨_,hup⟩ (zHv hup ?_ ?_)
  ·rw[Array.size_setIfInBounds];exact h6
  ·rw[cH (by decide)];exact h1
 refine mD (wpAny_newTuple ?_ (by rw[mR];simp));unfold Builtin.BaseException.bexcPut;refine mD (mD (cE he₁ rfl h0 (mD (cS he₁ rfl hsz ?_))));have fin2:=q _ fin
 cases a0 with
 | ref a=>exact cV (mS fin2)
 | _=>exact mS (mS fin2)
end
end L2
namespace L2
open PySem PySem.Spec PyProof.Rows PySem.W
section
variable{X:Cx}{C B fI:Addr}{nm:Str}
def zYj(C:Addr)(t:TA):TE:=fun σ H Q=>t σ H fun vs H1=>∃x v,vs= [.ref x,v]∧H1 x=some (exO x C none)∧Q .non H1
theorem zRt{bn:Str}{p apos pos:Pos}{e:Expr}{es:List Expr}{t:TA}{pl:Sem Bool}(c:zLf X.K nm C B fI)(b:zTy X.K B)(hg:Gl X bn)(hm:X.mg bn=some (.ref B))(ha:PA X (e::es) t)(hdb:(bn==("__debug__" :Str))=false:=by decide)
  (he:starEach (e::es) X.env=(false,eval e X.env)::starEach es X.env:=by rfl) (hpl:(backTo pos (starEach es X.env)).any (·.1)=false:=by rfl)
  (ht:eval (.Call (.Attribute (.Name bn p) "__init__" apos) (e::es) [] pos) X.env=(do
   let ov ←eval (.Name bn p) X.env
   standAt apos.atName
   let (f,first) ←holding [ov] (getMethod ov "__init__" pl)
   callWith pos f first (backTo pos (starEach (e::es) X.env)) (backToKw pos (keywordEach [] X.env))):=by rfl):
  PE X (.Call (.Attribute (.Name bn p) "__init__" apos) (e::es) [] pos) (zYj C t):=by
 intro pins s σ H Q I h;refine methodCall_KW (pl:=pl) (jI I hg hm ?_ hdb) ht;refine method_cls I.kIn b.sp (cls_value I.kIn b.rd b.init (by decide+kernel) ?_);have I1:=I.tok (s.toks+1);refine cJ (thn (ha pos pins _ σ H _ I1 h) fun us s2 ⟨vs,H2,I2,r,x,v,e1,e2,q⟩=>?_) he hpl;subst e1;obtain⟨u1,u2,rfl,r1⟩:∃u1 u2,us= [u1,u2]∧RelV (.ref x) u1:=by
  cases r with
  | cons a r=>
   cases r with
   | cons b r=>cases r;exact⟨_,_,rfl,a⟩
 obtain rfl:u1=Value.ref x:=r1;exact zPf c I2 e2 fun s' I3=>⟨.non,H2,I3,rfl,q⟩
def tXSet(C:Addr)(f:Str)(tv ta:TE):TS:=fun D σ H=>tv σ H fun v H1=>ta σ H1 fun o H2=>∃x,o= .ref x∧H2 x=some (exO x C none)∧∀d,H2 d=none→D.nx σ (upd (upd H2 x (exO x C (some d))) d (.xd [(f,v)]))
theorem zUd{o value:Expr}{pos' pos:Pos}{tv ta:TE}(c:zLf X.K nm C B fI)(hv:PE X value tv)(ha:PE X o ta)(hs:swapsWith value (some (.Attribute o "at" pos')) pos.line X.env=pure false:=by rfl):PS X (.Assign [.Attribute o "at" pos'] value pos) (tXSet C "at" tv ta):=by
 intro pins s σ H D I h;refine plainObj_wpAny_Assign_Attribute (thn (hv pins s σ H _ I h) fun u s1 ⟨y,H1,I1,ry,q⟩=>thn (ha pins s1 σ H1 _ I1 q) fun ov s2 ⟨z,H2,I2,rx,x,ez,hH,q2⟩=>?_) hs;subst ez;obtain rfl:ov=Value.ref x:=rx;obtain⟨vs,he,h6,h1⟩:=zDb I2 hH;obtain⟨cd,hc,hm,hd⟩:=c.cd;refine set_x I2.kIn hc hm hd he rfl (fun _ z=>by cases z) rfl c.set c.at_ fun h' t' g1 g2 g3=>?_;have hfr:H2 s2.heap.objs.size=none:=I2.fresh;have hne:s2.heap.objs.size≠x:=fun z=>by rw[z,hH] at hfr;cases hfr
 have hmu:Mut (H2 x):=by rw[hH];exact mH
 have u1:Un X.fs [] H2 (upd H2 x (exO x C (some s2.heap.objs.size))) s2.heap h':=Un.write (e:=x) hmu (.inl rfl) g3 ⟨_,g1⟩;have k1:HOk X.prog X.w (upd H2 x (exO x C (some s2.heap.objs.size))) h':=I2.hok.write (e:=x) hmu (.inl rfl) g3 ⟨_,g1⟩ (zHv g1 h6 h1);refine⟨σ,_,I2.un (t':=t') (u1.also (a:=s2.heap.objs.size) (o:=.xd [("at",y)]) (mE _) hfr) (k1.also (by rw[zO hne];exact hfr) ?_),q2 _ hfr⟩;refine⟨_,g2,fun f=>?_⟩;show RelO (List.lookup f [("at",y)]) _;rw[sH,List.lookup_nil]
 by_cases z:f= "at"
 ·subst z
  rw[mK rfl,beq_self_eq_true];exact ry
 ·rw[mG z,show(f==("at" :Str))=false from tE.mpr z]
  trivial
def zCi(C:Addr):Sp:=fun vs H Q _=>∃x v0 v,vs= [.ref x,v0,v]∧H x=some (exO x C none)∧∀d,H d=none→Q .non (upd (upd H x (exO x C (some d))) d (.xd [("at",v)]))
end
section
variable{X:Cx}{pins:List (Addr×Obj)}{σ:St}{H:Hp}{s:Shared}{x C:Addr}{d:Option Addr}
def drp(H:Hp)(x:Addr):Hp:=fun b=>if b=x then none else H b
theorem kH{b:Addr}(h:b≠x):drp H x b=H b:=mG h
theorem zCp:drp H x x=none:=mK rfl
theorem zFg{E:XK}{EE:Value→Shared→Prop}(I:Inv X pins σ H s)(hs:X.stack=X.env::X.outer)(hf:X.env.frame=some X.env.locals)(hex:X.ex= [])(hH:H x=some (exO x C d))(hx0:X.s₀.heap.get? x=none)(q:E (.ref C) d (drp H x)):
  wpAny (model X.prog X.w) X.A (leaving X.env (.ref x)) (fun _ s3=>CXE X.prog X.w X.outer X.H₀ X.s₀ E (.ref x) s3) EE s:=by
 obtain⟨vs,he,h6,h1⟩:=zDb I hH;obtain⟨a0,h0⟩:∃a0,vs[0]? =some a0:=⟨_,rM.mpr ⟨by lia,rfl⟩⟩;have hfs:frs X.stack=X.env.locals::X.fs:=by
  rw[hs];unfold frs;rw[rQ,hf];rfl
 have hloc:X.s₀.heap.get? X.env.locals=none:=tY I.ok.above;have hfr:=I.ok.frames;rw[hs] at hfr;have nx:x∉frs X.stack:=fun z=>by
  have:=I.stkFree x z;rw[hH] at this;cases this
 have st:=I.stack;have nx':=nx;rw[hs] at nx' st;unfold leaving;refine mD (zSl hfr st hf he nx' rfl h0 h1 fun h1 T1 f1 k1 n1=>?_);refine jL f1 fun h2 f2 k2=>?_;rw[←hs] at k1;have hbase:=I.base;rw[hex] at hbase;have hT1H:H T1=none:=by
  cases e:H T1 with
  | none=>rfl
  | some o=>
   obtain⟨ob,hob⟩:=ObjOk.got (I.hok T1 o e);rw[n1] at hob;cases hob
 have hT1o:X.s₀.heap.get? T1=none:=by
  cases e:X.s₀.heap.get? T1 with
  | none=>rfl
  | some o=>
   obtain⟨o',e'⟩:=hbase.there T1 o e (fun z=>nomatch z);rw[n1] at e';cases e'
 have k3:Kp (frs X.stack) [x,T1] s.heap h2:=k1.trans (uD k2 fun b hb=>nomatch hb) fun c hc=>by
  rcases hc with z | z
  ·rw[mO.mp z];simp
  ·rw[mO.mp z.1];simp
 have k4:Kp X.fs [x,T1,X.env.locals] s.heap h2:=by
  have k5:Kp (frs X.stack) [x,T1,X.env.locals] s.heap h2:=k3.trans Kp.refl (ys:=[]) fun c hc=>by
   rcases hc with z | z
   ·rcases mF.mp z with z | z
    ·rw[z];simp
    ·rw[mO.mp z];simp
   ·exact nomatch z.1
  refine uD k5 fun b hb=>?_;rw[hfs] at hb;rcases mF.mp hb with z | z
  ·rw[z];exact .inr (by simp)
  ·exact .inl z
 have u1:Un X.fs [] X.H₀ H X.s₀.heap h2:=zMe hbase k4 fun b hb=>by
  rcases mF.mp hb with z | z
  ·rw[z];exact hx0
  ·rcases mF.mp z with z | z
   ·rw[z];exact hT1o
   ·rw[mO.mp z];exact hloc
 have ne:∀b o,H b=some o→(∀φ,o≠ .ext φ)→b≠x:=fun b o e n z=>by
  subst z;rw[hH] at e;exact n _ (mW e).symm
 have u2:Un X.fs [] X.H₀ (drp H x) X.s₀.heap h2:=⟨u1.keep,u1.slot,fun b ob e n hx=>by
   rw[kH (fun z=>by subst z;rw[hx0] at e;cases e)];exact u1.free b ob e n hx,u1.there,
  fun b xs e=>by have z:=u1.tups b xs e;rw[kH (ne b _ z fun _ y=>nomatch y)];exact z,
  fun b ob xs e=>by have z:=u1.frzs b ob xs e;rw[kH (ne b _ z fun _ y=>nomatch y)];exact z,
  fun b ps e=>by obtain⟨m,z⟩:=u1.tbls b ps e;exact⟨m,by rw[kH (ne b _ z fun _ y=>nomatch y)];exact z⟩⟩
 have ok1:HOk X.prog X.w (drp H x) s.heap:=fun b o e=>by
  by_cases z:b=x
  ·subst z;rw[zCp] at e;cases e
  ·rw[kH z] at e
   exact(I.hok b o e).stay (fun _ _ _ q=>q) (fun c q=>by rw[kH (ne c _ q fun _ y=>nomatch y)];exact q) fun c xs q=>by rw[kH (ne c _ q fun _ y=>nomatch y)];exact q
 have dn:∀b,H b=none→drp H x b=none:=fun b e=>by
  unfold drp;split
  ·rfl
  ·exact e
 refine⟨x,T1, .ref C,d,a0,drp H x,rfl,I.os,I.bare,u2,zHd ok1 k3 (fun b hb=>dn b (I.stkFree b hb)) fun b hb=>?_,hx0,hT1o,zCp,dn _ hT1H,f2,q⟩;rcases mF.mp hb with z | z
 ·rw[z];exact zCp
 ·rw[mO.mp z];exact dn _ hT1H
end
end L2
namespace L2
open PySem PySem.Spec PyProof.Rows PySem.W
theorem zTr{H:Hp}{x d:Addr}{o u:HO}(hx:H x=none)(hd:d≠x):drp (upd (upd H x o) d u) x=upd H d u:=by
 funext b
 by_cases z:b=x
 ·subst z
  rw[zCp,zO (Ne.symm hd),hx]
 ·rw[kH z]
  by_cases y:b=d
  ·subst y;rw[zB,zB]
  ·rw[zO y,zO z,zO y]
section
variable{X:Cx}{C B fI:Addr}{nm:Str}{k:Nat}{fd:FuncData}{ps:List Str}
theorem zNd{pins:List (Addr×Obj)}{σ:St}{H:Hp}{s:Shared}{Qx:Value→Shared→Prop}{us:List Value}{v0 v:V}(c:zLf X.K nm C B fI)(F:FnOk X.prog X.w X.K X.mg X.base CX0 k fI fd ps (zCi C))(hr:Room (k+1) X.A)(hb:Binds X.K fd ps [])(I:Inv X pins σ H s)(r:Vals [v0,v] us)
  (q:∀x d s',X.s₀.heap.get? x=none→H x=none→H d=none→d≠x→Inv X pins σ (upd (upd H x (exO x C (some d))) d (.xd [("at",v)])) s'→Qx (.ref x) s'):wpAny (model X.prog X.w) X.A (call (.ref C) us) Qx X.xe s:=by
 obtain⟨N,o,lk,hX⟩:=c.obj;have hus:us.length≤100:=by rw[←r.length];show(2:Nat)≤100;decide
 have hx0:X.s₀.heap.get? (s.heap.objs.size+1)=none:=tY (nN I.sz (rF _));have hHx:H (s.heap.objs.size+1)=none:=I.hok.fresh (rF _);have he:((s.heap.push {cls:=.type "tuple",data:=.seq us.toArray}).push (kP C s.heap.objs.size)).get? (s.heap.objs.size+1)=some (kP C s.heap.objs.size):=by
  rw[←(bE .. :(s.heap.push {cls:=.type "tuple",data:=.seq us.toArray}).objs.size=s.heap.objs.size+1)];exact nC _ rfl
 have I2:=I.laid (t':=s.toks) (a:=s.heap.objs.size+1) (o:=exO (s.heap.objs.size+1) C none) (h':=(s.heap.push {cls:=.type "tuple",data:=.seq us.toArray}).push (kP C s.heap.objs.size)) (fun b ob e=>mN _ (mN _ e)) (rF _) (zHv he rfl rfl);have r2:Vals [V.ref (s.heap.objs.size+1),v0,v] (Value.ref (s.heap.objs.size+1)::us):=.cons rfl r;have hsp:zCi C [V.ref (s.heap.objs.size+1),v0,v] (upd H (s.heap.objs.size+1) (exO (s.heap.objs.size+1) C none)) (fun u H2=>u= .non∧∃d,H d=none∧d≠s.heap.objs.size+1∧H2=upd (upd H (s.heap.objs.size+1) (exO (s.heap.objs.size+1) C (some d))) d (.xd [("at",v)])) E0:=by
  refine⟨_,v0,v,rfl,zB,fun d hd=>⟨rfl,d, ?_⟩⟩;have hne:d≠s.heap.objs.size+1:=fun z=>by rw[z,zB] at hd;cases hd
  rw[zO hne] at hd;exact⟨hd,hne,by rw[zLr]⟩
 have hl:((Value.ref (s.heap.objs.size+1)::us)++ []).length=ps.length:=by
  rw[pJ,←r2.length];exact F.len _ _ _ _ hsp
 have hbt:=hb _ (Value.ref (s.heap.objs.size+1)::us) I2.kIn hl;rw[pJ] at hbt;have run:=F.run _ X.stack _ _ ⟨Value.ref (s.heap.objs.size+1)::us,[]⟩ (Value.ref (s.heap.objs.size+1)::us) _ _ E0 (hr.make C us []) (I2.env0.make C us []) hbt r2 hsp;have I1:=I;obtain⟨h,g,dr,t,os⟩:=s;refine tZ (zYm I1.kIn lk hX c.tl c.init c.fn hus (aG run fun r s' hq'=>?_))
 cases r with
 | error e=>exact False.elim hq'
 | ok fl=>
  cases fl with
  | ret u=>
   obtain⟨v',H',I3,rv,ev,d,hd,hne,rfl⟩:=I2.after hq';subst ev;exact⟨rv,q _ d s' hx0 hHx hd hne I3⟩
  | next=>exact False.elim hq'
  | brk=>exact False.elim hq'
  | cont=>exact False.elim hq'
def zCh(C:Addr)(E:XK)(t:TA):TS:=fun _ σ H=>t σ H fun vs H1=>∃v0 v,vs= [v0,v]∧∀d,H1 d=none→E (.ref C) (some d) (upd H1 d (.xd [("at",v)]))
structure Xr(P:Program)(w:World)(K:Frag)(mg:Str→Option Value)(base:Heap)(k:Nat)(cn:Str)(C:Addr):Prop where
 ex:∃(nm:Str)(B fI:Addr)(fd:FuncData)(ps:List Str),zLf K nm C B fI∧FnOk P w K mg base CX0 k fI fd ps (zCi C)∧Binds K fd ps []∧mg cn=some (.ref C)
def Lvs(X:Cx)(E:XK):Prop:=X.stack=X.env::X.outer∧X.env.frame=some X.env.locals∧X.ex= []∧∀e s',wpAny (model X.prog X.w) X.A (leaving X.env e) (fun _ s3=>CXE X.prog X.w X.outer X.H₀ X.s₀ E e s3) (fun e' s3=>CXE X.prog X.w X.outer X.H₀ X.s₀ E e' s3) s'→X.xe e s'
theorem zXo{E:XK}(l:Lvs X E):kZ (CXE X.prog X.w) X E:=fun _ _ _ _ e s' I h=>l.2.2.2 e s' (zXe I l.1 l.2.1 l.2.2.1 h)
theorem zBq{E:XK}{cn:Str}{p pos rpos:Pos}{e:Expr}{es:List Expr}{t:TA}{j:Nat}(R:Xr X.prog X.w X.K X.mg X.base k cn C)(hr:Room j X.A)(hj:k+1≤j)(hg:Gl X cn)(hcalm:X.calm=true)(l:Lvs X E)(ha:PA X (e::es) t)(hdb:(cn==("__debug__" :Str))=false:=by decide)
  (he:starEach (e::es) X.env=(false,eval e X.env)::starEach es X.env:=by rfl) (hpl:(backTo pos (starEach es X.env)).any (·.1)=false:=by rfl):PS X (.Raise (some (.Call (.Name cn p) (e::es) [] pos)) none rpos) (zCh C E t):=by
 intro pins s σ H D I h;obtain⟨nm,B,fI,fd,ps,c,F,hb,hm⟩:=R.ex;obtain⟨hs,hf,hex,hxe⟩:=l;rw[arm_exec_Raise];refine mD (aP ?_);show wpAny _ _ (raiseStmt X.env (some (do let v ←eval (.Call (.Name cn p) (e::es) [] pos) X.env;standAt rpos;pure v)) none) _ _ _;obtain⟨N,o,lk,hX⟩:=c.obj;refine zDa (nm:=nm) (C:=C) (N:=N) (bm:=.ref B::veMro) (by rw[aV,show veMro.contains (.type "BaseException")=true by decide,bV]) (I.ok.hd hcalm) (mD ?_);refine rV (jI I hg hm ?_ hdb);refine callWith_K (h₀:=X.base) I.ok.mod.kin c.kp (thn (ha pos pins s σ H _ I h) fun us s1 ⟨vs,H1,I1,r,v0,v,ev,q⟩=>⟨I1.kIn, ?_⟩) he hpl;subst ev;refine zNd c F (hr.mono hj) hb I1 r fun x d s2 hx0 hx hd hne I2=>?_;refine mD (aP (mS ?_));have hH:upd (upd H1 x (exO x C (some d))) d (.xd [("at",v)]) x=some (exO x C (some d)):=by rw[zO (Ne.symm hne),zB]
 obtain⟨vs,e1,h6,h1⟩:=zDb I2 hH;refine⟨x,_,_,vs,rfl,I2.kIn _ _ lk,hX,e1,rfl,rfl,h1,hxe _ _ (zFg I2 hs hf hex hH hx0 ?_)⟩;rw[zTr hx hne];exact q d hd
end
structure Dx(P:Program)(w:World)(K:PySem.W.Frag)(mg:Str→Option Value)(base:Heap)(k:Nat)(x:Str)(ps:List Str)(sp:Sp):Prop where
 ex:∃(f:Addr)(fd:FuncData),FnOk P w K mg base (CXE P w) k f fd ps sp∧Binds K fd ps []∧PySem.W.keepIn K (.ref f)=true∧mg x=some (.ref f)
section
variable{X:Cx}{k j:Nat}{x:Str}{ps:List Str}{sp:Sp}{e:Expr}{es:List Expr}{t:TA}{p pos:Pos}{E:XK}
theorem zId(D:Dx X.prog X.w X.K X.mg X.base k x ps sp)(hr:Room j X.A)(hj:k≤j)(hg:Gl X x)(l:Lvs X E)(ha:PA X (e::es) t)(hdb:(x==("__debug__" :Str))=false:=by decide)
  (he:starEach (e::es) X.env=(false,eval e X.env)::starEach es X.env:=by rfl) (hpl:(backTo pos (starEach es X.env)).any (·.1)=false:=by rfl):PE X (.Call (.Name x p) (e::es) [] pos) (jS sp [] E t):=by
 obtain⟨f,fd,h1,h2,h3,h4⟩:=D.ex;exact zCn h1 (hr.mono hj) hg h4 h3 h2 .nil (zXo l) ha hdb he hpl
end
section
variable{P:Program}{w:World}{K:PySem.W.Frag}{mg:Str→Option Value}{base:Heap}{k:Nat}{f:Addr}{fd:FuncData}{ps:List Str}{sp sp':Sp}{CX:CXT}
theorem Fun.okx{x qual:Str}{st:Stmt}{N:List Str}(F:Fun K x qual st f fd)(S:zV N ps (zH st))(len:∀vs H Q E,sp vs H Q E→vs.length=ps.length)
  (hbody:∀(cdv:Value)(A:Around)(outer:List Env)(s:Shared)(H:Hp)(vs:List V)(Q:VK)(E:XK),Room k (A.deeper (envOfC qual (zH st) s.heap.objs.size f cdv))→sp vs H Q E→
   ∃t,PSs (zCf (CXE P w) P w K mg base N qual (zH st) f cdv A outer s H E) (zP st) t∧t {nx:=fun _ H'=>Q .non H',rt:=Q} (qO N vs) H):FnOk P w K mg base (CXE P w) (k+1) f fd ps sp:=by
 obtain⟨oc,od,kV,doc,pm,an,cdv,ct,osl,rfl,lk,hcd⟩:=F.ex;exact zLt lk hcd S len fun A outer s H vs Q E hr hsp=>hbody cdv A outer s H vs Q E hr hsp
theorem lvs{N:List Str}{qual:Str}{scope:Scope}{cd:Value}{A:Around}{outer:List Env}{s:Shared}{H:Hp}{E:XK}:Lvs (zCf (CXE P w) P w K mg base N qual scope f cd A outer s H E) E:=⟨rfl,rfl,rfl,fun _ _ h=>h⟩
end
end L2
namespace L2
open PySem PySem.Spec PyProof.Rows PySem.W PySem.Builtin PySem.Builtin.ObjectAttr
structure zCd(K:Frag)(C:Addr):Prop where
 ga:findIn K (.ref C) "__getattribute__" =some (some (.builtin "BaseException.__getattribute__"))
 gt:findIn K (.ref C) "__getattr__" =some none
 bx:mroIn K C (.type "BaseException")=some true
 ob:mroIn K C (.type "object")=some true
 hd:hasDictIn K C=true
 cl:findIn K (.ref C) "__class__" =some (some (.builtin "object.__class__"))
 cg:specialIn K (.builtin "object.__class__") "__get__" =some (some (.builtin "getset_descriptor.__get__"))
 ct:takesIn K (.builtin "object.__class__")=some true
section
variable{prog:Program}{w:World}{A:Around}{K:Frag}{C x:Addr}{ox od:Obj}{name:Str}{E:Value→Shared→Prop}{s:Shared}
theorem zYr{tk:Tok}{fill expr:Bool}{Q:Value→Shared→Prop}(G:zCd K C)(hK:K.In s.heap)(I:InstAt s.heap x ox C (some od))
  (h:wpAny (model prog w) A.in1 (Builtin.«object.__getattribute__» ⟨[.ref x, .str name tk],[]⟩) (fun fin s'=>match fin with | .done (.ret v)=>wpAny (model prog w) A (handedOut v) Q E s' | _=>False) (fun _ _=>False) s):
  wpAny (model prog w) A (getAttrBy (.ref x) (.str name tk) fill expr) Q E s:=by
 have hb:Looks (model prog w) s.heap (hookBefore (.ref C)) none:=looks_hook hK (by rw[mK (by rfl)];exact G.gt);have ht:=I.type (M:=model prog w);unfold getAttrBy;refine pT (mD (ht _ _ _ _ (fun _ _ e=>e) (mD (looks_findIn hK G.ga _ _ _ _ (fun _ _ e=>e) ?_))));dsimp only;rw[show(onTheHeap (Value.ref C)&& Value.builtin "BaseException.__getattribute__" ==Value.builtin "object.__getattribute__")=false from by rw[show(Value.builtin "BaseException.__getattribute__" ==Value.builtin "object.__getattribute__")=false from by decide+kernel,aF],mG (by decide)];unfold getAttrByItsOwn;refine mD (hb _ _ _ _ (fun _ _ e=>e) (mD (wpAny_attempt (pT ?_))));unfold callGetattribute;rw[show(expr && onTheHeap (Value.builtin "BaseException.__getattribute__"))=false from aF _,mG (by decide)];unfold boundAndCalled;have FB:=PySem.F.attr_ValueError;rw[FB.ga.bind];refine mD (mS ?_);show wpAny _ _ (call (.builtin "BaseException.__getattribute__") [.ref x, .str name tk]) _ _ _;refine tZ ?_;refine aE FB.ga.plain PySem.F.entry_bexc_ga ?_;refine @check_slot (model prog w) _ _ s "BaseException.__getattribute__" "BaseException" "__getattribute__" (.ref x) [.str name tk] [] _ (by decide+kernel) (by decide+kernel) (ht.andThen (looks_mroIn hK G.bx)) (PySem.F.args_bexc_ga (.ref x) (.str name tk)) ?_;refine rE h (fun fin s' z=>?_) fun _ _ z=>z.elim;rcases fin with(_ | _ | _ | _)| _<;>first | exact z | exact z.elim
theorem zOv{v:Value}{expr:Bool}{Q:Value→Shared→Prop}(G:zCd K C)(hK:K.In s.heap)(I:InstAt s.heap x ox C (some od))(hf:findObj K C (some od) name=some (.value v))(hh:handedIn v=true)(h:Q v {s with toks:=s.toks+1}):
  wpAny (model prog w) A (getAttr (.ref x) name expr) Q E s:=by
 unfold getAttr;refine mD (wpAny_mkText (zYr (s:={s with toks:=s.toks+1}) G hK I ?_));obtain⟨hh',g,d,t,os⟩:=s;have L0:=I.type (M:=model prog w);have L1:=looks_find (M:=model prog w) hK I hf;unfold Builtin.«object.__getattribute__»;refine mD (mS (mD (mS (mD (L0.at (mD (L1.at ?_)))))));refine mS ?_;show wpAny _ _ (handedOut v) _ _ _;rw[handedOut_of hh];exact mS h
end
end L2
namespace L2
open PySem PySem.Spec PyProof.Rows PySem.W
def exF(x C:Addr)(d:Option Addr):HO:=.ext fun h=>∃(ob:Obj)(vs:Array Value),h.get? x=some ob∧ob.cls= .ref C∧ob.dict=d∧ob.data= .fields vs
theorem yBe{P:Program}{w:World}{H:Hp}{h:Heap}{x C:Addr}{d:Option Addr}{ob:Obj}{vs:Array Value}(e:h.get? x=some ob)(h1:ob.cls= .ref C)(h2:ob.dict=d)(h3:ob.data= .fields vs):ObjOk P w H h x (exF x C d):=
 ⟨⟨ob,vs,e,h1,h2,h3⟩,⟨_,e⟩,fun _ _ ⟨ob,vs,e,a⟩ k=>⟨ob,vs,k _ e,a⟩⟩
abbrev Cx.mark(X:Cx)(v:Value):Cx:={X with A:=X.A.mark (some v),calm:=false,xe:=fun _ _=>False}
abbrev Cx.pend(X:Cx)(pins:List (Addr×Obj))(W:Value→Shared→Prop):Cx:={X with pn:=X.pn++pins,xe:=W}
section
variable{X:Cx}{pins pins':List (Addr×Obj)}{σ:St}{H:Hp}{s:Shared}{v:Value}{W:Value→Shared→Prop}
theorem Cx.Ok.mark(ok:X.Ok):(X.mark v).Ok:=
 ⟨ok.mod,ok.kind,ok.glob,ok.blt,ok.above,ok.inj,ok.has,ok.cab,(fun z=>nomatch z),ok.frames,ok.stk,ok.exf,ok.bs,ok.bsz,ok.noex,ok.exfs,ok.funs,ok.frf⟩
theorem Inv.mark(I:Inv X pins σ H s):Inv (X.mark v) pins σ H s:=⟨I.ok.mark,I.os,I.bare,I.base,I.loc,I.cell,I.free,I.freeC,I.pin,I.hok,I.len⟩
theorem Inv.unmark(ok:X.Ok)(I:Inv (X.mark v) pins σ H s):Inv X pins σ H s:=⟨ok,I.os,I.bare,I.base,I.loc,I.cell,I.free,I.freeC,I.pin,I.hok,I.len⟩
theorem Cx.Ok.pend(ok:X.Ok):(X.pend pins W).Ok:=
 ⟨ok.mod,ok.kind,ok.glob,ok.blt,ok.above,ok.inj,ok.has,ok.cab,ok.hd,ok.frames,ok.stk,ok.exf,ok.bs,ok.bsz,ok.noex,ok.exfs,ok.funs,ok.frf⟩
theorem Inv.pend(I:Inv X pins σ H s):Inv (X.pend pins W) [] σ H s:=⟨I.ok.pend,I.os,I.bare,I.base,I.loc,I.cell,I.free,I.freeC,fun p hp=>I.pin p (by rw[pJ] at hp;exact hp),I.hok,I.len⟩
theorem Inv.unpend(ok:X.Ok)(I:Inv (X.pend pins W) pins' σ H s):Inv X pins σ H s:=⟨ok,I.os,I.bare,I.base,I.loc,I.cell,I.free,I.freeC,fun p hp=>I.pin p (pH _ hp),I.hok,I.len⟩
theorem Inv.track{x:Addr}{o:HO}(I:Inv X pins σ H s)(hx:H x=none)(h0:X.s₀.heap.get? x=none)(hl:x≠X.env.locals)(hc:∀y c,X.env.cells.lookup y=some c→c≠x)(hp:∀p∈X.pn++pins,p.1≠x)
  (new:ObjOk X.prog X.w (upd H x o) s.heap x o):Inv X pins σ (upd H x o) s where
 ok:=I.ok
 os:=I.os
 bare:=I.bare
 base:=⟨I.base.keep,I.base.slot,fun b ob e n hx'=>by rw[zO (fun z=>by subst z;rw[h0] at e;cases e)];exact I.base.free b ob e n hx',I.base.there,
  fun b xs e=>by have z:=I.base.tups b xs e;rw[zO (yC z hx)];exact z,fun b ob xs e=>by have z:=I.base.frzs b ob xs e;rw[zO (yC z hx)];exact z,
  fun b ps e=>by obtain⟨m,z⟩:=I.base.tbls b ps e;exact⟨m,by rw[zO (yC z hx)];exact z⟩⟩
 loc:=I.loc
 cell:=I.cell
 free:=by rw[zO (Ne.symm hl)];exact I.free
 freeC:=fun y c e=>by rw[zO (hc y c e)];exact I.freeC y c e
 pin:=fun p q=>let ⟨a,b,c⟩:=I.pin p q;⟨a,by rw[zO (hp p q)];exact b,c⟩
 hok:=I.hok.also hx new
 len:=I.len
theorem Inv.wiped{h':Heap}{m':Str→Option Value}{t':Nat}(I:Inv X pins σ H s)(hn':h'.Ns X.env.locals m')(hs:Heap.SameBut X.env.locals s.heap h'):Inv X pins (List.replicate X.N.length none) H {s with heap:=h',toks:=t'}:=by
 have neL:∀b o,X.s₀.heap.get? b=some o→b≠X.env.locals:=fun b o e=>nO (nF (mY e) I.ok.above);refine⟨I.ok,I.os,I.bare,⟨fun b o e n hb hx=>?_,fun b o e n hb hx=>?_,I.base.free,fun b o e hx=>?_,I.base.tups,I.base.frzs,I.base.tbls⟩,⟨_,hn',fun j y v' e1 e2 e3=>?_⟩,fun y c e=>?_,I.free,I.freeC,fun p hp=>?_,fun b ob e=>?_,nQ⟩
 ·exact(hs.2 b (neL b o e)).trans (I.base.keep b o e n hb hx)
 ·obtain⟨sl,e1⟩:=I.base.slot b o e n hb hx
  exact⟨sl,(hs.2 b (neL b o e)).trans e1⟩
 ·obtain⟨o',e1⟩:=I.base.there b o e hx
  exact⟨o',(hs.2 b (neL b o e)).trans e1⟩
 ·rw[bZ] at e2
  split at e2<;>cases e2
 ·obtain⟨v',o,ho,hd⟩:=I.cell y c e
  exact⟨v',o,(hs.2 c (I.cne y c e)).trans ho,hd⟩
 ·obtain⟨a,b,c,d⟩:=I.pin p hp
  exact⟨(hs.2 _ c).trans a,b,c,d⟩
 ·refine(I.hok b ob e).stay (fun c w' hc q=>(hs.2 c ?_).trans q) (fun _ q=>q) fun _ _ q=>q
  rintro rfl;rcases hc with z | z
  ·rw[←z,I.free] at e;cases e
  ·rw[I.free] at z;cases z
end
section
variable{X:Cx}{B:Addr}{bn n:Str}{i:Nat}{body suite:List Stmt}{b₀:Stmt}{bp hp pos:Pos}{tb:XK→TS}{ts:TS}
def zUj(K:Frag)(B:Addr)(i len:Nat)(ts:TS)(D:zBr):XK:=fun C d H2=>∃Ca,C= .ref Ca∧exmOne K (.ref Ca) (.ref B)=some true∧
 ∀x,H2 x=none→ts {D with nx:=fun _ H'=>D.nx (List.replicate len none) H',bk:=fun _ H'=>D.bk (List.replicate len none) H',ct:=fun _ H'=>D.ct (List.replicate len none) H'} ((List.replicate len none).set i (some (.ref x))) (upd H2 x (exF x Ca d))
def tTry(K:Frag)(B:Addr)(i len:Nat)(tb:XK→TS)(ts:TS):TS:=fun D σ H=>tb (zUj K B i len ts D) D σ H
theorem yBj(hcalm:X.calm=true)(hgB:Gl X bn)(hmB:X.mg bn=some (.ref B))(hN:X.N.Nodup)(hi:X.N[i]? =some n)(hl:X.env.scope.names.lookup n=some .local)(hstk:X.stack=X.env::X.outer)(hf:X.env.frame=some X.env.locals)(hex:X.ex= [])
  (hb:∀pins W E,kZ (CXE X.prog X.w) (X.pend pins W) E→PSs (X.pend pins W) body (tb E)) (hsu:∀v,PSs (X.mark v) (b₀::suite) ts) (hdb:(bn==("__debug__" :Str))=false:=by decide):
  PS X (.Try body [.ExceptHandler (some (.Name bn bp)) (some n) (b₀::suite) hp] [] [] pos) (tTry X.K B i X.N.length tb ts):=by
 intro pins s σ H D I h;refine wpAny_Try_except ?_;have J:=hb pins (fun e s'=>∃σ' H1 s1,Inv X pins σ' H1 s1∧CXE X.prog X.w X.stack H1 s1 (zUj X.K B i X.N.length ts D) e s') (zUj X.K B i X.N.length ts D)
  (fun pins' σ' H' s1 e s' I1 hx=>⟨σ',H',s1,I1.unpend I.ok,hx⟩) [] s σ H D I.pend h
 refine rE J (fun f s1 q=>?_) fun e s1 ⟨σ',H0,s0,I0,hx⟩=>?_
 ·cases f with
  | next=>obtain⟨σ',H',I',q⟩:=q;exact bO ⟨σ',H',I'.unpend I.ok,q⟩
  | brk=>obtain⟨σ',H',I',q⟩:=q;exact⟨σ',H',I'.unpend I.ok,q⟩
  | cont=>obtain⟨σ',H',I',q⟩:=q;exact⟨σ',H',I'.unpend I.ok,q⟩
  | ret u=>obtain⟨v,σ',H',I',r,q⟩:=q;exact⟨v,σ',H',I'.unpend I.ok,r,q⟩
 obtain⟨x,T,C,d,a0,H',rfl,os,bare,un,hok,hx0,hT0,hHx,hHT,fl,Ca,rfl,hexm,q⟩:=hx;have I2:Inv X pins σ' H' s1:=I0.call' os un hok bare (fun b z=>absurd z (by simp));have nfr:∀b,s0.heap.get? b=none→b∉frs X.stack:=fun b hb z=>by
  obtain⟨o,e,_⟩:=zHp I0.stack b z;rw[hb] at e;cases e
 have hfr:=I0.ok.frames;have nx:=nfr x hx0;have nT:=nfr T hT0;have st:=I2.stack;rw[hstk] at hfr;have nx':=nx;have nT':=nT;rw[hstk] at nx' nT' st;refine zLs hfr st hf nx' nT' fl fun h1 T1 f1 k1 n1=>?_;refine jL f1 fun h2 f2 k2=>?_;rw[←hstk] at k1;have hT1H:H' T1=none:=by
  cases e:H' T1 with
  | none=>rfl
  | some o=>
   obtain⟨ob,hob⟩:=ObjOk.got (I2.hok T1 o e);rw[n1] at hob;cases hob
 have hT10:s0.heap.get? T1=none:=by
  cases e:s0.heap.get? T1 with
  | none=>rfl
  | some o=>
   obtain⟨o',e'⟩:=un.there T1 o e (fun z=>nomatch z);rw[n1] at e';cases e'
 have k3:Kp (frs X.stack) [x,T,T1] s1.heap h2:=k1.trans (uD k2 fun b hb=>nomatch hb) fun c hc=>by
  rcases hc with z | z
  ·rcases mF.mp z with z | z
   ·rw[z];simp
   ·rw[mO.mp z];simp
  ·rw[mO.mp z.1];simp
 have all0:∀b∈ [x,T,T1],s0.heap.get? b=none∧H' b=none:=fun b hb=>by
  rcases mF.mp hb with z | z
  ·rw[z];exact⟨hx0,hHx⟩
  ·rcases mF.mp z with z | z
   ·rw[z];exact⟨hT0,hHT⟩
   ·rw[mO.mp z];exact⟨hT10,hT1H⟩
 have I3:Inv X pins σ' H' {s1 with heap:=h2}:=I0.call' (s':={s1 with heap:=h2}) os (zMe un k3 fun b hb=>(all0 b hb).1) (zHd hok k3 I2.stkFree fun b hb=>(all0 b hb).2) bare (fun b z=>absurd z (by simp));have LT:Looks (model X.prog X.w) h2 (typeOf (.ref x)) (.ref Ca):=by
  obtain⟨oe,vs,oT,ts',e1,e2,_⟩:=f2;exact e2▸(Looks.ld e1).andThen .now
 refine wpAny_handleBy_cons (codeAny_handlers_test ?_) (by intro z;cases z);refine jI (X:=X.mark (.ref x)) (I3.mark) hgB hmB ?_ hdb;refine exm_one (M:=model X.prog X.w) I3.kIn LT hexm _ _ _ {s1 with heap:=h2} (fun _ _ e=>e) ?_;refine codeAny_handlers_suite_as ?_;refine jL f2 fun h3 f3 k4=>?_;have k5:Kp (frs X.stack) [x,T,T1] s1.heap h3:=k3.trans (uD k4 fun b hb=>nomatch hb) fun c hc=>by
  rcases hc with z | z
  ·exact z
  ·rw[mO.mp z.1];simp
 have I4:Inv X pins σ' H' {s1 with heap:=h3}:=I0.call' (s':={s1 with heap:=h3}) os (zMe un k5 fun b hb=>(all0 b hb).1) (zHd hok k5 I2.stkFree fun b hb=>(all0 b hb).2) bare (fun b z=>absurd z (by simp));have hxs:X.s₀.heap.get? x=none:=by
  cases e:X.s₀.heap.get? x with
  | none=>rfl
  | some o=>
   obtain⟨o',e'⟩:=I0.base.there x o e (by rw[hex];exact fun z=>nomatch z);rw[hx0] at e';cases e'
 obtain⟨oe,vs,oT,ts',e1,e2,e3,e4,_⟩:=f3;have I5:Inv X pins σ' (upd H' x (exF x Ca d)) {s1 with heap:=h3}:=by
  refine I4.track hHx hxs (fun z=>?_) (fun y c e z=>?_) (fun p hp z=>?_) (yBe e1 e2 e3 e4)
  ·obtain⟨m,⟨o,_,_,ho,_⟩,_⟩:=I0.loc
   rw[←z,hx0] at ho;cases ho
  ·obtain⟨v,o,ho,_⟩:=I0.cell y c e
   rw[z,hx0] at ho;cases ho
  ·have ho:=(I0.pin p hp).1
   rw[z,hx0] at ho;cases ho
 have I6:Inv X pins (List.replicate X.N.length none) (upd H' x (exF x Ca d)) {s1 with heap:=h3}:=I5.weak (by rw[nQ,I5.len]) fun j v' e=>by
  rw[bZ] at e;split at e<;>cases e
 refine zAo (v:=.ref x) I6 hN hi (.inl hl) rfl (fun s4 I7=>?_) (.inr hl);refine rE (hsu (.ref x) pins s4 _ _ _ I7.mark (q x hHx)) (fun f s5 z=>?_) fun _ _ z=>False.elim z;have hcls:(X.env.scope.kind== .class ||(X.env.scope.kind== .module && X.env.locals !=X.env.globals))=false:=by rw[I.ok.kind];rfl
 cases f with
 | next=>
  obtain⟨σ5,H5,I8,q5⟩:=z;obtain⟨m,hn,_⟩:=I8.loc;exact cT hl hn hcls fun h' m' hn' hs'=>⟨_,H5,(I8.unmark I.ok).wiped hn' hs',q5⟩
 | brk=>
  obtain⟨σ5,H5,I8,q5⟩:=z;obtain⟨m,hn,_⟩:=I8.loc;exact cT hl hn hcls fun h' m' hn' hs'=>⟨_,H5,(I8.unmark I.ok).wiped hn' hs',q5⟩
 | cont=>
  obtain⟨σ5,H5,I8,q5⟩:=z;obtain⟨m,hn,_⟩:=I8.loc;exact cT hl hn hcls fun h' m' hn' hs'=>⟨_,H5,(I8.unmark I.ok).wiped hn' hs',q5⟩
 | ret u=>
  obtain⟨v,σ5,H5,I8,r5,q5⟩:=z;obtain⟨m,hn,_⟩:=I8.loc;exact cT hl hn hcls fun h' m' hn' hs'=>⟨v,_,H5,(I8.unmark I.ok).wiped hn' hs',r5,q5⟩
end
end L2
namespace L2
open PySem PySem.Spec PyProof.Rows PySem.W
section
variable{X:Cx}{C D:Addr}{b:Bool}
theorem zQp{pins:List (Addr×Obj)}{σ:St}{H:Hp}{s:Shared}{x d:Addr}{fs:List (Str×V)}(I:Inv X pins σ H s)(hx:H x=some (exF x C (some d)))(hd:H d=some (.xd fs)):
  ∃ob od,InstAt s.heap x ob C (some od)∧∀name,∃u,lookIn name od=some u∧RelO (fs.lookup name) u:=by
 obtain⟨ob,vs,e1,e2,e3,e4⟩:=(I.hok x _ hx).1;obtain⟨mA,n,r⟩:=I.hok d _ hd;obtain⟨od,ho,hl⟩:=zFl n;refine⟨ob,od,⟨e1,e2, ?_,by rw[e3];exact ho⟩,fun name=>⟨_,hl name,r name⟩⟩;unfold notCls;rw[e4]
def tXAt(C:Addr)(f:Str)(ta:TE):TE:=fun σ H Q=>ta σ H fun v H1=>∃x d fs n,v= .ref x∧H1 x=some (exF x C (some d))∧H1 d=some (.xd fs)∧fs.lookup f=some (.int n)∧Q (.int n) H1
theorem yAi{e:Expr}{f:Str}{ta:TE}{pos:Pos}(G:zCd X.K C)(hf:findIn X.K (.ref C) f=some none)(he:PE X e ta)(hb:attributeBase e f X.env (eval e X.env)=eval e X.env:=by rfl):PE X (.Attribute e f pos) (tXAt C f ta):=by
 intro pins s σ H Q I h;refine zUg hb (thn (he pins s σ H _ I h) fun u s1 ⟨v,H1,I1,rx,x,d,fs,n,ev,hx,hd,hl,q⟩=>?_);subst ev;obtain rfl:u=Value.ref x:=rx;obtain⟨ob,od,J,lk⟩:=zQp I1 hx hd;obtain⟨u,e1,e2⟩:=lk f;rw[hl] at e2
 cases u with
 | none=>exact e2.elim
 | some u=>
  obtain⟨tk,rfl⟩:∃tk,u=Value.int n tk:=e2;refine zOv G I1.kIn J (findObj_own G.hd hf rfl e1) rfl ⟨.int n,H1,I1.tok _,⟨_,rfl⟩,q⟩
end
section
variable{X:Cx}{k j:Nat}{x:Str}{ps:List Str}{sp:Sp}{e:Expr}{es:List Expr}{t:TA}{p pos:Pos}{E:XK}
theorem zXw(D:Dx X.prog X.w X.K X.mg X.base k x ps sp)(hr:Room j X.A)(hj:k≤j)(hg:Gl X x)(l:kZ (CXE X.prog X.w) X E)(ha:PA X (e::es) t)(hdb:(x==("__debug__" :Str))=false:=by decide)
  (he:starEach (e::es) X.env=(false,eval e X.env)::starEach es X.env:=by rfl) (hpl:(backTo pos (starEach es X.env)).any (·.1)=false:=by rfl):PE X (.Call (.Name x p) (e::es) [] pos) (jS sp [] E t):=by
 obtain⟨f,fd,h1,h2,h3,h4⟩:=D.ex;exact zCn h1 (hr.mono hj) hg h4 h3 h2 .nil l ha hdb he hpl
end
end L2
namespace L2
open PySem PySem.Spec PyProof.Rows PySem.W
structure RoomH(k:Nat)(A:Around):Prop where
 dp:A.depth+3*k+5<recursionLimit
 un:A.units+16*k+200<cLine
theorem Room.h{k:Nat}{A:Around}{v:Option Value}(r:Room k A):RoomH k (A.mark v):=⟨r.dp,r.un⟩
theorem RoomH.mono{j k:Nat}{A:Around}(r:RoomH k A)(h:j≤k):RoomH j A:=⟨by have:=r.dp;lia,by have:=r.un;lia⟩
theorem RoomH.deeper{k:Nat}{A:Around}(r:RoomH (k+1) A)(env:Env):RoomH k (A.deeper env):=
 ⟨by have:=r.dp;show A.depth+1+3*k+5<_;lia,by have:=r.un;show A.units+3+16*k+200<_;lia⟩
theorem RoomH.depth{k:Nat}{A:Around}(r:RoomH k A):A.depth<recursionLimit:=by have:=r.dp;lia
structure zTw(P:Program)(w:World)(K:PySem.W.Frag)(mg:Str→Option Value)(base:Heap)(k:Nat)(f:Addr)(fd:FuncData)(ps:List Str)(sp:Sp):Prop where
 len:∀vs H Q E,sp vs H Q E→vs.length=ps.length
 run:∀(A:Around)(outer:List Env)(s:Shared)(H:Hp)(args:Args)(us:List Value)(vs:List V)(Q:VK)(E:XK),RoomH k A→Env0 P w K mg base A outer s H→BindsTo s fd args (ps.zip us)→Vals vs us→sp vs H Q E→
  codeAny (model P w) A (.call (.ref f) args) (CR CX0 outer P w H s Q E) s
abbrev cxH(P:Program)(w:World)(K:PySem.W.Frag)(mg:Str→Option Value)(base:Heap)(N:List Str)(qual:Str)(scope:Scope)(f:Addr)(cd:Value)(A:Around)(outer:List Env)(s:Shared)(H:Hp):Cx:=
 {zCf CX0 P w K mg base N qual scope f cd A outer s H E0 with calm:=false,xe:=fun _ _=>False}
theorem Fun.okh{P:Program}{w:World}{K:PySem.W.Frag}{mg:Str→Option Value}{base:Heap}{k:Nat}{f:Addr}{fd:FuncData}{ps:List Str}{sp:Sp}{x qual:Str}{st:Stmt}{N:List Str}(F:Fun K x qual st f fd)(S:zV N ps (zH st))(len:∀vs H Q E,sp vs H Q E→vs.length=ps.length)
  (hbody:∀(cdv:Value)(A:Around)(outer:List Env)(s:Shared)(H:Hp)(vs:List V)(Q:VK)(E:XK),RoomH k (A.deeper (envOfC qual (zH st) s.heap.objs.size f cdv))→sp vs H Q E→
   ∃t,PSs (cxH P w K mg base N qual (zH st) f cdv A outer s H) (zP st) t∧t {nx:=fun _ H'=>Q .non H',rt:=Q} (qO N vs) H):zTw P w K mg base (k+1) f fd ps sp:=by
 obtain⟨oc,od,kV,doc,pm,an,cdv,ct,osl,rfl,lk,hcd⟩:=F.ex;refine⟨len,fun A outer s H args us vs Q E hr e0 hb r hsp=>?_⟩;have hl:=len _ _ _ _ hsp;have KX:K.In s.heap:=e0.mod.kin.keeps fun b o e=>(e0.bs b o e).1;have lim:s.heap.NoLimit:=e0.mod.nolimit.keeps fun b o e=>(e0.bs b o e).1;have hkind:∀y∈ps.zip us,(zH st).names.lookup y.1=some .local∨((zH st).names.lookup y.1=some .cell∧((cellsFrom (s.heap.objs.size+1) (zH st).names []).lookup y.1).isSome=true):=fun⟨n,v⟩ hy=>by
  rcases S.par n (cI hy).1 with q | q
  ·exact .inl q
  ·exact .inr ⟨q,PySem.W.cellsFrom_some _ _ _ (.inl q)⟩
 refine codeAny_call_function hr.depth (KX _ _ lk) rfl S.co S.gen rfl (PySem.W.codeRec_of KX hcd) (hb _ _ _ _ ?_);refine wpAny_newFunctionEnv_cells S.kind hkind fun env he s1 x=>?_;subst he;refine⟨lim.keeps x.toInCall.keep,codeAny_func ?_⟩;obtain⟨t,ht,hq⟩:=hbody cdv A outer s H vs Q E (hr.deeper _) hsp;have e0':Env0 P w K mg base {A with handled:=none} outer s H:=⟨e0.frames,e0.mod,e0.bs,e0.bsz,e0.funs,e0.frf,e0.hok,e0.bare⟩;have I0:Inv (zCf CX0 P w K mg base N qual (zH st) f cdv {A with handled:=none} outer s H E0) [] (qO N vs) H s1:=zFb S rfl e0' hl r x;have ok:=I0.ok;have I:Inv (cxH P w K mg base N qual (zH st) f cdv A outer s H) [] (qO N vs) H s1:=
  ⟨⟨ok.mod,ok.kind,ok.glob,ok.blt,ok.above,ok.inj,ok.has,ok.cab,(fun z=>nomatch z),ok.frames,ok.stk,ok.exf,ok.bs,ok.bsz,ok.noex,ok.exfs,ok.funs,ok.frf⟩,I0.os,I0.bare,I0.base,I0.loc,I0.cell,I0.free,I0.freeC,I0.pin,I0.hok,I0.len⟩
 refine rE (ht [] s1 (qO N vs) H _ I hq) (fun fl s' hs=>?_) fun e s' hs=>False.elim hs;have fin:∀{σ':St}{H':Hp}{v:V}{u:Value},Inv (cxH P w K mg base N qual (zH st) f cdv A outer s H) [] σ' H' s'→RelV v u→Q v H'→CE outer P w H s Q u s':=
  fun {σ' H' v u} J rv q=>⟨v,H',J.os,J.bare,J.base,J.hok,rv,q⟩
 cases fl with
 | ret u=>
  obtain⟨v,σ',H',J,rv,q⟩:=hs;exact fin J rv q
 | next=>
  obtain⟨σ',H',J,q⟩:=hs;exact fin (v:=V.non) (u:=Value.none) J rfl q
 | brk=>
  obtain⟨_,_,_,q⟩:=hs;exact False.elim q
 | cont=>
  obtain⟨_,_,_,q⟩:=hs;exact False.elim q
structure Dh(P:Program)(w:World)(K:PySem.W.Frag)(mg:Str→Option Value)(base:Heap)(k:Nat)(x:Str)(ps:List Str)(sp:Sp):Prop where
 ex:∃(f:Addr)(fd:FuncData),zTw P w K mg base k f fd ps sp∧Binds K fd ps []∧PySem.W.keepIn K (.ref f)=true∧mg x=some (.ref f)
section
variable{X:Cx}{k j:Nat}{x:Str}{ps:List Str}{sp:Sp}{e:Expr}{es:List Expr}{t:TA}{p pos:Pos}
theorem pe_ch(D:Dh X.prog X.w X.K X.mg X.base k x ps sp)(hr:RoomH j X.A)(hj:k≤j)(hg:Gl X x)(ha:PA X (e::es) t)(hdb:(x==("__debug__" :Str))=false:=by decide)
  (he:starEach (e::es) X.env=(false,eval e X.env)::starEach es X.env:=by rfl) (hpl:(backTo pos (starEach es X.env)).any (·.1)=false:=by rfl):PE X (.Call (.Name x p) (e::es) [] pos) (jS sp [] E0 t):=by
 obtain⟨f,fd,F,hb,hk,hm⟩:=D.ex;intro pins s σ H Q I h;refine rV (jI I hg hm ?_ hdb);refine PySem.W.callWith_K (h₀:=X.base) I.ok.mod.kin hk (thn (ha pos pins s σ H _ I h) fun us s1 ⟨vs,H1,I1,r,q⟩=>⟨I1.kIn, ?_⟩) he hpl;have q:sp (vs++ []) H1 Q E0:=q;rw[pJ] at q;have hl:(us++ []).length=ps.length:=by rw[pJ,←r.length];exact F.len _ _ _ _ q
 have hbt:=hb s1 us I1.kIn hl;rw[pJ] at hbt;refine tZ (aG (F.run X.A X.stack s1 H1 ⟨us,[]⟩ us vs Q E0 (hr.mono hj) I1.env0 hbt r q) fun r s' hq=>?_)
 cases r with
 | error e=>exact False.elim hq
 | ok fl=>
  cases fl with
  | ret u=>exact I1.after hq
  | next=>exact False.elim hq
  | brk=>exact False.elim hq
  | cont=>exact False.elim hq
end
end L2
namespace L2
open PySem PySem.Spec PyProof.Rows PySem.W
section
variable{M:Model}{A:Around}{E:Value→Shared→Prop}{s:Shared}{env:Env}{outer:List Env}{x T L:Addr}{C a0 fl:Value}{d:Option Addr}{base:Heap}{Q:Unit→Shared→Prop}
end
section
variable{X:Cx}{E:XK}{EE:Value→Shared→Prop}{s:Shared}{e:Value}{cs:List Addr}
end
end L2
namespace L2
open PySem PySem.Spec PyProof.Rows PySem.W
section
variable{X:Cx}{E:XK}
end
section
variable{X:Cx}{scope:Scope}{own:List Str}{F:List (Str×Nat)}{elt tg iter:Expr}{ifs:List Expr}{pos:Pos}{wi:TI}{g:TG}{tt:TT}{te:TE}{E:XK}
end
end L2
namespace L2
open PySem PySem.Spec PyProof.Rows PySem.W PySem.Builtin PySem.Builtin.ObjectAttr
structure Xp(K:Frag)(nm:Str)(C B:Addr):Prop where
 obj:∃(N:Addr)(o:Obj),K.lookup C=some o∧zXj nm C N (.ref B::veMro) o∧nsOkIn K N=true∧nsIn K N "__init__" =some none
 tl:tailIn K veMro (.ref B::veMro)=true
 kp:keepIn K (.ref C)=true
section
variable{X:Cx}{C B:Addr}{nm:Str}
theorem zPd{pins:List (Addr×Obj)}{σ:St}{H:Hp}{s:Shared}{Qx:Value→Shared→Prop}{EE:Value→Shared→Prop}{us:List Value}(c:Xp X.K nm C B)(hex:X.ex= [])(I:Inv X pins σ H s)(hl:us.length≤100)
  (q:∀x s',X.s₀.heap.get? x=none→H x=none→Inv X pins σ (upd H x (exO x C none)) s'→Qx (.ref x) s'):wpAny (model X.prog X.w) X.A (call (.ref C) us) Qx EE s:=by
 obtain⟨N,o,lk,⟨q',bs,hdct,sn,sub,ab,col,dd,k0,k1,k2,k3,k5,rfl⟩,hns,hni⟩:=c.obj;have hT:=tail_of_in I.kIn c.tl;have hC:=I.kIn _ _ lk;have hn:s.heap.Ns N (s.heap.nsMap N):=.of_isNs (isNs_of_in I.kIn hns);have hi:s.heap.nsMap N "__init__" =none:=nsMap_none_of_in I.kIn hns hni;have I1:=I;obtain⟨h,g,dr,t,os⟩:=s;refine wpAny_call_exc_subT PySem.F.excBase_ValueError hT hC hn hi (fun h' x hm=>?_) (by rw[mR];lia);obtain⟨t',ht,_⟩:=hm.there;have nn:∀b o,h.get? b=some o→b≠x:=fun b o e z=>by rw[z,hm.new] at e;cases e
 have hHx:H x=none:=by
  cases e:H x with
  | none=>rfl
  | some o=>
   obtain⟨ob,hob⟩:=ObjOk.got (I1.hok x o e);rw[hm.new] at hob;cases hob
 have hx0:X.s₀.heap.get? x=none:=by
  cases e:X.s₀.heap.get? x with
  | none=>rfl
  | some o=>
   obtain⟨o',e'⟩:=I1.base.there x o e (by rw[hex];exact fun z=>nomatch z);rw[hm.new] at e';cases e'
 refine q x _ hx0 hHx ((I1.kept (t':=t) hm.keeps).track hHx hx0 (fun z=>?_) (fun y c e z=>?_) (fun p hp z=>?_) (zHv ht rfl rfl))
 ·obtain⟨m,⟨o,_,_,ho,_⟩,_⟩:=I1.loc
  exact nn _ _ ho z.symm
 ·obtain⟨v,o,ho,_⟩:=I1.cell y c e
  exact nn _ _ ho z
 ·exact nn _ _ (I1.pin p hp).1 z
theorem zWi{H:Hp}{x:Addr}{o:HO}(hx:H x=none):drp (upd H x o) x=H:=by
 funext b
 by_cases z:b=x
 ·subst z;rw[zCp,hx]
 ·rw[kH z,zO z]
def zIj(C:Addr)(E:XK)(t:TA):TS:=fun _ σ H=>t σ H fun vs H1=>vs.length≤100∧E (.ref C) none H1
structure Xr0(K:Frag)(mg:Str→Option Value)(cn:Str)(C:Addr):Prop where
 ex:∃(nm:Str)(B:Addr),Xp K nm C B∧mg cn=some (.ref C)
theorem zPh{E:XK}{cn:Str}{p pos rpos:Pos}{e:Expr}{es:List Expr}{t:TA}(R:Xr0 X.K X.mg cn C)(hg:Gl X cn)(hcalm:X.calm=true)(l:Lvs X E)(ha:PA X (e::es) t)(hdb:(cn==("__debug__" :Str))=false:=by decide)
  (he:starEach (e::es) X.env=(false,eval e X.env)::starEach es X.env:=by rfl) (hpl:(backTo pos (starEach es X.env)).any (·.1)=false:=by rfl):PS X (.Raise (some (.Call (.Name cn p) (e::es) [] pos)) none rpos) (zIj C E t):=by
 intro pins s σ H D I h;obtain⟨nm,B,c,hm⟩:=R.ex;obtain⟨hs,hf,hex,hxe⟩:=l;rw[arm_exec_Raise];refine mD (aP ?_);show wpAny _ _ (raiseStmt X.env (some (do let v ←eval (.Call (.Name cn p) (e::es) [] pos) X.env;standAt rpos;pure v)) none) _ _ _;obtain⟨N,o,lk,hX,_⟩:=c.obj;refine zDa (nm:=nm) (C:=C) (N:=N) (bm:=.ref B::veMro) (by rw[aV,show veMro.contains (.type "BaseException")=true by decide,bV]) (I.ok.hd hcalm) (mD ?_);refine rV (jI I hg hm ?_ hdb);refine callWith_K (h₀:=X.base) I.ok.mod.kin c.kp (thn (ha pos pins s σ H _ I h) fun us s1 ⟨vs,H1,I1,r,hv,q⟩=>⟨I1.kIn, ?_⟩) he hpl;refine zPd c hex I1 (by show us.length≤100;rw[←r.length];exact hv) fun x s2 hx0 hx I2=>?_;refine mD (aP (mS ?_));have hH:upd H1 x (exO x C none) x=some (exO x C none):=zB;obtain⟨vs',e1,h6,h1⟩:=zDb I2 hH;refine⟨x,_,_,vs',rfl,I2.kIn _ _ lk,hX,e1,rfl,rfl,h1,hxe _ _ (zFg I2 hs hf hex hH hx0 ?_)⟩;rw[zWi hx];exact q
end
section
variable{prog:Program}{w:World}{A:Around}{K:Frag}{C x:Addr}{ox:Obj}{od:Option Obj}{name:Str}{E:Value→Shared→Prop}{s:Shared}
theorem zUu{tk:Tok}{fill expr:Bool}{Q:Value→Shared→Prop}(G:zCd K C)(hK:K.In s.heap)(I:InstAt s.heap x ox C od)
  (h:wpAny (model prog w) A.in1 (Builtin.«object.__getattribute__» ⟨[.ref x, .str name tk],[]⟩) (fun fin s'=>match fin with | .done (.ret v)=>wpAny (model prog w) A (handedOut v) Q E s' | _=>False) (fun _ _=>False) s):
  wpAny (model prog w) A (getAttrBy (.ref x) (.str name tk) fill expr) Q E s:=by
 have hb:Looks (model prog w) s.heap (hookBefore (.ref C)) none:=looks_hook hK (by rw[mK (by rfl)];exact G.gt);have ht:=I.type (M:=model prog w);unfold getAttrBy;refine pT (mD (ht _ _ _ _ (fun _ _ e=>e) (mD (looks_findIn hK G.ga _ _ _ _ (fun _ _ e=>e) ?_))));dsimp only;rw[show(onTheHeap (Value.ref C)&& Value.builtin "BaseException.__getattribute__" ==Value.builtin "object.__getattribute__")=false from by rw[show(Value.builtin "BaseException.__getattribute__" ==Value.builtin "object.__getattribute__")=false from by decide+kernel,aF],mG (by decide)];unfold getAttrByItsOwn;refine mD (hb _ _ _ _ (fun _ _ e=>e) (mD (wpAny_attempt (pT ?_))));unfold callGetattribute;rw[show(expr && onTheHeap (Value.builtin "BaseException.__getattribute__"))=false from aF _,mG (by decide)];unfold boundAndCalled;have FB:=PySem.F.attr_ValueError;rw[FB.ga.bind];refine mD (mS ?_);show wpAny _ _ (call (.builtin "BaseException.__getattribute__") [.ref x, .str name tk]) _ _ _;refine tZ ?_;refine aE FB.ga.plain PySem.F.entry_bexc_ga ?_;refine @check_slot (model prog w) _ _ s "BaseException.__getattribute__" "BaseException" "__getattribute__" (.ref x) [.str name tk] [] _ (by decide+kernel) (by decide+kernel) (ht.andThen (looks_mroIn hK G.bx)) (PySem.F.args_bexc_ga (.ref x) (.str name tk)) ?_;refine rE h (fun fin s' z=>?_) fun _ _ z=>z.elim;rcases fin with(_ | _ | _ | _)| _<;>first | exact z | exact z.elim
theorem zKu(G:zCd K C):findObj K C od "__class__" =some (.bind (.builtin "getset_descriptor.__get__") (.builtin "object.__class__")):=by
 obtain⟨cd,hc,_⟩:=any_some G.hd;unfold findObj;rw[hc,dP,G.cl,dP];simp[G.cg,G.ct]
theorem zKj{Q:Option Value→Shared→Prop}(G:zCd K C)(hK:K.In s.heap)(I:InstAt s.heap x ox C od)(h:Q (some (.ref C)) {s with toks:=s.toks+1}):
  wpAny (model prog w) A (getAttr? (.ref x) "__class__") Q E s:=by
 have hf:=zKu (od:=od) G;unfold getAttr? getAttrBy?;refine mD (wpAny_mkText (mD (wpAny_attempt (zUu (s:={s with toks:=s.toks+1}) G hK I ?_))));obtain⟨hh',g,d,t,os⟩:=s;have L0:=I.type (M:=model prog w);have L1:=looks_find (M:=model prog w) hK I hf;unfold Builtin.«object.__getattribute__»;refine mD (mS (mD (mS (mD (L0.at (mD (L1.at ?_)))))));show wpAny _ _ (holding [Value.builtin "object.__class__"] (call (.builtin "getset_descriptor.__get__") [.builtin "object.__class__", .ref x, .ref C])>>=ret) _ _ _;refine mD (pT (tZ (class_get (s:=⟨hh',g,d,t+1,os⟩) hK I G.ob ?_)));refine mS ?_;show wpAny _ _ (handedOut (.ref C)) _ _ _;rw[handedOut_of rfl];exact mS (mS h)
theorem zFi(G:zCd K C):KitX K (.ref x) (.ref C) (fun h=>∃ox od,InstAt h x ox C od) where
 ty:=fun _ _ _ ⟨_,_,I⟩=>I.type
 it:=fun _ _ X _=>by
  obtain⟨cdD,hcD,_⟩:=any_some G.hd;unfold clsIn at hcD;split at hcD
  ·rename_i c' d' cd' sl' ho
   intro A' Q' E' s' k q;unfold isType loadHead;exact mD (wpAny_loadPart (k _ _ (X _ _ ho)) (mS q))
  ·cases hcD
 ne:=fun h tp dd its n sl X htp=>by
  obtain⟨cdD,hcD,_⟩:=any_some G.hd;refine Bool.eq_false_iff.mpr fun q=>?_;have e:C=tp:=Value.ref.inj (beq_iff_eq.mp q);subst e;unfold clsIn at hcD;split at hcD
  ·rename_i c' d' cd' sl' ho
   have z:=(X _ _ ho).symm.trans htp;cases z
  ·cases hcD
 ca:=fun X ⟨_,_,I⟩ k=>zKj G X I k
end
section
variable{X:Cx}{pins:List (Addr×Obj)}{σ:St}{H:Hp}{s:Shared}{x C:Addr}
def Caught(H:Hp)(x C:Addr):Prop:=H x=some (exF x C none)∨∃d fs,H x=some (exF x C (some d))∧H d=some (.xd fs)
theorem Caught.inst(h:Caught H x C)(I:Inv X pins σ H s):∃ob od,InstAt s.heap x ob C od:=by
 rcases h with h |⟨d,fs,h,hd⟩
 ·obtain⟨ob,vs,e1,e2,e3,e4⟩:=(I.hok x _ h).1
  refine⟨ob,none,⟨e1,e2, ?_,by rw[e3];trivial⟩⟩;unfold notCls;rw[e4]
 ·obtain⟨ob,od,J,_⟩:=zQp I h hd
  exact⟨ob,some od,J⟩
theorem Caught.same{H':Hp}(h:Caught H x C)(g:∀b o,H b=some o→H' b=some o):Caught H' x C:=by
 rcases h with h |⟨d,fs,h,hd⟩
 ·exact .inl (g _ _ h)
 ·exact .inr ⟨d,fs,g _ _ h,g _ _ hd⟩
theorem zAf:xW X (.builtin "isinstance") (fun vs H Q=>∃x C D b,vs= [.ref x, .ref D]∧Caught H x C∧zCd X.K C∧kitOne X.K (.ref C) (.ref D)=some b∧Q (.bl b) H):=by
 intro pins s σ H xs us Q I r h;obtain⟨x,C,D,b,rfl,hc,G,hk,q⟩:=h;obtain⟨u,w',rfl,ru,rw'⟩:=uM r;cases (show u=Value.ref x from ru);cases (show w'=Value.ref D from rw');obtain⟨ob,od,J⟩:=hc.inst I;exact kia_one (zFi G) I.kIn ⟨ob,od,J⟩ hk (by intro z;cases z) fun tk=>⟨.bl b,H,I.tok _,rfl,q⟩
theorem zFx:∀{Ds:List Addr}{its:List Value},Vals (Ds.map V.ref) its→its=Ds.map Value.ref
 | [],_, .nil=>rfl
 | D::Ds,_, .cons r t=>by
  cases (show _=Value.ref D from r);rw[zFx t];rfl
theorem zEt:xW X (.builtin "isinstance") (fun vs H Q=>∃(x C p:Addr)(Ds:List Addr)(b:Bool),vs= [.ref x, .ref p]∧H p=some (.tup (Ds.map V.ref))∧Caught H x C∧zCd X.K C∧kitAny X.K (.ref C) (Ds.map Value.ref)=some b∧Q (.bl b) H):=by
 intro pins s σ H xs us Q I r h;obtain⟨x,C,p,Ds,b,rfl,hp,hc,G,hk,q⟩:=h;obtain⟨u,w',rfl,ru,rw'⟩:=uM r;cases (show u=Value.ref x from ru);cases (show w'=Value.ref p from rw');obtain⟨ob,od,J⟩:=hc.inst I;obtain⟨_,its,rv,⟨c,dd,da,sl⟩,ho,hcl,n,hda⟩:=I.hok p _ hp;have e:=zFx rv;subst e;dsimp only at hcl hda;subst hcl hda;exact kia_tup (zFi G) I.kIn ⟨ob,od,J⟩ ho hk (by intro z;cases z) fun tk=>⟨.bl b,H,I.tok _,rfl,q⟩
end
section
variable{X:Cx}
def zKg(b:Bool):Value→Bool
 | .bool c=>c==b
 | _=>false
theorem zDl:∀{bs:List Bool}{its:List Value},Vals (bs.map V.bl) its→its=bs.map Value.bool
 | [],_, .nil=>rfl
 | b::bs,_, .cons r t=>by
  cases (show _=Value.bool b from r);rw[zDl t];rfl
def zVi(K:Frag):V→List V→Hp→VK→Prop:=fun x vs H Q=>∃(p:Addr)(bs:List Bool)(b:Bool),x= .ref p∧vs= [.bl b]∧SqL K H p (bs.map V.bl)∧Q (.int (bs.count b)) H
theorem zKv:MtR X "list.count" (zVi X.K):=by
 intro pins s σ H x vs v us Q I rx rv h;obtain⟨p,bs,b,rfl,rfl,hq,q⟩:=h;cases rx;obtain⟨u,rfl,rfl⟩:∃u,us= [u]∧u=Value.bool b:=rv.one;obtain⟨its,r,pl,_⟩:=I.list hq;have e:=zDl r;subst e;obtain⟨⟨cls,dd,data,sl⟩,ho,hc,n,hd⟩:=id pl.isList;simp only at hc hd;subst hc hd;refine aS PySem.F.slot_list_count ⟨_,ho,rfl⟩ PySem.F.entry_list_count (PySem.F.args_list_count_2 _ _) (SeqAt.list_countAt p _ n dd sl (.bool b) (zKg b)) ⟨ho,fun y hy=>?_, ?_⟩
 ·obtain⟨c,_,rfl⟩:=nP.mp (show y∈bs.map Value.bool by simpa using hy)
  exact cK c b
 ·have e:List.countP (zKg b) ((bs.map Value.bool).toArray.toList)=bs.count b:=by
   rw[List.toList_toArray,List.countP_map];rfl
  rw[e];exact⟨.int (bs.count b),H,I.tok _,⟨_,rfl⟩,q⟩
def zWu(K:Frag):V→List V→Hp→VK→Prop:=fun x vs H Q=>∃(p:Addr)(bs:List Bool)(b:Bool)(j:Nat),x= .ref p∧vs= [.bl b]∧SqL K H p (bs.map V.bl)∧bs[j]? =some b∧(∀i,i<j→bs[i]?≠some b)∧j<1000∧Q (.int j) H
theorem zKq:MtR X "list.index" (zWu X.K):=by
 intro pins s σ H x vs v us Q I rx rv h;obtain⟨p,bs,b,j,rfl,rfl,hq,hj,hno,hsm,q⟩:=h;cases rx;obtain⟨u,rfl,rfl⟩:∃u,us= [u]∧u=Value.bool b:=rv.one;obtain⟨its,r,pl,_⟩:=I.list hq;have e:=zDl r;subst e;have hjl:j<bs.length:=(mQ.mp hj).1;obtain⟨⟨cls,dd,data,sl⟩,ho,hc,n,hd⟩:=id pl.isList;simp only at hc hd;subst hc hd;refine aS PySem.F.slot_list_index ⟨_,ho,rfl⟩ PySem.F.entry_list_index (PySem.F.args_list_index_2 _ _) (SeqAt.list_indexAt p _ n dd sl (.bool b) (zKg b) j (by simp;lia) (by lia) ?_ ?_) ⟨ho,fun y hy=>?_,⟨.int j,H,I.tok _,⟨_,rfl⟩,q⟩⟩
 ·obtain⟨hj',e⟩:=mQ.mp hj
  show zKg b ((bs.map Value.bool).toArray[j]'(by simp;lia))=true;simp[zKg,e]
 ·intro m hm hlt
  have hm':m<bs.length:=by simpa using hm
  have:=hno m hlt;rw[nH hm'] at this;show zKg b ((bs.map Value.bool).toArray[m])=false;simp only[List.getElem_toArray,List.getElem_map,zKg];exact tE.mpr fun e=>this (by rw[e])
 ·obtain⟨c,_,rfl⟩:=nP.mp (show y∈bs.map Value.bool by simpa using hy)
  exact cK c b
end
end L2
namespace L2
open PySem PySem.Spec PyProof.Rows
def ItD(lo:Int)(n:Nat):It:=⟨fun i _=>i<n,fun i H x H'=>H'=H∧x= .int (lo - i),fun i _=>n≤i⟩
theorem zNc{P:Program}{w:World}{K:PySem.W.Frag}{tg:Expr}(it:Addr)(lo:Int)(n:Nat):zGj P w K tg (ItD lo n) [it] it (fun i h=>IsRangeIter h it (lo+(i:Nat)*(-1)) ((n:Int)- (i:Nat)) (-1)) where
 mem:=by simp
 obj:=fun i h st b hb=>by
  have e:b=it:=by simpa using hb
  subst e;exact⟨_,st,fun v z=>by
   have z':Data.fields _=Data.cell v:=z;cases z'⟩
 keep:=fun i h h' st k=>k it (by simp) _ st
 item:=by
  intro X hP hw hK hc i pins s σ H E I hf st hg;subst hP hw hK;obtain⟨f0,f1,f2,f3,f4,f5⟩:=hf it (by simp);have W:=Walks.range (prog:=X.prog) (w:=X.w) (I.ok.hd hc) it lo (-1) n;refine W.item i s _ _ hg st fun v h' tk hv st' kk=>?_;obtain⟨t,rfl⟩:=hv;have I1:Inv X pins σ H {s with heap:=h',toks:=tk}:=I.turned (fun b o hb e=>kk b o (by simpa using hb) e) f0 f1 f3 f4 f5;refine⟨_,rfl,zFt (s:={s with heap:=h',toks:=tk}) (n:="range_iterator") st' rfl rfl (by decide) ⟨.int (lo - i),H,I1,⟨t, ?_⟩,⟨rfl,rfl⟩,st',fun b hb=>(hf b hb).1⟩⟩;have e:lo+((i:Nat):Int)*(-1)=lo - i:=by lia
  rw[e]
 done:=by
  intro X hP hw hK hc i pins s σ H E I hf st hg;subst hP hw hK;obtain⟨f0,f1,f2,f3,f4,f5⟩:=hf it (by simp);exact wpAny_pyNext_range_end (I.ok.hd hc) st (by have:n≤i:=hg;lia) fun h' eb=>⟨rfl,I.turned (t':=s.toks) (fun b o hb e=>eb b o hb e) f0 f1 f3 f4 f5⟩
 self:=fun _ _ _ _ _ st h=>wpAny_pyIter_rangeiter st h
theorem gK(lo:Int)(h: -1≤lo):Builtin.Range.rangeSize lo (-1) (-1)=lo+1:=by
 unfold Builtin.Range.rangeSize;simp
 lia
theorem zKk{lo:Int}(h0: -1≤lo)(h1:lo<1000):Builtin.Range.small lo (-1) (-1)=true:=by
 unfold Builtin.Range.small;rw[gK lo h0];simp[Builtin.Range.rangeFitsLong]
 lia
section
variable{X:Cx}{tg:Expr}
def zQj(ta:TA):TI:=fun σ H R=>ta σ H fun vs H1=>∃i:Int,vs= [.int i, .int (-1), .int (-1)]∧-1≤i∧i<1000∧R (ItD i (i+1).toNat) H1
theorem zMp{a b c:Expr}{ta:TA}{p pos:Pos}(hg:Gl X "range")(hm:X.mg "range" =none)(ha:PA X [a,b,c] ta)(hs:starEach [a,b,c] X.env= [(false,eval a X.env),(false,eval b X.env),(false,eval c X.env)]:=by rfl)(hs2:starEach [b,c] X.env= [(false,eval b X.env),(false,eval c X.env)]:=by rfl):
  PI X tg (.Call (.Name "range" p) [a,b,c] [] pos) (zQj ta):=by
 intro pins s σ H R I h;refine Call_ (zBl I hg hm boot_range (bG (thn (ha pos pins s σ H _ I h) fun us s1 ⟨vs,H1,I1,r1,q1⟩=>?_) (by rw[hs,hs2]) (by rw[hs2];rfl)));obtain⟨i,e,h0,h1,q⟩:=q1;subst e
 cases r1 with
 | cons r rr=>
  cases rr with
  | cons r' rr=>
   cases rr with
   | cons r2 rr=>
    cases rr;obtain⟨t,rfl⟩:=r;obtain⟨t',rfl⟩:=r';obtain⟨t2,rfl⟩:=r2;refine call_range_3 (by decide) ?_ (nR (PyProof.noPylong_small (by lia)));refine wpAny_pyIter_range (IsRange.new ..) (zKk h0 h1) ?_;have I2:Inv X pins σ H1 {s1 with heap:=s1.heap.push {cls:=.type "range",data:=.fields #[.int i t, .int (-1) t', .int (-1) t2]},toks:=s1.toks}:=I1.kept fun b o e=>mN _ e;refine⟨(s1.heap.push {cls:=.type "range",data:=.fields #[.int i t, .int (-1) t', .int (-1) t2]}).objs.size,[(s1.heap.push {cls:=.type "range",data:=.fields #[.int i t, .int (-1) t', .int (-1) t2]}).objs.size],_,_,H1,rfl,
     I2.kept (t':=s1.toks) fun b o e=>mN _ e,zNc _ i (i+1).toNat, ?_,fun b hb=>?_,q⟩
    ·have e1:i+((0:Nat):Int)*(-1)=i:=by simp
     have e2:((((i+1).toNat:Nat):Int))- ((0:Nat):Int)=Builtin.Range.rangeSize i (-1) (-1):=by rw[gK i h0];lia
     show IsRangeIter _ _ (i+((0:Nat):Int)*(-1)) ((((i+1).toNat:Nat):Int)- ((0:Nat):Int)) (-1);rw[e1,e2];exact nC _ rfl
    ·have e:b=(s1.heap.push {cls:=.type "range",data:=.fields #[.int i t, .int (-1) t', .int (-1) t2]}).objs.size:=by simpa using hb
     subst e;exact I2.fpOk (mE _) (I2.hok.fresh (mE _))
theorem zEz{lo:Int}{n:Nat}{g:TG}{tb:TS}{D:zBr}{σ:St}{H:Hp}(Pv:Nat→St→Hp→Prop)(h0:Pv 0 σ H)
  (hs:∀i σ H,i<n→Pv i σ H→g (.int (lo - i)) σ H fun σ2 H2=>tb {D with nx:=Pv (i+1),ct:=Pv (i+1),bk:=D.nx} σ2 H2) (hd:∀σ H,Pv n σ H→D.nx σ H):zXc g tb D σ (ItD lo n) H:=by
 refine⟨fun i m σ H=>m=n - i∧i≤n∧Pv i σ H,⟨n,by simp,nY _,h0⟩, ?_⟩;rintro i m σ H ⟨rfl,hi,p⟩
 by_cases hlt:i<n
 ·refine .inr ⟨hlt,Pv (i+1),fun σ' H' p'=>⟨n - (i+1),by lia,rfl,hlt,p'⟩,fun x H' y=>?_⟩
  obtain⟨e,y⟩:=y;subst e y;exact hs i σ _ hlt p
 ·have e:i=n:=by lia
  subst e;exact .inl ⟨mE _,hd σ H p⟩
theorem zOt{K:W.Frag}{x:Str}{F:List (Str×Nat)}{a:Addr}{xs:List V}{tt:TT}{te:TE}{σ:St}{Q:VK}{H1:Hp}(Pv:Nat→List V→Hp→Prop)(hn:xs.length≤sizeLine)(h0:Pv 0 [] H1)(hz:∀i ys H,i≤xs.length→Pv i ys H→SqT K H a xs)
  (hs:∀i v ys H,xs[i]? =some v→ys.length≤i→Pv i ys H→tt (some v::F.map (fun p=>(σ[p.2]?).join)) H fun b H3=>if b=true then te (some v::F.map (fun p=>(σ[p.2]?).join)) H3 fun z H4=>Pv (i+1) (ys++ [z]) H4 else Pv (i+1) ys H3)
  (hd:∀ys H,ys.length≤xs.length→Pv xs.length ys H→∀p,H p=none→Q (.ref p) (upd H p (.lst ys))):wM [x] F (qA 0) tt te σ Q (Itt K a) H1:=
 zAy Pv hn h0 (fun i ys H h p=>⟨xs,xs[i],hz i ys H (bC h) p,by simp[h]⟩) (fun ys H p=>⟨xs,hz _ ys H (mE _) p,mE _⟩) (fun i ys H y H2 h1 h2 h3 h4=>by
  obtain⟨rfl,hy⟩:=h4;exact hs i y ys _ (hy xs (hz i ys _ (bC h1) h3)) h2 h3) hd
theorem zHz:xW X (.type "dict") (fun xs H Q=>∃p kvs,xs= [.ref p]∧H p=some (.dK kvs)∧∀l,H l=none→Q (.ref l) (upd H l (.dK kvs))):=by
 intro pins s σ H xs us Q I r h;obtain⟨p,kvs,rfl,hq,q⟩:=h;obtain⟨u,rfl,rx⟩:=vG r;cases rx;obtain⟨z,hd,vs,rel,dd⟩:=I.hok p _ hq;have hl:=rel.length;refine kt_call_dict hd dd (by lia) fun h' dd' hs=>?_;have hlt:(s.heap.objs.size==sysModules)=false:=by
  have:=I.big;exact tE.mpr (rK this)
 refine⟨.ref s.heap.objs.size,_,I.laid (t':=s.toks) (h':=h') (fun b o e=>?_) (mE _) (o:=.dK kvs) ⟨z,hlt,vs,rel,dd'⟩,rfl,q _ (I.hok.fresh (mE _))⟩;have hb:b≠s.heap.objs.size:=nO (mY e);rw[hs.2 b hb];exact mN _ e
end
theorem FunD.okx{P:Program}{w:World}{K:W.Frag}{mg:Str→Option Value}{base:Heap}{x qual:Str}{st:Stmt}{f:Addr}{fd:FuncData}{N ps:List Str}{k:Nat}{sp:Sp}(F:FunD K x qual st f fd)(S:zV N ps (zH st))(len:∀vs H Q E,sp vs H Q E→vs.length=ps.length)
  (hbody:∀(cdv:Value)(A:Around)(outer:List Env)(s:Shared)(H:Hp)(vs:List V)(Q:VK)(E:XK),Room k (A.deeper (envOfC qual (zH st) s.heap.objs.size f cdv))→sp vs H Q E→
   ∃t,PSs (zCf (CXE P w) P w K mg base N qual (zH st) f cdv A outer s H E) (zP st) t∧t {nx:=fun _ H'=>Q .non H',rt:=Q} (qO N vs) H):FnOk P w K mg base (CXE P w) (k+1) f fd ps sp:=by
 obtain⟨oc,od,dV,kV,doc,pm,an,cdv,ct,osl,rfl,lk,hcd⟩:=F.ex;exact zLt lk hcd S len fun A outer s H vs Q E hr hsp=>hbody cdv A outer s H vs Q E hr hsp
structure Ddx(P:Program)(w:World)(K:W.Frag)(mg:Str→Option Value)(base:Heap)(k:Nat)(x:Str)(ps:List Str)(dvs:List V)(sp:Sp):Prop where
 ex:∃(f:Addr)(fd:FuncData)(ds:List Value),FnOk P w K mg base (CXE P w) k f fd ps sp∧Binds K fd ps ds∧Vals dvs ds∧W.keepIn K (.ref f)=true∧mg x=some (.ref f)
section
variable{X:Cx}{k j:Nat}{x:Str}{ps:List Str}{dvs:List V}{sp:Sp}{e:Expr}{es:List Expr}{t:TA}{p pos:Pos}{E:XK}
theorem zZk(D:Ddx X.prog X.w X.K X.mg X.base k x ps dvs sp)(hr:Room j X.A)(hj:k≤j)(hg:Gl X x)(l:kZ (CXE X.prog X.w) X E)(ha:PA X (e::es) t)(hdb:(x==("__debug__" :Str))=false:=by decide)
  (he:starEach (e::es) X.env=(false,eval e X.env)::starEach es X.env:=by rfl) (hpl:(backTo pos (starEach es X.env)).any (·.1)=false:=by rfl):PE X (.Call (.Name x p) (e::es) [] pos) (jS sp dvs E t):=by
 obtain⟨f,fd,ds,h1,h2,hv,h3,h4⟩:=D.ex;exact zCn h1 (hr.mono hj) hg h4 h3 h2 hv l ha hdb he hpl
end
theorem zNk{X:Cx}{s:Stmt}{t1 t2:TS}(h1:PS X s t1)(h2:PS X s t2):PS X s (fun D σ H=>t1 D σ H∨t2 D σ H):=fun pins s σ H D I h=>h.elim (h1 pins s σ H D I) (h2 pins s σ H D I)
theorem Reps.set{H:Hp}{v:V}{t:T}(hv:Rep H v t):∀{xs:List V}{us:List T}(i:Nat),Reps H xs us→Reps H (xs.set i v) (us.set i t)
 | _,[],i,h=>by
  have e:_= []:=h;subst e;exact rfl
 | _,u::us,0,⟨x,r,e,h1,h2⟩=>by subst e;exact⟨v,r,rfl,hv,h2⟩
 | _,u::us,i+1,⟨x,r,e,h1,h2⟩=>by subst e;exact⟨x,_,rfl,h1,Reps.set hv i h2⟩
theorem Sps.new{H H':Hp}{vs:List V}{us:List T}{D:List Addr}(h:Sps H' vs us D)(hD:∀b∈D,H b=none):Reps (jE H H') vs us:=
 Sps.rep _ _ _ (Sps.keep _ _ _ (fun b hb o _ e=>by rw[qH (hD b hb)];exact e) h)
end L2
namespace L2
open PySem PySem.Spec PyProof.Rows
theorem pS{X:Cx}{pos pos':Pos}{x:Str}{e:Expr}{te:TE}(i:Nat)(hN:X.N.Nodup)(he:PE X e te)(hi:X.N[i]? =some x:=by rfl)(hx:Loc X.env.scope x:=by exact nR rfl)(hs:swapsWith e (some (.Name x pos')) pos.line X.env=pure false:=by rfl)(hf:X.fn x=true∨X.env.scope.names.lookup x=some .local:=by first | exact .inl rfl | exact .inr rfl | assumption):PS X (.Assign [.Name x pos'] e pos) (zPe te (qA i)):=zBd hN hi hx he hs hf
theorem pD{X:Cx}{k j:Nat}{x:Str}{ps:List Str}{sp:Sp}{e:Expr}{es:List Expr}{t:TA}{p pos:Pos}(D:Dn X.prog X.w X.K X.mg X.base k x ps sp)(hr:Room j X.A)(ha:PA X (e::es) t)(hj:k≤j:=by first | decide | lia)(hg:Gl X x:=by rfl)(hdb:(x==("__debug__" :Str))=false:=by decide)
  (he:starEach (e::es) X.env=(false,eval e X.env)::starEach es X.env:=by rfl) (hpl:(backTo pos (starEach es X.env)).any (·.1)=false:=by rfl):PE X (.Call (.Name x p) (e::es) [] pos) (jS sp [] E0 t):=zU D hr hj hg ha hdb he hpl
theorem pI{X:Cx}{x0 x:Str}{T:String}{e:Expr}{te:TE}{p p2 pos:Pos}(h0:X.mg x0=none)(b0:bootBuiltins x0=some (.builtin "isinstance"))(hm:X.mg x=none)(hb:bootBuiltins x=some (.type T))(he:PE X e te)(hT:T∈tyL:=by decide)(g1:Gl X x0:=by rfl)(g2:Gl X x:=by rfl)(hn0:x0≠ "__name__":=by decide)(hd0:(x0==("__debug__" :Str))=false:=by decide)(hn:x≠ "__name__":=by decide)(hd:(x==("__debug__" :Str))=false:=by decide)
  (h1:starEach [e, .Name x p2] X.env=(false,eval e X.env)::starEach [.Name x p2] X.env:=by rfl) (h2:(backTo pos (starEach [.Name x p2] X.env)).any (·.1)=false:=by rfl):PE X (.Call (.Name x0 p) [e, .Name x p2] [] pos) (tCB (fun xs H Q=>∃x t,xs= [x, .ty T]∧tyS H x=some t∧Q (.bl (zM t T)) H) (zBy te (zBy (tC (.ty T)) zHl))):=
 zN (zDy hT) g1 h0 b0 (zA he (zA (xP (v:=.ty T) g2 hm hb rfl hn hd) zD) h1) hn0 hd0 h1 h2
theorem len1{α:Type}{us:List α}(h:us.length=1):∃a,us= [a]:=
 match us,h with
 | [a],_=>⟨a,rfl⟩
theorem len2{α:Type}{us:List α}(h:us.length=2):∃a b,us= [a,b]:=
 match us,h with
 | [a,b],_=>⟨a,b,rfl⟩
theorem len3{α:Type}{us:List α}(h:us.length=3):∃a b c,us= [a,b,c]:=
 match us,h with
 | [a,b,c],_=>⟨a,b,c,rfl⟩
theorem len4{α:Type}{us:List α}(h:us.length=4):∃a b c d,us= [a,b,c,d]:=
 match us,h with
 | [a,b,c,d],_=>⟨a,b,c,d,rfl⟩
end L2
section
open PySem L2
local macro_rules | `(tactic| walk_at "b1") => `(tactic| (intro _ _ _ _ _ _ us hl; obtain ⟨_,e⟩ := len1 hl; subst e; rfl))
local macro_rules | `(tactic| walk_at "b2") => `(tactic| (intro _ _ _ _ _ _ us hl; obtain ⟨_,_,e⟩ := len2 hl; subst e; rfl))
local macro_rules | `(tactic| walk_at "b3") => `(tactic| (intro _ _ _ _ _ _ us hl; obtain ⟨_,_,_,e⟩ := len3 hl; subst e; rfl))
local macro_rules | `(tactic| walk_at "b4") => `(tactic| (intro _ _ _ _ _ _ us hl; obtain ⟨_,_,_,_,e⟩ := len4 hl; subst e; rfl))
local macro_rules | `(tactic| walk_at "ln") => `(tactic| (intro vs H Q E h; repeat (first | (obtain ⟨e,_⟩ := h; subst e; rfl) | (obtain ⟨_,h⟩ := h))))
local macro_rules | `(tactic| walk_at "rd3") => `(tactic| first | (dsimp only [zQu,zIn,zWo,iZip,tIsT,zTv,zDm,zYf,zSi,zPy,zSg,zQi,zHy,zRd,zPw,zFf,zZf,zRy,zPe,qA,zWg,zXt,yBw,zRh,tOp,tUn,zIe,tC,jS,zBy,zHl,zMa,tB,zYi,tOr,yBt,zSt,yAe,zPr,tIf,tCB,tBM,zFf,zEb,zPj,zGo,tSl,zGl,zYv,zQa,yBm,zYx,zRg,zKe,zKx,rI0,rI,rU,rEq,rNe,zPz,zZg,zRv,yAh,zYd,CMul,yAj,zXi,List.getElem?_cons_zero,List.getElem?_cons_succ,List.set_cons_zero,List.set_cons_succ,List.map_cons,List.map_nil,List.length_cons,List.length_nil,Nat.reduceAdd,Option.join_some,Option.join_none]; try walk_at "rd3s") | walk_at "rd3s")
local macro_rules | `(tactic| walk_at "rd3s") => `(tactic| simp only [zQu,zIn,zWo,iZip,tIsT,zTv,zDm,zYf,zSi,zPy,zSg,zQi,zHy,zRd,zPw,zFf,yBk,nox_K,zRw,zZf,zRy,zPe,qA,zWg,zXt,yBw,zRh,tOp,tUn,zIe,tC,jS,zBy,zHl,zMa,tB,zYi,tOr,yBt,zSt,yAe,zPr,tIf,tCB,tBM,zFf,zEb,zPj,zGo,tSl,zGl,zYv,zQa,yBm,zYx,zVy,zRg,zKe,zKx,rI0,rI,rU,rEq,rNe,zPz,zZg,zRv,yAh,zYd,CMul,yAj,zXi,List.append_nil,List.getElem?_cons_zero,List.getElem?_cons_succ,List.set_cons_zero,List.set_cons_succ,List.map_cons,List.map_nil,List.length_cons,List.length_nil,sizeLine_eq,Nat.reduceAdd,Nat.reduceLeDiff,Option.join_some,Option.join_none,Option.some.injEq,V.int.injEq,V.str.injEq,V.bl.injEq,V.ref.injEq,V.ty.injEq,List.cons.injEq,and_true,true_and,and_self,exists_eq_left',exists_eq_left,exists_and_left,exists_and_right,decide_eq_true_eq,Bool.not_eq_eq_eq_not,Bool.not_true,Bool.not_false,decide_eq_false_iff_not,Int.reduceLT,Int.reduceLE,Int.reduceNeg,Int.reducePow,Int.reduceAdd,Int.reduceSub,Int.reduceMul,Int.reduceToNat,zRo,Nat.reduceLT,Nat.reducePow,or_true,true_or,if_true,if_false,Bool.false_eq_true,ite_true,ite_false,reduceCtorEq])
local macro_rules | `(tactic| walk_at "sc") => `(tactic| exact ⟨rfl,rfl,rfl,by decide +kernel,rfl,by decide +kernel,by decide +kernel⟩)
local macro_rules | `(tactic| walk_at "st") => `(tactic| simp only [qO,List.map_cons,List.map_nil,List.length_cons,List.length_nil,Nat.reduceAdd,Nat.reduceSub,List.replicate_succ,List.replicate_zero,List.cons_append,List.nil_append])
local macro_rules | `(tactic| walk_at "wu") => `(tactic| with_unfolding_all rfl)
namespace K36
open PySem L2
seal L2.PSs L2.PS L2.PE L2.PT L2.PW L2.PA L2.PI L2.PG L2.PGs L2.PPs L2.PTs
def top(i:Nat):Stmt:=PySem.Challenge.pw_cabinet_k36_inserted_and_taken.main.body.getD i (.Pass ⟨0,0,0,0⟩)
abbrev zFn:Stmt:=top 56
abbrev zOr:Stmt:=top 60
def vY(K:W.Frag):Sp:=fun vs H Q _=>∃(a:Addr)(ns:List Int)(k:Int),vs= [.ref a, .int k]∧SqL K H a (ns.map V.int)∧ns.length≤63∧0≤k∧k<1000000∧∀H',Same H H'→Q (.int (yQ ns k)) H'
theorem xT{K:W.Frag}{H:Hp}{Q:VK}{E:XK}{a:Addr}{ns:List Int}{k:Int}(hS:SqL K H a (ns.map V.int))(h63:ns.length≤63)(h0:0≤k)(h1:k<1000000)(q:∀H',Same H H'→Q (.int (yQ ns k)) H'):
  vY K [.ref a, .int k] H Q E:=⟨a,ns,k,rfl,hS,h63,h0,h1,q⟩
section
variable{P:Program}{w:World}{K:W.Frag}{mg:Str→Option Value}{base:Heap}{f:Addr}{fd:FuncData}
theorem scCell:zV ["_law_script","_law_k","_law_more"] ["_law_script","_law_k"] (zH zFn):=by walk_at "sc"
theorem zWf(F:Fun K "_law_cell" "_law_cell" zFn f fd)(B:Bl mg):FnOk P w K mg base CX0 1 f fd ["_law_script","_law_k"] (vY K):=by
 refine F.ok scCell (by walk_at "ln") fun c A o s H vs Q E hr h=>?_;obtain⟨a,ns,k,rfl,hS,h63,h0,h1,q⟩:=h;have nd:=scCell.nd;have hu0:=hr.units0;refine⟨_,(zE (pS 2 nd (zJ qX (pv 1) zF))
  (zE (zS (zW (zWj hu0) (pv 0) (yG zD) (zR _)) (zE (pS 2 nd (zJ yK (pv 2) (zJ qX (zJ zZ (pv 1) (zN yL rfl B.len xH (zA (pv 0) zD))) zF)))
  (zG (pS 2 nd (zJ zX (zJ yK (pv 2) (zJ qX (yR ix_list (pv 0) (zJ zX (pv 1) (zN yL rfl B.len xH (zA (pv 0) zD))) (fun _ _=>rfl)) zF)) zF)))) zL)
  (zG (zK (zJ zX (zJ yK (zJ zZ (zJ qX (pv 2) (pv 2)) zF) (zJ qX zF (pv 2))) zF))))), ?_⟩
 walk_at "st";walk_at "rd3";intro p hp;have hS':=(zC hp (.lst [])).seq hS;refine yBr hS' (SqL.of zB) (zOm ns) rfl ⟨_,rfl, ?_⟩;rw[zTo]
 by_cases hn:ns= []
 ·subst hn
  refine zJx ⟨.inl (by lia), ?_⟩;exact q _ (zC hp _)
 ·have hpos:0<ns.length:=aM.mpr hn
  have e1:(ns.map V.int).isEmpty=false:=by cases ns with | nil=>exact absurd rfl hn | cons _ _=>rfl
  rw[mK rfl,e1];have hl:(ns.map V.int).length=ns.length:=mI _;have hm0:0≤k % (ns.length:Int):=aU _ (by lia);have hm1:k % (ns.length:Int)<ns.length:=tO _ (by lia);refine zYu ⟨ns.map V.int,hS',by rw[hl];lia,ns.map V.int,hS',by rw[hl];lia, ?_⟩;rw[hl];refine yP hS' (qN (d:=.int 0) hm0 (by rw[hl];exact hm1)) ⟨ns.getD (k % ns.length).toNat 0, ?_, .inl ?_, ?_⟩
  ·simp[List.getD,nD]
  ·generalize (k*7919+k / ns.length*104729+ns.getD (k % ns.length).toNat 0*48271)=z
   lia
  ·have e:yQ ns k=_:=rfl
   have e2:yQ ns k=(((k*7919+k / ns.length*104729+ns.getD (k % ns.length).toNat 0*48271)% 1000003*((k*7919+k / ns.length*104729+ns.getD (k % ns.length).toNat 0*48271)% 1000003)/ 11+13*((k*7919+k / ns.length*104729+ns.getD (k % ns.length).toNat 0*48271)% 1000003))% 1000003):=by
    unfold yQ;rw[mG hn]
   rw[←e2];exact q _ (zC hp _)
def zIo:Sp:=fun vs H Q _=>∃(m:Int),vs= [.int m]∧0≤m∧m<2000000∧∀H',Same H H'→Q (.int (zNs m)) H'
theorem scNum:zV ["_law_more"] ["_law_more"] (zH zOr):=by walk_at "sc"
theorem yAb(F:Fun K "_law_number_by" "_law_number_by" zOr f fd):FnOk P w K mg base CX0 1 f fd ["_law_more"] zIo:=by
 refine F.ok scNum (by walk_at "ln") fun c A o s H vs Q E hr h=>?_;obtain⟨m,rfl,h0,h1,q⟩:=h;have nd:=scNum.nd;refine⟨_,(zE (zS (zW xC (zJ zX (pv 0) zF) zF (zR _)) (zG (zK (zJ wY (zJ zX (zJ zZ (pv 0) zF) zF) zF))) zL)
  (zE (zS (zW xC (zJ zX (pv 0) zF) zF (zR _)) (zG (zK (zJ wY (zJ zX (zJ kU (pv 0) zF) (zJ yK (zJ qX zF (zJ kU zF zF)) zF)) (zJ kU zF zF)))) zL)
  (zG (zK (yR ix_list (yG (zA (zJ kU zF zF) (zA (qE wQ (zJ kU zF zF)) (zA (zJ wY (zJ kU zF zF) zF) (zA zF (zA zF (zA (qE wQ zF) (zA (zJ kU zF zF) (zA zF zD))))))))) (zJ zX (zJ zZ (pv 0) zF) zF) (fun _ _=>rfl)))))), ?_⟩
 walk_at "st";walk_at "rd3";unfold zNs at q;split
 ·rename_i hc
  rw[mK hc] at q;exact q _ (Same.refl H)
 ·rename_i hc
  rw[mG hc] at q;split
  ·rename_i hd
   rw[mK hd] at q;exact⟨by lia,q _ (Same.refl H)⟩
  ·rename_i hd
   rw[mG hd] at q;intro p hp;refine yP (SqL.of zB) (qN (d:=.int 0) (by lia) (by simp only[nG,pF];lia)) ?_;have e:([V.int 1000000000000,V.int (-1000000000000),V.int 999999999999,V.int 0,V.int 1,V.int (-1),V.int 100000000000,V.int 999]:List V).getD (m / 3 % 8).toNat (.int 0)= .int (([1000000000000,-1000000000000,999999999999,0,1,-1,100000000000,999]:List Int).getD (m / 3 % 8).toNat 0):=by
    rcases(by lia:m / 3 % 8=0∨m / 3 % 8=1∨m / 3 % 8=2∨m / 3 % 8=3∨m / 3 % 8=4∨m / 3 % 8=5∨m / 3 % 8=6∨m / 3 % 8=7) with e | e | e | e | e | e | e | e<;>rw[e]<;>rfl
   rw[e];exact q _ (zC hp _)
abbrev zEv:Stmt:=top 57
def zAa:Sp:=fun vs H Q _=>∃(m:Int),vs= [.int m]∧0≤m∧m<2000000∧∀H',Same H H'→Q (.str (tx (jT m))) H'
theorem scName:zV ["_law_more","_law_letters","_law_size","_law_at","_law_word_here","_law_rest"] ["_law_more"] (zH zEv):=by walk_at "sc"
theorem zXd(F:Fun K "_law_name_by" "_law_name_by" zEv f fd)(B:Bl mg):FnOk P w K mg base CX0 1 f fd ["_law_more"] zAa:=by
 refine F.ok scName (by walk_at "ln") fun c A o s H vs Q E hr h=>?_;obtain⟨m,rfl,h0,h1,q⟩:=h;have nd:=scName.nd;refine⟨_,(zE (zBd (i:=1) nd rfl (cM rfl) zY)
  (zE (pS 2 nd (yR ix_list (yG (zA zF (zA (zJ yK zF (zJ zX (zJ zZ (pv 0) zF) zF)) (zA (zJ yK zF (zJ zX (zJ zZ (pv 0) zF) zF)) zD)))) (zJ zX (pv 0) zF) (fun _ _=>rfl)))
  (zE (zS (zW xC (zJ zX (zJ zZ (pv 0) zF) zF) zF (zR _)) (zE (pS 3 nd (zJ zX (zJ zZ (pv 0) zF) (pv 2)))
  (zE (pS 4 nd (zJ vC (zJ vC (zJ qZ zY (pv 3)) (yR gJ (pv 1) (zJ zX (zJ zZ (pv 0) zF) zF) (fun _ _=>rfl))) (zJ qZ zY (zJ wY (zJ wY (pv 2) (pv 3)) zF))))
  (zG (zK (pv 4))))) zL)
  (zE (pS 5 nd (uO PySem.F.plainAttrs_str PySem.F.slot_str_join PySem.F.type_str_join zLu zY (zA (xE (own:=["_law_j"]) (F:=[("_law_letters",1),("_law_more",0)]) ⟨rfl,by walk_at "wu",by walk_at "wu",by walk_at "wu",(.cons rfl rfl rfl (.cons rfl rfl rfl .nil))⟩ rfl (xR rfl B.range (zA (zJ wY (pv 2) zF) zD)) (fun _ _ _ _=>yB (i:=0) (by show(xS ["_law_j"] [("_law_letters",1),("_law_more",0)]).Nodup;decide+kernel) rfl (nR rfl)) (fun _ _ _ _=>yW) (fun _ _ _ _=>(yR gJ (pv 1) (zJ zX (zJ yK (zJ zZ (pv 2) zF) (zJ qX (pv 0) (zJ yK zF (zJ zX (zJ zZ (pv 2) zF) zF)))) zF) (fun _ _=>rfl)))) zD)))
  (zG (zK (zJ vC (yR gJ (pv 1) (zJ zX (zJ zZ (pv 0) zF) zF) (fun _ _=>rfl)) (pv 5)))))))), ?_⟩
 walk_at "st";walk_at "rd3";intro p hp;obtain⟨n1,n12⟩:=zMl m;refine yP (SqL.of zB) (zUq m) ?_;simp only[ts_a,zCo,zSw];unfold jT at q;generalize zBs m=n at*;split
 ·rename_i hc
  rw[mK hc] at q;have a0:=aU (m / 72) (show n≠0 by lia);have a1:=tO (m / 72) (show 0<n by lia);refine⟨n,rfl,by lia,by decide,by lia,by lia,uV (by decide) (by rw[zGg];exact zHg (by lia) (by lia)) ⟨_,rfl, ?_,n,rfl,by decide,by lia,by lia, ?_, ?_⟩⟩
  ·rw[wN,wN];simp only[nQ,nL];lia
  ·rw[uX,wN,wN];simp only[mL,nQ,nL];lia
  ·rw[uX,uX]
   exact q _ (zC hp _)
 ·rename_i hc
  rw[mG hc] at q;refine⟨rfl,n,rfl,by lia,by lia,wS (fun i ys H'=>Same (upd H p (.lst [V.int 1,V.int (1+m / 3 % 4),V.int (1+m / 3 % 12)])) H'∧ys=((zCv m i).map fun c=>tx [c]).map V.str) (by rw[mR];lia) ⟨Same.refl _,rfl⟩ ?_ ?_⟩
  ·rintro i ys H' hi _ ⟨hs,rfl⟩
   walk_at "rd3";refine⟨.inl (by lia),uV (by decide) (by rw[zGg];exact zHg (by lia) (by lia)) ⟨hs, ?_⟩⟩;unfold zCv;rw[zAb];simp
  ·rintro ys H' hl ⟨hs,rfl⟩ p' hp'
   have hrl:(zCv m (n - 1).toNat).length=(n - 1).toNat:=by simp[zCv]
   refine⟨p',(zCv m (n - 1).toNat).map fun c=>tx [c],rfl,rfl,SqL.of zB,by rw[gW];lia,uV (by decide) (by rw[zGg];exact zHg (by lia) (by lia)) ⟨_,rfl,_,rfl, ?_, ?_⟩⟩
   ·rw[gW,wN,wN,nL];lia
   ·rw[gW,uX]
    exact q _ ((zC hp _).trans (hs.trans (zC hp' _)))
abbrev zBv:Stmt:=top 58
abbrev zFh:Stmt:=top 59
def zHs:Sp:=fun vs H Q _=>vs= []∧Q (.str (tx sgnL)) H
theorem scSigns:zV ["_law_some"] [] (zH zBv):=by walk_at "sc"
theorem zTm(F:Fun K "_law_signs" "_law_signs" zBv f fd):FnOk P w K mg base CX0 1 f fd [] zHs:=by
 refine F.ok scSigns (by walk_at "ln") fun c A o s H vs Q E hr h=>?_;obtain⟨rfl,q⟩:=h;have nd:=scSigns.nd;refine⟨_,(zE (pS 0 nd zY)
  (zG (zK (zJ vC (pv 0) zY)))), ?_⟩
 walk_at "st";walk_at "rd3";refine⟨by decide, ?_⟩;rw[yBf];exact q
def zCy:Sp:=fun vs H Q _=>∃(m:Int),vs= [.int m]∧0≤m∧m<2000000∧∀H',Same H H'→Q (.str (tx (zJj m))) H'
theorem scText:zV ["_law_more","_law_signs_here","_law_size"] ["_law_more"] (zH zFh):=by walk_at "sc"
theorem zUc(F:Fun K "_law_text_by" "_law_text_by" zFh f fd)(B:Bl mg)(G_law_signs:Dn P w K mg base 1 "_law_signs" [] zHs):FnOk P w K mg base CX0 2 f fd ["_law_more"] zCy:=by
 refine F.ok scText (by walk_at "ln") fun c A o s H vs Q E hr h=>?_;obtain⟨m,rfl,h0,h1,q⟩:=h;have nd:=scText.nd;refine⟨_,(zE (zBd (i:=1) nd rfl (cM rfl) (zZo G_law_signs hr (by lia) rfl))
  (zE (pS 2 nd (yR ix_list (yG (zA (zJ zX (zJ zZ (pv 0) zF) zF) (zA (zJ zX (zJ zZ (pv 0) zF) zF) (zA (zJ zX (zJ zZ (pv 0) zF) zF) zD)))) (zJ zX (pv 0) zF) (fun _ _=>rfl)))
  (zE (zS (zW xC (zJ zX (zJ zZ (pv 0) zF) zF) zF (zR _)) (zG (zK (zJ vC (zJ qZ zY (zJ zZ (pv 2) zF)) (zJ qZ (yR gJ (pv 1) (zJ zX (zJ zZ (pv 0) zF) zF) (fun _ _=>rfl)) (zJ wY (pv 2) (zJ zZ (pv 2) zF)))))) zL)
  (zG (zK (uO PySem.F.plainAttrs_str PySem.F.slot_str_join PySem.F.type_str_join zLu zY (zA (xE (own:=["_law_j"]) (F:=[("_law_signs_here",1),("_law_more",0)]) ⟨rfl,by walk_at "wu",by walk_at "wu",by walk_at "wu",(.cons rfl rfl rfl (.cons rfl rfl rfl .nil))⟩ rfl (xR rfl B.range (zA (pv 2) zD)) (fun _ _ _ _=>yB (i:=0) (by show(xS ["_law_j"] [("_law_signs_here",1),("_law_more",0)]).Nodup;decide+kernel) rfl (nR rfl)) (fun _ _ _ _=>yW) (fun _ _ _ _=>(yR gJ (pv 1) (zJ zX (zJ yK (zJ zZ (pv 2) zF) (zJ qX (pv 0) (zJ yK zF (zJ zX (zJ zZ (pv 2) zF) zF)))) zF) (fun _ _=>rfl)))) zD))))))), ?_⟩
 walk_at "st";walk_at "rd3";refine⟨rfl,fun p hp=>?_⟩;obtain⟨n0,n30⟩:=zMt m;refine yP (SqL.of zB) (zUi m) ?_;simp only[ts_q,zCo,zSw];unfold zJj at q;generalize zEc m=n at*;split
 ·rename_i hc
  rw[mK hc] at q;refine⟨n,rfl,by decide,by lia,by lia,uV (by decide) (zSr (by lia) (by lia)) ⟨n,rfl,n,rfl,_,rfl,(show(1:Nat)≤1000 by decide),by lia,by lia, ?_, ?_⟩⟩
  ·rw[vE,zCo,wN,wN];simp only[nQ];lia
  ·rw[vE,zCo,uX]
   exact q _ (zC hp _)
 ·rename_i hc
  rw[mG hc] at q;refine⟨rfl,n,rfl,by lia,by lia,wS (fun i ys H'=>Same (upd H p (.lst [V.int (m / 5 % 4),V.int (m / 5 % 9),V.int (m / 5 % 31)])) H'∧ys=((zKr m i).map fun c=>tx [c]).map V.str) (by rw[mR];lia) ⟨Same.refl _,rfl⟩ ?_ ?_⟩
  ·rintro i ys H' hi _ ⟨hs,rfl⟩
   walk_at "rd3";refine⟨.inl (by lia),uV (by decide) (zSr (by lia) (by lia)) ⟨hs, ?_⟩⟩;unfold zKr;rw[zAb];simp
  ·rintro ys H' hl ⟨hs,rfl⟩ p' hp'
   have hrl:(zKr m n.toNat).length=n.toNat:=by simp[zKr]
   refine⟨p',(zKr m n.toNat).map fun c=>tx [c],rfl,rfl,SqL.of zB,by rw[gW];lia, ?_⟩;rw[gW];exact q _ ((zC hp _).trans (hs.trans (zC hp' _)))
abbrev kX:Stmt:=top 61
def uC(K:W.Frag)(d:Nat):Sp:=fun vs H Q _=>∃(a:Addr)(ns:List Int)(k:Int),vs= [.ref a, .int k, .int d]∧SqL K H a (ns.map V.int)∧ns.length≤63∧0≤k∧(k+2)*5 ^ d≤1000000∧
 ∀v H',Same H H'→Rep H' v (thT ns d k)→Q v H'
theorem scThing:zV ["_law_script","_law_k","_law_deep_here","_law_more","_law_kind","_law_some","_law_found","_law_j"] ["_law_script","_law_k","_law_deep_here"] (zH kX):=by walk_at "sc"
def DInv(nm:Nat→List Nat)(us:List T)(Hl:Hp)(p2:Addr)(i:Nat)(H2:Hp):Prop:=∃(ps:List (Key×V)),H2 p2=some (.dK ps)∧ps.map (·.1)=(zAe nm us i).1.map nK∧Reps Hl (ps.map (·.2)) (zAe nm us i).2
theorem pow5(e:Nat):(1:Int)≤5 ^ e:=by
 induction e with
 | zero=>decide
 | succ n ih=>rw[Int.pow_succ];lia
theorem zNq(F:Fun K "_law_thing_by" "_law_thing_by" kX f fd)(B:Bl mg)(G_law_cell:Dn P w K mg base 1 "_law_cell" ["_law_script","_law_k"] (vY K))(G_law_number_by:Dn P w K mg base 1 "_law_number_by" ["_law_more"] zIo)
  (G_law_text_by:Dn P w K mg base 2 "_law_text_by" ["_law_more"] zCy):FnOk P w K mg base CX0 3 f fd ["_law_script","_law_k","_law_deep_here"] (uC K 0):=by
 refine F.ok scThing (by walk_at "ln") fun c A o s H vs Q E hr h=>?_;obtain⟨a,ns,k,rfl,hS,h63,h0,h1,q⟩:=h;have nd:=scThing.nd;refine⟨_,(zE (pS 3 nd (zU G_law_cell hr (by lia) rfl (zA (pv 0) (zA (pv 1) zD))))
  (zE (pS 4 nd (zJ zX (pv 3) (yR ix_list (yG (zA zF (zA zF zD))) (yN uE rfl B.int gM (zA (yZ zIb (pv 2) zF (zR _)) zD)) (fun _ _=>rfl))))
  (zE (zS (zW xC (pv 4) zF (zR _)) (zG (zK (yR ix_list (yG (zA qV (zA vO (zA vO zD)))) (zJ zX (zJ zZ (pv 3) zF) zF) (fun _ _=>rfl)))) zL)
  (zE (zS (zW zBx (pv 4) zF (zR _)) (zG (zK (zU G_law_number_by hr (by lia) rfl (zA (zJ zZ (pv 3) zF) zD)))) zL)
  (zE (zS (zW zBx (pv 4) zF (zR _)) (zG (zK (zU G_law_text_by hr (by lia) rfl (zA (zJ zZ (pv 3) zF) zD)))) zL)
  zNm))))), ?_⟩
 walk_at "st";walk_at "rd3";refine xT hS h63 h0 (by lia) fun H1 g1 p hp=>yP (SqL.of zB) (v:=.int 5) rfl ⟨_,rfl,5,rfl,by decide, ?_⟩;have c0:=vN ns k;have c1:=qP ns k;have gp:=g1.trans (zC hp (.lst [V.int 5,V.int 9]));split
 ·intro p2 hp2
  refine⟨_,rfl, ?_⟩;rename_i hc;obtain⟨v,hv,hr'⟩:=zIf (H:=upd (upd H1 p (.lst [V.int 5,V.int 9])) p2 (.lst [V.non,V.bl true,V.bl false])) (yQ ns k);refine yP (SqL.of zB) hv (q _ _ (gp.trans (zC hp2 _)) ?_);show Rep _ v (jX (yQ ns k) (yQ ns k % 5));rw[hc];exact hr'
 ·split
  ·rename_i n0 hc
   refine⟨_,rfl,_,rfl,by lia,by lia,fun H2 g2=>q _ _ (gp.trans g2) ?_⟩;show Rep _ _ (jX (yQ ns k) (yQ ns k % 5));unfold jX;rw[mG n0,mK hc];rfl
  ·rename_i n0 n1
   rw[mK (by lia)];refine⟨_,rfl,_,rfl,by lia,by lia,fun H2 g2=>q _ _ (gp.trans g2) ?_⟩;show Rep _ _ (jX (yQ ns k) (yQ ns k % 5));unfold jX;rw[mG n0,mG n1];rfl
theorem zNl{e:Nat}(F:Fun K "_law_thing_by" "_law_thing_by" kX f fd)(B:Bl mg)(G_law_cell:Dn P w K mg base 1 "_law_cell" ["_law_script","_law_k"] (vY K))(G_law_number_by:Dn P w K mg base 1 "_law_number_by" ["_law_more"] zIo)
  (G_law_text_by:Dn P w K mg base 2 "_law_text_by" ["_law_more"] zCy) (G_law_name_by:Dn P w K mg base 1 "_law_name_by" ["_law_more"] zAa)
  (G_law_thing_by:Dn P w K mg base (3+e) "_law_thing_by" ["_law_script","_law_k","_law_deep_here"] (uC K e)):FnOk P w K mg base CX0 (3+e+1) f fd ["_law_script","_law_k","_law_deep_here"] (uC K (e+1)):=by
 refine F.ok scThing (by walk_at "ln") fun c A o s H vs Q E hr h=>?_;obtain⟨a,ns,k,rfl,hS,h63,h0,h1,q⟩:=h;have nd:=scThing.nd;have hu:=vK hr;refine⟨_,(zE (pS 3 nd (zU G_law_cell hr (by lia) rfl (zA (pv 0) (zA (pv 1) zD))))
  (zE (pS 4 nd (zJ zX (pv 3) (yR ix_list (yG (zA zF (zA zF zD))) (yN uE rfl B.int gM (zA (yZ zIb (pv 2) zF (zR _)) zD)) (fun _ _=>rfl))))
  (zE (zS (zW xC (pv 4) zF (zR _)) (zG (zK (yR ix_list (yG (zA qV (zA vO (zA vO zD)))) (zJ zX (zJ zZ (pv 3) zF) zF) (fun _ _=>rfl)))) zL)
  (zE (zS (zW zBx (pv 4) zF (zR _)) (zG (zK (zU G_law_number_by hr (by lia) rfl (zA (zJ zZ (pv 3) zF) zD)))) zL)
  (zE (zS (zW zBx (pv 4) zF (zR _)) (zG (zK (zU G_law_text_by hr (by lia) rfl (zA (zJ zZ (pv 3) zF) zD)))) zL)
  (zE (zCj (i:=5) nd rfl (nR rfl) (own:=["_law_j"]) (F:=[("_law_script",0),("_law_k",1),("_law_deep_here",2)]) ⟨rfl,by walk_at "wu",by walk_at "wu",by walk_at "wu",(.cons rfl rfl rfl (.cons rfl rfl rfl (.cons rfl rfl rfl .nil)))⟩ rfl (xR rfl B.range (zA (zJ zX (zJ zZ (pv 3) zF) zF) zD)) (fun _ _ _ _=>yB (i:=0) (by show(xS ["_law_j"] [("_law_script",0),("_law_k",1),("_law_deep_here",2)]).Nodup;decide+kernel) rfl (nR rfl)) (fun _ _ _ _=>yW) (fun _ _ _ _=>(zU G_law_thing_by hr (by lia) rfl (zA (pv 1) (zA (zJ yK (zJ yK (zJ qX (pv 2) zF) zF) (pv 0)) (zA (zJ wY (pv 3) zF) zD))))))
  (zE (zS (zW zBx (pv 4) zF (zR _)) (zG (zK (pv 5))) zL)
  (zE (pS 6 nd zDt)
  (zE (vZ PassesOwn.never rfl (xR rfl B.range (zA (zN yL rfl B.len xH (zA (pv 5) zD)) zD)) (yB (i:=7) nd rfl (nR rfl)) (zG (kG hu (pv 6) (zU G_law_name_by hr (by lia) rfl (zA (zJ yK (zJ zZ (zU G_law_cell hr (by lia) rfl (zA (pv 0) (zA (zJ yK (zJ yK (zJ qX (pv 1) zF) zF) (pv 7)) zD))) zF) (pv 7)) zD)) (yR ix_list (pv 5) (pv 7) (fun _ _=>rfl)) rfl)))
  (zG (zK (pv 6)))))))))))), ?_⟩
 walk_at "st";walk_at "rd3";have hpow:(1:Int)≤5 ^ e:=pow5 e;have hpow2:(5:Int)^ (e+1)=5 ^ e*5:=Int.pow_succ ..;have h2:(k+2)*5*5 ^ e≤1000000:=by rw[Int.mul_assoc,Int.mul_comm 5 (5 ^ e),←hpow2];exact h1
 have h3:(k+2)*5≤1000000:=by
  have:(k+2)*5*1≤(k+2)*5*5 ^ e:=bB hpow (by lia)
  lia
 refine xT hS h63 h0 (by lia) fun H1 g1 p hp=>yP (SqL.of zB) (v:=.int 9) ?_ ⟨_,rfl,9,rfl,by decide, ?_⟩
 ·rw[mK (by lia)];rfl
 have c0:=vN ns k;have c1:=qP ns k;have gp:=g1.trans (zC hp (.lst [V.int 5,V.int 9]));split
 ·intro p2 hp2
  refine⟨_,rfl, ?_⟩;rename_i hc;obtain⟨v,hv,hr'⟩:=zIf (H:=upd (upd H1 p (.lst [V.int 5,V.int 9])) p2 (.lst [V.non,V.bl true,V.bl false])) (yQ ns k);refine yP (SqL.of zB) hv (q _ _ (gp.trans (zC hp2 _)) ?_);unfold thT;rw[mK (by lia),hc];exact hr'
 ·split
  ·rename_i n0 hc
   refine⟨_,rfl,_,rfl,by lia,by lia,fun H2 g2=>q _ _ (gp.trans g2) ?_⟩;unfold thT jX;rw[mK (by lia),mG n0,mK hc];rfl
  ·split
   ·rename_i n0 n1 hc
    refine⟨_,rfl,_,rfl,by lia,by lia,fun H2 g2=>q _ _ (gp.trans g2) ?_⟩;unfold thT jX;rw[mK hc,mG n0,mG n1];rfl
   ·rename_i n0 n1 n5
    unfold thT at q;rw[mG n5] at q;have hnn:(yQ ns k / 9 % 5).toNat≤4:=by lia
    refine⟨_,rfl,by lia,by lia,wS (fun i ys H'=>Same (upd H1 p (.lst [V.int 5,V.int 9])) H'∧Reps H' ys ((List.range i).map fun(j:Nat)=>thT ns e (k*5+1+(0+(j:Int))))) (by rw[mR];lia) ⟨Same.refl _,rfl⟩ ?_ ?_⟩
    ·rintro i ys H' hi _ ⟨hs,hR⟩
     walk_at "rd3";refine⟨a,ns,k*5+1+(0+(i:Int)), ?_,hs.seq (gp.seq hS),h63,by lia, ?_,fun v H2 g2 hv=>⟨hs.trans g2, ?_⟩⟩
     ·rw[show((e+1:Nat):Int)- 1=(e:Int) by lia]
     ·have:(k*5+1+(0+(i:Int))+2)*5 ^ e≤(k+2)*5*5 ^ e:=cP (by lia) (by lia)
      lia
     ·rw[zAb]
      exact Reps.snoc hv (Reps.same g2 _ _ hR)
    ·rintro ys H' hl ⟨hs,hR⟩ p' hp'
     have gl:=gp.trans (hs.trans (zC hp' (.lst ys)));have hR':Reps (upd H' p' (.lst ys)) ys _:=Reps.same (zC hp' _) _ _ hR;have hlen:ys.length=(yQ ns k / 9 % 5).toNat:=by rw[hR.length];simp
     generalize hus:((List.range (yQ ns k / 9 % 5).toNat).map fun(j:Nat)=>thT ns e (k*5+1+(0+(j:Int))))=us at*;have hul:us.length=(yQ ns k / 9 % 5).toNat:=by rw[←hus];simp
     by_cases h7:yQ ns k % 9<7
     ·rw[mK h7]
      rw[mK h7] at q;exact q _ _ gl ⟨p',ys,rfl,zB,hR'⟩
     rw[mG h7];rw[mG h7] at q;intro p2 hp2;have gd:=zC hp2 (.dK []);have hSl:SqL K (upd (upd H' p' (.lst ys)) p2 (.dK [])) p' ys:=SqL.of (gd _ _ zB);refine⟨p',rfl,ys,hSl,by lia,by lia, ?_⟩;rw[rZ];refine zAt (fun i σ H2=>(∃o,σ= [some (V.ref a),some (V.int k),some (V.int ((e+1:Nat):Int)),some (V.int (yQ ns k)),some (V.int (yQ ns k % 9)),some (V.ref p'),some (V.ref p2),o])∧Same (upd H' p' (.lst ys)) H2∧DInv (zDh ns k) us (upd H' p' (.lst ys)) p2 i H2) ⟨⟨_,rfl⟩,gd,[],zB,rfl,rfl⟩ ?_ ?_
     ·rintro i σ H2 hi ⟨⟨o,rfl⟩,g2,ps,hd,hk,hU⟩
      walk_at "rd3";obtain⟨v,hv⟩:∃v,ys[i]? =some v:=⟨ys[i],by simp[hi]⟩;obtain⟨t,ht,hvt⟩:=hR'.get hv;have hut:us.getD i .non=t:=by rw[nI,ht];rfl
      refine yP (SqL.of (g2 _ _ zB)) (by rw[bW];exact xI hv) (xT (g2.seq (gl.seq hS)) h63 (by lia) (by lia) fun H3 g3=>?_);have c0':=vN ns (k*5+1+(0+(i:Int)));have c1':=qP ns (k*5+1+(0+(i:Int)));refine⟨_,rfl,_,rfl,by lia,by lia,fun H4 g4=>⟨_,DPut.k (k:=nK (zDh ns k i)) (g4 _ _ (g3 _ _ hd)) ?_,⟨_,rfl⟩, ?_, ?_⟩⟩
      ·have l1:=congrArg List.length hk
       have l2:=(zHo (zDh ns k) us (fun j=>jZ _) i (by lia)).2.2.2.2;simp only[mI] at l1;rw[mR];lia
      ·intro b o' hb
       have hne:b≠p2:=fun z=>by rw[z,hp2] at hb;cases hb
       rw[zO hne];exact g4 _ _ (g3 _ _ (g2 _ _ hb))
      ·obtain⟨e1,e2⟩:=zAu (n:=zDh ns k i) hk hU hvt
       refine⟨_,zB, ?_, ?_⟩
       ·show _=(xO (zAe (zDh ns k) us i) (zDh ns k i) (us.getD i .non)).1.map nK
        rw[hut];exact e1
       ·show Reps _ _ (xO (zAe (zDh ns k) us i) (zDh ns k i) (us.getD i .non)).2
        rw[hut];exact e2
     ·rintro σ H2 ⟨⟨o,rfl⟩,g2,ps,hd,hk,hU⟩
      walk_at "rd3";rw[hlen] at hk hU;exact q _ _ (gl.trans g2) ⟨p2,ps,rfl,hd,hk,Reps.same g2 _ _ hU⟩
abbrev sCp:Stmt:=top 17
def zOx(n:Nat):Sp:=fun vs H Q _=>∃(v:V)(t:T),vs= [v]∧Rep H v t∧T.pure t∧T.dep t<n∧T.sz t≤100000∧∀v' H' D,Same H H'→Sp1 H' v' t D→(∀b∈D,H b=none)→Q v' H'
theorem scCp:zV ["thing"] ["thing"] (zH sCp):=by walk_at "sc"
theorem yCa{n:Nat}(F:Fun K "copied" "copied" sCp f fd)(B:Bl mg)(Gcopied:Dn P w K mg base (1+n) "copied" ["thing"] (zOx n)):FnOk P w K mg base CX0 (1+n+1) f fd ["thing"] (zOx (n+1)):=by
 refine F.ok scCp (by walk_at "ln") fun c A o s H vs Q E hr h=>?_;obtain⟨v,t,rfl,hv,hp,hd,hz,q⟩:=h;have nd:=scCp.nd;have hu:=vK hr;refine⟨_,(zE (zS (yA (pI B.isinstance zI B.list yS (pv 0))) (zG (zK (xE (own:=["part"]) (F:=[]) ⟨rfl,by walk_at "wu",by walk_at "wu",by walk_at "wu", .nil⟩ rfl (wJ (pv 0)) (fun _ _ _ _=>yB (i:=0) (by show(xS ["part"] []).Nodup;decide+kernel) rfl (nR rfl)) (fun _ _ _ _=>yW) (fun _ _ _ _=>(zU Gcopied hr (by lia) rfl (zA (pv 0) zD)))))) zL)
  (zE (zS (yA (pI B.isinstance zI B.dict yX (pv 0))) (zG (zK (yN (jH rfl) rfl B.dict yX (zA (uL (xE (own:=["name","part"]) (F:=[]) ⟨rfl,by walk_at "wu",by walk_at "wu",by walk_at "wu", .nil⟩ rfl (zTe (zHt sZ PySem.F.slot_dict_items PySem.F.type_dict_items zQs (pv 0))) (fun _ _ _ _=>zVx (K:=K) (n:=2) rfl rfl (jR (yB (i:=0) (by show(xS ["name","part"] []).Nodup;decide+kernel) rfl (nR rfl)) (jR (yB (i:=1) (by show(xS ["name","part"] []).Nodup;decide+kernel) rfl (nR rfl)) zGw))) (fun _ _ _ _=>yW) (fun _ _ _ _=>(xJ (zA (pv 0) (zA (zU Gcopied hr (by lia) rfl (zA (pv 1) zD)) zD)))))) zD)))) zL)
  (zE (zS (yA (pI B.isinstance zI B.tuple wU (pv 0))) (zG (zK (yN uQ rfl B.tuple wU (zA (xE (own:=["part"]) (F:=[]) ⟨rfl,by walk_at "wu",by walk_at "wu",by walk_at "wu", .nil⟩ rfl (zTs (pv 0)) (fun _ _ _ _=>yB (i:=0) (by show(xS ["part"] []).Nodup;decide+kernel) rfl (nR rfl)) (fun _ _ _ _=>yW) (fun _ _ _ _=>(zU Gcopied hr (by lia) rfl (zA (pv 0) zD)))) zD)))) zL)
  (zG (zK (pv 0)))))), ?_⟩
 walk_at "st";walk_at "rd3"
 cases t with
 | lst us=>
  obtain⟨a,xs,rfl,ha,hs⟩:=hv;have hl0:=T.szs_len us;have hz':T.szs us+1≤100000:=hz;have hd':T.deps us+1<n+1:=hd;refine⟨"list",wI ha, ?_⟩;rw[mK (by decide)];refine⟨a,rfl,⟨xs,SqL.of ha⟩,vF (K:=K) (xs:=xs) (fun i ys H'=>Same H H'∧∃D,Sps H' ys (us.take i) D∧∀b∈D,H b=none) ?_ ⟨Same.refl _,[],⟨rfl,rfl⟩,fun _ h=>(nomatch h)⟩ (fun i ys H' _ h=>SqL.of (h.1 _ _ ha)) ?_ ?_⟩
  ·have:=hs.length
   rw[mR];lia
  ·rintro i u ys H' hu' _ ⟨g,D,hR,hD⟩
   obtain⟨t',ht',hr'⟩:=hs.get hu';have hm:=mP ht';have d1:=T.deps_le hm;have d2:=T.szs_le hm;walk_at "rd3";refine⟨u,t',rfl,Rep.same g u t' hr',T.pures_mem hp hm,by lia,by lia,fun v' H4 D1 g4 hv' hD1=>⟨g.trans g4,D++D1, ?_,fun b hb=>?_⟩⟩
   ·rw[yE ht']
    refine Sps.snoc hv' (hR.same g4) fun b hb z=>?_;obtain⟨o,ho⟩:=Sps.there _ _ _ hR hb;rw[hD1 b z] at ho;cases ho
   ·rcases mT.mp hb with z | z
    ·exact hD b z
    ·exact zT g (hD1 b z)
  ·rintro ys H' _ ⟨g,D,hR,hD⟩ p hp'
   rw[hs.length,nX] at hR;have hpD:p∉D:=fun z=>by
    obtain⟨o,ho⟩:=Sps.there _ _ _ hR z;rw[hp'] at ho;cases ho
   refine q (.ref p) _ (p::D) (g.trans (zC hp' _)) ⟨p,ys,D,rfl,zB,rfl,hpD,hR.same (zC hp' _)⟩ fun b hb=>?_;rcases mF.mp hb with z | z
   ·rw[z];exact zT g hp'
   ·exact hD b z
 | dic ks us=>
  obtain⟨d,ps,rfl,hdd,hk,hs⟩:=hv;obtain⟨nk,hp⟩:=hp;have hl0:=T.szs_len us;have hz':T.szs us+1≤100000:=hz;have hd':T.deps us+1<n+1:=hd;have hpl:ps.length=us.length:=by have:=hs.length;rwa [mI] at this
  have nkp:(ps.map (·.1)).Nodup:=by rw[hk];exact wL nk
  refine⟨"dict",wK hdd, ?_⟩;rw[mG (by decide)];refine⟨"dict",wK hdd, ?_⟩;rw[mK (by decide)];refine⟨.ref d,rfl, .inr (.inr (.inl ⟨rfl, .inl ⟨ps,hdd⟩⟩)),d,ps,rfl,rfl, .inl hdd,fun pv hpv=>?_⟩;have s1:=zC hpv (zEf pv d);have hd1:=s1 _ _ hdd;refine⟨pv,d,ps,rfl,zB, .inl ⟨hd1,fun o=>?_⟩⟩;have gf:Same (upd H d (.frz o (.dK ps))) (upd (upd H pv (zEf pv d)) d (.frz o (.dK ps))):=fun b u e=>by
   by_cases hb:b=d
   ·subst hb;rw[zB] at e⊢;exact e
   ·rw[zO hb] at e⊢
    exact s1 _ _ e
  have gH:∀b,upd (upd H pv (zEf pv d)) d (.frz o (.dK ps)) b=none→H b=none:=fun b e=>by
   by_cases hb:b=d
   ·subst hb;rw[zB] at e;cases e
   ·rw[zO hb] at e
    exact zT s1 e
  have hsf:Reps (upd (upd H pv (zEf pv d)) d (.frz o (.dK ps))) (ps.map (·.2)) us:=Reps.dic_away hd1 hk (Reps.same s1 _ _ hs);have hdf:upd (upd H pv (zEf pv d)) d (.frz o (.dK ps)) d=some (.frz o (.dK ps)):=zB;generalize upd (upd H pv (zEf pv d)) d (.frz o (.dK ps))=Hf at gf gH hsf hdf⊢;refine zLl (K:=K) (fun i ys H'=>Same Hf H'∧∃(kvs:List (Key×V))(D:List Addr),kvs.length=ys.length∧kvs.map (·.1)=(ps.take i).map (·.1)∧Sps H' (kvs.map (·.2)) (us.take i) D∧(∀b∈D,H b=none)∧∀(j:Nat) kv,kvs[j]? =some kv→∃a,ys[j]? =some (.ref a)∧H' a=some (.tup [kV kv.1,kv.2])) ?_ ⟨Same.refl _,[],[],rfl,rfl,⟨rfl,rfl⟩,fun _ h=>(nomatch h),by intro j kv h;simp at h⟩ (fun i ys H' h=>h.1 _ _ hdf) ?_ ?_
  ·rw[mR];lia
  ·rintro i kv ys H' pt hkv _ ⟨g,kvs,D,l1,l2,hR,hD,ht⟩ hpt
   have s2:=zC hpt (.tup [kV kv.1,kv.2]);have g2:=g.trans s2;walk_at "rd3";obtain⟨t',ht',hr'⟩:=hsf.get (i:=i) (v:=kv.2) (by rw[nD,hkv];rfl);have hm:=mP ht';have d1:=T.deps_le hm;have d2:=T.szs_le hm;refine⟨kv.2,t',rfl,Rep.same g2 _ t' hr',T.pures_mem hp hm,by lia,by lia,fun v' H1 D1 g1 hv' hD1 p hp1=>⟨(g2.trans g1).trans (zC hp1 _),kvs++ [(kv.1,v')],by simp[l1], ?_,D++D1, ?_,fun b hb=>?_, ?_⟩⟩
   ·rw[yE hkv,mX,mX,l2];rfl
   ·rw[yE ht',mX]
    refine Sps.snoc (hv'.same (zC hp1 _)) (hR.same (s2.trans (g1.trans (zC hp1 _)))) fun b hb z=>?_;obtain⟨ob,ho⟩:=Sps.there _ _ _ (hR.same s2) hb;rw[hD1 b z] at ho;cases ho
   ·rcases mT.mp hb with z | z
    ·exact hD b z
    ·exact gH b (zT g2 (hD1 b z))
   ·intro j kv1 hj
    by_cases hlt:j<kvs.length
    ·rw[nV hlt] at hj
     obtain⟨a,e1,e2⟩:=ht j kv1 hj;exact⟨a,by rw[nV (by lia)];exact e1,zC hp1 _ _ _ (g1 _ _ (s2 _ _ e2))⟩
    ·rw[nU (by lia)] at hj
     have hj0:j - kvs.length=0:=by
      have:=(mQ.mp hj).1
      simpa using this
     rw[hj0] at hj;simp only[pP,Option.some.injEq] at hj;subst hj;exact⟨p,by rw[nU (by lia),←l1,hj0];rfl,zB⟩
  ·rintro ys H' _ ⟨g,kvs,D,l1,l2,hR,hD,ht⟩ p hp'
   rw[hpl,nX] at hR;rw[nX] at l2;have gs:Same H (thaw H (upd H' p (.lst ys))):=qK (o:=o) hdd (gf.trans (g.trans (zC hp' _)));have hR2:Sps (thaw H (upd H' p (.lst ys))) (kvs.map (·.2)) us D:=(hR.same (zC hp' _)).thaw;refine⟨p,rfl,ys,wC zB (by intro o v z;cases z),kvs,l1,fun j kv hj=>?_,fun l hl=>?_⟩
   ·obtain⟨a,e1,e2⟩:=ht j kv hj
    exact⟨a,e1,wC (zC hp' _ _ _ e2) (by intro o v z;cases z)⟩
   ·have em:wZ [] kvs=kvs:=vL kvs [] (by rw[tS,l2];exact nkp)
    rw[em];have hlD:l∉D:=fun z=>by
     obtain⟨ob,ho⟩:=Sps.there _ _ _ hR2 z;rw[hl] at ho;cases ho
    refine q (.ref l) _ (l::D) (gs.trans (zC hl _)) ⟨l,kvs,D,rfl,zB,l2.trans hk,rfl,hlD,hR2.same (zC hl _)⟩ fun b hb=>?_;rcases mF.mp hb with z | z
    ·rw[z];exact zT gs hl
    ·exact hD b z
 | tup us=>exact hp.elim
 | non=>exact⟨_,hv.ty,by rw[mG (by simp[tyT,zM])];exact⟨_,hv.ty,by rw[mG (by simp[tyT,zM])];exact⟨_,hv.ty,by rw[mG (by simp[tyT,zM])];exact q _ _ [] (Same.refl _) ⟨rfl,hv⟩ (fun _ h=>nomatch h)⟩⟩⟩
 | bl b=>exact⟨_,hv.ty,by rw[mG (by simp[tyT,zM])];exact⟨_,hv.ty,by rw[mG (by simp[tyT,zM])];exact⟨_,hv.ty,by rw[mG (by simp[tyT,zM])];exact q _ _ [] (Same.refl _) ⟨rfl,hv⟩ (fun _ h=>nomatch h)⟩⟩⟩
 | int b=>exact⟨_,hv.ty,by rw[mG (by simp[tyT,zM])];exact⟨_,hv.ty,by rw[mG (by simp[tyT,zM])];exact⟨_,hv.ty,by rw[mG (by simp[tyT,zM])];exact q _ _ [] (Same.refl _) ⟨rfl,hv⟩ (fun _ h=>nomatch h)⟩⟩⟩
 | str b=>exact⟨_,hv.ty,by rw[mG (by simp[tyT,zM])];exact⟨_,hv.ty,by rw[mG (by simp[tyT,zM])];exact⟨_,hv.ty,by rw[mG (by simp[tyT,zM])];exact q _ _ [] (Same.refl _) ⟨rfl,hv⟩ (fun _ h=>nomatch h)⟩⟩⟩
abbrev sCo:Stmt:=top 71
theorem scCo:zV ["_law_thing"] ["_law_thing"] (zH sCo):=by walk_at "sc"
def zEh(n:Nat):Sp:=fun vs H Q _=>∃(v:V)(t:T),vs= [v]∧Rep H v t∧T.okq t∧T.dep t<n∧∀v' H' D,Same H H'→Sp1 H' v' t D→(∀b∈D,H b=none)→Q v' H'
theorem yBb{n:Nat}(F:Fun K "_law_copy" "_law_copy" sCo f fd)(B:Bl mg)(G_law_copy:Dn P w K mg base (1+n) "_law_copy" ["_law_thing"] (zEh n)):FnOk P w K mg base CX0 (1+n+1) f fd ["_law_thing"] (zEh (n+1)):=by
 refine F.ok scCo (by walk_at "ln") fun c A o s H vs Q E hr h=>?_;obtain⟨v,t,rfl,hv,hp,hd,q⟩:=h;have nd:=scCo.nd;have hu:=vK hr;refine⟨_,(zE (zS (yA (pI B.isinstance zI B.list yS (pv 0))) (zG (zK (xE (own:=["_law_one"]) (F:=[]) ⟨rfl,by walk_at "wu",by walk_at "wu",by walk_at "wu", .nil⟩ rfl (wJ (pv 0)) (fun _ _ _ _=>yB (i:=0) (by show(xS ["_law_one"] []).Nodup;decide+kernel) rfl (nR rfl)) (fun _ _ _ _=>yW) (fun _ _ _ _=>(zU G_law_copy hr (by lia) rfl (zA (pv 0) zD)))))) zL)
  (zE (zS (yA (pI B.isinstance zI B.tuple wU (pv 0))) (zG (zK (yN uQ rfl B.tuple wU (zA (xE (own:=["_law_one"]) (F:=[]) ⟨rfl,by walk_at "wu",by walk_at "wu",by walk_at "wu", .nil⟩ rfl (zTs (pv 0)) (fun _ _ _ _=>yB (i:=0) (by show(xS ["_law_one"] []).Nodup;decide+kernel) rfl (nR rfl)) (fun _ _ _ _=>yW) (fun _ _ _ _=>(zU G_law_copy hr (by lia) rfl (zA (pv 0) zD)))) zD)))) zL)
  (zE (zS (yA (pI B.isinstance zI B.dict yX (pv 0))) (zG (zK (yN (jH rfl) rfl B.dict yX (zA (uL (xE (own:=["_law_name"]) (F:=[("_law_thing",0)]) ⟨rfl,by walk_at "wu",by walk_at "wu",by walk_at "wu",(.cons rfl rfl rfl .nil)⟩ rfl (zAj (pv 0)) (fun _ _ _ _=>yB (i:=0) (by show(xS ["_law_name"] [("_law_thing",0)]).Nodup;decide+kernel) rfl (nR rfl)) (fun _ _ _ _=>yW) (fun _ _ _ _=>(xJ (zA (pv 0) (zA (zU G_law_copy hr (by lia) rfl (zA (qF hu (pv 1) (pv 0) (fun _ _=>rfl)) zD)) zD)))))) zD)))) zL)
  (zG (zK (pv 0)))))), ?_⟩
 walk_at "st";walk_at "rd3"
 cases t with
 | lst us=>
  obtain⟨a,xs,rfl,ha,hs⟩:=hv;obtain⟨hl0,hp⟩:=hp;have hd':T.deps us+1<n+1:=hd;refine⟨"list",wI ha, ?_⟩;rw[mK (by decide)];refine⟨a,rfl,⟨xs,SqL.of ha⟩,vF (K:=K) (xs:=xs) (fun i ys H'=>Same H H'∧∃D,Sps H' ys (us.take i) D∧∀b∈D,H b=none) ?_ ⟨Same.refl _,[],⟨rfl,rfl⟩,fun _ h=>(nomatch h)⟩ (fun i ys H' _ h=>SqL.of (h.1 _ _ ha)) ?_ ?_⟩
  ·have:=hs.length
   rw[mR];lia
  ·rintro i u ys H' hu' _ ⟨g,D,hR,hD⟩
   obtain⟨t',ht',hr'⟩:=hs.get hu';have hm:=mP ht';have d1:=T.deps_le hm;walk_at "rd3";refine⟨u,t',rfl,Rep.same g u t' hr',T.okqs_mem hp hm,by lia,fun v' H4 D1 g4 hv' hD1=>⟨g.trans g4,D++D1, ?_,fun b hb=>?_⟩⟩
   ·rw[yE ht']
    refine Sps.snoc hv' (hR.same g4) fun b hb z=>?_;obtain⟨o,ho⟩:=Sps.there _ _ _ hR hb;rw[hD1 b z] at ho;cases ho
   ·rcases mT.mp hb with z | z
    ·exact hD b z
    ·exact zT g (hD1 b z)
  ·rintro ys H' _ ⟨g,D,hR,hD⟩ p hp'
   rw[hs.length,nX] at hR;have hpD:p∉D:=fun z=>by
    obtain⟨o,ho⟩:=Sps.there _ _ _ hR z;rw[hp'] at ho;cases ho
   refine q (.ref p) _ (p::D) (g.trans (zC hp' _)) ⟨p,ys,D,rfl,zB,rfl,hpD,hR.same (zC hp' _)⟩ fun b hb=>?_;rcases mF.mp hb with z | z
   ·rw[z];exact zT g hp'
   ·exact hD b z
 | dic ks us=>
  obtain⟨d,ps,rfl,hdd,hk,hs⟩:=hv;obtain⟨nk,_,hl0,hp⟩:=hp;have hd':T.deps us+1<n+1:=hd;have hpl:ps.length=us.length:=by have:=hs.length;rwa [mI] at this
  have nkp:(ps.map (·.1)).Nodup:=by rw[hk];exact wL nk
  refine⟨"dict",wK hdd, ?_⟩;rw[mG (by decide)];refine⟨"dict",wK hdd, ?_⟩;rw[mG (by decide)];refine⟨"dict",wK hdd, ?_⟩;rw[mK (by decide)];refine⟨d,rfl,ps, .inl ⟨hdd,fun o=>?_⟩⟩;have gf:Same (upd H d (.frz o (.dK ps))) (upd H d (.frz o (.dK ps))):=Same.refl _;have gH:∀b,upd H d (.frz o (.dK ps)) b=none→H b=none:=fun b e=>by
   by_cases hb:b=d
   ·subst hb;rw[zB] at e;cases e
   ·rw[zO hb] at e
    exact e
  have hsf:Reps (upd H d (.frz o (.dK ps))) (ps.map (·.2)) us:=Reps.dic_away hdd hk hs;have hdf:upd H d (.frz o (.dK ps)) d=some (.frz o (.dK ps)):=zB;generalize hHf:upd H d (.frz o (.dK ps))=Hf at gf gH hsf hdf⊢;refine kA (fun i ys H'=>Same Hf H'∧∃(kvs:List (Key×V))(D:List Addr),kvs.length=ys.length∧kvs.map (·.1)=(ps.take i).map (·.1)∧Sps H' (kvs.map (·.2)) (us.take i) D∧(∀b∈D,H b=none)∧∀(j:Nat) kv,kvs[j]? =some kv→∃a,ys[j]? =some (.ref a)∧H' a=some (.tup [kV kv.1,kv.2])) ?_ ⟨Same.refl _,[],[],rfl,rfl,⟨rfl,rfl⟩,fun _ h=>(nomatch h),by intro j kv h;simp at h⟩ (fun i ys H' h=>h.1 _ _ hdf) ?_ ?_
  ·rw[mR];lia
  ·rintro i kv ys H' hkv _ ⟨g,kvs,D,l1,l2,hR,hD,ht⟩
   have s2:=Same.refl H';have g2:=g.trans s2;walk_at "rd3";obtain⟨t',ht',hr'⟩:=hsf.get (i:=i) (v:=kv.2) (by rw[nD,hkv];rfl);have hm:=mP ht';have d1:=T.deps_le hm;refine⟨kv.2, .inl ⟨ps,kv.1, .inr ⟨o,g _ _ hdf⟩,rfl,(kJ nkp hkv).symm⟩,kv.2,t',rfl,Rep.same g2 _ t' hr',T.okqs_mem hp hm,by lia,fun v' H1 D1 g1 hv' hD1 p hp1=>⟨(g2.trans g1).trans (zC hp1 _),kvs++ [(kv.1,v')],by simp[l1], ?_,D++D1, ?_,fun b hb=>?_, ?_⟩⟩
   ·rw[yE hkv,mX,mX,l2];rfl
   ·rw[yE ht',mX]
    refine Sps.snoc (hv'.same (zC hp1 _)) (hR.same (s2.trans (g1.trans (zC hp1 _)))) fun b hb z=>?_;obtain⟨ob,ho⟩:=Sps.there _ _ _ (hR.same s2) hb;rw[hD1 b z] at ho;cases ho
   ·rcases mT.mp hb with z | z
    ·exact hD b z
    ·exact gH b (zT g2 (hD1 b z))
   ·intro j kv1 hj
    by_cases hlt:j<kvs.length
    ·rw[nV hlt] at hj
     obtain⟨a,e1,e2⟩:=ht j kv1 hj;exact⟨a,by rw[nV (by lia)];exact e1,zC hp1 _ _ _ (g1 _ _ (s2 _ _ e2))⟩
    ·rw[nU (by lia)] at hj
     have hj0:j - kvs.length=0:=by
      have:=(mQ.mp hj).1
      simpa using this
     rw[hj0] at hj;simp only[pP,Option.some.injEq] at hj;subst hj;exact⟨p,by rw[nU (by lia),←l1,hj0];rfl,zB⟩
  ·rintro ys H' _ ⟨g,kvs,D,l1,l2,hR,hD,ht⟩ p hp'
   rw[hpl,nX] at hR;rw[nX] at l2;have gs:Same H (thaw H (upd H' p (.lst ys))):=qK (o:=o) hdd (by rw[hHf];exact g.trans (zC hp' _));have hR2:Sps (thaw H (upd H' p (.lst ys))) (kvs.map (·.2)) us D:=(hR.same (zC hp' _)).thaw;refine⟨p,rfl,ys,wC zB (by intro o v z;cases z),kvs,l1,fun j kv hj=>?_,fun l hl=>?_⟩
   ·obtain⟨a,e1,e2⟩:=ht j kv hj
    exact⟨a,e1,wC (zC hp' _ _ _ e2) (by intro o v z;cases z)⟩
   ·have em:wZ [] kvs=kvs:=vL kvs [] (by rw[tS,l2];exact nkp)
    rw[em];have hlD:l∉D:=fun z=>by
     obtain⟨ob,ho⟩:=Sps.there _ _ _ hR2 z;rw[hl] at ho;cases ho
    refine q (.ref l) _ (l::D) (gs.trans (zC hl _)) ⟨l,kvs,D,rfl,zB,l2.trans hk,rfl,hlD,hR2.same (zC hl _)⟩ fun b hb=>?_;rcases mF.mp hb with z | z
    ·rw[z];exact zT gs hl
    ·exact hD b z
 | tup us=>
  obtain⟨a,xs,rfl,ha,hs⟩:=hv;obtain⟨hl0,hp⟩:=hp;have hd':T.deps us+1<n+1:=hd;refine⟨"tuple",kD ha, ?_⟩;rw[mG (by decide)];refine⟨"tuple",kD ha, ?_⟩;rw[mK (by decide)];unfold iTup;walk_at "rd3";refine⟨⟨xs,SqT.of ha⟩,zOt (K:=K) (xs:=xs) (fun i ys H'=>Same H H'∧∃D,Sps H' ys (us.take i) D∧∀b∈D,H b=none) ?_ ⟨Same.refl _,[],⟨rfl,rfl⟩,fun _ h=>(nomatch h)⟩ (fun i ys H' _ h=>SqT.of (h.1 _ _ ha)) ?_ ?_⟩
  ·have:=hs.length
   rw[mR];lia
  ·rintro i u ys H' hu' _ ⟨g,D,hR,hD⟩
   obtain⟨t',ht',hr'⟩:=hs.get hu';have hm:=mP ht';have d1:=T.deps_le hm;walk_at "rd3";refine⟨u,t',rfl,Rep.same g u t' hr',T.okqs_mem hp hm,by lia,fun v' H4 D1 g4 hv' hD1=>⟨g.trans g4,D++D1, ?_,fun b hb=>?_⟩⟩
   ·rw[yE ht']
    refine Sps.snoc hv' (hR.same g4) fun b hb z=>?_;obtain⟨o,ho⟩:=Sps.there _ _ _ hR hb;rw[hD1 b z] at ho;cases ho
   ·rcases mT.mp hb with z | z
    ·exact hD b z
    ·exact zT g (hD1 b z)
  ·rintro ys H' _ ⟨g,D,hR,hD⟩ p hp'
   rw[hs.length,nX] at hR;refine⟨p,rfl,ys, .inl ⟨SqL.of zB,fun l hl=>?_⟩⟩;have s1:=zC hp' (.lst ys);have hlD:l∉D:=fun z=>by
    obtain⟨o,ho⟩:=Sps.there _ _ _ (hR.same s1) z;rw[hl] at ho;cases ho
   have s2:=s1.trans (zC hl (.tup ys));refine q (.ref l) _ (l::D) (g.trans s2) ⟨l,ys,D,rfl,zB,rfl,hlD,hR.same s2⟩ fun b hb=>?_;rcases mF.mp hb with z | z
   ·rw[z];exact zT (g.trans s1) hl
   ·exact hD b z
 | non=>exact⟨_,hv.ty,by rw[mG (by simp[tyT,zM])];exact⟨_,hv.ty,by rw[mG (by simp[tyT,zM])];exact⟨_,hv.ty,by rw[mG (by simp[tyT,zM])];exact q _ _ [] (Same.refl _) ⟨rfl,hv⟩ (fun _ h=>nomatch h)⟩⟩⟩
 | bl b=>exact⟨_,hv.ty,by rw[mG (by simp[tyT,zM])];exact⟨_,hv.ty,by rw[mG (by simp[tyT,zM])];exact⟨_,hv.ty,by rw[mG (by simp[tyT,zM])];exact q _ _ [] (Same.refl _) ⟨rfl,hv⟩ (fun _ h=>nomatch h)⟩⟩⟩
 | int b=>exact⟨_,hv.ty,by rw[mG (by simp[tyT,zM])];exact⟨_,hv.ty,by rw[mG (by simp[tyT,zM])];exact⟨_,hv.ty,by rw[mG (by simp[tyT,zM])];exact q _ _ [] (Same.refl _) ⟨rfl,hv⟩ (fun _ h=>nomatch h)⟩⟩⟩
 | str b=>exact⟨_,hv.ty,by rw[mG (by simp[tyT,zM])];exact⟨_,hv.ty,by rw[mG (by simp[tyT,zM])];exact⟨_,hv.ty,by rw[mG (by simp[tyT,zM])];exact q _ _ [] (Same.refl _) ⟨rfl,hv⟩ (fun _ h=>nomatch h)⟩⟩⟩
theorem yBq(F:Fun K "copied" "copied" sCp f fd):FnOk P w K mg base CX0 1 f fd ["thing"] (zOx 0):=by
 refine F.ok scCp (by walk_at "ln") fun c A o s H vs Q E hr h=>?_;obtain⟨v,t,rfl,hv,hp,hd,_⟩:=h;exact absurd hd (sF _)
theorem zYc(F:Fun K "_law_copy" "_law_copy" sCo f fd):FnOk P w K mg base CX0 1 f fd ["_law_thing"] (zEh 0):=by
 refine F.ok scCo (by walk_at "ln") fun c A o s H vs Q E hr h=>?_;obtain⟨v,t,rfl,hv,hp,hd,_⟩:=h;exact absurd hd (sF _)
theorem zRq(F:Fun K "copied" "copied" sCp f fd)(B:Bl mg)(b:Binds K fd ["thing"] [])(kp:W.keepIn K (.ref f)=true)(m:mg "copied" =some (.ref f)):∀n:Nat,FnOk P w K mg base CX0 (1+n) f fd ["thing"] (zOx n)
 | 0=>yBq F
 | n+1=>yCa F B ⟨_,_,zRq F B b kp m n,b,kp,m⟩
theorem zRi(F:Fun K "_law_copy" "_law_copy" sCo f fd)(B:Bl mg)(b:Binds K fd ["_law_thing"] [])(kp:W.keepIn K (.ref f)=true)(m:mg "_law_copy" =some (.ref f)):∀n:Nat,FnOk P w K mg base CX0 (1+n) f fd ["_law_thing"] (zEh n)
 | 0=>zYc F
 | n+1=>yBb F B ⟨_,_,zRi F B b kp m n,b,kp,m⟩
abbrev kW:Stmt:=top 70
theorem iP{c A B:Prop} [Decidable c] (h:c) (a:A):if c then A else B:=by rw[mK h];exact a
theorem iN{c A B:Prop} [Decidable c] (h:¬c) (b:B):if c then A else B:=by rw[mG h];exact b
theorem zAd{H:Hp}{d:Addr}{o:HO}{t:T}{xs:List V}{us:List T}(hd:Rep H (.ref d) t)(hs:T.szs us<T.sz t)(h:Reps H xs us):Reps (upd H d o) xs us:=
 Reps.away _ _ h fun z=>by
  obtain⟨t',h1,h2⟩:=Occs.sub _ _ h z;have e:=Rep.one _ _ _ hd h1;subst e
  lia
theorem zAs:∀n:Nat,(List.replicate n true).all id=true
 | 0=>rfl
 | n+1=>by rw[nS,dA,zAs n];rfl
theorem zBj{K:W.Frag}{H:Hp}{a:Addr}{xs:List V}{i:Int}{v:V}{Q:VK}(h1:SqT K H a xs)(h2:atI xs i=some v)(q:Q v H):zRn K (.ref a) (.int i) H Q:=⟨a,xs,i,v,rfl,rfl,h1,h2,q⟩
def jJ(n:Nat):Sp:=fun vs H Q _=>∃(v u:V)(t t':T),vs= [v,u]∧Rep H v t∧Rep H u t'∧Sm n t t'∧∀H',Same H H'→Q (.bl true) H'
theorem scAlike:zV ["_law_found","_law_due"] ["_law_found","_law_due"] (zH kW):=by walk_at "sc"
theorem zNo{n:Nat}(F:Fun K "_law_alike" "_law_alike" kW f fd)(B:Bl2 mg)(G_law_alike:Dn P w K mg base (2+n) "_law_alike" ["_law_found","_law_due"] (jJ n)):
  FnOk P w K mg base CX0 (2+n+1) f fd ["_law_found","_law_due"] (jJ (n+1)):=by
 refine F.ok scAlike (by walk_at "ln") fun c A o s H vs Q E hr h=>?_;obtain⟨v,u,t,t',rfl,hv,hw,⟨hsz0,hB⟩,q⟩:=h;have nd:=scAlike.nd;have hu:=vK hr;have hu0:=hr.units0;refine⟨_,(zE (zS (PW.pt (gZ (zGh (zLd (pv 1))) (jN (yA (pI B.isinstance zI B.bool uA (pv 1)))))) (zG (zK (xV (yZ xC (pv 0) (pv 1) (zR _)) (xY (yZ xC (pI B.isinstance zI B.bool uA (pv 0)) (pI B.isinstance zI B.bool uA (pv 1)) (zR _)))))) zL)
  (zE (zS (yA (pI B.isinstance zI B.int gM (pv 1))) (zG (zK (xV (pI B.isinstance zI B.int gM (pv 0)) (xV (zYg (pI B.isinstance zI B.bool uA (pv 0))) (xY (yZ xC (pv 0) (pv 1) (zR _))))))) zL)
  (zE (zS (yA (pI B.isinstance zI B.str qR (pv 1))) (zG (zK (xV (pI B.isinstance zI B.str qR (pv 0)) (xY (yZ xC (pv 0) (pv 1) (zR _)))))) zL)
  (zE (zS (yA (pI B.isinstance zI B.dict yX (pv 1))) (zE (zS (PW.pt (gZ (xX (yA (pI B.isinstance zI B.dict yX (pv 0)))) (jN (zW uS (zN zBg rfl B.len xH (zA (pv 0) zD)) (zN zBg rfl B.len xH (zA (pv 1) zD)) (zR _))))) (zG (zK vO)) zL)
  (zG (zK (zN (vX rfl) rfl B.all gL (zA (uL (xE (own:=["_law_name"]) (F:=[("_law_found",0),("_law_due",1)]) ⟨rfl,by walk_at "wu",by walk_at "wu",by walk_at "wu",(.cons rfl rfl rfl (.cons rfl rfl rfl .nil))⟩ rfl (zAj (pv 1)) (fun _ _ _ _=>yB (i:=0) (by show(xS ["_law_name"] [("_law_found",0),("_law_due",1)]).Nodup;decide+kernel) rfl (nR rfl)) (fun _ _ _ _=>yW) (fun _ _ _ _=>(xV (zGx (zKi hu (pv 0) (pv 1))) (xY (zU G_law_alike hr (by lia) rfl (zA (qF hu (pv 1) (pv 0) (fun _ _=>rfl)) (zA (qF hu (pv 2) (pv 0) (fun _ _=>rfl)) zD)))))))) zD))))) zL)
  (zE (zS (PW.pt (gZ (zW uS (pI B.isinstance zI B.tuple wU (pv 1)) (pI B.isinstance zI B.tuple wU (pv 0)) (zR _)) (jN (xX (yA (zN (vQ (T:="list") (U:="tuple") (by decide) (by decide)) rfl B.isinstance zI (zA (pv 0) (zA (xJ (zA (xP (v:=.ty "list") rfl B.list yS rfl) (zA (xP (v:=.ty "tuple") rfl B.tuple wU rfl) zD))) zD)))))))) (zG (zK vO)) zL)
  (zE (zS (zW uS (zN qG rfl B.len xH (zA (pv 0) zD)) (zN qG rfl B.len xH (zA (pv 1) zD)) (zR _)) (zG (zK vO)) zL)
  (zG (zK (zN (vX rfl) rfl B.all gL (zA (xE (own:=["_law_k"]) (F:=[("_law_found",0),("_law_due",1)]) ⟨rfl,by walk_at "wu",by walk_at "wu",by walk_at "wu",(.cons rfl rfl rfl (.cons rfl rfl rfl .nil))⟩ rfl (xR rfl B.range (zA (zN qG rfl B.len xH (zA (pv 1) zD)) zD)) (fun _ _ _ _=>yB (i:=0) (by show(xS ["_law_k"] [("_law_found",0),("_law_due",1)]).Nodup;decide+kernel) rfl (nR rfl)) (fun _ _ _ _=>yW) (fun _ _ _ _=>(zU G_law_alike hr (by lia) rfl (zA (yR (zMj (K:=K) rfl) (pv 1) (pv 0) (fun _ _=>rfl)) (zA (yR (zMj (K:=K) rfl) (pv 2) (pv 0) (fun _ _=>rfl)) zD))))) zD)))))))))), ?_⟩
 walk_at "st";walk_at "rd3";have g0:=Same.refl H
 cases t with
 | non=>
  cases t' with
  | non=>
   cases (show v=_ from hv);cases (show u=_ from hw);exact iP rfl ⟨rfl,iP rfl ⟨_,rfl,_,rfl,q _ g0⟩⟩
  | _=>exact hB.elim
 | bl b=>
  cases t' with
  | bl b'=>
   have hB:b=b':=hB;subst hB;cases (show v=_ from hv);cases (show u=_ from hw);refine iN (by simp) ⟨_,rfl,iP (by decide+kernel) ⟨?_,iP rfl ⟨_,rfl,_,rfl, ?_⟩⟩⟩
   ·rfl
   ·rw[nB rfl];exact q _ g0
  | _=>exact hB.elim
 | int b=>
  cases t' with
  | int b'=>
   have hB:b=b':=hB;subst hB;cases (show v=_ from hv);cases (show u=_ from hw);refine iN (by simp) ⟨_,rfl,iN (by decide+kernel) ⟨_,rfl,iP (by decide+kernel) ⟨_,rfl,iP (by decide+kernel) ⟨_,rfl,true,by decide+kernel,iP rfl ⟨rfl, ?_⟩⟩⟩⟩⟩;rw[nB rfl];exact q _ g0
  | _=>exact hB.elim
 | str b=>
  cases t' with
  | str b'=>
   have hB:b=b':=hB;subst hB;cases (show v=_ from hv);cases (show u=_ from hw);refine iN (by simp) ⟨_,rfl,iN (by decide+kernel) ⟨_,rfl,iN (by decide+kernel) ⟨_,rfl,iP (by decide+kernel) ⟨_,rfl,iP (by decide+kernel) ⟨rfl, ?_⟩⟩⟩⟩⟩;rw[nB rfl];exact q _ g0
  | _=>exact hB.elim
 | lst us=>
  cases t' with
  | lst us'=>
   have hty:tyS H u=some "list":=hw.ty;have htv:tyS H v=some "list":=hv.ty;have hnn:¬u=V.non:=fun z=>by rw[z] at hty;exact absurd (mW hty) (by decide)
   refine iN hnn ⟨_,hty,iN (by decide+kernel) ⟨_,hty,iN (by decide+kernel) ⟨_,hty,iN (by decide+kernel) ⟨_,hty,iN (by decide+kernel) ?_⟩⟩⟩⟩;obtain⟨a,xs,rfl,ha,hx⟩:=hv;obtain⟨b,ys,rfl,hb,hy⟩:=hw;obtain⟨hlen,hul,hB⟩:=hB;have hxl:=hx.length;have hyl:=hy.length;refine⟨_,hty,_,htv,false,by simp,zJx fun pt hpt=>?_⟩;have g2:=zC hpt (.tup [V.ty "list",V.ty "tuple"]);refine⟨_,"list",pt,⟨rfl,rfl⟩,zB,wT g2 htv,iN (by decide+kernel) ?_⟩;generalize upd H pt (.tup [V.ty "list",V.ty "tuple"])=H2 at g2⊢;have ha:=g2 _ _ ha;have hb:=g2 _ _ hb;have hx:=Reps.same g2 _ _ hx;have hy:=Reps.same g2 _ _ hy;refine⟨a,rfl,xs, .inl (SqL.of ha),b,rfl,ys, .inl (SqL.of hb),false,by rw[hxl,hyl,hlen];simp,zJx ⟨b,rfl,ys, .inl (SqL.of hb),by lia,by lia, ?_⟩⟩;rw[rZ];refine wS (fun i zs H'=>Same H2 H'∧zs=(List.replicate i true).map V.bl) (by rw[mR];lia) ⟨Same.refl _,rfl⟩ ?_ ?_
   ·rintro i zs H' hi _ ⟨g,rfl⟩
    obtain⟨t1,ht1,hr1⟩:=hx.get (i:=i) (v:=xs[i]) (by simp[hxl,hlen,←hyl,hi]);obtain⟨t2,ht2,hr2⟩:=hy.get (i:=i) (v:=ys[i]) (by simp[hi]);walk_at "rd3";refine .inl (yP (SqL.of (g _ _ ha)) (v:=xs[i]) (by rw[bW];exact xI (by simp[hxl,hlen,←hyl,hi])) (.inl (yP (SqL.of (g _ _ hb)) (v:=ys[i]) (by rw[bW];exact xI (by simp[hi])) ⟨_,_,t1,t2,rfl,Rep.same g _ _ hr1,Rep.same g _ _ hr2,hB i t1 t2 ht1 ht2,fun H4 g4=>⟨g.trans g4, ?_⟩⟩)));rw[bK];simp
   ·rintro zs H' _ ⟨g,rfl⟩ p hp
    refine⟨p,rfl,List.replicate ys.length true,SqL.of zB, ?_⟩;rw[zAs];exact q _ (g2.trans (g.trans (zC hp _)))
  | _=>exact hB.elim
 | tup us=>
  cases t' with
  | tup us'=>
   have hty:tyS H u=some "tuple":=hw.ty;have htv:tyS H v=some "tuple":=hv.ty;have hnn:¬u=V.non:=fun z=>by rw[z] at hty;exact absurd (mW hty) (by decide)
   refine iN hnn ⟨_,hty,iN (by decide+kernel) ⟨_,hty,iN (by decide+kernel) ⟨_,hty,iN (by decide+kernel) ⟨_,hty,iN (by decide+kernel) ?_⟩⟩⟩⟩;obtain⟨a,xs,rfl,ha,hx⟩:=hv;obtain⟨b,ys,rfl,hb,hy⟩:=hw;obtain⟨hlen,hul,hB⟩:=hB;have hxl:=hx.length;have hyl:=hy.length;refine⟨_,hty,_,htv,false,by simp,zJx fun pt hpt=>?_⟩;have g2:=zC hpt (.tup [V.ty "list",V.ty "tuple"]);refine⟨_,"tuple",pt,⟨rfl,rfl⟩,zB,wT g2 htv,iN (by decide+kernel) ?_⟩;generalize upd H pt (.tup [V.ty "list",V.ty "tuple"])=H2 at g2⊢;have ha:=g2 _ _ ha;have hb:=g2 _ _ hb;have hx:=Reps.same g2 _ _ hx;have hy:=Reps.same g2 _ _ hy;refine⟨a,rfl,xs, .inr (SqT.of ha),b,rfl,ys, .inr (SqT.of hb),false,by rw[hxl,hyl,hlen];simp,zJx ⟨b,rfl,ys, .inr (SqT.of hb),by lia,by lia, ?_⟩⟩;rw[rZ];refine wS (fun i zs H'=>Same H2 H'∧zs=(List.replicate i true).map V.bl) (by rw[mR];lia) ⟨Same.refl _,rfl⟩ ?_ ?_
   ·rintro i zs H' hi _ ⟨g,rfl⟩
    obtain⟨t1,ht1,hr1⟩:=hx.get (i:=i) (v:=xs[i]) (by simp[hxl,hlen,←hyl,hi]);obtain⟨t2,ht2,hr2⟩:=hy.get (i:=i) (v:=ys[i]) (by simp[hi]);walk_at "rd3";refine .inr (.inl (zBj (SqT.of (g _ _ ha)) (v:=xs[i]) (by rw[bW];exact xI (by simp[hxl,hlen,←hyl,hi])) (.inr (.inl (zBj (SqT.of (g _ _ hb)) (v:=ys[i]) (by rw[bW];exact xI (by simp[hi])) ⟨_,_,t1,t2,rfl,Rep.same g _ _ hr1,Rep.same g _ _ hr2,hB i t1 t2 ht1 ht2,fun H4 g4=>⟨g.trans g4, ?_⟩⟩)))));rw[bK];simp
   ·rintro zs H' _ ⟨g,rfl⟩ p hp
    refine⟨p,rfl,List.replicate ys.length true,SqL.of zB, ?_⟩;rw[zAs];exact q _ (g2.trans (g.trans (zC hp _)))
  | _=>exact hB.elim
 | dic ks us=>
  cases t' with
  | dic ls vs=>
   have hty:tyS H u=some "dict":=hw.ty;have htv:tyS H v=some "dict":=hv.ty;have hnn:¬u=V.non:=fun z=>by rw[z] at hty;exact absurd (mW hty) (by decide)
   refine iN hnn ⟨_,hty,iN (by decide+kernel) ⟨_,hty,iN (by decide+kernel) ⟨_,hty,iN (by decide+kernel) ⟨_,hty,iP (by decide+kernel) ⟨_,htv,iN (by decide+kernel) ?_⟩⟩⟩⟩⟩;have hRd:=hw;obtain⟨a,ps,rfl,ha,hk,hx⟩:=hv;obtain⟨b,rs,rfl,hb,hkb,hy⟩:=hw;obtain⟨⟨nk,nl,hku,hlv,huv,hul⟩,hB⟩:=hB;have hpl:ps.length=us.length:=by have:=hx.length;rwa [mI] at this
   have hrl:rs.length=vs.length:=by have:=hy.length;rwa [mI] at this
   have nkp:(ps.map (·.1)).Nodup:=by rw[hk];exact wL nk
   have nkr:(rs.map (·.1)).Nodup:=by rw[hkb];exact wL nl
   have hsz:T.szs vs<T.sz (.dic ls vs):=rG _;have hsz1:T.szs us<T.sz (.dic ls vs):=nF (rG _) hsz0;refine⟨a,rfl,ps,ha,b,rfl,rs,hb,false,by rw[hpl,hrl,huv];simp,zJx ⟨b,rfl,rs, .inl ⟨hb,fun o=>?_⟩⟩⟩;have hxf:Reps (upd H b (.frz o (.dK rs))) (ps.map (·.2)) us:=zAd hRd hsz1 hx;have hyf:Reps (upd H b (.frz o (.dK rs))) (rs.map (·.2)) vs:=zAd hRd hsz hy;have haf:∀H',Same (upd H b (.frz o (.dK rs))) H'→Rd H' a (.dK ps):=fun H' g=>by
    by_cases e:a=b
    ·subst e
     rw[hb] at ha;cases ha;exact .inr ⟨o,g _ _ zB⟩
    ·exact .inl (g _ _ (by rw[zO e];exact ha))
   refine kA (fun i zs H'=>Same (upd H b (.frz o (.dK rs))) H'∧zs=(List.replicate i true).map V.bl) ?_ ⟨Same.refl _,rfl⟩ (fun i zs H' h=>h.1 _ _ zB) ?_ ?_
   ·rw[mR];lia
   ·rintro i rv zs H' hrv _ ⟨g,rfl⟩
    obtain⟨t1,ht1,hr1⟩:=hyf.get (i:=i) (v:=rv.2) (by rw[nD,hrv];rfl);obtain⟨k,hkl,hrk⟩:∃k,ls[i]? =some k∧nK k=rv.1:=by
     have hkey:(ls.map nK)[i]? =some rv.1:=by rw[←hkb,nD,hrv];rfl
     rw[nD] at hkey
     cases hr:ls[i]? with
     | none=>rw[hr] at hkey;cases hkey
     | some k=>rw[hr] at hkey;exact⟨k,rfl,mW hkey⟩
    obtain⟨hkk,hBk⟩:=hB k (mP hkl);obtain⟨x,hx1,hr2⟩:=Rep.at_name nk hk hxf hkk;rw[zDn nl hkl ht1] at hBk;have hgv:wR ps rv.1=some x:=by rw[←hrk];exact hx1
    walk_at "rd3";have hdg:zJb H' a (kV rv.1) (some x):=.inl ⟨ps,rv.1,haf H' g,rfl,hgv.symm⟩;refine⟨kV rv.1,rfl, .ref a,rfl,a,some x,rfl,hdg,true,rfl,iP rfl ⟨x,hdg,rv.2, .inl ⟨rs,rv.1, .inr ⟨o,g _ _ zB⟩,rfl,(kJ nkr hrv).symm⟩,_,_,_,t1,rfl,Rep.same g _ _ hr2,Rep.same g _ _ hr1,hBk,fun H4 g4=>⟨g.trans g4, ?_⟩⟩⟩;rw[bK];simp
   ·rintro zs H' _ ⟨g,rfl⟩ p hp
    refine⟨p,rfl,List.replicate rs.length true,SqL.of (wC zB (by intro o v z;cases z)), ?_⟩;rw[zAs];exact q _ (qK (o:=o) hb (g.trans (zC hp _)))
  | _=>exact hB.elim
theorem zNw(F:Fun K "_law_alike" "_law_alike" kW f fd):FnOk P w K mg base CX0 2 f fd ["_law_found","_law_due"] (jJ 0):=by
 refine F.ok scAlike (by walk_at "ln") fun c A o s H vs Q E hr h=>?_;obtain⟨v,u,t,t',rfl,hv,hw,hf,_⟩:=h;exact hf.elim
theorem zFa(F:Fun K "_law_alike" "_law_alike" kW f fd)(B:Bl2 mg)(b:Binds K fd ["_law_found","_law_due"] [])(kp:W.keepIn K (.ref f)=true)(m:mg "_law_alike" =some (.ref f)):
  ∀n:Nat,FnOk P w K mg base CX0 (2+n) f fd ["_law_found","_law_due"] (jJ n)
 | 0=>zNw F
 | n+1=>zNo F B ⟨_,_,zFa F B b kp m n,b,kp,m⟩
end
mutual
def T.gx:T→Prop
 | .non=>True
 | .bl _=>True
 | .int i=>-(10 ^ 12)≤i∧i≤10 ^ 12
 | .str x=>x.length≤30∧∀c∈x,c∈sgnL
 | .tup _=>False
 | .lst us=>T.gxs us
 | .dic ks us=>ks.Nodup∧ks.length=us.length∧(∀k∈ks,yU k=true)∧T.gxs us
def T.gxs:List T→Prop
 | []=>True
 | t::ts=>T.gx t∧T.gxs ts
end
theorem T.gxs_mem{t:T}:∀{ts:List T},T.gxs ts→t∈ts→T.gx t
 | [],_,h=>nomatch h
 | u::ts,h,hm=>(mF.mp hm).elim (fun e=>e▸h.1) (T.gxs_mem h.2)
theorem T.gxs_of:∀{ts:List T},(∀t∈ts,T.gx t)→T.gxs ts
 | [],_=>mH
 | _::_,h=>⟨h _ mM,T.gxs_of fun u hu=>h u (mJ _ hu)⟩
mutual
def T.gy:T→Prop
 | .non=>True
 | .bl _=>True
 | .int i=>-(10 ^ 12)≤i∧i≤10 ^ 12
 | .str x=>x.length≤30∧∀c∈x,c∈sgnL
 | .tup _=>False
 | .lst us=>us.length≤60∧T.gys us
 | .dic ks us=>ks.Nodup∧ks.length≤30∧ks.length=us.length∧(∀k∈ks,yU k=true)∧T.gys us
def T.gys:List T→Prop
 | []=>True
 | t::ts=>T.gy t∧T.gys ts
end
theorem T.gys_of:∀{ts:List T},(∀t∈ts,T.gy t)→T.gys ts
 | [],_=>mH
 | _::_,h=>⟨h _ mM,T.gys_of fun u hu=>h u (mJ _ hu)⟩
mutual
theorem T.gy.gx:∀{t:T},T.gy t→T.gx t
 | .non,_=>mH
 | .bl _,_=>mH
 | .int _,h=>h
 | .str _,h=>h
 | .tup _,h=>h.elim
 | .lst us,h=>T.gys.gxs (ts:=us) h.2
 | .dic _ us,h=>⟨h.1,h.2.2.1,h.2.2.2.1,T.gys.gxs (ts:=us) h.2.2.2.2⟩
theorem T.gys.gxs:∀{ts:List T},T.gys ts→T.gxs ts
 | [],_=>mH
 | t::ts,h=>⟨T.gy.gx (t:=t) h.1,T.gys.gxs (ts:=ts) h.2⟩
end
mutual
theorem T.gy.few:∀{t:T},T.gy t→T.fewm 31 t
 | .non,_=>mH
 | .bl _,_=>mH
 | .int _,_=>mH
 | .str _,_=>mH
 | .tup _,h=>h.elim
 | .lst us,h=>⟨nN h.1 (by decide),T.gys.few (ts:=us) h.2⟩
 | .dic _ us,h=>⟨h.1,nN h.2.1 (by decide),h.2.2.1,T.gys.few (ts:=us) h.2.2.2.2⟩
theorem T.gys.few:∀{ts:List T},T.gys ts→T.fewms 31 ts
 | [],_=>mH
 | t::ts,h=>⟨T.gy.few (t:=t) h.1,T.gys.few (ts:=ts) h.2⟩
end
mutual
theorem Nice.gy{d:Nat}:∀(t:T),Nice d t→T.gy t
 | .non,_=>mH
 | .bl _,_=>mH
 | .int _,h=>h
 | .str x,h=>by
  have h':zBm x=true:=h;unfold zBm at h';simp only[pX,rA,pQ] at h';exact h'
 | .lst ts,h=>⟨by have:=h.2.1;lia,NiceL.gy ts h.2.2⟩
 | .dic ks ts,h=>by
  obtain⟨_,h1,h2,h3,h4,h5⟩:=h;exact⟨h3,by lia,h2,h4,NiceL.gy ts h5⟩
 | .tup _,h=>h.elim
theorem NiceL.gy{d:Nat}:∀(ts:List T),NiceL d ts→T.gys ts
 | [],_=>mH
 | t::ts,h=>⟨Nice.gy t h.1,NiceL.gy ts h.2⟩
end
theorem fig30:∀i:Nat,i<31→(∀c∈L2.ts (Str.ofString (toString (0+(i:Int)))),c∈zBo)∧(L2.ts (Str.ofString (toString (0+(i:Int))))).length≤2:=by decide+kernel
theorem zKb{w r:List Nat}(h:yU w=true)(hr:∀c∈r,c∈zBo)(hl:r.length≤2):yU (w.take 9++r)=true:=by
 cases w with
 | nil=>exact absurd h (by decide)
 | cons c w=>
  unfold yU at h;simp only[pX,rA,pQ] at h;refine zBu ?_ ⟨c,w.take 8++r,rfl,h.1.2⟩ fun d hd=>?_
  ·rw[mL,nW];lia
  ·rcases mT.mp hd with z | z
   ·exact h.2 d (rB z)
   ·exact nM _ (hr d z)
abbrev zEr:Stmt:=top 62
abbrev zEq:Stmt:=top 63
abbrev zNx:Stmt:=top 64
section
variable{P:Program}{w:World}{K:W.Frag}{mg:Str→Option Value}{base:Heap}{f:Addr}{fd:FuncData}
theorem zEp(F:Fun K "_law_thing_by" "_law_thing_by" kX f fd)(B:Bl mg)(Gc:Dn P w K mg base 1 "_law_cell" ["_law_script","_law_k"] (vY K))(Gn:Dn P w K mg base 1 "_law_number_by" ["_law_more"] zIo)
  (Gt:Dn P w K mg base 2 "_law_text_by" ["_law_more"] zCy) (Gm:Dn P w K mg base 1 "_law_name_by" ["_law_more"] zAa) (b:Binds K fd ["_law_script","_law_k","_law_deep_here"] []) (kp:W.keepIn K (.ref f)=true) (m:mg "_law_thing_by" =some (.ref f)):
  ∀d:Nat,FnOk P w K mg base CX0 (3+d) f fd ["_law_script","_law_k","_law_deep_here"] (uC K d)
 | 0=>zNq F B Gc Gn Gt
 | d+1=>zNl F B Gc Gn Gt Gm ⟨_,_,zEp F B Gc Gn Gt Gm b kp m d,b,kp,m⟩
def vS(K:W.Frag)(n:Nat):Sp:=fun vs H Q E=>∃d,d≤n∧uC K d vs H Q E
theorem zNy{n:Nat}(h:∀d:Nat,FnOk P w K mg base CX0 (3+d) f fd ["_law_script","_law_k","_law_deep_here"] (uC K d)):FnOk P w K mg base CX0 (3+n) f fd ["_law_script","_law_k","_law_deep_here"] (vS K n):=
 ⟨fun vs H Q E ⟨d,_,q⟩=>(h d).len vs H Q E q,fun A outer s H args us vs Q E hr he hb hv ⟨d,hd,hs⟩=>(h d).run A outer s H args us vs Q E (hr.mono (by lia)) he hb hv hs⟩
def zEi(K:W.Frag):Sp:=fun vs H Q _=>∃(a:Addr)(ns:List Int)(k:Int),vs= [.ref a, .int k]∧SqL K H a (ns.map V.int)∧ns.length≤63∧0≤k∧k≤1000∧∀v H' t,Same H H'→Rep H' v t→T.gy t→T.dep t≤8→T.sz t≤200→Q v H'
def zHq(K:W.Frag):Sp:=fun vs H Q _=>∃(a:Addr)(ns:List Int)(k:Int),vs= [.ref a, .int k]∧SqL K H a (ns.map V.int)∧ns.length≤63∧0≤k∧k≤1000∧∀v H' t,Same H H'→Rep H' v t→T.gy t→T.dep t≤8→T.sz t≤30→Q v H'
theorem scDeep:zV ["_law_script","_law_k","_law_thing","_law_j","_law_more"] ["_law_script","_law_k"] (zH zEr):=by walk_at "sc"
theorem zVc(F:Fun K "_law_deep" "_law_deep" zEr f fd)(B:Bl mg)(G_law_cell:Dn P w K mg base 1 "_law_cell" ["_law_script","_law_k"] (vY K))(G_law_thing_by:Dn P w K mg base (3+3) "_law_thing_by" ["_law_script","_law_k","_law_deep_here"] (vS K 3))
  (G_law_name_by:Dn P w K mg base 1 "_law_name_by" ["_law_more"] zAa):FnOk P w K mg base CX0 7 f fd ["_law_script","_law_k"] (zHq K):=by
 refine F.ok scDeep (by walk_at "ln") fun c A o s H vs Q E hr h=>?_;obtain⟨a,ns,k,rfl,hS,h63,k0,k1,q⟩:=h;have nd:=scDeep.nd;have hu:=vK hr;refine⟨_,(zE (pS 2 nd (zU G_law_thing_by hr (by lia) rfl (zA (pv 0) (zA (zJ yK (pv 1) zF) (zA zF zD)))))
  (zE (vZ PassesOwn.never rfl (xR rfl B.range (zA (zJ yK zF (zJ zX (zU G_law_cell hr (by lia) rfl (zA (pv 0) (zA (pv 1) zD))) zF)) zD)) (yB (i:=3) nd rfl (nR rfl)) (zE (pS 4 nd (zU G_law_cell hr (by lia) rfl (zA (pv 0) (zA (zJ yK (zJ yK (pv 1) zF) (pv 3)) zD))))
  (zG (zS (zW xC (zJ zX (pv 4) zF) zF (zR _)) (zG (pS 2 nd (zXb (zPk (zU G_law_name_by hr (by lia) rfl (zA (zJ zZ (pv 4) zF) zD)) (pv 2) zUt) (by rfl) (by rfl) (List.cons_ne_nil _ _) (by decide)))) (zG (pS 2 nd (yR ix_list (yG (zA (yG (zA (pv 2) zD)) (zA (yG (zA (zJ zX (zJ zZ (pv 4) zF) zF) (zA (pv 2) (zA qV zD)))) zD))) (zJ wY (zJ zX (pv 4) zF) zF) (fun _ _=>rfl))))))))
  (zG (zK (pv 2))))), ?_⟩
 walk_at "st";walk_at "rd3";refine⟨0,by decide,a,ns,k+1,rfl,hS,h63,by lia,by show(k+1+2)*1≤1000000;lia,fun v0 H1 g1 hv0=>?_⟩;have hn0:=gR ns 0 (k+1);have hd0:=Nice.dep _ hn0;have hs0:=Nice.sz _ hn0;have hf0:=Nice.gy _ hn0;generalize thT ns 0 (k+1)=t0 at*;refine xT (g1.seq hS) h63 (by lia) (by lia) fun H2 g2=>⟨_,rfl,by lia,by lia, ?_⟩;have hm9:(1+yQ ns k % 8).toNat≤8:=by lia
 generalize (1+yQ ns k % 8).toNat=m at hm9⊢;have g:=g1.trans g2;refine zAt (fun i σ H3=>(∃u o3 o4 t',σ= [some (V.ref a),some (V.int k),some u,o3,o4]∧Rep H3 u t'∧T.gy t'∧T.dep t'≤i∧T.sz t'≤1+3*i)∧Same H H3) ⟨⟨v0,_,_,t0,rfl,Rep.same g2 _ _ hv0,hf0,hd0,by lia⟩,g⟩ ?_ ?_
 ·rintro i σ H3 hi ⟨⟨u,o3,o4,t',rfl,hu',q1,q2,q3⟩,g3⟩
  walk_at "rd3";refine xT (g3.seq hS) h63 (by lia) (by lia) fun H4 g4=>?_;have c0:=vN ns (k+2+(0+(i:Int)));have c1:=qP ns (k+2+(0+(i:Int)));generalize yQ ns (k+2+(0+(i:Int)))=m at c0 c1⊢;refine⟨m,rfl, ?_⟩;split
  ·intro p hp
   refine⟨m,rfl,_,rfl,by lia,by lia,fun H5 g5=>?_⟩;have hnok:=jZ (m / 3);generalize jT (m / 3)=nm at*;refine⟨g5 _ _ zB,[(nK nm,u)],rfl,by simp, ?_⟩;have em:wZ [] [((nK nm:Key),u)]= [((nK nm:Key),u)]:=rfl;rw[em];have G:Same H3 (upd H5 p (.dK [(nK nm,u)])):=(g4.trans ((zC hp _).trans g5)).put (zT g4 hp) _;refine⟨⟨.ref p,⟨rfl,_,rfl⟩, .dic [nm] [t'],⟨p,_,rfl,zB,rfl,⟨u,[],rfl,Rep.same G u t' hu',rfl⟩⟩,⟨by simp,by simp,rfl,fun k hk=>by rw[mO.mp hk];exact hnok,q1,mH⟩, ?_, ?_⟩,g3.trans G⟩
   ·show max (T.dep t') 0+1≤_
    lia
   ·show T.sz t'+0+1≤_
    lia
  ·intro pL hpL
   refine⟨m,rfl,fun pD hpD pO hpO=>⟨m,rfl, ?_⟩⟩;have sL:=zC hpL (.lst [u]);have sD:=zC hpD (.lst [V.int (m / 3 % 9),u,V.non]);have sO:=zC hpO (.lst [V.ref pL,V.ref pD]);have GG:=g4.trans (sL.trans (sD.trans sO));obtain⟨x,hx,hm⟩:=zPo (xs:=[V.ref pL,V.ref pD]) (i:=m % 3 - 1) (by lia) (by simp only[nG,pF];lia);refine yP (SqL.of zB) hx ⟨⟨x,⟨rfl,_,rfl⟩, ?_⟩,g3.trans GG⟩;simp only[mF,rC,bI] at hm;rcases hm with rfl | rfl
   ·refine⟨.lst [t'],⟨pL,[u],rfl,(sD.trans sO) _ _ zB,⟨u,[],rfl,Rep.same GG u t' hu',rfl⟩⟩,⟨by simp,q1,mH⟩, ?_, ?_⟩
    ·show max (T.dep t') 0+1≤_
     lia
    ·show T.sz t'+0+1≤_
     lia
   ·refine⟨.lst [.int (m / 3 % 9),t', .non],⟨pD,_,rfl,sO _ _ zB,⟨_,_,rfl,rfl,⟨u,_,rfl,Rep.same GG u t' hu',⟨_,_,rfl,rfl,rfl⟩⟩⟩⟩,⟨by simp,(show -(10 ^ 12)≤m / 3 % 9∧m / 3 % 9≤10 ^ 12 by lia),q1,mH,mH⟩, ?_, ?_⟩
    ·show max 0 (max (T.dep t') (max 0 0))+1≤_
     lia
    ·show 1+(T.sz t'+(1+0))+1≤_
     lia
 ·rintro σ H3 ⟨⟨u,o3,o4,t',rfl,hu',q1,q2,q3⟩,g3⟩
  walk_at "rd3";exact q u H3 t' g3 hu' q1 (by lia) (by lia)
theorem qW{H:Hp}:∀n:Nat,Reps H (List.replicate n V.non) (List.replicate n T.non)
 | 0=>rfl
 | n+1=>⟨V.non,List.replicate n V.non,rfl,rfl,qW n⟩
theorem uH:∀n:Nat,T.szs (List.replicate n T.non)=n
 | 0=>rfl
 | n+1=>by
  show 1+T.szs (List.replicate n T.non)=n+1;rw[uH n];lia
theorem kB:∀n:Nat,T.deps (List.replicate n T.non)=0
 | 0=>rfl
 | n+1=>by
  show max 0 (T.deps (List.replicate n T.non))=0;rw[kB n];rfl
theorem zIs{α:Type}(x:α):∀n:Nat,(List.replicate n [x]).flatten=List.replicate n x
 | 0=>rfl
 | n+1=>by rw[nS,rO,zIs x n,nS];rfl
theorem zJn:∀n:Nat,T.gys (List.replicate n T.non)
 | 0=>mH
 | n+1=>⟨mH,zJn n⟩
theorem zAz:∀{us:List T},(∀t∈us,Nice 0 t)→T.gys us∧T.deps us≤0∧T.szs us≤us.length
 | [],_=>⟨mH,mE _,mE _⟩
 | t::us,h=>by
  obtain⟨h1,h2,h3⟩:=zAz fun u hu=>h u (mJ _ hu);have ht:=h t mM;have d1:=Nice.dep _ ht;have d2:T.sz t≤1:=Nice.sz _ ht;refine⟨⟨Nice.gy _ ht,h1⟩, ?_, ?_⟩
  ·show max (T.dep t) (T.deps us)≤0
   lia
  ·show T.sz t+T.szs us≤us.length+1
   lia
theorem zBe{H:Hp}:∀is:List Int,Reps H (is.map V.int) (is.map T.int)
 | []=>rfl
 | i::is=>⟨V.int i,_,rfl,rfl,zBe is⟩
theorem zBk:∀is:List Int,T.deps (is.map T.int)≤0
 | []=>mE _
 | i::is=>by
  have:=zBk is;show max 0 (T.deps (is.map T.int))≤0
  lia
theorem zDo:∀is:List Int,T.szs (is.map T.int)≤is.length
 | []=>mE _
 | i::is=>by
  have:=zDo is;show 1+T.szs (is.map T.int)≤is.length+1
  lia
theorem zBh:∀is:List Int,(∀i∈is,0≤i∧i≤3600)→T.gys (is.map T.int)
 | [],_=>mH
 | i::is,h=>⟨(by have:=h i mM;show -(10 ^ 12)≤i∧i≤10 ^ 12;lia),zBh is fun j hj=>h j (mJ _ hj)⟩
theorem scWide:zV ["_law_script","_law_k","_law_more","_law_inner","_law_found","_law_j"] ["_law_script","_law_k"] (zH zEq):=by walk_at "sc"
theorem zUk(F:Fun K "_law_wide" "_law_wide" zEq f fd)(B:Bl mg)(G_law_cell:Dn P w K mg base 1 "_law_cell" ["_law_script","_law_k"] (vY K))(G_law_thing_by:Dn P w K mg base (3+3) "_law_thing_by" ["_law_script","_law_k","_law_deep_here"] (vS K 3))
  (G_law_name_by:Dn P w K mg base 1 "_law_name_by" ["_law_more"] zAa):FnOk P w K mg base CX0 7 f fd ["_law_script","_law_k"] (zEi K):=by
 refine F.ok scWide (by walk_at "ln") fun c A o s H vs Q E hr h=>?_;obtain⟨a,ns,k,rfl,hS,h63,k0,k1,q⟩:=h;have nd:=scWide.nd;have hu:=vK hr;refine⟨_,(zE (pS 2 nd (zU G_law_cell hr (by lia) rfl (zA (pv 0) (zA (pv 1) zD))))
  (zE (zBd (i:=3) nd rfl (cM rfl) (xE (own:=["_law_j"]) (F:=[("_law_script",0),("_law_k",1)]) ⟨rfl,by walk_at "wu",by walk_at "wu",by walk_at "wu",(.cons rfl rfl rfl (.cons rfl rfl rfl .nil))⟩ rfl (xR rfl B.range (zA zF zD)) (fun _ _ _ _=>yB (i:=0) (by show(xS ["_law_j"] [("_law_script",0),("_law_k",1)]).Nodup;decide+kernel) rfl (nR rfl)) (fun _ _ _ _=>yW) (fun _ _ _ _=>(zU G_law_thing_by hr (by lia) rfl (zA (pv 1) (zA (zJ yK (zJ yK (pv 2) zF) (pv 0)) (zA zF zD)))))))
  (zE (zS (zW xC (zJ zX (pv 2) zF) zF (zR _)) (zG (zK (xE (own:=["_law_j"]) (F:=[("_law_inner",3)]) ⟨rfl,by walk_at "wu",by walk_at "wu",by walk_at "wu",(.cons rfl rfl rfl .nil)⟩ rfl (xR rfl B.range (zA (zJ zX (zJ zZ (pv 2) zF) zF) zD)) (fun _ _ _ _=>yB (i:=0) (by show(xS ["_law_j"] [("_law_inner",3)]).Nodup;decide+kernel) rfl (nR rfl)) (fun _ _ _ _=>yW) (fun _ _ _ _=>(yR (zQw (K:=K) rfl) (pv 1) (zJ zX (pv 0) zF) (fun _ _=>rfl)))))) zL)
  (zE (pS 4 nd zDt)
  (zE (vZ PassesOwn.never rfl (xR rfl B.range (zA (zJ zX (zJ zZ (pv 2) zF) zF) zD)) (yB (i:=5) nd rfl (nR rfl)) (zG (kG hu (pv 4) (zJ vC (wE yBg (zU G_law_name_by hr (by lia) rfl (zA (zJ zZ (pv 2) zF) zD)) wW (wX zF)) (yN zGy rfl B.str qR (zA (pv 5) zD))) (yR ix_list (pv 3) (zJ zX (pv 5) zF) (fun _ _=>rfl)) rfl)))
  (zE (zS (zW xC (zJ zX (pv 2) zF) zF (zR _)) (zG (zK (pv 4))) zL)
  (zG (zK (yG (zA (pv 4) (zA (xE (own:=["_law_j"]) (F:=[]) ⟨rfl,by walk_at "wu",by walk_at "wu",by walk_at "wu", .nil⟩ rfl (xR rfl B.range (zA (zJ zX (zJ zZ (pv 2) zF) zF) zD)) (fun _ _ _ _=>yB (i:=0) (by show(xS ["_law_j"] []).Nodup;decide+kernel) rfl (nR rfl)) (fun _ _ _ _=>yW) (fun _ _ _ _=>(zJ qX (pv 0) (pv 0)))) (zA (yG (zA (yG zD) (zA zDt (zA (zJ zBp (yG (zA qV zD)) (zJ zX (zJ zZ (pv 2) zF) zF)) zD)))) zD)))))))))))), ?_⟩
 walk_at "st";walk_at "rd3";refine xT hS h63 (by lia) (by lia) fun H1 g1=>?_;have c0:=vN ns k;have c1:=qP ns k;generalize yQ ns k=m at c0 c1⊢;refine wS (fun i ys H'=>Same H1 H'∧∃ts,Reps H' ys ts∧ts.length=i∧∀t∈ts,Nice 0 t) (by decide) ⟨Same.refl _,[],rfl,rfl,fun _ h=>(nomatch h)⟩ ?_ ?_
 ·rintro i ys H' hi _ ⟨hs,ts,hR,hl,hN⟩
  walk_at "rd3";refine⟨0,by decide,a,ns,_,rfl,(g1.trans hs).seq hS,h63,by lia,by show(k+1+(0+(i:Int))+2)*1≤1000000;lia,fun v H2 g2 hv=>⟨hs.trans g2,ts++ [_],Reps.snoc hv (Reps.same g2 _ _ hR),by simp[hl],fun t ht=>?_⟩⟩;rcases mT.mp ht with z | z
  ·exact hN t z
  ·rw[mO.mp z];exact gR ns 0 _
 ·rintro ys H' hl ⟨hs,ts,hR,hlen,hN⟩ pI hpI
  have hyl:=hR.length;have sI:=zC hpI (.lst ys);have hI:upd H' pI (.lst ys) pI=some (.lst ys):=zB;have gI:=g1.trans (hs.trans sI);have hR:=Reps.same sI _ _ hR;generalize upd H' pI (.lst ys)=HI at sI hI gI hR⊢;have pick:∀i:Int,0≤i→∃x t,atI ys (i % 4)=some x∧Rep HI x t∧Nice 0 t:=fun i h0=>by
   have h4:(i % 4).toNat<ys.length:=by lia
   obtain⟨t,ht,hr'⟩:=hR.get (i:=(i % 4).toNat) (v:=ys[(i % 4).toNat]) (by simp[h4]);refine⟨ys[(i % 4).toNat],t, ?_,hr',hN t (mP ht)⟩;rw[qN (d:=V.non) (by lia) (by lia),nI,nH h4]
   rfl
  refine⟨m,rfl, ?_⟩;split
  ·refine⟨m,rfl,by lia,by lia, ?_⟩
   have hr:(m / 3 % 61).toNat≤60:=by lia
   generalize (m / 3 % 61).toNat=r at hr⊢;refine wS (fun i zs H2=>Same HI H2∧∃us,Reps H2 zs us∧us.length=i∧∀t∈us,Nice 0 t) (by rw[mR];lia) ⟨Same.refl _,[],rfl,rfl,fun _ h=>(nomatch h)⟩ ?_ ?_
   ·rintro i zs H2 hi _ ⟨g2,us,hU,hul,hUN⟩
    walk_at "rd3";obtain⟨x,t,hx,hxt,hxn⟩:=pick (0+(i:Int)) (by lia);refine yP (SqL.of (g2 _ _ hI)) hx ⟨g2,us++ [t],Reps.snoc (Rep.same g2 _ _ hxt) hU,by simp[hul],fun u hu=>?_⟩;rcases mT.mp hu with z | z
    ·exact hUN u z
    ·rw[mO.mp z];exact hxn
   ·rintro zs H2 _ ⟨g2,us,hU,hul,hUN⟩ p hp
    obtain⟨n1,n2,n3⟩:=zAz hUN;refine q (.ref p) _ (.lst us) (gI.trans (g2.trans (zC hp _))) ⟨p,zs,rfl,zB,Reps.same (zC hp _) _ _ hU⟩ ⟨by lia,n1⟩ ?_ ?_
    ·show T.deps us+1≤8
     lia
    ·show T.szs us+1≤200
     lia
  ·intro pD hpD
   refine⟨m,rfl,by lia,by lia, ?_⟩;have hr:(m / 3 % 31).toNat≤30:=by lia
   generalize (m / 3 % 31).toNat=r at hr⊢;refine zAt (fun i σ H2=>(∃o,σ= [some (V.ref a),some (V.int k),some (V.int m),some (V.ref pI),some (V.ref pD),o])∧Same HI H2∧∃ps ks us,H2 pD=some (.dK ps)∧ps.map (·.1)=ks.map nK∧Reps HI (ps.map (·.2)) us∧ks.Nodup∧(∀u∈us,Nice 0 u)∧ks.length≤i∧∀k∈ks,yU k=true) ⟨⟨_,rfl⟩,zC hpD _,[],[],[],zB,rfl,rfl,List.nodup_nil,fun _ h=>(nomatch h),mE _,fun _ h=>(nomatch h)⟩ ?_ ?_
   ·rintro i σ H2 hi ⟨⟨o,rfl⟩,g2,ps,ks,us,hd,hk,hU,hnd,hUN,hkl,hkn⟩
    walk_at "rd3";obtain⟨x,t,hx,hxt,hxn⟩:=pick (0+(i:Int)) (by lia);have hnok:=zDz (jZ (m / 93));have hil:=zVq (i:=0+(i:Int)) ⟨by lia,by lia⟩;have hplen:=congrArg List.length hk;simp only[mI] at hplen;have hsl:(Txt.slice (tx (jT (m / 93))) none (some 9)).length≤12:=by
     rw[show(9:Int)=((9:Nat):Int) from rfl,zJo,wN,nW];have:(L2.ts (tx (jT (m / 93)))).length=(jT (m / 93)).length:=rfl
     lia
    refine yP (SqL.of (g2 _ _ hI)) hx ⟨_,rfl,by lia,by lia,fun H3 g3=>?_⟩;refine⟨_,rfl,by rw[wN,mR];lia,zPi (by lia) (by lia),_,rfl,by lia, ?_⟩;have hnm:yU (L2.ts (Txt.slice (tx (jT (m / 93))) none (some 9)++Str.ofString (toString (0+(i:Int)))))=true:=by
     obtain⟨f1,f2⟩:=fig30 i (by lia);have:=zKb (jZ (m / 93)) f1 f2;rw[show(9:Int)=((9:Nat):Int) from rfl,zJo,vE];rw[show Str.ofString (toString (0+(i:Int)))=tx (L2.ts (Str.ofString (toString (0+(i:Int))))) from(qC _).symm,uX,vE];exact this
    generalize Txt.slice (tx (jT (m / 93))) none (some 9)++Str.ofString (toString (0+(i:Int)))=z at hnm⊢;have ez:(Sum.inr z:Key)=nK (L2.ts z):=by rw[nK,qC]
    refine⟨_,DPut.k (k:=Sum.inr z) (g3 _ _ hd) (by rw[mR];lia),⟨_,rfl⟩,(g2.trans g3).put hpD _, ?_⟩;rw[ez];obtain⟨ks',us',e1,e2,e3,e4,e5,e6⟩:=zWl (n:=L2.ts z) hk hU hnd hxt;refine⟨_,zB,ks',e1,us',e2,e3,fun u hu=>?_,by lia,fun k hk=>?_⟩
    ·rcases e5 u hu with c | c
     ·exact hUN u c
     ·rw[c];exact hxn
    ·rcases e4 k hk with c | c
     ·exact hkn k c
     ·rw[c];exact hnm
   ·rintro σ H2 ⟨⟨o,rfl⟩,g2,ps,ks,us,hd,hk,hU,hnd,hUN,hkl,hkn⟩
    walk_at "rd3";have hplen:=congrArg List.length hk;simp only[mI] at hplen;have hulen:=hU.length;rw[mI] at hulen;obtain⟨n1,n2,n3⟩:=zAz hUN;have hrep:Rep H2 (.ref pD) (.dic ks us):=⟨pD,ps,rfl,hd,hk,Reps.same g2 _ _ hU⟩;have hfew:T.gy (.dic ks us):=⟨hnd,by lia,by lia,hkn,n1⟩;have G2:=gI.trans g2;split
    ·refine q _ _ _ G2 hrep hfew ?_ ?_
     ·show T.deps us+1≤8
      lia
     ·show T.szs us+1≤200
      lia
    ·refine⟨by lia,by lia, ?_⟩
     have hr:(m / 5 % 61).toNat≤60:=by lia
     generalize (m / 5 % 61).toNat=r5 at hr⊢;refine wS (fun i zs H3=>Same H2 H3∧∃is:List Int,zs=is.map V.int∧is.length=i∧∀j∈is,0≤j∧j≤3600) (by rw[mR];lia) ⟨Same.refl _,[],rfl,rfl,fun _ h=>(nomatch h)⟩ ?_ ?_
     ·rintro i zs H3 hi _ ⟨g3,is,rfl,hil,hib⟩
      walk_at "rd3";refine⟨.inl (by lia),g3,is++ [(0+(i:Int))*(0+(i:Int))],by simp,by simp[hil],fun j hj=>?_⟩;rcases mT.mp hj with z | z
      ·exact hib j z
      ·rw[mO.mp z]
       have h1:(0:Int)≤0+(i:Int):=by lia
       have h2:0+(i:Int)≤60:=by lia
       exact⟨Int.mul_nonneg h1 h1,Int.le_trans (bB h2 h1) (cP h2 (by decide))⟩
     ·rintro zs H3 _ ⟨g3,is,rfl,hil,hib⟩ pR hpR pE hpE pN hpN pV hpV
      have hr7:(m / 7 % 61).toNat≤60:=by lia
      refine⟨pV,m / 7 % 61,[V.non],rfl,rfl,zB,by lia,by lia,by rw[mR];simp only[nG,pF];lia,fun pW hpW pM hpM pO hpO=>?_⟩;rw[zIs] at*;generalize (m / 7 % 61).toNat=r7 at*;have sR:=zC hpR (.lst (is.map V.int));have sE:=zC hpE (.lst []);have sN:=zC hpN (.dK []);have sV:=zC hpV (.lst [V.non]);have sW:=zC hpW (.lst (List.replicate r7 V.non));have sM:=zC hpM (.lst [V.ref pE,V.ref pN,V.ref pW]);have sO:=zC hpO (.lst [V.ref pD,V.ref pR,V.ref pM]);have s1:=sM.trans sO;have s2:=sW.trans s1;have s3:=sV.trans s2;have s4:=sN.trans s3;have s5:=sE.trans s4;have G:=g3.trans (sR.trans s5);refine q (.ref pO) _ (.lst [.dic ks us, .lst (is.map T.int), .lst [.lst [], .dic [] [], .lst (List.replicate r7 .non)]]) (G2.trans G) ?_ ?_ ?_ ?_
      ·refine⟨pO,_,rfl,zB,⟨_,_,rfl,Rep.same G _ _ hrep,⟨_,_,rfl,⟨pR,_,rfl,s5 _ _ zB, ?_⟩,⟨_,_,rfl,⟨pM,_,rfl,sO _ _ zB,⟨_,_,rfl,⟨pE,[],rfl,s4 _ _ zB,rfl⟩,⟨_,_,rfl,⟨pN,[],rfl,s3 _ _ zB,rfl,rfl⟩,⟨_,_,rfl,⟨pW,_,rfl,s1 _ _ zB,qW r7⟩,rfl⟩⟩⟩⟩,rfl⟩⟩⟩⟩
       exact zBe is
      ·refine⟨by simp,hfew,⟨by rw[mI];lia,zBh is hib⟩,⟨by simp,⟨by simp,mH⟩,⟨by simp,by simp,rfl,fun _ h=>(nomatch h),mH⟩,⟨by simp;lia,zJn r7⟩,mH⟩,mH⟩
      ·have e1:=zBk is
       have e2:=kB r7;show max (T.deps us+1) (max (T.deps (is.map T.int)+1) (max (max (0+1) (max (0+1) (max (T.deps (List.replicate r7 T.non)+1) 0))+1) 0))+1≤8
       lia
      ·have e1:=zDo is
       have e2:=uH r7;show(T.szs us+1)+((T.szs (is.map T.int)+1)+((((0+1)+((0+1)+((T.szs (List.replicate r7 T.non)+1)+0)))+1)+0))+1≤200
       lia
theorem scAny:zV ["_law_script","_law_k","_law_more"] ["_law_script","_law_k"] (zH zNx):=by walk_at "sc"
theorem yAk(F:Fun K "_law_any" "_law_any" zNx f fd)(B:Bl mg)(G_law_cell:Dn P w K mg base 1 "_law_cell" ["_law_script","_law_k"] (vY K))(G_law_thing_by:Dn P w K mg base (3+3) "_law_thing_by" ["_law_script","_law_k","_law_deep_here"] (vS K 3))
  (G_law_deep:Dn P w K mg base 7 "_law_deep" ["_law_script","_law_k"] (zHq K)) (G_law_wide:Dn P w K mg base 7 "_law_wide" ["_law_script","_law_k"] (zEi K)):FnOk P w K mg base CX0 8 f fd ["_law_script","_law_k"] (zEi K):=by
 refine F.ok scAny (by walk_at "ln") fun c A o s H vs Q E hr h=>?_;obtain⟨a,ns,k,rfl,hS,h63,k0,k1,q⟩:=h;have nd:=scAny.nd;refine⟨_,(zE (pS 2 nd (zU G_law_cell hr (by lia) rfl (zA (pv 0) (zA (zJ yK (pv 1) zF) zD))))
  (zE (zS (zW xC (zJ zX (pv 2) zF) zF (zR _)) (zG (zK (zU G_law_deep hr (by lia) rfl (zA (pv 0) (zA (pv 1) zD))))) zL)
  (zE (zS (zW xC (zJ zX (pv 2) zF) zF (zR _)) (zG (zK (zU G_law_wide hr (by lia) rfl (zA (pv 0) (zA (pv 1) zD))))) zL)
  (zG (zK (zU G_law_thing_by hr (by lia) rfl (zA (pv 0) (zA (pv 1) (zA (zJ yK zF (zJ zX (zJ zZ (pv 2) zF) zF)) zD))))))))), ?_⟩
 walk_at "st";walk_at "rd3";refine xT hS h63 (by lia) (by lia) fun H1 g1=>?_;have c0:=vN ns (k+3);generalize yQ ns (k+3)=m at c0⊢;refine⟨m,rfl, ?_⟩;split
 ·exact⟨a,ns,k,rfl,g1.seq hS,h63,k0,k1,fun v H2 t g2 hv hf hd hz=>q v H2 t (g1.trans g2) hv hf hd (by lia)⟩
 ·refine⟨m,rfl, ?_⟩
  split
  ·exact⟨a,ns,k,rfl,g1.seq hS,h63,k0,k1,fun v H2 t g2=>q v H2 t (g1.trans g2)⟩
  ·refine⟨m,rfl, ?_⟩
   obtain⟨d,hd,hd3⟩:∃d:Nat,1+m / 8 % 3=(d:Int)∧d≤3:=⟨(1+m / 8 % 3).toNat,by lia,by lia⟩;rw[hd];have hn:=gR ns d k;refine⟨d,hd3,a,ns,k,rfl,g1.seq hS,h63,k0, ?_,fun v H2 g2 hv=>q v H2 _ (g1.trans g2) hv (Nice.gy _ hn) ?_ ?_⟩
   ·have:(5:Int)^ d≤5 ^ 3:=by
     rcases(by lia:d=0∨d=1∨d=2∨d=3) with rfl | rfl | rfl | rfl<;>decide
    have h2:(k+2)*5 ^ d≤(k+2)*5 ^ 3:=bB this (by lia)
    lia
   ·have:=Nice.dep _ hn
    lia
   ·have:=Nice.sz _ hn
    have h5:5 ^ d≤5 ^ 3:=Nat.pow_le_pow_right (by decide) hd3
    lia
abbrev sLo:Stmt:=top 41
abbrev sLl:Stmt:=top 68
def yJ:T→Key→Option T
 | .lst us, .inl i=>us[i.toNat]?
 | .dic ks us, .inr s=>if ts s∈ks then some (xG (ts s) ks us) else none
 | _,_=>none
def okK:Key→Prop
 | .inl i=>0≤i∧i≤59
 | .inr _=>True
theorem zIz{H:Hp}{ps:List (Key×V)}{ks:List (List Nat)}{us:List T}(nk:ks.Nodup)(hk:ps.map (·.1)=ks.map nK)(hs:Reps H (ps.map (·.2)) us)(s:Str):(wR ps (Sum.inr s)).isSome=decide (ts s∈ks):=by
 by_cases hm:ts s∈ks
 ·obtain⟨v,h1,_⟩:=Rep.at_name nk hk hs hm
  rw[qC] at h1;rw[h1,nB hm]
  rfl
 ·rw[nE hm,zEl (by
   rw[hk];intro z;obtain⟨k,h1,h2⟩:=nP.mp z;have e:tx k=s:=Sum.inr.inj h2;rw[←e,vE] at hm;exact hm h1)]
  rfl
theorem zJq{K:W.Frag}{H:Hp}{v:V}{t:T}{k:Key}{Q:VK}(hv:Rep H v t)(hp:T.pure t)(hk:okK k)(q:Q (.bl (yJ t k).isSome) H):∃x,tyS H (kV k)=some x∧if zM x "str" =true then∃x,tyS H v=some x∧if zM x "dict" =true then tDIn (zIe 1) (zIe 0) [some v,some (kV k)] H Q else Q (V.bl false) H
  else∃x,tyS H v=some x∧if zM x "list" =true then∃p,v=V.ref p∧∃ys,SqL K H p ys∧∃i,kV k=V.int i∧Q (V.bl (decide (i<(ys.length:Int)))) H else Q (V.bl false) H:=by
 cases k with
 | inl i=>
  have hi:0≤i:=hk.1;refine⟨"int",rfl,iN (by decide) ⟨_,hv.ty, ?_⟩⟩
  cases t with
  | lst us=>
   obtain⟨a,xs,rfl,ha,hx⟩:=hv;refine iP rfl ⟨a,rfl,xs,SqL.of ha,i,rfl, ?_⟩;have hl:=hx.length;have e:(yJ (.lst us) (.inl i)).isSome=decide (i<(xs.length:Int)):=by
    show(us[i.toNat]?).isSome=_
    by_cases c:i.toNat<us.length
    ·rw[nH c,nB (by lia)]
     rfl
    ·rw[tU (by lia),nE (by lia)]
     rfl
   rw[←e];exact q
  | non=>exact iN (by simp[tyT,zM]) q
  | bl b=>exact iN (by simp[tyT,zM]) q
  | int b=>exact iN (by simp[tyT,zM]) q
  | str b=>exact iN (by simp[tyT,zM]) q
  | dic ks us=>exact iN (by simp[tyT,zM]) q
  | tup us=>exact hp.elim
 | inr s=>
  refine⟨"str",rfl,iP (by decide) ⟨_,hv.ty, ?_⟩⟩
  cases t with
  | dic ks us=>
   obtain⟨a,ps,rfl,ha,hkk,hx⟩:=hv;refine iP rfl ⟨kV (.inr s),rfl, .ref a,rfl,a,_,rfl, .inl ⟨ps, .inr s, .inl ha,rfl,rfl⟩, ?_⟩;rw[zIz hp.1 hkk hx];have e:(yJ (.dic ks us) (.inr s)).isSome=decide (ts s∈ks):=by
    show(if ts s∈ks then some (xG (ts s) ks us) else none).isSome=_
    by_cases c:ts s∈ks
    ·rw[mK c,nB c];rfl
    ·rw[mG c,nE c];rfl
   rw[←e];exact q
  | non=>exact iN (by simp[tyT,zM]) q
  | bl b=>exact iN (by simp[tyT,zM]) q
  | int b=>exact iN (by simp[tyT,zM]) q
  | str b=>exact iN (by simp[tyT,zM]) q
  | lst us=>exact iN (by simp[tyT,zM]) q
  | tup us=>exact hp.elim
def zEd:Sp:=fun vs H Q _=>∃(v:V)(t:T)(k:Key),vs= [v,kV k]∧Rep H v t∧T.pure t∧T.sz t≤100000∧okK k∧∀H',Same H H'→Q (.bl (yJ t k).isSome) H'
theorem scLo:zV ["thing","step"] ["thing","step"] (zH sLo):=by walk_at "sc"
theorem ok_lo(F:Fun K "leads_on" "leads_on" sLo f fd)(B:Bl mg):FnOk P w K mg base CX0 1 f fd ["thing","step"] zEd:=by
 refine F.ok scLo (by walk_at "ln") fun c A o s H vs Q E hr h=>?_;obtain⟨v,t,k,rfl,hv,hp,hz,hk,q⟩:=h;have nd:=scLo.nd;have hu:=vK hr;refine⟨_,(zE (zS (yA (pI B.isinstance zI B.str qR (pv 1))) (zG (zK (xV (pI B.isinstance zI B.dict yX (pv 0)) (xY (zGx (zKi hu (pv 1) (pv 0))))))) zL)
  (zG (zK (xV (pI B.isinstance zI B.list yS (pv 0)) (xY (yZ zBx (pv 1) (zN yL rfl B.len xH (zA (pv 0) zD)) (zR _))))))), ?_⟩
 walk_at "st";walk_at "rd3";exact zJq hv hp hk (q _ (Same.refl _))
theorem scLl:zV ["_law_thing","_law_step"] ["_law_thing","_law_step"] (zH sLl):=by walk_at "sc"
theorem ok_ll(F:Fun K "_law_leads" "_law_leads" sLl f fd)(B:Bl mg):FnOk P w K mg base CX0 1 f fd ["_law_thing","_law_step"] zEd:=by
 refine F.ok scLl (by walk_at "ln") fun c A o s H vs Q E hr h=>?_;obtain⟨v,t,k,rfl,hv,hp,hz,hk,q⟩:=h;have nd:=scLl.nd;have hu:=vK hr;refine⟨_,(zE (zS (yA (pI B.isinstance zI B.str qR (pv 1))) (zG (zK (xV (pI B.isinstance zI B.dict yX (pv 0)) (xY (zGx (zKi hu (pv 1) (pv 0))))))) zL)
  (zG (zK (xV (pI B.isinstance zI B.list yS (pv 0)) (xY (yZ zIb (zN yL rfl B.len xH (zA (pv 0) zD)) (pv 1) (zR _))))))), ?_⟩
 walk_at "st";walk_at "rd3";exact zJq hv hp hk (q _ (Same.refl _))
abbrev sGn:Stmt:=top 69
def goT:T→List Key→List T
 | t,[]=>[t]
 | t,k::ks=>match yJ t k with
  | none=>[t]
  | some u=>t::goT u ks
theorem zHh{H:Hp}{c:V}{u u':T}{k:Key}(hc:Rep H c u)(hpu:T.pure u)(hzu:T.sz u≤100000)(hk:okK k)(hs:yJ u k=some u'):
  ∃c',Rep H c' u'∧T.pure u'∧T.sz u'≤100000∧((∃b zs j,c= .ref b∧H b=some (.lst zs)∧kV k= .int j∧atI zs j=some c')∨(∃b qs,c= .ref b∧H b=some (.dK qs)∧wR qs k=some c')):=by
 cases k with
 | inl j=>
  have hj:0≤j:=hk.1
  cases u with
  | lst vs=>
   have hs':vs[j.toNat]? =some u':=hs;obtain⟨b,zs,rfl,hb,hzs⟩:=hc;have hm:=mP hs';have hzl:=hzs.length;have hjl:=(mQ.mp hs').1;have hjz:j.toNat<zs.length:=by lia
   obtain⟨t',ht',hr'⟩:=hzs.get (nH hjz);rw[hs'] at ht';cases ht';have d2:=T.szs_le hm;have hzz:T.szs vs+1≤100000:=hzu;have hat:atI zs j=some zs[j.toNat]:=by
    have z:=xI (j:=j.toNat) (nH hjz)
    rwa [show((j.toNat:Nat):Int)=j by lia] at z
   exact⟨_,hr',T.pures_mem hpu hm,by lia, .inl ⟨b,zs,j,rfl,hb,rfl,hat⟩⟩
  | non=>cases hs
  | bl b=>cases hs
  | int b=>cases hs
  | str b=>cases hs
  | dic ks' us'=>cases hs
  | tup us'=>cases hs
 | inr z=>
  cases u with
  | dic ks' vs=>
   have hs':(if ts z∈ks' then some (xG (ts z) ks' vs) else none)=some u':=hs
   by_cases hm:ts z∈ks'
   ·rw[mK hm] at hs'
    cases hs';obtain⟨b,qs,rfl,hb,hkk,hx'⟩:=hc;obtain⟨c',h1,h2⟩:=Rep.at_name hpu.1 hkk hx' hm;rw[qC] at h1;have hzz:T.szs vs+1≤100000:=hzu;have hlq:ks'.length=vs.length:=by
     have e1:=congrArg List.length hkk;have e2:=hx'.length;rw[mI,mI] at e1;rw[mI] at e2
     lia
    have hmm:=vD hm hlq;have d2:=T.szs_le hmm;exact⟨c',h2,T.pures_mem hpu.2 hmm,by lia, .inr ⟨b,qs,rfl,hb,h1⟩⟩
   ·rw[mG hm] at hs'
    cases hs'
  | non=>cases hs
  | bl b=>cases hs
  | int b=>cases hs
  | str b=>cases hs
  | lst us'=>cases hs
  | tup us'=>cases hs
theorem qJ:∀(t:T)(ks:List Key),1≤(goT t ks).length∧(goT t ks).length≤ks.length+1
 | t,[]=>⟨mE _,mE _⟩
 | t,k::ks=>by
  show 1≤(match yJ t k with | none=>[t] | some u=>t::goT u ks).length∧(match yJ t k with | none=>[t] | some u=>t::goT u ks).length≤ks.length+1+1
  cases yJ t k with
  | none=>exact⟨mE _,by show 1≤_;lia⟩
  | some u=>
   have:=qJ u ks;exact⟨by show 1≤(goT u ks).length+1;lia,by show(goT u ks).length+1≤_;lia⟩
def zZx:Sp:=fun vs H Q _=>∃(v:V)(t:T)(pa:Addr)(ks:List Key),vs= [v, .ref pa]∧Rep H v t∧T.pure t∧T.sz t≤100000∧H pa=some (.lst (ks.map kV))∧(∀k∈ks,okK k)∧ks.length≤8∧∀o c u H',Same H H'→(goT t ks).getLast? =some u→Rep H c u→H' o=some (.tup [.int (((goT t ks).length:Int)- 1),c])→Q (.ref o) H'
theorem scGn:zV ["_law_thing","_law_path_here","_law_here","_law_many_here","_law_step"] ["_law_thing","_law_path_here"] (zH sGn):=by walk_at "sc"
theorem ok_gn(F:Fun K "_law_gone" "_law_gone" sGn f fd)(B:Bl mg)(G_law_leads:Dn P w K mg base 1 "_law_leads" ["_law_thing","_law_step"] zEd):FnOk P w K mg base CX0 2 f fd ["_law_thing","_law_path_here"] zZx:=by
 refine F.ok scGn (by walk_at "ln") fun c A o s H vs Q E hr h=>?_;obtain⟨v,t,pa,ks,rfl,hv,hp,hz,hpa,hks,h8,q⟩:=h;have nd:=scGn.nd;have hu:=vK hr;refine⟨_,(zE (pS 2 nd (pv 0))
  (zE (pS 3 nd zF)
  (zE (vZ PassesOwn.never rfl (wJ (pv 1)) (yB (i:=4) nd rfl (nR rfl)) (zE (zS (xX (yA (zU G_law_leads hr (by lia) rfl (zA (pv 2) (zA (pv 4) zD))))) (zG (zK (xJ (zA (pv 3) (zA (pv 2) zD))))) zL)
  (zE (pS 2 nd (zBi (yR ix_list (pv 2) (pv 4) (fun _ _=>rfl)) (qF hu (pv 2) (pv 4) (fun _ _=>rfl))))
  (zG (pS 3 nd (zJ yK (pv 3) zF))))))
  (zG (zK (xJ (zA (pv 3) (zA (pv 2) zD)))))))), ?_⟩
 walk_at "st";walk_at "rd3";refine⟨⟨_,SqL.of hpa⟩,vP (K:=K) (a:=pa) (xs:=ks.map kV) (fun i σ' H'=>∃o u c,σ'= [some v,some (.ref pa),some c,some (.int i),o]∧Same H H'∧Rep H c u∧(∃us,us.length=i∧goT t ks=us++goT u (ks.drop i))∧T.pure u∧T.sz u≤100000)
  ⟨none,t,v,rfl,Same.refl _,hv,⟨[],rfl,rfl⟩,hp,hz⟩ (fun i σ' H' _ h=>by
   obtain⟨o,u,c,_,g,_⟩:=h;exact SqL.of (g _ _ hpa)) ?_ ?_⟩
 ·rintro i x σ' H' hx ⟨o,u,c,rfl,g,hc,⟨us,hl,hg⟩,hpu,hzu⟩
  walk_at "rd3";rw[nD] at hx
  cases hki:ks[i]? with
  | none=>rw[hki] at hx;cases hx
  | some k=>
   rw[hki] at hx;have ex:kV k=x:=mW hx;subst ex;have hik:=(mQ.mp hki).1;have hok:=hks _ (mP hki);have hdr:ks.drop i=k::ks.drop (i+1):=by
    rw[sK hik,(mQ.mp hki).2]
   rw[hdr] at hg;refine⟨c,u,k,rfl,Rep.same g _ _ hc,hpu,hzu,hok,fun H2 g2=>⟨_,rfl, ?_⟩⟩;have gg:=g.trans g2
   cases hs:yJ u k with
   | none=>
    have e:goT u (k::ks.drop (i+1))= [u]:=by show(match yJ u k with | none=>[u] | some u'=>u::goT u' (ks.drop (i+1)))=_;rw[hs]
    rw[e] at hg;refine iP rfl fun p hp'=>q p c u _ (gg.trans (zC hp' _)) (by rw[hg];simp) hc ?_;rw[zB,hg,mL,hl];have:(((i+ [u].length:Nat):Int)- 1)=(i:Int):=by simp
    rw[this]
   | some u'=>
    have e:goT u (k::ks.drop (i+1))=u::goT u' (ks.drop (i+1)):=by show(match yJ u k with | none=>[u] | some u'=>u::goT u' (ks.drop (i+1)))=_;rw[hs]
    rw[e] at hg;have hend:∀c',Rep H c' u'→T.pure u'→T.sz u'≤100000→∃o u1 c1,(c'=c1∧(i:Int)+1=((i+1:Nat):Int)∧some (kV k)=o)∧Same H H2∧Rep H c1 u1∧(∃us,us.length=i+1∧goT t ks=us++goT u1 (ks.drop (i+1)))∧T.pure u1∧T.sz u1≤100000:=fun c' h1 h2 h3=>
     ⟨_,u',c',⟨rfl,by lia,rfl⟩,gg,h1,⟨us++ [u],by rw[mL,hl];rfl,by rw[hg,rP];rfl⟩,h2,h3⟩
    refine iN (by simp) ?_;obtain⟨c',h1,h2,h3,⟨b,zs,j,rfl,hb,ej,hat⟩|⟨b,qs,rfl,hb,hvq⟩⟩:=zHh hc hpu hzu hok hs
    ·refine .inl ?_
     walk_at "rd3";rw[ej];rw[ej] at hend;exact yP (SqL.of (gg _ _ hb)) hat (hend _ h1 h2 h3)
    ·refine .inr ?_
     walk_at "rd3";exact⟨c', .inl ⟨qs,k, .inl (gg _ _ hb),rfl,hvq.symm⟩,hend _ h1 h2 h3⟩
 ·rintro σ' H' ⟨o,u,c,rfl,g,hc,⟨us,hl,hg⟩,hpu,hzu⟩
  walk_at "rd3";rw[mI,dO] at hg;rw[mI] at hl;rw[mI];have hg':goT t ks=us++ [u]:=hg;refine fun p hp'=>q p c u _ (g.trans (zC hp' _)) (by rw[hg'];simp) hc ?_;rw[zB,hg',mL,hl];have:(((ks.length+ [u].length:Nat):Int)- 1)=(ks.length:Int):=by simp
  rw[this]
abbrev sSs:Stmt:=top 65
abbrev sSb:Stmt:=top 66
def zVl:T→List Key
 | .lst us=>(List.range (min 60 us.length)).map fun(i:Nat)=>Sum.inl ((i:Nat):Int)
 | .dic ks _=>(qD ks).map fun k=>Sum.inr (tx k)
 | _=>[]
def okG:Key→Prop
 | .inl i=>0≤i∧i≤59
 | .inr s=>yU (ts s)=true
theorem okG.k:∀{k:Key},okG k→okK k
 | .inl _,h=>h
 | .inr _,_=>mH
def yAw:Sp:=fun vs H Q _=>∃(v:V)(t:T),vs= [v]∧Rep H v t∧T.pure t∧T.few t∧T.sz t≤100000∧∀p H',Same H H'→H' p=some (.lst ((zVl t).map kV))→Q (.ref p) H'
theorem scSs:zV ["_law_thing"] ["_law_thing"] (zH sSs):=by walk_at "sc"
theorem ok_ss(F:Fun K "_law_steps" "_law_steps" sSs f fd)(B:Bl2 mg):FnOk P w K mg base CX0 1 f fd ["_law_thing"] yAw:=by
 refine F.ok scSs (by walk_at "ln") fun c A o s H vs Q E hr h=>?_;obtain⟨v,t,rfl,hv,hp,hf,hz,q⟩:=h;have nd:=scSs.nd;have hu:=vK hr;refine⟨_,(zE (zS (yA (pI B.isinstance zI B.list yS (pv 0))) (zG (zK (yN (zIg rfl) rfl B.list yS (zA (yN zKs rfl B.range zQb (zA (zN (zEj rfl) rfl B.min zTg (zA zF (zA (zN yL rfl B.len xH (zA (pv 0) zD)) zD))) zD)) zD)))) zL)
  (zE (zS (yA (pI B.isinstance zI B.dict yX (pv 0))) (zG (zK (zN (uR rfl) rfl B.sorted zEy (zA (pv 0) zD)))) zL)
  (zG (zK (yG zD))))), ?_⟩
 walk_at "st";walk_at "rd3"
 cases t with
 | lst us=>
  obtain⟨a,xs,rfl,ha,hx⟩:=hv;have hxl:=hx.length;have hul:=T.szs_len us;have hz':T.szs us+1≤100000:=hz;refine⟨"list",wI ha,iP rfl ⟨a,rfl,xs,SqL.of ha,_,_,⟨rfl,rfl⟩,fun p hp'=>⟨_,zB,by split<;>lia,by split<;>lia,fun l hl=>?_⟩⟩⟩;refine q l _ ((zC hp' _).trans (zC hl _)) ?_;rw[zB];have e:(if(xs.length:Int)<60 then(xs.length:Int) else 60).toNat=min 60 us.length:=by split<;>lia
  rw[e];show _=some (HO.lst (((List.range (min 60 us.length)).map fun(i:Nat)=>(Sum.inl ((i:Nat):Int):Key)).map kV));rw[rL]
  rfl
 | dic ks us=>
  obtain⟨a,ps,rfl,ha,hk,hx⟩:=hv;refine⟨"dict",wK ha,iN (by decide) ⟨"dict",wK ha,iP rfl ⟨a,rfl,ps, .inl ha,ks.map tx,by rw[hk,rL];rfl,by rw[mI];exact hf.2.1,fun l ss hl hp1 hs1=>?_⟩⟩⟩;have es:=zAv hp1 hs1;refine q l _ (zC hl _) ?_;rw[zB,es];show _=some (HO.lst (((qD ks).map fun k=>(Sum.inr (tx k):Key)).map kV));rw[rL,rL]
  rfl
 | non=>exact⟨_,hv.ty,iN (by simp[tyT,zM]) ⟨_,hv.ty,iN (by simp[tyT,zM]) fun p hp'=>q p _ (zC hp' _) zB⟩⟩
 | bl b=>exact⟨_,hv.ty,iN (by simp[tyT,zM]) ⟨_,hv.ty,iN (by simp[tyT,zM]) fun p hp'=>q p _ (zC hp' _) zB⟩⟩
 | int b=>exact⟨_,hv.ty,iN (by simp[tyT,zM]) ⟨_,hv.ty,iN (by simp[tyT,zM]) fun p hp'=>q p _ (zC hp' _) zB⟩⟩
 | str b=>exact⟨_,hv.ty,iN (by simp[tyT,zM]) ⟨_,hv.ty,iN (by simp[tyT,zM]) fun p hp'=>q p _ (zC hp' _) zB⟩⟩
 | tup us=>exact hp.elim
def zXy:Sp:=fun vs H Q _=>∃(m:Int),vs= [.int m]∧0≤m∧m<2000000∧∀k H',Same H H'→okG k→Q (kV k) H'
theorem scSb:zV ["_law_more"] ["_law_more"] (zH sSb):=by walk_at "sc"
theorem ok_sb(F:Fun K "_law_step_by" "_law_step_by" sSb f fd)(G_law_name_by:Dn P w K mg base 1 "_law_name_by" ["_law_more"] zAa):FnOk P w K mg base CX0 2 f fd ["_law_more"] zXy:=by
 refine F.ok scSb (by walk_at "ln") fun c A o s H vs Q E hr h=>?_;obtain⟨m,rfl,h0,h1,q⟩:=h;have nd:=scSb.nd;refine⟨_,(zE (zS (zW xC (zJ zX (pv 0) zF) zF (zR _)) (zG (zK (zU G_law_name_by hr (by lia) rfl (zA (zJ zZ (pv 0) zF) zD)))) zL)
  (zG (zK (yR ix_list (yG (zA (zJ zX (zJ zZ (pv 0) zF) zF) (zA (zJ zX (zJ zZ (pv 0) zF) zF) zD))) (zJ zX (zJ zZ (pv 0) zF) zF) (fun _ _=>rfl))))), ?_⟩
 walk_at "st";walk_at "rd3"
 by_cases c:m % 2=0
 ·exact iP c ⟨_,rfl,by lia,by lia,fun H' g=>q (.inr (tx (jT (m / 2)))) H' g (by show yU (ts (tx (jT (m / 2))))=true;rw[vE];exact jZ _)⟩
 ·refine iN c fun p hp=>zCu (zB (o:=.lst [V.int (m / 4 % 4),V.int (m / 4 % 60)])) (by lia) (by simp only[nG,pF];lia) fun x hx=>?_
  simp only[mF,rC,bI] at hx;rcases hx with rfl | rfl
  ·exact q (.inl (m / 4 % 4)) _ (zC hp _) (show 0≤m / 4 % 4∧m / 4 % 4≤59 by lia)
  ·exact q (.inl (m / 4 % 60)) _ (zC hp _) (show 0≤m / 4 % 60∧m / 4 % 60≤59 by lia)
abbrev sPa:Stmt:=top 67
theorem zVn{u:T}{k:Key}(hf:T.few u)(hg:T.gx u)(h:k∈zVl u):okG k∧∃u',yJ u k=some u'∧T.few u'∧T.gx u':=by
 cases u with
 | lst us=>
  obtain⟨i,hi,rfl⟩:=nP.mp h;have hl:i<us.length:=by have:=rN.mp hi;lia
  refine⟨(show(0:Int)≤(i:Int)∧(i:Int)≤59 by have:=rN.mp hi;lia),us[i], ?_,T.fews_mem hf.2 (rJ hl),T.gxs_mem hg (rJ hl)⟩;show us[((i:Nat):Int).toNat]? =_;rw[rZ];exact nH hl
 | dic ks us=>
  obtain⟨x,hx,rfl⟩:=nP.mp h;have hm:=mem_sortK.mp hx;refine⟨(by show yU (ts (tx x))=true;rw[vE];exact hg.2.2.1 x hm),xG x ks us, ?_,T.fews_mem hf.2.2.2 (vD hm hf.2.2.1),T.gxs_mem hg.2.2.2 (vD hm hf.2.2.1)⟩;show(if ts (tx x)∈ks then some (xG (ts (tx x)) ks us) else none)=_;rw[vE,mK hm]
 | non=>exact nomatch h
 | bl b=>exact nomatch h
 | int b=>exact nomatch h
 | str b=>exact nomatch h
 | tup us=>exact nomatch h
theorem zMs(ks:List Key)(lo hi:Option Int):∃ks':List Key,jU (ks.map kV) lo hi=ks'.map kV∧ks'.length≤ks.length∧∀k∈ks',k∈ks:=by
 unfold jU;refine⟨(ks.drop (HT.sIx (ks.map kV).length 0 lo)).take (HT.sIx (ks.map kV).length (ks.map kV).length hi - HT.sIx (ks.map kV).length 0 lo),by rw[List.map_take,List.map_drop],by rw[nW,pU];lia,fun k hk=>rX (rB hk)⟩
theorem cut8(ks:List Key):jU (ks.map kV) none (some 8)=(ks.take 8).map kV:=by
 unfold jU HT.sIx;simp
def yAx(K:W.Frag):Sp:=fun vs H Q _=>∃(a:Addr)(ns:List Int)(k0:Int)(v:V)(t:T),vs= [.ref a, .int k0,v]∧SqL K H a (ns.map V.int)∧ns.length≤63∧0≤k0∧k0<1000∧Rep H v t∧T.pure t∧T.few t∧T.gx t∧T.sz t≤100000∧∀(p:Addr)(ks:List Key)(H':Hp),Same H H'→H' p=some (.lst (ks.map kV))→(∀k∈ks,okG k)→ks.length≤8→Q (.ref p) H'
theorem scPa:zV ["_law_script","_law_k","_law_thing","_law_path_here","_law_here","_law_j","_law_steps_here","_law_step","_law_more","_law_some","_law_at"] ["_law_script","_law_k","_law_thing"] (zH sPa):=by walk_at "sc"
theorem ok_pa(F:Fun K "_law_path" "_law_path" sPa f fd)(B:Bl2 mg)(G_law_cell:Dn P w K mg base 1 "_law_cell" ["_law_script","_law_k"] (vY K))(G_law_steps:Dn P w K mg base 1 "_law_steps" ["_law_thing"] yAw)(G_law_step_by:Dn P w K mg base 2 "_law_step_by" ["_law_more"] zXy):FnOk P w K mg base CX0 3 f fd ["_law_script","_law_k","_law_thing"] (yAx K):=by
 refine F.ok scPa (by walk_at "ln") fun c A o s H vs Q E hr h=>?_;obtain⟨a,ns,k0,v,t,rfl,hS,h63,hk0,hk1,hv,hp,hf,hg,hz,q⟩:=h;have nd:=scPa.nd;have hu:=vK hr;have hu0:=hr.units0;refine⟨_,(zE (pS 3 nd (yG zD))
  (zE (pS 4 nd (pv 2))
  (zE (vZ PassesOwn.never rfl (xR rfl B.range (zA (zJ zX (zU G_law_cell hr (by lia) rfl (zA (pv 0) (zA (pv 1) zD))) zF) zD)) (yB (i:=5) nd rfl (nR rfl)) (zE (pS 6 nd (zU G_law_steps hr (by lia) rfl (zA (pv 4) zD)))
  (zG (zS (zW (zHi hu0) (pv 6) (yG zD) (zR _)) (zE (pS 7 nd (yR ix_list (pv 6) (zJ zX (zU G_law_cell hr (by lia) rfl (zA (pv 0) (zA (zJ yK (zJ yK (pv 1) zF) (pv 5)) zD))) (zN yL rfl B.len xH (zA (pv 6) zD))) (fun _ _=>rfl)))
  (zE (vJ (uO pY rW sU jV (pv 3) (zA (pv 7) zD)))
  (zG (pS 4 nd (zBi (yR ix_list (pv 4) (pv 7) (fun _ _=>rfl)) (qF hu (pv 4) (pv 7) (fun _ _=>rfl))))))) zL))))
  (zE (pS 8 nd (zU G_law_cell hr (by lia) rfl (zA (pv 0) (zA (zJ yK (pv 1) zF) zD))))
  (zE (pS 9 nd (zU G_law_step_by hr (by lia) rfl (zA (zJ zZ (pv 8) zF) zD)))
  (zE (wP (zS (PW.pt (zBc (zW xC (zJ zX (pv 8) zF) zF (zR _)) (uK (yA (pI B.isinstance zI B.list yS (pv 4)))))) (zG (pS 9 nd (zN (zEj rfl) rfl B.min zTg (zA zF (zA (zN yL rfl B.len xH (zA (pv 4) zD)) zD))))) zL))
  (zE (wP (zS (zW zNz (zJ zX (pv 8) zF) (xJ (zA zF (zA zF zD))) (by with_unfolding_all rfl)) (zG (pS 3 nd (zJ kK (pv 3) (yG (zA (pv 9) zD))))) zL))
  (zE (wP (zS (PW.pt (zBc (zW xC (zJ zX (pv 8) zF) zF (zR _)) (uK (zW (zHi hu0) (pv 3) (yG zD) (zR _))))) (zE (pS 10 nd (zJ zX (zJ zZ (pv 8) zF) (zN yL rfl B.len xH (zA (pv 3) zD))))
  (zG (pS 3 nd (zJ kK (zJ kK (wE vM (pv 3) wW (wX (pv 10))) (yG (zA (pv 9) zD))) (wE vM (pv 3) (wX (zJ yK (pv 10) zF)) wW))))) zL))
  (zE (wP (zS (zW xC (zJ zX (pv 8) zF) zF (zR _)) (zG (zCj (i:=3) nd rfl (nR rfl) (own:=["_law_j"]) (F:=[("_law_script",0),("_law_k",1)]) ⟨rfl,by walk_at "wu",by walk_at "wu",by walk_at "wu",(.cons rfl rfl rfl (.cons rfl rfl rfl .nil))⟩ rfl (xR rfl B.range (zA (zJ zX (zJ zZ (pv 8) zF) zF) zD)) (fun _ _ _ _=>yB (i:=0) (by show(xS ["_law_j"] [("_law_script",0),("_law_k",1)]).Nodup;decide+kernel) rfl (nR rfl)) (fun _ _ _ _=>yW) (fun _ _ _ _=>(zU G_law_step_by hr (by lia) rfl (zA (zU G_law_cell hr (by lia) rfl (zA (pv 1) (zA (zJ yK (zJ yK (pv 2) zF) (pv 0)) zD))) zD))))) zL))
  (zG (zK (wE vM (pv 3) wW (wX zF))))))))))))), ?_⟩
 walk_at "st";walk_at "rd3";intro p hpn;have s1:=zC hpn (.lst []);refine xT (s1.seq hS) h63 (by lia) (by lia) fun H2 g2=>⟨_,rfl,by lia,by lia, ?_⟩;obtain⟨n,hn,hn8⟩:∃n:Nat,(yQ ns k0 % 9).toNat=n∧n≤8:=⟨_,rfl,by lia⟩;rw[hn];have hpa:H2 p=some (.lst []):=g2 _ _ zB;have s2:=s1.trans g2;refine zAt (fun i σ' H'=>∃(c:V)(u:T)(ks:List Key)(o5 o6 o7:Option V),σ'= [some (.ref a),some (.int k0),some v,some (.ref p),some c,o5,o6,o7,none,none,none]∧Same H H'∧H' p=some (.lst (ks.map kV))∧Rep H c u∧T.pure u∧T.few u∧T.gx u∧T.sz u≤100000∧(∀k∈ks,okG k)∧ks.length≤i) ⟨v,t,[],_,_,_,rfl,s2,hpa,hv,hp,hf,hg,hz,⟨fun k h=>absurd h rC,mE _⟩⟩ ?_ ?_
 ·rintro i σ' H' hi ⟨c,u,ks,o5,o6,o7,rfl,g,hpp,hc,hpu,hfu,hgu,hzu,hks,hkl⟩
  walk_at "rd3";refine⟨c,u,rfl,Rep.same g _ _ hc,hpu,hfu,hzu,fun l H3 g3 hl=>?_⟩;intro pe hpe;have s3:=g3.trans (zC hpe (.lst []));have hl':=zC hpe (.lst []) _ _ hl;refine⟨l,pe,_,rfl,rfl,SqL.of hl',SqL.of zB,_,rfl, ?_⟩;generalize upd H3 pe (.lst [])=H4 at s3 hl'⊢;have g4:=g.trans s3;have hp4:=s3 _ _ hpp
  cases hst:zVl u with
  | nil=>exact iN (by simp) ⟨c,⟨rfl,_,rfl⟩,g4,u,ks,hp4,hc,hpu,hfu,hgu,hzu,hks,by lia⟩
  | cons k0' rest=>
   refine iP (by simp) (xT (g4.seq hS) h63 (by lia) (by lia) fun H5 g5=>⟨l,rfl,_,SqL.of (g5 _ _ hl'),_,rfl, ?_, ?_⟩)
   ·rw[hst];simp
   have hpos:(0:Int)<(((zVl u).map kV).length:Int):=by rw[hst];simp
   refine zCu (g5 _ _ hl') (aU _ (by lia)) (tO _ hpos) fun x hx=>?_;obtain⟨k,hk,rfl⟩:=nP.mp hx;obtain⟨hok,u',hs,hfu',hgu'⟩:=zVn hfu hgu hk;have g5':=g4.trans g5;have hp5:=g5 _ _ hp4;refine⟨nR ⟨rfl,_,SqL.of hp5⟩,p,_,_,rfl,rfl,hp5,by rw[mR,mI];lia, ?_⟩;have g6:Same H (upd H5 p (.lst (ks.map kV++ [kV k]))):=g5'.put hpn _;have hp6:upd H5 p (.lst (ks.map kV++ [kV k])) p=some (.lst ((ks++ [k]).map kV)):=by rw[zB,mX];rfl
   generalize upd H5 p (.lst (ks.map kV++ [kV k]))=H6 at g6 hp6⊢;obtain⟨c',h1,h2,h3,hor⟩:=zHh hc hpu hzu hok.k hs;have hfin:∃c1,(c'=c1∧∃x,some (kV k)=x)∧Same H H6∧∃u1 ks1,H6 p=some (.lst (List.map kV ks1))∧Rep H c1 u1∧T.pure u1∧T.few u1∧T.gx u1∧T.sz u1≤100000∧(∀k∈ks1,okG k)∧ks1.length≤i+1:=
    ⟨c',⟨rfl,_,rfl⟩,g6,u',ks++ [k],hp6,h1,h2,hfu',hgu',h3,fun k' hk'=>(mT.mp hk').elim (hks k') (fun z=>by rw[mO.mp z];exact hok),by rw[mL];show ks.length+1≤_;lia⟩
   rcases hor with⟨b,zs,j,rfl,hb,ej,hat⟩|⟨b,qs,rfl,hb,hvq⟩
   ·refine .inl ?_
    walk_at "rd3";rw[ej];rw[ej] at hfin;exact yP (SqL.of (g6 _ _ hb)) hat hfin
   ·refine .inr ?_
    walk_at "rd3";exact⟨c', .inl ⟨qs,k, .inl (g6 _ _ hb),rfl,hvq.symm⟩,hfin⟩
 ·rintro σ' H' ⟨c,u,ks,o5,o6,o7,rfl,g,hpp,hc,hpu,hfu,hgu,hzu,hks,hkl⟩
  walk_at "rd3";refine xT (g.seq hS) h63 (by lia) (by lia) fun H3 g3=>?_;have c0:=vN ns (k0+10);have c1:=qP ns (k0+10);generalize yQ ns (k0+10)=more at c0 c1⊢;refine⟨_,rfl,_,rfl,by lia,by lia,fun k1 H4 g4 hok1=>?_⟩;have hp4:=g4 _ _ (g3 _ _ hpp);have gH4:=g.trans (g3.trans g4);have hk8:ks.length≤8:=by lia
  unfold zQd;walk_at "rd3";refine⟨fun σ' H'=>∃k1,σ'= [some (.ref a),some (.int k0),some v,some (.ref p),some c,o5,o6,o7,some (.int more),some (kV k1),none]∧okG k1∧Same H H'∧H' p=some (.lst (ks.map kV)), ?_, ?_⟩
  ·by_cases c4:more % 8=4
   ·refine iP c4 ⟨_,(Rep.same gH4 _ _ hc).ty, ?_⟩
    cases u with
    | lst us=>
     obtain⟨b,xs,rfl,hb,hx⟩:=hc;exact iP rfl ⟨b,rfl,xs,SqL.of (gH4 _ _ hb),_,_,⟨rfl,rfl⟩, .inl (if(xs.length:Int)<59 then(xs.length:Int) else 59),rfl,(by show 0≤_∧_≤(59:Int);split<;>lia),gH4,hp4⟩
    | non=>exact iN (by simp[tyT,zM]) ⟨k1,rfl,hok1,gH4,hp4⟩
    | bl b=>exact iN (by simp[tyT,zM]) ⟨k1,rfl,hok1,gH4,hp4⟩
    | int b=>exact iN (by simp[tyT,zM]) ⟨k1,rfl,hok1,gH4,hp4⟩
    | str b=>exact iN (by simp[tyT,zM]) ⟨k1,rfl,hok1,gH4,hp4⟩
    | dic ks' us=>exact iN (by simp[tyT,zM]) ⟨k1,rfl,hok1,gH4,hp4⟩
    | tup us=>exact hpu.elim
   ·exact iN c4 ⟨k1,rfl,hok1,gH4,hp4⟩
  rintro σ' H5 ⟨k2,rfl,hok2,g5,hp5⟩;walk_at "rd3";refine⟨fun σ' H'=>∃(p1:Addr)(ks1:List Key),σ'= [some (.ref a),some (.int k0),some v,some (.ref p1),some c,o5,o6,o7,some (.int more),some (kV k2),none]∧Same H H'∧H' p1=some (.lst (ks1.map kV))∧(∀k∈ks1,okG k)∧ks1.length≤9, ?_, ?_⟩
  ·intro pt hpt
   have sT:=zC hpt (.tup [V.int 4,V.int 5]);refine⟨pt,_,rfl, .inr (SqT.of zB),rfl,rfl,_,rfl, ?_⟩;have hpT:=sT _ _ hp5;have gT:=g5.trans sT;generalize upd H5 pt (.tup [V.int 4,V.int 5])=HT at hpT gT⊢;generalize (if false=true then _ else _:Bool)=bb
   cases bb with
   | false=>exact iN (by decide) ⟨p,ks,rfl,gT,hpT,hks,by lia⟩
   | true=>
    refine iP rfl fun pn hpn'=>?_;have sN:=zC hpn' (.lst [kV k2]);refine⟨p,pn,_,_,rfl,rfl,sN _ _ hpT,zB,by rw[mR,mI];show ks.length+1≤_;lia,fun pc hpc=>?_⟩;refine⟨pc,ks++ [k2],rfl,gT.trans (sN.trans (zC hpc _)),by rw[zB,mX];rfl,fun k hk=>?_,by rw[mL];show ks.length+1≤9;lia⟩;rcases mT.mp hk with z | z
    ·exact hks k z
    ·rw[mO.mp z];exact hok2
  rintro σ' H6 ⟨p1,ks1,rfl,g6,hp6,hks1,hl1⟩;walk_at "rd3";refine⟨fun σ' H'=>∃(p2:Addr)(ks2:List Key)(o10:Option V),σ'= [some (.ref a),some (.int k0),some v,some (.ref p2),some c,o5,o6,o7,some (.int more),some (kV k2),o10]∧Same H H'∧H' p2=some (.lst (ks2.map kV))∧(∀k∈ks2,okG k)∧ks2.length≤30, ?_, ?_⟩
  ·by_cases c6:more % 8=6
   ·refine iP c6 fun pe hpe=>?_
    have sE:=zC hpe (.lst []);refine⟨p1,pe,_,rfl,rfl,SqL.of (sE _ _ hp6),SqL.of zB,_,rfl, ?_⟩;have hpE:=sE _ _ hp6;have gE:=g6.trans sE;generalize upd H6 pe (.lst [])=HE at hpE gE⊢
    cases hks1c:ks1 with
    | nil=>
     subst hks1c;exact iN (by simp) ⟨p1,[],none,rfl,gE,hpE,hks1,by simp⟩
    | cons k5 r5=>
     rw[←hks1c];refine iP (by rw[hks1c];rfl) ⟨_,SqL.of hpE,by rw[hks1c];simp, ?_⟩;refine⟨p1,_,rfl,SqL.of hpE,fun q1 hq1=>?_⟩;obtain⟨ksA,eA,lA,mA⟩:=zMs ks1 none (some (more / 8 % ((ks1.map kV).length:Int)));rw[eA];have sA:=zC hq1 (.lst (ksA.map kV));intro q2 hq2;have sB:=zC hq2 (.lst [kV k2]);refine⟨q1,q2,_,_,rfl,rfl,sB _ _ zB,zB,by rw[mR,mI];show ksA.length+1≤_;lia,fun q3 hq3=>?_⟩;have sC:=zC hq3 (.lst (ksA.map kV++ [kV k2]));refine⟨p1,_,rfl,SqL.of (sC _ _ (sB _ _ (sA _ _ hpE))),fun q4 hq4=>?_⟩;obtain⟨ksB,eB,lB,mB⟩:=zMs ks1 (some (more / 8 % ((ks1.map kV).length:Int)+1)) none;rw[eB];have sD:=zC hq4 (.lst (ksB.map kV));refine⟨q3,q4,_,_,rfl,rfl,sD _ _ zB,zB,by rw[mR,mL,mI,mI];show ksA.length+1+ksB.length≤_;lia,fun q5 hq5=>?_⟩;refine⟨q5,ksA++ [k2]++ksB,_,rfl,gE.trans (sA.trans (sB.trans (sC.trans (sD.trans (zC hq5 _))))),by rw[zB,mX,mX];rfl,fun k hk=>?_,by rw[mL,mL];show ksA.length+1+ksB.length≤30;lia⟩;rcases mT.mp hk with z | z
     ·rcases mT.mp z with z | z
      ·exact hks1 k (mA k z)
      ·rw[mO.mp z];exact hok2
     ·exact hks1 k (mB k z)
   ·exact iN c6 ⟨p1,ks1,none,rfl,g6,hp6,hks1,by lia⟩
  rintro σ' H7 ⟨p2,ks2,o10,rfl,g7,hp7,hks2,hl2⟩;walk_at "rd3";refine⟨fun σ' H'=>∃(p3:Addr)(ks3:List Key)(o5 o10:Option V),σ'= [some (.ref a),some (.int k0),some v,some (.ref p3),some c,o5,o6,o7,some (.int more),some (kV k2),o10]∧Same H H'∧H' p3=some (.lst (ks3.map kV))∧(∀k∈ks3,okG k)∧ks3.length≤30, ?_, ?_⟩
  ·by_cases c7:more % 8=7
   ·refine iP c7 ⟨by lia,by lia,wS (fun i ys H'=>Same H H'∧∃ks3:List Key,ys=ks3.map kV∧ks3.length=i∧∀k∈ks3,okG k) (by rw[mR];lia) ⟨g7,[],rfl,rfl,fun k h=>absurd h rC⟩ ?_ ?_⟩
    ·rintro i ys H' hi _ ⟨hs,ks3,rfl,hl,hb⟩
     walk_at "rd3";refine xT (hs.seq hS) h63 (by lia) (by lia) fun H9 g9=>⟨_,rfl,vN _ _,by have:=qP ns (k0+11+(0+(i:Int)));lia,fun k3 HA gA hok3=>⟨hs.trans (g9.trans gA),ks3++ [k3],by simp,by simp[hl],fun k hk=>?_⟩⟩;rcases mT.mp hk with z | z
     ·exact hb k z
     ·rw[mO.mp z];exact hok3
    ·rintro ys H' hl ⟨hs,ks3,rfl,hl',hb⟩ pn hpn'
     exact⟨pn,ks3,_,_,rfl,hs.trans (zC hpn' _),zB,hb,by lia⟩
   ·exact iN c7 ⟨p2,ks2,_,_,rfl,g7,hp7,hks2,hl2⟩
  rintro σ' H8 ⟨p3,ks3,o5',o10',rfl,g8,hp8,hks3,hl3⟩;walk_at "rd3";refine⟨p3,_,rfl,SqL.of hp8,fun pz hpz=>?_⟩;rw[cut8];exact q pz (ks3.take 8) _ (g8.trans (zC hpz _)) zB (fun k hk=>hks3 k (rB hk)) (by rw[nW];lia)
abbrev sMk:Stmt:=top 73
abbrev zNp:Stmt:=top 74
theorem zVb{α:Type}{l:List α}{i:Nat}{a:α}(h:l[i]? =some a):l.drop i=a::l.drop (i+1):=by
 obtain⟨hi,e⟩:=mQ.mp h;rw[sK hi,e]
theorem zz_nK:(Sum.inr (Str.ofString "zz"):Key)=nK zzN:=by
 show(Sum.inr _:Key)=Sum.inr (tx (ts _));rw[qC]
theorem zXg{us:List T}{i:Nat}{t:T}(h:us[i]? =some t):us.getD i .non=t:=by rw[nI,h];rfl
def zOk(n:Nat):Sp:=fun vs H Q _=>∃(v:V)(t:T)(D:List Addr)(c:Int),vs= [v, .int c]∧Sp1 H v t D∧T.fewq t∧T.dep t<n∧∀H' D',Keep D H H'→Sp1 H' v (wO n t c).1 D'→(∀b∈D',b∈D)→Q (.int (wO n t c).2) H'
theorem scMk:zV ["_law_thing","_law_count","_law_name","_law_one"] ["_law_thing","_law_count"] (zH sMk):=by walk_at "sc"
def MkW(n:Nat)(H:Hp)(a:Addr)(D':List Addr)(o0:HO)(xs:List V)(us:List T)(is:List Nat)(c:Int)(i:Nat)(ci:Int)(H2:Hp):Prop:=
 ∃(usi:List T)(Di:List Addr),Keep (a::D') H H2∧H2 a=some o0∧Sps H2 xs usi Di∧(∀b∈Di,b∈D')∧usi.length=us.length∧jF (wO n) (is.drop i) usi ci=jF (wO n) is us c∧∀j∈is.drop i,usi[j]? =us[j]?
theorem MkW.next{n:Nat}{H:Hp}{a:Addr}{D':List Addr}{o0:HO}{xs:List V}{us:List T}{is:List Nat}{c:Int}{i j:Nat}{ci:Int}{H2:Hp}(h:MkW n H a D' o0 xs us is c i ci H2)(haD:a∉D')(hn:is.Nodup)(hj:is[i]? =some j){t:T}(ht:us[j]? =some t):
  ∃v D1,xs[j]? =some v∧Sp1 H2 v t D1∧(∀b∈D1,b∈D')∧∀H3 D1',Keep D1 H2 H3→Sp1 H3 v (wO n t ci).1 D1'→(∀b∈D1',b∈D1)→MkW n H a D' o0 xs us is c (i+1) (wO n t ci).2 H3:=by
 obtain⟨usi,Di,k2,ha2,hS,hDi,hl,hmk,hsame⟩:=h;have ed:=zVb hj;have hti:usi[j]? =some t:=by rw[hsame j (by rw[ed];exact mM)];exact ht
 obtain⟨v,D1,g1,g2,g3,g4⟩:=hS.at hti;refine⟨v,D1,g1,g2,fun b hb=>hDi b (g3 b hb),fun H3 D1' k3 hs hsub=>?_⟩;obtain⟨D2,e1,e2⟩:=g4 H3 _ D1' hs hsub k3;refine⟨_,D2,k2.trans (k3.mono fun b hb=>mJ _ (hDi b (g3 b hb))),k3 _ _ (fun z=>haD (hDi a (g3 a z))) ha2,e1,fun b hb=>hDi b (e2 b hb),by rw[rH];exact hl, ?_,fun j' hj'=>?_⟩
 ·rw[←hmk,ed]
  show _=jF (wO n) (is.drop (i+1)) (usi.set j (wO n (usi.getD j .non) ci).1) (wO n (usi.getD j .non) ci).2;rw[zXg hti]
 ·have hne:j'≠j:=fun z=>by
   have hnd:(is.drop i).Nodup:=hn.sublist (List.drop_sublist i is);rw[ed,nZ] at hnd;exact hnd.1 (z▸hj')
  rw[sP (Ne.symm hne)];exact hsame j' (by rw[ed];exact mJ _ hj')
theorem MkW.fin{n:Nat}{H:Hp}{a:Addr}{D':List Addr}{o0:HO}{xs:List V}{us:List T}{is:List Nat}{c:Int}{i:Nat}{ci:Int}{H2:Hp}(h:MkW n H a D' o0 xs us is c i ci H2)(hi:is.length≤i):
  ∃(usi:List T)(Di:List Addr),Keep (a::D') H H2∧H2 a=some o0∧Sps H2 xs usi Di∧(∀b∈Di,b∈D')∧usi.length=us.length∧jF (wO n) is us c=(usi,ci):=by
 obtain⟨usi,Di,k2,ha2,hS,hDi,hl,hmk,_⟩:=h;rw[aZ hi] at hmk;exact⟨usi,Di,k2,ha2,hS,hDi,hl,hmk.symm⟩
theorem zYs{n:Nat}(F:Fun K "_law_marked" "_law_marked" sMk f fd)(B:Bl2 mg)(G_law_marked:Dn P w K mg base (1+n) "_law_marked" ["_law_thing","_law_count"] (zOk n)):FnOk P w K mg base CX0 (1+n+1) f fd ["_law_thing","_law_count"] (zOk (n+1)):=by
 refine F.ok scMk (by walk_at "ln") fun c A o s H vs Q E hr h=>?_;obtain⟨v,t,D,c,rfl,hv,hf,hd,q⟩:=h;have nd:=scMk.nd;have hu:=vK hr;refine⟨_,(zE (zS (yA (pI B.isinstance zI B.dict yX (pv 0))) (zE (vZ PassesOwn.never rfl (wJ (zN (uR rfl) rfl B.sorted zEy (zA (pv 0) zD))) (yB (i:=2) nd rfl (nR rfl)) (zG (pS 1 nd (zU G_law_marked hr (by lia) rfl (zA (qF hu (pv 0) (pv 2) (fun _ _=>rfl)) (zA (pv 1) zD))))))
  (zG (kG hu (pv 0) zY (pv 1) rfl))) zL)
  (zE (zS (yA (zN (vQ (T:="list") (U:="tuple") (by decide) (by decide)) rfl B.isinstance zI (zA (pv 0) (zA (xJ (zA (xP (v:=.ty "list") rfl B.list yS rfl) (zA (xP (v:=.ty "tuple") rfl B.tuple wU rfl) zD))) zD)))) (zG (vZ PassesOwn.never rfl (wJ (yN qI rfl B.list yS (zA (pv 0) zD))) (yB (i:=3) nd rfl (nR rfl)) (zG (pS 1 nd (zU G_law_marked hr (by lia) rfl (zA (pv 3) (zA (pv 1) zD))))))) zL)
  (zE (zS (yA (pI B.isinstance zI B.list yS (pv 0))) (zG (vJ (uO pY rW sU jV (pv 0) (zA (pv 1) zD)))) zL)
  (zG (zK (zJ yK (pv 1) zF)))))), ?_⟩
 walk_at "st";walk_at "rd3"
 cases t with
 | lst us=>
  obtain⟨a,xs,D',rfl,ha,rfl,haD,hs⟩:=hv;refine⟨"list",wI ha,iN (by decide) fun p hp=>?_⟩;have s1:=zC hp (.tup [V.ty "list",V.ty "tuple"]);have e1:=zB (H:=H) (a:=p) (o:=.tup [V.ty "list",V.ty "tuple"]);generalize upd H p (.tup [V.ty "list",V.ty "tuple"])=H1 at s1 e1⊢;have ha1:=s1 _ _ ha;have hul:=hf.1;have hxl:=hs.length;have hd':T.deps us+1<n+1:=hd;refine⟨_,"list",p,⟨rfl,rfl⟩,e1,wI ha1,iP (by decide) ⟨a,rfl,xs, .inl (SqL.of ha1),fun l hl=>⟨⟨_,SqL.of zB⟩, ?_⟩⟩⟩;have s2:=zC hl (.lst xs);have e2:=zB (H:=H1) (a:=l) (o:=.lst xs);have hl0:=zT s1 hl;generalize upd H1 l (.lst xs)=H2 at s2 e2⊢;have g2:=s1.trans s2;have hla:l∉a::D':=fun z=>by
   rcases mF.mp z with z | z
   ·rw[z,ha] at hl0;cases hl0
   ·obtain⟨o,ho⟩:=Sps.there _ _ _ hs z
    rw[hl0] at ho;cases ho
  refine vP (K:=K) (a:=l) (xs:=xs) (fun i σ H2=>∃o ci,σ= [some (V.ref a),some (.int ci),none,o]∧H2 l=some (.lst xs)∧MkW n H a D' (.lst xs) xs us (List.range us.length) c i ci H2) ⟨_,_,rfl,e2,us,D',Keep.of g2,g2 _ _ ha,hs.same g2,fun _ h=>h,rfl,rfl,fun _ _=>rfl⟩ (fun i σ H2 _ h=>by
   obtain⟨o,ci,_,h,_⟩:=h;exact SqL.of h) ?_ ?_
  ·rintro i x σ H3 hx ⟨o,ci,rfl,hl3,hW⟩
   have hi:i<us.length:=by have:=(mQ.mp hx).1;lia
   have hm:=rJ hi;have d1:=T.deps_le hm;obtain⟨v',D1,g1,g2,g3,g4⟩:=hW.next haD bJ (j:=i) (by simp[hi]) (nH hi);rw[hx] at g1;cases g1;walk_at "rd3";exact⟨x,us[i],D1,ci,rfl,g2,T.fewqs_mem hf.2 hm,by lia,fun H4 D1' k4 hs4 hsub=>⟨_,_,⟨rfl,rfl⟩,k4 _ _ (fun z=>hla (mJ _ (g3 l z))) hl3,g4 H4 D1' k4 hs4 hsub⟩⟩
  ·rintro σ H3 ⟨o,ci,rfl,hl3,hW⟩
   obtain⟨usi,Di,k3,ha3,hS,hDi,hli,hmk⟩:=hW.fin (by rw[rD];lia);walk_at "rd3";refine⟨"list",wI ha3,iP (by decide) ⟨.inl ⟨rfl,_,SqL.of ha3⟩,a,xs, .int ci,rfl,rfl,ha3,by rw[mR];lia, ?_⟩⟩;have e:wO (n+1) (.lst us) c=(.lst (usi++ [.int ci]),ci+1):=by
    show zVk (jF (wO n) (List.range us.length) us c)=_;rw[hmk];rfl
   have haDi:a∉Di:=fun z=>haD (hDi a z);have:=q (upd H3 a (.lst (xs++ [.int ci]))) (a::Di) (k3.put _ mM);rw[e] at this;refine this ⟨a,_,Di,rfl,zB,rfl,haDi, ?_⟩ fun b hb=>?_
   ·have:=Sps.snoc (show Sp1 (upd H3 a (.lst (xs++ [.int ci]))) (.int ci) (.int ci) [] from⟨rfl,rfl⟩) (Sps.keep _ _ _ (fun b hb o _ e=>by rw[zO (show b≠a from fun z=>haDi (z▸hb))];exact e) hS) (fun _ _ z=>nomatch z)
    rw[pJ] at this;exact this
   ·rcases mF.mp hb with z | z
    ·rw[z];exact mM
    ·exact mJ _ (hDi b z)
 | dic ks us=>
  obtain⟨a,ps,D',rfl,ha,hk,rfl,haD,hs⟩:=hv;obtain⟨nk,h64,hle,hf⟩:=hf;have hxl:=hs.length;rw[mI] at hxl;have hd':T.deps us+1<n+1:=hd;have nkp:(ps.map (·.1)).Nodup:=by rw[hk];exact wL nk
  refine⟨"dict",wK ha,iP (by decide) ⟨a,rfl,ps, .inl ha,ks.map tx,by rw[hk,rL];rfl,by rw[mI];exact h64,fun l ss hl hp1 hs1=>⟨⟨_,SqL.of zB⟩, ?_⟩⟩⟩;have es:=zAv hp1 hs1;subst es;have s2:=zC hl (.lst (((qD ks).map tx).map V.str));have e2:=zB (H:=H) (a:=l) (o:=.lst (((qD ks).map tx).map V.str));generalize upd H l (.lst (((qD ks).map tx).map V.str))=H2 at s2 e2⊢;have hla:l∉a::D':=fun z=>by
   rcases mF.mp z with z | z
   ·rw[z,ha] at hl;cases hl
   ·obtain⟨o,ho⟩:=Sps.there _ _ _ hs z
    rw[hl] at ho;cases ho
  refine vP (K:=K) (a:=l) (xs:=((qD ks).map tx).map V.str) (fun i σ H2=>∃o ci,σ= [some (V.ref a),some (.int ci),o,none]∧H2 l=some (.lst (((qD ks).map tx).map V.str))∧MkW n H a D' (.dK ps) (ps.map (·.2)) us (ixs ks) c i ci H2) ⟨_,_,rfl,e2,us,D',Keep.of s2,s2 _ _ ha,hs.same s2,fun _ h=>h,rfl,rfl,fun _ _=>rfl⟩ (fun i σ H2 _ h=>by
   obtain⟨o,ci,_,h,_⟩:=h;exact SqL.of h) ?_ ?_
  ·rintro i x σ H3 hx ⟨o,ci,rfl,hl3,hW⟩
   obtain⟨k,hks,rfl⟩:∃k,(qD ks)[i]? =some k∧x= .str (tx k):=by
    rw[nD,nD] at hx
    cases hc:(qD ks)[i]? with
    | none=>rw[hc] at hx;cases hx
    | some k=>rw[hc] at hx;exact⟨k,rfl,(mW hx).symm⟩
   have hkm:k∈ks:=mem_sortK.mp (mP hks);have hjk:=zGr hkm;have hj:ks.idxOf k<us.length:=by have:=bH hkm;lia
   have hm:=rJ hj;have d1:=T.deps_le hm;obtain⟨v',D1,g1,g2,g3,g4⟩:=hW.next haD (zFc nk) (j:=ks.idxOf k) (by unfold ixs;rw[nD,hks];rfl) (nH hj);obtain⟨kv,hkv,rfl⟩:∃kv,ps[ks.idxOf k]? =some kv∧kv.2=v':=by
    rw[nD] at g1
    cases hc:ps[ks.idxOf k]? with
    | none=>rw[hc] at g1;cases g1
    | some kv=>rw[hc] at g1;exact⟨kv,rfl,mW g1⟩
   have hk1:kv.1=nK k:=by
    have h1:(ps.map (·.1))[ks.idxOf k]? =some kv.1:=by rw[nD,hkv];rfl
    rw[hk,nD,hjk] at h1;exact(mW h1).symm
   have hvv:wR ps (nK k)=some kv.2:=kJ nkp (by rw[hkv,←hk1]);have ha3:H3 a=some (.dK ps):=by obtain⟨_,_,_,h,_⟩:=hW;exact h
   walk_at "rd3";exact⟨kv.2, .inl ⟨ps,nK k, .inl ha3,rfl,hvv.symm⟩,kv.2,us[ks.idxOf k],D1,ci,rfl,g2,T.fewqs_mem hf hm,by lia,fun H4 D1' k4 hs4 hsub=>⟨_,_,⟨rfl,rfl⟩,k4 _ _ (fun z=>hla (mJ _ (g3 l z))) hl3,g4 H4 D1' k4 hs4 hsub⟩⟩
  ·rintro σ H3 ⟨o,ci,rfl,hl3,hW⟩
   obtain⟨usi,Di,k3,ha3,hS,hDi,hli,hmk⟩:=hW.fin (by rw[mI,mI];unfold ixs;rw[mI];exact mE _);walk_at "rd3";refine⟨_,DPut.k (k:=Sum.inr (Str.ofString "zz")) ha3 (by rw[mR];lia), ?_⟩;rw[zz_nK];obtain⟨hk5,D5,hS5,hD5⟩:=Sps.put (n:=zzN) (c:=ci) hk hS;have haD5:a∉D5:=fun z=>haD (hDi a (hD5 a z));have k4:=k3.put (.dK (yY ps (nK zzN) (.int ci))) (a:=a) mM;have ha4:=zB (H:=H3) (a:=a) (o:=.dK (yY ps (nK zzN) (.int ci)));have hS6:Sps (upd H3 a (.dK (yY ps (nK zzN) (.int ci)))) ((yY ps (nK zzN) (.int ci)).map (·.2)) (xO (ks,usi) zzN (.int ci)).2 D5:=Sps.keep _ _ _ (fun b hb o _ e=>by rw[zO (show b≠a from fun z=>haD5 (z▸hb))];exact e) hS5;generalize upd H3 a (.dK (yY ps (nK zzN) (.int ci)))=H4 at k4 ha4 hS6⊢;intro p hp;have s5:=zC hp (.tup [V.ty "list",V.ty "tuple"]);have e5:=zB (H:=H4) (a:=p) (o:=.tup [V.ty "list",V.ty "tuple"]);generalize upd H4 p (.tup [V.ty "list",V.ty "tuple"])=H5 at s5 e5⊢;have ha5:=s5 _ _ ha4;refine⟨_,"dict",p,⟨rfl,rfl⟩,e5,wK ha5,iN (by decide) ⟨"dict",wK ha5,iN (by decide) ?_⟩⟩;have e:wO (n+1) (.dic ks us) c=(.dic (xO (ks,usi) zzN (.int ci)).1 (xO (ks,usi) zzN (.int ci)).2,ci+1):=by
    show zUx ks (jF (wO n) (ixs ks) us c)=_;rw[hmk];rfl
   have:=q H5 (a::D5) (k4.trans (Keep.of s5));rw[e] at this;refine this ⟨a,_,D5,rfl,ha5,hk5,rfl,haD5,hS6.same s5⟩ fun b hb=>?_;rcases mF.mp hb with z | z
   ·rw[z];exact mM
   ·exact mJ _ (hDi b (hD5 b z))
 | tup us=>
  obtain⟨a,xs,D',rfl,ha,rfl,haD,hs⟩:=hv;refine⟨"tuple",kD ha,iN (by decide) fun p hp=>?_⟩;have s1:=zC hp (.tup [V.ty "list",V.ty "tuple"]);have e1:=zB (H:=H) (a:=p) (o:=.tup [V.ty "list",V.ty "tuple"]);generalize upd H p (.tup [V.ty "list",V.ty "tuple"])=H1 at s1 e1⊢;have ha1:=s1 _ _ ha;have hul:=hf.1;have hxl:=hs.length;have hd':T.deps us+1<n+1:=hd;refine⟨_,"tuple",p,⟨rfl,rfl⟩,e1,kD ha1,iP (by decide) ⟨a,rfl,xs, .inr (SqT.of ha1),fun l hl=>⟨⟨_,SqL.of zB⟩, ?_⟩⟩⟩;have s2:=zC hl (.lst xs);have e2:=zB (H:=H1) (a:=l) (o:=.lst xs);have hl0:=zT s1 hl;generalize upd H1 l (.lst xs)=H2 at s2 e2⊢;have g2:=s1.trans s2;have hla:l∉a::D':=fun z=>by
   rcases mF.mp z with z | z
   ·rw[z,ha] at hl0;cases hl0
   ·obtain⟨o,ho⟩:=Sps.there _ _ _ hs z
    rw[hl0] at ho;cases ho
  refine vP (K:=K) (a:=l) (xs:=xs) (fun i σ H2=>∃o ci,σ= [some (V.ref a),some (.int ci),none,o]∧H2 l=some (.lst xs)∧MkW n H a D' (.tup xs) xs us (List.range us.length) c i ci H2) ⟨_,_,rfl,e2,us,D',Keep.of g2,g2 _ _ ha,hs.same g2,fun _ h=>h,rfl,rfl,fun _ _=>rfl⟩ (fun i σ H2 _ h=>by
   obtain⟨o,ci,_,h,_⟩:=h;exact SqL.of h) ?_ ?_
  ·rintro i x σ H3 hx ⟨o,ci,rfl,hl3,hW⟩
   have hi:i<us.length:=by have:=(mQ.mp hx).1;lia
   have hm:=rJ hi;have d1:=T.deps_le hm;obtain⟨v',D1,g1,g2,g3,g4⟩:=hW.next haD bJ (j:=i) (by simp[hi]) (nH hi);rw[hx] at g1;cases g1;walk_at "rd3";exact⟨x,us[i],D1,ci,rfl,g2,T.fewqs_mem hf.2 hm,by lia,fun H4 D1' k4 hs4 hsub=>⟨_,_,⟨rfl,rfl⟩,k4 _ _ (fun z=>hla (mJ _ (g3 l z))) hl3,g4 H4 D1' k4 hs4 hsub⟩⟩
  ·rintro σ H3 ⟨o,ci,rfl,hl3,hW⟩
   obtain⟨usi,Di,k3,ha3,hS,hDi,hli,hmk⟩:=hW.fin (by rw[rD];lia);walk_at "rd3";refine⟨"tuple",kD ha3,iN (by decide) ?_⟩;have e:wO (n+1) (.tup us) c=(.tup usi,ci+1):=by
    show zWc (jF (wO n) (List.range us.length) us c)=_;rw[hmk];rfl
   have haDi:a∉Di:=fun z=>haD (hDi a z);have:=q H3 (a::Di) k3;rw[e] at this;refine this ⟨a,_,Di,rfl,ha3,rfl,haDi,hS⟩ fun b hb=>?_;rcases mF.mp hb with z | z
   ·rw[z];exact mM
   ·exact mJ _ (hDi b z)
 | non=>
  have hv':v= .non:=hv.2;subst hv';refine⟨_,rfl,iN (by decide) fun p hp=>⟨_,_,p,⟨rfl,rfl⟩,zB,rfl,iN (by decide) ⟨_,rfl,iN (by decide) ?_⟩⟩⟩;exact q _ [] (Keep.of (zC hp _)) ⟨rfl,rfl⟩ (fun _ h=>nomatch h)
 | bl b=>
  have hv':v= .bl b:=hv.2;subst hv';refine⟨_,rfl,iN (by decide) fun p hp=>⟨_,_,p,⟨rfl,rfl⟩,zB,rfl,iN (by decide) ⟨_,rfl,iN (by decide) ?_⟩⟩⟩;exact q _ [] (Keep.of (zC hp _)) ⟨rfl,rfl⟩ (fun _ h=>nomatch h)
 | int b=>
  have hv':v= .int b:=hv.2;subst hv';refine⟨_,rfl,iN (by decide) fun p hp=>⟨_,_,p,⟨rfl,rfl⟩,zB,rfl,iN (by decide) ⟨_,rfl,iN (by decide) ?_⟩⟩⟩;exact q _ [] (Keep.of (zC hp _)) ⟨rfl,rfl⟩ (fun _ h=>nomatch h)
 | str b=>
  have hv':v= .str (tx b):=hv.2;subst hv';refine⟨_,rfl,iN (by decide) fun p hp=>⟨_,_,p,⟨rfl,rfl⟩,zB,rfl,iN (by decide) ⟨_,rfl,iN (by decide) ?_⟩⟩⟩;exact q _ [] (Keep.of (zC hp _)) ⟨rfl,rfl⟩ (fun _ h=>nomatch h)
theorem zYz(F:Fun K "_law_marked" "_law_marked" sMk f fd):FnOk P w K mg base CX0 1 f fd ["_law_thing","_law_count"] (zOk 0):=by
 refine F.ok scMk (by walk_at "ln") fun c A o s H vs Q E hr h=>?_;obtain⟨v,t,D,c,rfl,hv,hf,hd,_⟩:=h;exact absurd hd (sF _)
theorem zQy(F:Fun K "_law_marked" "_law_marked" sMk f fd)(B:Bl2 mg)(b:Binds K fd ["_law_thing","_law_count"] [])(kp:W.keepIn K (.ref f)=true)(m:mg "_law_marked" =some (.ref f)):∀n:Nat,FnOk P w K mg base CX0 (1+n) f fd ["_law_thing","_law_count"] (zOk n)
 | 0=>zYz F
 | n+1=>zYs F B ⟨_,_,zQy F B b kp m n,b,kp,m⟩
def zSs:Sp:=fun vs H Q _=>∃(v:V)(t:T)(D:List Addr),vs= [v]∧Sp1 H v t D∧T.fewq t∧T.okq t∧T.dep t<20∧∀H',Keep D H H'→Q (.bl true) H'
theorem scOwn:zV ["_law_found","_law_due"] ["_law_found"] (zH zNp):=by walk_at "sc"
theorem zYh(F:Fun K "_law_own" "_law_own" zNp f fd)(G_law_copy:Dn P w K mg base (1+20) "_law_copy" ["_law_thing"] (zEh 20))(G_law_marked:Dn P w K mg base (1+20) "_law_marked" ["_law_thing","_law_count"] (zOk 20))(G_law_alike:Dn P w K mg base (2+20) "_law_alike" ["_law_found","_law_due"] (jJ 20)):FnOk P w K mg base CX0 23 f fd ["_law_found"] zSs:=by
 refine F.ok scOwn (by walk_at "ln") fun c A o s H vs Q E hr h=>?_;obtain⟨v,t,D,rfl,hv,hf,hq,hd,q⟩:=h;have nd:=scOwn.nd;refine⟨_,(zE (pS 1 nd (zU G_law_copy hr (by lia) rfl (zA (pv 0) zD)))
  (zE (vJ (zU G_law_marked hr (by lia) rfl (zA (pv 0) (zA zF zD))))
  (zE (vJ (zU G_law_marked hr (by lia) rfl (zA (pv 1) (zA zF zD))))
  (zG (zK (zU G_law_alike hr (by lia) rfl (zA (pv 0) (zA (pv 1) zD)))))))), ?_⟩
 walk_at "st";walk_at "rd3";refine⟨v,t,rfl,Sp1.rep _ _ _ hv,hq,hd,fun v' H1 D1 g1 hv1 hD1=>⟨v,t,D,100,rfl,hv.same g1,hf,hd,fun H2 D2 k2 hv2 hD2=>?_⟩⟩;have dis:∀b∈D1,b∉D:=fun b hb z=>by
  obtain⟨o,ho⟩:=Sp1.there _ _ _ hv z;rw[hD1 b hb] at ho;cases ho
 refine⟨v',t,D1,100,rfl,Sp1.keep _ _ _ (fun b hb o _ e=>k2 b o (dis b hb) e) hv1,hf,hd,fun H3 D3 k3 hv3 hD3=>?_⟩;obtain⟨o1,o2⟩:=zCm 20 t 100 hf hd;refine⟨v,v',_,_,rfl,Sp1.rep _ _ D2 (Sp1.keep _ _ _ (fun b hb o _ e=>k3 b o (fun z=>dis b z (hD2 b hb)) e) hv2),Sp1.rep _ _ _ hv3,Sm.refl 20 _ o1 o2,fun H4 g4=>q H4 fun b o hb e=>g4 _ _ (k3 b o (fun z=>?_) (k2 b o hb (g1 _ _ e)))⟩;rw[hD1 b z] at e;cases e
abbrev zOj:Stmt:=top 72
def zPt:Sp:=fun vs H Q _=>∃(v:V)(t:T)(HD:Hp)(k:Nat),vs= [v]∧Rep HD v t∧Mx HD k H∧T.few t∧T.sz t≤2700∧k+T.cn t≤2700∧∀H',Mx HD (k+T.cn t) H'→My HD H H'→Q .non H'
theorem scSpo:zV ["_law_thing","_law_rest","_law_one"] ["_law_thing"] (zH zOj):=by walk_at "sc"
def SpW(HD H:Hp)(kM:Nat)(v:V)(m:Nat)(σ:St)(H2:Hp):Prop:=∃(r:Addr)(xs:List V)(us:List T)(k:Nat)(o:Option V),σ= [some v,some (.ref r),o]∧H2 r=some (.lst xs)∧HD r=none∧H r=none∧Reps HD xs us∧(∀u∈us,T.few u∧T.sz u≤2700)∧Mx HD k H2∧My HD H H2∧k+T.cns us≤kM∧m=xs.length+5400*T.cns us∧m≤14580001
theorem zVg{HD H H3:Hp}{k:Nat}{r1:Addr}{o:HO}(hHr:HD r1=none)(h0:H r1=none)(hM3:Mx HD k H3)(hY3:My HD H H3):Mx HD k (upd H3 r1 o)∧My HD H (upd H3 r1 o):=by
 refine⟨fun b u e=>?_,⟨fun b u h e=>?_,fun b ps h e=>?_⟩⟩
 ·rw[zO fun z=>by rw[z,hHr] at e;cases e];exact hM3 b u e
 ·rw[zO fun z=>by rw[z,h0] at e;cases e];exact hY3.keep b u h e
 ·rw[zO fun z=>by rw[z,hHr] at h;cases h];exact hY3.stay b ps h e
theorem zJz{HD H H2:Hp}{k:Nat}{p:Addr}(hM:Mx HD k H2)(hY:My HD H H2)(hp:H2 p=none):H p=none:=by
 cases e:H p with
 | none=>rfl
 | some o=>
  have:=hY.keep p o (hM.away hp) e;rw[hp] at this;cases this
theorem yCd(F:Fun K "_law_spoil" "_law_spoil" zOj f fd)(B:Bl mg):FnOk P w K mg base CX0 1 f fd ["_law_thing"] zPt:=by
 refine F.ok scSpo (by walk_at "ln") fun c A o s H vs Q E hr h=>?_;obtain⟨v,t,HD,k0,rfl,hv,hM,hf,hz,hk0,q⟩:=h;have nd:=scSpo.nd;have hu:=vK hr;have hu0:=hr.units0;refine⟨_,(zE (pS 1 nd (yG (zA (pv 0) zD)))
  (zG (zIy PassesOwn.never (zW (zHi hu0) (pv 1) (yG zD) (zR _)) (zE (pS 2 nd (zHt pY PySem.F.slot_list_pop PySem.F.type_list_pop yBd (pv 1)))
  (zE (zS (yA (pI B.isinstance zI B.dict yX (pv 2))) (zE (pS 1 nd (zJ kK (pv 1) (yN (gG rfl) rfl B.list yS (zA (zHt sZ aJ bX zBn (pv 2)) zD))))
  (zG (kG hu (pv 2) zY zF rfl))) zL)
  (zG (zS (yA (zN (vQ (T:="list") (U:="tuple") (by decide) (by decide)) rfl B.isinstance zI (zA (pv 2) (zA (xJ (zA (xP (v:=.ty "list") rfl B.list yS rfl) (zA (xP (v:=.ty "tuple") rfl B.tuple wU rfl) zD))) zD)))) (zE (pS 1 nd (zJ kK (pv 1) (yN qI rfl B.list yS (zA (pv 2) zD))))
  (zG (zS (yA (pI B.isinstance zI B.list yS (pv 2))) (zG (vJ (uO pY rW sU jV (pv 2) (zA zF zD)))) zL))) zL))))))), ?_⟩
 walk_at "st";walk_at "rd3";intro r hr0;have hc1:T.cns [t]=T.cn t:=Nat.add_zero _;refine⟨SpW HD H (k0+T.cn t) v,⟨_,r,[v],[t],k0,none,rfl,zB,hM.away hr0,hr0,⟨v,[],rfl,hv,rfl⟩,(fun u hu=>by rw[mO.mp hu];exact⟨hf,hz⟩),hM.new hr0 _,My.same (zC hr0 _),by rw[hc1];exact mE _,rfl,by rw[hc1,nL];lia⟩, ?_⟩;rintro m σ H2 ⟨r1,xs,us,k,o,rfl,hr1,hHr,hH0,hR,hall,hM2,hY,hkK,rfl,hm⟩;walk_at "rd3";intro pe hpe;have s3:=zC hpe (.lst []);have hM3:=hM2.new hpe (.lst []);have hY3:=hY.trans (My.same s3);have hr3:=s3 _ _ hr1;have he3:=zB (H:=H2) (a:=pe) (o:=.lst []);generalize upd H2 pe (.lst [])=H3 at s3 hM3 hY3 hr3 he3⊢;refine⟨r1,pe,xs,rfl,rfl,SqL.of hr3,SqL.of he3,_,rfl, ?_⟩;have hxl:=hR.length
 cases hx:xs.isEmpty with
 | true=>
  have e:=List.isEmpty_iff.mp hx;subst e;refine iN (by decide) (q _ ?_ hY3);exact hM3.mono (by lia)
 | false=>
  refine iP rfl ⟨fun σ' H'=>∃m',m'<xs.length+5400*T.cns us∧SpW HD H (k0+T.cn t) v m' σ' H',fun _ _ h=>h, ?_⟩;rcases List.eq_nil_or_concat xs with e |⟨xs',x,e⟩
  ·rw[e] at hx;cases hx
  rw[List.concat_eq_append] at e;subst e;obtain⟨us',t',rfl,hR',hx'⟩:=hR.unsnoc;have hcn:T.cns (us'++ [t'])=T.cns us'+T.cn t':=by rw[T.cns_append];rfl
  rw[hcn] at hkK hm⊢;rw[mL] at hm hxl⊢;rw[mL] at hxl;obtain⟨hft,hzt⟩:=hall t' (nM _ mM);have hall':∀u∈us',T.few u∧T.sz u≤2700:=fun u hu=>hall u (pH _ hu);walk_at "rd3";refine⟨.inl ⟨rfl,_,SqL.of hr3⟩,r1,_,x,rfl,rfl,hr3,by simp, ?_⟩;rw[List.dropLast_concat];obtain⟨hM4,hY4⟩:=zVg (o:=.lst xs') hHr hH0 hM3 hY3;have hr4:=zB (H:=H3) (a:=r1) (o:=.lst xs');generalize upd H3 r1 (.lst xs')=H4 at hM4 hY4 hr4⊢;have hxH:∀o',HD r1=some o'→False:=fun o' e=>by rw[hHr] at e;cases e
  have leaf:tyS H4 x=some (tyT t')→zM (tyT t') "dict" =false→zM (tyT t') "list" =false→zM (tyT t') "tuple" =false→∃x_1,tyS H4 x=some x_1∧(∀p,H4 p=none→∃m',m'<xs'.length+ [x].length+5400*(T.cns us'+T.cn t')∧SpW HD H (k0+T.cn t) v m' [some v,some (V.ref r1),some x] (upd H4 p (.tup [V.ty "list",V.ty "tuple"]))):=fun h1 h2 h3 h4=>⟨_,h1,fun p hp=>⟨xs'.length+5400*T.cns us',by rw[nL];lia,r1,xs',us',k,_,rfl,zC hp _ _ _ hr4,hHr,hH0,hR',hall',hM4.new hp _,hY4.trans (My.same (zC hp _)),by lia,rfl,by lia⟩⟩
  cases t' with
  | lst us=>
   have hv0:=hx';obtain⟨a,ys,rfl,ha,hs⟩:=hx';obtain⟨o',haH,hmo⟩:=hM4 a _ ha;obtain⟨j,hj,rfl⟩:=hmo.lst;have hyl:=hs.length;have hul:=T.szs_len us;have hzt':T.szs us+1≤2700:=hzt;have hcu:T.cn (.lst us)=T.cns us+1:=rfl;rw[hcu] at hkK hm⊢;refine⟨"list",wI haH,iN (by decide) fun p hp=>?_⟩;have s5:=zC hp (.tup [V.ty "list",V.ty "tuple"]);have hM5:=hM4.new hp (.tup [V.ty "list",V.ty "tuple"]);have e5:=zB (H:=H4) (a:=p) (o:=.tup [V.ty "list",V.ty "tuple"]);have hY5:=hY4.trans (My.same s5);generalize upd H4 p (.tup [V.ty "list",V.ty "tuple"])=H5 at s5 hM5 e5 hY5⊢;have ha5:=s5 _ _ haH;have hr5:=s5 _ _ hr4;refine⟨_,"list",p,⟨rfl,rfl⟩,e5,wI ha5,iP (by decide) ⟨a,rfl,_, .inl (SqL.of ha5),fun l hl=>?_⟩⟩;have s6:=zC hl (.lst (ys++List.replicate j moV));have hM6:=hM5.new hl (.lst (ys++List.replicate j moV));have e6:=zB (H:=H5) (a:=l) (o:=.lst (ys++List.replicate j moV));have hY6:=hY5.trans (My.same s6);generalize upd H5 l (.lst (ys++List.replicate j moV))=H6 at s6 hM6 e6 hY6⊢;have hlen:(ys++List.replicate j moV).length≤5399:=by rw[mL,nQ];lia
   refine⟨r1,l,_,_,rfl,rfl,s6 _ _ hr5,e6,by rw[mR];rw[nL] at hm;lia,fun p7 hp7=>?_⟩;have s7:=zC hp7 (.lst (xs'++(ys++List.replicate j moV)));have hM7:=hM6.new hp7 (.lst (xs'++(ys++List.replicate j moV)));have e7:=zB (H:=H6) (a:=p7) (o:=.lst (xs'++(ys++List.replicate j moV)));have hY7:=hY6.trans (My.same s7);have hD7:=hM6.away hp7;have hH7:=zJz hM6 hY6 hp7;generalize upd H6 p7 (.lst (xs'++(ys++List.replicate j moV)))=H7 at s7 hM7 e7 hY7⊢;have ha7:=s7 _ _ (s6 _ _ ha5);refine⟨"list",wI ha7,iP (by decide) ⟨.inl ⟨rfl,_,SqL.of ha7⟩,a,_,_,rfl,rfl,ha7,by rw[mR];lia, ?_⟩⟩;have hne:p7≠a:=fun z=>by rw[z,ha] at hD7;cases hD7
   refine⟨(xs'++(ys++List.replicate j moV)).length+5400*(T.cns us'+T.cns us), ?_,p7,xs'++(ys++List.replicate j moV),us'++(us++List.replicate j (.int 7)),k+1,_,rfl,by rw[zO hne];exact e7,hD7,hH7,Reps.append (Reps.append (Reps.sevens j) hs) hR',fun u hu=>?_, ?_,hY7.trans (My.putL ha _), ?_, ?_, ?_⟩
   ·rw[mL];lia
   ·rcases mT.mp hu with z | z
    ·exact hall' u z
    ·rcases mT.mp z with z | z
     ·have:=T.szs_le z
      exact⟨T.fews_mem hft.2 z,by lia⟩
     ·rw[List.eq_of_mem_replicate z];exact⟨mH,by decide⟩
   ·refine(hM7.mono (rF k)).put ha (.inr (.inl ⟨ys,j+1,rfl,by lia, ?_⟩))
    rw[bK,←rP]
    rfl
   ·rw[T.cns_append,T.cns_append,T.cns_sevens];lia
   ·rw[T.cns_append,T.cns_append,T.cns_sevens];rfl
   ·rw[mL];rw[nL] at hm;lia
  | dic ks us=>
   have hv0:=hx';obtain⟨a,ps,rfl,ha,hkk,hs⟩:=hx';obtain⟨o',haH,hmo⟩:=hM4 a _ ha;obtain⟨qs,hq,rfl⟩:∃qs,(qs=ps∨qs=yY ps moK (.int 7))∧o'= .dK qs:=by
    rcases hmo.dic with e | e
    ·exact⟨ps, .inl rfl,e⟩
    ·exact⟨_, .inr rfl,e⟩
   have hyl:=hs.length;rw[mI] at hyl;have hul:=T.szs_len us;have hzt':T.szs us+1≤2700:=hzt;have hcu:T.cn (.dic ks us)=T.cns us+1:=rfl;rw[hcu] at hkK hm⊢;obtain⟨us7,hR7,hc7,hm7,hl7⟩:=Reps.put7 (k:=moK) hs hq;have hql:=hR7.length;rw[mI] at hql;refine⟨"dict",wK haH,iP (by decide) ⟨.inr (.inr (.inl ⟨rfl, .inl ⟨qs,haH⟩⟩)),a,rfl,⟨qs, .inl haH⟩,fun p hp=>⟨a,zB,qs, ?_⟩⟩⟩;have s5:=zC hp (zAg p a);have hM5:=hM4.new hp (zAg p a);have hY5:=hY4.trans (My.same s5);generalize upd H4 p (zAg p a)=H5 at s5 hM5 hY5⊢;have ha5:=s5 _ _ haH;have hr5:=s5 _ _ hr4;refine⟨.inl ha5,fun l hl=>?_⟩;have s6:=zC hl (.lst (qs.map (·.2)));have hM6:=hM5.new hl (.lst (qs.map (·.2)));have e6:=zB (H:=H5) (a:=l) (o:=.lst (qs.map (·.2)));have hY6:=hY5.trans (My.same s6);generalize upd H5 l (.lst (qs.map (·.2)))=H6 at s6 hM6 e6 hY6⊢;refine⟨r1,l,_,_,rfl,rfl,s6 _ _ hr5,e6,by rw[mR,mI];rw[nL] at hm;lia,fun p7 hp7=>?_⟩;have s7:=zC hp7 (.lst (xs'++qs.map (·.2)));have hM7:=hM6.new hp7 (.lst (xs'++qs.map (·.2)));have e7:=zB (H:=H6) (a:=p7) (o:=.lst (xs'++qs.map (·.2)));have hY7:=hY6.trans (My.same s7);have hD7:=hM6.away hp7;have hH7:=zJz hM6 hY6 hp7;generalize upd H6 p7 (.lst (xs'++qs.map (·.2)))=H7 at s7 hM7 e7 hY7⊢;have ha7:=s7 _ _ (s6 _ _ ha5);have hne:p7≠a:=fun z=>by rw[z,ha] at hD7;cases hD7
   have hput:yY qs moK (.int 7)=yY ps moK (.int 7):=by
    rcases hq with e | e
    ·rw[e]
    ·rw[e,zTd]
   refine⟨a,rfl,_,DPut.k (k:=moK) ha7 (by rw[mR];lia),fun p9 hp9=>?_⟩;rw[hput] at hp9⊢;have hM8:Mx HD (k+1) (upd H7 a (.dK (yY ps moK (.int 7)))):=(hM7.mono (rF k)).put ha (.inr (.inr ⟨ps,rfl,rfl⟩));have hY8:=hY7.trans (My.putD (H:=H7) ha);have e8:upd H7 a (.dK (yY ps moK (.int 7))) p7=some (.lst (xs'++qs.map (·.2))):=by rw[zO hne];exact e7
   have ha8:=zB (H:=H7) (a:=a) (o:=.dK (yY ps moK (.int 7)));generalize upd H7 a (.dK (yY ps moK (.int 7)))=H8 at hM8 hY8 e8 ha8 hp9⊢;have s9:=zC hp9 (.tup [V.ty "list",V.ty "tuple"]);refine⟨_,"dict",p9,⟨rfl,rfl⟩,zB,wK (s9 _ _ ha8),iN (by decide) ?_⟩;refine⟨(xs'++qs.map (·.2)).length+5400*(T.cns us'+T.cns us7), ?_,p7,_,us'++us7,k+1,_,rfl,s9 _ _ e8,hD7,hH7,Reps.append hR7 hR',fun u hu=>?_,hM8.new hp9 _,hY8.trans (My.same s9), ?_, ?_, ?_⟩
   ·rw[mL,mI];lia
   ·rcases mT.mp hu with z | z
    ·exact hall' u z
    ·rcases hm7 u z with z | z
     ·have:=T.szs_le z
      exact⟨T.fews_mem hft.2.2.2 z,by lia⟩
     ·rw[z];exact⟨mH,by decide⟩
   ·rw[T.cns_append];lia
   ·rw[T.cns_append]
   ·rw[mL,mI];rw[nL] at hm;lia
  | tup us=>exact hft.elim
  | non=>
   have hv:Rep H4 x T.non:=hx';obtain⟨ty,h1,h2⟩:=leaf hv.ty rfl rfl rfl;exact⟨_,hv.ty,iN (by simp[tyT,zM]) fun p hp=>⟨_,_,p,⟨rfl,rfl⟩,zB,wT (zC hp _) hv.ty,iN (by simp[tyT,zM]) (h2 p hp)⟩⟩
  | bl b=>
   have hv:Rep H4 x (T.bl b):=hx';obtain⟨ty,h1,h2⟩:=leaf hv.ty rfl rfl rfl;exact⟨_,hv.ty,iN (by simp[tyT,zM]) fun p hp=>⟨_,_,p,⟨rfl,rfl⟩,zB,wT (zC hp _) hv.ty,iN (by simp[tyT,zM]) (h2 p hp)⟩⟩
  | int b=>
   have hv:Rep H4 x (T.int b):=hx';obtain⟨ty,h1,h2⟩:=leaf hv.ty rfl rfl rfl;exact⟨_,hv.ty,iN (by simp[tyT,zM]) fun p hp=>⟨_,_,p,⟨rfl,rfl⟩,zB,wT (zC hp _) hv.ty,iN (by simp[tyT,zM]) (h2 p hp)⟩⟩
  | str b=>
   have hv:Rep H4 x (T.str b):=hx';obtain⟨ty,h1,h2⟩:=leaf hv.ty rfl rfl rfl;exact⟨_,hv.ty,iN (by simp[tyT,zM]) fun p hp=>⟨_,_,p,⟨rfl,rfl⟩,zB,wT (zC hp _) hv.ty,iN (by simp[tyT,zM]) (h2 p hp)⟩⟩
inductive Wd where
 | put | ins | tak
def Wd.s:Wd→Str
 | .put=>Str.ofString "put"
 | .ins=>Str.ofString "insert"
 | .tak=>Str.ofString "take"
def vV:Wd→T→Key→Bool
 | .tak,t,k=>(yJ t k).isSome
 | .put, .dic _ _, .inr _=>true
 | .put, .lst us, .inl i=>decide (i≤(us.length:Int))
 | .ins, .lst us, .inl i=>decide (i≤(us.length:Int))
 | _,_,_=>false
def yF(n:List Nat):List (List Nat)→List T→List T
 | k::ks,u::us=>if k=n then yF n ks us else u::yF n ks us
 | _,_=>[]
def xK(n:List Nat):List (List Nat)→List (List Nat)
 | k::ks=>if k=n then xK n ks else k::xK n ks
 | []=>[]
def yH:Wd→T→Key→T→T
 | .put, .dic ks us, .inr s,n=>.dic (xO (ks,us) (ts s) n).1 (xO (ks,us) (ts s) n).2
 | .tak, .dic ks us, .inr s,_=>.dic (xK (ts s) ks) (yF (ts s) ks us)
 | .put, .lst us, .inl i,n=>.lst (us.take i.toNat++n::us.drop (i.toNat+1))
 | .ins, .lst us, .inl i,n=>.lst (us.take i.toNat++n::us.drop i.toNat)
 | .tak, .lst us, .inl i,_=>.lst (us.take i.toNat++us.drop (i.toNat+1))
 | _,t,_,_=>t
def wH:Wd→T→Key→T→T
 | .put, .dic ks us, .inr s,n=>.dic (xK (ts s) ks++ [ts s]) (yF (ts s) ks us++ [n])
 | w,t,k,n=>yH w t k n
def bld(st:List T)(ks:List Key):Nat→T→T
 | 0,r=>r
 | m+1,r=>bld st ks m (yH .put (st.getD m .non) (ks.getD m (.inl 0)) r)
def chG(w:Wd)(pt:T→Key→T)(t:T)(ks:List Key)(n:T):Sum Nat T:=
 match ks.getLast? with
 | none=>match w with
  | .put=>.inr n
  | _=>.inl 0
 | some k=>if(goT t ks.dropLast).length<ks.length then .inl ((goT t ks.dropLast).length - 1) else
  match (goT t ks.dropLast).getLast? with
  | none=>.inl 0
  | some s=>if vV w s k=true then .inr (bld (goT t ks.dropLast) ks (ks.length - 1) (pt s k)) else .inl (ks.length - 1)
theorem dropN_mem{n k:List Nat}:∀{ks:List (List Nat)},k∈xK n ks↔k∈ks∧k≠n
 | []=>by simp[xK]
 | k'::ks=>by
  unfold xK;split
  ·rename_i e
   rw[dropN_mem (ks:=ks),e];constructor
   ·exact fun h=>⟨mJ _ h.1,h.2⟩
   ·rintro⟨h1,h2⟩
    rcases mF.mp h1 with z | z
    ·exact absurd z h2
    ·exact⟨z,h2⟩
  ·rename_i e
   rw[mF,dropN_mem (ks:=ks),mF];constructor
   ·rintro(h | h)
    ·exact⟨.inl h,by rw[h];exact e⟩
    ·exact⟨.inr h.1,h.2⟩
   ·rintro⟨h1 | h1,h2⟩
    ·exact .inl h1
    ·exact .inr ⟨h1,h2⟩
theorem wA{n:List Nat}:∀{ks:List (List Nat)},ks.Nodup→(xK n ks).Nodup
 | [],_=>by simp[xK]
 | k::ks,h=>by
  rw[nZ] at h;unfold xK;split
  ·exact wA h.2
  ·rw[nZ]
   exact⟨fun z=>h.1 (dropN_mem.mp z).1,wA h.2⟩
theorem jA{n:List Nat}:∀{ks:List (List Nat)}{us:List T},ks.length=us.length→(xK n ks).length=(yF n ks us).length∧(yF n ks us).length≤us.length
 | [],[],_=>⟨rfl,mE _⟩
 | [],_::_,h=>by simp at h
 | _::_,[],h=>by simp at h
 | k::ks,u::us,h=>by
  obtain⟨h1,h2⟩:=jA (n:=n) (ks:=ks) (us:=us) (by simpa using h);unfold xK yF;split
  ·exact⟨h1,tX h2⟩
  ·exact⟨by rw[nG,nG,h1],tH h2⟩
theorem vT{n:List Nat}{u:T}:∀{ks:List (List Nat)}{us:List T},u∈yF n ks us→u∈us
 | [],us,h=>by cases us<;>simp[yF] at h
 | _::_,[],h=>by simp[yF] at h
 | k::ks,v::us,h=>by
  unfold yF at h;split at h
  ·exact mJ _ (vT h)
  ·rcases mF.mp h with z | z
   ·rw[z];exact mM
   ·exact mJ _ (vT z)
theorem zFq{n k:List Nat}(hk:k≠n):∀{ks:List (List Nat)}{us:List T},ks.length=us.length→xG k (xK n ks) (yF n ks us)=xG k ks us
 | [],[],_=>rfl
 | [],_::_,h=>by simp at h
 | _::_,[],h=>by simp at h
 | k'::ks,u::us,h=>by
  have ih:=zFq hk (ks:=ks) (us:=us) (by simpa using h);unfold xK yF;split
  ·rename_i e
   rw[ih];show _=if k'=k then u else xG k ks us;rw[mG (by rw[e];exact Ne.symm hk)]
  ·show(if k'=k then u else xG k (xK n ks) (yF n ks us))=if k'=k then u else xG k ks us
   rw[ih]
theorem kR{k n:List Nat}{t:T}:∀{ks:List (List Nat)}{us:List T},ks.length=us.length→k∈ks→xG k (ks++ [n]) (us++ [t])=xG k ks us
 | [],_,_,h=>nomatch h
 | _::_,[],h,_=>by simp at h
 | k'::ks,u::us,hl,h=>by
  show(if k'=k then u else xG k (ks++ [n]) (us++ [t]))=if k'=k then u else xG k ks us
  by_cases e:k'=k
  ·rw[mK e,mK e]
  ·rw[mG e,mG e]
   rcases mF.mp h with z | z
   ·exact absurd z.symm e
   ·exact kR (by simpa using hl) z
theorem kE{n:List Nat}{t:T}:∀{ks:List (List Nat)}{us:List T},ks.length=us.length→n∉ks→xG n (ks++ [n]) (us++ [t])=t
 | [],[],_,_=>mK rfl
 | [],_::_,h,_=>by simp at h
 | _::_,[],h,_=>by simp at h
 | k'::ks,u::us,hl,h=>by
  show(if k'=n then u else xG n (ks++ [n]) (us++ [t]))=t;rw[mG (fun e=>h (by rw[e];exact mM))];exact kE (by simpa using hl) fun z=>h (mJ _ z)
theorem kO{n k:List Nat}{t:T}:∀{ks:List (List Nat)}{us:List T},ks.length=us.length→n∈ks→xG k ks (yI n t ks us)=if k=n then t else xG k ks us
 | [],_,_,h=>nomatch h
 | _::_,[],h,_=>by simp at h
 | k'::ks,u::us,hl,h=>by
  show(if k'=k then(if k'=n then t else u) else xG k ks (yI n t ks us))=if k=n then t else if k'=k then u else xG k ks us
  by_cases e:k'=k
  ·rw[mK e,mK e,e]
  ·rw[mG e,mG e]
   by_cases hm:n∈ks
   ·exact kO (by simpa using hl) hm
   ·have e2:k'=n:=by
     rcases mF.mp h with z | z
     ·exact z.symm
     ·exact absurd z hm
    rw[mG (by rw[←e2];exact Ne.symm e)];have:∀(ks:List (List Nat))(us:List T),n∉ks→yI n t ks us=us:=by
     intro ks
     induction ks with
     | nil=>intro us _;unfold yI;rfl
     | cons a ks ih=>
      intro us hn
      cases us with
      | nil=>rfl
      | cons b us=>
       show(if a=n then t else b)::yI n t ks us=b::us;rw[mG (fun z=>hn (by rw[z];exact mM)),ih us fun z=>hn (mJ _ z)]
    rw[this ks us hm]
theorem zNb{n k:List Nat}{t:T}{ks:List (List Nat)}{us:List T}(hl:ks.length=us.length)(hk:k∈ks∨k=n):k∈(xO (ks,us) n t).1∧xG k (xO (ks,us) n t).1 (xO (ks,us) n t).2=if k=n then t else xG k ks us:=by
 by_cases hm:n∈ks
 ·have e:xO (ks,us) n t=(ks,yI n t ks us):=mK hm
  rw[e];refine⟨?_,kO hl hm⟩;rcases hk with z | z
  ·exact z
  ·rw[z];exact hm
 ·have e:xO (ks,us) n t=(ks++ [n],us++ [t]):=mG hm
  rw[e]
  by_cases hkn:k=n
  ·rw[mK hkn,hkn]
   exact⟨by simp,kE hl hm⟩
  ·rw[mG hkn]
   have hkk:k∈ks:=hk.resolve_right hkn;exact⟨pH _ hkk,kR hl hkk⟩
theorem zFp{n:List Nat}{t:T}:∀{ks:List (List Nat)}{us:List T},ks.Nodup→ks.length=us.length→n∈ks→T.szs (yI n t ks us)=T.szs (yF n ks us)+T.sz t
 | [],_,_,_,h=>nomatch h
 | _::_,[],_,h,_=>by simp at h
 | k::ks,u::us,nd,hl,h=>by
  rw[nZ] at nd
  by_cases e:k=n
  ·have h2:∀(ks:List (List Nat))(us:List T),ks.length=us.length→n∉ks→yI n t ks us=us∧yF n ks us=us:=by
    intro ks
    induction ks with
    | nil=>intro us hl _;cases us with
     | nil=>exact⟨rfl,rfl⟩
     | cons _ _=>simp at hl
    | cons a ks ih=>
     intro us hl hn
     cases us with
     | nil=>simp at hl
     | cons b us=>
      obtain⟨i1,i2⟩:=ih us (by simpa using hl) fun z=>hn (mJ _ z);have ne:¬a=n:=fun z=>hn (by rw[z];exact mM);refine⟨?_, ?_⟩
      ·show(if a=n then t else b)::yI n t ks us=b::us
       rw[mG ne,i1]
      ·show(if a=n then yF n ks us else b::yF n ks us)=b::us
       rw[mG ne,i2]
   obtain⟨i1,i2⟩:=h2 ks us (by simpa using hl) (by rw[←e];exact nd.1);show T.szs ((if k=n then t else u)::yI n t ks us)=T.szs (if k=n then yF n ks us else u::yF n ks us)+T.sz t;rw[mK e,mK e,i1,i2];show T.sz t+T.szs us=_
   lia
  ·have hm:n∈ks:=by
    rcases mF.mp h with z | z
    ·exact absurd z.symm e
    ·exact z
   have ih:=zFp (t:=t) nd.2 (by simpa using hl) hm (us:=us);show T.szs ((if k=n then t else u)::yI n t ks us)=T.szs (if k=n then yF n ks us else u::yF n ks us)+T.sz t;rw[mG e,mG e];show T.sz u+T.szs (yI n t ks us)=T.sz u+T.szs (yF n ks us)+T.sz t
   lia
theorem jO{n:List Nat}:∀{ks:List (List Nat)}{us:List T},T.szs (yF n ks us)≤T.szs us
 | [],us=>by
  have e:yF n [] us= []:=by cases us<;>rfl
  rw[e];exact nY _
 | _::_,[]=>mE _
 | k::ks,u::us=>by
  have ih:=jO (n:=n) (ks:=ks) (us:=us);show T.szs (if k=n then yF n ks us else u::yF n ks us)≤T.sz u+T.szs us;split
  ·lia
  ·show T.sz u+_≤_;lia
theorem qL{n:List Nat}:∀{ks:List (List Nat)}{us:List T},ks.length=us.length→n∉ks→yF n ks us=us∧xK n ks=ks
 | [],[],_,_=>⟨rfl,rfl⟩
 | [],_::_,h,_=>by simp at h
 | _::_,[],h,_=>by simp at h
 | k::ks,u::us,hl,hn=>by
  obtain⟨i1,i2⟩:=qL (n:=n) (ks:=ks) (us:=us) (by simpa using hl) fun z=>hn (mJ _ z);have ne:¬k=n:=fun z=>hn (by rw[z];exact mM);refine⟨?_, ?_⟩
  ·show(if k=n then yF n ks us else u::yF n ks us)=_
   rw[mG ne,i1]
  ·show(if k=n then xK n ks else k::xK n ks)=_
   rw[mG ne,i2]
theorem zDq{n:List Nat}{t:T}{ks:List (List Nat)}{us:List T}(nd:ks.Nodup)(hl:ks.length=us.length):T.szs (xO (ks,us) n t).2=T.szs (yF n ks us)+T.sz t:=by
 by_cases hm:n∈ks
 ·have e:xO (ks,us) n t=(ks,yI n t ks us):=mK hm
  rw[e];exact zFp nd hl hm
 ·have e:xO (ks,us) n t=(ks++ [n],us++ [t]):=mG hm
  rw[e,(qL hl hm).1];show T.szs (us++ [t])=_;rw[T.szs_append];rfl
theorem zYo{us:List T}:us.length≤T.szs us:=T.szs_len us
theorem zNn{m:Nat}{a b:List T}(h:T.fewms m b)(s:∀t∈a,t∈b):T.fewms m a:=T.fewms_of fun t ht=>T.fewms_mem h (s t ht)
theorem zGu{us:List T}{i j:Nat}(h:i≤j):T.szs (us.take i)+T.szs (us.drop j)≤T.szs us:=by
 have e:us=us.take i++us.drop i:=(cG i us).symm;have e2:T.szs us=T.szs (us.take i)+T.szs (us.drop i):=by conv=>lhs;rw[e,T.szs_append]
 have e3:us.drop i=(us.drop i).take (j - i)++us.drop j:=by
  have:=(cG (j - i) (us.drop i)).symm;rw[List.drop_drop,show i+(j - i)=j by lia] at this;exact this
 have e4:T.szs (us.drop i)=T.szs ((us.drop i).take (j - i))+T.szs (us.drop j):=by conv=>lhs;rw[e3,T.szs_append]
 lia
theorem zAq{a b:List T}{d:Nat}(h:T.deps b≤d)(s:∀t∈a,t∈b):T.deps a≤d:=T.deps_of fun t ht=>nN (T.deps_le (s t ht)) h
theorem zYw{m:Nat}{us:List T}{n:T}{i j:Nat}(hij:i≤j)(hf:T.fewm m (.lst us))(hn:T.fewm m n)(hz:T.sz (.lst us)≤50000):
  T.fewm m (.lst (us.take i++n::us.drop j))∧T.dep (.lst (us.take i++n::us.drop j))≤max (T.dep (.lst us)) (T.dep n+1)∧T.sz (.lst (us.take i++n::us.drop j))≤T.sz (.lst us)+T.sz n:=by
 have hz':T.szs us+1≤50000:=hz;have hl:=zYo (us:=us);have hc:=zGu (us:=us) hij;have hs:∀t∈us.take i++n::us.drop j,t∈us∨t=n:=fun t ht=>by
  rcases mT.mp ht with z | z
  ·exact .inl (rB z)
  ·rcases mF.mp z with z | z
   ·exact .inr z
   ·exact .inl (rX z)
 refine⟨⟨?_,T.fewms_of fun t ht=>?_⟩, ?_, ?_⟩
 ·rw[mL,nG,nW,pU];lia
 ·rcases hs t ht with z | z
  ·exact T.fewms_mem hf.2 z
  ·rw[z];exact hn
 ·show T.deps (us.take i++n::us.drop j)+1≤max (T.deps us+1) (T.dep n+1)
  have:T.deps (us.take i++n::us.drop j)≤max (T.deps us) (T.dep n):=T.deps_of fun t ht=>by
   rcases hs t ht with z | z
   ·have:=T.deps_le z;lia
   ·rw[z];lia
  lia
 ·show T.szs (us.take i++n::us.drop j)+1≤T.szs us+1+T.sz n
  rw[T.szs_append];show T.szs (us.take i)+(T.sz n+T.szs (us.drop j))+1≤_
  lia
theorem zKn{m:Nat}{ks ls:List (List Nat)}{us vs:List T}{n:T}(hf:T.fewm m (.dic ks us))(hn:T.fewm m n)(nd:ls.Nodup)(hl:ls.length=vs.length)(hlen:vs.length≤us.length+1)(hs:∀t∈vs,t∈us∨t=n)(hz:T.szs vs≤T.szs us+T.sz n):
  T.fewm (m+1) (.dic ls vs)∧T.dep (.dic ls vs)≤max (T.dep (.dic ks us)) (T.dep n+1)∧T.sz (.dic ls vs)≤T.sz (.dic ks us)+T.sz n:=by
 obtain⟨nk,hm,hku,hu⟩:=hf;refine⟨⟨nd,by lia,hl,T.fewms_of fun t ht=>?_⟩, ?_, ?_⟩
 ·rcases hs t ht with z | z
  ·exact T.fewm_mono (rF m) _ (T.fewms_mem hu z)
  ·rw[z];exact T.fewm_mono (rF m) _ hn
 ·show T.deps vs+1≤max (T.deps us+1) (T.dep n+1)
  have:T.deps vs≤max (T.deps us) (T.dep n):=T.deps_of fun t ht=>by
   rcases hs t ht with z | z
   ·have:=T.deps_le z;lia
   ·rw[z];lia
  lia
 ·show T.szs vs+1≤T.szs us+1+T.sz n
  lia
theorem kN{m:Nat}{t n:T}(hf:T.fewm m t):T.fewm (m+1) t∧T.dep t≤max (T.dep t) (T.dep n+1)∧T.sz t≤T.sz t+T.sz n:=⟨T.fewm_mono (rF m) _ hf,Nat.le_max_left _ _,dM _ _⟩
theorem zMy{m:Nat}{us:List T}{n:T}{i j:Nat}(hij:i≤j)(hf:T.fewm m (.lst us))(hn:T.fewm m n)(hz:T.sz (.lst us)≤50000):
  T.fewm (m+1) (.lst (us.take i++n::us.drop j))∧T.dep (.lst (us.take i++n::us.drop j))≤max (T.dep (.lst us)) (T.dep n+1)∧T.sz (.lst (us.take i++n::us.drop j))≤T.sz (.lst us)+T.sz n:=by
 obtain⟨h1,h2,h3⟩:=zYw hij hf hn hz;exact⟨T.fewm_mono (rF m) _ h1,h2,h3⟩
theorem zWd{m:Nat}{us:List T}{n:T}{i:Nat}(hf:T.fewm m (.lst us)):
  T.fewm (m+1) (.lst (us.take i++us.drop (i+1)))∧T.dep (.lst (us.take i++us.drop (i+1)))≤max (T.dep (.lst us)) (T.dep n+1)∧T.sz (.lst (us.take i++us.drop (i+1)))≤T.sz (.lst us)+T.sz n:=by
 have hc:=zGu (us:=us) (i:=i) (j:=i+1) (by lia);have hs:∀t∈us.take i++us.drop (i+1),t∈us:=fun t ht=>(mT.mp ht).elim rB rX;refine⟨⟨?_,T.fewms_mono (rF m) _ (zNn hf.2 hs)⟩, ?_, ?_⟩
 ·have:=hf.1
  rw[mL,nW,pU];lia
 ·show T.deps (us.take i++us.drop (i+1))+1≤max (T.deps us+1) (T.dep n+1)
  have:=zAq (mE (T.deps us)) hs
  lia
 ·show T.szs (us.take i++us.drop (i+1))+1≤T.szs us+1+T.sz n
  rw[T.szs_append];lia
theorem zQe{m:Nat}{ks:List (List Nat)}{us:List T}{n:T}{x:List Nat}(hf:T.fewm m (.dic ks us))(hn:T.fewm m n):
  T.fewm (m+1) (.dic (xK x ks) (yF x ks us))∧T.dep (.dic (xK x ks) (yF x ks us))≤max (T.dep (.dic ks us)) (T.dep n+1)∧T.sz (.dic (xK x ks) (yF x ks us))≤T.sz (.dic ks us)+T.sz n:=by
 obtain⟨l1,l2⟩:=jA (n:=x) hf.2.2.1;have:=jO (n:=x) (ks:=ks) (us:=us);exact zKn hf hn (wA hf.1) l1 (by lia) (fun t ht=>.inl (vT ht)) (by lia)
theorem zDi{m:Nat}{w:Wd}{t n:T}{k:Key}(hf:T.fewm m t)(hn:T.fewm m n)(hz:T.sz t≤50000):T.fewm (m+1) (yH w t k n)∧T.dep (yH w t k n)≤max (T.dep t) (T.dep n+1)∧T.sz (yH w t k n)≤T.sz t+T.sz n:=by
 cases t with
 | dic ks us=>
  cases k with
  | inr x=>
   cases w with
   | put=>
    obtain⟨l1,l2⟩:=zAw (ks:=ks) (us:=us) (n:=ts x) (t:=n) hf.2.2.1;have:=jO (n:=ts x) (ks:=ks) (us:=us);have hz2:=zDq (n:=ts x) (t:=n) hf.1 hf.2.2.1;exact zKn hf hn (kC hf.1) l1 l2 (fun t ht=>zAp ht) (by lia)
   | ins=>exact kN hf
   | tak=>exact zQe hf hn
  | inl i=>cases w<;>exact kN hf
 | lst us=>
  cases k with
  | inl i=>
   cases w with
   | put=>exact zMy (rF _) hf hn hz
   | ins=>exact zMy (mE _) hf hn hz
   | tak=>exact zWd hf
  | inr x=>cases w<;>exact kN hf
 | tup us=>exact hf.elim
 | non=>cases w<;>exact kN hf
 | bl b=>cases w<;>exact kN hf
 | int b=>cases w<;>exact kN hf
 | str b=>cases w<;>exact kN hf
theorem zEa{w:Wd}{t n:T}{k:Key}(h:¬∃ks us x,w= .put∧t= .dic ks us∧k= .inr x):wH w t k n=yH w t k n:=by
 cases w<;>cases t<;>cases k<;>first | rfl | exact absurd ⟨_,_,_,rfl,rfl,rfl⟩ h
theorem zRl{m:Nat}{w:Wd}{t n:T}{k:Key}(hf:T.fewm m t)(hn:T.fewm m n)(hz:T.sz t≤50000):T.fewm (m+1) (wH w t k n)∧T.dep (wH w t k n)≤max (T.dep t) (T.dep n+1)∧T.sz (wH w t k n)≤T.sz t+T.sz n:=by
 by_cases h:∃ks us x,w=Wd.put∧t= .dic ks us∧k= .inr x
 ·obtain⟨ks,us,x,rfl,rfl,rfl⟩:=h
  obtain⟨l1,l2⟩:=jA (n:=ts x) hf.2.2.1;have:=jO (n:=ts x) (ks:=ks) (us:=us);refine zKn (ls:=xK (ts x) ks++ [ts x]) (vs:=yF (ts x) ks us++ [n]) hf hn ?_ ?_ ?_ (fun t ht=>?_) ?_
  ·rw[cD]
   refine⟨wA hf.1,by simp,fun a ha b hb z=>?_⟩;rw[mO.mp hb] at z;exact(dropN_mem.mp ha).2 z
  ·rw[mL,mL,l1];rfl
  ·rw[mL,nL];lia
  ·rcases mT.mp ht with z | z
   ·exact .inl (vT z)
   ·exact .inr (mO.mp z)
  ·rw[T.szs_append]
   show _+(T.sz n+0)≤_
   lia
 ·rw[zEa h];exact zDi hf hn hz
theorem zWp{m d:Nat}{w:Wd}{t n:T}{k:Key}(hm:m<63)(hf:T.fewm m t)(hn:T.fewm m n)(hz:T.sz t≤50000)(hd:T.dep t<d)(hdn:T.dep n+1<d):Sm d (yH w t k n) (wH w t k n):=by
 by_cases h:∃ks us x,w=Wd.put∧t= .dic ks us∧k= .inr x
 ·obtain⟨ks,us,x,rfl,rfl,rfl⟩:=h
  obtain⟨e,rfl⟩:∃e,d=e+1:=⟨d - 1,by lia⟩;have hd':T.deps us+1<e+1:=hd;obtain⟨p1,p2⟩:=zAw (ks:=ks) (us:=us) (n:=ts x) (t:=n) hf.2.2.1;obtain⟨l1,l2⟩:=jA (n:=ts x) hf.2.2.1;have hz2:=zDq (n:=ts x) (t:=n) hf.1 hf.2.2.1;have hku:=hf.2.1;have hul:=hf.2.2.1;refine⟨?_,⟨kC hf.1, ?_,p1, ?_, ?_, ?_⟩,fun k hk=>?_⟩
  ·show T.szs (xO (ks,us) (ts x) n).2+1≤T.szs (yF (ts x) ks us++ [n])+1
   rw[T.szs_append,hz2];exact mE _
  ·rw[cD]
   refine⟨wA hf.1,by simp,fun a ha b hb z=>?_⟩;rw[mO.mp hb] at z;exact(dropN_mem.mp ha).2 z
  ·rw[mL,mL,l1];rfl
  ·rw[mL,nL]
   by_cases hx:ts x∈ks
   ·have e1:xO (ks,us) (ts x) n=(ks,yI (ts x) n ks us):=mK hx
    rw[e1];show(yI (ts x) n ks us).length=_;rw[xL];have:∀(ks:List (List Nat))(us:List T),ks.Nodup→ks.length=us.length→ts x∈ks→us.length=(yF (ts x) ks us).length+1:=by
     intro ks
     induction ks with
     | nil=>intro us _ _ h;exact nomatch h
     | cons a ks ih=>
      intro us nd hl hm
      cases us with
      | nil=>simp at hl
      | cons b us=>
       rw[nZ] at nd;show us.length+1=(if a=ts x then yF (ts x) ks us else b::yF (ts x) ks us).length+1
       by_cases ea:a=ts x
       ·rw[mK ea,(qL (by simpa using hl) (by rw[←ea];exact nd.1)).1]
       ·rw[mG ea,nG]
        rcases mF.mp hm with z | z
        ·exact absurd z.symm ea
        ·rw[ih us nd.2 (by simpa using hl) z]
    exact this ks us hf.1 hul hx
   ·have e1:xO (ks,us) (ts x) n=(ks++ [ts x],us++ [n]):=mG hx
    rw[e1,(qL hul hx).1];show(us++ [n]).length=_;rw[mL];rfl
  ·rw[mL,nL];lia
  ·have hk':k∈ks∨k=ts x:=by
    rcases mT.mp hk with z | z
    ·exact .inl (dropN_mem.mp z).1
    ·exact .inr (mO.mp z)
   obtain⟨q1,q2⟩:=zNb (n:=ts x) (t:=n) hul hk';refine⟨q1, ?_⟩;rw[q2]
   by_cases e1:k=ts x
   ·rw[mK e1,e1,kE l1 fun z=>(dropN_mem.mp z).2 rfl]
    exact Sm.refl e n (T.few_okq _ (T.fewm_few (by lia) _ hn)) (by lia)
   ·have hkk:=hk'.resolve_right e1
    rw[mG e1,kR l1 (dropN_mem.mpr ⟨hkk,e1⟩),zFq e1 hul];have hmm:=vD hkk hul;have:=T.deps_le hmm;exact Sm.refl e _ (T.few_okq _ (T.fewm_few (by lia) _ (T.fewms_mem hf.2.2.2 hmm))) (by lia)
 ·rw[zEa h]
  obtain⟨h1,h2,h3⟩:=zDi (w:=w) (k:=k) hf hn hz;exact Sm.refl d _ (T.few_okq _ (T.fewm_few (by lia) _ h1)) (by lia)
theorem zMx{r:T}:∀{us:List T}{i:Nat}{u:T},us[i]? =some u→T.szs (us.set i r)+T.sz u=T.szs us+T.sz r
 | [],_,_,h=>by simp at h
 | v::us,0,u,h=>by
  have e:v=u:=by simpa using h
  subst e;show T.sz r+T.szs us+T.sz v=T.sz v+T.szs us+T.sz r
  lia
 | v::us,i+1,u,h=>by
  have ih:=zMx (r:=r) (us:=us) (i:=i) (u:=u) (by simpa using h);show T.sz v+T.szs (us.set i r)+T.sz u=T.sz v+T.szs us+T.sz r
  lia
theorem zJu{n:List Nat}{r:T}:∀{ks:List (List Nat)}{us:List T},ks.Nodup→ks.length=us.length→n∈ks→T.szs (yI n r ks us)+T.sz (xG n ks us)=T.szs us+T.sz r
 | [],_,_,_,h=>nomatch h
 | _::_,[],_,h,_=>by simp at h
 | k::ks,u::us,nd,hl,h=>by
  rw[nZ] at nd;show T.szs ((if k=n then r else u)::yI n r ks us)+T.sz (if k=n then u else xG n ks us)=T.sz u+T.szs us+T.sz r
  by_cases e:k=n
  ·rw[mK e,mK e]
   have h2:yI n r ks us=us:=by
    have z:=zDq (n:=n) (t:=r) nd.2 (by simpa using hl) (us:=us);have hn:n∉ks:=by rw[←e];exact nd.1
    have:∀(ks:List (List Nat))(us:List T),n∉ks→yI n r ks us=us:=by
     intro ks
     induction ks with
     | nil=>intro us _;unfold yI;rfl
     | cons a ks ih=>
      intro us hn
      cases us with
      | nil=>rfl
      | cons b us=>
       show(if a=n then r else b)::yI n r ks us=b::us;rw[mG (fun z=>hn (by rw[z];exact mM)),ih us fun z=>hn (mJ _ z)]
    exact this ks us hn
   rw[h2];show T.sz r+T.szs us+T.sz u=_
   lia
  ·rw[mG e,mG e]
   have hm:n∈ks:=by
    rcases mF.mp h with z | z
    ·exact absurd z.symm e
    ·exact z
   have ih:=zJu (r:=r) nd.2 (by simpa using hl) hm (us:=us);show T.sz u+T.szs (yI n r ks us)+T.sz (xG n ks us)=_
   lia
theorem wF{t u:T}{k:Key}(hs:yJ t k=some u):(∃us i,t= .lst us∧k= .inl i∧us[i.toNat]? =some u∧∀r,yH .put t k r= .lst (us.set i.toNat r))∨(∃ks us x,t= .dic ks us∧k= .inr x∧ts x∈ks∧u=xG (ts x) ks us∧∀r,yH .put t k r= .dic ks (yI (ts x) r ks us)):=by
 cases t with
 | lst us=>
  cases k with
  | inl i=>
   have h:us[i.toNat]? =some u:=hs;refine .inl ⟨us,i,rfl,rfl,h,fun r=>?_⟩;show T.lst (us.take i.toNat++r::us.drop (i.toNat+1))=_;have hi:=(mQ.mp h).1;rw[List.set_eq_take_append_cons_drop,mK hi]
  | inr x=>cases hs
 | dic ks us=>
  cases k with
  | inl i=>cases hs
  | inr x=>
   have h':(if ts x∈ks then some (xG (ts x) ks us) else none)=some u:=hs
   by_cases hm:ts x∈ks
   ·rw[mK hm] at h'
    refine .inr ⟨ks,us,x,rfl,rfl,hm,(mW h').symm,fun r=>?_⟩;have e:xO (ks,us) (ts x) r=(ks,yI (ts x) r ks us):=mK hm;show T.dic (xO (ks,us) (ts x) r).1 (xO (ks,us) (ts x) r).2=_;rw[e]
   ·rw[mG hm] at h';cases h'
 | non=>cases hs
 | bl b=>cases hs
 | int b=>cases hs
 | str b=>cases hs
 | tup us=>cases hs
theorem zHm{m:Nat}{t u r:T}{k:Key}(hf:T.fewm m t)(hs:yJ t k=some u):T.sz (yH .put t k r)+T.sz u=T.sz t+T.sz r:=by
 rcases wF hs with⟨us,i,rfl,rfl,h,e⟩|⟨ks,us,x,rfl,rfl,hm,rfl,e⟩
 ·rw[e]
  have:=zMx (r:=r) h;show T.szs _+1+_=T.szs us+1+_
  lia
 ·rw[e]
  have:=zJu (r:=r) hf.1 hf.2.2.1 hm;show T.szs _+1+_=T.szs us+1+_
  lia
theorem zQv{m:Nat}{t u r:T}{k:Key}(hf:T.fewm m t)(hs:yJ t k=some u)(hr:T.fewm m r):T.fewm m (yH .put t k r)∧T.dep (yH .put t k r)≤max (T.dep t) (T.dep r+1):=by
 rcases wF hs with⟨us,i,rfl,rfl,h,e⟩|⟨ks,us,x,rfl,rfl,hm,rfl,e⟩
 ·rw[e]
  have hsub:∀t∈us.set i.toNat r,t∈us∨t=r:=fun t ht=>List.mem_or_eq_of_mem_set ht;refine⟨⟨by rw[rH];exact hf.1,T.fewms_of fun t ht=>?_⟩, ?_⟩
  ·rcases hsub t ht with z | z
   ·exact T.fewms_mem hf.2 z
   ·rw[z];exact hr
  ·show T.deps _+1≤max (T.deps us+1) (T.dep r+1)
   have:T.deps (us.set i.toNat r)≤max (T.deps us) (T.dep r):=T.deps_of fun t ht=>by
    rcases hsub t ht with z | z
    ·have:=T.deps_le z;lia
    ·rw[z];lia
   lia
 ·rw[e]
  refine⟨⟨hf.1,hf.2.1,by rw[xL];exact hf.2.2.1,T.fewms_of fun t ht=>?_⟩, ?_⟩
  ·rcases jW _ _ _ _ _ ht with z | z
   ·exact T.fewms_mem hf.2.2.2 z
   ·rw[z];exact hr
  ·show T.deps _+1≤max (T.deps us+1) (T.dep r+1)
   have:T.deps (yI (ts x) r ks us)≤max (T.deps us) (T.dep r):=T.deps_of fun t ht=>by
    rcases jW _ _ _ _ _ ht with z | z
    ·have:=T.deps_le z;lia
    ·rw[z];lia
   lia
theorem zZa{d m:Nat}{t u r r':T}{k:Key}(hm:m≤63)(hf:T.fewm m t)(hs:yJ t k=some u)(hd:T.dep t<d+1)(h:Sm d r r'):Sm (d+1) (yH .put t k r) (yH .put t k r'):=by
 have hsz:T.sz (yH .put t k r)≤T.sz (yH .put t k r'):=by
  have h1:=zHm (r:=r) hf hs;have h2:=zHm (r:=r') hf hs;have:=h.sz
  lia
 have hok:=T.few_okq _ (T.fewm_few hm _ hf);refine⟨hsz, ?_⟩;rcases wF hs with⟨us,i,rfl,rfl,hi,e⟩|⟨ks,us,x,rfl,rfl,hmx,rfl,e⟩
 ·rw[e,e]
  have hd':T.deps us+1<d+1:=hd;have hil:=(mQ.mp hi).1;refine⟨by rw[rH,rH],by rw[rH];exact hok.1,fun j a b h1 h2=>?_⟩
  by_cases hj:i.toNat=j
  ·subst hj
   rw[aW hil] at h1 h2;rw[←mW h1,←mW h2];exact h
  ·rw[sP hj] at h1 h2
   rw[h1] at h2;cases h2;have hmm:=mP h1;have:=T.deps_le hmm;exact Sm.refl d a (T.okqs_mem hok.2 hmm) (by lia)
 ·rw[e,e]
  have hd':T.deps us+1<d+1:=hd;refine⟨⟨hf.1,hf.1,by rw[xL];exact hf.2.2.1,by rw[xL];exact hf.2.2.1,by rw[xL,xL],by rw[xL];exact hok.2.2.1⟩,fun k hk=>⟨hk, ?_⟩⟩;rw[kO hf.2.2.1 hmx,kO hf.2.2.1 hmx]
  by_cases ek:k=ts x
  ·rw[mK ek,mK ek];exact h
  ·rw[mG ek,mG ek]
   have hmm:=vD hk hf.2.2.1;have:=T.deps_le hmm;exact Sm.refl d _ (T.okqs_mem hok.2.2.2 hmm) (by lia)
theorem zEw{m:Nat}{t u:T}{k:Key}(hf:T.fewm m t)(hs:yJ t k=some u):T.fewm m u∧T.dep u+1≤T.dep t∧T.sz u≤T.sz t:=by
 rcases wF hs with⟨us,i,rfl,rfl,h,e⟩|⟨ks,us,x,rfl,rfl,hm,rfl,e⟩
 ·have hmm:=mP h
  have:=T.deps_le hmm;have:=T.szs_le hmm;exact⟨T.fewms_mem hf.2 hmm,(show _≤T.deps us+1 by lia),(show _≤T.szs us+1 by lia)⟩
 ·have hmm:=vD hm hf.2.2.1
  have:=T.deps_le hmm;have:=T.szs_le hmm;exact⟨T.fewms_mem hf.2.2.2 hmm,(show _≤T.deps us+1 by lia),(show _≤T.szs us+1 by lia)⟩
theorem jQ:∀(ks:List Key)(t:T)(i:Nat),i+1<(goT t ks).length→∃k u v,ks[i]? =some k∧(goT t ks)[i]? =some u∧(goT t ks)[i+1]? =some v∧yJ u k=some v
 | [],t,i,h=>by
  have h':i+1<1:=h
  lia
 | k::ks,t,i,h=>by
  have e:goT t (k::ks)=(match yJ t k with | none=>[t] | some u=>t::goT u ks):=rfl
  cases hs:yJ t k with
  | none=>
   rw[hs] at e;rw[e] at h;have h':i+1<1:=h
   lia
  | some u=>
   rw[hs] at e;have e':goT t (k::ks)=t::goT u ks:=e;rw[e'] at h⊢
   cases i with
   | zero=>
    have hl:=(qJ u ks).1;obtain⟨v,hv⟩:∃v,(goT u ks)[0]? =some v:=⟨(goT u ks)[0],by simp⟩;have hv':v=u:=by
     cases ks with
     | nil=>have:(goT u [])[0]? =some u:=rfl;rw[this] at hv;exact(mW hv).symm
     | cons k2 ks=>
      have:goT u (k2::ks)=(match yJ u k2 with | none=>[u] | some u'=>u::goT u' ks):=rfl
      rw[this] at hv
      cases hs2:yJ u k2 with
      | none=>rw[hs2] at hv;exact(mW hv).symm
      | some _=>rw[hs2] at hv;exact(mW hv).symm
    refine⟨k,t,u,rfl,rfl, ?_,hs⟩;show(goT u ks)[0]? =some u;rw[hv,hv']
   | succ i=>
    obtain⟨k',u',v',h1,h2,h3,h4⟩:=jQ ks u i (by simpa using h);exact⟨k',u',v',by simpa using h1,by simpa using h2,by simpa using h3,h4⟩
theorem jC{m:Nat}:∀(ks:List Key)(t:T)(i:Nat)(u:T),T.fewm m t→(goT t ks)[i]? =some u→T.fewm m u∧T.dep u+i≤T.dep t∧T.sz u≤T.sz t
 | [],t,i,u,hf,h=>by
  have h': [t][i]? =some u:=h
  cases i with
  | zero=>rw[←mW h'];exact⟨hf,mE _,mE _⟩
  | succ i=>cases h'
 | k::ks,t,i,u,hf,h=>by
  have e:goT t (k::ks)=(match yJ t k with | none=>[t] | some u=>t::goT u ks):=rfl
  cases hs:yJ t k with
  | none=>
   rw[hs] at e;have e':goT t (k::ks)= [t]:=e;rw[e'] at h
   cases i with
   | zero=>rw[←mW h];exact⟨hf,mE _,mE _⟩
   | succ i=>cases h
  | some v=>
   rw[hs] at e;have e':goT t (k::ks)=t::goT v ks:=e;rw[e'] at h
   cases i with
   | zero=>rw[←mW h];exact⟨hf,mE _,mE _⟩
   | succ i=>
    obtain⟨a1,a2,a3⟩:=zEw hf hs;obtain⟨b1,b2,b3⟩:=jC ks v i u a1 (by simpa using h);exact⟨b1,by lia,by lia⟩
theorem zPp{m0:Nat}{st:List T}{ks:List Key}(hm:m0≤63):∀(m d:Nat)(r r':T),(∀i,i<m→∃u,yJ (st.getD i .non) (ks.getD i (.inl 0))=some u∧T.fewm m0 (st.getD i .non)∧T.dep (st.getD i .non)+i<d+m)→Sm d r r'→Sm (d+m) (bld st ks m r) (bld st ks m r')
 | 0,d,r,r',_,h=>h
 | m+1,d,r,r',hc,h=>by
  obtain⟨u,h1,h2,h3⟩:=hc m (rG m);have:=zPp hm m (d+1) _ _ (fun i hi=>by
   obtain⟨u,q1,q2,q3⟩:=hc i (sX hi);exact⟨u,q1,q2,by lia⟩) (zZa hm h2 h1 (by lia) h)
  rw[show d+(m+1)=d+1+m by lia];exact this
theorem zLh{m0 B Z:Nat}{st:List T}{ks:List Key}:∀(m:Nat)(r:T),(∀i,i<m→yJ (st.getD i .non) (ks.getD i (.inl 0))=some (st.getD (i+1) .non)∧T.fewm m0 (st.getD i .non)∧T.dep (st.getD i .non)+i≤B)→T.fewm m0 r→T.dep r+m≤B→T.sz r≤T.sz (st.getD m .non)+Z→T.fewm m0 (bld st ks m r)∧T.dep (bld st ks m r)≤B∧T.sz (bld st ks m r)≤T.sz (st.getD 0 .non)+Z
 | 0,r,_,h1,h2,h3=>⟨h1,h2,h3⟩
 | m+1,r,hc,h1,h2,h3=>by
  obtain⟨q1,q2,q3⟩:=hc m (rG m);obtain⟨p1,p2⟩:=zQv q2 q1 h1;have p3:=zHm (r:=r) q2 q1;exact zLh m _ (fun i hi=>hc i (sX hi)) p1 (by lia) (by lia)
theorem zPn{m0:Nat}{w:Wd}{t n:T}{ks:List Key}(hm:m0<62)(hf:T.fewm m0 t)(hn:T.fewm m0 n)(hz:T.sz t≤50000)(hd:T.dep t≤16)(hdn:T.dep n≤8)(h8:ks.length≤8):
  (∃j,chG w (fun s k=>yH w s k n) t ks n= .inl j∧chG w (fun s k=>wH w s k n) t ks n= .inl j)∨
  ∃r r',chG w (fun s k=>yH w s k n) t ks n= .inr r∧chG w (fun s k=>wH w s k n) t ks n= .inr r'∧Sm 20 r r'∧(T.fewm (m0+1) r∧T.dep r≤16∧T.sz r≤T.sz t+T.sz n)∧T.fewm (m0+1) r'∧T.dep r'≤16∧T.sz r'≤T.sz t+T.sz n:=by
 unfold chG
 cases hk:ks.getLast? with
 | none=>
  cases w with
  | put=>
   have hn':=T.fewm_mono (rF m0) _ hn;have hh:T.fewm (m0+1) n∧T.dep n≤16∧T.sz n≤T.sz t+T.sz n:=⟨hn',by lia,by lia⟩;exact .inr ⟨n,n,rfl,rfl,Sm.refl 20 n (T.few_okq _ (T.fewm_few (by lia) _ hn)) (by lia),hh,hh⟩
  | ins=>exact .inl ⟨0,rfl,rfl⟩
  | tak=>exact .inl ⟨0,rfl,rfl⟩
 | some k=>
  have hne:ks≠ []:=fun z=>by rw[z] at hk;cases hk
  have hpos:0<ks.length:=aM.mpr hne;have hdl:ks.dropLast.length=ks.length - 1:=sS;have hgl:=qJ t ks.dropLast;dsimp only
  by_cases hlt:(goT t ks.dropLast).length<ks.length
  ·rw[mK hlt,mK hlt];exact .inl ⟨_,rfl,rfl⟩
  ·rw[mG hlt,mG hlt]
   have hlen:(goT t ks.dropLast).length=ks.length:=by lia
   cases hs:(goT t ks.dropLast).getLast? with
   | none=>exact .inl ⟨_,rfl,rfl⟩
   | some s=>
    dsimp only
    by_cases hc:vV w s k=true
    ·rw[mK hc,mK hc]
     refine .inr ⟨_,_,rfl,rfl, ?_⟩;have hsi:(goT t ks.dropLast)[ks.length - 1]? =some s:=by rw[rT,hlen] at hs;exact hs
     obtain⟨s1,s2,s3⟩:=jC ks.dropLast t _ s hf hsi;have gd:∀i u,(goT t ks.dropLast)[i]? =some u→(goT t ks.dropLast).getD i .non=u:=fun i u h=>by rw[nI,h];rfl
     have cond:∀i,i<ks.length - 1→yJ ((goT t ks.dropLast).getD i .non) (ks.getD i (.inl 0))=some ((goT t ks.dropLast).getD (i+1) .non)∧T.fewm m0 ((goT t ks.dropLast).getD i .non)∧T.dep ((goT t ks.dropLast).getD i .non)+i≤16:=fun i hi=>by
      obtain⟨k',u,v,h1,h2,h3,h4⟩:=jQ ks.dropLast t i (by lia);obtain⟨a1,a2,a3⟩:=jC ks.dropLast t i u hf h2;have hki:ks.getD i (.inl 0)=k':=by
       have:ks[i]? =some k':=by
        rw[tK,mK hi] at h1;exact h1
       rw[nI,this];rfl
      rw[gd i u h2,gd (i+1) v h3,hki];exact⟨h4,a1,by lia⟩
     have st0:(goT t ks.dropLast).getD 0 .non=t:=by
      refine gd 0 t ?_
      cases hq:ks.dropLast with
      | nil=>rfl
      | cons k2 l=>
       have:goT t (k2::l)=(match yJ t k2 with | none=>[t] | some u'=>t::goT u' l):=rfl
       rw[this];cases yJ t k2<;>rfl
     have stl:(goT t ks.dropLast).getD (ks.length - 1) .non=s:=gd _ s hsi;obtain⟨pT1,pT2,pT3⟩:=zDi (w:=w) (k:=k) s1 hn (nN s3 hz);obtain⟨pL1,pL2,pL3⟩:=zRl (w:=w) (k:=k) s1 hn (nN s3 hz);have cond':∀i,i<ks.length - 1→yJ ((goT t ks.dropLast).getD i .non) (ks.getD i (.inl 0))=some ((goT t ks.dropLast).getD (i+1) .non)∧T.fewm (m0+1) ((goT t ks.dropLast).getD i .non)∧T.dep ((goT t ks.dropLast).getD i .non)+i≤16:=fun i hi=>by
      obtain⟨q1,q2,q3⟩:=cond i hi;exact⟨q1,T.fewm_mono (rF m0) _ q2,q3⟩
     have bT:=zLh (B:=16) (Z:=T.sz n) (ks.length - 1) (yH w s k n) cond' pT1 (by lia) (by rw[stl];exact pT3);have bL:=zLh (B:=16) (Z:=T.sz n) (ks.length - 1) (wH w s k n) cond' pL1 (by lia) (by rw[stl];exact pL3);rw[st0] at bT bL;refine⟨?_,bT,bL⟩;have:=zPp (m0:=m0) (by lia) (ks.length - 1) (20 - (ks.length - 1)) _ _ (fun i hi=>by
      obtain⟨q1,q2,q3⟩:=cond i hi;exact⟨_,q1,q2,by lia⟩) (zWp (m:=m0) (d:=20 - (ks.length - 1)) (w:=w) (t:=s) (n:=n) (k:=k) (by lia) s1 hn (nN s3 hz) (by lia) (by lia))
     rw[show 20 - (ks.length - 1)+(ks.length - 1)=20 by lia] at this;exact this
    ·rw[mG hc,mG hc];exact .inl ⟨_,rfl,rfl⟩
def qU:V→Bool
 | .str x=>yU (ts x)
 | _=>false
def zHu:Sp:=fun vs H Q _=>∃(v:V)(t:String),vs= [v]∧tyS H v=some t∧(∀x,v= .str x→x.length≤1000)∧∀H',Same H H'→Q (.bl (qU v)) H'
theorem zUp{H:Hp}{v:V}{t:String}(ht:tyS H v=some t)(h:zM t "str" =false):qU v=false:=by
 cases v with
 | str x=>cases ht;exact absurd h (by decide)
 | _=>rfl
theorem zYy{H:Hp}{v:V}{t:String}(ht:tyS H v=some t)(h:¬zM t "str" =false):∃x,v= .str x:=by
 cases v with
 | str x=>exact⟨x,rfl⟩
 | ref a=>
  have h':(match H a with | some (.lst _)=>some "list" | some (.tup _)=>some "tuple" | some (.dK _)=>some "dict" | _=>none)=some t:=ht
  split at h'<;>first |(cases h';exact absurd (by decide) h)| cases h'
 | non=>cases ht;exact absurd (by decide) h
 | bl b=>cases ht;exact absurd (by decide) h
 | int b=>cases ht;exact absurd (by decide) h
 | byt b=>cases ht
 | flt b=>cases ht
 | ty b=>cases ht
structure Ms(mg:Str→Option Value):Prop where
 LETTERS:∃t,mg "LETTERS" =some (.str (Str.ofString "abcdefghijklmnopqrstuvwxyz") t)
 NAME_SIGNS:∃t,mg "NAME_SIGNS" =some (.str (Str.ofString "abcdefghijklmnopqrstuvwxyz0123456789") t)
 MOST_IN_NAME:∃t,mg "MOST_IN_NAME" =some (.int 12 t)
 MOST_IN_TEXT:∃t,mg "MOST_IN_TEXT" =some (.int 30 t)
 MOST_IN_ROW:∃t,mg "MOST_IN_ROW" =some (.int 60 t)
 MOST_IN_RECORD:∃t,mg "MOST_IN_RECORD" =some (.int 30 t)
 MOST_DEPTH:∃t,mg "MOST_DEPTH" =some (.int 8 t)
 MOST_SIZE:∃t,mg "MOST_SIZE" =some (.int 200 t)
abbrev uB:Stmt:=top 10
theorem scIsName:zV ["thing"] ["thing"] (zH uB):=by walk_at "sc"
theorem zKd(F:Fun K "is_name" "is_name" uB f fd)(B:Bl mg)(M:Ms mg):FnOk P w K mg base CX0 1 f fd ["thing"] zHu:=by
 refine F.ok scIsName (by walk_at "ln") fun c A o s H vs Q E hr h=>?_;obtain⟨v,t,rfl,ht,hl,q⟩:=h;have nd:=scIsName.nd;refine⟨_,(zE (zS (PW.pt (gZ (xX (yA (pI B.isinstance zI B.str qR (pv 0)))) (jN (xX (zQx jY jY zF (zN zAm rfl B.len xH (zA (pv 0) zD)) (zDp rfl M.MOST_IN_NAME)))))) (zG (zK vO)) zL)
  (zG (zK (xV (yZ zMg (yR gJ (pv 0) zF (fun _ _=>rfl)) (zXv rfl M.LETTERS) (by with_unfolding_all rfl)) (xY (zN (vX rfl) rfl B.all gL (zA (xE (own:=["sign"]) (F:=[]) ⟨rfl,by walk_at "wu",by walk_at "wu",by walk_at "wu", .nil⟩ rfl (zQc (pv 0)) (fun _ _ _ _=>yB (i:=0) (by show(xS ["sign"] []).Nodup;decide+kernel) rfl (nR rfl)) (fun _ _ _ _=>yW) (fun _ _ _ _=>(yZ zMg (pv 0) (zXv rfl M.NAME_SIGNS) (by with_unfolding_all rfl)))) zD))))))), ?_⟩
 walk_at "st";walk_at "rd3";refine⟨t,ht, ?_⟩
 by_cases hs:zM t "str" =false
 ·rw[mK hs]
  have e:qU v=false:=zUp ht hs;rw[←e];exact q H (Same.refl H)
 ·rw[mG hs]
  obtain⟨x,rfl⟩:=zYy ht hs;have hx:=hl x rfl;have hlen:=zDc x;refine⟨x,rfl,by lia, ?_⟩
  by_cases h1:(1:Int)≤(x.length:Int)
  ·rw[mK h1]
   by_cases h12:¬(x.length:Int)≤12
   ·rw[mK h12]
    have e:qU (.str x)=false:=by
     show yU (ts x)=false;unfold yU;rw[show decide ((ts x).length≤12)=false from nE (by lia)];simp
    rw[←e];exact q H (Same.refl H)
   rw[mG h12];obtain⟨c,r,hc⟩:∃c r,ts x=c::r:=by
    cases e:ts x with
    | nil=>rw[e] at hlen;simp at hlen;lia
    | cons c r=>exact⟨c,r,rfl⟩
   refine uV (by rw[mR];lia) (c:=c) (by rw[hc];exact xI (j:=0) rfl) ⟨c,rfl, ?_⟩;have en:qU (.str x)=(decide (c∈letL)&& (ts x).all fun c=>decide (c∈letL++zBo)):=by
    show yU (ts x)=_;unfold yU;rw[show decide ((ts x).length≤12)=true from nB (by lia),show decide (1≤(ts x).length)=true from nB (by lia),hc];simp
   simp only[zZu]
   by_cases hcl:c∈letL
   ·rw[mK hcl]
    refine⟨x,rfl,zJf (fun i ys H'=>Same H H'∧ys=(((ts x).take i).map fun c=>decide (c∈letL++zBo)).map V.bl) (by rw[mR];lia) ⟨Same.refl _,rfl⟩ ?_ ?_⟩
    ·rintro i d ys H' hd _ ⟨hS,rfl⟩
     walk_at "rd3";refine⟨d,rfl,hS, ?_⟩;have e:(ts x).take (i+1)=(ts x).take i++ [d]:=by rw[dF,hd];rfl
     rw[e,zGg];simp only[mX,mU,sQ]
    ·rintro ys H' hl' ⟨hS,rfl⟩ p hp
     refine⟨p,rfl,_,SqL.of zB, ?_⟩;have e:qU (.str x)=((((ts x).take (ts x).length).map fun c=>decide (c∈letL++zBo)).all id):=by
      rw[en,nB hcl,cF,nX,tM];rfl
     rw[←e];exact q _ (hS.trans (zC hp _))
   ·rw[mG hcl]
    have e:qU (.str x)=false:=by rw[en,nE hcl];rfl
    rw[←e];exact q H (Same.refl H)
  ·rw[mG h1]
   have e:qU (.str x)=false:=by
    have:ts x= []:=bA (by lia);show yU (ts x)=false;rw[this];rfl
   rw[←e];exact q H (Same.refl H)
abbrev kL:Stmt:=top 9
abbrev zBb:Stmt:=top 39
def wG(t:String):V:=if t= "NoneType" then .str "nothing" else if t= "bool" then .str "truth" else if t= "int" then .str "number" else if t= "str" then .str "text" else if t= "list" then .str "row" else if t= "dict" then .str "record" else .non
def tyM:List String:=["NoneType","bool","int","str","list","tuple","dict"]
theorem zWw(t:T):tyT t∈tyM:=by cases t<;>simp[tyT,tyM]
def zKw:Sp:=fun vs H Q _=>∃(v:V)(t:T),vs= [v]∧Rep H v t∧∀H',Same H H'→Q (wG (tyT t)) H'
theorem zXf{H:Hp}{v:V}{t:T}(h:Rep H v t):v= .non↔tyT t= "NoneType":=by
 constructor
 ·intro e
  subst e;have:=h.ty;exact(mW this).symm
 ·intro e
  cases t with
  | non=>exact h
  | _=>exact absurd e (by simp[tyT])
theorem scKindOf:zV ["thing"] ["thing"] (zH kL):=by walk_at "sc"
theorem zLp(F:Fun K "kind_of" "kind_of" kL f fd)(B:Bl mg):FnOk P w K mg base CX0 1 f fd ["thing"] zKw:=by
 refine F.ok scKindOf (by walk_at "ln") fun c A o s H vs Q E hr h=>?_;obtain⟨v,t,rfl,hv,q⟩:=h;have nd:=scKindOf.nd;refine⟨_,(zE (zS (zGh (zLd (pv 0))) (zG (zK zY)) zL)
  (zE (zS (yA (pI B.isinstance zI B.bool uA (pv 0))) (zG (zK zY)) zL)
  (zE (zS (yA (pI B.isinstance zI B.int gM (pv 0))) (zG (zK zY)) zL)
  (zE (zS (yA (pI B.isinstance zI B.str qR (pv 0))) (zG (zK zY)) zL)
  (zE (zS (yA (pI B.isinstance zI B.list yS (pv 0))) (zG (zK zY)) zL)
  (zE (zS (yA (pI B.isinstance zI B.dict yX (pv 0))) (zG (zK zY)) zL)
  (zG (zK qV)))))))), ?_⟩
 walk_at "st";walk_at "rd3";have q:=q H (Same.refl H);have ht:=hv.ty;have hm:=zWw t;have hn:=zXf hv;simp only[ht,Option.some.injEq,dS];generalize tyT t=y at hm hn q;simp only[tyM,mF,rC,bI] at hm
 by_cases hv:v= .non
 ·rw[mK hv];rw[hn.mp hv] at q;exact q
 ·rw[mG hv]
  rcases hm with rfl | rfl | rfl | rfl | rfl | rfl | rfl
  ·exact absurd (hn.mpr rfl) hv
  all_goals (simpa [zM,wG] using q)
def uU:T→Bool
 | .int i=>decide (0≤i∧i<60)
 | _=>false
def zAl:Sp:=fun vs H Q _=>∃(v:V)(t:T),vs= [v]∧Rep H v t∧∀H',Same H H'→Q (.bl (uU t)) H'
theorem scPlace:zV ["thing"] ["thing"] (zH zBb):=by walk_at "sc"
theorem zSq(F:Fun K "is_place" "is_place" zBb f fd)(B:Bl mg)(M:Ms mg)(Gkind_of:Dn P w K mg base 1 "kind_of" ["thing"] zKw):FnOk P w K mg base CX0 2 f fd ["thing"] zAl:=by
 refine F.ok scPlace (by walk_at "ln") fun c A o s H vs Q E hr h=>?_;obtain⟨v,t,rfl,hv,q⟩:=h;have nd:=scPlace.nd;refine⟨_,(zG (zK (xV (yZ xC (zU Gkind_of hr (by lia) rfl (zA (pv 0) zD)) zY (zR _)) (xY (zJi jY zBx zF (pv 0) (zDp rfl M.MOST_IN_ROW)))))), ?_⟩;walk_at "st";walk_at "rd3";refine⟨v,t,rfl,hv,fun H1 g1=>?_⟩;have q:=q H1 g1
 cases t with
 | int i=>
  cases (show v=_ from hv);refine⟨rfl,iP (show wG "int" =V.str (Str.ofString "number") by decide+kernel) ⟨i,rfl, ?_⟩⟩
  by_cases c0:0≤i
  ·refine iP c0 ⟨i,rfl, ?_⟩
   have e:uU (.int i)=decide (i<60):=by simp[uU,c0]
   rw[←e];exact q
  ·refine iN c0 ?_
   have e:uU (.int i)=false:=by simp[uU,c0]
   rw[←e];exact q
 | non=>exact⟨rfl,iN (show¬wG "NoneType" =V.str (Str.ofString "number") by decide+kernel) q⟩
 | bl b=>exact⟨rfl,iN (show¬wG "bool" =V.str (Str.ofString "number") by decide+kernel) q⟩
 | str b=>exact⟨rfl,iN (show¬wG "str" =V.str (Str.ofString "number") by decide+kernel) q⟩
 | lst b=>exact⟨rfl,iN (show¬wG "list" =V.str (Str.ofString "number") by decide+kernel) q⟩
 | dic b c=>exact⟨rfl,iN (show¬wG "dict" =V.str (Str.ofString "number") by decide+kernel) q⟩
 | tup b=>exact⟨rfl,iN (show¬wG "tuple" =V.str (Str.ofString "number") by decide+kernel) q⟩
abbrev sLw:Stmt:=top 50
abbrev sCc:Stmt:=top 51
abbrev zOs:Stmt:=top 53
abbrev zNj:Stmt:=top 54
abbrev zFz:Stmt:=top 52
theorem zJv{k:Key}(h:okK k)(i:Int)(e:k= .inl i):uU (.int i)=true:=by
 subst e;have h':0≤i∧i≤59:=h;simp only[uU,rA]
 lia
theorem zHn(xs:List V){i:Int}(h:0≤i):jU xs none (some i)=xs.take i.toNat:=by
 obtain⟨n,rfl⟩:=tD h;unfold jU;rw[HT.sIx_nat,HT.sIx_none,tF,dN,rZ]
 by_cases c:n≤xs.length
 ·rw[tT c]
 ·rw[aI (by lia),pK (mE _),pK (by lia)]
theorem kS(xs:List V){i:Int}(h:0≤i):jU xs (some i) none=xs.drop i.toNat:=by
 obtain⟨n,rfl⟩:=tD h;unfold jU;rw[HT.sIx_nat,HT.sIx_none,rZ]
 by_cases c:n≤xs.length
 ·rw[tT c,pK (by rw[pU];exact mE _)]
 ·rw[aI (by lia),aZ (mE _),aZ (by lia),dB]
theorem Reps.dropK{H:Hp}{n:List Nat}:∀{ps:List (Key×V)}{ks:List (List Nat)}{us:List T},ps.map (·.1)=ks.map nK→Reps H (ps.map (·.2)) us→(L2.dropK ps (nK n)).map (·.1)=(xK n ks).map nK∧Reps H ((L2.dropK ps (nK n)).map (·.2)) (yF n ks us)
 | [],[],us,_,h=>by
  have e:us= []:=by
   cases us with
   | nil=>rfl
   | cons _ _=>obtain⟨v,r,e,_⟩:=h;cases e
  subst e;exact⟨rfl,rfl⟩
 | [],_::_,_,e,_=>by simp at e
 | _::_,[],_,e,_=>by simp at e
 | p::ps,k::ks,[],_,h=>by
  have h':(p::ps).map (·.2)= []:=h;cases h'
 | p::ps,k::ks,u::us,e,⟨v',r,e0,h1,h2⟩=>by
  have e':p.2::ps.map (·.2)=v'::r:=e0;injection e' with e1 e2;subst e1 e2;have e3:p.1::ps.map (·.1)=nK k::ks.map nK:=e;injection e3 with e4 e5;obtain⟨i1,i2⟩:=Reps.dropK (n:=n) e5 h2;unfold L2.dropK at i1 i2⊢;rw[dI];unfold xK yF
  by_cases hk:k=n
  ·rw[mG (by simp[e4,hk]),mK hk,mK hk]
   exact⟨i1,i2⟩
  ·rw[mK (by rw[e4];exact nB fun z=>hk (zAc z)),mG hk,mG hk]
   exact⟨by rw[mU,mU,e4,i1],_,_,rfl,h1,i2⟩
theorem scLw:zV ["thing","step"] ["thing","step"] (zH sLw):=by walk_at "sc"
theorem ok_lw(F:Fun K "leads_within" "leads_within" sLw f fd)(B:Bl mg)(Gleads_on:Dn P w K mg base 1 "leads_on" ["thing","step"] zEd)(Gis_place:Dn P w K mg base 2 "is_place" ["thing"] zAl):FnOk P w K mg base CX0 3 f fd ["thing","step"] zEd:=by
 refine F.ok scLw (by walk_at "ln") fun c A o s H vs Q E hr h=>?_;obtain⟨v,t,k,rfl,hv,hp,hz,hk,q⟩:=h;have nd:=scLw.nd;refine⟨_,(zG (zK (xV (zU Gleads_on hr (by lia) rfl (zA (pv 0) (zA (pv 1) zD))) (xY (pe_or (pI B.isinstance zI B.str qR (pv 1)) (xY (zU Gis_place hr (by lia) rfl (zA (pv 1) zD)))))))), ?_⟩;walk_at "st";walk_at "rd3";refine⟨v,t,k,rfl,hv,hp,hz,hk,fun H1 g1=>⟨_,rfl, ?_⟩⟩;have q1:=q H1 g1
 cases hb:(yJ t k).isSome with
 | false=>rw[hb] at q1;exact iN (by decide) q1
 | true=>
  refine iP rfl ?_
  cases k with
  | inr x=>rw[hb] at q1;exact⟨"str",rfl,iP (by decide) q1⟩
  | inl i=>
   refine⟨"int",rfl,iN (by decide) ⟨_, .int i,rfl,rfl,fun H2 g2=>?_⟩⟩;rw[zJv hk i rfl];have q2:=q H2 (g1.trans g2);rw[hb] at q2;exact q2
def yBl:Sp:=fun vs H Q _=>∃(v:V)(t:T)(w:Wd)(k:Key),vs= [v, .str w.s,kV k]∧Rep H v t∧T.pure t∧T.sz t≤100000∧okK k∧∀H',Same H H'→Q (.bl (vV w t k)) H'
theorem scCc:zV ["holder","word","step"] ["holder","word","step"] (zH sCc):=by walk_at "sc"
theorem ok_cc(F:Fun K "can_change" "can_change" sCc f fd)(B:Bl mg)(Gleads_within:Dn P w K mg base 3 "leads_within" ["thing","step"] zEd)(Gis_place:Dn P w K mg base 2 "is_place" ["thing"] zAl):FnOk P w K mg base CX0 4 f fd ["holder","word","step"] yBl:=by
 refine F.ok scCc (by walk_at "ln") fun c A o s H vs Q E hr h=>?_;obtain⟨v,t,wd,k,rfl,hv,hp,hz,hk,q⟩:=h;have nd:=scCc.nd;refine⟨_,(zE (zS (zW xC (pv 1) zY (zR _)) (zG (zK (zU Gleads_within hr (by lia) rfl (zA (pv 0) (zA (pv 2) zD))))) zL)
  (zE (zS (yA (pI B.isinstance zI B.str qR (pv 2))) (zG (zK (xV (yZ xC (pv 1) zY (zR _)) (xY (pI B.isinstance zI B.dict yX (pv 0)))))) zL)
  (zG (zK (xV (pI B.isinstance zI B.list yS (pv 0)) (xV (zU Gis_place hr (by lia) rfl (zA (pv 2) zD)) (xY (yZ jY (pv 2) (zN yL rfl B.len xH (zA (pv 0) zD)) (zR _))))))))), ?_⟩
 walk_at "st";walk_at "rd3";have q0:=q H (Same.refl H);have tPut:¬Wd.put.s=Str.ofString "take":=by decide+kernel
 have tIns:¬Wd.ins.s=Str.ofString "take":=by decide+kernel
 have pIns:¬Wd.ins.s=Str.ofString "put":=by decide+kernel
 have row:∀(wd:Wd)(i:Int),k= .inl i→(∀us,t= .lst us→vV wd t k=decide (i≤(us.length:Int)))→((∀us,t≠ .lst us)→vV wd t k=false)→(∀H',Same H H'→Q (.bl (vV wd t k)) H')→∃x,tyS H v=some x∧if zM x "list" =true then zAl [kV k] H (fun x H1=>∃c,x=V.bl c∧if c=true then∃p,v=V.ref p∧∃ys,SqL K H1 p ys∧∃i,kV k=V.int i∧Q (V.bl (decide (i≤(ys.length:Int)))) H1 else Q (V.bl false) H1) E0 else Q (V.bl false) H:=by
  intro wd i ek h1 h2 q;subst ek;have no:(∀us,t≠ .lst us)→Q (.bl false) H:=fun hne=>by have:=q H (Same.refl H);rw[h2 hne] at this;exact this
  cases t with
  | lst us=>
   obtain⟨b,xs,rfl,hb,hx⟩:=hv;refine⟨"list",wI hb,iP (by decide) ⟨_, .int i,rfl,rfl,fun H2 g2=>⟨_,rfl, ?_⟩⟩⟩;rw[zJv hk i rfl];refine iP rfl ⟨b,rfl,xs,SqL.of (g2 _ _ hb),i,rfl, ?_⟩;have q2:=q H2 g2;rw[h1 us rfl] at q2;rw[hx.length];exact q2
  | dic ks us=>exact⟨_,hv.ty,iN (by simp[tyT,zM]) (no (by intro us z;cases z))⟩
  | tup us=>exact hp.elim
  | non=>exact⟨_,hv.ty,iN (by simp[tyT,zM]) (no (by intro us z;cases z))⟩
  | bl b=>exact⟨_,hv.ty,iN (by simp[tyT,zM]) (no (by intro us z;cases z))⟩
  | int b=>exact⟨_,hv.ty,iN (by simp[tyT,zM]) (no (by intro us z;cases z))⟩
  | str b=>exact⟨_,hv.ty,iN (by simp[tyT,zM]) (no (by intro us z;cases z))⟩
 cases wd with
 | tak=>exact iP rfl ⟨v,t,k,rfl,hv,hp,hz,hk,q⟩
 | put=>
  refine iN tPut ?_
  cases k with
  | inr x=>
   refine⟨"str",rfl,iP (by decide) (iP rfl ⟨_,hv.ty, ?_⟩)⟩;have e:zM (tyT t) "dict" =vV .put t (.inr x):=by cases t<;>first | rfl |(simp[tyT,zM,vV])
   rw[e];exact q0
  | inl i=>exact⟨"int",rfl,iN (by decide) (row .put i rfl (fun us e=>by subst e;rfl) (fun h=>by cases t<;>first | rfl | exact absurd rfl (h _)) q)⟩
 | ins=>
  refine iN tIns ?_
  cases k with
  | inr x=>
   refine⟨"str",rfl,iP (by decide) (iN pIns ?_)⟩;have e:vV .ins t (.inr x)=false:=by cases t<;>rfl
   rw[e] at q0;exact q0
  | inl i=>exact⟨"int",rfl,iN (by decide) (row .ins i rfl (fun us e=>by subst e;rfl) (fun h=>by cases t<;>first | rfl | exact absurd rfl (h _)) q)⟩
def zQm:Sp:=fun vs H Q _=>∃(a:Addr)(ps:List (Key×V))(ks:List (List Nat))(us:List T)(w:Wd)(x:Str)(vn:V)(n:T),vs= [.ref a, .str w.s, .str x,vn]∧H a=some (.dK ps)∧ps.map (·.1)=ks.map nK∧Reps H (ps.map (·.2)) us∧ks.Nodup∧ks.length=us.length∧us.length≤1000∧(w= .put∨w= .tak∧ts x∈ks)∧Rep H vn n∧∀p H',Same H H'→Rep H' (.ref p) (yH w (.dic ks us) (.inr x) n)→Q (.ref p) H'
theorem scRec:zV ["record","word","name","new","changed"] ["record","word","name","new"] (zH zOs):=by walk_at "sc"
theorem zZi(F:Fun K "record_changed" "record_changed" zOs f fd)(B:Bl mg):FnOk P w K mg base CX0 1 f fd ["record","word","name","new"] zQm:=by
 refine F.ok scRec (by walk_at "ln") fun c A o s H vs Q E hr h=>?_;obtain⟨a,ps,ks,us,wd,x,vn,n,rfl,ha,hkk,hs,nk,hku,hul,hw,hn,q⟩:=h;have nd:=scRec.nd;have hu:=vK hr;refine⟨_,(zE (pS 4 nd (yN zHz rfl B.dict yX (zA (pv 0) zD)))
  (zE (zS (zW xC (pv 1) zY (zR _)) (zG (vJ (zQz (pv 4) (pv 2) ⟨rfl,rfl,rfl,rfl⟩))) (zG (kG hu (pv 4) (pv 2) (pv 3) rfl)))
  (zG (zK (pv 4))))), ?_⟩
 walk_at "st";walk_at "rd3";refine⟨ps,ha,fun l hl=>?_⟩;have s1:=zC hl (.dK ps);have hl1:=zB (H:=H) (a:=l) (o:=.dK ps);have hla:∀o,Same H (upd (upd H l (.dK ps)) l o):=fun o=>by rw[zLr];exact zC hl o
 have hpl:ps.length=us.length:=by have:=hs.length;rwa [mI] at this
 have ex:(Sum.inr x:Key)=nK (ts x):=by show(Sum.inr x:Key)=Sum.inr (tx (ts x));rw[qC]
 rcases hw with rfl |⟨rfl,hx⟩
 ·refine iN (by decide+kernel) ⟨_,DPut.k (k:=Sum.inr x) hl1 (by rw[mR];lia), ?_⟩
  refine q l _ (hla _) ?_;rw[ex];obtain⟨p1,p2⟩:=zAu (p:=(ks,us)) (n:=ts x) (t:=n) hkk hs hn;exact⟨l,_,rfl,zB,p1,Reps.same (hla _) _ _ p2⟩
 ·refine iP rfl ?_
  obtain⟨xv,hv1,_⟩:=Rep.at_name nk hkk hs hx;refine⟨_,rfl,l,rfl, .inl ⟨ps, .inl hl1⟩,_,rfl,ps,nK (ts x),xv,hl1,by rw[←ex];rfl,hv1, ?_⟩;obtain⟨p1,p2⟩:=Reps.dropK (n:=ts x) hkk hs;refine q l _ (hla _) ⟨l,_,rfl,zB,p1,Reps.same (hla _) _ _ p2⟩
def zQk:Sp:=fun vs H Q _=>∃(a:Addr)(xs:List V)(us:List T)(w:Wd)(i:Int)(vn:V)(n:T),vs= [.ref a, .str w.s, .int i,vn]∧H a=some (.lst xs)∧Reps H xs us∧us.length≤100000∧0≤i∧Rep H vn n∧∀p H',Same H H'→Rep H' (.ref p) (yH w (.lst us) (.inl i) n)→Q (.ref p) H'
theorem scRow:zV ["row","word","place","new","ahead","behind"] ["row","word","place","new"] (zH zNj):=by walk_at "sc"
theorem yAo(F:Fun K "row_changed" "row_changed" zNj f fd)(B:Bl mg):FnOk P w K mg base CX0 1 f fd ["row","word","place","new"] zQk:=by
 refine F.ok scRow (by walk_at "ln") fun c A o s H vs Q E hr h=>?_;obtain⟨a,xs,us,wd,i,vn,n,rfl,ha,hs,hul,hi,hn,q⟩:=h;have nd:=scRow.nd;refine⟨_,(zE (pS 4 nd (wE vM (pv 0) wW (wX (pv 2))))
  (zE (pS 5 nd (zRc (zW xC (pv 1) zY (zR _)) (wE vM (pv 0) (wX (pv 2)) wW) (wE vM (pv 0) (wX (zJ yK (pv 2) zF)) wW)))
  (zE (zS (zW xC (pv 1) zY (zR _)) (zG (zK (zJ kK (pv 4) (pv 5)))) zL)
  (zG (zK (zJ kK (zJ kK (pv 4) (yG (zA (pv 3) zD))) (pv 5))))))), ?_⟩
 walk_at "st";walk_at "rd3";have hxl:=hs.length;refine⟨a,xs,rfl,SqL.of ha,fun p1 hp1=>?_⟩;rw[zHn xs hi];have s1:=zC hp1 (.lst (xs.take i.toNat));have e1:=zB (H:=H) (a:=p1) (o:=.lst (xs.take i.toNat));generalize upd H p1 (.lst (xs.take i.toNat))=H1 at s1 e1⊢;have hT:Reps H (xs.take i.toNat) (us.take i.toNat):=Reps.take _ hs;have fin:∀(j:Nat)(p2:Addr),H1 p2=none→(∀p H',Same H H'→Rep H' (.ref p) (.lst (us.take i.toNat++n::us.drop j))→Q (.ref p) H')→∀(p:Addr),upd H1 p2 (.lst (xs.drop j)) p=none→zWm (V.ref p1) (V.ref p) (upd (upd H1 p2 (.lst (xs.drop j))) p (HO.lst [vn])) fun x H1=>zWm x (V.ref p2) H1 Q:=fun j p2 hp2 q p3 hp3=>by
  have s2:=zC hp2 (.lst (xs.drop j));have e2:=zB (H:=H1) (a:=p2) (o:=.lst (xs.drop j));generalize upd H1 p2 (.lst (xs.drop j))=H2 at s2 e2 hp3⊢;have s3:=zC hp3 (.lst [vn]);have e3:=zB (H:=H2) (a:=p3) (o:=.lst [vn]);generalize upd H2 p3 (.lst [vn])=H3 at s3 e3⊢;refine⟨p1,p3,_,_,rfl,rfl,s3 _ _ (s2 _ _ e1),e3,by rw[mR,nW,nL];lia,fun p4 hp4=>?_⟩;have s4:=zC hp4 (.lst (xs.take i.toNat++ [vn]));have e4:=zB (H:=H3) (a:=p4) (o:=.lst (xs.take i.toNat++ [vn]));generalize upd H3 p4 (.lst (xs.take i.toNat++ [vn]))=H4 at s4 e4⊢;refine⟨p4,p2,_,_,rfl,rfl,e4,s4 _ _ (s3 _ _ e2),by rw[mR,mL,nW,pU,nL];lia,fun p5 hp5=>?_⟩;have G:=s1.trans (s2.trans (s3.trans (s4.trans (zC hp5 (.lst (xs.take i.toNat++ [vn]++xs.drop j))))));refine q p5 _ G ⟨p5,_,rfl,zB,Reps.same G _ _ ?_⟩;rw[rP];exact Reps.append (show Reps H ([vn]++xs.drop j) (n::us.drop j) from⟨vn,_,rfl,hn,Reps.drop _ hs⟩) hT
 have i1:(i+1).toNat=i.toNat+1:=by lia
 cases wd with
 | put=>
  refine iN (by decide+kernel) ⟨a,xs,rfl,SqL.of (s1 _ _ ha),fun p2 hp2=>iN (by decide+kernel) ?_⟩;rw[kS xs (by lia),i1] at*;exact fin _ p2 hp2 q
 | ins=>
  refine iP rfl ⟨a,xs,rfl,SqL.of (s1 _ _ ha),fun p2 hp2=>iN (by decide+kernel) ?_⟩;rw[kS xs hi] at*;exact fin _ p2 hp2 q
 | tak=>
  refine iN (by decide+kernel) ⟨a,xs,rfl,SqL.of (s1 _ _ ha),fun p2 hp2=>iP rfl ?_⟩;rw[kS xs (by lia),i1] at*;have s2:=zC hp2 (.lst (xs.drop (i.toNat+1)));have e2:=zB (H:=H1) (a:=p2) (o:=.lst (xs.drop (i.toNat+1)));generalize upd H1 p2 (.lst (xs.drop (i.toNat+1)))=H2 at s2 e2⊢;refine⟨p1,p2,_,_,rfl,rfl,s2 _ _ e1,e2,by rw[mR,nW,pU];lia,fun p3 hp3=>?_⟩;have G:=s1.trans (s2.trans (zC hp3 (.lst (xs.take i.toNat++xs.drop (i.toNat+1)))));exact q p3 _ G ⟨p3,_,rfl,zB,Reps.same G _ _ (Reps.append (Reps.drop _ hs) hT)⟩
def zLa:Sp:=fun vs H Q _=>∃(v:V)(t:T)(w:Wd)(k:Key)(vn:V)(n:T)(m:Nat),vs= [v, .str w.s,kV k,vn]∧Rep H v t∧T.fewm m t∧m≤63∧T.sz t≤50000∧okK k∧vV w t k=true∧Rep H vn n∧∀v' H',Same H H'→Rep H' v' (yH w t k n)→Q v' H'
theorem scPart:zV ["holder","word","step","new"] ["holder","word","step","new"] (zH zFz):=by walk_at "sc"
theorem zWr(F:Fun K "part_changed" "part_changed" zFz f fd)(B:Bl mg)(Grecord_changed:Dn P w K mg base 1 "record_changed" ["record","word","name","new"] zQm)(Grow_changed:Dn P w K mg base 1 "row_changed" ["row","word","place","new"] zQk):FnOk P w K mg base CX0 2 f fd ["holder","word","step","new"] zLa:=by
 refine F.ok scPart (by walk_at "ln") fun c A o s H vs Q E hr h=>?_;obtain⟨v,t,wd,k,vn,n,m,rfl,hv,hf,hm,hz,hk,hc,hn,q⟩:=h;have nd:=scPart.nd;refine⟨_,(zE (zS (yA (pI B.isinstance zI B.dict yX (pv 0))) (zG (zK (zU Grecord_changed hr (by lia) rfl (zA (pv 0) (zA (pv 1) (zA (pv 2) (zA (pv 3) zD))))))) zL)
  (zG (zK (zU Grow_changed hr (by lia) rfl (zA (pv 0) (zA (pv 1) (zA (pv 2) (zA (pv 3) zD)))))))), ?_⟩
 walk_at "st";walk_at "rd3"
 cases t with
 | dic ks us=>
  obtain⟨a,ps,rfl,ha,hkk,hs⟩:=hv;have hku:=hf.2.2.1;have hkm:=hf.2.1;refine⟨"dict",wK ha,iP (by decide) ?_⟩
  cases k with
  | inl i=>cases wd<;>cases hc
  | inr x=>
   refine⟨a,ps,ks,us,wd,x,vn,n,rfl,ha,hkk,hs,hf.1,hku,by lia, ?_,hn,fun p H' g h=>q _ H' g h⟩
   cases wd with
   | put=>exact .inl rfl
   | ins=>cases hc
   | tak=>
    refine .inr ⟨rfl, ?_⟩;have hc':(if ts x∈ks then some (xG (ts x) ks us) else none).isSome=true:=hc
    by_cases h:ts x∈ks
    ·exact h
    ·rw[mG h] at hc';cases hc'
 | lst us=>
  obtain⟨a,xs,rfl,ha,hs⟩:=hv;refine⟨"list",wI ha,iN (by decide) ?_⟩
  cases k with
  | inl i=>exact⟨a,xs,us,wd,i,vn,n,rfl,ha,hs,hf.1,hk.1,hn,fun p H' g h=>q _ H' g h⟩
  | inr x=>cases wd<;>cases hc
 | tup us=>exact hf.elim
 | non=>cases wd<;>cases k<;>cases hc
 | bl b=>cases wd<;>cases k<;>cases hc
 | int b=>cases wd<;>cases k<;>cases hc
 | str b=>cases wd<;>cases k<;>cases hc
end
end K36
namespace K36
open PySem L2 PySem.W
seal L2.PSs L2.PS L2.PE L2.PT L2.PW L2.PA L2.PI L2.PG L2.PGs L2.PPs L2.PTs
def clsFn(s:Stmt):Stmt:=match s with
 | .ClassDef _ _ _ (f::_) _ _ _ _ _ _ _=>f
 | _=>s
abbrev vR:Stmt:=clsFn (top 23)
theorem zWs:zV ["self","text","at"] ["self","text","at"] (zH vR):=by walk_at "sc"
section
variable{P:Program}{w:World}{K:PySem.W.Frag}{mg:Str→Option Value}{base:Heap}{C B fI dT:Addr}{nm:Str}{oc kV doc pm cdv ct:Value}{od an:Option Addr}{osl:Array (Option Value)}
theorem zTu(lk:K.lookup fI=some ⟨oc,od, .func (fnOf "__init__" "NoPlace.__init__" (zQ vR) (zP vR) (zH vR) (.ref dT) kV doc pm an cdv ct),osl⟩)(hcd:codeIn K cdv "NoPlace.__init__" =true)(c:zLf K nm C B fI)(b:zTy K B)(hmB:mg "CabinetError" =some (.ref B)):
  FnOk P w K mg base CX0 1 fI (fnOf "__init__" "NoPlace.__init__" (zQ vR) (zP vR) (zH vR) (.ref dT) kV doc pm an cdv ct) ["self","text","at"] (zCi C):=by
 refine zLt (k:=0) lk hcd zWs (fun vs H Q E h=>?_) fun A outer s H vs Q E hr h=>?_
 ·obtain⟨x,v0,v,rfl,_⟩:=h
  rfl
 obtain⟨x,v0,v,rfl,hx,q⟩:=h;refine⟨_,(zE (vJ (zRt c b rfl hmB (zA (pv 0) (zA (pv 1) zD)))) (zG (zUd c (pv 2) (pv 0)))), ?_⟩;refine⟨.ref x,rfl,v0,rfl,x,v0,rfl,hx,v,rfl, .ref x,rfl,x,rfl,hx,fun d hd=>q d hd⟩
theorem zJs{o:Obj}{items:Array Value}{n:Nat}(hd:K.lookup dT=some o)(hs:o.data= .seq items n)(h1:items.size=1):Binds K (fnOf "__init__" "NoPlace.__init__" (zQ vR) (zP vR) (zH vR) (.ref dT) kV doc pm an cdv ct) ["self","text","at"] []:=fun s us hK hl=>by
 rw[pJ] at hl⊢;obtain⟨l⟩:=items
 match l,h1 with
 | [i0],_=>
  match us,hl with
  | [a,b,c],_=>exact binds_K hK rfl hd hs rfl rfl
end
def XAt(C:Addr)(n:Int)(H:Hp)(E:XK):Prop:=∀d H',Same H H'→H' d=some (.xd [("at", .int n)])→E (.ref C) (some d) H'
theorem XAt.of{C:Addr}{n:Int}{H H1:Hp}{E:XK}{d:Addr}(h:XAt C n H E)(g:Same H H1)(hd:H1 d=none):E (.ref C) (some d) (upd H1 d (.xd [("at", .int n)])):=h d _ (g.trans (zC hd _)) zB
theorem zRs(t:T)(ks:List Key):∃u,(goT t ks).getLast? =some u∧u∈goT t ks:=by
 have h:=(qJ t ks).1
 cases e:(goT t ks).getLast? with
 | none=>rw[bR.mp e] at h;exact absurd h (by decide)
 | some u=>exact⟨u,rfl,rY e⟩
theorem zCg{α:Type}{xs:List α}{v:α}(h:xs.getLast? =some v):atI xs (-1)=some v:=by
 rcases List.eq_nil_or_concat xs with e |⟨ys,y,e⟩
 ·rw[e] at h;cases h
 ·rw[List.concat_eq_append] at e
  subst e;rw[List.getLast?_concat] at h;cases h;exact zAn _ _
theorem Reps.last{H:Hp}{vs:List V}{us:List T}{u:T}(h:Reps H vs us)(hu:us.getLast? =some u):∃v,vs.getLast? =some v∧Rep H v u:=by
 have hl:=h.length;rw[rT] at hu;have hi:=(mQ.mp hu).1;have hi':us.length - 1<vs.length:=by lia
 obtain⟨t,h1,h2⟩:=h.get (nH hi');rw[hu] at h1;cases h1;refine⟨_, ?_,h2⟩;rw[rT,hl];exact nH hi'
abbrev sWc:Stmt:=top 48
abbrev sSl:Stmt:=top 49
abbrev sCs:Stmt:=top 47
abbrev sCa:Stmt:=top 45
theorem zCx(ks:List Key):jU (ks.map kV) none (some (-1))=ks.dropLast.map kV:=by
 have e:HT.sIx (ks.map kV).length (ks.map kV).length (some (-1))=ks.length - 1:=by
  show(if(-1:Int)<0 then((-1:Int)+((ks.map kV).length:Int)).toNat else min (-1:Int).toNat (ks.map kV).length)=_;rw[mK (by decide),mI]
  lia
 unfold jU;rw[e,HT.sIx_none,tF,dN,List.dropLast_eq_take,List.map_take]
structure Tq(m:Nat)(H:Hp)(v:V)(t:T)(pa:Addr)(ks:List Key):Prop where
 v:Rep H v t
 few:T.fewm m t
 m:m<62
 sz:T.sz t≤50000
 pa:H pa=some (.lst (ks.map kV))
 ok:∀k∈ks,okK k
 l8:ks.length≤8
theorem Tq.same{m:Nat}{H H':Hp}{v:V}{t:T}{pa:Addr}{ks:List Key}(h:Tq m H v t pa ks)(g:Same H H'):Tq m H' v t pa ks:=⟨Rep.same g _ _ h.v,h.few,h.m,h.sz,g _ _ h.pa,h.ok,h.l8⟩
theorem Tq.pure{m:Nat}{H:Hp}{v:V}{t:T}{pa:Addr}{ks:List Key}(h:Tq m H v t pa ks):T.pure t:=zAk _ t (mE _) (T.fewm_few (by have:=h.m;lia) _ h.few)
section
variable{P:Program}{w:World}{K:PySem.W.Frag}{mg:Str→Option Value}{base:Heap}{f:Addr}{fd:FuncData}{C:Addr}
def zZp(C:Addr):Sp:=fun vs H Q E=>∃(wd:Wd)(vn:V),vs= [.str wd.s,vn]∧(wd= .put→∀H',Same H H'→Q vn H')∧(wd≠ .put→XAt C 0 H E)
theorem scWc:zV ["word","new"] ["word","new"] (zH sWc):=by walk_at "sc"
theorem ok_wc(F:Fun K "whole_changed" "whole_changed" sWc f fd)(B:Bl mg)(RNoPlace:Xr P w K mg base 1 "NoPlace" C):FnOk P w K mg base (CXE P w) 3 f fd ["word","new"] (zZp C):=by
 refine F.okx scWc (by walk_at "ln") fun c A o s H vs Q E hr h=>?_;obtain⟨wd,vn,rfl,q,qx⟩:=h;have nd:=scWc.nd;refine⟨_,(zE (zS (zW uS (pv 0) zY (zR _)) (zG (zBq RNoPlace hr (by lia) rfl rfl lvs (zA zY (zA zF zD)))) zL)
  (zG (zK (pv 1)))), ?_⟩
 walk_at "st";unfold zCh;walk_at "rd3";have raise:wd≠ .put→∀d,H d=none→E (Value.ref C) (some d) (upd H d (HO.xd [(Str.ofString "at",V.int 0)])):=fun h d hd=>(qx h).of (Same.refl _) hd
 cases wd with
 | put=>exact⟨false,by decide+kernel,iN (by decide) (q rfl H (Same.refl _))⟩
 | ins=>exact⟨true,by decide+kernel,iP rfl ⟨_,_,⟨rfl,rfl⟩,raise (by intro z;cases z)⟩⟩
 | tak=>exact⟨true,by decide+kernel,iP rfl ⟨_,_,⟨rfl,rfl⟩,raise (by intro z;cases z)⟩⟩
def yCh(C:Addr):Sp:=fun vs H Q E=>∃(v:V)(t:T)(pa:Addr)(ks:List Key)(m:Nat),vs= [v, .ref pa]∧Tq m H v t pa ks∧(ks.length≤(goT t ks.dropLast).length→∀p xs H',Same H H'→H' p=some (.lst xs)→Reps H' xs (goT t ks.dropLast)→Q (.ref p) H')∧((goT t ks.dropLast).length<ks.length→XAt C (((goT t ks.dropLast).length:Int)- 1) H E)
theorem scSl:zV ["thing","path","stops","step"] ["thing","path"] (zH sSl):=by walk_at "sc"
theorem ok_sl(F:Fun K "stops_to_last" "stops_to_last" sSl f fd)(B:Bl mg)(Gleads_within:Dn P w K mg base 3 "leads_within" ["thing","step"] zEd)(RNoPlace:Xr P w K mg base 1 "NoPlace" C):FnOk P w K mg base (CXE P w) 4 f fd ["thing","path"] (yCh C):=by
 refine F.okx scSl (by walk_at "ln") fun c A o s H vs Q E hr h=>?_;obtain⟨v,t,pa,ks,m,rfl,hT,q,qx⟩:=h;have nd:=scSl.nd;have hu:=vK hr;refine⟨_,(zE (pS 2 nd (yG (zA (pv 0) zD)))
  (zE (vZ PassesOwn.leaving rfl (wJ (wE vM (pv 1) wW (wX (qE wQ zF)))) (yB (i:=3) nd rfl (nR rfl)) (zE (zS (xX (yA (zU Gleads_within hr (by lia) rfl (zA (yR ix_list (pv 2) (qE wQ zF) (fun _ _=>rfl)) (zA (pv 3) zD))))) (zG (zBq RNoPlace hr (by lia) rfl rfl lvs (zA zY (zA (zJ wY (zN yL rfl B.len xH (zA (pv 2) zD)) zF) zD)))) zL)
  (zG (vJ (uO pY rW sU jV (pv 2) (zA (zBi (yR ix_list (yR ix_list (pv 2) (qE wQ zF) (fun _ _=>rfl)) (pv 3) (fun _ _=>rfl)) (qF hu (yR ix_list (pv 2) (qE wQ zF) (fun _ _=>rfl)) (pv 3) (fun _ _=>rfl))) zD))))))
  (zG (zK (pv 2))))), ?_⟩
 walk_at "st";unfold zCh;walk_at "rd3";intro ps hps;have s1:=zC hps (.lst [v]);have e1:=zB (H:=H) (a:=ps) (o:=.lst [v]);have hz:=hT.sz;have h8:=hT.l8;generalize hH1:upd H ps (.lst [v])=H1 at s1 e1⊢;refine⟨pa,_,rfl,SqL.of (s1 _ _ hT.pa),fun pl hpl=>⟨pl,rfl,⟨_,SqL.of zB⟩, ?_⟩⟩;rw[zCx];have s2:=zC hpl (.lst (ks.dropLast.map kV));have e2:=zB (H:=H1) (a:=pl) (o:=.lst (ks.dropLast.map kV));generalize upd H1 pl (.lst (ks.dropLast.map kV))=H2 at s2 e2⊢;have hdl:ks.dropLast.length=ks.length - 1:=sS;have hks:∀k∈ks.dropLast,okK k:=fun k hk=>hT.ok k (List.dropLast_subset ks hk);have hplps:pl≠ps:=fun z=>by rw[z,e1] at hpl;cases hpl
 generalize ks.dropLast=ds at hdl hks e2 q qx⊢;have hgl:=qJ t ds;refine vP (K:=K) (a:=pl) (xs:=ds.map kV) (fun i σ' H'=>∃o us u ys c,σ'= [some v,some (.ref pa),some (.ref ps),o]∧Same H H'∧H' pl=some (.lst (ds.map kV))∧H' ps=some (.lst (ys++ [c]))∧Reps H ys us∧Rep H c u∧us.length=i∧goT t ds=us++goT u (ds.drop i)∧T.pure u∧T.sz u≤100000)
  ⟨none,[],t,[],v,rfl,s1.trans s2,e2,s2 _ _ e1,rfl,hT.v,rfl,rfl,hT.pure,by lia⟩ (fun i σ' H' _ h=>by
   obtain⟨o,us,u,ys,c,_,g,h,_⟩:=h;exact SqL.of h) ?_ ?_
 ·rintro i x σ' H' hx ⟨o,us,u,ys,c,rfl,g,hpl',hS,hR,hc,hl,hg,hpu,hzu⟩
  walk_at "rd3";have hyl:=hR.length;rw[nD] at hx
  cases hki:ds[i]? with
  | none=>rw[hki] at hx;cases hx
  | some k=>
   rw[hki] at hx;have ex:kV k=x:=mW hx;subst ex;have hik:=(mQ.mp hki).1;have hdr:ds.drop i=k::ds.drop (i+1):=by
    rw[sK hik,(mQ.mp hki).2]
   rw[hdr] at hg;refine yP (SqL.of hS) (zAn _ _) ⟨c,u,k,rfl,Rep.same g _ _ hc,hpu,hzu,hks _ (mP hki),fun H2 g2=>⟨_,rfl, ?_⟩⟩;have hS2:=g2 _ _ hS;have gg:=g.trans g2
   cases hs:yJ u k with
   | none=>
    have e:goT u (k::ds.drop (i+1))= [u]:=by show(match yJ u k with | none=>[u] | some u'=>u::goT u' (ds.drop (i+1)))=_;rw[hs]
    rw[e] at hg;have hlen:(goT t ds).length=i+1:=by rw[hg,mL,hl];rfl
    refine iP rfl ⟨_,SqL.of hS2,_,_,⟨rfl,rfl⟩,fun d hd=>?_⟩;have qq:=(qx (by lia)).of gg hd;rw[hlen] at qq;rw[mL,hyl,hl,nL];exact qq
   | some u'=>
    have e:goT u (k::ds.drop (i+1))=u::goT u' (ds.drop (i+1)):=by show(match yJ u k with | none=>[u] | some u'=>u::goT u' (ds.drop (i+1)))=_;rw[hs]
    rw[e] at hg;refine iN (by simp) ⟨nR ⟨rfl,_,SqL.of hS2⟩, ?_⟩;have hend:∀c',Rep H c' u'→T.pure u'→T.sz u'≤100000→zGe (V.ref ps) [c'] H2 (fun _ H1=>Same H H1∧H1 pl=some (.lst (ds.map kV))∧∃us' u1 ys' c1,H1 ps=some (.lst (ys'++ [c1]))∧Reps H ys' us'∧Rep H c1 u1∧us'.length=i+1∧goT t ds=us'++goT u1 (ds.drop (i+1))∧T.pure u1∧T.sz u1≤100000):=fun c' h1 h2 h3=>
     ⟨ps,ys++ [c],c',rfl,rfl,hS2,by rw[mR,mL];show ys.length+1<_;lia,gg.put hps _,by rw[zO hplps];exact g2 _ _ hpl',us++ [u],u',ys++ [c],c',zB,Reps.snoc hc hR,h1,by rw[mL,hl];rfl,by rw[hg,rP];rfl,h2,h3⟩
    obtain⟨c',h1,h2,h3,⟨b,zs,j,rfl,hb,ej,hat⟩|⟨b,qs,rfl,hb,hvq⟩⟩:=zHh hc hpu hzu (hks _ (mP hki)) hs
    ·refine .inl ?_
     walk_at "rd3";refine yP (SqL.of hS2) (zAn _ _) ?_;rw[ej];exact yP (SqL.of (gg _ _ hb)) hat (hend _ h1 h2 h3)
    ·refine .inr ?_
     walk_at "rd3";exact yP (SqL.of hS2) (zAn _ _) ⟨b,rfl,c', .inl ⟨qs,k, .inl (gg _ _ hb),rfl,hvq.symm⟩,hend _ h1 h2 h3⟩
 ·rintro σ' H' ⟨o,us,u,ys,c,rfl,g,hpl',hS,hR,hc,hl,hg,hpu,hzu⟩
  walk_at "rd3";rw[mI,dO] at hg;rw[mI] at hl;have hlen:(goT t ds).length=ds.length+1:=by rw[hg,mL,hl];rfl
  refine q (by lia) ps _ _ g hS ?_;rw[hg];exact Reps.snoc (Rep.same g _ _ hc) (Reps.same g _ _ hR)
end
end K36
namespace K36
open PySem L2 PySem.W
seal L2.PSs L2.PS L2.PE L2.PT L2.PW L2.PA L2.PI L2.PG L2.PGs L2.PPs L2.PTs
theorem zXk{t u:T}{k:Key}(hk:okK k)(hs:yJ t k=some u):vV .put t k=true:=by
 rcases wF hs with⟨us,i,rfl,rfl,h,_⟩|⟨ks,us,x,rfl,rfl,hm,rfl,_⟩
 ·have hi:=(mQ.mp h).1
  have h0:0≤i∧i≤59:=hk;exact nB (by lia)
 ·rfl
section
variable{P:Program}{w:World}{K:PySem.W.Frag}{mg:Str→Option Value}{base:Heap}{f:Addr}{fd:FuncData}{C:Addr}
def zZj(C:Addr):Sp:=fun vs H Q E=>∃(v:V)(t:T)(wd:Wd)(pa:Addr)(ks:List Key)(vn:V)(n:T)(m:Nat),vs= [v, .str wd.s, .ref pa,vn]∧Tq m H v t pa ks∧Rep H vn n∧(∀r,chG wd (fun s k=>yH wd s k n) t ks n= .inr r→∀v' H',Same H H'→Rep H' v' r→Q v' H')∧(∀j:Nat,chG wd (fun s k=>yH wd s k n) t ks n= .inl j→XAt C (j:Int) H E)
theorem scCs:zV ["thing","word","path","new","stops","changed","place"] ["thing","word","path","new"] (zH sCs):=by walk_at "sc"
theorem ok_cs(F:FunD K "change_shared" "change_shared" sCs f fd)(B:Bl mg)(Gwhole_changedx:Dx P w K mg base 3 "whole_changed" ["word","new"] (zZp C))(Gstops_to_lastx:Dx P w K mg base 4 "stops_to_last" ["thing","path"] (yCh C))(Gcan_change:Dn P w K mg base 4 "can_change" ["holder","word","step"] yBl)(Gpart_changed:Dn P w K mg base 2 "part_changed" ["holder","word","step","new"] zLa)(RNoPlace:Xr P w K mg base 1 "NoPlace" C):FnOk P w K mg base (CXE P w) 5 f fd ["thing","word","path","new"] (zZj C):=by
 refine F.okx scCs (by walk_at "ln") fun c A o s H vs Q E hr h=>?_;obtain⟨v,t,wd,pa,ks,vn,n,m,rfl,hT,hn,q,qx⟩:=h;have nd:=scCs.nd;refine⟨_,(zE (zS (xX (zJe (pv 2) (fun _=>rfl))) (zG (zK (zId Gwhole_changedx hr (by lia) rfl lvs (zA (pv 1) (zA (pv 3) zD))))) zL)
  (zE (pS 4 nd (zId Gstops_to_lastx hr (by lia) rfl lvs (zA (pv 0) (zA (pv 2) zD))))
  (zE (zS (xX (yA (zU Gcan_change hr (by lia) rfl (zA (yR ix_list (pv 4) (qE wQ zF) (fun _ _=>rfl)) (zA (pv 1) (zA (yR ix_list (pv 2) (qE wQ zF) (fun _ _=>rfl)) zD)))))) (zG (zBq RNoPlace hr (by lia) rfl rfl lvs (zA zY (zA (zJ wY (zN yL rfl B.len xH (zA (pv 2) zD)) zF) zD)))) zL)
  (zE (pS 5 nd (zU Gpart_changed hr (by lia) rfl (zA (yR ix_list (pv 4) (qE wQ zF) (fun _ _=>rfl)) (zA (pv 1) (zA (yR ix_list (pv 2) (qE wQ zF) (fun _ _=>rfl)) (zA (pv 3) zD))))))
  (zE (vZ PassesOwn.leaving rfl (zMp rfl B.range (zA (zJ wY (zN yL rfl B.len xH (zA (pv 2) zD)) zF) (zA (qE wQ zF) (zA (qE wQ zF) zD)))) (yB (i:=6) nd rfl (nR rfl)) (zG (pS 5 nd (zU Gpart_changed hr (by lia) rfl (zA (yR ix_list (pv 4) (pv 6) (fun _ _=>rfl)) (zA zY (zA (yR ix_list (pv 2) (pv 6) (fun _ _=>rfl)) (zA (pv 5) zD))))))))
  (zG (zK (pv 5)))))))), ?_⟩
 walk_at "st";unfold zCh zQj;walk_at "rd3";refine⟨_, .inl ⟨_,SqL.of hT.pa,rfl⟩, ?_⟩;have hz:=hT.sz;have h8:=hT.l8;have hm:=hT.m
 cases hk:ks.getLast? with
 | none=>
  have e0:ks= []:=bR.mp hk;subst e0;refine iP rfl ⟨wd,vn,rfl,fun e H' g=>?_,fun e=>?_⟩
  ·subst e
   exact q n rfl vn H' g (Rep.same g _ _ hn)
  ·refine qx 0 ?_
   cases wd with
   | put=>exact absurd rfl e
   | ins=>rfl
   | tak=>rfl
 | some k=>
  have hne:ks≠ []:=fun z=>by rw[z] at hk;cases hk
  have hpos:0<ks.length:=aM.mpr hne;have hie:(ks.map kV).isEmpty=false:=by cases ks with | nil=>exact absurd rfl hne | cons _ _=>rfl
  have hch:∀pt:T→Key→T,chG wd pt t ks n=if(goT t ks.dropLast).length<ks.length then .inl ((goT t ks.dropLast).length - 1) else
    match (goT t ks.dropLast).getLast? with
    | none=>.inl 0
    | some s=>if vV wd s k=true then .inr (bld (goT t ks.dropLast) ks (ks.length - 1) (pt s k)) else .inl (ks.length - 1):=fun pt=>by unfold chG;rw[hk]<;>rfl
  rw[hch] at q qx;have hgl:=qJ t ks.dropLast;have hdl:ks.dropLast.length=ks.length - 1:=sS;refine iN (by rw[hie];decide) ⟨v,t,pa,ks,m,rfl,hT,fun hle p xs H1 g1 hp1 hR=>?_,fun hlt=>?_⟩
  ·have hnlt:¬(goT t ks.dropLast).length<ks.length:=by lia
   rw[mG hnlt] at q qx;have hlen:(goT t ks.dropLast).length=ks.length:=by lia
   obtain⟨s,hs,hsm⟩:=zRs t ks.dropLast;rw[hs] at q qx;obtain⟨xv,hxv,hxr⟩:=Reps.last hR hs;have hsi:(goT t ks.dropLast)[ks.length - 1]? =some s:=by rw[rT,hlen] at hs;exact hs
   obtain⟨s1,s2,s3⟩:=jC ks.dropLast t _ s hT.few hsi;have hkm:k∈ks:=rY hk;have hkl:atI (ks.map kV) (-1)=some (kV k):=zCg (by rw[List.getLast?_map,hk];rfl);have sp:T.pure s:=zAk _ s (mE _) (T.fewm_few (by lia) _ s1);refine yP (SqL.of hp1) (zCg hxv) (yP (SqL.of (g1 _ _ hT.pa)) hkl ⟨xv,s,wd,k,rfl,hxr,sp,by lia,hT.ok k hkm,fun H2 g2=>⟨_,rfl, ?_⟩⟩);have g12:=g1.trans g2
   by_cases hc:vV wd s k=true
   ·have q:=q _ (mK hc)
    refine iN (by rw[hc];decide) (yP (SqL.of (g2 _ _ hp1)) (zCg hxv) (yP (SqL.of (g12 _ _ hT.pa)) hkl ⟨xv,s,wd,k,vn,n,m,rfl,Rep.same g2 _ _ hxr,s1,by lia,by lia,hT.ok k hkm,hc,Rep.same g12 _ _ hn,fun v' H3 g3 hv3=>?_⟩));have g13:=g12.trans g3;have hp3:=g3 _ _ (g2 _ _ hp1);have hpa3:=g13 _ _ hT.pa;have hR3:=Reps.same (g2.trans g3) _ _ hR;have hxl:=hR.length;refine⟨_,SqL.of hpa3, ?_⟩;rw[mI];refine⟨by lia,by lia, ?_⟩;rw[show((ks.length:Int)- 2+1).toNat=ks.length - 1 by lia];refine zEz (fun i σ' H'=>∃o c r,σ'= [some v,some (.str wd.s),some (.ref pa),some vn,some (.ref p),some c,o]∧Same H3 H'∧Rep H' c r∧i≤ks.length - 1∧bld (goT t ks.dropLast) ks (ks.length - 1 - i) r=bld (goT t ks.dropLast) ks (ks.length - 1) (yH wd s k n)) ⟨_,v',_,rfl,Same.refl _,hv3,nY _,rfl⟩ ?_ ?_
    ·rintro i σ' H' hi ⟨o,c,r,rfl,g,hc',hil,hb⟩
     walk_at "rd3";obtain⟨M,hM⟩:∃M,ks.length - 1 - i=M+1:=⟨ks.length - 2 - i,by lia⟩;have hpl:(ks.length:Int)- 2 - (i:Int)=(M:Int):=by lia
     rw[hpl];obtain⟨k',u',u2,h1,h2,h3,h4⟩:=jQ ks.dropLast t M (by lia);have hki:ks[M]? =some k':=by
      rw[tK,mK (by lia)] at h1;exact h1
     obtain⟨a1,a2,a3⟩:=jC ks.dropLast t M u' hT.few h2;have hMx:M<xs.length:=by lia
     obtain⟨u1,hu1,hr1⟩:=hR3.get (i:=M) (v:=xs[M]) (nH hMx);rw[h2] at hu1;cases hu1;have hok:=hT.ok k' (mP hki);refine yP (SqL.of (g _ _ hp3)) (xI (nH hMx)) (yP (SqL.of (g _ _ hpa3)) (xI (j:=M) (by rw[nD,hki];rfl)) ⟨_,u', .put,k',c,r,m,rfl,Rep.same g _ _ hr1,a1,by lia,by lia,hok,zXk hok h4,hc',fun v4 H4 g4 hv4=>⟨_,v4,⟨rfl,rfl⟩,g.trans g4,_,hv4,by lia, ?_⟩⟩);have e1:(goT t ks.dropLast).getD M .non=u':=by rw[nI,h2];rfl
     have e2:ks.getD M (.inl 0)=k':=by rw[nI,hki];rfl
     rw[hM] at hb;have hb':bld (goT t ks.dropLast) ks M (yH .put ((goT t ks.dropLast).getD M .non) (ks.getD M (.inl 0)) r)=_:=hb;rw[e1,e2] at hb';rw[show ks.length - 1 - (i+1)=M by lia];exact hb'
    ·rintro σ' H' ⟨o,c,r,rfl,g,hc',hil,hb⟩
     walk_at "rd3";rw[show ks.length - 1 - (ks.length - 1)=0 by lia] at hb;have hb':r=_:=hb;rw[hb'] at hc';exact q c H' (g13.trans g) hc'
   ·have hcf:vV wd s k=false:=by cases hq:vV wd s k with | true=>exact absurd hq hc | false=>rfl
    have qx:=qx _ (mG hc);refine iP hcf ⟨_,SqL.of (g12 _ _ hT.pa),_,_,⟨rfl,rfl⟩,fun d hd=>?_⟩;have qq:=qx.of g12 hd;rw[show(((ks.length - 1:Nat)):Int)=((ks.map kV).length:Int)- 1 by rw[mI];lia] at qq;exact qq
  ·have qx:=qx _ (mK hlt)
   rw[show((((goT t ks.dropLast).length - 1:Nat)):Int)=((goT t ks.dropLast).length:Int)- 1 by lia] at qx;exact qx
structure Nq(m:Nat)(t n:T):Prop where
 few:T.fewm m n
 dep:T.dep t≤16
 depn:T.dep n≤8
 sz:T.sz n≤40000
def zSz(C:Addr):Sp:=fun vs H Q E=>∃(v:V)(t:T)(wd:Wd)(pa:Addr)(ks:List Key)(vn:V)(n:T)(m:Nat),vs= [v, .str wd.s, .ref pa,vn]∧Tq m H v t pa ks∧Rep H vn n∧Nq m t n∧(∀r,chG wd (fun s k=>yH wd s k n) t ks n= .inr r→∀v' H' D,Same H H'→Sp1 H' v' r D→(∀b∈D,H b=none)→Q v' H')∧(∀j:Nat,chG wd (fun s k=>yH wd s k n) t ks n= .inl j→XAt C (j:Int) H E)
theorem scCa:zV ["thing","word","path","new"] ["thing","word","path","new"] (zH sCa):=by walk_at "sc"
theorem zXl(F:FunD K "changed_at" "changed_at" sCa f fd)(Gchange_sharedx:Dx P w K mg base 5 "change_shared" ["thing","word","path","new"] (zZj C))(Gcopied:Dn P w K mg base (1+20) "copied" ["thing"] (zOx 20)):FnOk P w K mg base (CXE P w) 22 f fd ["thing","word","path","new"] (zSz C):=by
 refine F.okx scCa (by walk_at "ln") fun c A o s H vs Q E hr h=>?_;obtain⟨v,t,wd,pa,ks,vn,n,m,rfl,hT,hn,hN,q,qx⟩:=h;have nd:=scCa.nd;refine⟨_,(zG (zK (zU Gcopied hr (by lia) rfl (zA (zId Gchange_sharedx hr (by lia) rfl lvs (zA (pv 0) (zA (pv 1) (zA (pv 2) (zA (pv 3) zD))))) zD)))), ?_⟩;walk_at "st";walk_at "rd3";refine⟨v,t,wd,pa,ks,vn,n,m,rfl,hT,hn,fun r hr' v1 H1 g1 hv1=>?_,qx⟩;have hz:=hT.sz;have hm:=hT.m;have hnz:=hN.sz;rcases zPn (w:=wd) hT.m hT.few hN.few hT.sz hN.dep hN.depn hT.l8 with⟨j,h1,_⟩|⟨r0,r',h1,_,_,⟨a1,a2,a3⟩,_⟩
 ·rw[h1] at hr';cases hr'
 ·rw[h1] at hr'
  have e:=Sum.inr.inj hr';subst e;exact⟨v1,r0,rfl,hv1,zAk _ r0 (mE _) (T.fewm_few (by lia) _ a1),by lia,by lia,fun v2 H2 D g2 hv2 hD=>q r0 h1 v2 H2 D (g1.trans g2) hv2 fun b hb=>zT g1 (hD b hb)⟩
end
end K36
namespace K36
open PySem L2
seal L2.PSs L2.PS L2.PE L2.PT L2.PW L2.PA L2.PI L2.PG L2.PGs L2.PPs L2.PTs
abbrev sRb:Stmt:=top 76
def tyKy:Key→String
 | .inl _=>"int"
 | .inr _=>"str"
def byK:Key→Bool
 | .inl _=>false
 | .inr _=>true
theorem zZn(k:Key):zM (tyKy k) "str" =byK k:=by cases k<;>rfl
def plc(j:Int):HO:=.tup [.str (Str.ofString "place"), .int j]
theorem zFk{n:List Nat}:∀(a b:List (List Nat)),xK n (a++b)=xK n a++xK n b
 | [],b=>rfl
 | k::a,b=>by
  show(if k=n then xK n (a++b) else k::xK n (a++b))=(if k=n then xK n a else k::xK n a)++xK n b;rw[zFk a b];split<;>rfl
theorem zFr{n:List Nat}{b:List (List Nat)}{d:List T}:∀(a:List (List Nat))(c:List T),a.length=c.length→yF n (a++b) (c++d)=yF n a c++yF n b d
 | [],[],_=>rfl
 | [],_::_,h=>by simp at h
 | _::_,[],h=>by simp at h
 | k::a,u::c,h=>by
  show(if k=n then yF n (a++b) (c++d) else u::yF n (a++b) (c++d))=(if k=n then yF n a c else u::yF n a c)++yF n b d;rw[zFr a c (by simpa using h)];split<;>rfl
theorem zIc:∀(ks:List Key)(t:T)(M:Nat),M<(goT t ks).length→(goT t (ks.take M)).getLast? =(goT t ks)[M]?
 | [],t,M,h=>by
  have h':M<1:=h;have e:M=0:=by lia
  subst e
  rfl
 | k::ks,t,0,h=>by
  have e:goT t (k::ks)=(match yJ t k with | none=>[t] | some u=>t::goT u ks):=rfl
  rw[e];cases yJ t k<;>rfl
 | k::ks,t,M+1,h=>by
  have e:goT t (k::ks)=(match yJ t k with | none=>[t] | some u=>t::goT u ks):=rfl
  have e2:goT t ((k::ks).take (M+1))=(match yJ t k with | none=>[t] | some u=>t::goT u (ks.take M)):=rfl
  rw[e] at h⊢;rw[e2]
  cases hs:yJ t k with
  | none=>
   rw[hs] at h;have h':M+1<1:=h
   lia
  | some u=>
   rw[hs] at h;have h':M+1<(goT u ks).length+1:=by simpa using h
   have ih:=zIc ks u M (by lia);show(t::goT u (ks.take M)).getLast? =(t::goT u ks)[M+1]?;rw[cA,←ih];have hl:=(qJ u (ks.take M)).1
   cases hq:goT u (ks.take M) with
   | nil=>rw[hq] at hl;exact absurd hl (by decide)
   | cons a b=>rfl
section
variable{P:Program}{w:World}{K:W.Frag}{mg:Str→Option Value}{base:Heap}{f:Addr}{fd:FuncData}
def yBz:Sp:=fun vs H Q _=>∃(v:V)(t:T)(wd:Wd)(pa:Addr)(ks:List Key)(vn:V)(n:T)(m:Nat),vs= [v, .str wd.s, .ref pa,vn]∧Tq m H v t pa ks∧Rep H vn n∧Nq m t n∧(∀r,chG wd (fun s k=>wH wd s k n) t ks n= .inr r→∀v' H',Same H H'→Rep (jE H H') v' r→Q v' H')∧(∀j:Nat,chG wd (fun s k=>wH wd s k n) t ks n= .inl j→∀p H',Same H H'→H p=none→H' p=some (plc j)→Q (.ref p) H')
theorem scRb:zV ["_law_thing","_law_word_here","_law_path_here","_law_new","_law_many_here","_law_here","_law_last","_law_by_name","_law_made","_law_k","_law_above"] ["_law_thing","_law_word_here","_law_path_here","_law_new"] (zH sRb):=by walk_at "sc"
theorem ok_rb(F:Fun K "_law_rebuilt" "_law_rebuilt" sRb f fd)(B:Bl mg)(G_law_copy:Dn P w K mg base (1+20) "_law_copy" ["_law_thing"] (zEh 20))(G_law_gone:Dn P w K mg base 2 "_law_gone" ["_law_thing","_law_path_here"] zZx):FnOk P w K mg base CX0 22 f fd ["_law_thing","_law_word_here","_law_path_here","_law_new"] yBz:=by
 refine F.ok scRb (by walk_at "ln") fun c A o s H vs Q E hr h=>?_;obtain⟨v,t,wd,pa,ks,vn,n,m,rfl,hT,hn,hN,q,qx⟩:=h;have nd:=scRb.nd;have hu:=vK hr;have hu0:=hr.units0;refine⟨_,(zE (zS (zW (zVu hu0) (pv 2) (yG zD) (zR _)) (zE (zS (zW xC (pv 1) zY (zR _)) (zG (zK (zU G_law_copy hr (by lia) rfl (zA (pv 3) zD)))) zL)
  (zG (zK (xJ (zA zY (zA zF zD)))))) zL)
  (zE (zKm (zU G_law_gone hr (by lia) rfl (zA (pv 0) (zA (wE vM (pv 2) wW (wX (qE wQ zF))) zD))) (zKf (n:=2) rfl (jR (yB (i:=4) nd rfl (nR rfl)) (jR (yB (i:=5) nd rfl (cM rfl)) zGw))))
  (zE (zBd (i:=6) nd rfl (cM rfl) (yR ix_list (pv 2) (qE wQ zF) (fun _ _=>rfl)))
  (zE (zS (zW zBx (pv 4) (zJ wY (zN yL rfl B.len xH (zA (pv 2) zD)) zF) (zR _)) (zG (zK (xJ (zA zY (zA (pv 4) zD))))) zL)
  (zE (pS 7 nd (pI B.isinstance zI B.str qR (pv 6)))
  (zE (wP (zS (PW.pt (gZ (zW uS (pI B.isinstance zI B.dict yX (pv 5)) (pv 7) (zR _)) (jN (xX (yA (zN (vQ (T:="list") (U:="dict") (by decide) (by decide)) rfl B.isinstance zI (zA (pv 5) (zA (xJ (zA (xP (v:=.ty "list") rfl B.list yS rfl) (zA (xP (v:=.ty "dict") rfl B.dict yX rfl) zD))) zD)))))))) (zG (zK (xJ (zA zY (zA (pv 4) zD))))) zL))
  (zE (wP (zS (PW.pt (zBc (yA (pv 7)) (uK (PW.pt (gZ (zW xC (pv 1) zY (zR _)) (jN (PW.pt (zBc (zW xC (pv 1) zY (zR _)) (uK (zGh (zOc hu (pv 6) (pv 5)))))))))))) (zG (zK (xJ (zA zY (zA (pv 4) zD))))) zL))
  (zE (wP (zS (PW.pt (zBc (xX (yA (pv 7))) (uK (zW zIb (pv 6) (zJ wY (zN yL rfl B.len xH (zA (pv 5) zD)) (yN uE rfl B.int gM (zA (yZ xC (pv 1) zY (zR _)) zD))) (zR _))))) (zG (zK (xJ (zA zY (zA (pv 4) zD))))) zL))
  (zE (wP (zS (yA (pv 7)) (zE (pS 8 nd (yN (jH rfl) rfl B.dict yX (zA (uL (xE (own:=["_law_name"]) (F:=[("_law_here",5),("_law_last",6)]) ⟨rfl,by walk_at "wu",by walk_at "wu",by walk_at "wu",(.cons rfl rfl rfl (.cons rfl rfl rfl .nil))⟩ rfl (zAj (pv 5)) (fun _ _ _ _=>yB (i:=0) (by show(xS ["_law_name"] [("_law_here",5),("_law_last",6)]).Nodup;decide+kernel) rfl (nR rfl)) (fun _ _ _ _=>(zMf (zW uS (pv 0) (pv 2) (zR _)))) (fun _ _ _ _=>(xJ (zA (pv 0) (zA (zU G_law_copy hr (by lia) rfl (zA (qF hu (pv 1) (pv 0) (fun _ _=>rfl)) zD)) zD)))))) zD)))
  (zG (zS (zW xC (pv 1) zY (zR _)) (zG (kG hu (pv 8) (pv 6) (zU G_law_copy hr (by lia) rfl (zA (pv 3) zD)) rfl)) zL))) (zE (pS 8 nd (zU G_law_copy hr (by lia) rfl (zA (wE vM (pv 5) wW (wX (pv 6))) zD)))
  (zE (zS (zW uS (pv 1) zY (zR _)) (zG (vJ (uO pY rW sU jV (pv 8) (zA (zU G_law_copy hr (by lia) rfl (zA (pv 3) zD)) zD)))) zL)
  (zG (pS 8 nd (zJ kK (pv 8) (zU G_law_copy hr (by lia) rfl (zA (wE vM (pv 5) (wX (zJ yK (pv 6) (yN uE rfl B.int gM (zA (yZ uS (pv 1) zY (zR _)) zD)))) wW) zD)))))))))
  (zE (vZ PassesOwn.never rfl (zMp rfl B.range (zA (zJ wY (zN yL rfl B.len xH (zA (pv 2) zD)) zF) (zA (qE wQ zF) (zA (qE wQ zF) zD)))) (yB (i:=9) nd rfl (nR rfl)) (zE (pS 10 nd (zU G_law_copy hr (by lia) rfl (zA (yR ix_tup (zU G_law_gone hr (by lia) rfl (zA (pv 0) (zA (wE vM (pv 2) wW (wX (pv 9))) zD))) zF (fun _ _=>rfl)) zD)))
  (zE (zNk (zKm (pv 8) (yBa (pv 10) (yR ix_list (pv 2) (pv 9) (fun _ _=>rfl)) zPs)) (kG hu (pv 10) (yR ix_list (pv 2) (pv 9) (fun _ _=>rfl)) (pv 8) rfl))
  (zG (pS 8 nd (pv 10))))))
  (zG (zK (pv 8))))))))))))), ?_⟩
 unfold zQj;walk_at "st";walk_at "rd3";have hz:=hT.sz;have h8:=hT.l8;have hm:=hT.m;have okn:T.okq n:=T.few_okq _ (T.fewm_few (by lia) _ hN.few);have hdn:=hN.depn;intro pe hpe;have s1:=zC hpe (.lst []);have e1:=zB (H:=H) (a:=pe) (o:=.lst []);generalize upd H pe (.lst [])=H1 at s1 e1⊢;refine⟨pa,pe,_,rfl,rfl,SqL.of (s1 _ _ hT.pa),SqL.of e1,_,rfl, ?_⟩
 cases hk:ks.getLast? with
 | none=>
  have e0:ks= []:=bR.mp hk;subst e0;refine iP rfl ?_
  cases wd with
  | put=>exact iP rfl ⟨vn,n,rfl,Rep.same s1 _ _ hn,okn,by lia,fun v' H2 D g2 hv2 hD=>q n rfl v' H2 (s1.trans g2) (hv2.new fun b hb=>zT s1 (hD b hb))⟩
  | ins=>exact iN (by decide+kernel) fun p hp=>qx 0 rfl p _ (s1.trans (zC hp _)) (zT s1 hp) zB
  | tak=>exact iN (by decide+kernel) fun p hp=>qx 0 rfl p _ (s1.trans (zC hp _)) (zT s1 hp) zB
 | some k=>
  have hne:ks≠ []:=fun z=>by rw[z] at hk;cases hk
  have hpos:0<ks.length:=aM.mpr hne;have hie:(ks.map kV).isEmpty=false:=by cases ks with | nil=>exact absurd rfl hne | cons _ _=>rfl
  have hch:∀pt:T→Key→T,chG wd pt t ks n=if(goT t ks.dropLast).length<ks.length then .inl ((goT t ks.dropLast).length - 1) else
    match (goT t ks.dropLast).getLast? with
    | none=>.inl 0
    | some s=>if vV wd s k=true then .inr (bld (goT t ks.dropLast) ks (ks.length - 1) (pt s k)) else .inl (ks.length - 1):=fun pt=>by unfold chG;rw[hk]<;>rfl
  rw[hch] at q qx;have hgl:=qJ t ks.dropLast;have hdl:ks.dropLast.length=ks.length - 1:=sS;have hkm:k∈ks:=rY hk;have hkl:atI (ks.map kV) (-1)=some (kV k):=zCg (by rw[List.getLast?_map,hk];rfl);have hok:=hT.ok k hkm;refine iN (by rw[hie];decide) ?_;refine⟨pa,_,rfl,SqL.of (s1 _ _ hT.pa),fun pl hpl=>?_⟩;rw[zCx];have s2:=zC hpl (.lst (ks.dropLast.map kV));have e2:=zB (H:=H1) (a:=pl) (o:=.lst (ks.dropLast.map kV));generalize upd H1 pl (.lst (ks.dropLast.map kV))=H2 at s2 e2⊢;have g2:=s1.trans s2;refine⟨v,t,pl,ks.dropLast,rfl,Rep.same g2 _ _ hT.v,hT.pure,by lia,e2,fun k hk=>hT.ok k (List.dropLast_subset ks hk),by lia,fun o c s H3 g3 hs hc ho=>?_⟩;have gg:=g2.trans g3;have hc3:=Rep.same g3 _ _ hc;rw[hs] at q qx;refine⟨o,rfl,_,SqT.of ho,rfl,_,_,rfl,_,_,rfl,rfl,yP (SqL.of (gg _ _ hT.pa)) hkl ⟨_,SqL.of (gg _ _ hT.pa), ?_⟩⟩;refine⟨_,rfl, ?_⟩
  by_cases hlt:(goT t ks.dropLast).length<ks.length
  ·rw[mK hlt] at qx
   refine iP (by rw[mI];lia) fun p hp=>qx _ rfl p _ (gg.trans (zC hp _)) (zT gg hp) ?_;rw[zB];unfold plc;rw[show((((goT t ks.dropLast).length - 1:Nat)):Int)=((goT t ks.dropLast).length:Int)- 1 by lia]
  rw[mG hlt] at q qx;have hlen:(goT t ks.dropLast).length=ks.length:=by lia
  have hsi:(goT t ks.dropLast)[ks.length - 1]? =some s:=by rw[rT,hlen] at hs;exact hs
  obtain⟨s1f,s2d,s3z⟩:=jC ks.dropLast t _ s hT.few hsi;have hmany:((goT t ks.dropLast).length:Int)- 1=((ks.length - 1:Nat):Int):=by lia
  rw[hmany];have bad:vV wd s k≠true→∀Hx,Same H Hx→∀p,Hx p=none→Q (V.ref p) (upd Hx p (HO.tup [V.str (Str.ofString "place"),V.int ((ks.length - 1:Nat):Int)])):=fun hc Hx gx p hp=>qx (ks.length - 1) (mG hc) p _ (gx.trans (zC hp _)) (zT gx hp) zB;have good:vV wd s k=true→∀v' H',Same H H'→Rep (jE H H') v' (bld (goT t ks.dropLast) ks (ks.length - 1) (wH wd s k n))→Q v' H':=fun hc=>q _ (mK hc);clear q qx;have tk:tyS H3 (kV k)=some (tyKy k):=by cases k<;>rfl
  refine iN (by rw[mI];lia) ⟨_,tk, ?_⟩;rw[zZn];unfold zQd;walk_at "rd3";refine⟨fun σ' H'=>σ'= [some v,some (V.str wd.s),some (V.ref pa),some vn,some (V.int ((ks.length - 1:Nat):Int)),some c,some (kV k),some (V.bl (byK k)),none,none,none]∧Same H3 H'∧((∃ls us x,s= .dic ls us∧k= .inr x)∨∃us i,s= .lst us∧k= .inl i), ?_, ?_⟩
  ·refine⟨_,hc3.ty, ?_⟩
   have M:∀p,H3 p=none→((∃ls us x,s= .dic ls us∧k= .inr x)∨∃us i,s= .lst us∧k= .inl i)→(zM (tyT s) "list" || zM (tyT s) "dict")=true→decide (zM (tyT s) "dict" =byK k)=true→∃k_1,decide (zM (tyT s) "dict" =byK k)= !k_1∧k_1=false:=fun p hp h1 h2 h3=>⟨false,by rw[h3];rfl,rfl⟩
   have yes:((∃ls us x,s= .dic ls us∧k= .inr x)∨∃us i,s= .lst us∧k= .inl i)→∀p,H3 p=none→∃x t_1 p_1,(c=x∧p=p_1)∧upd H3 p (HO.tup [V.ty "list",V.ty "dict"]) p_1=some (HO.tup [V.ty "list",V.ty "dict"])∧tyS (upd H3 p (HO.tup [V.ty "list",V.ty "dict"])) x=some t_1∧(zM t_1 "list" || zM t_1 "dict")=true∧Same H3 (upd H3 p (HO.tup [V.ty "list",V.ty "dict"])):=fun h p hp=>⟨c,_,p,⟨rfl,rfl⟩,zB,wT (zC hp _) hc3.ty,by rcases h with⟨_,_,_,rfl,_⟩|⟨_,_,rfl,_⟩<;>rfl,zC hp _⟩
   by_cases hsk:(∃ls us x,s= .dic ls us∧k= .inr x)∨∃us i,s= .lst us∧k= .inl i
   ·refine⟨false,by rcases hsk with⟨_,_,_,rfl,rfl⟩|⟨_,_,rfl,rfl⟩<;>rfl,iN (by decide) fun p hp=>?_⟩
    obtain⟨x1,t1,p1,h1,h2,h3,h4,h5⟩:=yes hsk p hp;exact⟨x1,t1,p1,h1,h2,h3,iN (by rw[h4];decide) ⟨rfl,h5,hsk⟩⟩
   ·have hbad:vV wd s k≠true:=by
     cases s with
     | dic ls us=>
      cases k with
      | inr x=>exact absurd (.inl ⟨_,_,_,rfl,rfl⟩) hsk
      | inl i=>cases wd<;>exact fun z=>nomatch z
     | lst us=>
      cases k with
      | inr x=>cases wd<;>exact fun z=>nomatch z
      | inl i=>exact absurd (.inr ⟨_,_,rfl,rfl⟩) hsk
     | tup us=>exact s1f.elim
     | non=>cases wd<;>cases k<;>exact fun z=>nomatch z
     | bl b=>cases wd<;>cases k<;>exact fun z=>nomatch z
     | int b=>cases wd<;>cases k<;>exact fun z=>nomatch z
     | str b=>cases wd<;>cases k<;>exact fun z=>nomatch z
    cases hd:decide (zM (tyT s) "dict" =byK k) with
    | false=>exact⟨true,rfl,iP rfl (bad hbad H3 gg)⟩
    | true=>
     refine⟨false,rfl,iN (by decide) fun p hp=>⟨c,_,p,⟨rfl,rfl⟩,zB,wT (zC hp _) hc3.ty,iP ?_ (bad hbad _ (gg.trans (zC hp _)))⟩⟩
     cases s with
     | dic ls us=>
      cases k with
      | inr x=>exact absurd (.inl ⟨_,_,_,rfl,rfl⟩) hsk
      | inl i=>cases hd
     | lst us=>
      cases k with
      | inr x=>cases hd
      | inl i=>exact absurd (.inr ⟨_,_,rfl,rfl⟩) hsk
     | tup us=>exact s1f.elim
     | non=>rfl
     | bl b=>rfl
     | int b=>rfl
     | str b=>rfl
  rintro σ5 H5 ⟨rfl,g5,hsk⟩;have gH5:=gg.trans g5;have hc5:=Rep.same g5 _ _ hc3;walk_at "rd3";refine⟨fun σ' H'=>σ'= [some v,some (V.str wd.s),some (V.ref pa),some vn,some (V.int ((ks.length - 1:Nat):Int)),some c,some (kV k),some (V.bl (byK k)),none,none,none]∧Same H5 H'∧(∀x,k= .inr x→vV wd s k=true), ?_, ?_⟩
  ·cases k with
   | inl i=>exact iN (by intro z;cases z) ⟨rfl,Same.refl _,fun x e=>by cases e⟩
   | inr x=>
    refine iP rfl ?_;rcases hsk with⟨ls,us,x',rfl,_⟩|⟨_,_,_,e⟩
    ·obtain⟨a,ps,rfl,ha,hkk,hrs⟩:=hc5
     cases wd with
     | ins=>exact iP rfl (bad (fun z=>nomatch z) H5 gH5)
     | put=>exact iN (by decide+kernel) (iN (by decide+kernel) ⟨rfl,Same.refl _,fun _ _=>rfl⟩)
     | tak=>
      refine iN (by decide+kernel) (iP rfl ⟨kV (.inr x),rfl, .ref a,rfl,a,_,rfl, .inl ⟨ps, .inr x, .inl ha,rfl,rfl⟩,_,rfl, ?_⟩);have hvn:=zIz s1f.1 hkk hrs x;have hcan:vV .tak (.dic ls us) (.inr x)=decide (ts x∈ls):=by
       show(if ts x∈ls then some (xG (ts x) ls us) else none).isSome=_
       by_cases h:ts x∈ls
       ·rw[mK h,nB h];rfl
       ·rw[mG h,nE h];rfl
      rw[hvn]
      by_cases h:ts x∈ls
      ·rw[nB h]
       exact iN (by decide) ⟨rfl,Same.refl _,fun _ _=>by rw[hcan];exact nB h⟩
      ·rw[nE h]
       exact iP rfl (bad (by rw[hcan,nE h];decide) H5 gH5)
    ·cases e
  rintro σ6 H6 ⟨rfl,g6,hcan6⟩;have gH6:=gH5.trans g6;have hc6:=Rep.same g6 _ _ hc5;walk_at "rd3";refine⟨fun σ' H'=>σ'= [some v,some (V.str wd.s),some (V.ref pa),some vn,some (V.int ((ks.length - 1:Nat):Int)),some c,some (kV k),some (V.bl (byK k)),none,none,none]∧Same H6 H'∧vV wd s k=true, ?_, ?_⟩
  ·cases k with
   | inr x=>exact iN (by intro z;cases z) ⟨rfl,Same.refl _,hcan6 x rfl⟩
   | inl i=>
    rcases hsk with⟨_,_,_,_,e⟩|⟨us,i',rfl,_⟩
    ·cases e
    obtain⟨a,xs,rfl,ha,hrs⟩:=hc6;have hxl:=hrs.length;have h0:0≤i:=hok.1;refine iP rfl ⟨a,rfl,xs,SqL.of ha,i,rfl, ?_⟩;have key:(((xs.length:Int)- if wd.s=Str.ofString "take" then 1 else 0)<i)↔vV wd (.lst us) (.inl i)≠true:=by
     cases wd with
     | put=>
      rw[mG (by decide+kernel)];show _↔decide (i≤(us.length:Int))≠true;rw[ne_eq,rA];lia
     | ins=>
      rw[mG (by decide+kernel)];show _↔decide (i≤(us.length:Int))≠true;rw[ne_eq,rA];lia
     | tak=>
      rw[mK (show Wd.tak.s=Str.ofString "take" from rfl)];show _↔(us[i.toNat]?).isSome≠true
      by_cases hlt':i.toNat<us.length
      ·rw[nH hlt']
       simp only[Option.isSome_some,ne_eq,not_true_eq_false,iff_false];lia
      ·rw[tU (by lia)]
       simp only[Option.isSome_none,ne_eq,bU,not_false_eq_true,iff_true];lia
    by_cases hcn:vV wd (.lst us) (.inl i)=true
    ·exact iN (fun z=>key.mp z hcn) ⟨rfl,Same.refl _,hcn⟩
    ·exact iP (key.mpr hcn) (bad hcn H6 gH6)
  rintro σ7 H7 ⟨rfl,g7,hcan⟩;have gH7:=gH6.trans g7;have hc7:=Rep.same g7 _ _ hc6;have good:=good hcan;walk_at "rd3";refine⟨fun σ' H'=>∃vm,σ'= [some v,some (V.str wd.s),some (V.ref pa),some vn,some (V.int ((ks.length - 1:Nat):Int)),some c,some (kV k),some (V.bl (byK k)),some vm,none,none]∧Same H H'∧Rep (jE H H') vm (wH wd s k n), ?_, ?_⟩
  ·rcases hsk with⟨ls,us,x,rfl,rfl⟩|⟨us,i,rfl,rfl⟩
   ·obtain⟨a,ps,rfl,ha,hkk,hrs⟩:=hc7
    obtain⟨nk,hkm',hku,hfu⟩:=s1f;have hpl':ps.length=us.length:=by have:=hrs.length;rwa [mI] at this
    have nkp:(ps.map (·.1)).Nodup:=by rw[hkk];exact wL nk
    have hds:T.deps us+1≤16:=by have:=hN.dep;have h2:T.deps us+1=T.dep (.dic ls us):=rfl;lia
    have ex:(Sum.inr x:Key)=nK (ts x):=by show(Sum.inr x:Key)=Sum.inr (tx (ts x));rw[qC]
    refine iP rfl ⟨a,rfl,ps, .inl ⟨ha,fun o=>?_⟩⟩;have gH:∀b,upd H7 a (.frz o (.dK ps)) b=none→H7 b=none:=fun b e=>by
     by_cases hb:b=a
     ·subst hb;rw[zB] at e;cases e
     ·rw[zO hb] at e
      exact e
    have hsf:Reps (upd H7 a (.frz o (.dK ps))) (ps.map (·.2)) us:=Reps.dic_away ha hkk hrs;have hdf:upd H7 a (.frz o (.dK ps)) a=some (.frz o (.dK ps)):=zB;generalize hHf:upd H7 a (.frz o (.dK ps))=Hf at gH hsf hdf⊢;refine kA (fun i ys H'=>Same Hf H'∧∃(kvs:List (Key×V))(D:List Addr),kvs.length=ys.length∧kvs.map (·.1)=(xK (ts x) (ls.take i)).map nK∧Sps H' (kvs.map (·.2)) (yF (ts x) (ls.take i) (us.take i)) D∧(∀b∈D,H7 b=none)∧∀(j:Nat) kv,kvs[j]? =some kv→∃a,ys[j]? =some (.ref a)∧H' a=some (.tup [kV kv.1,kv.2])) ?_ ⟨Same.refl _,[],[],rfl,rfl,⟨rfl,rfl⟩,fun _ h=>(nomatch h),by intro j kv h;simp at h⟩ (fun i ys H' h=>h.1 _ _ hdf) ?_ ?_
    ·rw[mR];lia
    ·rintro i kv ys H' hkv _ ⟨g,kvs,D,l1,l2,hR,hD,ht⟩
     obtain⟨l,hl,hkl1⟩:∃l,ls[i]? =some l∧kv.1=nK l:=by
      have h1:(ps.map (·.1))[i]? =some kv.1:=by rw[nD,hkv];rfl
      rw[hkk,nD] at h1
      cases hr:ls[i]? with
      | none=>rw[hr] at h1;cases h1
      | some l=>rw[hr] at h1;exact⟨l,rfl,(mW h1).symm⟩
     obtain⟨t',ht',hr'⟩:=hsf.get (i:=i) (v:=kv.2) (by rw[nD,hkv];rfl);have hil:=(mQ.mp hl).1;have eN:xK (ts x) (ls.take (i+1))=xK (ts x) (ls.take i)++(if l=ts x then[] else[l]):=by
      rw[yE hl,zFk]
      congr 1
     have eT:yF (ts x) (ls.take (i+1)) (us.take (i+1))=yF (ts x) (ls.take i) (us.take i)++(if l=ts x then[] else[t']):=by
      rw[yE hl,yE ht',zFr _ _ (by rw[nW,nW];lia)]
      congr 1
     walk_at "rd3";rw[hkl1];refine⟨rfl,decide (l≠ts x), ?_, ?_⟩
     ·show decide (V.str (tx l)=V.str x)= !decide (l≠ts x)
      have:(V.str (tx l)=V.str x)↔l=ts x:=⟨fun z=>by rw[←V.str.inj z,vE],fun z=>by rw[z,qC]⟩
      by_cases h:l=ts x
      ·rw[nB (this.mpr h),nE (not_not_intro h)];rfl
      ·rw[nE (fun z=>h (this.mp z)),nB h];rfl
     by_cases hlx:l=ts x
     ·refine iN (by rw[rA];exact fun z=>z hlx) ⟨g,kvs,l1, ?_,D, ?_,hD,ht⟩
      ·rw[eN,mK hlx,pJ];exact l2
      ·rw[eT,mK hlx,pJ];exact hR
     ·have hm':=mP ht'
      have d1:=T.deps_le hm';refine iP (nB hlx) ⟨kv.2, .inl ⟨ps,kv.1, .inr ⟨o,g _ _ hdf⟩,by rw[hkl1],(kJ nkp hkv).symm⟩,kv.2,t',rfl,Rep.same g _ t' hr',T.few_okq _ (T.fewm_few (by lia) _ (T.fewms_mem hfu hm')),by lia,fun v' H1 D1 g1 hv' hD1 p hp1=>⟨(g.trans g1).trans (zC hp1 _),kvs++ [(kv.1,v')],by simp[l1], ?_,D++D1, ?_,fun b hb=>?_, ?_⟩⟩
      ·rw[eN,mG hlx,mX,mX,l2,hkl1];rfl
      ·rw[eT,mG hlx,mX]
       refine Sps.snoc (hv'.same (zC hp1 _)) (hR.same (g1.trans (zC hp1 _))) fun b hb z=>?_;obtain⟨ob,ho⟩:=Sps.there _ _ _ hR hb;rw[hD1 b z] at ho;cases ho
      ·rcases mT.mp hb with z | z
       ·exact hD b z
       ·exact gH b (zT g (hD1 b z))
      ·intro j kv1 hj
       by_cases hlt:j<kvs.length
       ·rw[nV hlt] at hj
        obtain⟨a,e1,e2⟩:=ht j kv1 hj;exact⟨a,by rw[nV (by lia)];exact e1,zC hp1 _ _ _ (g1 _ _ e2)⟩
       ·rw[nU (by lia)] at hj
        have hj0:j - kvs.length=0:=by
         have:=(mQ.mp hj).1
         simpa using this
        rw[hj0] at hj;simp only[pP,Option.some.injEq] at hj;subst hj;exact⟨p,by rw[nU (by lia),←l1,hj0];rfl,by rw[zB,hkl1]⟩
    ·rintro ys H' _ ⟨g,kvs,D,l1,l2,hR,hD,ht⟩ p hp'
     rw[hpl',pK (by lia),pK (mE _)] at hR;rw[hpl',pK (by lia)] at l2;have gs:Same H7 (thaw H7 (upd H' p (.lst ys))):=qK (o:=o) ha (by rw[hHf];exact g.trans (zC hp' _));have hR2:Sps (thaw H7 (upd H' p (.lst ys))) (kvs.map (·.2)) (yF (ts x) ls us) D:=(hR.same (zC hp' _)).thaw;refine⟨p,rfl,ys,wC zB (by intro o v z;cases z),kvs,l1,fun j kv hj=>?_,fun l hl=>?_⟩
     ·obtain⟨a,e1,e2⟩:=ht j kv hj
      exact⟨a,e1,wC (zC hp' _ _ _ e2) (by intro o v z;cases z)⟩
     have ndk:(kvs.map (·.1)).Nodup:=by rw[l2];exact wL (wA nk)
     have em:wZ [] kvs=kvs:=vL kvs [] (by rw[tS];exact ndk);rw[em];generalize hHB:thaw H7 (upd H' p (.lst ys))=HB at gs hR2 hl⊢;have gHB:=gH7.trans gs;have hDH:∀b∈D,H b=none:=fun b hb=>zT gH7 (hD b hb);have hlH:H l=none:=zT gHB hl;have hlD:l∉D:=fun z=>by
      obtain⟨ob,ho⟩:=Sps.there _ _ _ hR2 z;rw[hl] at ho;cases ho
     have s9:=zC hl (.dK kvs);have e9:=zB (H:=HB) (a:=l) (o:=.dK kvs);have hklen:kvs.length≤1000:=by
      have h1:=congrArg List.length l2;rw[mI,mI] at h1;obtain⟨d1,d2⟩:=jA (n:=ts x) hku
      lia
     cases wd with
     | ins=>cases hcan
     | tak=>
      refine iN (by decide+kernel) ⟨.ref l,rfl,gHB.trans s9,l,kvs,rfl,by rw[qH hlH];exact e9,l2, ?_⟩;exact(hR2.same s9).new hDH
     | put=>
      refine iP rfl ⟨vn,n,rfl,Rep.same (gHB.trans s9) _ _ hn,okn,by lia,fun vc HC DC gC hvc hDC=>?_⟩;have eC:=gC _ _ e9;have hnk:(kvs.any fun kv=>decide (kv.1=nK (ts x)))=false:=by
       cases hq:(kvs.any fun kv=>decide (kv.1=nK (ts x))) with
       | false=>rfl
       | true=>exact absurd ((zKo l2).mp hq) fun z=>(dropN_mem.mp z).2 rfl
      have eput:yY kvs (nK (ts x)) vc=kvs++ [(nK (ts x),vc)]:=by
       unfold yY;rw[mG (by rw[hnk];decide)]
      refine⟨_,DPut.k (k:=Sum.inr x) eC (by rw[mR];lia), .ref l,rfl, ?_,l,_,rfl,by rw[qH hlH];exact zB, ?_, ?_⟩
      ·exact((gHB.trans s9).trans gC).put hlH _
      ·rw[ex,eput,mX,mX,l2];rfl
      ·rw[ex,eput,mX]
       have hlC:l∉DC:=fun z=>by
        have:=hDC l z;rw[e9] at this;cases this
       have k1:Sps (upd HC l (.dK (kvs++ [(nK (ts x),vc)]))) (kvs.map (·.2)) (yF (ts x) ls us) D:=Sps.keep _ _ _ (fun b hb o _ e=>by rw[zO (show b≠l from fun z=>hlD (z▸hb))];exact gC _ _ (s9 _ _ e)) hR2;have k2:Sp1 (upd HC l (.dK (kvs++ [(nK (ts x),vc)]))) vc n DC:=Sp1.keep _ _ _ (fun b hb o _ e=>by rw[zO (show b≠l from fun z=>hlC (z▸hb))];exact e) hvc;exact Reps.snoc (k2.new fun b hb=>zT (gHB.trans s9) (hDC b hb)) (k1.new hDH)
   ·obtain⟨a,xs,rfl,ha,hrs⟩:=hc7
    obtain⟨hul,hfu⟩:=s1f;have hxl:=hrs.length;have h0:0≤i:=hok.1;have hds:T.deps us+1≤16:=by have:=hN.dep;have h2:T.deps us+1=T.dep (.lst us):=rfl;lia
    have oks:∀vs:List T,(∀t∈vs,t∈us)→vs.length≤us.length→T.okq (.lst vs)∧T.dep (.lst vs)<20:=fun vs hsub hlen=>by
     refine⟨⟨by lia,T.okqs_of fun t ht=>T.few_okq _ (T.fewm_few (by lia) _ (T.fewms_mem hfu (hsub t ht)))⟩, ?_⟩;have:=zAq (mE (T.deps us)) hsub;show T.deps vs+1<20
     lia
    have fin:∀(aA:Addr)(zs:List V)(vs:List T)(HX:Hp)(j:Nat),Same H7 HX→HX aA=some (.lst zs)→H aA=none→Reps (jE H HX) zs vs→zs.length≤100001→wH wd (.lst us) (.inl i) n= .lst (vs++us.drop j)→rSlL K (V.ref a) (some (j:Int)) none HX fun x_1 H1=>zEh 20 [x_1] H1 (fun y H2=>zWm (V.ref aA) y H2 fun x H1=>∃vm,[some v,some (V.str wd.s),some (V.ref pa),some vn,some (V.int ((ks.length - 1:Nat):Int)),some (V.ref a),some (kV (.inl i)),some (V.bl (byK (.inl i))),some x,none,none]= [some v,some (V.str wd.s),some (V.ref pa),some vn,some (V.int ((ks.length - 1:Nat):Int)),some (V.ref a),some (kV (.inl i)),some (V.bl (byK (.inl i))),some vm,none,none]∧Same H H1∧Rep (jE H H1) vm (wH wd (.lst us) (.inl i) n)) E0:=by
     intro aA zs vs HX j gX hA hAn hRz hlen hp;refine⟨a,xs,rfl,SqL.of (gX _ _ ha),fun p2 hp2=>?_⟩;rw[kS xs (by lia),rZ];have s2:=zC hp2 (.lst (xs.drop j));have e2:=zB (H:=HX) (a:=p2) (o:=.lst (xs.drop j));generalize upd HX p2 (.lst (xs.drop j))=HY at s2 e2⊢;have gY:=gX.trans s2;have gHY:=gH7.trans gY;obtain⟨o1,o2⟩:=oks (us.drop j) (fun t ht=>rX ht) (by rw[pU];lia);refine⟨.ref p2, .lst (us.drop j),rfl,⟨p2,_,rfl,e2,Reps.same gY _ _ (Reps.drop j hrs)⟩,o1,o2,fun vB HB DB gB hB hDB=>?_⟩;obtain⟨aB,ysB,DB',rfl,haB,rfl,haDB,hSB⟩:=hB;have hBl:=hSB.length;refine⟨aA,aB,zs,ysB,rfl,rfl,gB _ _ (s2 _ _ hA),haB,by rw[mR,hBl,pU];lia,fun p3 hp3=>⟨.ref p3,rfl, ?_⟩⟩;have s3:=zC hp3 (.lst (zs++ysB));have gHB:=gHY.trans gB;refine⟨gHB.trans s3, ?_⟩;rw[hp];refine⟨p3,_,rfl,by rw[qH (zT gHB hp3)];exact zB,Reps.append ((hSB.same s3).new fun b hb=>zT gHY (hDB b (mJ _ hb))) (Reps.same (uG (s2.trans (gB.trans s3))) _ _ hRz)⟩
    refine iN (by intro z;cases z) ⟨i,rfl,a,xs,rfl,SqL.of ha,fun p1 hp1=>?_⟩;rw[zHn xs h0];have s1':=zC hp1 (.lst (xs.take i.toNat));have e1':=zB (H:=H7) (a:=p1) (o:=.lst (xs.take i.toNat));generalize upd H7 p1 (.lst (xs.take i.toNat))=HZ at s1' e1'⊢;have gHZ:=gH7.trans s1';obtain⟨o1,o2⟩:=oks (us.take i.toNat) (fun t ht=>rB ht) (by rw[nW];lia);refine⟨.ref p1, .lst (us.take i.toNat),rfl,⟨p1,_,rfl,e1',Reps.same s1' _ _ (Reps.take _ hrs)⟩,o1,o2,fun vA HA DA gA hA hDA=>?_⟩;obtain⟨aA,ysA,DA',rfl,haA,rfl,haDA,hSA⟩:=hA;have hAl:=hSA.length;rw[nW] at hAl;have hAn:H aA=none:=zT gHZ (hDA aA mM);have hDA':∀b∈DA',H b=none:=fun b hb=>zT gHZ (hDA b (mJ _ hb));have g7A:=s1'.trans gA;have app:∀Q':V→Hp→Prop,(∀zs HX,Same H7 HX→HX aA=some (.lst zs)→Reps (jE H HX) zs (us.take i.toNat++ [n])→zs.length≤100001→Q' .non HX)→zEh 20 [vn] HA (fun x_1 H1=>zGe (V.ref aA) [x_1] H1 Q') E0:=by
     intro Q' hQ;refine⟨vn,n,rfl,Rep.same (gH7.trans g7A) _ _ hn,okn,by lia,fun vc HC DC gC hvc hDC=>?_⟩;have hAC:=gC _ _ haA;refine⟨aA,ysA,vc,rfl,rfl,hAC,by rw[mR];lia, ?_⟩;have hAc:aA∉DC:=fun z=>by
      have:=hDC aA z;rw[haA] at this;cases this
     have h7n:H7 aA=none:=zT s1' (hDA aA mM);refine hQ (ysA++ [vc]) _ ((g7A.trans gC).put h7n _) zB ?_ (by rw[mL,nL];lia);have k1:Sps (upd HC aA (.lst (ysA++ [vc]))) ysA (us.take i.toNat) DA':=Sps.keep _ _ _ (fun b hb o _ e=>by rw[zO (show b≠aA from fun z=>haDA (z▸hb))];exact gC _ _ e) hSA;have k2:Sp1 (upd HC aA (.lst (ysA++ [vc]))) vc n DC:=Sp1.keep _ _ _ (fun b hb o _ e=>by rw[zO (show b≠aA from fun z=>hAc (z▸hb))];exact e) hvc;exact Reps.snoc (k2.new fun b hb=>zT (gH7.trans g7A) (hDC b hb)) (k1.new hDA')
    cases wd with
    | tak=>
     refine⟨false,by decide+kernel,iN (by decide) ⟨true,by decide+kernel,i,rfl, ?_⟩⟩;rw[mK rfl,show i+1=((i.toNat+1:Nat):Int) by lia];exact fin aA ysA (us.take i.toNat) HA _ g7A haA hAn (hSA.new hDA') (by lia) rfl
    | put=>
     refine⟨true,by decide+kernel,iP rfl ⟨.inl ⟨rfl,_,SqL.of haA⟩,app _ fun zs HX gX hX hRX hlX=>⟨true,by decide+kernel,i,rfl, ?_⟩⟩⟩;rw[mK rfl,show i+1=((i.toNat+1:Nat):Int) by lia];exact fin aA zs _ HX _ gX hX hAn hRX hlX (by show T.lst _=T.lst _;rw[rP];rfl)
    | ins=>
     refine⟨true,by decide+kernel,iP rfl ⟨.inl ⟨rfl,_,SqL.of haA⟩,app _ fun zs HX gX hX hRX hlX=>⟨false,by decide+kernel,i,rfl, ?_⟩⟩⟩;rw[mG (by decide),show i+0=((i.toNat:Nat):Int) by lia];exact fin aA zs _ HX _ gX hX hAn hRX hlX (by show T.lst _=T.lst _;rw[rP];rfl)
  rintro σ8 H8 ⟨vm,rfl,gH8,hm8⟩;refine⟨.ref pa,rfl,pa,rfl,_,SqL.of (gH8 _ _ hT.pa), ?_⟩;rw[mI];refine⟨by lia,by lia, ?_⟩;rw[show((ks.length:Int)- 2+1).toNat=ks.length - 1 by lia];refine zEz (fun i σ' H'=>∃o9 o10 c' r,σ'= [some v,some (V.str wd.s),some (V.ref pa),some vn,some (V.int ((ks.length - 1:Nat):Int)),some c,some (kV k),some (V.bl (byK k)),some c',o9,o10]∧Same H H'∧Rep (jE H H') c' r∧i≤ks.length - 1∧bld (goT t ks.dropLast) ks (ks.length - 1 - i) r=bld (goT t ks.dropLast) ks (ks.length - 1) (wH wd s k n)) ⟨_,_,vm,_,rfl,gH8,hm8,nY _,rfl⟩ ?_ ?_
  ·rintro i σ' H' hi ⟨o9,o10,c',r,rfl,g,hc',hil,hb⟩
   walk_at "rd3";obtain⟨M,hM⟩:∃M,ks.length - 1 - i=M+1:=⟨ks.length - 2 - i,by lia⟩;have hpl:(ks.length:Int)- 2 - (i:Int)=(M:Int):=by lia
   rw[hpl];obtain⟨k',u',u2,h1,h2,h3,h4⟩:=jQ ks.dropLast t M (by lia);have hki:ks[M]? =some k':=by
    rw[tK,mK (by lia)] at h1;exact h1
   obtain⟨a1,a2,a3⟩:=jC ks.dropLast t M u' hT.few h2;have hok':=hT.ok k' (mP hki);have hpaH:=g _ _ hT.pa;refine⟨pa,_,rfl,SqL.of hpaH,fun p1 hp1=>?_⟩;rw[zHn _ (by lia),rZ,←List.map_take];have t1:=zC hp1 (.lst ((ks.take M).map kV));have f1:=zB (H:=H') (a:=p1) (o:=.lst ((ks.take M).map kV));generalize upd H' p1 (.lst ((ks.take M).map kV))=HA at t1 f1⊢;have gA:=g.trans t1;refine⟨v,t,p1,ks.take M,rfl,Rep.same gA _ _ hT.v,hT.pure,by lia,f1,fun k hk=>hT.ok k (rB hk),by rw[nW];lia,fun o2 c2 w2 HB gB hw2 hc2 ho2=>?_⟩;have hww:w2=u':=by
    have e1:ks.take M=ks.dropLast.take M:=by rw[List.dropLast_eq_take,List.take_take,tT (by lia)]
    rw[e1,zIc ks.dropLast t M (by lia),h2] at hw2;exact(mW hw2).symm
   subst hww;have gHB:=gA.trans gB;have hdt:=hN.dep;refine zBj (SqT.of ho2) (xI (j:=1) rfl) ⟨c2,w2,rfl,Rep.same gB _ _ hc2,T.few_okq _ (T.fewm_few (by lia) _ a1),by lia,fun vA HC DA gC hA hDA=>?_⟩;have gHC:=gHB.trans gC;have hpaC:=gHC _ _ hT.pa;have hix:atI (ks.map kV) (M:Int)=some (kV k'):=xI (j:=M) (by rw[nD,hki];rfl);have eM:bld (goT t ks.dropLast) ks (ks.length - 1 - (i+1)) (yH .put w2 k' r)=bld (goT t ks.dropLast) ks (ks.length - 1) (wH wd s k n):=by
    have e1:(goT t ks.dropLast).getD M .non=w2:=by rw[nI,h2];rfl
    have e2:ks.getD M (.inl 0)=k':=by rw[nI,hki];rfl
    rw[hM] at hb;have hb':bld (goT t ks.dropLast) ks M (yH .put ((goT t ks.dropLast).getD M .non) (ks.getD M (.inl 0)) r)=_:=hb;rw[e1,e2] at hb';rw[show ks.length - 1 - (i+1)=M by lia];exact hb'
   rcases wF h4 with⟨us,i0,rfl,rfl,hi0,ef⟩|⟨ls,us,x,rfl,rfl,hmx,rfl,ef⟩
   ·obtain⟨aA,ysA,DA',rfl,haA,rfl,haDA,hSA⟩:=hA
    have hAl:=hSA.length;have hil':=(mQ.mp hi0).1;have hi00:0≤i0:=hok'.1;have hBn:HB aA=none:=hDA aA mM;have hAn:H aA=none:=zT gHB hBn;have hH'n:H' aA=none:=zT (t1.trans gB) hBn;refine .inl ?_;unfold gSub;walk_at "rd3";refine yP (SqL.of hpaC) hix ⟨aA,ysA,i0,i0.toNat,rfl,rfl,haA, ?_, ?_⟩
    ·unfold ixN
     rw[mK hi00,mK (by lia)]
    ·have gX:Same H' (upd HC aA (.lst (ysA.set i0.toNat c'))):=((t1.trans gB).trans gC).put hH'n _
     refine⟨_,_,_,⟨rfl,rfl,rfl⟩,g.trans gX, .lst (us.set i0.toNat r),⟨aA,_,rfl,by rw[qH hAn];exact zB, ?_⟩,by lia,by rw[←ef];exact eM⟩;have k1:Sps (upd HC aA (.lst (ysA.set i0.toNat c'))) ysA us DA':=Sps.keep _ _ _ (fun b hb o _ e=>by rw[zO (show b≠aA from fun z=>haDA (z▸hb))];exact e) hSA;exact Reps.set (Rep.same (uG gX) _ _ hc') _ (k1.new fun b hb=>zT gHB (hDA b (mJ _ hb)))
   ·obtain⟨aA,psA,DA',rfl,haA,hkA,rfl,haDA,hSA⟩:=hA
    have hAl:=hSA.length;rw[mI] at hAl;have hkm2:=a1.2.1;have hku2:=a1.2.2.1;have hBn:HB aA=none:=hDA aA mM;have hAn:H aA=none:=zT gHB hBn;have hH'n:H' aA=none:=zT (t1.trans gB) hBn;have ex:(Sum.inr x:Key)=nK (ts x):=by show(Sum.inr x:Key)=Sum.inr (tx (ts x));rw[qC]
    refine .inr (yP (SqL.of hpaC) hix ⟨aA,rfl,_,DPut.k (k:=Sum.inr x) haA (by rw[mR];lia), ?_⟩);rw[ex];have gX:Same H' (upd HC aA (.dK (yY psA (nK (ts x)) c'))):=((t1.trans gB).trans gC).put hH'n _;have k1:Sps (upd HC aA (.dK (yY psA (nK (ts x)) c'))) (psA.map (·.2)) us DA':=Sps.keep _ _ _ (fun b hb o _ e=>by rw[zO (show b≠aA from fun z=>haDA (z▸hb))];exact e) hSA;obtain⟨p1',p2'⟩:=zAu (p:=(ls,us)) (n:=ts x) (t:=r) hkA (k1.new fun b hb=>zT gHB (hDA b (mJ _ hb))) (Rep.same (uG gX) _ _ hc');have ep:xO (ls,us) (ts x) r=(ls,yI (ts x) r ls us):=mK hmx;rw[ep] at p1' p2';exact⟨_,_,_,⟨rfl,rfl,rfl⟩,g.trans gX, .dic ls (yI (ts x) r ls us),⟨aA,_,rfl,by rw[qH hAn];exact zB,p1',p2'⟩,by lia,by rw[←ef];exact eM⟩
  ·rintro σ' H' ⟨o9,o10,c',r,rfl,g,hc',hil,hb⟩
   walk_at "rd3";rw[show ks.length - 1 - (ks.length - 1)=0 by lia] at hb;have hb':r=_:=hb;rw[hb'] at hc';exact good c' H' g hc'
abbrev zOq:Stmt:=top 11
abbrev zNg:Stmt:=top 13
theorem kF{H:Hp}{v:V}(h:tyS H v=some "NoneType"):v= .non:=by
 cases v with
 | non=>rfl
 | ref a=>
  have h':(match H a with | some (.lst _)=>some "list" | some (.tup _)=>some "tuple" | some (.dK _)=>some "dict" | _=>none)=some "NoneType":=h
  split at h'<;>first | exact absurd (mW h') (by decide)| cases h'
 | bl b=>exact absurd (mW h) (by decide)
 | int b=>exact absurd (mW h) (by decide)
 | str b=>exact absurd (mW h) (by decide)
 | byt b=>cases h
 | flt b=>cases h
 | ty b=>cases h
def zGf:Sp:=fun vs H Q _=>∃(v:V)(t:String),vs= [v]∧tyR H v=some t∧∀H',Same H H'→Q (wG t) H'
theorem zUe{H:Hp}{v:V}(h:tyR H v=some "NoneType"):v= .non:=by
 cases v with
 | ref a=>
  have h':(match H a with | some (.frz _ (.dK _))=>some "dict" | _=>tyS H (.ref a))=some "NoneType":=h
  split at h'
  ·exact absurd (mW h') (by decide)
  ·exact kF h'
 | non=>rfl
 | bl b=>exact kF (H:=H) (show tyS H (.bl b)=_ from h)
 | int b=>exact kF (H:=H) (show tyS H (.int b)=_ from h)
 | str b=>exact kF (H:=H) (show tyS H (.str b)=_ from h)
 | byt b=>exact kF (H:=H) (show tyS H (.byt b)=_ from h)
 | flt b=>exact kF (H:=H) (show tyS H (.flt b)=_ from h)
 | ty b=>exact kF (H:=H) (show tyS H (.ty b)=_ from h)
theorem zIr(F:Fun K "kind_of" "kind_of" kL f fd)(B:Bl mg):FnOk P w K mg base CX0 1 f fd ["thing"] zGf:=by
 refine F.ok scKindOf (by walk_at "ln") fun c A o s H vs Q E hr h=>?_;obtain⟨v,t,rfl,ht,q⟩:=h;have nd:=scKindOf.nd;refine⟨_,(zE (zS (zGh (zLd (pv 0))) (zG (zK zY)) zL)
  (zE (zS (yA (zN (qM (T:="bool") (by decide)) rfl B.isinstance zI (zA (pv 0) (zA (xP (v:=.ty "bool") rfl B.bool uA rfl) zD)))) (zG (zK zY)) zL)
  (zE (zS (yA (zN (qM (T:="int") (by decide)) rfl B.isinstance zI (zA (pv 0) (zA (xP (v:=.ty "int") rfl B.int gM rfl) zD)))) (zG (zK zY)) zL)
  (zE (zS (yA (zN (qM (T:="str") (by decide)) rfl B.isinstance zI (zA (pv 0) (zA (xP (v:=.ty "str") rfl B.str qR rfl) zD)))) (zG (zK zY)) zL)
  (zE (zS (yA (zN (qM (T:="list") (by decide)) rfl B.isinstance zI (zA (pv 0) (zA (xP (v:=.ty "list") rfl B.list yS rfl) zD)))) (zG (zK zY)) zL)
  (zE (zS (yA (zN (qM (T:="dict") (by decide)) rfl B.isinstance zI (zA (pv 0) (zA (xP (v:=.ty "dict") rfl B.dict yX rfl) zD)))) (zG (zK zY)) zL)
  (zG (zK qV)))))))), ?_⟩
 walk_at "st";walk_at "rd3";have q:=q H (Same.refl H);have hm:=zUo ht;simp only[ht,Option.some.injEq,dS]
 by_cases hv:v= .non
 ·subst hv;cases ht;rw[mK rfl];exact q
 ·rw[mG hv]
  simp only[tyL,mF,rC,bI] at hm;rcases hm with rfl | rfl | rfl | rfl | rfl | rfl | rfl
  ·exact absurd (zUe ht) hv
  all_goals (simpa [zM,wG] using q)
def zSp:Sp:=fun vs H Q _=>∃c:Nat,vs= [.str (tx [c])]∧∀H',Same H H'→Q (.bl (decide (c∈sgnL))) H'
theorem zHe(c:Nat):c∈sgnL↔32≤c∧c≤126∧c≠37:=by
 unfold sgnL;rw[aQ,nP];constructor
 ·rintro⟨⟨i,hi,rfl⟩,h⟩
  have:=rN.mp hi;simp at h
  lia
 ·rintro⟨h1,h2,h3⟩
  exact⟨⟨c - 32,rN.mpr (by lia),by lia⟩,by simp[h3]⟩
theorem scSgn:zV ["sign"] ["sign"] (zH zOq):=by walk_at "sc"
theorem yCb(F:Fun K "is_text_sign" "is_text_sign" zOq f fd)(B:Bl5 mg):FnOk P w K mg base CX0 1 f fd ["sign"] zSp:=by
 refine F.ok scSgn (by walk_at "ln") fun c A o s H vs Q E hr h=>?_;obtain⟨c,rfl,q⟩:=h;have nd:=scSgn.nd;refine⟨_,(zG (zK (xV (zJi zFj zFj zY (pv 0) zY) (xY (yZ uS (zN zQq rfl B.ord yAp (zA (pv 0) zD)) zF (zR _)))))), ?_⟩;walk_at "st";walk_at "rd3";have e1:ts (Str.ofString " ")= [32]:=by decide+kernel
 have e2:ts (Str.ofString "~")= [126]:=by decide+kernel
 have e3:ts (tx [c])= [c]:=rfl;have e4:(↑((#[c]:Array Nat).getD 0 0):Int)=(c:Int):=rfl;have l1:∀a b:Nat,([a]:List Nat)< [b]↔a<b:=fun a b=>by
  constructor
  ·intro h
   cases h with
   | rel h=>exact h
   | cons h=>cases h
  ·exact fun h=>.rel h
 have z:=q H (Same.refl H);rw[e1,e2,e3,e4]
 by_cases c1:c<32
 ·refine⟨false,by rw[nB ((l1 _ _).mpr c1)];rfl,zJx ?_⟩
  rw[nE (fun h=>by have:=(zHe c).mp h;lia)] at z;exact z
 ·refine⟨true,by rw[nE (fun h=>c1 ((l1 _ _).mp h))];rfl,zYu ?_⟩
  by_cases c2:126<c
  ·refine⟨false,by rw[nB ((l1 _ _).mpr c2)];rfl,zJx ?_⟩
   rw[nE (fun h=>by have:=(zHe c).mp h;lia)] at z;exact z
  ·refine⟨true,by rw[nE (fun h=>c2 ((l1 _ _).mp h))];rfl,zYu ⟨rfl, ?_⟩⟩
   have e:decide (c∈sgnL)= !decide ((c:Int)=37):=by
    rw[tQ,decide_eq_true_iff,zHe];simp
    lia
   rw[e] at z;exact z
def tyK:Key→String
 | .inl _=>"int"
 | .inr _=>"str"
theorem yAd{H:Hp}:∀k:Key,tyS H (kV k)=some (tyK k)
 | .inl _=>rfl
 | .inr _=>rfl
theorem yAl{k:Key}{x:Str}(h:kV k= .str x):k=Sum.inr x:=by
 cases k with
 | inl i=>cases h
 | inr y=>cases h;rfl
def zGp:V→Bool
 | .non=>true
 | .bl _=>true
 | .int i=>decide (-(10 ^ 12)≤i∧i≤10 ^ 12)
 | .str x=>decide (x.length≤30)&& (ts x).all fun c=>decide (c∈sgnL)
 | _=>false
def xU:U→Bool
 | .leaf v=>zGp v
 | .lst us=>decide (us.length≤60)
 | .dic ks _=>decide (ks.length≤30)&& ks.all fun k=>qU (kV k)
def zTl:Sp:=fun vs H Q _=>∃(v:V)(u:U),vs= [v]∧Ru H v u∧U.ok u∧U.sz u≤1000∧∀H',Same H H'→Q (.bl (xU u)) H'
theorem scSnd:zV ["thing","kind"] ["thing"] (zH zNg):=by walk_at "sc"
theorem yAa(F:Fun K "is_sound_outside" "is_sound_outside" zNg f fd)(B:Bl5 mg)(M:Ms mg)(Gkind_of:Dn P w K mg base 1 "kind_of" ["thing"] zGf)(Gis_text_sign:Dn P w K mg base 1 "is_text_sign" ["sign"] zSp)(Gis_name:Dn P w K mg base 1 "is_name" ["thing"] zHu):FnOk P w K mg base CX0 2 f fd ["thing"] zTl:=by
 refine F.ok scSnd (by walk_at "ln") fun c A o s H vs Q E hr h=>?_;obtain⟨v,u,rfl,hv,hok,hz,q⟩:=h;have nd:=scSnd.nd;refine⟨_,(zE (pS 1 nd (zU Gkind_of hr (by lia) rfl (zA (pv 0) zD)))
  (zE (zS (zW xC (pv 1) zY (zR _)) (zG (zK (yZ jY (zN zPm rfl B.abs zZv (zA (pv 0) zD)) (zJ kU zF zF) (zR _)))) zL)
  (zE (zS (zW xC (pv 1) zY (zR _)) (zG (zK (xV (yZ jY (zN zAm rfl B.len xH (zA (pv 0) zD)) (zDp rfl M.MOST_IN_TEXT) (zR _)) (xY (zN (vX rfl) rfl B.all gL (zA (xE (own:=["sign"]) (F:=[]) ⟨rfl,by walk_at "wu",by walk_at "wu",by walk_at "wu", .nil⟩ rfl (zQc (pv 0)) (fun _ _ _ _=>yB (i:=0) (by show(xS ["sign"] []).Nodup;decide+kernel) rfl (nR rfl)) (fun _ _ _ _=>yW) (fun _ _ _ _=>(zU Gis_text_sign hr (by lia) rfl (zA (pv 0) zD)))) zD)))))) zL)
  (zE (zS (zW xC (pv 1) zY (zR _)) (zG (zK (yZ jY (zN yL rfl B.len xH (zA (pv 0) zD)) (zDp rfl M.MOST_IN_ROW) (zR _)))) zL)
  (zE (zS (zW xC (pv 1) zY (zR _)) (zG (zK (xV (yZ jY (zN zNv rfl B.len xH (zA (pv 0) zD)) (zDp rfl M.MOST_IN_RECORD) (zR _)) (xY (zN (vX rfl) rfl B.all gL (zA (uL (xE (own:=["name"]) (F:=[]) ⟨rfl,by walk_at "wu",by walk_at "wu",by walk_at "wu", .nil⟩ rfl (zAj (pv 0)) (fun _ _ _ _=>yB (i:=0) (by show(xS ["name"] []).Nodup;decide+kernel) rfl (nR rfl)) (fun _ _ _ _=>yW) (fun _ _ _ _=>(zU Gis_name hr (by lia) rfl (zA (pv 0) zD))))) zD)))))) zL)
  (zG (zK (zGx (zWb (pv 1)))))))))), ?_⟩
 walk_at "st";walk_at "rd3";refine⟨v,_,rfl,hv.ty,fun H1 g1=>?_⟩;have hv:=hv.same g1
 cases u with
 | lst us=>
  rw[show wG (tyU (U.lst us))= .str "row" from by show wG "list" =_;decide+kernel];obtain⟨a,vs,rfl,ha,hs⟩:=hv;have hl:=hs.length;refine⟨rfl,iN (by decide+kernel) ⟨rfl,iN (by decide+kernel) ⟨rfl,iP rfl ⟨a,rfl,vs,SqL.of ha, ?_⟩⟩⟩⟩;have z:=q _ g1;rw[show xU (.lst us)=decide ((vs.length:Int)≤60) from by show decide _=_;rw[decide_eq_decide,hl];lia] at z;exact z
 | dic ks us=>
  rw[show wG (tyU (U.dic ks us))= .str "record" from by show wG "dict" =_;decide+kernel];obtain⟨a,ps,rfl,ha,hk,hs⟩:=hv;obtain⟨nk,hle,hsh,hok⟩:=hok;have hpl:ps.length=ks.length:=by have:=congrArg List.length hk;simpa using this
  have hul:=U.szs_len us;have hz':U.szs us+1≤1000:=hz;refine⟨rfl,iN (by decide+kernel) ⟨rfl,iN (by decide+kernel) ⟨rfl,iN (by decide+kernel) ⟨rfl,iP rfl ⟨a,rfl,ps,ha, ?_⟩⟩⟩⟩⟩
  by_cases h30:ks.length≤30
  ·rw[mK (by rw[hpl];lia)]
   refine⟨a,rfl,ps, ?_⟩;have body:∀(o:Obj)(H2:Hp)(th:Hp→Hp),H2 a=some (.frz o (.dK ps))→(∀H',Same H2 H'→∀p xs,H' p=some (.lst xs)→th H' p=some (.lst xs))→(∀H',Same H2 H'→Same H1 (th H'))→
     wM [Str.ofString "name"] [] (qA 0) zEb (jS zHu [] E0 (zBy (zIe 0) zHl)) [some (V.ref a),some (V.str (Str.ofString "record"))]
      (fun v H'_1=>∃p,v=V.ref p∧∃x,SqL K (th H'_1) p (List.map V.bl x)∧Q (V.bl (x.all id)) (th H'_1)) (Itd a o ps) H2:=by
    intro o H2 th ha2 hth hgth;refine kA (fun i zs H'=>Same H2 H'∧zs=((ks.take i).map fun k=>qU (kV k)).map V.bl) (by rw[mR];lia) ⟨Same.refl _,rfl⟩ (fun i zs H' h=>h.1 _ _ ha2) ?_ ?_
    ·rintro i kv zs H' hkv _ ⟨g,rfl⟩
     have hki:ks[i]? =some kv.1:=by rw[←hk,nD,hkv];rfl
     have hmk:=mP hki;walk_at "rd3";refine⟨kV kv.1,tyK kv.1,rfl,yAd kv.1,fun x e=>?_,fun H3 g3=>⟨g.trans g3, ?_⟩⟩
     ·refine hsh x ?_
      rw[←yAl e];exact hmk
     ·rw[yE hki,mX,mX];rfl
    ·rintro zs H' _ ⟨g,rfl⟩ p hp
     have g2:=g.trans (zC hp (.lst (List.map V.bl ((ks.take ps.length).map fun k=>qU (kV k)))));refine⟨p,rfl,_,SqL.of (hth _ g2 p _ zB), ?_⟩;have z:=q _ (g1.trans (hgth _ g2));rw[hpl,nX] at z⊢;rw[show xU (.dic ks us)=(ks.map fun k=>qU (kV k)).all id from by
      show(decide _ && _)=_;rw[nB h30,cF,tM];rfl] at z
     exact z
   rcases ha with ha |⟨o,ha⟩
   ·exact .inl ⟨ha,fun o=>body o _ (thaw H1) zB (fun H' g p xs e=>wC e (by intro o v z;cases z)) fun H' g=>qK (o:=o) ha g⟩
   ·exact .inr ⟨o,ha,body o H1 (thaw H1) ha (fun H' g p xs e=>wC e (by intro o v z;cases z)) fun H' g=>zFm fun b u e=>.inl (g b u e)⟩
  ·rw[mG (by rw[hpl];lia)]
   have z:=q _ g1;rw[show xU (.dic ks us)=false from by show(decide _ && _)=_;rw[nE h30];rfl] at z;exact z
 | leaf x=>
  obtain⟨rfl,hx⟩:=hv;have z:=q _ g1
  cases v with
  | non=>
   rw[show wG (tyU (U.leaf .non))= .str "nothing" from by decide+kernel];exact⟨rfl,iN (by decide+kernel) ⟨rfl,iN (by decide+kernel) ⟨rfl,iN (by decide+kernel) ⟨rfl,iN (by decide+kernel) z⟩⟩⟩⟩
  | bl b=>
   rw[show wG (tyU (U.leaf (.bl b)))= .str "truth" from by show wG "bool" =_;decide+kernel];exact⟨rfl,iN (by decide+kernel) ⟨rfl,iN (by decide+kernel) ⟨rfl,iN (by decide+kernel) ⟨rfl,iN (by decide+kernel) z⟩⟩⟩⟩
  | int i=>
   rw[show wG (tyU (U.leaf (.int i)))= .str "number" from by show wG "int" =_;decide+kernel];refine⟨rfl,iP rfl ⟨i,rfl, ?_⟩⟩;rw[show xU (.leaf (.int i))=decide ((if i<0 then -i else i)≤1000000000000) from by
    show decide _=_;rw[decide_eq_decide];split<;>lia] at z
   exact z
  | str x=>
   rw[show wG (tyU (U.leaf (.str x)))= .str "text" from by show wG "str" =_;decide+kernel];have hx1:=hok x rfl;have hlen:=zDc x;refine⟨rfl,iN (by decide+kernel) ⟨rfl,iP rfl ⟨x,rfl,by lia, ?_⟩⟩⟩
   by_cases h30:x.length≤30
   ·rw[mK (by lia)]
    refine⟨x,rfl,zJf (fun i ys H'=>Same H1 H'∧ys=(((ts x).take i).map fun c=>decide (c∈sgnL)).map V.bl) (by rw[mR];lia) ⟨Same.refl _,rfl⟩ ?_ ?_⟩
    ·rintro i d ys H' hd _ ⟨hS,rfl⟩
     walk_at "rd3";refine⟨d,rfl,fun H3 g3=>⟨hS.trans g3, ?_⟩⟩;have e:(ts x).take (i+1)=(ts x).take i++ [d]:=by rw[dF,hd];rfl
     rw[e];simp only[mX,mU,sQ]
    ·rintro ys H' hl' ⟨hS,rfl⟩ p hp
     refine⟨p,rfl,_,SqL.of zB, ?_⟩;have z:=q _ (g1.trans (hS.trans (zC hp (.lst ((((ts x).take (ts x).length).map fun c=>decide (c∈sgnL)).map V.bl)))));rw[nX] at z⊢;rw[show xU (.leaf (.str x))=((ts x).map fun c=>decide (c∈sgnL)).all id from by
      show(decide _ && _)=_;rw[nB h30,cF,tM];rfl] at z
     exact z
   ·rw[mG (by lia)]
    rw[show xU (.leaf (.str x))=false from by show(decide _ && _)=_;rw[nE h30];rfl] at z;exact z
  | ref a=>
   rw[show wG (tyU (U.leaf (.ref a)))= .non from by show wG "tuple" =_;decide+kernel];exact⟨rfl,iN (by decide+kernel) ⟨rfl,iN (by decide+kernel) ⟨rfl,iN (by decide+kernel) ⟨rfl,iN (by decide+kernel) z⟩⟩⟩⟩
  | byt b=>rcases hx with h |⟨a,xs,h,_⟩<;>cases h
  | flt b=>rcases hx with h |⟨a,xs,h,_⟩<;>cases h
  | ty b=>rcases hx with h |⟨a,xs,h,_⟩<;>cases h
abbrev sHp:Stmt:=top 14
abbrev sPo:Stmt:=top 15
abbrev sPz:Stmt:=top 16
abbrev sTh:Stmt:=top 12
def kids:U→List U
 | .lst us=>us
 | .dic _ us=>us
 | .leaf _=>[]
def isH:U→Bool
 | .leaf _=>false
 | _=>true
def yM(us:List U):List U:=(us.map kids).flatten
def zYn:Sp:=fun vs H Q _=>∃(v:V)(u:U),vs= [v]∧Ru H v u∧∀H',Same H H'→Q (.bl (isH u)) H'
theorem zWq:∀u:U,(zM (tyU u) "list" || zM (tyU u) "dict")=isH u
 | .leaf .non=>by decide+kernel
 | .leaf (.bl _)=>by show(zM "bool" "list" || zM "bool" "dict")=false;decide+kernel
 | .leaf (.int _)=>by show(zM "int" "list" || zM "int" "dict")=false;decide+kernel
 | .leaf (.str _)=>by show(zM "str" "list" || zM "str" "dict")=false;decide+kernel
 | .leaf (.byt _)=>by show(zM "tuple" "list" || zM "tuple" "dict")=false;decide+kernel
 | .leaf (.flt _)=>by show(zM "tuple" "list" || zM "tuple" "dict")=false;decide+kernel
 | .leaf (.ref _)=>by show(zM "tuple" "list" || zM "tuple" "dict")=false;decide+kernel
 | .leaf (.ty _)=>by show(zM "tuple" "list" || zM "tuple" "dict")=false;decide+kernel
 | .lst _=>by show(zM "list" "list" || zM "list" "dict")=true;decide+kernel
 | .dic _ _=>by show(zM "dict" "list" || zM "dict" "dict")=true;decide+kernel
theorem scHp:zV ["thing"] ["thing"] (zH sHp):=by walk_at "sc"
theorem ok_hp(F:Fun K "holds_parts" "holds_parts" sHp f fd)(B:Bl mg):FnOk P w K mg base CX0 1 f fd ["thing"] zYn:=by
 refine F.ok scHp (by walk_at "ln") fun c A o s H vs Q E hr h=>?_;obtain⟨v,u,rfl,hv,q⟩:=h;have nd:=scHp.nd;refine⟨_,(zG (zK (zN (zKy (T:="list") (W:="dict") (by decide) (by decide)) rfl B.isinstance zI (zA (pv 0) (zA (xJ (zA (xP (v:=.ty "list") rfl B.list yS rfl) (zA (xP (v:=.ty "dict") rfl B.dict yX rfl) zD))) zD))))), ?_⟩;walk_at "st";walk_at "rd3";intro p hp;have g:=zC hp (.tup [V.ty "list",V.ty "dict"]);refine⟨v,tyU u,p,⟨rfl,rfl⟩,zB,(hv.same g).ty, ?_⟩;have z:=q _ g;rw[←zWq] at z;exact z
def zYa:Sp:=fun vs H Q _=>∃(H0:Hp)(v:V)(u:U),vs= [v]∧Same H0 H∧Ru H0 v u∧isH u=true∧∀l ys H',Same H H'→H' l=some (.lst ys)→Rus H0 ys (kids u)→Q (.ref l) H'
theorem scPo:zV ["thing"] ["thing"] (zH sPo):=by walk_at "sc"
theorem ok_po(F:Fun K "parts_of" "parts_of" sPo f fd)(B:Bl mg):FnOk P w K mg base CX0 1 f fd ["thing"] zYa:=by
 refine F.ok scPo (by walk_at "ln") fun c A o s H vs Q E hr h=>?_;obtain⟨H0,v,u,rfl,g0,hv,hh,q⟩:=h;have nd:=scPo.nd;refine⟨_,(zE (zS (yA (zN (qM (T:="dict") (by decide)) rfl B.isinstance zI (zA (pv 0) (zA (xP (v:=.ty "dict") rfl B.dict yX rfl) zD)))) (zG (zK (yN (gG rfl) rfl B.list yS (zA (yBi sZ aJ bX zBn (pv 0)) zD)))) zL)
  (zG (zK (yN qI rfl B.list yS (zA (pv 0) zD))))), ?_⟩
 walk_at "st";walk_at "rd3"
 cases u with
 | leaf _=>cases hh
 | lst us=>
  have hty:tyR H v=some "list":=(hv.same g0).ty;obtain⟨a,xs,rfl,ha,hs⟩:=hv;exact⟨"list",hty,iN (by decide+kernel) ⟨a,rfl,xs, .inl (SqL.of (g0 _ _ ha)),fun l hl=>q l xs _ (zC hl _) zB hs⟩⟩
 | dic ks us=>
  have hty:tyR H v=some "dict":=(hv.same g0).ty;obtain⟨a,ps,rfl,ha,hk,hs⟩:=hv;refine⟨"dict",hty,iP (by decide+kernel) ?_⟩;have ha:=ha.same g0;refine⟨.ref a,rfl,⟨a,ps,rfl,ha⟩,a,ps,rfl,rfl,ha,fun p hp=>?_⟩;have g:=zC hp (zAg p a);exact⟨p,rfl,a,zB,ps,ha.same g,fun l hl=>q l _ _ (g.trans (zC hl _)) zB hs⟩
def yCe:Sp:=fun vs H Q _=>∃(a:Addr)(xs:List V)(us:List U),vs= [.ref a]∧H a=some (.lst xs)∧Rus H xs us∧(∀u∈us,isH u=true)∧U.szs us≤10000∧∀l ys H',Same H H'→H' l=some (.lst ys)→Rus H' ys (yM us)→Q (.ref l) H'
theorem zKt(us:List U)(u:U):yM (us++ [u])=yM us++kids u:=by simp[yM]
theorem zMd:∀u:U,U.szs (kids u)+1=U.sz u∨kids u= []
 | .leaf _=>.inr rfl
 | .lst _=>.inl rfl
 | .dic _ _=>.inl rfl
theorem zIw:∀us:List U,(yM us).length≤U.szs us
 | []=>mE _
 | u::us=>by
  have:=zIw us;have e:yM (u::us)=kids u++yM us:=rfl;rw[e,mL];show _≤U.sz u+U.szs us;have h1:=U.szs_len (kids u);rcases zMd u with h | h
  ·lia
  ·rw[h];simp only[pF];lia
theorem scPz:zV ["holders","parts","holder"] ["holders"] (zH sPz):=by walk_at "sc"
theorem zYt(F:Fun K "parts_of_all" "parts_of_all" sPz f fd)(B:Bl mg)(Gparts_of:Dn P w K mg base 1 "parts_of" ["thing"] zYa):FnOk P w K mg base CX0 2 f fd ["holders"] yCe:=by
 refine F.ok scPz (by walk_at "ln") fun c A o s H vs Q E hr h=>?_;obtain⟨a,xs,us,rfl,ha,hs,hh,hz,q⟩:=h;have nd:=scPz.nd;refine⟨_,(zE (pS 1 nd (yG zD))
  (zE (vZ PassesOwn.never rfl (wJ (pv 0)) (yB (i:=2) nd rfl (nR rfl)) (zG (vJ (uO pY PySem.F.slot_list_extend PySem.F.type_list_extend zPc (pv 1) (zA (zU Gparts_of hr (by lia) rfl (zA (pv 2) zD)) zD)))))
  (zG (zK (pv 1))))), ?_⟩
 walk_at "st";walk_at "rd3";intro p hp;have g0:=zC hp (.lst []);have hpa:p≠a:=fun z=>by rw[z,ha] at hp;cases hp
 refine⟨⟨_,SqL.of (g0 _ _ ha)⟩, ?_⟩;refine vP (K:=K) (a:=a) (xs:=xs) (fun i σ H2=>(∃o,σ= [some (V.ref a),some (V.ref p),o])∧Same H H2∧∃ys,H2 p=some (.lst ys)∧Rus H ys (yM (us.take i))) ⟨⟨_,rfl⟩,g0,[],zB,rfl⟩ (fun i σ H2 _ h=>SqL.of (h.2.1 _ _ ha)) ?_ ?_
 ·rintro i x σ H2 hx ⟨⟨o,rfl⟩,g,ys,hp2,hR⟩
  obtain⟨u,hu,hr'⟩:=hs.get hx;have hm:=mP hu;walk_at "rd3";refine⟨nR ⟨rfl,_,SqL.of hp2⟩,H,x,u,rfl,g,hr',hh u hm,fun l zs H3 g3 hl hZ=>?_⟩;have h1:=hR.length;have h2:=hZ.length;have h3:=zIw (us.take (i+1));have h4:U.szs (us.take (i+1))≤U.szs us:=by
   conv=>rhs;rw[←cG (i+1) us]
   rw[U.szs_append];lia
  have e:=zKt (us.take i) u;rw[←yE hu] at e;have h5:=congrArg List.length e;rw[mL] at h5;refine⟨p,l,ys,zs,rfl,rfl,g3 _ _ hp2,hl,by rw[mR];lia,⟨_,rfl⟩,(g.trans g3).put hp _,ys++zs,zB, ?_⟩;rw[e];exact Rus.append hZ hR
 ·rintro σ H2 ⟨⟨o,rfl⟩,g,ys,hp2,hR⟩
  walk_at "rd3";have hl:=hs.length;rw[hl,nX] at hR;exact q p ys H2 g hp2 (hR.same g)
def jd:Nat→Nat→List U→Bool
 | 0,_,_=>false
 | k+1,z,us=>if 200<z+us.length∨us.all xU=false then false else if us.any isH=false then true else jd k (z+us.length) (yM us)
theorem zJa:∀us:List U,U.szs (yM us)≤U.szs us
 | []=>mE _
 | u::us=>by
  have:=zJa us;have e:yM (u::us)=kids u++yM us:=rfl;rw[e,U.szs_append];show _≤U.sz u+U.szs us;rcases zMd u with h | h
  ·lia
  ·rw[h];show 0+_≤_;lia
theorem zCa:∀us:List U,yM (us.filter isH)=yM us
 | []=>rfl
 | u::us=>by
  have ih:=zCa us
  cases u with
  | leaf v=>rw[cB (by simp[isH])];exact ih
  | lst ws=>
   rw[aO rfl];show ws++yM (us.filter isH)=ws++yM us;rw[ih]
  | dic ks ws=>
   rw[aO rfl];show ws++yM (us.filter isH)=ws++yM us;rw[ih]
theorem zJp:∀{us:List U},U.oks us→U.oks (yM us)
 | [],_=>mH
 | u::us,h=>by
  have ih:=zJp h.2;have e:yM (u::us)=kids u++yM us:=rfl;rw[e];refine U.oks_of fun x hx=>?_;rcases mT.mp hx with z | z
  ·cases u with
   | leaf v=>cases z
   | lst ws=>exact U.oks_mem h.1 z
   | dic ks ws=>exact U.oks_mem h.1.2.2.2 z
  ·exact U.oks_mem ih z
theorem zCz:∀us:List U,U.szs (us.filter isH)≤U.szs us
 | []=>mE _
 | x::r=>by
  have ih:=zCz r
  cases hx:isH x with
  | true=>rw[aO hx];show U.sz x+_≤U.sz x+_;lia
  | false=>rw[cB (by rw[hx];decide)];show _≤U.sz x+_;lia
def spTh:Sp:=fun vs H Q _=>∃(v:V)(u:U),vs= [v]∧Ru H v u∧U.ok u∧U.sz u≤1000∧∀H',Same H H'→Q (.bl (jd 9 0 [u])) H'
theorem scTh:zV ["thing","level","size","depth","holders"] ["thing"] (zH sTh):=by walk_at "sc"
theorem ok_th(F:Fun K "is_thing" "is_thing" sTh f fd)(B:Bl mg)(M:Ms mg)(Gis_sound_outside:Dn P w K mg base 2 "is_sound_outside" ["thing"] zTl)(Gholds_parts:Dn P w K mg base 1 "holds_parts" ["thing"] zYn)(Gparts_of_all:Dn P w K mg base 2 "parts_of_all" ["holders"] yCe):FnOk P w K mg base CX0 3 f fd ["thing"] spTh:=by
 refine F.ok scTh (by walk_at "ln") fun c A o s H vs Q E hr h=>?_;obtain⟨v,u,rfl,hv,hok,hz,q⟩:=h;have nd:=scTh.nd;refine⟨_,(zE (pS 1 nd (yG (zA (pv 0) zD)))
  (zE (pS 2 nd zF)
  (zE (pS 3 nd zF)
  (zE (zIy PassesOwn.never (zW jY (pv 3) (zDp rfl M.MOST_DEPTH) (zR _)) (zE (zTj (i:=2) nd rfl (nR rfl) (zN yL rfl B.len xH (zA (pv 1) zD)) zTn)
  (zE (zS (PW.pt (gZ (zW zIb (pv 2) (zDp rfl M.MOST_SIZE) (zR _)) (jN (xX (yA (zN (vX rfl) rfl B.all gL (zA (xE (own:=["part"]) (F:=[]) ⟨rfl,by walk_at "wu",by walk_at "wu",by walk_at "wu", .nil⟩ rfl (wJ (pv 1)) (fun _ _ _ _=>yB (i:=0) (by show(xS ["part"] []).Nodup;decide+kernel) rfl (nR rfl)) (fun _ _ _ _=>yW) (fun _ _ _ _=>(zU Gis_sound_outside hr (by lia) rfl (zA (pv 0) zD)))) zD))))))) (zG (zK vO)) zL)
  (zE (zCj (i:=4) nd rfl (nR rfl) (own:=["part"]) (F:=[]) ⟨rfl,by walk_at "wu",by walk_at "wu",by walk_at "wu", .nil⟩ rfl (wJ (pv 1)) (fun _ _ _ _=>yB (i:=0) (by show(xS ["part"] []).Nodup;decide+kernel) rfl (nR rfl)) (fun _ _ _ _=>(zMf (yA (zU Gholds_parts hr (by lia) rfl (zA (pv 0) zD))))) (fun _ _ _ _=>(pv 0)))
  (zE (zS (xX (zJe (pv 4) (fun _=>rfl))) (zG (zK vO)) zL)
  (zE (pS 1 nd (zU Gparts_of_all hr (by lia) rfl (zA (pv 4) zD)))
  (zG (zTj (i:=3) nd rfl (nR rfl) zF zTn))))))))
  (zG (zK vO)))))), ?_⟩
 walk_at "st";walk_at "rd3";intro p hp;have g0:=zC hp (.lst [v]);refine⟨fun m σ H2=>∃(i z:Nat)(a:Addr)(xs:List V)(us:List U)(o:Option V),m=9 - i∧i≤9∧σ= [some v,some (V.ref a),some (V.int z),some (V.int i),o]∧Same H H2∧H2 a=some (.lst xs)∧Rus H2 xs us∧U.oks us∧U.szs us≤1000∧z≤1000*i∧jd 9 0 [u]=jd (9 - i) z us, ?_⟩;refine⟨⟨9,0,0,p,[v],[u],none,rfl,by decide,rfl,g0,zB,⟨v,[],rfl,hv.same g0,rfl⟩,⟨hok,mH⟩, ?_,by decide,rfl⟩, ?_⟩
 ·show U.sz u+0≤1000
  lia
 rintro m σ H2 ⟨i,z,a,xs,us,o,rfl,hi,rfl,g,ha,hs,hoks,hsz,hzi,hj⟩;have hxl:=hs.length;have hul:=U.szs_len us;walk_at "rd3"
 by_cases h8:i≤8
 ·rw[mK (by lia)]
  obtain⟨k,hk⟩:∃k,9 - i=k+1:=⟨8 - i,by lia⟩;rw[hk] at hj;refine⟨fun σ' H'=>∃(a':Addr)(xs':List V)(o':Option V),σ'= [some v,some (V.ref a'),some (V.int ((z+us.length:Nat):Int)),some (V.int ((i+1:Nat):Int)),o']∧Same H H'∧H' a'=some (.lst xs')∧Rus H' xs' (yM us)∧jd 9 0 [u]=jd k (z+us.length) (yM us), ?_, ?_⟩
  ·rintro σ' H' ⟨a',xs',o',rfl,g',ha',hs',hj'⟩
   refine⟨9 - (i+1),by lia,i+1,rfl,by lia,z+us.length,a',⟨o',rfl⟩,g',xs',ha',yM us,hs',zJp hoks,nN (zJa us) hsz,by lia, ?_⟩;rw[show 9 - (i+1)=k by lia];exact hj'
  ·walk_at "rd3"
   simp only[tAug,ipI];walk_at "rd3";refine⟨xs,SqL.of ha, ?_⟩;have ej:jd (k+1) z us=if 200<z+us.length∨us.all xU=false then false else if us.any isH=false then true else jd k (z+us.length) (yM us):=rfl;rw[ej] at hj
   by_cases h200:200<z+us.length
   ·rw[mK (by rw[hxl];lia)]
    have zq:=q _ g;rw[hj,mK (.inl h200)] at zq;exact zq
   ·rw[mG (by rw[hxl];lia)]
    refine⟨⟨xs,SqL.of ha⟩,vF (K:=K) (xs:=xs) (fun j ys H'=>Same H2 H'∧ys=((us.take j).map xU).map V.bl) (by rw[mR];lia) ⟨Same.refl _,rfl⟩ (fun j ys H' _ h=>SqL.of (h.1 _ _ ha)) ?_ ?_⟩
    ·rintro j x ys H' hx _ ⟨g3,rfl⟩
     obtain⟨u',hu,hr'⟩:=hs.get hx;have hm:=mP hu;walk_at "rd3";refine⟨x,u',rfl,hr'.same g3,U.oks_mem hoks hm,nN (U.szs_le hm) hsz,fun H4 g4=>⟨g3.trans g4, ?_⟩⟩;rw[yE hu,mX,mX];rfl
    ·rintro ys H' _ ⟨g3,rfl⟩ p1 hp1
     have g4:=g3.trans (zC hp1 (.lst (((us.take xs.length).map xU).map V.bl)));refine⟨p1,rfl,_,SqL.of zB, ?_⟩;rw[hxl,nX] at g4⊢;have eall:(us.map xU).all id=us.all xU:=by rw[tM];rfl
     rw[eall];generalize upd H' p1 (.lst ((us.map xU).map V.bl))=H3 at g4⊢
     by_cases hall:us.all xU=false
     ·rw[mK hall]
      have zq:=q _ (g.trans g4);rw[hj,mK (.inr hall)] at zq;exact zq
     ·rw[mG hall]
      rw[mG (fun h=>h.elim h200 hall)] at hj;have ha3:=g4 _ _ ha;have hs3:=hs.same g4;refine⟨⟨xs,SqL.of ha3⟩,vF (K:=K) (xs:=xs) (fun j ys H'=>Same H3 H'∧Rus H3 ys ((us.take j).filter isH)) (by rw[mR];lia) ⟨Same.refl _,rfl⟩ (fun j ys H' _ h=>SqL.of (h.1 _ _ ha3)) ?_ ?_⟩
      ·rintro j x ys H' hx _ ⟨g5,hys⟩
       obtain⟨u',hu,hr'⟩:=hs3.get hx;walk_at "rd3";refine⟨x,u',rfl,hr'.same g5,fun H4 g6=>⟨isH u',rfl, ?_⟩⟩;rw[yE hu,List.filter_append]
       cases hh:isH u' with
       | true=>
        rw[mK rfl,aO hh];exact⟨g5.trans g6,hys.snoc hr'⟩
       | false=>
        rw[mG (by decide),cB (by rw[hh];decide),List.filter_nil,pJ];exact⟨g5.trans g6,hys⟩
      ·rintro ys H' _ ⟨g5,hys⟩ p2 hp2
       rw[hxl,nX] at hys;have g6:=g5.trans (zC hp2 (.lst ys));have hyl:=hys.length;refine⟨!ys.isEmpty, .inl ⟨ys,SqL.of zB,rfl⟩, ?_⟩;have eany:(!ys.isEmpty)=us.any isH:=by
        have e1:ys.isEmpty=(us.filter isH).isEmpty:=by
         cases ys with
         | nil=>cases hf:us.filter isH with
          | nil=>rfl
          | cons _ _=>rw[hf] at hyl;cases hyl
         | cons _ _=>cases hf:us.filter isH with
          | nil=>rw[hf] at hyl;cases hyl
          | cons _ _=>rfl
        rw[e1,tQ,aH]
        cases hf:us.filter isH with
        | nil=>
         simp only[List.isEmpty_nil,Bool.not_true,bU,false_iff];rintro⟨x,h1,h2⟩;have:x∈us.filter isH:=aQ.mpr ⟨h1,h2⟩;rw[hf] at this;cases this
        | cons x r=>
         have:x∈us.filter isH:=by rw[hf];exact mM
         have:=aQ.mp this;exact⟨fun _=>⟨x,this.1,this.2⟩,fun _=>rfl⟩
       rw[eany];have hp2':upd H' p2 (.lst ys) p2=some (.lst ys):=zB;generalize upd H' p2 (.lst ys)=H4 at g6 hp2'⊢
       cases hany:us.any isH with
       | false=>
        rw[mK rfl];have zq:=q _ (g.trans (g4.trans g6));rw[hj,mK hany] at zq;exact zq
       | true=>
        rw[mG (by decide)];rw[mG (by rw[hany];decide)] at hj;have hszf:=zCz us;refine⟨p2,ys,us.filter isH,rfl,hp2',hys.same g6,fun u' hu'=>(aQ.mp hu').2,by lia,fun l zs H5 g7 hl hz'=>?_⟩;rw[zCa] at hz';refine⟨_,rfl,_,_,rfl,rfl,l,⟨some (V.ref p2), ?_⟩,g.trans (g4.trans (g6.trans g7)),zs,hl,hz',hj⟩;simp only[cY,cZ,hxl,Int.natCast_add,Int.cast_ofNat_Int]
 ·rw[mG (by lia)]
  have e9:9 - i=0:=by lia
  rw[e9] at hj;have zq:=q _ g;rw[hj] at zq;exact zq
end
mutual
def T.gd:T→Prop
 | .str x=>x.length≤1000∧∀c∈x,c∈sgnL∨c=9∨c=10
 | .lst us=>T.gds us
 | .tup us=>T.gds us
 | .dic ks us=>ks.Nodup∧ks.length=us.length∧(∀k∈ks,k.length≤1000)∧T.gds us
 | .non=>True
 | .bl _=>True
 | .int _=>True
def T.gds:List T→Prop
 | []=>True
 | u::us=>T.gd u∧T.gds us
end
mutual
def okT:T→Bool
 | .non=>true
 | .bl _=>true
 | .int i=>decide (-(10 ^ 12)≤i∧i≤10 ^ 12)
 | .str x=>decide (x.length≤30)&& x.all fun c=>decide (c∈sgnL)
 | .tup _=>false
 | .lst ts=>decide (ts.length≤60)&& uT ts
 | .dic ks ts=>(decide (ks.length≤30)&& ks.all yU)&& uT ts
def uT:List T→Bool
 | []=>true
 | t::ts=>okT t && uT ts
end
def vH(t:T):Bool:=okT t && decide (T.dep t≤8)&& decide (T.sz t≤200)
mutual
def okU:U→Bool
 | .leaf v=>zGp v
 | .lst us=>decide (us.length≤60)&& jG us
 | .dic ks us=>(decide (ks.length≤30)&& ks.all fun k=>qU (kV k))&& jG us
def jG:List U→Bool
 | []=>true
 | u::us=>okU u && jG us
end
mutual
def Em:T→U→Prop
 | .non,u=>u= .leaf .non
 | .bl b,u=>u= .leaf (.bl b)
 | .int i,u=>u= .leaf (.int i)
 | .str x,u=>u= .leaf (.str (tx x))
 | .tup _,u=>∃a,u= .leaf (.ref a)
 | .lst ts,u=>∃us,u= .lst us∧Ems ts us
 | .dic ks ts,u=>∃us,u= .dic (ks.map nK) us∧Ems ts us
def Ems:List T→List U→Prop
 | [],us=>us= []
 | t::ts,us=>∃u r,us=u::r∧Em t u∧Ems ts r
end
theorem Ems.length:∀{ts:List T}{us:List U},Ems ts us→us.length=ts.length
 | [],us,h=>by
  have h':us= []:=h;rw[h'];rfl
 | t::ts,us,⟨u,r,e,_,h⟩=>by
  rw[e,nG,nG,Ems.length h]
mutual
theorem zXq{H:Hp}:∀(v:V)(t:T),Rep H v t→T.gd t→∃u,Ru H v u∧Em t u∧U.ok u∧U.sz u≤T.sz t
 | v, .non,h,_=>⟨.leaf .non,⟨h, .inl rfl⟩,rfl,(fun x e=>by cases e),mE _⟩
 | v, .bl b,h,_=>⟨.leaf (.bl b),⟨h, .inl rfl⟩,rfl,(fun x e=>by cases e),mE _⟩
 | v, .int i,h,_=>⟨.leaf (.int i),⟨h, .inl rfl⟩,rfl,(fun x e=>by cases e),mE _⟩
 | v, .str x,h,g=>⟨.leaf (.str (tx x)),⟨h, .inl rfl⟩,rfl,(fun y e=>by cases e;rw[wN];exact g.1),mE _⟩
 | v, .tup ts,⟨a,vs,e,h,hs⟩,_=>⟨.leaf (.ref a),⟨e, .inr ⟨a,vs,rfl,h⟩⟩,⟨a,rfl⟩,(fun y e=>by cases e),tH (nY _)⟩
 | v, .lst ts,⟨a,vs,e,h,hs⟩,g=>by
  obtain⟨us,h1,h2,h3,h4⟩:=zLi vs ts hs g;exact⟨.lst us,⟨a,vs,e,h,h1⟩,⟨us,rfl,h2⟩,h3,tH h4⟩
 | v, .dic ks ts,⟨a,ps,e,h,hk,hs⟩,g=>by
  obtain⟨us,h1,h2,h3,h4⟩:=zLi _ ts hs g.2.2.2;refine⟨.dic (ks.map nK) us,⟨a,ps,e, .inl h,hk,h1⟩,⟨us,rfl,h2⟩,⟨wL g.1, ?_, ?_,h3⟩,tH h4⟩
  ·rw[mI,g.2.1,h2.length]
  ·intro x hx
   obtain⟨k,hk',e'⟩:=nP.mp hx;have e2:tx k=x:=Sum.inr.inj e';rw[←e2,wN];exact g.2.2.1 k hk'
theorem zLi{H:Hp}:∀(vs:List V)(ts:List T),Reps H vs ts→T.gds ts→∃us,Rus H vs us∧Ems ts us∧U.oks us∧U.szs us≤T.szs ts
 | vs,[],h,_=>⟨[],h,rfl,mH,mE _⟩
 | _,t::ts,⟨v,r,e,h1,h2⟩,g=>by
  obtain⟨u,a1,a2,a3,a4⟩:=zXq v t h1 g.1;obtain⟨us,b1,b2,b3,b4⟩:=zLi r ts h2 g.2;exact⟨u::us,⟨v,r,e,a1,b1⟩,⟨u,us,rfl,a2,b2⟩,⟨a3,b3⟩,Nat.add_le_add a4 b4⟩
end
theorem zRk(ks:List (List Nat)):((ks.map nK).all fun k=>qU (kV k))=ks.all yU:=by
 rw[tM]
 congr 1
mutual
theorem zXu:∀(t:T)(u:U),Em t u→okU u=okT t∧(okT t=true→U.dep u=T.dep t∧U.sz u=T.sz t)
 | .non,u,h=>by rw[show u=_ from h];exact⟨rfl,fun _=>⟨rfl,rfl⟩⟩
 | .bl _,u,h=>by rw[show u=_ from h];exact⟨rfl,fun _=>⟨rfl,rfl⟩⟩
 | .int _,u,h=>by rw[show u=_ from h];exact⟨rfl,fun _=>⟨rfl,rfl⟩⟩
 | .str x,u,h=>by
  rw[show u=_ from h];refine⟨?_,fun _=>⟨rfl,rfl⟩⟩;show(decide ((tx x).length≤30)&& (ts (tx x)).all fun c=>decide (c∈sgnL))=_;rw[wN,vE];rfl
 | .tup _,u,⟨a,e⟩=>by rw[e];exact⟨rfl,fun h=>nomatch h⟩
 | .lst ts,u,⟨us,e,h⟩=>by
  obtain⟨a,b⟩:=zLc ts us h;rw[e];refine⟨?_,fun z=>?_⟩
  ·show(decide (us.length≤60)&& jG us)=(decide (ts.length≤60)&& uT ts)
   rw[h.length,a]
  ·have z':(decide (ts.length≤60)&& uT ts)=true:=z
   rw[pX] at z';obtain⟨b1,b2⟩:=b z'.2;exact⟨congrArg Nat.succ b1,congrArg Nat.succ b2⟩
 | .dic ks ts,u,⟨us,e,h⟩=>by
  obtain⟨a,b⟩:=zLc ts us h;rw[e];refine⟨?_,fun z=>?_⟩
  ·show((decide ((ks.map nK).length≤30)&& (ks.map nK).all fun k=>qU (kV k))&& jG us)=((decide (ks.length≤30)&& ks.all yU)&& uT ts)
   rw[mI,zRk,a]
  ·have z':((decide (ks.length≤30)&& ks.all yU)&& uT ts)=true:=z
   rw[pX] at z';obtain⟨b1,b2⟩:=b z'.2;exact⟨congrArg Nat.succ b1,congrArg Nat.succ b2⟩
theorem zLc:∀(ts:List T)(us:List U),Ems ts us→jG us=uT ts∧(uT ts=true→U.deps us=T.deps ts∧U.szs us=T.szs ts)
 | [],us,h=>by rw[show us=_ from h];exact⟨rfl,fun _=>⟨rfl,rfl⟩⟩
 | t::ts,us,⟨u,r,e,h1,h2⟩=>by
  obtain⟨a1,a2⟩:=zXu t u h1;obtain⟨b1,b2⟩:=zLc ts r h2;rw[e];refine⟨?_,fun z=>?_⟩
  ·show(okU u && jG r)=(okT t && uT ts)
   rw[a1,b1]
  ·have z':(okT t && uT ts)=true:=z
   rw[pX] at z';obtain⟨c1,c2⟩:=a2 z'.1;obtain⟨d1,d2⟩:=b2 z'.2;exact⟨by show max (U.dep u) (U.deps r)=max (T.dep t) (T.deps ts);rw[c1,d1],by show U.sz u+U.szs r=T.sz t+T.szs ts;rw[c2,d2]⟩
end
theorem zIp:∀(a b:List U),jG (a++b)=(jG a && jG b)
 | [],b=>rfl
 | u::a,b=>by
  show(okU u && jG (a++b))=((okU u && jG a)&& jG b);rw[zIp a b,Bool.and_assoc]
theorem zIl:∀(a b:List U),U.deps (a++b)=max (U.deps a) (U.deps b)
 | [],b=>by show U.deps b=max 0 (U.deps b);lia
 | u::a,b=>by
  show max (U.dep u) (U.deps (a++b))=max (max (U.dep u) (U.deps a)) (U.deps b);rw[zIl a b];lia
theorem zRb:∀u:U,okU u=(xU u && jG (kids u))
 | .leaf v=>by show zGp v=(zGp v && true);rw[Bool.and_true]
 | .lst us=>rfl
 | .dic ks us=>rfl
theorem zFy:∀us:List U,jG us=(us.all xU && jG (yM us))
 | []=>rfl
 | u::us=>by
  have e:yM (u::us)=kids u++yM us:=rfl;show(okU u && jG us)=((xU u && us.all xU)&& jG (yM (u::us)));rw[e,zIp,zRb u,zFy us];cases xU u<;>cases us.all xU<;>cases jG (kids u)<;>cases jG (yM us)<;>rfl
theorem zIa:∀us:List U,U.szs us=us.length+U.szs (yM us)
 | []=>rfl
 | u::us=>by
  have e:yM (u::us)=kids u++yM us:=rfl;have ih:=zIa us;rw[e,U.szs_append];show U.sz u+U.szs us=us.length+1+(U.szs (kids u)+U.szs (yM us));rw[ih]
  cases u with
  | leaf v=>show 1+_=_+(0+_);lia
  | lst ws=>show U.szs ws+1+_=_+(U.szs ws+_);lia
  | dic ks ws=>show U.szs ws+1+_=_+(U.szs ws+_);lia
theorem zFw:∀us:List U,U.deps us=if us.any isH=true then U.deps (yM us)+1 else 0
 | []=>rfl
 | u::us=>by
  have e:yM (u::us)=kids u++yM us:=rfl;have ih:=zFw us;show max (U.dep u) (U.deps us)=if(isH u || us.any isH)=true then U.deps (yM (u::us))+1 else 0
  rw[e,zIl,ih]
  cases u with
  | leaf v=>
   show max 0 _=if(false || us.any isH)=true then max 0 (U.deps (yM us))+1 else 0
   rw[Bool.false_or];split<;>lia
  | lst ws=>
   show max (U.deps ws+1) _=if(true || us.any isH)=true then max (U.deps ws) (U.deps (yM us))+1 else 0
   rw[Bool.true_or,mK rfl];split
   ·lia
   ·rename_i h
    have hn:yM us= []:=by
     clear ih e
     induction us with
     | nil=>rfl
     | cons x r ihr=>
      rw[tW,dQ,not_or] at h;have e:yM (x::r)=kids x++yM r:=rfl;rw[e,ihr h.2]
      cases x with
      | leaf v=>rfl
      | lst ws=>exact absurd rfl h.1
      | dic ks ws=>exact absurd rfl h.1
    rw[hn];show max (U.deps ws+1) 0=max (U.deps ws) 0+1;lia
  | dic ks ws=>
   show max (U.deps ws+1) _=if(true || us.any isH)=true then max (U.deps ws) (U.deps (yM us))+1 else 0
   rw[Bool.true_or,mK rfl];split
   ·lia
   ·rename_i h
    have hn:yM us= []:=by
     clear ih e
     induction us with
     | nil=>rfl
     | cons x r ihr=>
      rw[tW,dQ,not_or] at h;have e:yM (x::r)=kids x++yM r:=rfl;rw[e,ihr h.2]
      cases x with
      | leaf v=>rfl
      | lst ws=>exact absurd rfl h.1
      | dic ks ws=>exact absurd rfl h.1
    rw[hn];show max (U.deps ws+1) 0=max (U.deps ws) 0+1;lia
theorem zTz{us:List U}(h:us.any isH=false):yM us= []:=by
 induction us with
 | nil=>rfl
 | cons x r ihr=>
  rw[tW,Bool.or_eq_false_iff] at h;have e:yM (x::r)=kids x++yM r:=rfl;rw[e,ihr h.2]
  cases x with
  | leaf v=>rfl
  | lst ws=>cases h.1
  | dic ks ws=>cases h.1
theorem zSh:∀(n z:Nat)(us:List U),jd n z us=true↔jG us=true∧U.deps us<n∧z+U.szs us≤200
 | 0,z,us=>by
  constructor
  ·intro h;cases h
  ·intro h;exact absurd h.2.1 (sF _)
 | n+1,z,us=>by
  have ih:=zSh n (z+us.length) (yM us);have e1:=zFy us;have e2:=zIa us;have e3:=zFw us;unfold jd
  by_cases c1:200<z+us.length∨us.all xU=false
  ·rw[mK c1]
   constructor
   ·intro h;cases h
   ·rintro⟨h1,h2,h3⟩
    rcases c1 with c | c
    ·lia
    ·rw[e1,c] at h1;cases h1
  ·rw[mG c1]
   rw[not_or,Bool.not_eq_false] at c1
   by_cases c2:us.any isH=false
   ·rw[mK c2]
    rw[zTz c2] at e1 e2;rw[c2] at e3;rw[mG (by decide)] at e3;constructor
    ·intro _
     refine⟨by rw[e1,c1.2];rfl,by lia, ?_⟩;have:U.szs ([]:List U)=0:=rfl
     lia
    ·intro _;rfl
   ·rw[mG c2,ih]
    rw[Bool.not_eq_false] at c2;rw[c2,mK rfl] at e3;rw[c1.2,cF] at e1;rw[e1,e2,e3];constructor
    ·rintro⟨a,b,c⟩;exact⟨a,by lia,by lia⟩
    ·rintro⟨a,b,c⟩;exact⟨a,by lia,by lia⟩
theorem zTp{t:T}{u:U}(h:Em t u):jd 9 0 [u]=vH t:=by
 obtain⟨a,b⟩:=zXu t u h;rw[tQ,zSh];have e1:jG [u]=okU u:=by show(okU u && true)=_;rw[Bool.and_true]
 have e2:U.deps [u]=U.dep u:=by show max (U.dep u) 0=_;lia
 have e3:U.szs [u]=U.sz u:=by show U.sz u+0=_;lia
 unfold vH;rw[e1,e2,e3,a,pX,pX,rA,rA];constructor
 ·rintro⟨x,y,z⟩
  obtain⟨d,s⟩:=b x;exact⟨⟨x,by lia⟩,by lia⟩
 ·rintro⟨⟨x,y⟩,z⟩
  obtain⟨d,s⟩:=b x;exact⟨x,by lia,by lia⟩
def zRx:Sp:=fun vs H Q _=>∃(v:V)(t:T),vs= [v]∧Rep H v t∧T.gd t∧T.sz t≤1000∧∀H',Same H H'→Q (.bl (vH t)) H'
theorem th_T{P:Program}{w:World}{K:W.Frag}{mg:Str→Option Value}{base:Heap}{f:Addr}{fd:FuncData}{k:Nat}{ps:List Str}(h:FnOk P w K mg base CX0 k f fd ps spTh):FnOk P w K mg base CX0 k f fd ps zRx:=
 h.imp fun vs H Q E ⟨v,t,e,hv,g,hz,q⟩=>by
  obtain⟨u,a1,a2,a3,a4⟩:=zXq v t hv g;refine⟨v,u,e,a1,a3,by lia,fun H' g'=>?_⟩;rw[zTp a2];exact q H' g'
abbrev sWn:Stmt:=top 78
mutual
def T.wn:T→Bool
 | .lst us=>decide (us.length≤60)&& T.wns us
 | .dic _ us=>decide (us.length≤30)&& T.wns us
 | .tup _=>true
 | .non=>true
 | .bl _=>true
 | .int _=>true
 | .str _=>true
def T.wns:List T→Bool
 | []=>true
 | t::ts=>T.wn t && T.wns ts
end
theorem zHc:∀us:List T,T.wns us=us.all T.wn
 | []=>rfl
 | t::ts=>by
  show(T.wn t && T.wns ts)=_;rw[zHc ts];rfl
section
variable{P:Program}{w:World}{K:W.Frag}{mg:Str→Option Value}{base:Heap}{f:Addr}{fd:FuncData}
theorem scWn:zV ["_law_thing"] ["_law_thing"] (zH sWn):=by walk_at "sc"
def zOi(n:Nat):Sp:=fun vs H Q _=>∃(v:V)(t:T),vs= [v]∧Rep H v t∧T.okq t∧T.dep t<n∧∀H',Same H H'→Q (.bl (T.wn t)) H'
theorem yAn{n:Nat}(F:Fun K "_law_within" "_law_within" sWn f fd)(B:Bl mg)(G_law_within:Dn P w K mg base (1+n) "_law_within" ["_law_thing"] (zOi n)):FnOk P w K mg base CX0 (1+n+1) f fd ["_law_thing"] (zOi (n+1)):=by
 refine F.ok scWn (by walk_at "ln") fun c A o s H vs Q E hr h=>?_;obtain⟨v,t,rfl,hv,hp,hd,q⟩:=h;have nd:=scWn.nd;have hu:=vK hr;refine⟨_,(zE (zS (yA (pI B.isinstance zI B.list yS (pv 0))) (zG (zK (xV (yZ jY (zN yL rfl B.len xH (zA (pv 0) zD)) zF (zR _)) (xY (zN (vX rfl) rfl B.all gL (zA (xE (own:=["_law_one"]) (F:=[]) ⟨rfl,by walk_at "wu",by walk_at "wu",by walk_at "wu", .nil⟩ rfl (wJ (pv 0)) (fun _ _ _ _=>yB (i:=0) (by show(xS ["_law_one"] []).Nodup;decide+kernel) rfl (nR rfl)) (fun _ _ _ _=>yW) (fun _ _ _ _=>(zU G_law_within hr (by lia) rfl (zA (pv 0) zD)))) zD)))))) zL)
  (zE (zS (yA (pI B.isinstance zI B.dict yX (pv 0))) (zG (zK (xV (yZ jY (zN zBg rfl B.len xH (zA (pv 0) zD)) zF (zR _)) (xY (zN (vX rfl) rfl B.all gL (zA (uL (xE (own:=["_law_name"]) (F:=[("_law_thing",0)]) ⟨rfl,by walk_at "wu",by walk_at "wu",by walk_at "wu",(.cons rfl rfl rfl .nil)⟩ rfl (zAj (pv 0)) (fun _ _ _ _=>yB (i:=0) (by show(xS ["_law_name"] [("_law_thing",0)]).Nodup;decide+kernel) rfl (nR rfl)) (fun _ _ _ _=>yW) (fun _ _ _ _=>(zU G_law_within hr (by lia) rfl (zA (qF hu (pv 1) (pv 0) (fun _ _=>rfl)) zD))))) zD)))))) zL)
  (zG (zK vO)))), ?_⟩
 walk_at "st";walk_at "rd3";have hty:=hv.ty
 cases t with
 | lst us=>
  obtain⟨a,xs,rfl,ha,hs⟩:=hv;obtain⟨hl0,hp⟩:=hp;have hd':T.deps us+1<n+1:=hd;refine⟨"list",wI ha, ?_⟩;rw[mK (by decide)];have hxl:=hs.length;refine⟨a,rfl,xs,SqL.of ha, ?_⟩
  by_cases h60:us.length≤60
  ·rw[mK (by lia)]
   refine⟨a,rfl,⟨xs,SqL.of ha⟩,vF (K:=K) (xs:=xs) (fun i ys H'=>Same H H'∧ys=((us.take i).map T.wn).map V.bl) (by rw[mR];lia) ⟨Same.refl _,rfl⟩ (fun i ys H' _ h=>SqL.of (h.1 _ _ ha)) ?_ ?_⟩
   ·rintro i u ys H' hu' _ ⟨g,rfl⟩
    obtain⟨t',ht',hr'⟩:=hs.get hu';have hm:=mP ht';have d1:=T.deps_le hm;walk_at "rd3";refine⟨u,t',rfl,Rep.same g u t' hr',T.okqs_mem hp hm,by lia,fun H4 g4=>⟨g.trans g4, ?_⟩⟩;rw[yE ht',mX,mX];rfl
   ·rintro ys H' _ ⟨g,rfl⟩ p hp'
    refine⟨p,rfl,_,SqL.of zB, ?_⟩;rw[hxl,nX];have e:(us.map T.wn).all id=T.wn (.lst us):=by
     show _=(decide (us.length≤60)&& T.wns us);rw[nB h60,zHc,tM];rfl
    rw[e];exact q _ (g.trans (zC hp' _))
  ·rw[mG (by lia)]
   have e:T.wn (.lst us)=false:=by
    show(decide (us.length≤60)&& T.wns us)=false;rw[nE h60];rfl
   rw[←e];exact q _ (Same.refl _)
 | dic ks us=>
  obtain⟨d,ps,rfl,hdd,hk,hs⟩:=hv;obtain⟨nk,_,hl0,hp⟩:=hp;have hd':T.deps us+1<n+1:=hd;refine⟨"dict",wK hdd, ?_⟩;rw[mG (by decide)];refine⟨"dict",wK hdd, ?_⟩;rw[mK (by decide)];have hRd:Rep H (.ref d) (.dic ks us):=⟨d,ps,rfl,hdd,hk,hs⟩;have hpl:ps.length=us.length:=by have:=hs.length;rwa [mI] at this
  have nkp:(ps.map (·.1)).Nodup:=by rw[hk];exact wL nk
  refine⟨d,rfl,ps,hdd, ?_⟩
  by_cases h30:us.length≤30
  ·rw[mK (by lia)]
   refine⟨d,rfl,ps, .inl ⟨hdd,fun o=>?_⟩⟩;have hyf:Reps (upd H d (.frz o (.dK ps))) (ps.map (·.2)) us:=zAd hRd (rG _) hs;refine kA (fun i zs H'=>Same (upd H d (.frz o (.dK ps))) H'∧zs=((us.take i).map T.wn).map V.bl) (by rw[mR];lia) ⟨Same.refl _,rfl⟩ (fun i zs H' h=>h.1 _ _ zB) ?_ ?_
   ·rintro i rv zs H' hrv _ ⟨g,rfl⟩
    obtain⟨t1,ht1,hr1⟩:=hyf.get (i:=i) (v:=rv.2) (by rw[nD,hrv];rfl);have hm:=mP ht1;have d1:=T.deps_le hm;walk_at "rd3";refine⟨rv.2, .inl ⟨ps,rv.1, .inr ⟨o,g _ _ zB⟩,rfl,(kJ nkp hrv).symm⟩,_,t1,rfl,Rep.same g _ _ hr1,T.okqs_mem hp hm,by lia,fun H4 g4=>⟨g.trans g4, ?_⟩⟩;rw[yE ht1,mX,mX];rfl
   ·rintro zs H' _ ⟨g,rfl⟩ p hp'
    refine⟨p,rfl,_,SqL.of (wC zB (by intro o v z;cases z)), ?_⟩;rw[hpl,nX];have e:(us.map T.wn).all id=T.wn (.dic ks us):=by
     show _=(decide (us.length≤30)&& T.wns us);rw[nB h30,zHc,tM];rfl
    rw[e];exact q _ (qK (o:=o) hdd (g.trans (zC hp' _)))
  ·rw[mG (by lia)]
   have e:T.wn (.dic ks us)=false:=by
    show(decide (us.length≤30)&& T.wns us)=false;rw[nE h30];rfl
   rw[←e];exact q _ (Same.refl _)
 | tup us=>exact⟨_,hty,iN (by simp[tyT,zM]) ⟨_,hty,iN (by simp[tyT,zM]) (q _ (Same.refl _))⟩⟩
 | non=>exact⟨_,hty,iN (by decide) ⟨_,hty,iN (by decide) (q _ (Same.refl _))⟩⟩
 | bl b=>exact⟨_,hty,iN (by simp[tyT,zM]) ⟨_,hty,iN (by simp[tyT,zM]) (q _ (Same.refl _))⟩⟩
 | int b=>exact⟨_,hty,iN (by simp[tyT,zM]) ⟨_,hty,iN (by simp[tyT,zM]) (q _ (Same.refl _))⟩⟩
 | str b=>exact⟨_,hty,iN (by simp[tyT,zM]) ⟨_,hty,iN (by simp[tyT,zM]) (q _ (Same.refl _))⟩⟩
theorem yBv(F:Fun K "_law_within" "_law_within" sWn f fd):FnOk P w K mg base CX0 1 f fd ["_law_thing"] (zOi 0):=by
 refine F.ok scWn (by walk_at "ln") fun c A o s H vs Q E hr h=>?_;obtain⟨v,t,rfl,hv,hp,hd,q⟩:=h;exact absurd hd (sF _)
theorem zQr(F:Fun K "_law_within" "_law_within" sWn f fd)(B:Bl mg)(b:Binds K fd ["_law_thing"] [])(kp:W.keepIn K (.ref f)=true)(m:mg "_law_within" =some (.ref f)):∀n:Nat,FnOk P w K mg base CX0 (1+n) f fd ["_law_thing"] (zOi n)
 | 0=>yBv F
 | n+1=>yAn F B ⟨_,_,zQr F B b kp m n,b,kp,m⟩
end
abbrev sMn:Stmt:=top 77
mutual
def T.md:T→Nat
 | .lst us=>1+T.mds us
 | .dic _ us=>1+T.mds us
 | .tup _=>0
 | .non=>0
 | .bl _=>0
 | .int _=>0
 | .str _=>0
def T.mds:List T→Nat
 | []=>0
 | t::ts=>max (T.md t) (T.mds ts)
end
mutual
def T.mc:T→Nat
 | .lst us=>1+T.mcs us
 | .dic _ us=>1+T.mcs us
 | .tup _=>1
 | .non=>1
 | .bl _=>1
 | .int _=>1
 | .str _=>1
def T.mcs:List T→Nat
 | []=>0
 | t::ts=>T.mc t+T.mcs ts
end
theorem zXx:∀(us:List T)(b:Nat),(us.map fun t=>((T.md t:Nat):Int)).foldl mxI (b:Int)=((max b (T.mds us):Nat):Int)
 | [],b=>by show(b:Int)=((max b 0:Nat):Int);rw[Nat.max_zero]
 | t::us,b=>by
  show(us.map fun t=>((T.md t:Nat):Int)).foldl mxI (mxI b (T.md t:Nat))=((max b (max (T.md t) (T.mds us)):Nat):Int);have e:mxI b (T.md t:Nat)=((max b (T.md t):Nat):Int):=by
   unfold mxI;split<;>lia
  rw[e,zXx us,Nat.max_assoc]
theorem yAs(us:List T):mxD 0 (us.map fun t=>((T.md t:Nat):Int))=(T.mds us:Nat):=by
 cases us with
 | nil=>rfl
 | cons t us=>exact zXx us (T.md t)
theorem zPu:∀us:List T,(us.map fun t=>((T.mc t:Nat):Int)).sum=(T.mcs us:Nat)
 | []=>rfl
 | t::us=>by
  rw[mU,List.sum_cons,zPu us];show _=((T.mc t+T.mcs us:Nat):Int)
  lia
section
variable{P:Program}{w:World}{K:W.Frag}{mg:Str→Option Value}{base:Heap}{f:Addr}{fd:FuncData}
theorem scMn:zV ["_law_thing","_law_inner","_law_some"] ["_law_thing"] (zH sMn):=by walk_at "sc"
def zNr(n:Nat):Sp:=fun vs H Q _=>∃(v:V)(t:T),vs= [v]∧Rep H v t∧T.okq t∧T.dep t<n∧∀p H',Same H H'→H' p=some (.tup [.int (T.md t:Nat), .int (T.mc t:Nat)])→Q (.ref p) H'
theorem zYb{n:Nat}(F:Fun K "_law_many" "_law_many" sMn f fd)(B:Bl2 mg)(G_law_many:Dn P w K mg base (1+n) "_law_many" ["_law_thing"] (zNr n)):FnOk P w K mg base CX0 (1+n+1) f fd ["_law_thing"] (zNr (n+1)):=by
 refine F.ok scMn (by walk_at "ln") fun c A o s H vs Q E hr h=>?_;obtain⟨v,t,rfl,hv,hp,hd,q⟩:=h;have nd:=scMn.nd;have hu:=vK hr;refine⟨_,(zE (zS (xX (yA (zN (vQ (T:="list") (U:="dict") (by decide) (by decide)) rfl B.isinstance zI (zA (pv 0) (zA (xJ (zA (xP (v:=.ty "list") rfl B.list yS rfl) (zA (xP (v:=.ty "dict") rfl B.dict yX rfl) zD))) zD))))) (zG (zK (xJ (zA zF (zA zF zD))))) zL)
  (zE (pS 1 nd (pv 0))
  (zE (wP (zS (yA (pI B.isinstance zI B.dict yX (pv 0))) (zG (pS 1 nd (yN (gG rfl) rfl B.list yS (zA (zHt sZ aJ bX zBn (pv 0)) zD)))) zL))
  (zE (zCj (i:=2) nd rfl (nR rfl) (own:=["_law_one"]) (F:=[]) ⟨rfl,by walk_at "wu",by walk_at "wu",by walk_at "wu", .nil⟩ rfl (wJ (pv 1)) (fun _ _ _ _=>yB (i:=0) (by show(xS ["_law_one"] []).Nodup;decide+kernel) rfl (nR rfl)) (fun _ _ _ _=>yW) (fun _ _ _ _=>(zU G_law_many hr (by lia) rfl (zA (pv 0) zD))))
  (zG (zK (xJ (zA (zJ yK zF (zWt rfl rfl B.max (zA (xE (own:=["_law_one"]) (F:=[]) ⟨rfl,by walk_at "wu",by walk_at "wu",by walk_at "wu", .nil⟩ rfl (wJ (pv 2)) (fun _ _ _ _=>yB (i:=0) (by show(xS ["_law_one"] []).Nodup;decide+kernel) rfl (nR rfl)) (fun _ _ _ _=>yW) (fun _ _ _ _=>(yR (zMq (K:=K) rfl) (pv 0) zF (fun _ _=>rfl)))) zD) zF)) (zA (zJ yK zF (zN (zRr rfl) rfl B.sum zZt (zA (xE (own:=["_law_one"]) (F:=[]) ⟨rfl,by walk_at "wu",by walk_at "wu",by walk_at "wu", .nil⟩ rfl (wJ (pv 2)) (fun _ _ _ _=>yB (i:=0) (by show(xS ["_law_one"] []).Nodup;decide+kernel) rfl (nR rfl)) (fun _ _ _ _=>yW) (fun _ _ _ _=>(yR (zMq (K:=K) rfl) (pv 0) zF (fun _ _=>rfl)))) zD))) zD))))))))), ?_⟩
 walk_at "st";walk_at "rd3";have hty:=hv.ty;intro p hp0;have g1:=zC hp0 (.tup [V.ty "list",V.ty "dict"]);refine⟨v,_,p,⟨rfl,rfl⟩,zB,wT g1 hty, ?_⟩;generalize upd H p (.tup [V.ty "list",V.ty "dict"])=H1 at g1⊢
 by_cases hh:(zM (tyT t) "list" || zM (tyT t) "dict")=false
 ·rw[mK hh]
  intro p2 hp2;refine q p2 _ (g1.trans (zC hp2 _)) ?_
  cases t with
  | lst us=>exact absurd hh (by simp[tyT,zM])
  | dic ks us=>exact absurd hh (by simp[tyT,zM])
  | _=>exact zB
 rw[mG hh];unfold zQd;walk_at "rd3";refine⟨fun σ' H'=>∃l xs us,σ'= [some v,some (V.ref l),none]∧Same H H'∧H' l=some (.lst xs)∧Reps H' xs us∧T.okqs us∧T.deps us<n∧us.length≤200000∧T.md t=1+T.mds us∧T.mc t=1+T.mcs us, ?_, ?_⟩
 ·refine⟨_,wT g1 hty, ?_⟩
  cases t with
  | lst us=>
   obtain⟨a,xs,rfl,ha,hs⟩:=hv;exact iN (by simp[tyT,zM]) ⟨a,xs,us,rfl,g1,g1 _ _ ha,Reps.same g1 _ _ hs,hp.2,(show T.deps us<n from Nat.lt_of_succ_lt_succ hd),hp.1,rfl,rfl⟩
  | dic ks us=>
   obtain⟨d,ps,rfl,hdd,hk,hs⟩:=hv;have hpl:ps.length=us.length:=by have:=hs.length;rwa [mI] at this
   refine iP (by simp[tyT,zM]) ⟨?_,d,rfl,⟨ps, .inl (g1 _ _ hdd)⟩,fun p3 hp3=>⟨d,zB,ps, .inl (zC hp3 _ _ _ (g1 _ _ hdd)),fun l hl=>?_⟩⟩
   ·exact .inr (.inr (.inl ⟨rfl, .inl ⟨ps,g1 _ _ hdd⟩⟩))
   ·have g3:=(g1.trans (zC hp3 (zAg p3 d))).trans (zC hl (.lst (ps.map (·.2))))
    exact⟨l,_,us,rfl,g3,zB,Reps.same g3 _ _ hs,hp.2.2.2,(show T.deps us<n from Nat.lt_of_succ_lt_succ hd),hp.2.2.1,rfl,rfl⟩
  | _=>exact absurd rfl hh
 rintro σ' H2 ⟨l,xs,us,rfl,g2,hl,hs,hok,hdu,hlen,e1,e2⟩;have hxl:=hs.length;walk_at "rd3";refine⟨⟨xs,SqL.of hl⟩,vF (K:=K) (xs:=xs) (fun i ys H'=>Same H2 H'∧ys.length=i∧∀(j:Nat)(t':T),us[j]? =some t'→j<i→∃p,ys[j]? =some (V.ref p)∧H' p=some (.tup [.int (T.md t':Nat), .int (T.mc t':Nat)])) (by rw[mR];lia) ⟨Same.refl _,rfl,fun j _ _ h=>absurd h (sF _)⟩ (fun i ys H' _ h=>SqL.of (h.1 _ _ hl)) ?_ ?_⟩
 ·rintro i u ys H' hu' _ ⟨g,hyl,hj⟩
  obtain⟨t',ht',hr'⟩:=hs.get hu';have hm:=mP ht';have d1:=T.deps_le hm;walk_at "rd3";refine⟨u,t',rfl,Rep.same g u t' hr',T.okqs_mem hok hm,by lia,fun p4 H4 g4 h4=>⟨g.trans g4,by rw[mL,hyl];rfl,fun j t1 h1 hji=>?_⟩⟩
  by_cases e:j<i
  ·obtain⟨p5,h5,h6⟩:=hj j t1 h1 e
   exact⟨p5,by rw[nV (by lia)];exact h5,g4 _ _ h6⟩
  ·have e':j=i:=by lia
   subst e';rw[ht'] at h1;cases h1;exact⟨p4,by rw[nU (by lia),hyl,Nat.sub_self];rfl,h4⟩
 rintro ys H3 _ ⟨g3,hyl,hj⟩ p5 hp5;have g5:=g3.trans (zC hp5 (.lst ys));have hj5:∀(j:Nat)(t':T),us[j]? =some t'→∃p,ys[j]? =some (V.ref p)∧upd H3 p5 (.lst ys) p=some (.tup [.int (T.md t':Nat), .int (T.mc t':Nat)]):=fun j t' h=>by
  have hlt:j<us.length:=by
   rcases Nat.lt_or_ge j us.length with z | z
   ·exact z
   ·rw[tU z] at h;cases h
  obtain⟨p6,h6,h7⟩:=hj j t' h (by lia);exact⟨p6,h6,zC hp5 _ _ _ h7⟩
 have h5:upd H3 p5 (.lst ys) p5=some (.lst ys):=zB;generalize upd H3 p5 (.lst ys)=H5 at g5 h5 hj5;have one:∀{i:Nat}{y:V},ys[i]? =some y→∃t' p,us[i]? =some t'∧y=V.ref p∧H5 p=some (.tup [.int (T.md t':Nat), .int (T.mc t':Nat)]):=fun {i y} hy=>by
  have hlt:i<ys.length:=by
   rcases Nat.lt_or_ge i ys.length with z | z
   ·exact z
   ·rw[tU z] at hy;cases hy
  have h1:us[i]? =some (us[i]'(by lia)):=nH _;obtain⟨p6,h6,h7⟩:=hj5 i _ h1;rw[hy] at h6;exact⟨_,p6,h1,mW h6,h7⟩
 refine⟨p5,rfl,⟨ys,SqL.of h5⟩,vF (K:=K) (xs:=ys) (fun i zs H'=>Same H5 H'∧zs=((us.take i).map fun t=>((T.md t:Nat):Int)).map V.int) (by rw[mR];lia) ⟨Same.refl _,rfl⟩ (fun i zs H' _ h=>SqL.of (h.1 _ _ h5)) ?_ ?_⟩
 ·rintro i y zs H' hy _ ⟨g,rfl⟩
  obtain⟨t',p6,h6,rfl,h7⟩:=one hy;walk_at "rd3";refine zBj (SqT.of (g _ _ h7)) (xI (j:=0) rfl) ⟨g, ?_⟩;rw[yE h6,mX,mX];rfl
 rintro zs H6 _ ⟨g6,rfl⟩ p6 hp6;rw[hyl,hxl,nX];refine⟨p6,rfl,_,SqL.of zB,p5,rfl, ?_⟩;have g7:=g6.trans (zC hp6 (.lst ((us.map fun t=>((T.md t:Nat):Int)).map V.int)));generalize upd H6 p6 (.lst ((us.map fun t=>((T.md t:Nat):Int)).map V.int))=H7 at g7⊢;have h57:=g7 _ _ h5;refine⟨⟨ys,SqL.of h57⟩,vF (K:=K) (xs:=ys) (fun i zs H'=>Same H7 H'∧zs=((us.take i).map fun t=>((T.mc t:Nat):Int)).map V.int) (by rw[mR];lia) ⟨Same.refl _,rfl⟩ (fun i zs H' _ h=>SqL.of (h.1 _ _ h57)) ?_ ?_⟩
 ·rintro i y zs H' hy _ ⟨g,rfl⟩
  obtain⟨t',p7,h6,rfl,h7⟩:=one hy;walk_at "rd3";refine zBj (SqT.of (g _ _ (g7 _ _ h7))) (xI (j:=1) rfl) ⟨g, ?_⟩;rw[yE h6,mX,mX];rfl
 rintro zs H8 _ ⟨g8,rfl⟩ p8 hp8;rw[hyl,hxl,nX];refine⟨p8,rfl,_,SqL.of zB,fun p9 hp9=>?_⟩;refine q p9 _ (g2.trans (g5.trans (g7.trans (g8.trans ((zC hp8 _).trans (zC hp9 _)))))) ?_;rw[zB,yAs,zPu,e1,e2];simp
theorem zZs(F:Fun K "_law_many" "_law_many" sMn f fd):FnOk P w K mg base CX0 1 f fd ["_law_thing"] (zNr 0):=by
 refine F.ok scMn (by walk_at "ln") fun c A o s H vs Q E hr h=>?_;obtain⟨v,t,rfl,hv,hp,hd,q⟩:=h;exact absurd hd (sF _)
theorem zPv(F:Fun K "_law_many" "_law_many" sMn f fd)(B:Bl2 mg)(b:Binds K fd ["_law_thing"] [])(kp:W.keepIn K (.ref f)=true)(m:mg "_law_many" =some (.ref f)):∀n:Nat,FnOk P w K mg base CX0 (1+n) f fd ["_law_thing"] (zNr n)
 | 0=>zZs F
 | n+1=>zYb F B ⟨_,_,zPv F B b kp m n,b,kp,m⟩
abbrev sLt:Stmt:=top 79
def T.isT(t:T):Bool:=decide (T.md t≤8)&& (decide (T.mc t≤200)&& T.wn t)
theorem scLt:zV ["_law_thing","_law_deep_here","_law_many_here"] ["_law_thing"] (zH sLt):=by walk_at "sc"
def zZq:Sp:=fun vs H Q _=>∃(v:V)(t:T),vs= [v]∧Rep H v t∧T.okq t∧T.dep t<20∧∀H',Same H H'→Q (.bl (T.isT t)) H'
theorem ok_lt(F:Fun K "_law_is_thing" "_law_is_thing" sLt f fd)(B:Bl mg)(G_law_many:Dn P w K mg base (1+20) "_law_many" ["_law_thing"] (zNr 20))(G_law_within:Dn P w K mg base (1+20) "_law_within" ["_law_thing"] (zOi 20)):FnOk P w K mg base CX0 22 f fd ["_law_thing"] zZq:=by
 refine F.ok scLt (by walk_at "ln") fun c A o s H vs Q E hr h=>?_;obtain⟨v,t,rfl,hv,hp,hd,q⟩:=h;have nd:=scLt.nd;refine⟨_,(zE (zKm (zU G_law_many hr (by lia) rfl (zA (pv 0) zD)) (zKf (n:=2) rfl (jR (yB (i:=1) nd rfl (nR rfl)) (jR (yB (i:=2) nd rfl (nR rfl)) zGw))))
  (zG (zK (xV (yZ jY (pv 1) zF (zR _)) (xV (yZ jY (pv 2) zF (zR _)) (xY (zU G_law_within hr (by lia) rfl (zA (pv 0) zD)))))))), ?_⟩
 walk_at "st";walk_at "rd3";refine⟨v,t,rfl,hv,hp,hd,fun p H1 g1 h1=>?_⟩;refine⟨p,rfl,_,SqT.of h1,rfl,_,_,rfl,_,_,rfl,rfl,_,rfl, ?_⟩
 by_cases h8:T.md t≤8
 ·rw[mK (by lia)]
  refine⟨_,rfl, ?_⟩
  by_cases h200:T.mc t≤200
  ·rw[mK (by lia)]
   refine⟨v,t,rfl,Rep.same g1 _ _ hv,hp,hd,fun H2 g2=>?_⟩;have e:T.isT t=T.wn t:=by unfold T.isT;rw[nB h8,nB h200];rfl
   rw[←e];exact q _ (g1.trans g2)
  ·rw[mG (by lia)]
   have e:T.isT t=false:=by unfold T.isT;rw[nE h200,Bool.false_and,aF]
   rw[←e];exact q _ g1
 ·rw[mG (by lia)]
  have e:T.isT t=false:=by unfold T.isT;rw[nE h8];rfl
  rw[←e];exact q _ g1
end
abbrev zNu:Stmt:=top 46
abbrev zPb:Stmt:=top 43
abbrev zOl:Stmt:=top 44
section
variable{P:Program}{w:World}{K:W.Frag}{mg:Str→Option Value}{base:Heap}{f:Addr}{fd:FuncData}{C C2:Addr}
def zQg(C2:Addr):Sp:=fun vs H Q E=>∃(v:V)(t:T),vs= [v]∧Rep H v t∧T.gd t∧T.sz t≤1000∧(vH t=true→∀H',Same H H'→Q v H')∧(vH t=false→∀H',Same H H'→E (.ref C2) none H')
theorem scSou:zV ["thing"] ["thing"] (zH zNu):=by walk_at "sc"
theorem yAy(F:Fun K "sound" "sound" zNu f fd)(Gis_thing:Dn P w K mg base 3 "is_thing" ["thing"] zRx)(RTooGreat:Xr0 K mg "TooGreat" C2):FnOk P w K mg base (CXE P w) 4 f fd ["thing"] (zQg C2):=by
 refine F.okx scSou (by walk_at "ln") fun c A o s H vs Q E hr h=>?_;obtain⟨v,t,rfl,hv,hg,hz,q,qx⟩:=h;have nd:=scSou.nd;refine⟨_,(zE (zS (xX (yA (zU Gis_thing hr (by lia) rfl (zA (pv 0) zD)))) (zG (zPh RTooGreat rfl rfl lvs (zA zY zD))) zL)
  (zG (zK (pv 0)))), ?_⟩
 walk_at "st";unfold zIj;walk_at "rd3";refine⟨v,t,rfl,hv,hg,hz,fun H1 g1=>?_⟩
 cases ht:vH t with
 | false=>exact⟨false,rfl,iP rfl (qx ht _ g1)⟩
 | true=>exact⟨true,rfl,iN (by decide) (q ht _ g1)⟩
def zQf(C C2:Addr):Sp:=fun vs H Q E=>∃(v:V)(t:T)(pa:Addr)(ks:List Key)(vn:V)(n:T)(m:Nat),vs= [v, .ref pa,vn]∧Tq m H v t pa ks∧Rep H vn n∧Nq m t n∧
 (∀r,chG .ins (fun s k=>yH .ins s k n) t ks n= .inr r→T.gd r∧T.sz r≤1000∧(vH r=true→∀v' H' D,Same H H'→Sp1 H' v' r D→(∀b∈D,H b=none)→Q v' H')∧(vH r=false→∀H',Same H H'→E (.ref C2) none H'))∧
 (∀j:Nat,chG .ins (fun s k=>yH .ins s k n) t ks n= .inl j→XAt C (j:Int) H E)
theorem scIns:zV ["thing","path","new"] ["thing","path","new"] (zH zPb):=by walk_at "sc"
theorem yBy(F:Fun K "inserted" "inserted" zPb f fd)(Gsoundx:Dx P w K mg base 4 "sound" ["thing"] (zQg C2))(Gchanged_atx:Dx P w K mg base 22 "changed_at" ["thing","word","path","new"] (zSz C)):FnOk P w K mg base (CXE P w) 23 f fd ["thing","path","new"] (zQf C C2):=by
 refine F.okx scIns (by walk_at "ln") fun c A o s H vs Q E hr h=>?_;obtain⟨v,t,pa,ks,vn,n,m,rfl,hT,hn,hN,q,qx⟩:=h;have nd:=scIns.nd;refine⟨_,(zG (zK (zId Gsoundx hr (by lia) rfl lvs (zA (zId Gchanged_atx hr (by lia) rfl lvs (zA (pv 0) (zA zY (zA (pv 1) (zA (pv 2) zD))))) zD)))), ?_⟩;walk_at "st";walk_at "rd3";refine⟨v,t, .ins,pa,ks,vn,n,m,rfl,hT,hn,hN,fun r hr' v1 H1 D g1 hv1 hD=>?_,qx⟩;obtain⟨r1,r2,r3,r4⟩:=q r hr';exact⟨v1,r,rfl,Sp1.rep _ _ _ hv1,r1,r2,fun h H2 g2=>r3 h v1 H2 D (g1.trans g2) (Sp1.same g2 hv1) hD,fun h H2 g2=>r4 h H2 (g1.trans g2)⟩
def zTf(C:Addr):Sp:=fun vs H Q E=>∃(v:V)(t:T)(pa:Addr)(ks:List Key)(m:Nat),vs= [v, .ref pa]∧Tq m H v t pa ks∧T.dep t≤16∧(∀r,chG .tak (fun s k=>yH .tak s k .non) t ks .non= .inr r→∀v' H' D,Same H H'→Sp1 H' v' r D→(∀b∈D,H b=none)→Q v' H')∧
 (∀j:Nat,chG .tak (fun s k=>yH .tak s k .non) t ks .non= .inl j→XAt C (j:Int) H E)
theorem scTkn:zV ["thing","path"] ["thing","path"] (zH zOl):=by walk_at "sc"
theorem yBu(F:Fun K "taken" "taken" zOl f fd)(Gcad:Ddx P w K mg base 22 "changed_at" ["thing","word","path","new"] [.non] (zSz C)):FnOk P w K mg base (CXE P w) 23 f fd ["thing","path"] (zTf C):=by
 refine F.okx scTkn (by walk_at "ln") fun c A o s H vs Q E hr h=>?_;obtain⟨v,t,pa,ks,m,rfl,hT,hd,q,qx⟩:=h;have nd:=scTkn.nd;refine⟨_,(zG (zK (zZk Gcad hr (by lia) rfl (zXo lvs) (zA (pv 0) (zA zY (zA (pv 1) zD)))))), ?_⟩;walk_at "st";walk_at "rd3";exact⟨v,t, .tak,pa,ks, .non, .non,m,rfl,hT,rfl,⟨mH,hd,nY _,(show 1≤40000 by decide)⟩,q,qx⟩
theorem tak_any{t n n':T}{ks:List Key}:chG .tak (fun s k=>yH .tak s k n) t ks n=chG .tak (fun s k=>yH .tak s k n') t ks n':=by
 have e:(fun s k=>yH .tak s k n)=fun s k=>yH .tak s k n':=by
  funext s k
  cases s<;>cases k<;>rfl
 rw[e];unfold chG;cases ks.getLast? <;>rfl
end
end K36
namespace K36
open PySem L2 PySem.W
seal L2.PSs L2.PS L2.PE L2.PT L2.PW L2.PA L2.PI L2.PG L2.PGs L2.PPs L2.PTs
abbrev zGc:Stmt:=top 75
structure Wf(mg:Str→Option Value)(d:Nat→Addr):Prop where
 m0:mg "BadPath" =some (.ref (d 0))
 m1:mg "NoPlace" =some (.ref (d 1))
 m2:mg "TooGreat" =some (.ref (d 2))
 m3:mg "NoneFits" =some (.ref (d 3))
 m4:mg "BadText" =some (.ref (d 4))
 m5:mg "NoDeed" =some (.ref (d 5))
 m6:mg "CantMove" =some (.ref (d 6))
 m7:mg "NoBack" =some (.ref (d 7))
 m8:mg "NoVersion" =some (.ref (d 8))
 m9:mg "NoFit" =some (.ref (d 9))
 m10:mg "Stuck" =some (.ref (d 10))
 m11:mg "BadQuestion" =some (.ref (d 11))
 m12:mg "NoKey" =some (.ref (d 12))
 m13:mg "IsKept" =some (.ref (d 13))
 m14:mg "NotKept" =some (.ref (d 14))
 m15:mg "NoWayBack" =some (.ref (d 15))
 m16:mg "NoStore" =some (.ref (d 16))
 m17:mg "BadRow" =some (.ref (d 17))
structure Wk(K:Frag)(d:Nat→Addr)(i:Nat)(b:Nat→Bool):Prop where
 G:zCd K (d i)
 at_:findIn K (.ref (d 1)) "at" =some none
 k0:kitOne K (.ref (d i)) (.ref (d 0))=some (b 0)
 k1:kitOne K (.ref (d i)) (.ref (d 1))=some (b 1)
 k2:kitOne K (.ref (d i)) (.ref (d 2))=some (b 2)
 k3:kitOne K (.ref (d i)) (.ref (d 3))=some (b 3)
 a9:kitAny K (.ref (d i)) ([d 4,d 5,d 6,d 7,d 8,d 9,d 10,d 11,d 12].map Value.ref)=some false
 a5:kitAny K (.ref (d i)) ([d 13,d 14,d 15,d 16,d 17].map Value.ref)=some false
section
variable{P:Program}{w:World}{K:PySem.W.Frag}{mg:Str→Option Value}{base:Heap}{f:Addr}{fd:FuncData}{d:Nat→Addr}{Bs:Addr}
def zHr(d:Nat→Addr):Sp:=fun vs H Q _=>∃x:Addr,vs= [.ref x]∧((∃(dd:Addr)(n:Int),H x=some (exF x (d 1) (some dd))∧H dd=some (.xd [("at", .int n)])∧∀p H',Same H H'→H p=none→H' p=some (.tup [.str (Str.ofString "place"), .int n])→Q (.ref p) H')∨(Caught H x (d 2)∧∀p H',Same H H'→H p=none→H' p=some (.tup [.str (Str.ofString "great")])→Q (.ref p) H'))
theorem scWord:zV ["_law_e","_law_some","_law_others"] ["_law_e"] (zH zGc):=by walk_at "sc"
theorem zUh(F:Fun K "_law_word" "_law_word" zGc f fd)(B:Bl mg)(W:Wf mg d)(Y:Wk K d 1 (· ==1))(Z:Wk K d 2 (· ==2)):zTw P w K mg base 1 f fd ["_law_e"] (zHr d):=by
 refine F.okh scWord (by walk_at "ln") fun c A o s H vs Q E hr h=>?_;obtain⟨x,rfl,h⟩:=h;have nd:=scWord.nd;refine⟨_,(zE (pS 1 nd (yG (zA (zN zAf rfl B.isinstance zI (zA (pv 0) (zA (xM (v:=.ref (d 0)) rfl W.m0 rfl) zD))) (zA (zN zAf rfl B.isinstance zI (zA (pv 0) (zA (xM (v:=.ref (d 1)) rfl W.m1 rfl) zD))) (zA (zN zAf rfl B.isinstance zI (zA (pv 0) (zA (xM (v:=.ref (d 2)) rfl W.m2 rfl) zD))) (zA (zN zAf rfl B.isinstance zI (zA (pv 0) (zA (xM (v:=.ref (d 3)) rfl W.m3 rfl) zD))) zD))))))
  (zE (pS 2 nd (zN zEt rfl B.isinstance zI (zA (pv 0) (zA (xJ (zA (xM (v:=.ref (d 4)) rfl W.m4 rfl) (zA (xM (v:=.ref (d 5)) rfl W.m5 rfl) (zA (xM (v:=.ref (d 6)) rfl W.m6 rfl) (zA (xM (v:=.ref (d 7)) rfl W.m7 rfl) (zA (xM (v:=.ref (d 8)) rfl W.m8 rfl) (zA (xM (v:=.ref (d 9)) rfl W.m9 rfl) (zA (xM (v:=.ref (d 10)) rfl W.m10 rfl) (zA (xM (v:=.ref (d 11)) rfl W.m11 rfl) (zA (xM (v:=.ref (d 12)) rfl W.m12 rfl) zD)))))))))) zD))))
  (zE (zS (PW.pt (gZ (yA (pv 2)) (gZ (yA (zN zEt rfl B.isinstance zI (zA (pv 0) (zA (xJ (zA (xM (v:=.ref (d 13)) rfl W.m13 rfl) (zA (xM (v:=.ref (d 14)) rfl W.m14 rfl) (zA (xM (v:=.ref (d 15)) rfl W.m15 rfl) (zA (xM (v:=.ref (d 16)) rfl W.m16 rfl) (zA (xM (v:=.ref (d 17)) rfl W.m17 rfl) zD)))))) zD)))) (jN (zW uS (uO pY PySem.F.slot_list_count PySem.F.type_list_count zKv (pv 1) (zA vO zD)) zF (zR _)))))) (zG (zK (xJ (zA zY zD)))) zL)
  (zE (zS (yA (yR ix_list (pv 1) zF (fun _ _=>rfl))) (zG (zK (xJ (zA zY (zA (yAi Y.G Y.at_ (pv 0)) zD))))) zL)
  (zG (zK (xJ (zA (yR ix_list (yG (zA zY (zA zY (zA zY (zA zY zD))))) (uO pY PySem.F.slot_list_index PySem.F.type_list_index zKq (pv 1) (zA vO zD)) (fun _ _=>rfl)) zD)))))))), ?_⟩
 walk_at "st";walk_at "rd3";rcases h with⟨dd,n,hx,hdd,q⟩|⟨hc,q⟩
 ·have hc:Caught H x (d 1):=.inr ⟨dd,_,hx,hdd⟩
  refine⟨x,_,_,⟨rfl,rfl⟩,hc,Y.G,false,Y.k0,x,_,_,⟨rfl,rfl⟩,hc,Y.G,true,Y.k1,x,_,_,⟨rfl,rfl⟩,hc,Y.G,false,Y.k2,x,_,_,⟨rfl,rfl⟩,hc,Y.G,false,Y.k3,fun p1 hp1 p2 hp2=>?_⟩;have s1:=zC hp1 (.lst [V.bl false,V.bl true,V.bl false,V.bl false]);have e1:=zB (H:=H) (a:=p1) (o:=.lst [V.bl false,V.bl true,V.bl false,V.bl false]);generalize upd H p1 (.lst [V.bl false,V.bl true,V.bl false,V.bl false])=H1 at s1 e1 hp2⊢;have s2:=zC hp2 (.tup [V.ref (d 4),V.ref (d 5),V.ref (d 6),V.ref (d 7),V.ref (d 8),V.ref (d 9),V.ref (d 10),V.ref (d 11),V.ref (d 12)]);have e2:=zB (H:=H1) (a:=p2) (o:=.tup [V.ref (d 4),V.ref (d 5),V.ref (d 6),V.ref (d 7),V.ref (d 8),V.ref (d 9),V.ref (d 10),V.ref (d 11),V.ref (d 12)]);generalize upd H1 p2 _=H2 at s2 e2⊢;refine⟨x,_,_,⟨rfl,rfl⟩,[d 4,d 5,d 6,d 7,d 8,d 9,d 10,d 11,d 12],e2,hc.same (s1.trans s2),Y.G,false,Y.a9,iN (by decide) fun p3 hp3=>?_⟩;have s3:=zC hp3 (.tup [V.ref (d 13),V.ref (d 14),V.ref (d 15),V.ref (d 16),V.ref (d 17)]);have e3:=zB (H:=H2) (a:=p3) (o:=.tup [V.ref (d 13),V.ref (d 14),V.ref (d 15),V.ref (d 16),V.ref (d 17)]);generalize upd H2 p3 _=H3 at s3 e3⊢;have g3:=s1.trans (s2.trans s3);have e1':=s3 _ _ (s2 _ _ e1);refine⟨x,_,_,⟨rfl,rfl⟩,[d 13,d 14,d 15,d 16,d 17],e3,hc.same g3,Y.G,false,Y.a5,iN (by decide) ⟨.inl ⟨rfl,_,SqL.of e1'⟩,p1,[false,true,false,false],true,rfl,rfl,SqL.of e1',rfl,false,by decide,iN (by decide) (yP (SqL.of e1') (xI (j:=1) rfl) ⟨true,rfl,iP rfl ?_⟩)⟩⟩;refine⟨_,rfl,x,dd,_,n,rfl,g3 _ _ hx,g3 _ _ hdd,rfl,fun p4 hp4=>q p4 _ (g3.trans (zC hp4 _)) (zT g3 hp4) zB⟩
 ·skip
  refine⟨x,_,_,⟨rfl,rfl⟩,hc,Z.G,false,Z.k0,x,_,_,⟨rfl,rfl⟩,hc,Z.G,false,Z.k1,x,_,_,⟨rfl,rfl⟩,hc,Z.G,true,Z.k2,x,_,_,⟨rfl,rfl⟩,hc,Z.G,false,Z.k3,fun p1 hp1 p2 hp2=>?_⟩;have s1:=zC hp1 (.lst [V.bl false,V.bl false,V.bl true,V.bl false]);have e1:=zB (H:=H) (a:=p1) (o:=.lst [V.bl false,V.bl false,V.bl true,V.bl false]);generalize upd H p1 (.lst [V.bl false,V.bl false,V.bl true,V.bl false])=H1 at s1 e1 hp2⊢;have s2:=zC hp2 (.tup [V.ref (d 4),V.ref (d 5),V.ref (d 6),V.ref (d 7),V.ref (d 8),V.ref (d 9),V.ref (d 10),V.ref (d 11),V.ref (d 12)]);have e2:=zB (H:=H1) (a:=p2) (o:=.tup [V.ref (d 4),V.ref (d 5),V.ref (d 6),V.ref (d 7),V.ref (d 8),V.ref (d 9),V.ref (d 10),V.ref (d 11),V.ref (d 12)]);generalize upd H1 p2 _=H2 at s2 e2⊢;refine⟨x,_,_,⟨rfl,rfl⟩,[d 4,d 5,d 6,d 7,d 8,d 9,d 10,d 11,d 12],e2,hc.same (s1.trans s2),Z.G,false,Z.a9,iN (by decide) fun p3 hp3=>?_⟩;have s3:=zC hp3 (.tup [V.ref (d 13),V.ref (d 14),V.ref (d 15),V.ref (d 16),V.ref (d 17)]);have e3:=zB (H:=H2) (a:=p3) (o:=.tup [V.ref (d 13),V.ref (d 14),V.ref (d 15),V.ref (d 16),V.ref (d 17)]);generalize upd H2 p3 _=H3 at s3 e3⊢;have g3:=s1.trans (s2.trans s3);have e1':=s3 _ _ (s2 _ _ e1);refine⟨x,_,_,⟨rfl,rfl⟩,[d 13,d 14,d 15,d 16,d 17],e3,hc.same g3,Z.G,false,Z.a5,iN (by decide) ⟨.inl ⟨rfl,_,SqL.of e1'⟩,p1,[false,false,true,false],true,rfl,rfl,SqL.of e1',rfl,false,by decide,iN (by decide) (yP (SqL.of e1') (xI (j:=1) rfl) ⟨false,rfl,iN (by decide) fun p4 hp4=>?_⟩)⟩⟩;have s4:=zC hp4 (.lst [V.str (Str.ofString "path"),V.str (Str.ofString "place"),V.str (Str.ofString "great"),V.str (Str.ofString "none")]);have e4:=zB (H:=H3) (a:=p4) (o:=.lst [V.str (Str.ofString "path"),V.str (Str.ofString "place"),V.str (Str.ofString "great"),V.str (Str.ofString "none")]);generalize upd H3 p4 _=H4 at s4 e4⊢;refine⟨.inl ⟨rfl,_,SqL.of (s4 _ _ e1')⟩,p1,[false,false,true,false],true,2,rfl,rfl,SqL.of (s4 _ _ e1'),rfl,(fun j hj=>by match j,hj with | 0,_=>decide | 1,_=>decide),by decide,yP (SqL.of e4) (xI (j:=2) rfl) fun p5 hp5=>?_⟩
  exact q p5 _ (g3.trans (s4.trans (zC hp5 _))) (zT (g3.trans s4) hp5) zB
end
end K36
namespace K36
open PySem L2 PySem.W
seal L2.PSs L2.PS L2.PE L2.PT L2.PW L2.PA L2.PI L2.PG L2.PGs L2.PPs L2.PTs
abbrev sTo:Stmt:=top 81
section
variable{P:Program}{w:World}{K:PySem.W.Frag}{mg:Str→Option Value}{base:Heap}{f:Addr}{fd:FuncData}{d:Nat→Addr}{Bs:Addr}
def grt:HO:=.tup [.str (Str.ofString "great")]
def zVp(d:Nat→Addr):Sp:=fun vs H Q _=>∃(wd:Wd)(v:V)(t:T)(pa:Addr)(ks:List Key)(vn:V)(n:T)(m:Nat),vs= [.str wd.s,v, .ref pa,vn]∧wd≠ .put∧Tq m H v t pa ks∧Rep H vn n∧Nq m t n∧
 (∀r,chG wd (fun s k=>yH wd s k n) t ks n= .inr r→T.gd r∧T.sz r≤1000∧(wd= .tak∨vH r=true→∀v' H' D,Same H H'→Sp1 H' v' r D→(∀b∈D,H b=none)→Q v' H')∧(wd= .ins→vH r=false→∀p H',Same H H'→H p=none→H' p=some grt→Q (.ref p) H'))∧
 (∀j:Nat,chG wd (fun s k=>yH wd s k n) t ks n= .inl j→∀p H',Same H H'→H p=none→H' p=some (plc j)→Q (.ref p) H')
theorem scTo:zV ["_law_word_here","_law_thing","_law_path_here","_law_new","_law_e"] ["_law_word_here","_law_thing","_law_path_here","_law_new"] (zH sTo):=by walk_at "sc"
theorem ok_to(F:Fun K "_law_told" "_law_told" sTo f fd)(mB:mg "CabinetError" =some (.ref Bs))(ex:exmOne K (.ref (d 1)) (.ref Bs)=some true)(ex2:exmOne K (.ref (d 2)) (.ref Bs)=some true)(Ginx:Dx P w K mg base 23 "inserted" ["thing","path","new"] (zQf (d 1) (d 2)))(Gtkx:Dx P w K mg base 23 "taken" ["thing","path"] (zTf (d 1)))(Gw:Dh P w K mg base 1 "_law_word" ["_law_e"] (zHr d)):FnOk P w K mg base CX0 24 f fd ["_law_word_here","_law_thing","_law_path_here","_law_new"] (zVp d):=by
 refine F.ok scTo (by walk_at "ln") fun c A o s H vs Q E hr h=>?_;obtain⟨wd,v,t,pa,ks,vn,n,m,rfl,hw,hT,hn,hN,q,qn⟩:=h;have nd:=scTo.nd;refine⟨_,(zG (yBj (tb:=fun E=>_) rfl rfl mB nd (i:=4) rfl rfl rfl rfl rfl (fun pins W E hp=>(zE (zS (zW xC (pv 0) zY (zR _)) (zG (zK (zXw Gtkx hr (by lia) rfl hp (zA (pv 1) (zA (pv 2) zD))))) zL) (zG (zK (zXw Ginx hr (by lia) rfl hp (zA (pv 1) (zA (pv 2) (zA (pv 3) zD))))))))
  (fun v=>zG (zK (pe_ch Gw hr.h (by lia) rfl (zA (pv 4) zD)))))), ?_⟩
 walk_at "st";unfold tTry;walk_at "rd3";have hx:∀j:Nat,(∀p H',Same H H'→H p=none→H' p=some (plc j)→Q (.ref p) H')→XAt (d 1) (j:Int) H (zUj K Bs 4 5 (zWg (jS (zHr d) [] E0 (zBy (zIe 4) zHl))) {nx:=fun x H'=>Q V.non H',rt:=Q}):=fun j qj dd H1 g1 hdd=>by
  refine⟨d 1,rfl,ex,fun x hx=>?_⟩;have hne:dd≠x:=fun z=>by rw[z,hx] at hdd;cases hdd
  have g2:=g1.trans (zC hx (exF x (d 1) (some dd)));have hx2:upd H1 x (exF x (d 1) (some dd)) x=some (exF x (d 1) (some dd)):=zB;have hd2:upd H1 x (exF x (d 1) (some dd)) dd=some (.xd [("at", .int (j:Int))]):=by rw[zO hne];exact hdd
  generalize upd H1 x (exF x (d 1) (some dd))=H2 at g2 hx2 hd2⊢;exact⟨.ref x,rfl,x,rfl, .inl ⟨dd,_,hx2,hd2,fun o H3 g3 ho0 ho=>qj o H3 (g2.trans g3) (zT g2 ho0) ho⟩⟩
 cases wd with
 | put=>exact absurd rfl hw
 | tak=>
  refine iP rfl ⟨v,t,pa,ks,m,rfl,hT,hN.dep,fun r hr'=>?_,fun j hj=>hx j (qn j (tak_any.trans hj))⟩;exact(q r (tak_any.trans hr')).2.2.1 (.inl rfl)
 | ins=>
  refine iN (show¬Wd.ins.s=Str.ofString "take" by decide+kernel) ⟨v,t,pa,ks,vn,n,m,rfl,hT,hn,hN,fun r hr'=>?_,fun j hj=>hx j (qn j hj)⟩;obtain⟨r1,r2,r3,r4⟩:=q r hr';refine⟨r1,r2,fun h=>r3 (.inr h),fun h H1 g1=>⟨d 2,rfl,ex2,fun x hx=>?_⟩⟩;exact⟨.ref x,rfl,x,rfl, .inr ⟨.inl zB,fun p H2 g2 hp0 hp=>r4 rfl h p H2 (g1.trans ((zC hx _).trans g2)) (zT g1 (zT (zC hx _) hp0)) hp⟩⟩
end
end K36
namespace K36
open PySem L2
mutual
theorem zTx:∀t:T,T.gx t→okT t=T.wn t∧T.md t=T.dep t∧T.mc t=T.sz t
 | .non,_=>⟨rfl,rfl,rfl⟩
 | .bl _,_=>⟨rfl,rfl,rfl⟩
 | .int i,h=>⟨nB h,rfl,rfl⟩
 | .str x,h=>by
  refine⟨?_,rfl,rfl⟩;show(decide (x.length≤30)&& x.all fun c=>decide (c∈sgnL))=true;rw[nB h.1,cF,pQ];exact fun c hc=>nB (h.2 c hc)
 | .tup _,h=>h.elim
 | .lst us,h=>by
  obtain⟨a,b,c⟩:=zLg us h;refine⟨?_, ?_, ?_⟩
  ·show(decide (us.length≤60)&& uT us)=(decide (us.length≤60)&& T.wns us)
   rw[a]
  ·show 1+T.mds us=T.deps us+1
   lia
  ·show 1+T.mcs us=T.szs us+1
   lia
 | .dic ks us,h=>by
  obtain⟨a,b,c⟩:=zLg us h.2.2.2;refine⟨?_, ?_, ?_⟩
  ·show((decide (ks.length≤30)&& ks.all yU)&& uT us)=(decide (us.length≤30)&& T.wns us)
   rw[a,h.2.1,pQ.mpr h.2.2.1,Bool.and_true]
  ·show 1+T.mds us=T.deps us+1
   lia
  ·show 1+T.mcs us=T.szs us+1
   lia
theorem zLg:∀ts:List T,T.gxs ts→uT ts=T.wns ts∧T.mds ts=T.deps ts∧T.mcs ts=T.szs ts
 | [],_=>⟨rfl,rfl,rfl⟩
 | t::ts,h=>by
  obtain⟨a,b,c⟩:=zTx t h.1;obtain⟨a',b',c'⟩:=zLg ts h.2;refine⟨?_, ?_, ?_⟩
  ·show(okT t && uT ts)=(T.wn t && T.wns ts)
   rw[a,a']
  ·show max (T.md t) (T.mds ts)=max (T.dep t) (T.deps ts)
   rw[b,b']
  ·show T.mc t+T.mcs ts=T.sz t+T.szs ts
   rw[c,c']
end
theorem zNa{t:T}(h:T.gx t):T.isT t=vH t:=by
 obtain⟨a,b,c⟩:=zTx t h;unfold T.isT vH;rw[a,b,c];cases T.wn t<;>cases decide (T.dep t≤8)<;>cases decide (T.sz t≤200)<;>rfl
theorem zGv{k:List Nat}(h:yU k=true):k.length≤1000:=by
 have:=zDz h
 lia
mutual
theorem zXr:∀t:T,T.gx t→T.gd t
 | .non,_=>mH
 | .bl _,_=>mH
 | .int _,_=>mH
 | .str _,h=>⟨nN h.1 (by decide),fun c hc=>.inl (h.2 c hc)⟩
 | .tup _,h=>h.elim
 | .lst us,h=>zGz us h
 | .dic ks us,h=>⟨h.1,h.2.1,fun k hk=>zGv (h.2.2.1 k hk),zGz us h.2.2.2⟩
theorem zGz:∀ts:List T,T.gxs ts→T.gds ts
 | [],_=>mH
 | t::ts,h=>⟨zXr t h.1,zGz ts h.2⟩
end
def okN:Key→Prop
 | .inl _=>True
 | .inr s=>yU (ts s)=true
theorem zDw{n:List Nat}:∀{ks:List (List Nat)}{us:List T},ks.length=us.length→n∈ks→xG n ks us∈us
 | [],_,_,h=>nomatch h
 | k::ks,[],h,_=>nomatch h
 | k::ks,u::us,h,hm=>by
  show(if k=n then u else xG n ks us)∈u::us
  by_cases e:k=n
  ·rw[mK e];exact mM
  ·rw[mG e]
   refine mJ _ (zDw (Nat.succ.inj h) ?_);rcases mF.mp hm with z | z
   ·exact absurd z.symm e
   ·exact z
theorem zVj{t u:T}{k:Key}(ht:T.gx t)(hs:yJ t k=some u):T.gx u:=by
 rcases wF hs with⟨us,i,rfl,rfl,h,_⟩|⟨ks,us,x,rfl,rfl,hx,rfl,_⟩
 ·exact T.gxs_mem ht (mP h)
 ·exact T.gxs_mem ht.2.2.2 (zDw ht.2.1 hx)
theorem zMr:∀(ks:List Key)(t u:T),T.gx t→u∈goT t ks→T.gx u
 | [],t,u,ht,h=>by rw[mO.mp h];exact ht
 | k::ks,t,u,ht,h=>by
  have e:goT t (k::ks)=(match yJ t k with | none=>[t] | some u=>t::goT u ks):=rfl
  rw[e] at h
  cases hs:yJ t k with
  | none=>rw[hs] at h;rw[mO.mp h];exact ht
  | some u'=>
   rw[hs] at h;rcases mF.mp h with z | z
   ·rw[z];exact ht
   ·exact zMr ks u' u (zVj ht hs) z
theorem zOw{ks:List (List Nat)}{us:List T}{n k:List Nat}{t:T}(h:k∈(xO (ks,us) n t).1):k∈ks∨k=n:=by
 unfold xO at h;split at h
 ·exact .inl h
 ·rcases mT.mp h with z | z
  ·exact .inl z
  ·exact .inr (mO.mp z)
theorem zRu{us:List T}{n:T}{i j:Nat}(ht:T.gxs us)(hn:T.gx n):T.gxs (us.take i++n::us.drop j):=T.gxs_of fun u hu=>by
 rcases mT.mp hu with z | z
 ·exact T.gxs_mem ht (rB z)
 ·rcases mF.mp z with z | z
  ·rw[z];exact hn
  ·exact T.gxs_mem ht (rX z)
theorem zLy{w:Wd}{t n:T}{k:Key}(ht:T.gx t)(hn:T.gx n)(hk:okN k):T.gx (yH w t k n):=by
 cases t with
 | lst us=>
  cases k with
  | inr x=>cases w<;>exact ht
  | inl i=>
   cases w with
   | put=>exact zRu (i:=i.toNat) (j:=i.toNat+1) ht hn
   | ins=>exact zRu (i:=i.toNat) (j:=i.toNat) ht hn
   | tak=>exact T.gxs_of fun u hu=>(mT.mp hu).elim (fun z=>T.gxs_mem ht (rB z)) fun z=>T.gxs_mem ht (rX z)
 | dic ks us=>
  cases k with
  | inl i=>cases w<;>exact ht
  | inr x=>
   obtain⟨nd,hl,hn',hu⟩:=ht
   cases w with
   | put=>exact⟨kC nd,(zAw hl).1,fun k h=>(zOw h).elim (hn' k) (fun e=>by rw[e];exact hk),T.gxs_of fun u h=>(zAp h).elim (T.gxs_mem hu) (fun e=>e▸hn)⟩
   | ins=>exact⟨nd,hl,hn',hu⟩
   | tak=>exact⟨wA nd,(jA hl).1,fun k h=>hn' k (dropN_mem.mp h).1,T.gxs_of fun u h=>T.gxs_mem hu (vT h)⟩
 | tup us=>exact ht.elim
 | non=>cases w<;>cases k<;>exact mH
 | bl b=>cases w<;>cases k<;>exact mH
 | int b=>cases w<;>cases k<;>exact ht
 | str b=>cases w<;>cases k<;>exact ht
theorem zTq{st:List T}{ks:List Key}:∀(m:Nat)(r:T),(∀i,i<m→T.gx (st.getD i .non)∧okN (ks.getD i (.inl 0)))→T.gx r→T.gx (bld st ks m r)
 | 0,r,_,hr=>hr
 | m+1,r,h,hr=>zTq m _ (fun i hi=>h i (sX hi)) (zLy (h m (rG m)).1 hr (h m (rG m)).2)
theorem gx_ch{w:Wd}{pt:T→Key→T}{t n r:T}{ks:List Key}(hp:∀s k,T.gx s→okN k→T.gx (pt s k))(ht:T.gx t)(hn:T.gx n)(hk:∀k∈ks,okN k)(h:chG w pt t ks n= .inr r):T.gx r:=by
 unfold chG at h
 cases hl:ks.getLast? with
 | none=>
  rw[hl] at h
  cases w with
  | put=>cases h;exact hn
  | ins=>cases h
  | tak=>cases h
 | some k=>
  rw[hl] at h;have hkk:=hk k (rY hl);dsimp only at h;split at h
  ·cases h
  ·rename_i hlen
   cases hg:(goT t ks.dropLast).getLast? with
   | none=>rw[hg] at h;cases h
   | some s=>
    rw[hg] at h;dsimp only at h;split at h
    ·cases h
     refine zTq _ _ (fun i hi=>⟨?_, ?_⟩) (hp s k (zMr _ _ _ ht (rY hg)) hkk)
     ·rw[nI]
      cases e:(goT t ks.dropLast)[i]? with
      | none=>exact mH
      | some u=>exact zMr _ _ _ ht (mP e)
     ·rw[nI]
      cases e:ks[i]? with
      | none=>exact mH
      | some u=>exact hk _ (mP e)
    ·cases h
theorem zEm{n:List Nat}{t:T}:∀{ks:List (List Nat)}{us:List T},ks.length=us.length→n∉ks→yI n t ks us=us
 | [],us,_,_=>by unfold yI;rfl
 | _::_,[],h,_=>nomatch h
 | a::ks,b::us,hl,hn=>by
  have ne:¬a=n:=fun z=>hn (by rw[z];exact mM);show(if a=n then t else b)::yI n t ks us=b::us;rw[mG ne,zEm (Nat.succ.inj hl) fun z=>hn (mJ _ z)]
theorem zDs{α:Type}(op:α→α→α)(e:α)(f:T→α)(comm:∀a b,op a b=op b a)(assoc:∀a b c,op (op a b) c=op a (op b c)){n:List Nat}{t:T}:
  ∀{ks:List (List Nat)}{us:List T},ks.Nodup→ks.length=us.length→n∈ks→((yI n t ks us).map f).foldr op e=op ((((yF n ks us)).map f).foldr op e) (f t)
 | [],_,_,_,h=>nomatch h
 | _::_,[],_,h,_=>nomatch h
 | k::ks,u::us,nd,hl,h=>by
  rw[nZ] at nd;have hl':ks.length=us.length:=Nat.succ.inj hl;show(((if k=n then t else u)::yI n t ks us).map f).foldr op e=op (((if k=n then yF n ks us else u::yF n ks us).map f).foldr op e) (f t)
  by_cases c:k=n
  ·have hn:n∉ks:=by rw[←c];exact nd.1
   rw[mK c,mK c,zEm hl' hn,(qL hl' hn).1];exact comm _ _
  ·have hm:n∈ks:=(mF.mp h).elim (fun z=>absurd z.symm c) id
   rw[mG c,mG c];show op (f u) (((yI n t ks us).map f).foldr op e)=op (op (f u) (((yF n ks us).map f).foldr op e)) (f t);rw[zDs op e f comm assoc nd.2 hl' hm,assoc]
theorem zBt{α:Type}(op:α→α→α)(e:α)(f:T→α)(comm:∀a b,op a b=op b a)(assoc:∀a b c,op (op a b) c=op a (op b c))(t:T):∀us:List T,((us++ [t]).map f).foldr op e=op ((us.map f).foldr op e) (f t)
 | []=>comm _ _
 | u::us=>by
  show op (f u) (((us++ [t]).map f).foldr op e)=op (op (f u) ((us.map f).foldr op e)) (f t);rw[zBt op e f comm assoc t us,assoc]
theorem zAh{α:Type}(op:α→α→α)(e:α)(f:T→α)(comm:∀a b,op a b=op b a)(assoc:∀a b c,op (op a b) c=op a (op b c)){n:List Nat}{t:T}{ks:List (List Nat)}{us:List T}(nd:ks.Nodup)(hl:ks.length=us.length):
  (((xO (ks,us) n t).2).map f).foldr op e=((yF n ks us++ [t]).map f).foldr op e:=by
 rw[zBt op e f comm assoc];unfold xO
 by_cases h:n∈ks
 ·rw[mK h];exact zDs op e f comm assoc nd hl h
 ·rw[mG h,(qL hl h).1]
  exact zBt op e f comm assoc t us
theorem qS:∀us:List T,T.mds us=(us.map T.md).foldr max 0
 | []=>rfl
 | u::us=>by
  show max (T.md u) (T.mds us)=max (T.md u) ((us.map T.md).foldr max 0);rw[qS us]
theorem jD:∀us:List T,T.mcs us=(us.map T.mc).foldr (· + ·) 0
 | []=>rfl
 | u::us=>by
  show T.mc u+T.mcs us=T.mc u+((us.map T.mc).foldr (· + ·) 0);rw[jD us]
theorem qY:∀us:List T,T.wns us=(us.map T.wn).foldr (· && ·) true
 | []=>rfl
 | u::us=>by
  show(T.wn u && T.wns us)=(T.wn u && ((us.map T.wn).foldr (· && ·) true));rw[qY us]
theorem zDg:∀us:List T,us.length=(us.map fun _=>1).foldr (· + ·) 0
 | []=>rfl
 | u::us=>by
  show us.length+1=1+((us.map fun _=>1).foldr (· + ·) 0);rw[←zDg us];lia
def T.qv(r s:T):Prop:=T.md r=T.md s∧T.mc r=T.mc s∧T.wn r=T.wn s
theorem T.qv.refl(r:T):T.qv r r:=⟨rfl,rfl,rfl⟩
theorem T.qv.isT{r s:T}(h:T.qv r s):T.isT r=T.isT s:=by
 unfold T.isT;rw[h.1,h.2.1,h.2.2]
theorem zWh{w:Wd}{t n:T}{k:Key}(ht:T.gx t):T.qv (yH w t k n) (wH w t k n):=by
 by_cases h:∃ks us x,w= .put∧t= .dic ks us∧k= .inr x
 ·obtain⟨ks,us,x,rfl,rfl,rfl⟩:=h
  obtain⟨nd,hl,_,_⟩:=ht;have e1:=zAh max 0 T.md Nat.max_comm Nat.max_assoc (n:=ts x) (t:=n) nd hl;have e2:=zAh (· + ·) 0 T.mc Nat.add_comm Nat.add_assoc (n:=ts x) (t:=n) nd hl;have e3:=zAh (· && ·) true T.wn Bool.and_comm Bool.and_assoc (n:=ts x) (t:=n) nd hl;have e4:=zAh (· + ·) 0 (fun _=>1) Nat.add_comm Nat.add_assoc (n:=ts x) (t:=n) nd hl;rw[←zDg,←zDg] at e4;refine⟨?_, ?_, ?_⟩
  ·show 1+T.mds _=1+T.mds _
   rw[qS,qS,e1]
  ·show 1+T.mcs _=1+T.mcs _
   rw[jD,jD,e2]
  ·show(decide (_≤30)&& T.wns _)=(decide (_≤30)&& T.wns _)
   rw[qY,qY,e3,e4]
 ·rw[zEa h];exact T.qv.refl _
theorem uJ{α:Type}{f:T→α}{n:List Nat}{r s:T}(h:f r=f s):∀(ks:List (List Nat))(us:List T),(yI n r ks us).map f=(yI n s ks us).map f
 | [],us=>by unfold yI;rfl
 | _::_,[]=>rfl
 | k::ks,u::us=>by
  show f (if k=n then r else u)::(yI n r ks us).map f=f (if k=n then s else u)::(yI n s ks us).map f;rw[uJ h ks us]
  by_cases c:k=n
  ·rw[mK c,mK c,h]
  ·rw[mG c,mG c]
theorem zZe{t u r s:T}{k:Key}(hs:yJ t k=some u)(h:T.qv r s):T.qv (yH .put t k r) (yH .put t k s):=by
 rcases wF hs with⟨us,i,rfl,rfl,_,e⟩|⟨ks,us,x,rfl,rfl,_,_,e⟩
 ·rw[e,e]
  refine⟨?_, ?_, ?_⟩
  ·show 1+T.mds _=1+T.mds _
   rw[qS,qS,bY,bY,h.1]
  ·show 1+T.mcs _=1+T.mcs _
   rw[jD,jD,bY,bY,h.2.1]
  ·show(decide (_≤60)&& T.wns _)=(decide (_≤60)&& T.wns _)
   rw[qY,qY,bY,bY,h.2.2,rH,rH]
 ·rw[e,e]
  refine⟨?_, ?_, ?_⟩
  ·show 1+T.mds _=1+T.mds _
   rw[qS,qS,uJ h.1]
  ·show 1+T.mcs _=1+T.mcs _
   rw[jD,jD,uJ h.2.1]
  ·show(decide (_≤30)&& T.wns _)=(decide (_≤30)&& T.wns _)
   rw[qY,qY,uJ h.2.2,xL,xL]
theorem zTh{st:List T}{ks:List Key}:∀(m:Nat)(r s:T),(∀i,i<m→∃u,yJ (st.getD i .non) (ks.getD i (.inl 0))=some u)→T.qv r s→T.qv (bld st ks m r) (bld st ks m s)
 | 0,_,_,_,h=>h
 | m+1,r,s,hs,h=>by
  obtain⟨u,hu⟩:=hs m (rG m);exact zTh m _ _ (fun i hi=>hs i (sX hi)) (zZe hu h)
theorem qv_ch{w:Wd}{t n r r':T}{ks:List Key}(ht:T.gx t)(h:chG w (fun s k=>yH w s k n) t ks n= .inr r)(h':chG w (fun s k=>wH w s k n) t ks n= .inr r'):T.qv r r':=by
 unfold chG at h h'
 cases hl:ks.getLast? with
 | none=>
  rw[hl] at h h'
  cases w with
  | put=>cases h;cases h';exact T.qv.refl _
  | ins=>cases h
  | tak=>cases h
 | some k=>
  rw[hl] at h h';dsimp only at h h'
  by_cases hlen:(goT t ks.dropLast).length<ks.length
  ·rw[mK hlen] at h;cases h
  ·rw[mG hlen] at h h'
   cases hg:(goT t ks.dropLast).getLast? with
   | none=>rw[hg] at h;cases h
   | some s=>
    rw[hg] at h h';dsimp only at h h'
    by_cases hc:vV w s k=true
    ·rw[mK hc] at h h'
     cases h;cases h';refine zTh _ _ _ (fun i hi=>?_) (zWh (zMr _ _ _ ht (rY hg)));obtain⟨k',u,v,h1,h2,_,h4⟩:=jQ ks.dropLast t i (by lia);have h1':ks[i]? =some k':=by
      rw[tK,mK (by lia)] at h1;exact h1
     refine⟨v, ?_⟩;rw[nI,nI,h1',h2];exact h4
    ·rw[mG hc] at h;cases h
theorem T.gys_mem{t:T}:∀{ts:List T},T.gys ts→t∈ts→T.gy t
 | [],_,h=>nomatch h
 | u::ts,h,hm=>(mF.mp hm).elim (fun e=>e▸h.1) (T.gys_mem h.2)
mutual
theorem T.gy.wn:∀{t:T},T.gy t→T.wn t=true
 | .non,_=>rfl
 | .bl _,_=>rfl
 | .int _,_=>rfl
 | .str _,_=>rfl
 | .tup _,h=>h.elim
 | .lst us,h=>by
  show(decide (us.length≤60)&& T.wns us)=true;rw[nB h.1,T.gys.wns (ts:=us) h.2];rfl
 | .dic ks us,h=>by
  show(decide (us.length≤30)&& T.wns us)=true;rw[nB (by have:=h.2.1;have:=h.2.2.1;lia),T.gys.wns (ts:=us) h.2.2.2.2];rfl
theorem T.gys.wns:∀{ts:List T},T.gys ts→T.wns ts=true
 | [],_=>rfl
 | t::ts,h=>by
  show(T.wn t && T.wns ts)=true;rw[T.gy.wn (t:=t) h.1,T.gys.wns (ts:=ts) h.2];rfl
end
theorem yBc{t:T}(h:T.gy t)(hd:T.dep t≤8)(hz:T.sz t≤200):T.isT t=true:=by
 obtain⟨_,b,c⟩:=zTx t h.gx;unfold T.isT;rw[b,c,h.wn,nB hd,nB hz];rfl
def Les(r s:T):Prop:=T.gy r∧T.sz r≤T.sz s∧T.dep r≤T.dep s
theorem zZh{t u r:T}{k:Key}(ht:T.gy t)(hs:yJ t k=some u)(hr:T.gy r):T.gy (yH .put t k r):=by
 rcases wF hs with⟨us,i,rfl,rfl,_,e⟩|⟨ks,us,x,rfl,rfl,hx,_,e⟩
 ·rw[e]
  exact⟨by rw[rH];exact ht.1,T.gys_of fun u hu=>(List.mem_or_eq_of_mem_set hu).elim (T.gys_mem ht.2) (fun e=>e▸hr)⟩
 ·rw[e]
  refine⟨ht.1,ht.2.1,by rw[xL];exact ht.2.2.1,ht.2.2.2.1,T.gys_of fun u hu=>?_⟩;have:u∈(xO (ks,us) (ts x) r).2:=by unfold xO;rw[mK hx];exact hu
  exact(zAp this).elim (T.gys_mem ht.2.2.2.2) (fun e=>e▸hr)
theorem zVv{t u r:T}{k:Key}(ht:T.gy t)(hs:yJ t k=some u)(h:Les r u):Les (yH .put t k r) t:=by
 have h1:=zHm (r:=r) ht.few hs;have h2:=(zQv (r:=r) ht.few hs h.1.few).2;have h3:=(zEw ht.few hs).2.1;obtain⟨a,b,c⟩:=h;exact⟨zZh ht hs a,by lia,by lia⟩
theorem zXh{t n:T}{k:Key}(ht:T.gy t):Les (yH .tak t k n) t:=by
 have same:Les t t:=⟨ht,mE _,mE _⟩
 cases t with
 | lst us=>
  cases k with
  | inr x=>exact same
  | inl i=>
   have hs:∀t∈us.take i.toNat++us.drop (i.toNat+1),t∈us:=fun t ht=>(mT.mp ht).elim rB rX;have hc:=zGu (us:=us) (i:=i.toNat) (j:=i.toNat+1) (by lia);have h1:=ht.1;refine⟨⟨?_,T.gys_of fun u hu=>T.gys_mem ht.2 (hs u hu)⟩, ?_, ?_⟩
   ·rw[mL,nW,pU];lia
   ·show T.szs (us.take i.toNat++us.drop (i.toNat+1))+1≤T.szs us+1
    rw[T.szs_append];lia
   ·show T.deps (us.take i.toNat++us.drop (i.toNat+1))+1≤T.deps us+1
    have:=zAq (mE (T.deps us)) hs
    lia
 | dic ks us=>
  cases k with
  | inl i=>exact same
  | inr x=>
   obtain⟨nd,h30,hl,hn,hu⟩:=ht;obtain⟨l1,l2⟩:=jA (n:=ts x) hl;have hz:=jO (n:=ts x) (ks:=ks) (us:=us);refine⟨⟨wA nd,by lia,l1,fun k h=>hn k (dropN_mem.mp h).1,T.gys_of fun u h=>T.gys_mem hu (vT h)⟩, ?_, ?_⟩
   ·show T.szs (yF (ts x) ks us)+1≤T.szs us+1
    lia
   ·show T.deps (yF (ts x) ks us)+1≤T.deps us+1
    have:=zAq (a:=yF (ts x) ks us) (mE (T.deps us)) fun u h=>vT h
    lia
 | tup us=>exact ht.elim
 | non=>cases k<;>exact same
 | bl b=>cases k<;>exact same
 | int b=>cases k<;>exact same
 | str b=>cases k<;>exact same
theorem zMc{st:List T}{ks:List Key}:∀(m:Nat)(r:T),(∀i,i<m→yJ (st.getD i .non) (ks.getD i (.inl 0))=some (st.getD (i+1) .non)∧T.gy (st.getD i .non))→Les r (st.getD m .non)→Les (bld st ks m r) (st.getD 0 .non)
 | 0,_,_,h=>h
 | m+1,r,hc,h=>by
  obtain⟨q1,q2⟩:=hc m (rG m);exact zMc m _ (fun i hi=>hc i (sX hi)) (zVv q2 q1 h)
theorem zUr{t u:T}{k:Key}(ht:T.gy t)(hs:yJ t k=some u):T.gy u:=by
 rcases wF hs with⟨us,i,rfl,rfl,h,_⟩|⟨ks,us,x,rfl,rfl,hx,rfl,_⟩
 ·exact T.gys_mem ht.2 (mP h)
 ·exact T.gys_mem ht.2.2.2.2 (zDw ht.2.2.1 hx)
theorem zSa:∀(ks:List Key)(t u:T),T.gy t→u∈goT t ks→T.gy u
 | [],t,u,ht,h=>by rw[mO.mp h];exact ht
 | k::ks,t,u,ht,h=>by
  have e:goT t (k::ks)=(match yJ t k with | none=>[t] | some u=>t::goT u ks):=rfl
  rw[e] at h
  cases hs:yJ t k with
  | none=>rw[hs] at h;rw[mO.mp h];exact ht
  | some u'=>
   rw[hs] at h;rcases mF.mp h with z | z
   ·rw[z];exact ht
   ·exact zSa ks u' u (zUr ht hs) z
theorem zUn{t n r:T}{ks:List Key}(ht:T.gy t)(h:chG .tak (fun s k=>yH .tak s k n) t ks n= .inr r):Les r t:=by
 unfold chG at h
 cases hl:ks.getLast? with
 | none=>rw[hl] at h;cases h
 | some k=>
  rw[hl] at h;dsimp only at h
  by_cases hlen:(goT t ks.dropLast).length<ks.length
  ·rw[mK hlen] at h;cases h
  ·rw[mG hlen] at h
   cases hg:(goT t ks.dropLast).getLast? with
   | none=>rw[hg] at h;cases h
   | some s=>
    rw[hg] at h;dsimp only at h
    by_cases hc:vV .tak s k=true
    ·rw[mK hc] at h
     cases h;have hgl:=qJ t ks.dropLast;have hdl:ks.dropLast.length=ks.length - 1:=sS;have hpos:0<ks.length:=aM.mpr fun z=>by rw[z] at hl;cases hl
     have hlen':(goT t ks.dropLast).length=ks.length:=by lia
     have hsi:(goT t ks.dropLast)[ks.length - 1]? =some s:=by rw[rT,hlen'] at hg;exact hg
     have gd:∀i u,(goT t ks.dropLast)[i]? =some u→(goT t ks.dropLast).getD i .non=u:=fun i u h=>by rw[nI,h];rfl
     have st0:(goT t ks.dropLast).getD 0 .non=t:=by
      refine gd 0 t ?_
      cases hq:ks.dropLast with
      | nil=>rfl
      | cons k2 l=>
       have:goT t (k2::l)=(match yJ t k2 with | none=>[t] | some u'=>t::goT u' l):=rfl
       rw[this];cases yJ t k2<;>rfl
     have:=zMc (st:=goT t ks.dropLast) (ks:=ks) (ks.length - 1) (yH .tak s k n) (fun i hi=>by
      obtain⟨k',u,v,h1,h2,h3,h4⟩:=jQ ks.dropLast t i (by lia);have hki:ks.getD i (.inl 0)=k':=by
       have:ks[i]? =some k':=by
        rw[tK,mK hi] at h1;exact h1
       rw[nI,this];rfl
      rw[gd i u h2,gd (i+1) v h3,hki];exact⟨h4,zSa _ _ _ ht (mP h2)⟩) (by rw[gd _ s hsi];exact zXh (zSa _ _ _ ht (rY hg)))
     rw[st0] at this;exact this
    ·rw[mG hc] at h;cases h
theorem zVs{t n r:T}{ks:List Key}(ht:T.gy t)(hd:T.dep t≤8)(hz:T.sz t≤200)(h:chG .tak (fun s k=>yH .tak s k n) t ks n= .inr r):T.isT r=true:=by
 obtain⟨a,b,c⟩:=zUn ht h;exact yBc a (by lia) (by lia)
seal L2.PSs L2.PS L2.PE L2.PT L2.PW L2.PA L2.PI L2.PG L2.PGs L2.PPs L2.PTs
abbrev sFi:Stmt:=top 80
def nmJ(j:Nat):List Nat:=(j % 26+97)::List.replicate (j / 26) 120
theorem zUm{i j:Nat}(h:nmJ i=nmJ j):i=j:=by
 unfold nmJ at h;injection h with h1 h2;have h3:=congrArg List.length h2;rw[nQ,nQ] at h3
 lia
theorem zGb(n:Nat):((List.range n).map nmJ).Nodup:=by
 unfold List.Nodup;rw[List.pairwise_map];exact List.Pairwise.imp (fun h z=>h (zUm z)) bJ
theorem zYe:∀j:Nat,j<30→yU (nmJ j)=true:=by decide+kernel
theorem rp1{α:Type}(x:α)(n:Nat):(List.replicate n [x]).flatten=List.replicate n x:=by
 induction n with
 | zero=>rfl
 | succ n ih=>rw[nS,rO,ih,nS];rfl
theorem uF:∀n:Nat,T.gys (List.replicate n T.non)
 | 0=>mH
 | n+1=>⟨mH,uF n⟩
theorem zIu{H:Hp}{x:V}{n:Int}{Q:VK}(h0:0≤n)(h1:n≤1000)(q:∀p' HX,Same H HX→HX p'=some (.lst (List.replicate n.toNat x))→Q (.ref p') HX):∀p,H p=none→rRep (.ref p) (.int n) (upd H p (.lst [x])) Q:=fun p hp=>⟨p,n,[x],rfl,rfl,zB,by lia,by lia,by rw[nL,mR];lia,fun p' hp'=>by
 rw[rp1];exact q p' _ ((zC hp _).trans (zC hp' _)) zB⟩
theorem yAq:Str.ofString "abcdefghijklmnopqrstuvwxyz" =tx letL:=by decide+kernel
theorem yAf{j:Nat}(h:j<26):letL[j]? =some (j+97):=by
 unfold letL;rw[nD,List.getElem?_range h];rfl
theorem x_ts:ts (Str.ofString "x")= [120]:=by decide+kernel
section
variable{P:Program}{w:World}{K:W.Frag}{mg:Str→Option Value}{base:Heap}{f:Addr}{fd:FuncData}
theorem scFi:zV ["_law_script","_law_thing","_law_more","_law_names"] ["_law_script","_law_thing"] (zH sFi):=by walk_at "sc"
def yBp(K:W.Frag):Sp:=fun vs H Q _=>∃(a:Addr)(ns:List Int)(v:V)(t:T),vs= [.ref a,v]∧SqL K H a (ns.map V.int)∧ns.length≤63∧Rep H v t∧T.gy t∧T.dep t≤8∧T.sz t≤200∧∀v' H' t',Same H H'→Rep H' v' t'→T.gy t'→T.dep t'≤8→T.sz t'≤200→Q v' H'
theorem ok_fi(F:Fun K "_law_filled" "_law_filled" sFi f fd)(B:Bl mg)(G_law_cell:Dn P w K mg base 1 "_law_cell" ["_law_script","_law_k"] (vY K)):FnOk P w K mg base CX0 2 f fd ["_law_script","_law_thing"] (yBp K):=by
 refine F.ok scFi (by walk_at "ln") fun c A o s H vs Q E hr h=>?_;obtain⟨a,ns,v,t,rfl,hS,h63,hv,hf,hd,hz,q⟩:=h;have nd:=scFi.nd;have hu:=vK hr;refine⟨_,(zE (pS 2 nd (zU G_law_cell hr (by lia) rfl (zA (pv 0) (zA zF zD))))
  (zE (zS (zW xC (zJ zX (pv 2) zF) zF (zR _)) (zG (zK (yG (zA (zJ zBp (yG (zA qV zD)) (zJ yK zF (zJ zX (zJ zZ (pv 2) zF) zF))) (zA (zJ zX (pv 2) zF) zD))))) zL)
  (zE (zS (zW xC (zJ zX (pv 2) zF) zF (zR _)) (zE (zBd (i:=3) nd rfl (cM rfl) zY)
  (zG (zK (yN (jH rfl) rfl B.dict yX (zA (xE (own:=["_law_j"]) (F:=[("_law_names",3)]) ⟨rfl,by walk_at "wu",by walk_at "wu",by walk_at "wu",(.cons rfl rfl rfl .nil)⟩ rfl (xR rfl B.range (zA (zJ yK zF (zJ zX (zJ zZ (pv 2) zF) zF)) zD)) (fun _ _ _ _=>yB (i:=0) (by show(xS ["_law_j"] [("_law_names",3)]).Nodup;decide+kernel) rfl (nR rfl)) (fun _ _ _ _=>yW) (fun _ _ _ _=>(xJ (zA (zJ vC (yR gJ (pv 1) (zJ zX (pv 0) zF) (fun _ _=>rfl)) (zJ qZ zY (zJ zZ (pv 0) zF))) (zA (pv 0) zD))))) zD))))) zL)
  (zE (zS (zW xC (zJ zX (pv 2) zF) zF (zR _)) (zG (zK (yG (zA (zJ zBp (yG (zA qV zD)) zF) (zA (zJ zBp (yG (zA qV zD)) zF) (zA (zJ zBp (yG (zA qV zD)) (zJ yK zF (zJ zX (zJ zZ (pv 2) zF) zF))) (zA (zJ zBp (yG (zA qV zD)) (zJ yK zF (zJ zX (zJ zZ (pv 2) zF) zF))) zD))))))) zL)
  (zG (zK (pv 1))))))), ?_⟩
 walk_at "st";walk_at "rd3";refine xT hS h63 (by lia) (by lia) fun H1 g1=>?_;have c0:=vN ns 90;generalize yQ ns 90=m at c0⊢;have hv1:=Rep.same g1 _ _ hv;walk_at "rd3"
 by_cases m1:m % 6=1
 ·refine iP m1 (zIu (by lia) (by lia) fun pA HA gA eA pB hpB=>?_)
  have hck:(58+m / 6 % 3).toNat≤60:=by lia
  generalize (58+m / 6 % 3).toNat=ck at hck eA;have sB:=zC hpB (.lst [.ref pA, .int (m % 9)]);have e1:=kB ck;have e2:=uH ck;refine q (.ref pB) _ (.lst [.lst (List.replicate ck .non), .int (m % 9)]) (g1.trans (gA.trans sB)) ⟨pB,_,rfl,zB,_,_,rfl,⟨pA,_,rfl,sB _ _ eA,qW ck⟩,_,_,rfl,rfl,rfl⟩ ⟨(show 2≤60 by decide),⟨by rw[nQ];exact hck,uF ck⟩,(show -(10 ^ 12)≤m % 9∧m % 9≤10 ^ 12 by lia),mH⟩ ?_ ?_
  ·show max (T.deps (List.replicate ck .non)+1) (max 0 0)+1≤8
   lia
  ·show(T.szs (List.replicate ck .non)+1)+(1+0)+1≤200
   lia
 refine iN m1 ?_
 by_cases m2:m % 6=2
 ·refine iP m2 ⟨by lia,by lia, ?_⟩
  rw[yAq];have hcn:(28+m / 6 % 3).toNat≤30:=by lia
  generalize (28+m / 6 % 3).toNat=cn at hcn⊢;let pr:Nat→Key×V:=fun j=>(nK (nmJ j), .int j);refine wS (fun i ys H'=>Same H1 H'∧ys.length=i∧∀(j:Nat) kv,((List.range i).map pr)[j]? =some kv→∃a,ys[j]? =some (.ref a)∧H' a=some (.tup [kV kv.1,kv.2])) (by rw[mR];lia) ⟨Same.refl _,rfl,by intro j kv h;simp at h⟩ ?_ ?_
  ·rintro i ys H' hi _ ⟨g,hl,hys⟩
   walk_at "rd3";refine uV (c:=i % 26+97) (by rw[wN,mR];decide+kernel) ?_ ?_
   ·rw[vE,show(0+(i:Int))% 26=((i % 26:Nat):Int) by lia]
    exact xI (j:=i % 26) (yAf (Nat.mod_lt _ (by decide)))
   have e26:((0+(i:Int))/ 26).toNat=i / 26:=by lia
   have en:tx [i % 26+97]++tx (List.replicate ((0+(i:Int))/ 26).toNat (ts (Str.ofString "x"))).flatten=tx (nmJ i):=by
    rw[e26,x_ts,rp1,uX];rfl
   refine⟨by decide+kernel,by lia,by lia,_,rfl, ?_,fun p2 hp2=>?_⟩
   ·rw[e26,x_ts,rp1,wN,wN,nQ,nL];lia
   rw[en,bW];refine⟨g.trans (zC hp2 _),by rw[mL,hl];rfl,fun j kv hj=>?_⟩;rw[List.range_succ,mX] at hj
   by_cases hlt:j<i
   ·rw[nV (by rw[mI,rD];exact hlt)] at hj
    obtain⟨b,e1,e2⟩:=hys j kv hj;exact⟨b,by rw[nV (by lia)];exact e1,zC hp2 _ _ _ e2⟩
   ·rw[nU (by rw[mI,rD];lia),mI,rD] at hj
    have hj0:j - i=0:=by
     have:=(mQ.mp hj).1
     simpa using this
    rw[hj0] at hj;have e:pr i=kv:=mW hj;subst e;exact⟨p2,by rw[nU (by lia),hl,hj0];rfl,zB⟩
  ·rintro ys H' _ ⟨g,hl,hys⟩ p hp
   have s1:=zC hp (.lst ys);refine⟨p,rfl,ys,zB,(List.range cn).map pr,by rw[mI,rD,hl],fun j kv hj=>?_,fun l hl'=>?_⟩
   ·obtain⟨b,e1,e2⟩:=hys j kv hj
    exact⟨b,e1,s1 _ _ e2⟩
   have G:=g1.trans (g.trans (s1.trans (zC hl' (.dK ((List.range cn).map pr)))));have ek:((List.range cn).map pr).map (·.1)=((List.range cn).map nmJ).map nK:=by rw[rL,rL];rfl
   have em:wZ [] ((List.range cn).map pr)=(List.range cn).map pr:=vL _ [] (by rw[tS,ek];exact wL (zGb cn));rw[em];have er:((List.range cn).map pr).map (·.2)=((List.range cn).map fun(j:Nat)=>(j:Int)).map V.int:=by rw[rL,rL];rfl
   have e1:=zBk ((List.range cn).map fun(j:Nat)=>(j:Int));have e2:=zDo ((List.range cn).map fun(j:Nat)=>(j:Int));rw[mI,rD] at e2;refine q (.ref l) _ (.dic ((List.range cn).map nmJ) (((List.range cn).map fun(j:Nat)=>(j:Int)).map T.int)) G ⟨l,_,rfl,zB,ek, ?_⟩ ⟨zGb cn,by rw[mI,rD];lia,by rw[mI,mI,mI],fun k hk=>?_,zBh _ fun i hi=>?_⟩ ?_ ?_
   ·rw[er];exact zBe _
   ·obtain⟨j,hj,rfl⟩:=nP.mp hk
    exact zYe j (by have:=rN.mp hj;lia)
   ·obtain⟨j,hj,rfl⟩:=nP.mp hi
    have:=rN.mp hj
    lia
   ·show T.deps _+1≤8
    lia
   ·show T.szs _+1≤200
    lia
 refine iN m2 ?_
 by_cases m3:m % 6=3
 ·refine iP m3 ?_
  refine zIu (by decide) (by decide) fun pA HA gA eA=>zIu (by decide) (by decide) fun pB HB gB eB=>zIu (by lia) (by lia) fun pC HC gC eC=>zIu (by lia) (by lia) fun pD HD gD eD pG hpG=>?_;have hck:(59+m / 6 % 2).toNat≤60:=by lia
  have hcj:(12+m / 6 % 6).toNat≤17:=by lia
  generalize (59+m / 6 % 2).toNat=ck at hck eC;generalize (12+m / 6 % 6).toNat=cj at hcj eD;have sG:=zC hpG (.lst [.ref pA, .ref pB, .ref pC, .ref pD]);have eG:=zB (H:=HD) (a:=pG) (o:=.lst [.ref pA, .ref pB, .ref pC, .ref pD]);generalize upd HD pG (.lst [.ref pA, .ref pB, .ref pC, .ref pD])=HG at sG eG⊢;have gCG:=gD.trans sG;have gBG:=gC.trans gCG;have gAG:=gB.trans gBG;have d1:=kB 59;have d2:=kB ck;have d3:=kB cj;have z1:=uH 59;have z2:=uH ck;have z3:=uH cj;refine q (.ref pG) HG (.lst [.lst (List.replicate 59 .non), .lst (List.replicate 59 .non), .lst (List.replicate ck .non), .lst (List.replicate cj .non)]) (g1.trans (gA.trans gAG)) ⟨pG,_,rfl,eG,_,_,rfl,⟨pA,_,rfl,gAG _ _ eA,qW 59⟩,_,_,rfl,⟨pB,_,rfl,gBG _ _ eB,qW 59⟩,_,_,rfl,⟨pC,_,rfl,gCG _ _ eC,qW ck⟩,_,_,rfl,⟨pD,_,rfl,sG _ _ eD,qW cj⟩,rfl⟩ ?_ ?_ ?_
  ·exact⟨(show 4≤60 by decide),⟨by rw[nQ];decide,uF 59⟩,⟨by rw[nQ];decide,uF 59⟩,⟨by rw[nQ];lia,uF ck⟩,⟨by rw[nQ];lia,uF cj⟩,mH⟩
  ·show max (T.deps (List.replicate 59 .non)+1) (max (T.deps (List.replicate 59 .non)+1) (max (T.deps (List.replicate ck .non)+1) (max (T.deps (List.replicate cj .non)+1) 0)))+1≤8
   lia
  ·show(T.szs (List.replicate 59 .non)+1)+((T.szs (List.replicate 59 .non)+1)+((T.szs (List.replicate ck .non)+1)+((T.szs (List.replicate cj .non)+1)+0)))+1≤200
   lia
 exact iN m3 (q v H1 t g1 hv1 hf hd hz)
end
def kT:Key→T
 | .inl i=>.int i
 | .inr s=>.str (ts s)
theorem zYl{H:Hp}:∀k:Key,Rep H (kV k) (kT k)
 | .inl i=>rfl
 | .inr s=>by
  show V.str s=V.str (tx (ts s));rw[qC]
theorem zHb{H:Hp}:∀ks:List Key,Reps H (ks.map kV) (ks.map kT)
 | []=>rfl
 | k::ks=>⟨kV k,_,rfl,zYl k,zHb ks⟩
theorem zSf:∀k:Key,T.okq (kT k)∧T.dep (kT k)=0
 | .inl _=>⟨mH,rfl⟩
 | .inr _=>⟨mH,rfl⟩
theorem zVa{ks:List Key}(h:ks.length≤8):T.okq (.lst (ks.map kT))∧T.dep (.lst (ks.map kT))≤1:=by
 refine⟨⟨by rw[mI];lia,T.okqs_of fun t ht=>?_⟩, ?_⟩
 ·obtain⟨k,_,rfl⟩:=nP.mp ht
  exact(zSf k).1
 ·have:T.deps (ks.map kT)≤0:=T.deps_of fun t ht=>by
   obtain⟨k,_,rfl⟩:=nP.mp ht;rw[(zSf k).2];exact mE _
  show T.deps (ks.map kT)+1≤1
  lia
def plT:T:=.str (ts (Str.ofString "place"))
theorem zMm{H:Hp}:Rep H (.str (Str.ofString "place")) plT:=by
 show V.str _=V.str (tx (ts _));rw[qC]
def zCb:Sum Nat T→T
 | .inl j=>.tup [plT, .int (j:Int)]
 | .inr r=>r
theorem zVe{H:Hp}{p:Addr}{j:Nat}(h:H p=some (plc j)):Rep H (.ref p) (zCb (.inl j)):=⟨p,_,rfl,h,_,_,rfl,zMm,_,_,rfl,rfl,rfl⟩
theorem yAr{H:Hp}{p:Addr}{j:Nat}(h:H p=some (plc j)):Sp1 H (.ref p) (zCb (.inl j)) [p]:=⟨p,_,[],rfl,h,rfl,(fun z=>nomatch z),_,_,[],[],rfl,rfl,⟨rfl,zMm (H:=H)⟩,⟨_,_,[],[],rfl,rfl,⟨rfl,rfl⟩,⟨rfl,rfl⟩,fun _ z=>nomatch z⟩,fun _ z=>nomatch z⟩
theorem zYp(j:Nat):T.okq (zCb (.inl j))∧T.fewq (zCb (.inl j))∧T.dep (zCb (.inl j))≤16:=⟨⟨(show 2≤200000 by decide),mH,mH,mH⟩,⟨(show 2≤100000 by decide),mH,mH,mH⟩,(show max 0 (max 0 0)+1≤16 by decide)⟩
theorem zUs:∀{k:Key},okG k→okN k
 | .inl _,_=>mH
 | .inr _,h=>h
def grT:T:=.tup [.str (ts (Str.ofString "great"))]
theorem zUz{H:Hp}{p:Addr}(h:H p=some grt):Rep H (.ref p) grT:=⟨p,_,rfl,h,_,_,rfl,(by show V.str _=V.str (tx (ts _));rw[qC]),rfl⟩
theorem zZr{H:Hp}{p:Addr}(h:H p=some grt):Sp1 H (.ref p) grT [p]:=⟨p,_,[],rfl,h,rfl,(fun z=>nomatch z),_,_,[],[],rfl,rfl,⟨rfl,(show Rep H (.str (Str.ofString "great")) (.str (ts (Str.ofString "great"))) by show V.str _=V.str (tx (ts _));rw[qC])⟩,⟨rfl,rfl⟩,fun _ z=>nomatch z⟩
theorem zZm:T.okq grT∧T.fewq grT∧T.dep grT≤16:=⟨⟨(show 1≤200000 by decide),mH,mH⟩,⟨(show 1≤100000 by decide),mH,mH⟩,(show max 0 0+1≤16 by decide)⟩
def zCc:Sum Nat T→T
 | .inl j=>zCb (.inl j)
 | .inr r=>if T.isT r=true then r else grT
theorem uY{r:T}(h:T.isT r=true):zCc (.inr r)=r:=mK h
theorem uW{r:T}(h:T.isT r=false):zCc (.inr r)=grT:=mG (by rw[h];decide)
structure yAz(F L:Sum Nat T):Prop where
 sm:Sm 20 (zCc F) (zCc L)
 okq:T.okq (zCc F)
 fewq:T.fewq (zCc F)
 dep:T.dep (zCc F)≤16
 lw:∀r,L= .inr r→zM (tyT r) "tuple" =false∧T.okq r∧T.dep r<20
 fn:∀r,F= .inr r→T.gd r∧T.sz r≤1000∧vH r=T.isT r
theorem zUw{w:Wd}{t n:T}{ks:List Key}(ht:T.gy t)(hn:T.gy n)(hz:T.sz t≤200)(hzn:T.sz n≤200)(hd:T.dep t≤8)(hdn:T.dep n≤8)(h8:ks.length≤8)(hk:∀k∈ks,okG k):
  yAz (chG w (fun s k=>yH w s k n) t ks n) (chG w (fun s k=>wH w s k n) t ks n):=by
 rcases zPn (w:=w) (ks:=ks) (m0:=31) (by decide) ht.few hn.few (by lia) (by lia) hdn h8 with⟨j,h1,h2⟩|⟨r,r',h1,h2,h3,⟨a1,a2,a3⟩,b1,b2,b3⟩
 ·rw[h1,h2]
  obtain⟨t1,t2,t3⟩:=zYp j;exact⟨Sm.refl 20 _ t1 (by show T.dep (zCb (.inl j))<20;lia),t1,t2,t3,(fun r e=>nomatch e),fun r e=>nomatch e⟩
 ·have gr:T.gx r:=gx_ch (fun s k hs hk=>zLy hs hn.gx hk) ht.gx hn.gx (fun k h=>zUs (hk k h)) h1
  have hq:=qv_ch ht.gx h1 h2;rw[h1,h2];have f1:T.few r:=T.fewm_few (by decide) _ a1;have f2:T.few r':=T.fewm_few (by decide) _ b1;have lw:∀x,(Sum.inr r':Sum Nat T)= .inr x→zM (tyT x) "tuple" =false∧T.okq x∧T.dep x<20:=fun x e=>by
   cases e;refine⟨?_,T.few_okq _ f2,by lia⟩
   cases r' with
   | tup us=>exact b1.elim
   | _=>rfl
  have fn:∀x,(Sum.inr r:Sum Nat T)= .inr x→T.gd x∧T.sz x≤1000∧vH x=T.isT x:=fun x e=>by
   cases e;exact⟨zXr _ gr,by lia,(zNa gr).symm⟩
  cases hT:T.isT r with
  | true=>
   have hT':=hq.isT.symm.trans hT;refine⟨?_, ?_, ?_, ?_,lw,fn⟩
   ·rw[uY hT,uY hT'];exact h3
   ·rw[uY hT];exact T.few_okq _ f1
   ·rw[uY hT];exact T.few_fewq _ f1
   ·rw[uY hT];exact a2
  | false=>
   have hT':=hq.isT.symm.trans hT;obtain⟨t1,t2,t3⟩:=zZm;refine⟨?_, ?_, ?_, ?_,lw,fn⟩
   ·rw[uW hT,uW hT'];exact Sm.refl 20 _ t1 (by lia)
   ·rw[uW hT];exact t1
   ·rw[uW hT];exact t2
   ·rw[uW hT];exact t3
theorem to_i{H:Hp}{d:Nat→Addr}{wd:Wd}{v vn:V}{t n:T}{p2:Addr}{ks:List Key}{L:Sum Nat T}{Q:VK}{E:XK}(hw:wd≠ .put)(hT:Tq 31 H v t p2 ks)(hn:Rep H vn n)(hN:Nq 31 t n)(to:yAz (chG wd (fun s k=>yH wd s k n) t ks n) L)(tk:wd= .tak→∀r,chG wd (fun s k=>yH wd s k n) t ks n= .inr r→T.isT r=true)
  (q:∀v' H' D,Same H H'→Sp1 H' v' (zCc (chG wd (fun s k=>yH wd s k n) t ks n)) D→(∀b∈D,H b=none)→Q v' H'):zVp d [.str wd.s,v, .ref p2,vn] H Q E:=by
 refine⟨wd,v,t,p2,ks,vn,n,31,rfl,hw,hT,hn,hN,fun r hr=>?_,fun j hj p H' g hp0 hp=>q (.ref p) H' [p] g (by rw[hj];exact yAr hp) fun b hb=>by rw[mO.mp hb];exact hp0⟩;obtain⟨a,b,c⟩:=to.fn r hr;refine⟨a,b,fun h v' H' D g hv hD=>q v' H' D g ?_ hD,fun _ h p H' g hp0 hp=>q (.ref p) H' [p] g ?_ fun b hb=>by rw[mO.mp hb];exact hp0⟩
 ·rw[hr,uY (h.elim (fun e=>tk e r hr) (fun e=>c.symm.trans e))];exact hv
 ·rw[hr,uW (c.symm.trans h)];exact zZr hp
abbrev zGk:Stmt:=top 82
def FzS(K:W.Frag)(H:Hp)(a:Addr)(xs:List V):Prop:=(∃o,H a=some (.frz o (.lst xs)))∨∀H',SqL K H' a xs
theorem FzS.of{K:W.Frag}{H:Hp}{a:Addr}{xs:List V}(hO:zRz H)(h:SqL K H a xs):FzS K H a xs:=by
 rcases h with(h |⟨o,h⟩)| h
 ·rcases hO a with z |⟨o,ys,z⟩
  ·rw[z] at h;cases h
  ·rw[z] at h;cases h
 ·exact .inl ⟨o,h⟩
 ·exact .inr fun H'=>.inr h
theorem FzS.sq{K:W.Frag}{H:Hp}{a:Addr}{xs:List V}(h:FzS K H a xs):SqL K H a xs:=by
 rcases h with⟨o,h⟩| h
 ·exact .inl (.inr ⟨o,h⟩)
 ·exact h H
theorem FzS.same{K:W.Frag}{H H':Hp}{a:Addr}{xs:List V}(h:FzS K H a xs)(g:Same H H'):FzS K H' a xs:=by
 rcases h with⟨o,h⟩| h
 ·exact .inl ⟨o,g _ _ h⟩
 ·exact .inr h
section
variable{P:Program}{w:World}{K:W.Frag}{mg:Str→Option Value}{base:Heap}{f:Addr}{fd:FuncData}{d:Nat→Addr}
def zLv(K:W.Frag):Sp:=fun vs H Q _=>∃(a:Addr)(ns:List Int),vs= [.ref a]∧SqL K H a (ns.map V.int)∧ns.length≤63∧zRz H∧∀H',Q (.bl true) H'
theorem scLaw:zV ["_law_script","_law_thing","_law_path_here","_law_new","_law_kept","_law_word_here","_law_due","_law_found","_law_more","_law_again"] ["_law_script"] (zH zGk):=by walk_at "sc"
theorem zWv{H:Hp}{v u:V}{t t':T}{Q:VK}(h1:Rep H v t)(h2:Rep H u t')(h3:Sm 20 t t')(q:∀H',Same H H'→Q (.bl true) H'):jJ 20 [v,u] H Q E0:=⟨v,u,t,t',rfl,h1,h2,h3,q⟩
theorem yBs(F:Fun K "law" "law" zGk f fd)(B:Bl mg)(G_law_cell:Dn P w K mg base 1 "_law_cell" ["_law_script","_law_k"] (vY K))(G_law_any:Dn P w K mg base 8 "_law_any" ["_law_script","_law_k"] (zEi K))(G_law_filled:Dn P w K mg base 2 "_law_filled" ["_law_script","_law_thing"] (yBp K))(G_law_path:Dn P w K mg base 3 "_law_path" ["_law_script","_law_k","_law_thing"] (yAx K))(G_law_thing_by:Dn P w K mg base (3+3) "_law_thing_by" ["_law_script","_law_k","_law_deep_here"] (vS K 3))(G_law_deep:Dn P w K mg base 7 "_law_deep" ["_law_script","_law_k"] (zHq K))
  (G_law_copy:Dn P w K mg base (1+20) "_law_copy" ["_law_thing"] (zEh 20)) (G_law_rebuilt:Dn P w K mg base 22 "_law_rebuilt" ["_law_thing","_law_word_here","_law_path_here","_law_new"] yBz) (G_law_is_thing:Dn P w K mg base 22 "_law_is_thing" ["_law_thing"] zZq) (G_law_told:Dn P w K mg base 24 "_law_told" ["_law_word_here","_law_thing","_law_path_here","_law_new"] (zVp d)) (G_law_own:Dn P w K mg base 23 "_law_own" ["_law_found"] zSs) (G_law_spoil:Dn P w K mg base 1 "_law_spoil" ["_law_thing"] zPt) (G_law_alike:Dn P w K mg base (2+20) "_law_alike" ["_law_found","_law_due"] (jJ 20)):
  FnOk P w K mg base CX0 25 f fd ["_law_script"] (zLv K):=by
 refine F.ok scLaw (by walk_at "ln") fun c A o s H vs Q E hr h=>?_;obtain⟨a,ns,rfl,hS,h63,hO,q⟩:=h;have nd:=scLaw.nd;have hF:=FzS.of hO hS;refine⟨_,(zE (pS 1 nd (zU G_law_filled hr (by lia) rfl (zA (pv 0) (zA (zU G_law_any hr (by lia) rfl (zA (pv 0) (zA zF zD))) zD))))
  (zE (pS 2 nd (zU G_law_path hr (by lia) rfl (zA (pv 0) (zA zF (zA (pv 1) zD)))))
  (zE (pS 3 nd (zU G_law_thing_by hr (by lia) rfl (zA (pv 0) (zA zF (zA zF zD)))))
  (zE (wP (zS (zW xC (zJ zX (zU G_law_cell hr (by lia) rfl (zA (pv 0) (zA zF zD))) zF) zF (zR _)) (zG (pS 3 nd (zU G_law_deep hr (by lia) rfl (zA (pv 0) (zA zF zD))))) zL))
  (zE (wP (zS (zW xC (zJ zX (zU G_law_cell hr (by lia) rfl (zA (pv 0) (zA zF zD))) zF) zF (zR _)) (zG (pS 3 nd (pv 1))) zL))
  (zE (pS 4 nd (yG (zA (zU G_law_copy hr (by lia) rfl (zA (pv 1) zD)) (zA (yN qI rfl B.list yS (zA (pv 2) zD)) (zA (zU G_law_copy hr (by lia) rfl (zA (pv 3) zD)) zD)))))
  (zE (vZ PassesOwn.never rfl (wJ (yR ix_list (yG (zA (yG (zA zY (zA zY zD))) (zA (yG (zA zY (zA zY zD))) zD))) (zJ zX (zU G_law_cell hr (by lia) rfl (zA (pv 0) (zA zF zD))) zF) (fun _ _=>rfl))) (yB (i:=5) nd rfl (nR rfl)) (zE (wP (pS 6 nd (zU G_law_rebuilt hr (by lia) rfl (zA (pv 1) (zA (pv 5) (zA (pv 2) (zA (pv 3) zD)))))))
  (zE (wP (zS (PW.pt (zBc (xX (yA (pI B.isinstance zI B.tuple wU (pv 6)))) (uK (xX (yA (zU G_law_is_thing hr (by lia) rfl (zA (pv 6) zD))))))) (zG (wP (pS 6 nd (xJ (zA zY zD))))) zL))
  (zE (wP (pS 7 nd (zU G_law_told hr (by lia) rfl (zA (pv 5) (zA (pv 1) (zA (pv 2) (zA (pv 3) zD)))))))
  (zE (zS (PW.pt (gZ (xX (yA (zU G_law_alike hr (by lia) rfl (zA (pv 7) (zA (pv 6) zD))))) (jN (xX (yA (zU G_law_alike hr (by lia) rfl (zA (yG (zA (pv 1) (zA (pv 2) (zA (pv 3) zD)))) (zA (pv 4) zD)))))))) (zG (zK vO)) zL)
  (zE (zS (PW.pt (gZ (xX (yA (zU G_law_own hr (by lia) rfl (zA (yG (zA (pv 7) zD)) zD)))) (jN (xX (yA (zU G_law_alike hr (by lia) rfl (zA (yG (zA (pv 1) (zA (pv 2) (zA (pv 3) zD)))) (zA (pv 4) zD)))))))) (zG (zK vO)) zL)
  (zE (pS 8 nd (yG (zA (zU G_law_copy hr (by lia) rfl (zA (pv 1) zD)) (zA (zU G_law_copy hr (by lia) rfl (zA (pv 3) zD)) zD))))
  (zE (wP (pS 9 nd (zU G_law_told hr (by lia) rfl (zA (pv 5) (zA (yR ix_list (pv 8) zF (fun _ _=>rfl)) (zA (pv 2) (zA (yR ix_list (pv 8) zF (fun _ _=>rfl)) zD)))))))
  (zE (vJ (zU G_law_spoil hr (by lia) rfl (zA (pv 8) zD)))
  (zG (zS (xX (yA (zU G_law_alike hr (by lia) rfl (zA (pv 9) (zA (pv 6) zD))))) (zG (zK vO)) zL)))))))))))
  (zG (zK vO))))))))), ?_⟩
 walk_at "st";unfold zQd;walk_at "rd3";refine⟨a,ns,0,rfl,hS,h63,by decide,by decide,fun v1 H1 t1 g1 hv1 hy1 hd1 hz1=>⟨a,ns,v1,t1,rfl,g1.seq hS,h63,hv1,hy1,hd1,hz1,fun v H2 t g2 hv hy hd hz=>?_⟩⟩;have g12:=g1.trans g2;have hfew:T.few t:=T.fewm_few (by decide) _ hy.few;refine⟨a,ns,30,v,t,rfl,g12.seq hS,h63,by decide,by decide,hv,zAk _ t (mE _) hfew,hfew,hy.gx,by lia,fun p2 ks HA gA hp2 hkG h8=>?_⟩;have hks:∀k∈ks,okK k:=fun k h=>(hkG k h).k;have gHA:=g12.trans gA;refine⟨2,by decide,a,ns,9,rfl,gHA.seq hS,h63,by decide,by decide,fun v5 HD gD hv5=>?_⟩;have hni:=gR ns 2 9;generalize thT ns 2 9=n5 at hni hv5;have hn5:T.gy n5∧T.dep n5≤8∧T.sz n5≤200:=⟨Nice.gy _ hni,by have:=Nice.dep _ hni;lia,by have:=Nice.sz _ hni;lia⟩;have gHD:=gHA.trans gD;have hFD:=hF.same gHD;refine⟨fun σ' H'=>∃vn n,σ'= [some (.ref a),some v,some (.ref p2),some vn,none,none,none,none,none,none]∧Same HD H'∧Rep H' vn n∧T.gy n∧T.dep n≤8∧T.sz n≤200, ?_, ?_⟩
 ·refine xT hFD.sq h63 (by lia) (by lia) fun HE gE=>⟨_,rfl, ?_⟩
  split
  ·exact⟨a,ns,70,rfl,(hFD.same gE).sq,h63,by lia,by lia,fun v' HF n' gF hv' hf' hd' hz'=>⟨v',n',rfl,gE.trans gF,hv',hf',hd',by lia⟩⟩
  ·exact⟨v5,n5,rfl,gE,Rep.same gE _ _ hv5,hn5⟩
 clear hn5 hv5 hni;rintro σ6 H6 ⟨vn6,n6,rfl,g6,hvn6,hn6⟩;walk_at "rd3";refine⟨fun σ' H'=>∃vn n,σ'= [some (.ref a),some v,some (.ref p2),some vn,none,none,none,none,none,none]∧Same HD H'∧Rep H' vn n∧T.gy n∧T.dep n≤8∧T.sz n≤200, ?_, ?_⟩
 ·refine xT (hFD.same g6).sq h63 (by lia) (by lia) fun HE gE=>⟨_,rfl, ?_⟩
  split
  ·exact⟨v,t,rfl,g6.trans gE,Rep.same (gA.trans (gD.trans (g6.trans gE))) _ _ hv,hy,hd,hz⟩
  ·exact⟨vn6,n6,rfl,g6.trans gE,Rep.same gE _ _ hvn6,hn6⟩
 clear hvn6 hn6 g6;rintro σ7 HN ⟨vn,n,rfl,gN,hvn,hyn,hdn,hzn⟩;have gAN:=gD.trans gN;have hvN:=Rep.same (gA.trans gAN) _ _ hv;have hpN:=gAN _ _ hp2;have okt:T.okq t:=T.few_okq _ hfew;have okn:T.okq n:=T.few_okq _ (T.fewm_few (by decide) _ hyn.few);have hTN:Tq 31 HN v t p2 ks:=⟨hvN,hy.few,by decide,by lia,hpN,hks,h8⟩;have hNq:Nq 31 t n:=⟨hyn.few,by lia,hdn,by lia⟩;walk_at "rd3";refine⟨v,t,rfl,hvN,okt,by lia,fun v6 HE D6 gE hv6 hD6=>⟨_, .inl (SqL.of (gE _ _ hpN)),fun l hl=>?_⟩⟩;have sl:=zC hl (.lst (ks.map kV));have el:=zB (H:=HE) (a:=l) (o:=.lst (ks.map kV));generalize upd HE l (.lst (ks.map kV))=HG at sl el⊢;have gNG:=gE.trans sl;refine⟨vn,n,rfl,Rep.same gNG _ _ hvn,okn,by lia,fun v6b HI D6b gI hv6b hD6b p6 hp6=>?_⟩;have s6:=zC hp6 (.lst [v6, .ref l,v6b]);have e6:=zB (H:=HI) (a:=p6) (o:=.lst [v6, .ref l,v6b]);generalize upd HI p6 (.lst [v6, .ref l,v6b])=HK at s6 e6⊢;have gNI:=gNG.trans gI;have gNK:=gNI.trans s6;have hkept:Rep HK (.ref p6) (.lst [t, .lst (ks.map kT),n]):=⟨p6,_,rfl,e6,v6,_,rfl,Rep.same (sl.trans (gI.trans s6)) _ _ (Sp1.rep _ _ _ hv6), .ref l,_,rfl,⟨l,_,rfl,s6 _ _ (gI _ _ el),zHb ks⟩,v6b,_,rfl,Rep.same s6 _ _ (Sp1.rep _ _ _ hv6b),rfl⟩;obtain⟨kq1,kq2⟩:=zVa h8;have okK3:T.okq (.lst [t, .lst (ks.map kT),n])∧T.dep (.lst [t, .lst (ks.map kT),n])<20:=by
  refine⟨⟨(show 3≤200000 by decide),okt,kq1,okn,mH⟩, ?_⟩;show max (T.dep t) (max (T.dep (.lst (ks.map kT))) (max (T.dep n) 0))+1<20
  lia
 have three:∀{H':Hp}{p:Addr},Same HK H'→H' p=some (.lst [v, .ref p2,vn])→Rep H' (.ref p) (.lst [t, .lst (ks.map kT),n]):=fun {H' p} g e=>⟨p,_,rfl,e,v,_,rfl,Rep.same (gNK.trans g) _ _ hvN, .ref p2,_,rfl,⟨p2,_,rfl,(gNK.trans g) _ _ hpN,zHb ks⟩,vn,_,rfl,Rep.same (gNK.trans g) _ _ hvn,rfl⟩;have hTK:=hTN.same gNK;have hvnK:=Rep.same gNK _ _ hvn;have hvK:=Rep.same gNK _ _ hvN;have hFK:=(hFD.same gN).same gNK;clear hvN hpN hTN hvn;intro q1 hq1 q2 hq2 q3 hq3;have t1:=zC hq1 (.lst [V.str Wd.ins.s,V.str Wd.tak.s]);have f1:=zB (H:=HK) (a:=q1) (o:=.lst [V.str Wd.ins.s,V.str Wd.tak.s]);rw[show Str.ofString "insert" =Wd.ins.s from rfl,show Str.ofString "take" =Wd.tak.s from rfl] at*;generalize upd HK q1 (.lst [V.str Wd.ins.s,V.str Wd.tak.s])=J1 at t1 f1 hq2 hq3⊢;have t2:=zC hq2 (.lst [V.str Wd.tak.s,V.str Wd.ins.s]);have f2:=zB (H:=J1) (a:=q2) (o:=.lst [V.str Wd.tak.s,V.str Wd.ins.s]);generalize upd J1 q2 (.lst [V.str Wd.tak.s,V.str Wd.ins.s])=J2 at t2 f2 hq3⊢;have t3:=zC hq3 (.lst [V.ref q1,V.ref q2]);have f3:=zB (H:=J2) (a:=q3) (o:=.lst [V.ref q1,V.ref q2]);generalize upd J2 q3 (.lst [V.ref q1,V.ref q2])=J3 at t3 f3⊢;have gK3:=t1.trans (t2.trans t3);refine xT (hFK.same gK3).sq h63 (by decide) (by decide) fun HC gC=>⟨_,rfl,zCu (gC _ _ f3) (by lia) (by simp only[nG,pF];lia) fun x hx=>?_⟩;obtain⟨pw,ws,rfl,hws,hwd⟩:∃(pw:Addr)(ws:List V),x= .ref pw∧HC pw=some (.lst ws)∧∀y∈ws,∃wd:Wd,wd≠ .put∧y= .str wd.s:=by
  simp only[mF,rC,bI] at hx;rcases hx with rfl | rfl
  ·refine⟨q1,_,rfl,gC _ _ (t3 _ _ (t2 _ _ f1)),fun y hy=>?_⟩
   simp only[mF,rC,bI] at hy;rcases hy with rfl | rfl
   ·exact⟨.ins,(fun z=>nomatch z),rfl⟩
   ·exact⟨.tak,(fun z=>nomatch z),rfl⟩
  ·refine⟨q2,_,rfl,gC _ _ (t3 _ _ f2),fun y hy=>?_⟩
   simp only[mF,rC,bI] at hy;rcases hy with rfl | rfl
   ·exact⟨.tak,(fun z=>nomatch z),rfl⟩
   ·exact⟨.ins,(fun z=>nomatch z),rfl⟩
 have gKC:=gK3.trans gC;clear t1 t2 t3 f1 f2 f3 gK3 gC hx hq1 hq2 hq3;refine⟨_,rfl,⟨_,SqL.of hws⟩, ?_⟩;refine vP (K:=K) (a:=pw) (xs:=ws) (fun i σ' H'=>∃o5 o6 o7 o8 o9,σ'= [some (.ref a),some v,some (.ref p2),some vn,some (.ref p6),o5,o6,o7,o8,o9]∧Same HC H') ⟨_,_,_,_,_,rfl,Same.refl _⟩ (fun i σ' H' _ ⟨_,_,_,_,_,_,g⟩=>SqL.of (g _ _ hws)) ?_ ?_
 ·rintro i y σ' H0 hyi ⟨o5,o6,o7,o8,o9,rfl,g0⟩
  obtain⟨wd,hw,rfl⟩:=hwd y (mP hyi);have gK0:=gKC.trans g0;walk_at "rd3";have told:yAz (chG wd (fun s k=>yH wd s k n) t ks n) (chG wd (fun s k=>wH wd s k n) t ks n):=zUw hy hyn hz hzn hd hdn h8 hkG;have tk:wd= .tak→∀r,chG wd (fun s k=>yH wd s k n) t ks n= .inr r→T.isT r=true:=fun e r hr=>by
   subst e;exact zVs hy hd hz hr
  refine⟨fun σ' H'=>∃vd,σ'= [some (.ref a),some v,some (.ref p2),some vn,some (.ref p6),some (.str wd.s),some vd,o7,o8,o9]∧Same H0 H'∧Rep H' vd (zCb (chG wd (fun s k=>wH wd s k n) t ks n)), ?_, ?_⟩
  ·refine⟨v,t,wd,p2,ks,vn,n,31,rfl,hTK.same gK0,Rep.same gK0 _ _ hvnK,hNq,fun r hr v' H' g' hv'=>⟨v',rfl,g', ?_⟩,fun j hj p H' g' hp0 hp'=>⟨.ref p,rfl,g', ?_⟩⟩
   ·rw[hr];exact Rep.same (zCq _ _) _ _ hv'
   ·rw[hj];exact zVe hp'
  rintro σ8 HT ⟨vd0,rfl,gT,hdue0⟩;walk_at "rd3";refine⟨fun σ' H'=>∃vd,σ'= [some (.ref a),some v,some (.ref p2),some vn,some (.ref p6),some (.str wd.s),some vd,o7,o8,o9]∧Same H0 H'∧Rep H' vd (zCc (chG wd (fun s k=>wH wd s k n) t ks n)), ?_, ?_⟩
  ·have hlw:=told.lw
   generalize chG wd (fun s k=>wH wd s k n) t ks n=L at hlw hdue0⊢;refine⟨_,hdue0.ty, ?_⟩
   cases L with
   | inl j=>exact iN (show¬zM "tuple" "tuple" =false by decide) ⟨vd0,rfl,gT,hdue0⟩
   | inr r=>
    obtain⟨h1,h2,h3⟩:=hlw r rfl;refine iP h1 ⟨vd0,r,rfl,hdue0,h2,h3,fun HS gS=>⟨_,rfl, ?_⟩⟩
    cases hT:T.isT r with
    | true=>exact iN (by decide) ⟨vd0,rfl,gT.trans gS,by rw[uY hT];exact Rep.same gS _ _ hdue0⟩
    | false=>
     refine iP rfl ⟨fun σ' H'=>∃p,σ'= [some (.ref a),some v,some (.ref p2),some vn,some (.ref p6),some (.str wd.s),some (.ref p),o7,o8,o9]∧Same HS H'∧H' p=some grt,fun p hp=>⟨p,rfl,zC hp _,zB⟩, ?_⟩;rintro σ' H' ⟨p,rfl,g,hp⟩;exact⟨.ref p,rfl,gT.trans (gS.trans g),by rw[uW hT];exact zUz hp⟩
  rintro σ9 HU ⟨vd,rfl,gU,hdueU⟩;have gKU:=gK0.trans gU;have hSm:=told.sm;generalize zCc (chG wd (fun s k=>wH wd s k n) t ks n)=dT at hSm hdueU;walk_at "rd3";refine⟨fun σ' H'=>∃vf D8,σ'= [some (.ref a),some v,some (.ref p2),some vn,some (.ref p6),some (.str wd.s),some vd,some vf,o8,o9]∧Same HU H'∧Sp1 H' vf (zCc (chG wd (fun s k=>yH wd s k n) t ks n)) D8∧∀b∈D8,HU b=none,to_i hw (hTK.same gKU) (Rep.same gKU _ _ hvnK) hNq told tk fun v' H' D g' hv' hD=>⟨v',D,rfl,g',hv',hD⟩, ?_⟩;rintro σ10 HX ⟨vf,D8,rfl,gX,hfnd,hD8⟩;have okF:=told.okq;have fqF:=told.fewq;have dpF:=told.dep;walk_at "rd3";refine zWv (Sp1.rep _ _ _ hfnd) (Rep.same gX _ _ hdueU) hSm fun HY gY=>⟨true,rfl,iN (by decide) fun pO hpO=>?_⟩;have sO:=zC hpO (.lst [v, .ref p2,vn]);have eO:=zB (H:=HY) (a:=pO) (o:=.lst [v, .ref p2,vn]);generalize upd HY pO (.lst [v, .ref p2,vn])=HZ at sO eO⊢;have gUZ:=(gX.trans gY).trans sO;refine zWv (three (gKU.trans gUZ) eO) (Rep.same (gKU.trans gUZ) _ _ hkept) (Sm.refl 20 _ okK3.1 okK3.2) fun HO' gO=>⟨true,rfl,iN (by decide) fun pW hpW=>?_⟩;have gUO:=gUZ.trans gO;have hfO:=hfnd.same (gY.trans (sO.trans gO));have sW:=zC hpW (.lst [vf]);have hpWD:pW∉D8:=fun z=>by
   obtain⟨o,ho⟩:=Sp1.there _ _ _ hfO z;rw[hpW] at ho;cases ho
  refine⟨.ref pW, .lst [_],pW::D8,rfl,⟨pW,[vf],D8,rfl,zB,rfl,hpWD,vf,[],D8,[],rfl,(pJ _).symm,hfO.same sW,⟨rfl,rfl⟩,fun _ _ z=>nomatch z⟩,⟨(show 1≤100000 by decide),fqF,mH⟩,⟨(show 1≤200000 by decide),okF,mH⟩,(show max (T.dep _) 0+1<20 by lia),fun H11 k11=>⟨true,rfl,iN (by decide) fun pR hpR=>?_⟩⟩;have fin:Same HU H11:=fun b o e=>k11 b o (fun z=>by
   rcases mF.mp z with z | z
   ·have:=gUO _ _ e
    rw[z,hpW] at this;cases this
   ·rw[hD8 b z] at e;cases e) (sW _ _ (gUO _ _ e))
  clear hfO sW hpWD;have sR:=zC hpR (.lst [v, .ref p2,vn]);have eR:=zB (H:=H11) (a:=pR) (o:=.lst [v, .ref p2,vn]);generalize upd H11 pR (.lst [v, .ref p2,vn])=HR at sR eR⊢;have gUR:=fin.trans sR;refine zWv (three (gKU.trans gUR) eR) (Rep.same (gKU.trans gUR) _ _ hkept) (Sm.refl 20 _ okK3.1 okK3.2) fun HP gP=>⟨true,rfl,iN (by decide) ?_⟩;have gUP:=gUR.trans gP;have gKP:=gKU.trans gUP;refine⟨v,t,rfl,Rep.same gKP _ _ hvK,okt,by lia,fun v8 HE8 D8a gE8 hv8 hD8a=>⟨vn,n,rfl,Rep.same (gKP.trans gE8) _ _ hvnK,okn,by lia,fun v9 HE9 D9a gE9 hv9 hD9a pM hpM=>?_⟩⟩;have sM:=zC hpM (.lst [v8,v9]);have eM:=zB (H:=HE9) (a:=pM) (o:=.lst [v8,v9]);generalize upd HE9 pM (.lst [v8,v9])=HM at sM eM⊢;have gPM:=gE8.trans (gE9.trans sM);have hnM:jE HP HM pM=some (.lst [v8,v9]):=by rw[qH (zT (gE8.trans gE9) hpM)];exact eM
  have hRM:Rep (jE HP HM) (.ref pM) (.lst [t,n]):=⟨pM,_,rfl,hnM,v8,_,rfl,Rep.same (uG (gE9.trans sM)) _ _ (hv8.new hD8a),v9,_,rfl,(hv9.same sM).new fun b hb=>zT gE8 (hD9a b hb),rfl⟩;have hv8M:=Rep.same (gE9.trans sM) _ _ (Sp1.rep _ _ _ hv8);have hv9M:=Rep.same sM _ _ (Sp1.rep _ _ _ hv9);have gKM:=gKP.trans gPM;refine⟨fun σ' H'=>∃va D9,σ'= [some (.ref a),some v,some (.ref p2),some vn,some (.ref p6),some (.str wd.s),some vd,some vf,some (.ref pM),some va]∧Same HM H'∧Sp1 H' va (zCc (chG wd (fun s k=>yH wd s k n) t ks n)) D9∧∀b∈D9,HM b=none,yP (SqL.of eM) (xI (j:=0) rfl) (yP (SqL.of eM) (xI (j:=1) rfl) (to_i hw ⟨hv8M,hTK.few,hTK.m,hTK.sz,gKM _ _ hTK.pa,hTK.ok,hTK.l8⟩ hv9M hNq told tk fun v' H' D g' hv' hD=>⟨v',D,rfl,g',hv',hD⟩)), ?_⟩;rintro σ11 HQ ⟨va,D9,rfl,gQ,hagn,hD9⟩;walk_at "rd3";have few2:T.few (.lst [t,n]):=⟨(show 2≤100000 by decide),hfew,T.fewm_few (by decide) _ hyn.few,mH⟩;have sz2:T.sz (.lst [t,n])≤2700:=by
   show T.sz t+(T.sz n+0)+1≤2700
   lia
  have cn2:=T.cn_sz (.lst [t,n]);refine⟨.ref pM, .lst [t,n],jE HP HM,0,rfl,hRM,Mx.of ((zCq _ _).trans gQ),few2,sz2,by lia,fun HV mV yV=>?_⟩;have out:Same HP HV:=fun b o e=>yV.keep b o (by
   cases hq:jE HP HM b with
   | none=>rfl
   | some o'=>rw[zJr hq] at e;cases e) ((gPM.trans gQ) _ _ e)
  have hfV:=Sp1.keep _ _ _ (H':=HV) (fun b hb o _ e=>yV.keep b o (by
   cases hq:jE HP HM b with
   | none=>rfl
   | some o'=>
    have:=zCq _ _ _ _ hq;rw[hD9 b hb] at this;cases this) e) hagn
  refine zWv (Sp1.rep _ _ _ hfV) (Rep.same (gUP.trans out) _ _ hdueU) hSm fun H' g'=>⟨true,rfl,iN (by decide) ?_⟩;exact⟨⟨_,rfl⟩,g0.trans (gU.trans (gUP.trans (out.trans g')))⟩
 ·rintro σ' H' ⟨o5,o6,o7,o8,o9,rfl,g⟩
  walk_at "rd3";exact q _
end
end K36
namespace K36
open PySem L2 PySem.W
section
variable{K:Frag}{dT:Addr}{kV doc pm cdv ct:Value}{an:Option Addr}
theorem biCa{o:Obj}{i0:Value}{n:Nat}(hd:K.lookup dT=some o)(hs:o.data= .seq #[i0] n):Binds K (fnOf "changed_at" "changed_at" (zQ sCa) (zP sCa) (zH sCa) (.ref dT) kV doc pm an cdv ct) ["thing","word","path","new"] []∧Binds K (fnOf "changed_at" "changed_at" (zQ sCa) (zP sCa) (zH sCa) (.ref dT) kV doc pm an cdv ct) ["thing","word","path","new"] [i0]:=by
 refine⟨fun s us hK hl=>?_,fun s us hK hl=>?_⟩
 ·rw[pJ] at hl⊢
  match us,(show us.length=4 from hl) with
  | [a,b,c,d],_=>exact binds_K hK rfl hd hs rfl rfl
 ·match us,(show us.length=3 by simpa using hl) with
  | [a,b,c],_=>exact binds_K hK rfl hd hs rfl rfl
theorem biCs{o:Obj}{i0:Value}{n:Nat}(hd:K.lookup dT=some o)(hs:o.data= .seq #[i0] n):Binds K (fnOf "change_shared" "change_shared" (zQ sCs) (zP sCs) (zH sCs) (.ref dT) kV doc pm an cdv ct) ["thing","word","path","new"] []:=by
 refine fun s us hK hl=>?_;rw[pJ] at hl⊢
 match us,(show us.length=4 from hl) with
 | [a,b,c,d],_=>exact binds_K hK rfl hd hs rfl rfl
end
end K36
namespace K36
open PySem L2 PySem.W
theorem all_mk{l:OpenLaw}{w:World}{K:Frag}{h:Heap}{mg:Str→Option Value}{fa f0 f1 f2 f3 f4 f5 f6 f7 f8 f9 f10 f11 f12 f13 f14 f15 f16 f17 f18 f19 f20 f21 f22 f23 f24 f25 f26 f27 f28 f29 f30 f31 f32 f33 f34 f35 f36 f37 f38 f39 f40 f41 f42 f43 f44 f45 f46 f47:Addr}(X:K.In h)(G:h.Ns mainGlobals mg)(hfa:mg "law" =some (.ref fa))
  {od0 an0:Option Addr} {sl0:Array (Option Value)} {oc0 kV0 dc0 pm0 cd0 ct0:Value}
  {od1 an1:Option Addr} {sl1:Array (Option Value)} {oc1 kV1 dc1 pm1 cd1 ct1:Value}
  {od2 an2:Option Addr} {sl2:Array (Option Value)} {oc2 kV2 dc2 pm2 cd2 ct2:Value}
  {od3 an3:Option Addr} {sl3:Array (Option Value)} {oc3 kV3 dc3 pm3 cd3 ct3:Value}
  {od4 an4:Option Addr} {sl4:Array (Option Value)} {oc4 kV4 dc4 pm4 cd4 ct4:Value}
  {od5 an5:Option Addr} {sl5:Array (Option Value)} {oc5 kV5 dc5 pm5 cd5 ct5:Value}
  {od6 an6:Option Addr} {sl6:Array (Option Value)} {oc6 kV6 dc6 pm6 cd6 ct6:Value}
  {od7 an7:Option Addr} {sl7:Array (Option Value)} {oc7 kV7 dc7 pm7 cd7 ct7:Value}
  {od8 an8:Option Addr} {sl8:Array (Option Value)} {oc8 kV8 dc8 pm8 cd8 ct8:Value}
  {od9 an9:Option Addr} {sl9:Array (Option Value)} {oc9 kV9 dc9 pm9 cd9 ct9:Value}
  {od10 an10:Option Addr} {sl10:Array (Option Value)} {oc10 kV10 dc10 pm10 cd10 ct10:Value}
  {od11 an11:Option Addr} {sl11:Array (Option Value)} {oc11 kV11 dc11 pm11 cd11 ct11:Value}
  {od12 an12:Option Addr} {sl12:Array (Option Value)} {oc12 kV12 dc12 pm12 cd12 ct12:Value}
  {od13 an13:Option Addr} {sl13:Array (Option Value)} {oc13 kV13 dc13 pm13 cd13 ct13:Value}
  {od14 an14:Option Addr} {sl14:Array (Option Value)} {oc14 kV14 dc14 pm14 cd14 ct14:Value}
  {od15 an15:Option Addr} {sl15:Array (Option Value)} {oc15 kV15 dc15 pm15 cd15 ct15:Value}
  {od16 an16:Option Addr} {sl16:Array (Option Value)} {oc16 kV16 dc16 pm16 cd16 ct16:Value}
  {od17 an17:Option Addr} {sl17:Array (Option Value)} {oc17 kV17 dc17 pm17 cd17 ct17:Value}
  {od18 an18:Option Addr} {sl18:Array (Option Value)} {oc18 kV18 dc18 pm18 cd18 ct18:Value}
  {od19 an19:Option Addr} {sl19:Array (Option Value)} {oc19 kV19 dc19 pm19 cd19 ct19:Value}
  {od20 an20:Option Addr} {sl20:Array (Option Value)} {oc20 kV20 dc20 pm20 cd20 ct20:Value}
  {od21 an21:Option Addr} {sl21:Array (Option Value)} {oc21 kV21 dc21 pm21 cd21 ct21:Value}
  {od22 an22:Option Addr} {sl22:Array (Option Value)} {oc22 kV22 dc22 pm22 cd22 ct22:Value}
  {od23 an23:Option Addr} {sl23:Array (Option Value)} {oc23 kV23 dc23 pm23 cd23 ct23:Value}
  {od24 an24:Option Addr} {sl24:Array (Option Value)} {oc24 kV24 dc24 pm24 cd24 ct24:Value}
  {od25 an25:Option Addr} {sl25:Array (Option Value)} {oc25 kV25 dc25 pm25 cd25 ct25:Value}
  {od26 an26:Option Addr} {sl26:Array (Option Value)} {oc26 kV26 dc26 pm26 cd26 ct26:Value}
  {od27 an27:Option Addr} {sl27:Array (Option Value)} {oc27 kV27 dc27 pm27 cd27 ct27:Value}
  {od28 an28:Option Addr} {sl28:Array (Option Value)} {oc28 kV28 dc28 pm28 cd28 ct28:Value}
  {od29 an29:Option Addr} {sl29:Array (Option Value)} {oc29 kV29 dc29 pm29 cd29 ct29:Value}
  {od30 an30:Option Addr} {sl30:Array (Option Value)} {oc30 kV30 dc30 pm30 cd30 ct30:Value}
  {od31 an31:Option Addr} {sl31:Array (Option Value)} {oc31 kV31 dc31 pm31 cd31 ct31:Value}
  {od32 an32:Option Addr} {sl32:Array (Option Value)} {oc32 kV32 dc32 pm32 cd32 ct32:Value}
  {od33 an33:Option Addr} {sl33:Array (Option Value)} {oc33 kV33 dc33 pm33 cd33 ct33:Value}
  {od34 an34:Option Addr} {sl34:Array (Option Value)} {oc34 kV34 dc34 pm34 cd34 ct34:Value}
  {od35 an35:Option Addr} {sl35:Array (Option Value)} {oc35 kV35 dc35 pm35 cd35 ct35:Value}
  {od36 an36:Option Addr} {sl36:Array (Option Value)} {oc36 kV36 dc36 pm36 cd36 ct36:Value}
  {od37 an37:Option Addr} {sl37:Array (Option Value)} {oc37 kV37 dc37 pm37 cd37 ct37:Value}
  {od38 an38:Option Addr} {sl38:Array (Option Value)} {oc38 kV38 dc38 pm38 cd38 ct38:Value}
  {od39 an39:Option Addr} {sl39:Array (Option Value)} {oc39 kV39 dc39 pm39 cd39 ct39:Value}
  {od40 an40:Option Addr} {sl40:Array (Option Value)} {oc40 kV40 dc40 pm40 cd40 ct40:Value}
  {od41 an41:Option Addr} {sl41:Array (Option Value)} {oc41 kV41 dc41 pm41 cd41 ct41:Value}
  {od42 an42:Option Addr} {sl42:Array (Option Value)} {oc42 kV42 dc42 pm42 cd42 ct42:Value}
  {od43 an43:Option Addr} {sl43:Array (Option Value)} {oc43 kV43 dc43 pm43 cd43 ct43:Value}
  {od44 an44:Option Addr} {sl44:Array (Option Value)} {oc44 kV44 dc44 pm44 cd44 ct44:Value}
  {od45 an45:Option Addr} {sl45:Array (Option Value)} {oc45 kV45 dc45 pm45 cd45 ct45:Value}
  {od46 an46:Option Addr} {sl46:Array (Option Value)} {oc46 kV46 dc46 pm46 cd46 ct46:Value}
  {od47 an47:Option Addr} {sl47:Array (Option Value)} {oc47 kV47 dc47 pm47 cd47 ct47:Value}
  {u0:Tok}
  {u1:Tok}
  {v0:Tok}
  {v1:Tok}
  {v2:Tok}
  {v3:Tok}
  {v4:Tok}
  {v5:Tok}
  {tN:Addr} {tq:Str} {tbs:List Value} {tsn:List Str} {tsub:List Value} {tab:Bool} {tcol:Option Bool} {tdd:Option Addr} {tk0 tk1 tk2 tk3 tk5:Option Value} {x0c x1c x2c x3c x4c x5c x6c x7c x8c x9c x10c x11c x12c x13c x14c x15c x16c x17c xB xN xF xD:Addr} {xq:Str} {xbs:List Value} {xsn:List Str} {xsub:List Value} {xab:Bool} {xcol:Option Bool} {xdd:Option Addr} {xk0 xk1 xk2 xk3 xk5:Option Value} {xod xan:Option Addr} {xsl:Array (Option Value)} {xoc xkV xdc xpm xcd xct:Value} {xdo:Option Addr} {xdc' xdv:Value} {xdn:Nat} {xds:Array (Option Value)} {gF gD:Addr} {goc gkV gdc gpm gcd gct gtc:Value} {god gan gto:Option Addr} {gsl gts:Array (Option Value)} {gtn:Nat} {hF hD:Addr} {hoc hkV hdc hpm hcd hct htc:Value} {hod han hto:Option Addr} {hsl hts:Array (Option Value)} {htn:Nat}
  (a0:nsIn K mainGlobals "kind_of" =some (some (.ref f0)))
  (l0:K.lookup f0=some ⟨oc0,od0, .func (fnOf "kind_of" "kind_of" (zQ kL) (zP kL) (zH kL) .none kV0 dc0 pm0 an0 cd0 ct0),sl0⟩)
  (c0:codeIn K cd0 "kind_of" =true)
  (k0:keepIn K (.ref f0)=true)
  (a1:nsIn K mainGlobals "is_name" =some (some (.ref f1)))
  (l1:K.lookup f1=some ⟨oc1,od1, .func (fnOf "is_name" "is_name" (zQ uB) (zP uB) (zH uB) .none kV1 dc1 pm1 an1 cd1 ct1),sl1⟩)
  (c1:codeIn K cd1 "is_name" =true)
  (k1:keepIn K (.ref f1)=true)
  (a2:nsIn K mainGlobals "is_text_sign" =some (some (.ref f2)))
  (l2:K.lookup f2=some ⟨oc2,od2, .func (fnOf "is_text_sign" "is_text_sign" (zQ zOq) (zP zOq) (zH zOq) .none kV2 dc2 pm2 an2 cd2 ct2),sl2⟩)
  (c2:codeIn K cd2 "is_text_sign" =true)
  (k2:keepIn K (.ref f2)=true)
  (a3:nsIn K mainGlobals "is_thing" =some (some (.ref f3)))
  (l3:K.lookup f3=some ⟨oc3,od3, .func (fnOf "is_thing" "is_thing" (zQ sTh) (zP sTh) (zH sTh) .none kV3 dc3 pm3 an3 cd3 ct3),sl3⟩)
  (c3:codeIn K cd3 "is_thing" =true)
  (k3:keepIn K (.ref f3)=true)
  (a4:nsIn K mainGlobals "is_sound_outside" =some (some (.ref f4)))
  (l4:K.lookup f4=some ⟨oc4,od4, .func (fnOf "is_sound_outside" "is_sound_outside" (zQ zNg) (zP zNg) (zH zNg) .none kV4 dc4 pm4 an4 cd4 ct4),sl4⟩)
  (c4:codeIn K cd4 "is_sound_outside" =true)
  (k4:keepIn K (.ref f4)=true)
  (a5:nsIn K mainGlobals "holds_parts" =some (some (.ref f5)))
  (l5:K.lookup f5=some ⟨oc5,od5, .func (fnOf "holds_parts" "holds_parts" (zQ sHp) (zP sHp) (zH sHp) .none kV5 dc5 pm5 an5 cd5 ct5),sl5⟩)
  (c5:codeIn K cd5 "holds_parts" =true)
  (k5:keepIn K (.ref f5)=true)
  (a6:nsIn K mainGlobals "parts_of" =some (some (.ref f6)))
  (l6:K.lookup f6=some ⟨oc6,od6, .func (fnOf "parts_of" "parts_of" (zQ sPo) (zP sPo) (zH sPo) .none kV6 dc6 pm6 an6 cd6 ct6),sl6⟩)
  (c6:codeIn K cd6 "parts_of" =true)
  (k6:keepIn K (.ref f6)=true)
  (a7:nsIn K mainGlobals "parts_of_all" =some (some (.ref f7)))
  (l7:K.lookup f7=some ⟨oc7,od7, .func (fnOf "parts_of_all" "parts_of_all" (zQ sPz) (zP sPz) (zH sPz) .none kV7 dc7 pm7 an7 cd7 ct7),sl7⟩)
  (c7:codeIn K cd7 "parts_of_all" =true)
  (k7:keepIn K (.ref f7)=true)
  (a8:nsIn K mainGlobals "copied" =some (some (.ref f8)))
  (l8:K.lookup f8=some ⟨oc8,od8, .func (fnOf "copied" "copied" (zQ sCp) (zP sCp) (zH sCp) .none kV8 dc8 pm8 an8 cd8 ct8),sl8⟩)
  (c8:codeIn K cd8 "copied" =true)
  (k8:keepIn K (.ref f8)=true)
  (a9:nsIn K mainGlobals "is_place" =some (some (.ref f9)))
  (l9:K.lookup f9=some ⟨oc9,od9, .func (fnOf "is_place" "is_place" (zQ zBb) (zP zBb) (zH zBb) .none kV9 dc9 pm9 an9 cd9 ct9),sl9⟩)
  (c9:codeIn K cd9 "is_place" =true)
  (k9:keepIn K (.ref f9)=true)
  (a10:nsIn K mainGlobals "leads_on" =some (some (.ref f10)))
  (l10:K.lookup f10=some ⟨oc10,od10, .func (fnOf "leads_on" "leads_on" (zQ sLo) (zP sLo) (zH sLo) .none kV10 dc10 pm10 an10 cd10 ct10),sl10⟩)
  (c10:codeIn K cd10 "leads_on" =true)
  (k10:keepIn K (.ref f10)=true)
  (a11:nsIn K mainGlobals "inserted" =some (some (.ref f11)))
  (l11:K.lookup f11=some ⟨oc11,od11, .func (fnOf "inserted" "inserted" (zQ zPb) (zP zPb) (zH zPb) .none kV11 dc11 pm11 an11 cd11 ct11),sl11⟩)
  (c11:codeIn K cd11 "inserted" =true)
  (k11:keepIn K (.ref f11)=true)
  (a12:nsIn K mainGlobals "taken" =some (some (.ref f12)))
  (l12:K.lookup f12=some ⟨oc12,od12, .func (fnOf "taken" "taken" (zQ zOl) (zP zOl) (zH zOl) .none kV12 dc12 pm12 an12 cd12 ct12),sl12⟩)
  (c12:codeIn K cd12 "taken" =true)
  (k12:keepIn K (.ref f12)=true)
  (a13:nsIn K mainGlobals "sound" =some (some (.ref f13)))
  (l13:K.lookup f13=some ⟨oc13,od13, .func (fnOf "sound" "sound" (zQ zNu) (zP zNu) (zH zNu) .none kV13 dc13 pm13 an13 cd13 ct13),sl13⟩)
  (c13:codeIn K cd13 "sound" =true)
  (k13:keepIn K (.ref f13)=true)
  (a14:nsIn K mainGlobals "whole_changed" =some (some (.ref f14)))
  (l14:K.lookup f14=some ⟨oc14,od14, .func (fnOf "whole_changed" "whole_changed" (zQ sWc) (zP sWc) (zH sWc) .none kV14 dc14 pm14 an14 cd14 ct14),sl14⟩)
  (c14:codeIn K cd14 "whole_changed" =true)
  (k14:keepIn K (.ref f14)=true)
  (a15:nsIn K mainGlobals "stops_to_last" =some (some (.ref f15)))
  (l15:K.lookup f15=some ⟨oc15,od15, .func (fnOf "stops_to_last" "stops_to_last" (zQ sSl) (zP sSl) (zH sSl) .none kV15 dc15 pm15 an15 cd15 ct15),sl15⟩)
  (c15:codeIn K cd15 "stops_to_last" =true)
  (k15:keepIn K (.ref f15)=true)
  (a16:nsIn K mainGlobals "leads_within" =some (some (.ref f16)))
  (l16:K.lookup f16=some ⟨oc16,od16, .func (fnOf "leads_within" "leads_within" (zQ sLw) (zP sLw) (zH sLw) .none kV16 dc16 pm16 an16 cd16 ct16),sl16⟩)
  (c16:codeIn K cd16 "leads_within" =true)
  (k16:keepIn K (.ref f16)=true)
  (a17:nsIn K mainGlobals "can_change" =some (some (.ref f17)))
  (l17:K.lookup f17=some ⟨oc17,od17, .func (fnOf "can_change" "can_change" (zQ sCc) (zP sCc) (zH sCc) .none kV17 dc17 pm17 an17 cd17 ct17),sl17⟩)
  (c17:codeIn K cd17 "can_change" =true)
  (k17:keepIn K (.ref f17)=true)
  (a18:nsIn K mainGlobals "part_changed" =some (some (.ref f18)))
  (l18:K.lookup f18=some ⟨oc18,od18, .func (fnOf "part_changed" "part_changed" (zQ zFz) (zP zFz) (zH zFz) .none kV18 dc18 pm18 an18 cd18 ct18),sl18⟩)
  (c18:codeIn K cd18 "part_changed" =true)
  (k18:keepIn K (.ref f18)=true)
  (a19:nsIn K mainGlobals "record_changed" =some (some (.ref f19)))
  (l19:K.lookup f19=some ⟨oc19,od19, .func (fnOf "record_changed" "record_changed" (zQ zOs) (zP zOs) (zH zOs) .none kV19 dc19 pm19 an19 cd19 ct19),sl19⟩)
  (c19:codeIn K cd19 "record_changed" =true)
  (k19:keepIn K (.ref f19)=true)
  (a20:nsIn K mainGlobals "row_changed" =some (some (.ref f20)))
  (l20:K.lookup f20=some ⟨oc20,od20, .func (fnOf "row_changed" "row_changed" (zQ zNj) (zP zNj) (zH zNj) .none kV20 dc20 pm20 an20 cd20 ct20),sl20⟩)
  (c20:codeIn K cd20 "row_changed" =true)
  (k20:keepIn K (.ref f20)=true)
  (a21:nsIn K mainGlobals "_law_cell" =some (some (.ref f21)))
  (l21:K.lookup f21=some ⟨oc21,od21, .func (fnOf "_law_cell" "_law_cell" (zQ zFn) (zP zFn) (zH zFn) .none kV21 dc21 pm21 an21 cd21 ct21),sl21⟩)
  (c21:codeIn K cd21 "_law_cell" =true)
  (k21:keepIn K (.ref f21)=true)
  (a22:nsIn K mainGlobals "_law_name_by" =some (some (.ref f22)))
  (l22:K.lookup f22=some ⟨oc22,od22, .func (fnOf "_law_name_by" "_law_name_by" (zQ zEv) (zP zEv) (zH zEv) .none kV22 dc22 pm22 an22 cd22 ct22),sl22⟩)
  (c22:codeIn K cd22 "_law_name_by" =true)
  (k22:keepIn K (.ref f22)=true)
  (a23:nsIn K mainGlobals "_law_signs" =some (some (.ref f23)))
  (l23:K.lookup f23=some ⟨oc23,od23, .func (fnOf "_law_signs" "_law_signs" (zQ zBv) (zP zBv) (zH zBv) .none kV23 dc23 pm23 an23 cd23 ct23),sl23⟩)
  (c23:codeIn K cd23 "_law_signs" =true)
  (k23:keepIn K (.ref f23)=true)
  (a24:nsIn K mainGlobals "_law_text_by" =some (some (.ref f24)))
  (l24:K.lookup f24=some ⟨oc24,od24, .func (fnOf "_law_text_by" "_law_text_by" (zQ zFh) (zP zFh) (zH zFh) .none kV24 dc24 pm24 an24 cd24 ct24),sl24⟩)
  (c24:codeIn K cd24 "_law_text_by" =true)
  (k24:keepIn K (.ref f24)=true)
  (a25:nsIn K mainGlobals "_law_number_by" =some (some (.ref f25)))
  (l25:K.lookup f25=some ⟨oc25,od25, .func (fnOf "_law_number_by" "_law_number_by" (zQ zOr) (zP zOr) (zH zOr) .none kV25 dc25 pm25 an25 cd25 ct25),sl25⟩)
  (c25:codeIn K cd25 "_law_number_by" =true)
  (k25:keepIn K (.ref f25)=true)
  (a26:nsIn K mainGlobals "_law_thing_by" =some (some (.ref f26)))
  (l26:K.lookup f26=some ⟨oc26,od26, .func (fnOf "_law_thing_by" "_law_thing_by" (zQ kX) (zP kX) (zH kX) .none kV26 dc26 pm26 an26 cd26 ct26),sl26⟩)
  (c26:codeIn K cd26 "_law_thing_by" =true)
  (k26:keepIn K (.ref f26)=true)
  (a27:nsIn K mainGlobals "_law_deep" =some (some (.ref f27)))
  (l27:K.lookup f27=some ⟨oc27,od27, .func (fnOf "_law_deep" "_law_deep" (zQ zEr) (zP zEr) (zH zEr) .none kV27 dc27 pm27 an27 cd27 ct27),sl27⟩)
  (c27:codeIn K cd27 "_law_deep" =true)
  (k27:keepIn K (.ref f27)=true)
  (a28:nsIn K mainGlobals "_law_wide" =some (some (.ref f28)))
  (l28:K.lookup f28=some ⟨oc28,od28, .func (fnOf "_law_wide" "_law_wide" (zQ zEq) (zP zEq) (zH zEq) .none kV28 dc28 pm28 an28 cd28 ct28),sl28⟩)
  (c28:codeIn K cd28 "_law_wide" =true)
  (k28:keepIn K (.ref f28)=true)
  (a29:nsIn K mainGlobals "_law_any" =some (some (.ref f29)))
  (l29:K.lookup f29=some ⟨oc29,od29, .func (fnOf "_law_any" "_law_any" (zQ zNx) (zP zNx) (zH zNx) .none kV29 dc29 pm29 an29 cd29 ct29),sl29⟩)
  (c29:codeIn K cd29 "_law_any" =true)
  (k29:keepIn K (.ref f29)=true)
  (a30:nsIn K mainGlobals "_law_steps" =some (some (.ref f30)))
  (l30:K.lookup f30=some ⟨oc30,od30, .func (fnOf "_law_steps" "_law_steps" (zQ sSs) (zP sSs) (zH sSs) .none kV30 dc30 pm30 an30 cd30 ct30),sl30⟩)
  (c30:codeIn K cd30 "_law_steps" =true)
  (k30:keepIn K (.ref f30)=true)
  (a31:nsIn K mainGlobals "_law_step_by" =some (some (.ref f31)))
  (l31:K.lookup f31=some ⟨oc31,od31, .func (fnOf "_law_step_by" "_law_step_by" (zQ sSb) (zP sSb) (zH sSb) .none kV31 dc31 pm31 an31 cd31 ct31),sl31⟩)
  (c31:codeIn K cd31 "_law_step_by" =true)
  (k31:keepIn K (.ref f31)=true)
  (a32:nsIn K mainGlobals "_law_path" =some (some (.ref f32)))
  (l32:K.lookup f32=some ⟨oc32,od32, .func (fnOf "_law_path" "_law_path" (zQ sPa) (zP sPa) (zH sPa) .none kV32 dc32 pm32 an32 cd32 ct32),sl32⟩)
  (c32:codeIn K cd32 "_law_path" =true)
  (k32:keepIn K (.ref f32)=true)
  (a33:nsIn K mainGlobals "_law_leads" =some (some (.ref f33)))
  (l33:K.lookup f33=some ⟨oc33,od33, .func (fnOf "_law_leads" "_law_leads" (zQ sLl) (zP sLl) (zH sLl) .none kV33 dc33 pm33 an33 cd33 ct33),sl33⟩)
  (c33:codeIn K cd33 "_law_leads" =true)
  (k33:keepIn K (.ref f33)=true)
  (a34:nsIn K mainGlobals "_law_gone" =some (some (.ref f34)))
  (l34:K.lookup f34=some ⟨oc34,od34, .func (fnOf "_law_gone" "_law_gone" (zQ sGn) (zP sGn) (zH sGn) .none kV34 dc34 pm34 an34 cd34 ct34),sl34⟩)
  (c34:codeIn K cd34 "_law_gone" =true)
  (k34:keepIn K (.ref f34)=true)
  (a35:nsIn K mainGlobals "_law_alike" =some (some (.ref f35)))
  (l35:K.lookup f35=some ⟨oc35,od35, .func (fnOf "_law_alike" "_law_alike" (zQ kW) (zP kW) (zH kW) .none kV35 dc35 pm35 an35 cd35 ct35),sl35⟩)
  (c35:codeIn K cd35 "_law_alike" =true)
  (k35:keepIn K (.ref f35)=true)
  (a36:nsIn K mainGlobals "_law_copy" =some (some (.ref f36)))
  (l36:K.lookup f36=some ⟨oc36,od36, .func (fnOf "_law_copy" "_law_copy" (zQ sCo) (zP sCo) (zH sCo) .none kV36 dc36 pm36 an36 cd36 ct36),sl36⟩)
  (c36:codeIn K cd36 "_law_copy" =true)
  (k36:keepIn K (.ref f36)=true)
  (a37:nsIn K mainGlobals "_law_spoil" =some (some (.ref f37)))
  (l37:K.lookup f37=some ⟨oc37,od37, .func (fnOf "_law_spoil" "_law_spoil" (zQ zOj) (zP zOj) (zH zOj) .none kV37 dc37 pm37 an37 cd37 ct37),sl37⟩)
  (c37:codeIn K cd37 "_law_spoil" =true)
  (k37:keepIn K (.ref f37)=true)
  (a38:nsIn K mainGlobals "_law_marked" =some (some (.ref f38)))
  (l38:K.lookup f38=some ⟨oc38,od38, .func (fnOf "_law_marked" "_law_marked" (zQ sMk) (zP sMk) (zH sMk) .none kV38 dc38 pm38 an38 cd38 ct38),sl38⟩)
  (c38:codeIn K cd38 "_law_marked" =true)
  (k38:keepIn K (.ref f38)=true)
  (a39:nsIn K mainGlobals "_law_own" =some (some (.ref f39)))
  (l39:K.lookup f39=some ⟨oc39,od39, .func (fnOf "_law_own" "_law_own" (zQ zNp) (zP zNp) (zH zNp) .none kV39 dc39 pm39 an39 cd39 ct39),sl39⟩)
  (c39:codeIn K cd39 "_law_own" =true)
  (k39:keepIn K (.ref f39)=true)
  (a40:nsIn K mainGlobals "_law_word" =some (some (.ref f40)))
  (l40:K.lookup f40=some ⟨oc40,od40, .func (fnOf "_law_word" "_law_word" (zQ zGc) (zP zGc) (zH zGc) .none kV40 dc40 pm40 an40 cd40 ct40),sl40⟩)
  (c40:codeIn K cd40 "_law_word" =true)
  (k40:keepIn K (.ref f40)=true)
  (a41:nsIn K mainGlobals "_law_rebuilt" =some (some (.ref f41)))
  (l41:K.lookup f41=some ⟨oc41,od41, .func (fnOf "_law_rebuilt" "_law_rebuilt" (zQ sRb) (zP sRb) (zH sRb) .none kV41 dc41 pm41 an41 cd41 ct41),sl41⟩)
  (c41:codeIn K cd41 "_law_rebuilt" =true)
  (k41:keepIn K (.ref f41)=true)
  (a42:nsIn K mainGlobals "_law_many" =some (some (.ref f42)))
  (l42:K.lookup f42=some ⟨oc42,od42, .func (fnOf "_law_many" "_law_many" (zQ sMn) (zP sMn) (zH sMn) .none kV42 dc42 pm42 an42 cd42 ct42),sl42⟩)
  (c42:codeIn K cd42 "_law_many" =true)
  (k42:keepIn K (.ref f42)=true)
  (a43:nsIn K mainGlobals "_law_within" =some (some (.ref f43)))
  (l43:K.lookup f43=some ⟨oc43,od43, .func (fnOf "_law_within" "_law_within" (zQ sWn) (zP sWn) (zH sWn) .none kV43 dc43 pm43 an43 cd43 ct43),sl43⟩)
  (c43:codeIn K cd43 "_law_within" =true)
  (k43:keepIn K (.ref f43)=true)
  (a44:nsIn K mainGlobals "_law_is_thing" =some (some (.ref f44)))
  (l44:K.lookup f44=some ⟨oc44,od44, .func (fnOf "_law_is_thing" "_law_is_thing" (zQ sLt) (zP sLt) (zH sLt) .none kV44 dc44 pm44 an44 cd44 ct44),sl44⟩)
  (c44:codeIn K cd44 "_law_is_thing" =true)
  (k44:keepIn K (.ref f44)=true)
  (a45:nsIn K mainGlobals "_law_filled" =some (some (.ref f45)))
  (l45:K.lookup f45=some ⟨oc45,od45, .func (fnOf "_law_filled" "_law_filled" (zQ sFi) (zP sFi) (zH sFi) .none kV45 dc45 pm45 an45 cd45 ct45),sl45⟩)
  (c45:codeIn K cd45 "_law_filled" =true)
  (k45:keepIn K (.ref f45)=true)
  (a46:nsIn K mainGlobals "_law_told" =some (some (.ref f46)))
  (l46:K.lookup f46=some ⟨oc46,od46, .func (fnOf "_law_told" "_law_told" (zQ sTo) (zP sTo) (zH sTo) .none kV46 dc46 pm46 an46 cd46 ct46),sl46⟩)
  (c46:codeIn K cd46 "_law_told" =true)
  (k46:keepIn K (.ref f46)=true)
  (a47:nsIn K mainGlobals "law" =some (some (.ref f47)))
  (l47:K.lookup f47=some ⟨oc47,od47, .func (fnOf "law" "law" (zQ zGk) (zP zGk) (zH zGk) .none kV47 dc47 pm47 an47 cd47 ct47),sl47⟩)
  (c47:codeIn K cd47 "law" =true)
  (k47:keepIn K (.ref f47)=true)
  (z0:nsIn K mainGlobals "len" =some none)
  (z1:nsIn K mainGlobals "range" =some none)
  (z2:nsIn K mainGlobals "isinstance" =some none)
  (z3:nsIn K mainGlobals "all" =some none)
  (z4:nsIn K mainGlobals "sum" =some none)
  (z5:nsIn K mainGlobals "int" =some none)
  (z6:nsIn K mainGlobals "str" =some none)
  (z7:nsIn K mainGlobals "bool" =some none)
  (z8:nsIn K mainGlobals "list" =some none)
  (z9:nsIn K mainGlobals "dict" =some none)
  (z10:nsIn K mainGlobals "tuple" =some none)
  (y0:nsIn K mainGlobals "max" =some none)
  (y1:nsIn K mainGlobals "min" =some none)
  (y2:nsIn K mainGlobals "sorted" =some none)
  (q0:nsIn K mainGlobals "abs" =some none)
  (q1:nsIn K mainGlobals "ord" =some none)
  (s0:nsIn K mainGlobals "LETTERS" =some (some (.str (Str.ofString "abcdefghijklmnopqrstuvwxyz") u0)))
  (s1:nsIn K mainGlobals "NAME_SIGNS" =some (some (.str (Str.ofString "abcdefghijklmnopqrstuvwxyz0123456789") u1)))
  (n0:nsIn K mainGlobals "MOST_IN_NAME" =some (some (.int 12 v0)))
  (n1:nsIn K mainGlobals "MOST_IN_TEXT" =some (some (.int 30 v1)))
  (n2:nsIn K mainGlobals "MOST_IN_ROW" =some (some (.int 60 v2)))
  (n3:nsIn K mainGlobals "MOST_IN_RECORD" =some (some (.int 30 v3)))
  (n4:nsIn K mainGlobals "MOST_DEPTH" =some (some (.int 8 v4)))
  (n5:nsIn K mainGlobals "MOST_SIZE" =some (some (.int 200 v5)))
  (xa0:nsIn K mainGlobals "BadPath" =some (some (.ref x0c)))
  (xa1:nsIn K mainGlobals "NoPlace" =some (some (.ref x1c)))
  (xa2:nsIn K mainGlobals "TooGreat" =some (some (.ref x2c)))
  (xa3:nsIn K mainGlobals "NoneFits" =some (some (.ref x3c)))
  (xa4:nsIn K mainGlobals "BadText" =some (some (.ref x4c)))
  (xa5:nsIn K mainGlobals "NoDeed" =some (some (.ref x5c)))
  (xa6:nsIn K mainGlobals "CantMove" =some (some (.ref x6c)))
  (xa7:nsIn K mainGlobals "NoBack" =some (some (.ref x7c)))
  (xa8:nsIn K mainGlobals "NoVersion" =some (some (.ref x8c)))
  (xa9:nsIn K mainGlobals "NoFit" =some (some (.ref x9c)))
  (xa10:nsIn K mainGlobals "Stuck" =some (some (.ref x10c)))
  (xa11:nsIn K mainGlobals "BadQuestion" =some (some (.ref x11c)))
  (xa12:nsIn K mainGlobals "NoKey" =some (some (.ref x12c)))
  (xa13:nsIn K mainGlobals "IsKept" =some (some (.ref x13c)))
  (xa14:nsIn K mainGlobals "NotKept" =some (some (.ref x14c)))
  (xa15:nsIn K mainGlobals "NoWayBack" =some (some (.ref x15c)))
  (xa16:nsIn K mainGlobals "NoStore" =some (some (.ref x16c)))
  (xa17:nsIn K mainGlobals "BadRow" =some (some (.ref x17c)))
  (xaB:nsIn K mainGlobals "CabinetError" =some (some (.ref xB)))
  (xb0:K.lookup x1c=some (excClassObj "NoPlace" xq x1c xN xbs (.ref xB::veMro) true xsn xsub xab xcol xdd xk0 xk1 xk2 xk3 xk5 "ValueError.__new__"))
  (xb1:tailIn K veMro (.ref xB::veMro)=true)
  (xb2:findIn K (.ref x1c) "__init__" =some (some (.ref xF)))
  (xb3:typeIn K (.ref xF)=some (.type "function"))
  (xb4:findIn K (.ref x1c) "__setattr__" =some (some (.builtin "object.__setattr__")))
  (xb5:findIn K (.ref x1c) "at" =some none)
  (xb6:keepIn K (.ref x1c)=true)
  (xc0:specialIn K (.ref xB) "__getattribute__" =some (some (.builtin "type.__getattribute__")))
  (xc1:readsIn K xB (.type "type")=true)
  (xc2:findCls K (.ref xB) (.type "type") "__init__" =some (.val (.builtin "ValueError.__init__")))
  (xd0:K.lookup xF=some ⟨xoc,xod, .func (fnOf "__init__" "NoPlace.__init__" (zQ vR) (zP vR) (zH vR) (.ref xD) xkV xdc xpm xan xcd xct),xsl⟩)
  (xd1:codeIn K xcd "NoPlace.__init__" =true)
  (xd2:K.lookup xD=some ⟨xdc',xdo, .seq #[xdv] xdn,xds⟩)
  (xe0:findIn K (.ref x1c) "__getattribute__" =some (some (.builtin "BaseException.__getattribute__")))
  (xe1:findIn K (.ref x1c) "__getattr__" =some none)
  (xe2:mroIn K x1c (.type "BaseException")=some true)
  (xe3:mroIn K x1c (.type "object")=some true)
  (xe4:hasDictIn K x1c=true)
  (xe5:findIn K (.ref x1c) "__class__" =some (some (.builtin "object.__class__")))
  (xe6:specialIn K (.builtin "object.__class__") "__get__" =some (some (.builtin "getset_descriptor.__get__")))
  (xe7:takesIn K (.builtin "object.__class__")=some true)
  (xf0:exmOne K (.ref x1c) (.ref xB)=some true)
  (xg0:kitOne K (.ref x1c) (.ref x0c)=some false)
  (xg1:kitOne K (.ref x1c) (.ref x1c)=some true)
  (xg2:kitOne K (.ref x1c) (.ref x2c)=some false)
  (xg3:kitOne K (.ref x1c) (.ref x3c)=some false)
  (xh0:kitAny K (.ref x1c) ([x4c,x5c,x6c,x7c,x8c,x9c,x10c,x11c,x12c].map Value.ref)=some false)
  (xh1:kitAny K (.ref x1c) ([x13c,x14c,x15c,x16c,x17c].map Value.ref)=some false)
  (ga:nsIn K mainGlobals "changed_at" =some (some (.ref gF)))
  (gs:K.lookup gF=some ⟨goc,god, .func (fnOf "changed_at" "changed_at" (zQ sCa) (zP sCa) (zH sCa) (.ref gD) gkV gdc gpm gan gcd gct),gsl⟩)
  (gt:codeIn K gcd "changed_at" =true)
  (gk:keepIn K (.ref gF)=true)
  (gu:K.lookup gD=some ⟨gtc,gto, .seq #[.none] gtn,gts⟩)
  (ha:nsIn K mainGlobals "change_shared" =some (some (.ref hF)))
  (hs:K.lookup hF=some ⟨hoc,hod, .func (fnOf "change_shared" "change_shared" (zQ sCs) (zP sCs) (zH sCs) (.ref hD) hkV hdc hpm han hcd hct),hsl⟩)
  (ht:codeIn K hcd "change_shared" =true)
  (hk:keepIn K (.ref hF)=true)
  (hu:K.lookup hD=some ⟨htc,hto, .seq #[.none] htn,hts⟩)
  (tb0:K.lookup x2c=some (excClassObj "TooGreat" tq x2c tN tbs (.ref xB::veMro) true tsn tsub tab tcol tdd tk0 tk1 tk2 tk3 tk5 "ValueError.__new__"))
  (tb2:nsOkIn K tN=true)
  (tb3:nsIn K tN "__init__" =some none)
  (tb6:keepIn K (.ref x2c)=true)
  (te0:findIn K (.ref x2c) "__getattribute__" =some (some (.builtin "BaseException.__getattribute__")))
  (te1:findIn K (.ref x2c) "__getattr__" =some none)
  (te2:mroIn K x2c (.type "BaseException")=some true)
  (te3:mroIn K x2c (.type "object")=some true)
  (te4:hasDictIn K x2c=true)
  (te5:findIn K (.ref x2c) "__class__" =some (some (.builtin "object.__class__")))
  (tf0:exmOne K (.ref x2c) (.ref xB)=some true)
  (tg0:kitOne K (.ref x2c) (.ref x0c)=some false)
  (tg1:kitOne K (.ref x2c) (.ref x1c)=some false)
  (tg2:kitOne K (.ref x2c) (.ref x2c)=some true)
  (tg3:kitOne K (.ref x2c) (.ref x3c)=some false)
  (th0:kitAny K (.ref x2c) ([x4c,x5c,x6c,x7c,x8c,x9c,x10c,x11c,x12c].map Value.ref)=some false)
  (th1:kitAny K (.ref x2c) ([x13c,x14c,x15c,x16c,x17c].map Value.ref)=some false):
  ∃fd:FuncData,(∀(s:Shared)(v:Value),BindsTo s fd ⟨[v],[]⟩ [("_law_script",v)])∧∀base:Heap,K.In base→base.Ns mainGlobals mg→FnOk l.prog w K mg base CX0 25 fa fd ["_law_script"] (zLv K):=by
 have e:=hfa.symm.trans (mg_of X G a47);cases e;have Fkind_of:=yD (st:=kL) l0 c0 k0;have bkind_of:=Fkind_of.binds (ps:=["thing"]) (by walk_at "b1");have mkind_of:=mg_of X G a0;have pkind_of:=k0;have Fis_name:=yD (st:=uB) l1 c1 k1;have bis_name:=Fis_name.binds (ps:=["thing"]) (by walk_at "b1");have mis_name:=mg_of X G a1;have pis_name:=k1;have Fis_text_sign:=yD (st:=zOq) l2 c2 k2;have bis_text_sign:=Fis_text_sign.binds (ps:=["sign"]) (by walk_at "b1");have mis_text_sign:=mg_of X G a2;have pis_text_sign:=k2;have Fis_thing:=yD (st:=sTh) l3 c3 k3;have bis_thing:=Fis_thing.binds (ps:=["thing"]) (by walk_at "b1");have mis_thing:=mg_of X G a3;have pis_thing:=k3;have Fis_sound_outside:=yD (st:=zNg) l4 c4 k4;have bis_sound_outside:=Fis_sound_outside.binds (ps:=["thing"]) (by walk_at "b1");have mis_sound_outside:=mg_of X G a4;have pis_sound_outside:=k4;have Fholds_parts:=yD (st:=sHp) l5 c5 k5;have bholds_parts:=Fholds_parts.binds (ps:=["thing"]) (by walk_at "b1");have mholds_parts:=mg_of X G a5;have pholds_parts:=k5;have Fparts_of:=yD (st:=sPo) l6 c6 k6;have bparts_of:=Fparts_of.binds (ps:=["thing"]) (by walk_at "b1");have mparts_of:=mg_of X G a6;have pparts_of:=k6;have Fparts_of_all:=yD (st:=sPz) l7 c7 k7;have bparts_of_all:=Fparts_of_all.binds (ps:=["holders"]) (by walk_at "b1");have mparts_of_all:=mg_of X G a7;have pparts_of_all:=k7;have Fcopied:=yD (st:=sCp) l8 c8 k8;have bcopied:=Fcopied.binds (ps:=["thing"]) (by walk_at "b1");have mcopied:=mg_of X G a8;have pcopied:=k8;have Fis_place:=yD (st:=zBb) l9 c9 k9;have bis_place:=Fis_place.binds (ps:=["thing"]) (by walk_at "b1");have mis_place:=mg_of X G a9;have pis_place:=k9;have Fleads_on:=yD (st:=sLo) l10 c10 k10;have bleads_on:=Fleads_on.binds (ps:=["thing","step"]) (by walk_at "b2");have mleads_on:=mg_of X G a10;have pleads_on:=k10;have Finserted:=yD (st:=zPb) l11 c11 k11;have binserted:=Finserted.binds (ps:=["thing","path","new"]) (by walk_at "b3");have minserted:=mg_of X G a11;have pinserted:=k11;have Ftaken:=yD (st:=zOl) l12 c12 k12;have btaken:=Ftaken.binds (ps:=["thing","path"]) (by walk_at "b2");have mtaken:=mg_of X G a12;have ptaken:=k12;have Fsound:=yD (st:=zNu) l13 c13 k13;have bsound:=Fsound.binds (ps:=["thing"]) (by walk_at "b1");have msound:=mg_of X G a13;have psound:=k13;have Fwhole_changed:=yD (st:=sWc) l14 c14 k14;have bwhole_changed:=Fwhole_changed.binds (ps:=["word","new"]) (by walk_at "b2");have mwhole_changed:=mg_of X G a14;have pwhole_changed:=k14;have Fstops_to_last:=yD (st:=sSl) l15 c15 k15;have bstops_to_last:=Fstops_to_last.binds (ps:=["thing","path"]) (by walk_at "b2");have mstops_to_last:=mg_of X G a15;have pstops_to_last:=k15;have Fleads_within:=yD (st:=sLw) l16 c16 k16;have bleads_within:=Fleads_within.binds (ps:=["thing","step"]) (by walk_at "b2");have mleads_within:=mg_of X G a16;have pleads_within:=k16;have Fcan_change:=yD (st:=sCc) l17 c17 k17;have bcan_change:=Fcan_change.binds (ps:=["holder","word","step"]) (by walk_at "b3");have mcan_change:=mg_of X G a17;have pcan_change:=k17;have Fpart_changed:=yD (st:=zFz) l18 c18 k18;have bpart_changed:=Fpart_changed.binds (ps:=["holder","word","step","new"]) (by walk_at "b4");have mpart_changed:=mg_of X G a18;have ppart_changed:=k18;have Frecord_changed:=yD (st:=zOs) l19 c19 k19;have brecord_changed:=Frecord_changed.binds (ps:=["record","word","name","new"]) (by walk_at "b4");have mrecord_changed:=mg_of X G a19;have precord_changed:=k19;have Frow_changed:=yD (st:=zNj) l20 c20 k20;have brow_changed:=Frow_changed.binds (ps:=["row","word","place","new"]) (by walk_at "b4");have mrow_changed:=mg_of X G a20;have prow_changed:=k20;have F_law_cell:=yD (st:=zFn) l21 c21 k21;have b_law_cell:=F_law_cell.binds (ps:=["_law_script","_law_k"]) (by walk_at "b2");have m_law_cell:=mg_of X G a21;have p_law_cell:=k21;have F_law_name_by:=yD (st:=zEv) l22 c22 k22;have b_law_name_by:=F_law_name_by.binds (ps:=["_law_more"]) (by walk_at "b1");have m_law_name_by:=mg_of X G a22;have p_law_name_by:=k22;have F_law_signs:=yD (st:=zBv) l23 c23 k23;have b_law_signs:=F_law_signs.binds (ps:=[]) fun _ _ _ _ _ _ us hl=>by cases bA hl;rfl
 have m_law_signs:=mg_of X G a23;have p_law_signs:=k23;have F_law_text_by:=yD (st:=zFh) l24 c24 k24;have b_law_text_by:=F_law_text_by.binds (ps:=["_law_more"]) (by walk_at "b1");have m_law_text_by:=mg_of X G a24;have p_law_text_by:=k24;have F_law_number_by:=yD (st:=zOr) l25 c25 k25;have b_law_number_by:=F_law_number_by.binds (ps:=["_law_more"]) (by walk_at "b1");have m_law_number_by:=mg_of X G a25;have p_law_number_by:=k25;have F_law_thing_by:=yD (st:=kX) l26 c26 k26;have b_law_thing_by:=F_law_thing_by.binds (ps:=["_law_script","_law_k","_law_deep_here"]) (by walk_at "b3");have m_law_thing_by:=mg_of X G a26;have p_law_thing_by:=k26;have F_law_deep:=yD (st:=zEr) l27 c27 k27;have b_law_deep:=F_law_deep.binds (ps:=["_law_script","_law_k"]) (by walk_at "b2");have m_law_deep:=mg_of X G a27;have p_law_deep:=k27;have F_law_wide:=yD (st:=zEq) l28 c28 k28;have b_law_wide:=F_law_wide.binds (ps:=["_law_script","_law_k"]) (by walk_at "b2");have m_law_wide:=mg_of X G a28;have p_law_wide:=k28;have F_law_any:=yD (st:=zNx) l29 c29 k29;have b_law_any:=F_law_any.binds (ps:=["_law_script","_law_k"]) (by walk_at "b2");have m_law_any:=mg_of X G a29;have p_law_any:=k29;have F_law_steps:=yD (st:=sSs) l30 c30 k30;have b_law_steps:=F_law_steps.binds (ps:=["_law_thing"]) (by walk_at "b1");have m_law_steps:=mg_of X G a30;have p_law_steps:=k30;have F_law_step_by:=yD (st:=sSb) l31 c31 k31;have b_law_step_by:=F_law_step_by.binds (ps:=["_law_more"]) (by walk_at "b1");have m_law_step_by:=mg_of X G a31;have p_law_step_by:=k31;have F_law_path:=yD (st:=sPa) l32 c32 k32;have b_law_path:=F_law_path.binds (ps:=["_law_script","_law_k","_law_thing"]) (by walk_at "b3");have m_law_path:=mg_of X G a32;have p_law_path:=k32;have F_law_leads:=yD (st:=sLl) l33 c33 k33;have b_law_leads:=F_law_leads.binds (ps:=["_law_thing","_law_step"]) (by walk_at "b2");have m_law_leads:=mg_of X G a33;have p_law_leads:=k33;have F_law_gone:=yD (st:=sGn) l34 c34 k34;have b_law_gone:=F_law_gone.binds (ps:=["_law_thing","_law_path_here"]) (by walk_at "b2");have m_law_gone:=mg_of X G a34;have p_law_gone:=k34;have F_law_alike:=yD (st:=kW) l35 c35 k35;have b_law_alike:=F_law_alike.binds (ps:=["_law_found","_law_due"]) (by walk_at "b2");have m_law_alike:=mg_of X G a35;have p_law_alike:=k35;have F_law_copy:=yD (st:=sCo) l36 c36 k36;have b_law_copy:=F_law_copy.binds (ps:=["_law_thing"]) (by walk_at "b1");have m_law_copy:=mg_of X G a36;have p_law_copy:=k36;have F_law_spoil:=yD (st:=zOj) l37 c37 k37;have b_law_spoil:=F_law_spoil.binds (ps:=["_law_thing"]) (by walk_at "b1");have m_law_spoil:=mg_of X G a37;have p_law_spoil:=k37;have F_law_marked:=yD (st:=sMk) l38 c38 k38;have b_law_marked:=F_law_marked.binds (ps:=["_law_thing","_law_count"]) (by walk_at "b2");have m_law_marked:=mg_of X G a38;have p_law_marked:=k38;have F_law_own:=yD (st:=zNp) l39 c39 k39;have b_law_own:=F_law_own.binds (ps:=["_law_found"]) (by walk_at "b1");have m_law_own:=mg_of X G a39;have p_law_own:=k39;have F_law_word:=yD (st:=zGc) l40 c40 k40;have b_law_word:=F_law_word.binds (ps:=["_law_e"]) (by walk_at "b1");have m_law_word:=mg_of X G a40;have p_law_word:=k40;have F_law_rebuilt:=yD (st:=sRb) l41 c41 k41;have b_law_rebuilt:=F_law_rebuilt.binds (ps:=["_law_thing","_law_word_here","_law_path_here","_law_new"]) (by walk_at "b4");have m_law_rebuilt:=mg_of X G a41;have p_law_rebuilt:=k41;have F_law_many:=yD (st:=sMn) l42 c42 k42;have b_law_many:=F_law_many.binds (ps:=["_law_thing"]) (by walk_at "b1");have m_law_many:=mg_of X G a42;have p_law_many:=k42;have F_law_within:=yD (st:=sWn) l43 c43 k43;have b_law_within:=F_law_within.binds (ps:=["_law_thing"]) (by walk_at "b1");have m_law_within:=mg_of X G a43;have p_law_within:=k43;have F_law_is_thing:=yD (st:=sLt) l44 c44 k44;have b_law_is_thing:=F_law_is_thing.binds (ps:=["_law_thing"]) (by walk_at "b1");have m_law_is_thing:=mg_of X G a44;have p_law_is_thing:=k44;have F_law_filled:=yD (st:=sFi) l45 c45 k45;have b_law_filled:=F_law_filled.binds (ps:=["_law_script","_law_thing"]) (by walk_at "b2");have m_law_filled:=mg_of X G a45;have p_law_filled:=k45;have F_law_told:=yD (st:=sTo) l46 c46 k46;have b_law_told:=F_law_told.binds (ps:=["_law_word_here","_law_thing","_law_path_here","_law_new"]) (by walk_at "b4");have m_law_told:=mg_of X G a46;have p_law_told:=k46;have Flaw:=yD (st:=zGk) l47 c47 k47;have blaw:=Flaw.binds (ps:=["_law_script"]) (by walk_at "b1");have mlaw:=mg_of X G a47;have plaw:=k47;have B:Bl mg:=⟨mg_none_of X G z0,mg_none_of X G z1,mg_none_of X G z2,mg_none_of X G z3,mg_none_of X G z4,mg_none_of X G z5,mg_none_of X G z6,mg_none_of X G z7,mg_none_of X G z8,mg_none_of X G z9,mg_none_of X G z10⟩;have B2:Bl2 mg:=⟨B,mg_none_of X G y0,mg_none_of X G y1,mg_none_of X G y2⟩;have B5:Bl5 mg:=⟨B2,mg_none_of X G q0,mg_none_of X G q1⟩;have M:Ms mg:=⟨⟨_,mg_of X G s0⟩,⟨_,mg_of X G s1⟩,⟨_,mg_of X G n0⟩,⟨_,mg_of X G n1⟩,⟨_,mg_of X G n2⟩,⟨_,mg_of X G n3⟩,⟨_,mg_of X G n4⟩,⟨_,mg_of X G n5⟩⟩;refine⟨fnOf "law" "law" (zQ zGk) (zP zGk) (zH zGk) .none kV47 dc47 pm47 an47 cd47 ct47,fun s v=>.of_eq rfl,fun base _ _=>?_⟩;have Gcell:Dn l.prog w K mg base 1 "_law_cell" ["_law_script","_law_k"] (vY K):=⟨_,_,zWf F_law_cell B,b_law_cell,p_law_cell,m_law_cell⟩;have Gnum:Dn l.prog w K mg base 1 "_law_number_by" ["_law_more"] zIo:=⟨_,_,yAb F_law_number_by,b_law_number_by,p_law_number_by,m_law_number_by⟩;have Gname:Dn l.prog w K mg base 1 "_law_name_by" ["_law_more"] zAa:=⟨_,_,zXd F_law_name_by B,b_law_name_by,p_law_name_by,m_law_name_by⟩;have Gsigns:Dn l.prog w K mg base 1 "_law_signs" [] zHs:=⟨_,_,zTm F_law_signs,b_law_signs,p_law_signs,m_law_signs⟩;have Gtext:Dn l.prog w K mg base 2 "_law_text_by" ["_law_more"] zCy:=⟨_,_,zUc F_law_text_by B Gsigns,b_law_text_by,p_law_text_by,m_law_text_by⟩;have Gthing:Dn l.prog w K mg base (3+3) "_law_thing_by" ["_law_script","_law_k","_law_deep_here"] (vS K 3):=⟨_,_,zNy (zEp F_law_thing_by B Gcell Gnum Gtext Gname b_law_thing_by p_law_thing_by m_law_thing_by),b_law_thing_by,p_law_thing_by,m_law_thing_by⟩;have Gdeep:Dn l.prog w K mg base 7 "_law_deep" ["_law_script","_law_k"] (zHq K):=⟨_,_,zVc F_law_deep B Gcell Gthing Gname,b_law_deep,p_law_deep,m_law_deep⟩;have Gwide:Dn l.prog w K mg base 7 "_law_wide" ["_law_script","_law_k"] (zEi K):=⟨_,_,zUk F_law_wide B Gcell Gthing Gname,b_law_wide,p_law_wide,m_law_wide⟩;have Gany:Dn l.prog w K mg base 8 "_law_any" ["_law_script","_law_k"] (zEi K):=⟨_,_,yAk F_law_any B Gcell Gthing Gdeep Gwide,b_law_any,p_law_any,m_law_any⟩;have Gcopy:Dn l.prog w K mg base (1+20) "_law_copy" ["_law_thing"] (zEh 20):=⟨_,_,zRi F_law_copy B b_law_copy p_law_copy m_law_copy 20,b_law_copy,p_law_copy,m_law_copy⟩;have Gcp:Dn l.prog w K mg base (1+20) "copied" ["thing"] (zOx 20):=⟨_,_,zRq Fcopied B bcopied pcopied mcopied 20,bcopied,pcopied,mcopied⟩;have Gal:Dn l.prog w K mg base (2+20) "_law_alike" ["_law_found","_law_due"] (jJ 20):=⟨_,_,zFa F_law_alike B2 b_law_alike p_law_alike m_law_alike 20,b_law_alike,p_law_alike,m_law_alike⟩;have Gmk:Dn l.prog w K mg base (1+20) "_law_marked" ["_law_thing","_law_count"] (zOk 20):=⟨_,_,zQy F_law_marked B2 b_law_marked p_law_marked m_law_marked 20,b_law_marked,p_law_marked,m_law_marked⟩;have Gown:Dn l.prog w K mg base 23 "_law_own" ["_law_found"] zSs:=⟨_,_,zYh F_law_own Gcopy Gmk Gal,b_law_own,p_law_own,m_law_own⟩;have Gko:Dn l.prog w K mg base 1 "kind_of" ["thing"] zKw:=⟨_,_,zLp Fkind_of B,bkind_of,pkind_of,mkind_of⟩;have Gpl:Dn l.prog w K mg base 2 "is_place" ["thing"] zAl:=⟨_,_,zSq Fis_place B M Gko,bis_place,pis_place,mis_place⟩;have GkR:Dn l.prog w K mg base 1 "kind_of" ["thing"] zGf:=⟨_,_,zIr Fkind_of B,bkind_of,pkind_of,mkind_of⟩;have Gin:Dn l.prog w K mg base 1 "is_name" ["thing"] zHu:=⟨_,_,zKd Fis_name B M,bis_name,pis_name,mis_name⟩;have Gsg:Dn l.prog w K mg base 1 "is_text_sign" ["sign"] zSp:=⟨_,_,yCb Fis_text_sign B5,bis_text_sign,pis_text_sign,mis_text_sign⟩;have Gso:Dn l.prog w K mg base 2 "is_sound_outside" ["thing"] zTl:=⟨_,_,yAa Fis_sound_outside B5 M GkR Gsg Gin,bis_sound_outside,pis_sound_outside,mis_sound_outside⟩;have Ghp:Dn l.prog w K mg base 1 "holds_parts" ["thing"] zYn:=⟨_,_,ok_hp Fholds_parts B,bholds_parts,pholds_parts,mholds_parts⟩;have Gpo:Dn l.prog w K mg base 1 "parts_of" ["thing"] zYa:=⟨_,_,ok_po Fparts_of B,bparts_of,pparts_of,mparts_of⟩;have Gpz:Dn l.prog w K mg base 2 "parts_of_all" ["holders"] yCe:=⟨_,_,zYt Fparts_of_all B Gpo,bparts_of_all,pparts_of_all,mparts_of_all⟩;have Gth:Dn l.prog w K mg base 3 "is_thing" ["thing"] zRx:=⟨_,_,th_T (ok_th Fis_thing B M Gso Ghp Gpz),bis_thing,pis_thing,mis_thing⟩;have Gwn:Dn l.prog w K mg base (1+20) "_law_within" ["_law_thing"] (zOi 20):=⟨_,_,zQr F_law_within B b_law_within p_law_within m_law_within 20,b_law_within,p_law_within,m_law_within⟩;have Gmn:Dn l.prog w K mg base (1+20) "_law_many" ["_law_thing"] (zNr 20):=⟨_,_,zPv F_law_many B2 b_law_many p_law_many m_law_many 20,b_law_many,p_law_many,m_law_many⟩;have Glt:Dn l.prog w K mg base 22 "_law_is_thing" ["_law_thing"] zZq:=⟨_,_,ok_lt F_law_is_thing B Gmn Gwn,b_law_is_thing,p_law_is_thing,m_law_is_thing⟩;have Gspo:Dn l.prog w K mg base 1 "_law_spoil" ["_law_thing"] zPt:=⟨_,_,yCd F_law_spoil B,b_law_spoil,p_law_spoil,m_law_spoil⟩;have Glo:Dn l.prog w K mg base 1 "leads_on" ["thing","step"] zEd:=⟨_,_,ok_lo Fleads_on B,bleads_on,pleads_on,mleads_on⟩;have Gll:Dn l.prog w K mg base 1 "_law_leads" ["_law_thing","_law_step"] zEd:=⟨_,_,ok_ll F_law_leads B,b_law_leads,p_law_leads,m_law_leads⟩;have Glw:Dn l.prog w K mg base 3 "leads_within" ["thing","step"] zEd:=⟨_,_,ok_lw Fleads_within B Glo Gpl,bleads_within,pleads_within,mleads_within⟩;have Gcc:Dn l.prog w K mg base 4 "can_change" ["holder","word","step"] yBl:=⟨_,_,ok_cc Fcan_change B Glw Gpl,bcan_change,pcan_change,mcan_change⟩;have Grec:Dn l.prog w K mg base 1 "record_changed" ["record","word","name","new"] zQm:=⟨_,_,zZi Frecord_changed B,brecord_changed,precord_changed,mrecord_changed⟩;have Grow:Dn l.prog w K mg base 1 "row_changed" ["row","word","place","new"] zQk:=⟨_,_,yAo Frow_changed B,brow_changed,prow_changed,mrow_changed⟩;have Gpart:Dn l.prog w K mg base 2 "part_changed" ["holder","word","step","new"] zLa:=⟨_,_,zWr Fpart_changed B Grec Grow,bpart_changed,ppart_changed,mpart_changed⟩;have Ggn:Dn l.prog w K mg base 2 "_law_gone" ["_law_thing","_law_path_here"] zZx:=⟨_,_,ok_gn F_law_gone B Gll,b_law_gone,p_law_gone,m_law_gone⟩;have Gss:Dn l.prog w K mg base 1 "_law_steps" ["_law_thing"] yAw:=⟨_,_,ok_ss F_law_steps B2,b_law_steps,p_law_steps,m_law_steps⟩;have Gsb:Dn l.prog w K mg base 2 "_law_step_by" ["_law_more"] zXy:=⟨_,_,ok_sb F_law_step_by Gname,b_law_step_by,p_law_step_by,m_law_step_by⟩;have Gpa:Dn l.prog w K mg base 3 "_law_path" ["_law_script","_law_k","_law_thing"] (yAx K):=⟨_,_,ok_pa F_law_path B2 Gcell Gss Gsb,b_law_path,p_law_path,m_law_path⟩;have mB:=mg_of X G xaB;have mC:=mg_of X G xa1;have XC:zLf K "NoPlace" x1c xB xF:=⟨⟨xN,_,xb0,_,_,_,_,_,_,_,_,_,_,_,_,_,rfl⟩,⟨_,by unfold clsIn;rw[xb0],rfl,rfl⟩,xb1,xb2,xb3,xb4,xb5,xb6⟩;have XB:zTy K xB:=⟨xc0,xc1,xc2⟩;have XG:zCd K x1c:=⟨xe0,xe1,xe2,xe3,xe4,xe5,xe6,xe7⟩;have RN:Xr l.prog w K mg base 1 "NoPlace" x1c:=⟨_,_,_,_,_,XC,zTu xd0 xd1 XC XB mB,zJs xd2 rfl rfl,mC⟩;have W:Wf mg (fun i=>[x0c,x1c,x2c,x3c,x4c,x5c,x6c,x7c,x8c,x9c,x10c,x11c,x12c,x13c,x14c,x15c,x16c,x17c].getD i 0):=⟨mg_of X G xa0,mg_of X G xa1,mg_of X G xa2,mg_of X G xa3,mg_of X G xa4,mg_of X G xa5,mg_of X G xa6,mg_of X G xa7,mg_of X G xa8,mg_of X G xa9,mg_of X G xa10,mg_of X G xa11,mg_of X G xa12,mg_of X G xa13,mg_of X G xa14,mg_of X G xa15,mg_of X G xa16,mg_of X G xa17⟩;have Y:Wk K (fun i=>[x0c,x1c,x2c,x3c,x4c,x5c,x6c,x7c,x8c,x9c,x10c,x11c,x12c,x13c,x14c,x15c,x16c,x17c].getD i 0) 1 (· ==1):=⟨XG,xb5,xg0,xg1,xg2,xg3,xh0,xh1⟩;have XG2:zCd K x2c:=⟨te0,te1,te2,te3,te4,te5,xe6,xe7⟩;have Z:Wk K (fun i=>[x0c,x1c,x2c,x3c,x4c,x5c,x6c,x7c,x8c,x9c,x10c,x11c,x12c,x13c,x14c,x15c,x16c,x17c].getD i 0) 2 (· ==2):=⟨XG2,xb5,tg0,tg1,tg2,tg3,th0,th1⟩;have RT:Xr0 K mg "TooGreat" x2c:=⟨_,_,⟨⟨tN,_,tb0,⟨_,_,_,_,_,_,_,_,_,_,_,_,_,rfl⟩,tb2,tb3⟩,xb1,tb6⟩,mg_of X G xa2⟩;have Gwc:Dx l.prog w K mg base 3 "whole_changed" ["word","new"] (zZp x1c):=⟨_,_,ok_wc Fwhole_changed B RN,bwhole_changed,pwhole_changed,mwhole_changed⟩;have Gsl:Dx l.prog w K mg base 4 "stops_to_last" ["thing","path"] (yCh x1c):=⟨_,_,ok_sl Fstops_to_last B Glw RN,bstops_to_last,pstops_to_last,mstops_to_last⟩;have FCs:FunD K "change_shared" "change_shared" sCs hF (fnOf "change_shared" "change_shared" (zQ sCs) (zP sCs) (zH sCs) (.ref hD) hkV hdc hpm han hcd hct):=⟨⟨hoc,hod, .ref hD,hkV,hdc,hpm,han,hcd,hct,hsl,rfl,hs,ht⟩⟩;have FCa:FunD K "changed_at" "changed_at" sCa gF (fnOf "changed_at" "changed_at" (zQ sCa) (zP sCa) (zH sCa) (.ref gD) gkV gdc gpm gan gcd gct):=⟨⟨goc,god, .ref gD,gkV,gdc,gpm,gan,gcd,gct,gsl,rfl,gs,gt⟩⟩;have mCs:=mg_of X G ha;have mCa:=mg_of X G ga;have Gcs:Dx l.prog w K mg base 5 "change_shared" ["thing","word","path","new"] (zZj x1c):=⟨_,_,ok_cs FCs B Gwc Gsl Gcc Gpart RN,biCs hu rfl,hk,mCs⟩;have Gcax:Dx l.prog w K mg base 22 "changed_at" ["thing","word","path","new"] (zSz x1c):=⟨_,_,zXl FCa Gcs Gcp,(biCa gu rfl).1,gk,mCa⟩;have Gsou:Dx l.prog w K mg base 4 "sound" ["thing"] (zQg x2c):=⟨_,_,yAy Fsound Gth RT,bsound,psound,msound⟩;have Gcad:Ddx l.prog w K mg base 22 "changed_at" ["thing","word","path","new"] [.non] (zSz x1c):=⟨_,_,[.none],zXl FCa Gcs Gcp,(biCa gu rfl).2, .cons rfl .nil,gk,mCa⟩;have Gins:Dx l.prog w K mg base 23 "inserted" ["thing","path","new"] (zQf x1c x2c):=⟨_,_,yBy Finserted Gsou Gcax,binserted,pinserted,minserted⟩;have Gtkn:Dx l.prog w K mg base 23 "taken" ["thing","path"] (zTf x1c):=⟨_,_,yBu Ftaken Gcad,btaken,ptaken,mtaken⟩;have Gw:Dh l.prog w K mg base 1 "_law_word" ["_law_e"] (zHr (fun i=>[x0c,x1c,x2c,x3c,x4c,x5c,x6c,x7c,x8c,x9c,x10c,x11c,x12c,x13c,x14c,x15c,x16c,x17c].getD i 0)):=⟨_,_,zUh F_law_word B W Y Z,b_law_word,p_law_word,m_law_word⟩;have Gfi:Dn l.prog w K mg base 2 "_law_filled" ["_law_script","_law_thing"] (yBp K):=⟨_,_,ok_fi F_law_filled B Gcell,b_law_filled,p_law_filled,m_law_filled⟩;have Grb:Dn l.prog w K mg base 22 "_law_rebuilt" ["_law_thing","_law_word_here","_law_path_here","_law_new"] yBz:=⟨_,_,ok_rb F_law_rebuilt B Gcopy Ggn,b_law_rebuilt,p_law_rebuilt,m_law_rebuilt⟩;have Gto:Dn l.prog w K mg base 24 "_law_told" ["_law_word_here","_law_thing","_law_path_here","_law_new"] (zVp (fun i=>[x0c,x1c,x2c,x3c,x4c,x5c,x6c,x7c,x8c,x9c,x10c,x11c,x12c,x13c,x14c,x15c,x16c,x17c].getD i 0)):=⟨_,_,ok_to F_law_told mB xf0 tf0 Gins Gtkn Gw,b_law_told,p_law_told,m_law_told⟩;exact yBs Flaw B Gcell Gany Gfi Gpa Gthing Gdeep Gcopy Grb Glt Gto Gown Gspo Gal
theorem walk{l:W.OpenLaw}{q:Program}{loose:List Str}{XP:(Str→Option Value)→Heap→Prop}{YP:World→Heap→Prop}{d:DefRec}{K:Params→W.Frag}(hn:l.most=some 63)(hdf:d.params.defaults= [])
  (hY:∀(w:World)(h:Heap),YP w h→(K w.params).In h)
  (F:∀(w:World)(mg:Str→Option Value)(fa:Addr)(h:Heap),(K w.params).In h→h.Ns mainGlobals mg→mg d.name=some (.ref fa)→
   ∃fd:FuncData,(∀(s:Shared)(u:Value),BindsTo s fd ⟨[u],[]⟩ [("_law_script",u)])∧∀base:Heap,(K w.params).In base→base.Ns mainGlobals mg→FnOk l.prog w (K w.params) mg base CX0 25 fa fd ["_law_script"] (zLv (K w.params))):
  W.WalkO q loose XP YP l.row.toRowW d [] (fun f vs=>PySem.call f vs):=
 L2.zMv (n:=63) (k:=25) (x:="_law_script") (CX:=fun _=>CX0) (sp:=fun w=>zLv (K w.params)) hn (by decide) hdf ⟨rfl,by decide,by decide⟩ hY F (fun _ _ a ns hl hO hS=>⟨a,ns,rfl,hS,hl,hO,fun _=>rfl⟩) fun _ _ _ _ _ z=>z
end K36
end
namespace PySem.W.Fast
def tw14806902105410249404:=()
def tw5192987250289769453:=()
def tw11626612086691648497:=()
def tw15094623917002339640:=()
def tw10065243678614375808:=()
def tw9937249748644496922:=()
def tw6438533791222892509:=()
def tw13607330822028657766:=()
def tw17504646680389145599:=()
def tw13590757208967372573:=()
def tw13585683971682385501:=()
def tw8058316201833422975:=()
def tw9453755206673993007:=()
def tw10817111885430727032:=()
def tw5263717156395505958:=()
def tw3993358186070951886:=()
def tw9027608193544974396:=()
def tw13644627911664216133:=()
def tw14341011732335546356:=()
def tw18318584243274918922:=()
def tw10280873451091896047:=()
def tw12996493013108463446:=()
def tw3200722885223833842:=()
def tw3324092137680972757:=()
def tw5688464567164449165:=()
def tw7095779641652501337:=()
def tw9197070448929162536:=()
def tw13160910551310472320:=()
def tw3672235493472762714:=()
def tw9415212685670643566:=()
def tw14321740296650677346:=()
def tw3233033684701406182:=()
def tw302024489951100785:=()
def tw11575634915073966582:=()
def tw13504032325180957939:=()
def tw16539523048164545933:=()
def tw13605864687946296289:=()
def tw17061630856072330360:=()
def tw16811805461055217619:=()
def tw1878303177690140176:=()
def tw12483871047553146527:=()
def tw14347986972507142850:=()
def tw14322814420281750882:=()
def tw17971309305595355149:=()
def tw12780267915188635693:=()
def tw10126418666668883673:=()
def tw4064248415501715776:=()
def tw15257728288758255603:=()
def tw9773612977725449735:=()
def tw7695508521404150041:=()
def tw14439893490797907719:=()
def tw3165001153460646581:=()
def tw7296440576874213709:=()
def tw14504976216866648331:=()
def tw11588315767038163513:=()
def tw12734951322084071488:=()
def tw3106466996598254149:=()
def tw10564207119157139512:=()
def tw9944718755771515955:=()
def tw11617182031573242934:=()
def tw1890014584563228223:=()
def tw12752855820622209775:=()
def tw4122029713515254987:=()
def tw3590793481588645046:=()
def tw9143504971441586268:=()
def tw16155208724660065205:=()
def tw136754250731870546:=()
def tw14981991961303336769:=()
def tw2174307820484912224:=()
def tw11994403256795862988:=()
def tw12856773044724535248:=()
def tw6375993299100956319:=()
def tw5165615677995137492:=()
def tw3980971437596586701:=()
def tw2176361535605567490:=()
def tw16405356994224126990:=()
def tw11030263626171483568:=()
def tw11497631090275851334:=()
def tw13701611176243282463:=()
def tw6235105242405200839:=()
def tw5697000025783857190:=()
def tw15548130862002404264:=()
def tw6734740275950125626:=()
def tw1023528961376916265:=()
def tw9257040094891872076:=()
def tw16228085802820579141:=()
def tw6765285320484391166:=()
def tw623112516167005273:=()
def tw3746760162580857097:=()
def tw8496747641100894499:=()
def tw15829563870937384828:=()
def tw13485776912171980589:=()
def tw11632941001449314313:=()
def tw11260892571084090793:=()
def tw9089061522412242305:=()
def tw4396385250997911356:=()
def tw8168160702718226527:=()
def tw14764919323317913119:=()
def tw10575108819483296411:=()
def tw7581526943929107256:=()
def tw17538423136713078735:=()
def tw6411281038753454565:=()
def tw11912849064159044925:=()
def tw13823426576032094292:=()
def tw10977392592078866982:=()
def tw13147067259037196782:=()
def tw2675210389477568188:=()
def tw4057677511526249722:=()
def tw1315243081104012374:=()
def tw8552283708484902253:=()
def tw16011270603891886056:=()
def tw10083376560749572176:=()
def tw4272431753852063218:=()
def tw14015002407111615882:=()
def tw7260210699520640625:=()
def tw5519716117218420719:=()
def tw7954254433021442962:=()
def tw6754937237483017029:=()
def tw10418257914037942685:=()
def tw14482127081928602600:=()
def tw1648539799820792215:=()
def tw9949960790593344816:=()
def tw8329458348829596085:=()
def tw13632133174449224030:=()
def tw7382154375776387137:=()
def tw6047396522508401521:=()
def tw1840194443392426601:=()
def tw1286411828991767014:=()
def tw13426734054482101739:=()
def tw12820377437924061754:=()
def tw7766675689951015025:=()
def tw15979494414527019107:=()
def tw2657724419380609571:=()
def tw8212514811878091808:=()
def tw6910461484308530198:=()
def tw15715115376631549864:=()
def tw9919384368511654713:=()
def tw15855821752386566622:=()
def tw8717187861985247342:=()
def tw17027110491852431727:=()
def tw10691902154768496605:=()
def tw14250912055222236528:=()
def tw6432794773198842192:=()
def tw13241878924293687741:=()
def tw4322969495402767647:=()
def tw1107453835579999415:=()
def tw10610807919751373220:=()
def tw5842632499271523629:=()
def tw16439474695069704997:=()
def tw4408293277338272573:=()
def tw14785371258711869103:=()
def tw3274730353791158604:=()
def tw10619369544250966499:=()
def tw9903660701779792215:=()
def tw10825322872191104050:=()
def tw15156326745310726134:=()
def tw823466470219590234:=()
def tw2273818517968300876:=()
def tw6500970129189186895:=()
def tw11929705248070147139:=()
def tw12499680801079764537:=()
def tw5025913566256285610:=()
def tw11153262346859159236:=()
def tw13890165883763631005:=()
def tw951380958895068658:=()
def tw7568086763009006246:=()
def tw16382724393737112553:=()
def tw15154525545371895395:=()
def tw16457057780926526807:=()
def tw2750230896685344487:=()
def tw4872138390356699229:=()
def tw17583264659259045601:=()
def tw5845695095503432733:=()
def tw12830372812019449434:=()
def tw17779690815089860755:=()
def tw7140852035526980150:=()
def tw688228667513944856:=()
def tw15261033775914606152:=()
def tw5640468473633318288:=()
def tw15960269997197784592:=()
def tw17350117213081569380:=()
def tw13483825603866193112:=()
def tw709872249918864896:=()
def tw16605940347529911836:=()
def tw12189119158815921872:=()
def tw1414899558883147260:=()
def tw61600601831155085:=()
def tw3861567116236445153:=()
def tw4473734720849307634:=()
def tw5733686676794999683:=()
def tw5961833004556503585:=()
def tw2169061874532014805:=()
def tw6709425479767181892:=()
def tw15110689646322994193:=()
def tw16181583971456777158:=()
def tw13534523549299789011:=()
def tw2644216875414257553:=()
def tw2251934790538796848:=()
def tw1227108531518816599:=()
def tw2531921294665165430:=()
def tw16131455660473198427:=()
def tw14322332496114357755:=()
def tw4843683909067884547:=()
def tw8135580285774497480:=()
def tw3559011218160356399:=()
def tw17209682924941832477:=()
def tw13164139910078954408:=()
def tw6052956499215890607:=()
def tw1117049081530914717:=()
def tw5843414702509353613:=()
def tw3337670103180562219:=()
def tw4590404059068089068:=()
def tw1743651007087125620:=()
def tw9061558185728626705:=()
def tw11721190285247554555:=()
def tw5307801063925598160:=()
def tw16670382626579955806:=()
def tw721999098341073017:=()
def tw4155633535205602266:=()
def tw6397428772879116011:=()
def tw5854357695654439437:=()
def tw9270529436263234799:=()
def tw2634871469336677638:=()
def tw284776331349506481:=()
def tw8866686746273289568:=()
def tw300228986567620680:=()
def tw13978574011249977571:=()
def tw6080226805288805225:=()
def tw17591604692640599137:=()
def tw3550555445800906312:=()
def tw13874220606234791333:=()
def tw12048711771071681565:=()
def tw16595770708243152769:=()
def tw3031359931244140884:=()
def tw1946888184722133409:=()
def tw7364647190213598505:=()
def tw4018163180319306987:=()
def tw2835119604044254172:=()
def tw15464635742039913917:=()
def tw17731156954215337775:=()
def tw15362245153442702127:=()
def tw11945922964073200554:=()
def tw10418115667292314506:=()
def tw11751179649894409519:=()
def tw18245595713461005259:=()
def tw15409713730148790613:=()
def tw8632611449960433171:=()
def tw3994554941384270677:=()
def tw7724862417412798910:=()
def tw8731063878290568630:=()
def tw10826750478052412586:=()
def tw4415084144321123476:=()
def tw5916362850507742656:=()
def tw1359388402215197058:=()
def tw432841535489047509:=()
def tw3721697502099969928:=()
def tw2263032272294788978:=()
def tw7701428366628466766:=()
def tw3347135537054499867:=()
def tw1193320840578797467:=()
def tw15032206156679973307:=()
def tw1894523539872077087:=()
def tw3289416256865513773:=()
def tw1917945345164618051:=()
def tw8796468068962064545:=()
def tw17927708465026855459:=()
def tw7520322595489985993:=()
def tw6414492817272107445:=()
def tw17078157687000309395:=()
def tw4504840601298921253:=()
def tw15883713516499742607:=()
def tw13578429612451823156:=()
def tw1441001427801999890:=()
def tw4681869997489407612:=()
def tw2039718678752063614:=()
def tw7020032749931281947:=()
def tw4533252606546810431:=()
def tw10656005464414142071:=()
def tw2744043418654177640:=()
def tw3869875256796228760:=()
def tw4478538930657100808:=()
def tw12591712943554687400:=()
def tw7175514299004006540:=()
def tw7639417060720631392:=()
def tw4166848614457720877:=()
def tw17844517875964240158:=()
def tw14420898186007208571:=()
def tw12118131437665989214:=()
def tw6474613125416478967:=()
def tw8536975532599353270:=()
def tw2346273005122124039:=()
def tw17918768631273866786:=()
def tw12830799460740984804:=()
def tw11552176260967887351:=()
def tw16536677464676121042:=()
def tw12077627892021645218:=()
def tw1787441138723576043:=()
def tw249183748812308553:=()
def tw11482839897492021535:=()
def tw11076004153062206955:=()
def tw5570942451197303044:=()
def tw9870343510687823962:=()
def tw5057154763536300010:=()
def tw18040193949132233911:=()
def tw13432303470270726021:=()
def tw1398163513621243664:=()
def tw11042208175673429855:=()
def tw5199465884985114132:=()
def tw11120955511655680203:=()
def tw8010406574546597180:=()
def tw5201433808226892375:=()
def tw16997915121853516871:=()
def tw4134078888765755943:=()
def tw4473509280078966266:=()
def tw8183753314299199240:=()
def tw13880581128749385092:=()
def tw3186133385352618683:=()
def tw9728515767680950930:=()
def tw7363037804872812516:=()
def tw15654059291876811397:=()
def tw9168374669915510780:=()
def tw16910814236781969369:=()
def tw6813860907554289265:=()
def tw5019101142847028094:=()
def tw9462777591169118883:=()
def tw16730470830022404801:=()
def tw9701539350257985224:=()
def tw15116077154734812987:=()
def tw637265700363435980:=()
def tw18367711842684812156:=()
def tw3655558791427462022:=()
def tw6045350807264731072:=()
def tw13166208894629887374:=()
def tw7343231571758500606:=()
def tw6245805609026595487:=()
def tw2279896121779362566:=()
def tw10955726706440640720:=()
def tw12104034351892980924:=()
def tw14796018519860597050:=()
def tw7558402015878832767:=()
def tw2350771080070590923:=()
def tw7193987787247751844:=()
def tw13954200101584737088:=()
def tw15638672110798892599:=()
def tw786320903196636799:=()
def tw1352241539599873507:=()
def tw12780204183906596155:=()
def tw12756681740089012593:=()
def tw3411242823213003428:=()
def tw7895117943397002280:=()
def tw7100195203173527442:=()
def tw8994347213933303484:=()
def tw14068774161600564909:=()
def tw3760235548381307595:=()
def tw8305886894688851676:=()
def tw96021448235839917:=()
def tw8937082218759844196:=()
def tw9509164637677885653:=()
def tw3461925577317245088:=()
def tw17443016465893448614:=()
def tw11661928500221701360:=()
def tw14307673792491819389:=()
def tw13265096252048488063:=()
def tw9386895253597985026:=()
def tw11004119485047285842:=()
def tw7229378915630952137:=()
def tw16288612568789089589:=()
def tw6412354701499103629:=()
def tw4533419331661385164:=()
def tw11149427264476006795:=()
def tw3373012288805495845:=()
def tw12043172868530678844:=()
def tw15104829486540885126:=()
def tw20585940427329721:=()
def tw13433793552337777478:=()
def tw15603731019978195581:=()
def tw5580093241735365878:=()
def tw10173148950542224983:=()
def tw17876181002366808656:=()
def tw16771483461744872674:=()
def tw14194593814815311146:=()
def tw14337714274229873053:=()
def tw3519781686532828677:=()
def tw1343922429277112334:=()
def tw13059839373484770167:=()
def tw8084522626338695032:=()
def tw9830475379188801839:=()
def tw10718565271251160109:=()
def tw8733401422753509905:=()
def tw12459234671377917836:=()
def tw7532659688395116599:=()
def tw2369039474555275671:=()
def tw5436235408768207601:=()
def tw7249597559665488491:=()
def tw5184965577586820406:=()
def tw18272251338663678862:=()
def tw12656144061906780220:=()
def tw535587553432452514:=()
def tw13466640015711283921:=()
def tw17252209864998711304:=()
def tw3698886782455295919:=()
def tw9266298105450923237:=()
def tw3249690755313505256:=()
def tw5648051808172126716:=()
def tw17671653746513153048:=()
def tw953249729461550061:=()
def tw15741394998057054172:=()
def tw14567611854823573894:=()
def tw956566282612384822:=()
def tw4895275490721191847:=()
def tw7925519984115414896:=()
def tw12017868957467781160:=()
def tw15542191135995785952:=()
def tw10414766918738630225:=()
def tw13734514825684590963:=()
def tw5561836584150629871:=()
def tw3150186945928352506:=()
def tw5272514117412224992:=()
def tw17512237124270548518:=()
def tw7009970491667092922:=()
def tw6376442775244474505:=()
def tw11145002651897394155:=()
def tw15271257031585369998:=()
def tw12785049812268560664:=()
def tw12542332454894449589:=()
def tw5056106220549554656:=()
def tw17830283106062375983:=()
def tw1832190313013678121:=()
def tw609886704512190327:=()
def tw6976842787432660061:=()
def tw5272185439045995049:=()
def tw7295332045774157594:=()
def tw10425270944988135606:=()
def tw15180578867852054711:=()
def tw10798942227101506336:=()
def tw16688687840325767705:=()
def tw18087976356622910652:=()
def tw16801757152356470052:=()
def tw198464544707435875:=()
def tw17089491055401442490:=()
def tw9726379775408138684:=()
def tw17093078761172443000:=()
def tw18422490871256883367:=()
def tw5840129383792404445:=()
def tw60246466087082030:=()
def tw17538913534226538528:=()
def tw2416449430502552090:=()
def tw17813415778556103422:=()
def tw4724034738832878244:=()
def tw14393797452298519420:=()
def tw12359507799278663883:=()
def tw13841921494746207753:=()
def tw3770737394023569510:=()
def tw13403885427044021085:=()
def tw8826138378536916247:=()
def tw4924018800282964522:=()
def tw7656329051440544578:=()
def tw3301326699746875519:=()
def tw17097942891133634352:=()
def tw212076852617389722:=()
def tw18198198992445684756:=()
def tw6798168004052971054:=()
def tw14803970152799519495:=()
def tw8458273407981765345:=()
def tw18061560183511281321:=()
def tw4054682238220678324:=()
def tw14374736508612005938:=()
def tw11987342340172345666:=()
def tw1562158409645668008:=()
def tw12831649642450858749:=()
def tw13802176965368138753:=()
def tw5240689924524932120:=()
def tw2959618522777277967:=()
def tw16580302494588757212:=()
def tw42988902702772139:=()
def tw18260931597024111054:=()
def tw18134383816531651020:=()
def tw9356221413505910019:=()
def tw659656831785945116:=()
def tw3270767091740715427:=()
def tw13675993706471099792:=()
def tw7439481924909915680:=()
def tw17810368314652250841:=()
def tw10285527314243214193:=()
def tw6952897157240117542:=()
def tw10490900658119116341:=()
def tw13352560667476291901:=()
def tw12655972522511170265:=()
def tw6453657217481253097:=()
def tw3325599322964550177:=()
def tw15289861788306884787:=()
def tw5732897649138748070:=()
def tw2810842045792211262:=()
def tw4846102469360642793:=()
def tw8060128623873830922:=()
def tw12647742306607554352:=()
def tw15564389933984751833:=()
def tw15962190154151986586:=()
def tw2866080274455783965:=()
def tw1077298157008441411:=()
def tw1244102673801440240:=()
def tw16569261129518141519:=()
def tw15221222253286085660:=()
def tw14678146659816029302:=()
def tw5079823180917423415:=()
def tw11171213846629834617:=()
def tw2540479688045292110:=()
def tw5811525281251978033:=()
def tw8048843212424484559:=()
def tw5958133387494355873:=()
def tw923625423662790200:=()
def tw15929433912700501203:=()
def tw17998688704526492209:=()
def tw3124550229813121427:=()
def tw14084842748348930622:=()
def tw18437764595685230136:=()
def tw650399291551679707:=()
def tw8930703406010874423:=()
def tw3949786254054032927:=()
def tw11400160535704839458:=()
def tw6862862362939226660:=()
def tw10959474892073609149:=()
def tw4217526925751762933:=()
def tw14525782717262274705:=()
def tw4177036871243505705:=()
def tw2367594746645728898:=()
def tw13664461933906176249:=()
def tw10960502497679089136:=()
def tw6679039960897104897:=()
def tw389258301355281915:=()
def tw5799546224295416616:=()
def tw15160885171018482661:=()
def tw2886202749257893594:=()
def tw3183361491205881683:=()
def tw14224355581823468726:=()
def tw11477158951508839603:=()
def tw17671108647573620338:=()
def tw7379503345747778572:=()
def tw10677366924192746297:=()
def tw9025702680411962561:=()
def tw4231423114617362641:=()
def tw866726015874212340:=()
def tw12906460015389942361:=()
def tw8418200473363508849:=()
def tw16528425425495430497:=()
def tw11501377968772983019:=()
def tw2993276066936403028:=()
def tw1148548668350248907:=()
def tw6699838501619933280:=()
def tw15310601723612553672:=()
def tw15113938393306708234:=()
def tw17973666086282971771:=()
def tw7740721085002504407:=()
def tw13382297650084924477:=()
def tw18254562331743573830:=()
def tw2595390152935966797:=()
def tw6691859292909550360:=()
def tw12328567348234002203:=()
def tw14561107904330937418:=()
def tw8613152327553666720:=()
def tw16595604365715301207:=()
def tw1007600520308130865:=()
def tw9924235527709642881:=()
def tw16834102874089268857:=()
def tw14507729900883234916:=()
def tw6486860352912067016:=()
def tw16326759374989964628:=()
def tw14549835359016082504:=()
def tw7573809701484296993:=()
def tw17072654310680180180:=()
def tw988964365732615295:=()
def tw6462765918601022817:=()
def tw15254837356718269999:=()
def tw2044600989275205420:=()
def tw17638881906121157800:=()
def tw6476843966633766047:=()
def tw6591971645576072315:=()
def tw10678400202272714991:=()
def tw4264734927571087758:=()
def tw8843618635201108666:=()
def tw12834102095937111357:=()
def tw15513651729728398413:=()
def tw12073559273745819699:=()
def tw15930140328758646238:=()
def tw9471134921702900598:=()
def tw6928053397621156725:=()
def tw670123944180977213:=()
def tw3802670503802850255:=()
def tw16703189686900208731:=()
def tw4719315694599097723:=()
def tw3620969820775423927:=()
def tw1952151045778041040:=()
def tw18140681828235484069:=()
def tw6224875792182201258:=()
def tw9271483814928089321:=()
def tw11530028576243757535:=()
def tw4676359753914359162:=()
def tw5755367712818924069:=()
def tw7993670094674150481:=()
def tw11586199522415329035:=()
def tw17703069185442339417:=()
def tw15841553210350038651:=()
def tw10649419791547787565:=()
def tw12029077651428589336:=()
def tw1020321456455410015:=()
def tw770513717326782542:=()
def tw5578538554512838242:=()
def tw4675849620352688168:=()
def tw10763858948344779559:=()
def tw14045488924445742118:=()
def tw61178633164981822:=()
def tw511811385459699627:=()
def tw17552607899896242881:=()
def tw17748063905550806170:=()
def tw2256971192944299309:=()
def tw5859318887016832021:=()
def tw1568877129340601412:=()
def tw18269073759545577761:=()
def tw7867176504512201977:=()
def tw1804750807051920141:=()
def tw12426494557310640078:=()
def tw18256811001102223293:=()
def tw3317088157688824862:=()
end PySem.W.Fast
open PySem PySem.W PyProof.Rows
set_option maxRecDepth 100000 in
set_option maxHeartbeats 0 in
theorem PySem.Challenge.cw_cabinet_k36_inserted_and_taken_holds : PySem.Challenge.rw_cabinet_k36_inserted_and_taken.Holds := by
  w_on;o_law;k_head;(case hw=>w_witness2)
  k_fill
  refine K36.walk (l:=PySem.Challenge.rw_cabinet_k36_inserted_and_taken) rfl rfl (fun w h Y=>PySem.W.kIn_of Y) ?F
  case F=>
    intro w mg fa h KX G hmg;refine' K36.all_mk KX G hmg ?a0 ?l0 ?c0 ?k0 ?a1 ?l1 ?c1 ?k1 ?a2 ?l2 ?c2 ?k2 ?a3 ?l3 ?c3 ?k3 ?a4 ?l4 ?c4 ?k4 ?a5 ?l5 ?c5 ?k5 ?a6 ?l6 ?c6 ?k6 ?a7 ?l7 ?c7 ?k7 ?a8 ?l8 ?c8 ?k8 ?a9 ?l9 ?c9 ?k9 ?a10 ?l10 ?c10 ?k10 ?a11 ?l11 ?c11 ?k11 ?a12 ?l12 ?c12 ?k12 ?a13 ?l13 ?c13 ?k13 ?a14 ?l14 ?c14 ?k14 ?a15 ?l15 ?c15 ?k15 ?a16 ?l16 ?c16 ?k16 ?a17 ?l17 ?c17 ?k17 ?a18 ?l18 ?c18 ?k18 ?a19 ?l19 ?c19 ?k19 ?a20 ?l20 ?c20 ?k20 ?a21 ?l21 ?c21 ?k21 ?a22 ?l22 ?c22 ?k22 ?a23 ?l23 ?c23 ?k23 ?a24 ?l24 ?c24 ?k24 ?a25 ?l25 ?c25 ?k25 ?a26 ?l26 ?c26 ?k26 ?a27 ?l27 ?c27 ?k27 ?a28 ?l28 ?c28 ?k28 ?a29 ?l29 ?c29 ?k29 ?a30 ?l30 ?c30 ?k30 ?a31 ?l31 ?c31 ?k31 ?a32 ?l32 ?c32 ?k32 ?a33 ?l33 ?c33 ?k33 ?a34 ?l34 ?c34 ?k34 ?a35 ?l35 ?c35 ?k35 ?a36 ?l36 ?c36 ?k36 ?a37 ?l37 ?c37 ?k37 ?a38 ?l38 ?c38 ?k38 ?a39 ?l39 ?c39 ?k39 ?a40 ?l40 ?c40 ?k40 ?a41 ?l41 ?c41 ?k41 ?a42 ?l42 ?c42 ?k42 ?a43 ?l43 ?c43 ?k43 ?a44 ?l44 ?c44 ?k44 ?a45 ?l45 ?c45 ?k45 ?a46 ?l46 ?c46 ?k46 ?a47 ?l47 ?c47 ?k47 ?z0 ?z1 ?z2 ?z3 ?z4 ?z5 ?z6 ?z7 ?z8 ?z9 ?z10 ?y0 ?y1 ?y2 ?q0 ?q1 ?s0 ?s1 ?n0 ?n1 ?n2 ?n3 ?n4 ?n5 ?xa0 ?xa1 ?xa2 ?xa3 ?xa4 ?xa5 ?xa6 ?xa7 ?xa8 ?xa9 ?xa10 ?xa11 ?xa12 ?xa13 ?xa14 ?xa15 ?xa16 ?xa17 ?xaB ?xb0 ?xb1 ?xb2 ?xb3 ?xb4 ?xb5 ?xb6 ?xc0 ?xc1 ?xc2 ?xd0 ?xd1 ?xd2 ?xe0 ?xe1 ?xe2 ?xe3 ?xe4 ?xe5 ?xe6 ?xe7 ?xf0 ?xg0 ?xg1 ?xg2 ?xg3 ?xh0 ?xh1 ?ga ?gs ?gt ?gk ?gu ?ha ?hs ?ht ?hk ?hu ?tb0 ?tb2 ?tb3 ?tb6 ?te0 ?te1 ?te2 ?te3 ?te4 ?te5 ?tf0 ?tg0 ?tg1 ?tg2 ?tg3 ?th0 ?th1
    case a0 | l0 | c0 | k0 | a1 | l1 | c1 | k1 | a2 | l2 | c2 | k2 | a3 | l3 | c3 | k3 | a4 | l4 | c4 | k4 | a5 | l5 | c5 | k5 | a6 | l6 | c6 | k6 | a7 | l7 | c7 | k7 | a8 | l8 | c8 | k8 | a9 | l9 | c9 | k9 | a10 | l10 | c10 | k10 | a11 | l11 | c11 | k11 | a12 | l12 | c12 | k12 | a13 | l13 | c13 | k13 | a14 | l14 | c14 | k14 | a15 | l15 | c15 | k15 | a16 | l16 | c16 | k16 | a17 | l17 | c17 | k17 | a18 | l18 | c18 | k18 | a19 | l19 | c19 | k19 | a20 | l20 | c20 | k20 | a21 | l21 | c21 | k21 | a22 | l22 | c22 | k22 | a23 | l23 | c23 | k23 | a24 | l24 | c24 | k24 | a25 | l25 | c25 | k25 | a26 | l26 | c26 | k26 | a27 | l27 | c27 | k27 | a28 | l28 | c28 | k28 | a29 | l29 | c29 | k29 | a30 | l30 | c30 | k30 | a31 | l31 | c31 | k31 | a32 | l32 | c32 | k32 | a33 | l33 | c33 | k33 | a34 | l34 | c34 | k34 | a35 | l35 | c35 | k35 | a36 | l36 | c36 | k36 | a37 | l37 | c37 | k37 | a38 | l38 | c38 | k38 | a39 | l39 | c39 | k39 | a40 | l40 | c40 | k40 | a41 | l41 | c41 | k41 | a42 | l42 | c42 | k42 | a43 | l43 | c43 | k43 | a44 | l44 | c44 | k44 | a45 | l45 | c45 | k45 | a46 | l46 | c46 | k46 | a47 | l47 | c47 | k47 | z0 | z1 | z2 | z3 | z4 | z5 | z6 | z7 | z8 | z9 | z10 | y0 | y1 | y2 | q0 | q1 | s0 | s1 | n0 | n1 | n2 | n3 | n4 | n5 | xa0 | xa1 | xa2 | xa3 | xa4 | xa5 | xa6 | xa7 | xa8 | xa9 | xa10 | xa11 | xa12 | xa13 | xa14 | xa15 | xa16 | xa17 | xaB | xb0=>k_is
    case xb1=>first | rfl | kernel_rfl
    case xb2 | xb3 | xb4 | xb5 | xb6 | xc0 | xc1 | xc2 | xd0 | xd1 | xd2 | xe0 | xe1 | xe2 | xe3 | xe4 | xe5 | xe6 | xe7=>k_is
    case xf0 | xg0 | xg1 | xg2 | xg3 | xh0 | xh1=>first | rfl | kernel_rfl
    case ga | gs | gt | gk | gu | ha | hs | ht | hk | hu | tb0=>k_is
    case tb2=>first | rfl | kernel_rfl
    case tb3 | tb6 | te0 | te1 | te2 | te3 | te4 | te5=>k_is
    case tf0 | tg0 | tg1 | tg2 | tg3 | th0 | th1=>first | rfl | kernel_rfl
