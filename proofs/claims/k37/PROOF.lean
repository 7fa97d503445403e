import PyProof.Rows.All
import Wide.All
import OpenK.AllK
import Wide.FinOn
import Lean
import PyProof.EqAt
import PyProof.EqKinds
import PyProof.TupleCall
import PyProof.StrReplace2
import PyProof.DictItems
import PyProof.EnumStmt
import PyProof.EnumFor
import PyProof.DictItemsLoops
import PyProof.ZipIter
import PyProof.IsRules
import PyProof.Rows.SortRev
import KE.KIntText
import OpenK.KRaise
import KE.TryInHelper
import PyProof.RulesRaise
import PyProof.Rows.RaiseClass
import PyProof.RaisesMany
import PyProof.ExcClass3
import PyProof.ExcBaseAll.ValueError
import KE.KTryMore
import PyProof.InstStoreFacts
import OpenK.KMake
import PyProof.ExcAttrAll.ValueError
import KE.KIsAll
import OpenK.KWalk
import OpenK.KDescr
import PyProof.PureStr
import PyProof.ExcStr
import PyProof.CallStr
import KE.KCallOwn
import KE.KSortTup
import PyProof.Rows.StrCut
import PyProof.StrBlock
import KE.IntTextLaws
import PyProof.DictValues
import PyProof.DictWalks
import PyProof.Rows.Range3
import KE.KDictOf
import PySem.Challenge.RW_cabinet_k37_changes_beyond
set_option Elab.async false
set_option linter.all false
set_option maxRecDepth 100000
set_option maxHeartbeats 4000000
namespace L2
open PySem PySem.Spec PyProof.Rows
abbrev Key:=Sum Int Str
def keyIs : Key → Value → Bool
  | .inl k,v=>Value.isInt k v
  | .inr x,v=>Value.isStrOf x v
def keyH (w : World) : Key → Int
  | .inl k=>hashInt k
  | .inr x=>hashStr w x
theorem yQ : ∀ {k : Key} {v : Value},keyIs k v = true → (∃ i t,k = Sum.inl i ∧ v = Value.int i t) ∨ (∃ x t,k = Sum.inr x ∧ v = Value.str x t)
  | .inl i,v,h=>by
    obtain ⟨t,e⟩:=Value.isInt_shape (k:=i) (v:=v) h
    exact .inl ⟨i,t,rfl,e⟩
  | .inr x,v,h=>by
    obtain ⟨t,e⟩:=Value.isStrOf_shape (x:=x) (v:=v) h
    exact .inr ⟨x,t,rfl,e⟩
theorem zGv (i : Int) (t : Tok) : keyIs (.inl i) (.int i t) = true:=by simp [keyIs,Value.isInt]
theorem zHc (x : Str) (t : Tok) : keyIs (.inr x) (.str x t) = true:=by simp [keyIs,Value.isStrOf]
theorem zNh (a b : Int) : decide ((Sum.inl a : Key) = Sum.inl b) = (a == b):=by
  by_cases e : a = b
  · subst e; simp
  · have h : ¬ (Sum.inl a : Key) = Sum.inl b:=fun q=>e (Sum.inl.inj q)
    rw [decide_eq_false h]
    exact (beq_eq_false_iff_ne.mpr e).symm
theorem zMr (a b : Str) : decide ((Sum.inr a : Key) = Sum.inr b) = decide (a = b):=by
  by_cases e : a = b
  · subst e; simp
  · have h : ¬ (Sum.inr a : Key) = Sum.inr b:=fun q=>e (Sum.inr.inj q)
    rw [decide_eq_false h,decide_eq_false e]
theorem zNj (a : Int) (b : Str) : decide ((Sum.inl a : Key) = Sum.inr b) = false:=decide_eq_false (fun q=>nomatch q)
theorem zNv (a : Str) (b : Int) : decide ((Sum.inr a : Key) = Sum.inl b) = false:=decide_eq_false (fun q=>nomatch q)
def mixKind (prog : Program) (w : World) : PySem.KeyKind prog w Key where
  is:=keyIs
  hash:=keyH w
  inj:=fun v a b ha hb=>by
    rcases yQ ha with ⟨i,t,rfl,rfl⟩ | ⟨x,t,rfl,rfl⟩
    · rcases yQ hb with ⟨j,u,rfl,e⟩ | ⟨y,u,rfl,e⟩
      · injection e with e1 _; rw [e1]
      · exact nomatch e
    · rcases yQ hb with ⟨j,u,rfl,e⟩ | ⟨y,u,rfl,e⟩
      · exact nomatch e
      · injection e with e1 _; rw [e1]
  byValue:=fun k v h=>by
    rcases yQ h with ⟨i,t,rfl,rfl⟩ | ⟨x,t,rfl,rfl⟩ <;> rfl
  pyHash:=fun hv h=>by
    rcases yQ hv with ⟨i,t,rfl,rfl⟩ | ⟨x,t,rfl,rfl⟩
    · exact wpAny_pyHash_int h
    · exact wpAny_pyHash_str h
  eqBool:=fun hu hv h=>by
    rcases yQ hu with ⟨i,t,rfl,rfl⟩ | ⟨x,t,rfl,rfl⟩
    · rcases yQ hv with ⟨j,u,rfl,rfl⟩ | ⟨y,u,rfl,rfl⟩
      · rw [zNh] at h; exact wpAny_eqBool_int h
      · rw [zNj] at h; exact SeqAt.EqAt.int_str i t y u _ _ _ _ h
    · rcases yQ hv with ⟨j,u,rfl,rfl⟩ | ⟨y,u,rfl,rfl⟩
      · rw [zNv] at h; exact SeqAt.EqAt.str_int x t j u _ _ _ _ h
      · rw [zMr] at h; exact wpAny_eqBool_str h
  «strs»:=fun k x t v h=>by
    rcases yQ h with ⟨i,u,rfl,e⟩ | ⟨y,u,rfl,e⟩
    · exact nomatch e
    · injection e with e1 _
      subst e1
      cases v <;> rfl
theorem zBz (prog : Program) (w : World) (i : Int) (t : Tok) : (mixKind prog w).is (.inl i) (.int i t) = true:=zGv i t
theorem zCo (prog : Program) (w : World) (x : Str) (t : Tok) : (mixKind prog w).is (.inr x) (.str x t) = true:=zHc x t
inductive V where
  | non | bl (b : Bool) | int (i : Int) | str (x : Str) | byt (b : Array UInt8) | flt (b : UInt64) | ref (a : Addr) | ty (n : String)
  deriving DecidableEq
def RelV : V → Value → Prop
  | .non,u=>u = Value.none
  | .bl b,u=>u = Value.bool b
  | .int i,u=>∃ t,u = Value.int i t
  | .str x,u=>∃ t,u = Value.str x t
  | .byt b,u=>∃ t,u = Value.bytes b t
  | .flt b,u=>∃ t,u = Value.float b t
  | .ref a,u=>u = Value.ref a
  | .ty n,u=>u = Value.type n
abbrev Vals : List V → List Value → Prop:=Paired RelV
theorem Vals.length {xs : List V} {us : List Value} (r : Vals xs us) : xs.length = us.length:=Paired.length r
theorem Vals.get : ∀ {xs : List V} {us : List Value} {i : Nat} {x : V},Vals xs us → xs[i]? = some x → ∃ u,us[i]? = some u ∧ RelV x u
  | _,_,_,_, .nil,e=>by simp at e
  | _,_,0,_, .cons r _,e=>by simp at e; subst e; exact ⟨_,rfl,r⟩
  | _,_,i + 1,x, .cons _ t,e=>by
    obtain ⟨u,h1,h2⟩:=Vals.get (i:=i) (x:=x) t (by simpa using e)
    exact ⟨u,by simpa using h1,h2⟩
theorem Vals.set {x : V} {u : Value} (r : RelV x u) : ∀ {xs : List V} {us : List Value} (i : Nat),Vals xs us → Vals (xs.set i x) (us.set i u)
  | _,_,_, .nil=>.nil
  | _,_,0, .cons _ t=>.cons r t
  | _,_,i + 1, .cons q t=>.cons q (Vals.set r i t)
theorem Vals.append : ∀ {xs ys : List V} {us ws : List Value},Vals xs us → Vals ys ws → Vals (xs ++ ys) (us ++ ws)
  | _,_,_,_, .nil,s=>s
  | _,_,_,_, .cons r t,s=>.cons r (Vals.append t s)
theorem Vals.take : ∀ {xs : List V} {us : List Value} (n : Nat),Vals xs us → Vals (xs.take n) (us.take n)
  | _,_,0,_=>.nil
  | _,_,_ + 1, .nil=>.nil
  | _,_,n + 1, .cons r t=>.cons r (Vals.take n t)
theorem Vals.drop : ∀ {xs : List V} {us : List Value} (n : Nat),Vals xs us → Vals (xs.drop n) (us.drop n)
  | _,_,0,r=>r
  | _,_,_ + 1, .nil=>.nil
  | _,_,n + 1, .cons _ t=>Vals.drop n t
def RelO : Option V → Option Value → Prop
  | some v,some u=>RelV v u
  | none,none=>True
  | _,_=>False
def KV {κ : Type} : List (κ × V) → List (κ × Value) → Prop:=Paired fun (p : κ × V) (q : κ × Value)=>p.1 = q.1 ∧ RelV p.2 q.2
def kV : Key → V
  | .inl i=>.int i
  | .inr x=>.str x
inductive HO where
  /-- a list -/
  | lst (xs : List V)
  /-- a tuple (never changes) -/
  | tup (xs : List V)
  /-- a dict whose keys are ints and texts; one whose keys are tuples of ints and texts (the empty one is both) -/
  | dK (kvs : List (Key × V)) | dT (kvs : List (List Key × V))
  /-- a set of ints: its members,its size -/
  | set (S : Int → Bool) (n : Nat)
  /-- an instance of the class at C,its dict at dx,its attributes -/
  | ins (C dx : Addr) (fs : List (Str × V))
  /-- the dict of the instance at x -/
  | own (x : Addr)
  /-- the dict of an exception -/
  | xd (fs : List (Str × V))
  /-- a bound method,f of x -/
  | met (f x : Addr)
  /-- a range object lo,lo + 1, .. below hi -/
  | rng (lo hi : Int)
  /-- a thing that is known to the object (the script; a dict while a loop walks it): read,never written while it is so -/
  | frz (o : Obj) (u : HO)
  /-- a code object's table -/
  | tbl (ps : Array Value)
  /-- any other thing,by what is true of its one object (a def of one's own: SetO a S n:=HO.ext fun h=>..) -/
  | ext (φ : Heap → Prop)
abbrev Hp:=Addr → Option HO
def upd (H : Hp) (a : Addr) (o : HO) : Hp:=fun b=>if b = a then some o else H b
theorem zC {H : Hp} {a : Addr} {o : HO} : upd H a o a = some o:=by unfold upd; rw [if_pos rfl]
theorem zM {H : Hp} {a b : Addr} {o : HO} (h : b ≠ a) : upd H a o b = H b:=by unfold upd; rw [if_neg h]
theorem zEz {H : Hp} {a : Addr} {o u : HO} : upd (upd H a o) a u = upd H a u:=by
  funext b; unfold upd; split <;> rfl
theorem ne_of {H : Hp} {a b : Addr} {o u : HO} (h : H a = some o) (h' : H b = some u) (d : o ≠ u) : a ≠ b:=by
  intro e; subst e; rw [h] at h'; exact d (Option.some.inj h')
theorem zY {H : Hp} {a b : Addr} {o : HO} (h : H a = some o) (h' : H b = none) : a ≠ b:=by
  intro e; subst e; rw [h] at h'; cases h'
section
variable (P : Program) (w : World)
def ObjOk (H : Hp) (h : Heap) (a : Addr) : HO → Prop
  | .lst xs=>xs.length ≤ sizeLine ∧ ∃ (its : List Value) (n : Nat),Vals xs its ∧ h.get? a = some { cls:=.type "list",data:=.seq its.toArray n }
  | .tup xs=>xs.length ≤ sizeLine ∧ ∃ its : List Value,Vals xs its ∧ IsTup h a its.toArray
  | .dK kvs=>kvs.length ≤ sizeLine ∧ (a == sysModules) = false ∧ ∃ vs,KV kvs vs ∧ h.DictOf (mixKind P w) a vs
  | .dT kvs=>kvs.length ≤ sizeLine ∧ (a == sysModules) = false ∧ ∃ xs : List (List Key × Addr × Value),
      Paired (fun (p : List Key × V) (q : List Key × Addr × Value)=>p.1 = q.1 ∧ H q.2.1 = some (.tup (p.1.map kV)) ∧ RelV p.2 q.2.2) kvs xs ∧
      ∃ o es ep,h.get? a = some o ∧ o.ExactDict ∧ o.data = .dict es ep ∧ es.toList = xs.map (entryOfKey (tupleKind (mixKind P w))) ∧ (xs.map (·.1)).Nodup
  | .set S n=>h.SetOf (intKind P w) a S n
  | .ins C dx fs=>H dx = some (.own a) ∧ fs.length ≤ 1000 ∧ dx ≠ a ∧ h.get? a = some (PySem.W.instObj C dx) ∧
      ∃ mA,h.Ns1 dx mA ∧ (∀ f,RelO (fs.lookup f) (mA f)) ∧ PySem.Within mA (fs.map (·.1))
  | .own _=>∃ o,h.get? a = some o
  | .xd fs=>∃ mA,h.Ns1 a mA ∧ ∀ f,RelO (fs.lookup f) (mA f)
  | .rng lo hi=>∃ t u v,h.get? a = some { cls:=.type "range",data:=.fields #[.int lo t, .int hi u, .int 1 v] }
  | .frz o u=>h.get? a = some o ∧ ObjOk H h a u
  | .tbl ps=>h.get? a = some { cls:=.none,data:=.fields ps }
  | .met f x=>h.get? a = some (PySem.W.methodObj (.ref f) (.ref x))
  | .ext φ=>φ h ∧ (∃ o,h.get? a = some o) ∧ ∀ h1 h2 : Heap,φ h1 → (∀ o,h1.get? a = some o → h2.get? a = some o) → φ h2
def HOk (H : Hp) (h : Heap) : Prop:=∀ a o,H a = some o → ObjOk P w H h a o
end
section
variable {P : Program} {w : World} {H H' : Hp} {h h' : Heap} {a : Addr} {o : HO}
theorem ObjOk.lt (x : ObjOk P w H h a o) : a < h.objs.size:=by
  cases o with
  | lst xs=>obtain ⟨_,_,_,_,e⟩:=x; exact Heap.lt_size e
  | tup xs=>obtain ⟨_,_,_,p⟩:=x; exact p.lt
  | dK kvs=>obtain ⟨_,_,_,_,o,_,_,e,_⟩:=x; exact Heap.lt_size e
  | dT kvs=>obtain ⟨_,_,_,_,o,_,_,e,_⟩:=x; exact Heap.lt_size e
  | set S n=>obtain ⟨o,_,_,_,e,_⟩:=x; exact Heap.lt_size e
  | ins C dx fs=>obtain ⟨_,_,_,e,_⟩:=x; exact Heap.lt_size e
  | own y=>obtain ⟨_,e⟩:=x; exact Heap.lt_size e
  | xd fs=>obtain ⟨_,⟨_,_,_,e,_⟩,_⟩:=x; exact Heap.lt_size e
  | rng lo hi=>obtain ⟨_,_,_,e⟩:=x; exact Heap.lt_size e
  | frz ob u=>obtain ⟨e,_⟩:=x; exact Heap.lt_size e
  | tbl ps=>exact Heap.lt_size (show h.get? a = some _ from x)
  | met f y=>exact Heap.lt_size (show h.get? a = some _ from x)
  | ext φ=>obtain ⟨_,⟨_,e⟩,_⟩:=x; exact Heap.lt_size e
theorem Paired.mapP {α β : Type} {F G : α → β → Prop} : ∀ {l₁ : List α} {l₂ : List β},Paired F l₁ l₂ → (∀ a b,F a b → G a b) → Paired G l₁ l₂
  | _,_, .nil,_=>.nil
  | _,_, .cons r t,f=>.cons (f _ _ r) (Paired.mapP t f)
theorem ObjOk.stay (x : ObjOk P w H h a o) (k : ∀ b u,(b = a ∨ H b = some (.own a)) → h.get? b = some u → h'.get? b = some u)
    (ho : ∀ b,H b = some (.own a) → H' b = some (.own a)) (ht : ∀ b xs,H b = some (.tup xs) → H' b = some (.tup xs)) : ObjOk P w H' h' a o:=by
  induction o with
  | lst xs=>obtain ⟨z,its,n,r,e⟩:=x; exact ⟨z,its,n,r,k _ _ (.inl rfl) e⟩
  | tup xs=>obtain ⟨z,its,r,ob,e,c⟩:=x; exact ⟨z,its,r,ob,k _ _ (.inl rfl) e,c⟩
  | dK kvs=>obtain ⟨z,y,vs,r,ob,es,ep,e,c⟩:=x; exact ⟨z,y,vs,r,ob,es,ep,k _ _ (.inl rfl) e,c⟩
  | dT kvs =>
    obtain ⟨z,y,xs,r,ob,es,ep,e,c⟩:=x
    exact ⟨z,y,xs,Paired.mapP r fun p q z=>⟨z.1,ht _ _ z.2.1,z.2.2⟩,ob,es,ep,k _ _ (.inl rfl) e,c⟩
  | set S n=>obtain ⟨ob,es,ep,t,e,c⟩:=x; exact ⟨ob,es,ep,t,k _ _ (.inl rfl) e,c⟩
  | ins C dx fs =>
    obtain ⟨d,z,ne,e,mA,⟨od,es,ep,e2,c⟩,r⟩:=x
    exact ⟨ho _ d,z,ne,k _ _ (.inl rfl) e,mA,⟨od,es,ep,k _ _ (.inr d) e2,c⟩,r⟩
  | own y=>obtain ⟨ob,e⟩:=x; exact ⟨ob,k _ _ (.inl rfl) e⟩
  | xd fs=>obtain ⟨mA,⟨od,es,ep,e,c⟩,r⟩:=x; exact ⟨mA,⟨od,es,ep,k _ _ (.inl rfl) e,c⟩,r⟩
  | rng lo hi=>obtain ⟨t,u,v,e⟩:=x; exact ⟨t,u,v,k _ _ (.inl rfl) e⟩
  | frz ob u ih=>obtain ⟨e,q⟩:=x; exact ⟨k _ _ (.inl rfl) e,ih q⟩
  | tbl ps =>
    have e : h.get? a = some { cls:=.none,data:=.fields ps }:=x
    show h'.get? a = some { cls:=.none,data:=.fields ps }
    exact k a _ (.inl rfl) e
  | met f y =>
    have e : h.get? a = some (PySem.W.methodObj (.ref f) (.ref y)):=x
    show h'.get? a = some (PySem.W.methodObj (.ref f) (.ref y))
    exact k a _ (.inl rfl) e
  | ext φ=>obtain ⟨p,⟨o,e⟩,st⟩:=x; exact ⟨st _ _ p fun o q=>k _ _ (.inl rfl) q,⟨o,k _ _ (.inl rfl) e⟩,st⟩
theorem HOk.lt (x : HOk P w H h) (e : H a = some o) : a < h.objs.size:=(x a o e).lt
theorem HOk.fresh (x : HOk P w H h) (e : h.objs.size ≤ a) : H a = none:=by
  cases q : H a with
  | none=>rfl
  | some u=>exact absurd (Nat.lt_of_lt_of_le (x.lt q) e) (Nat.lt_irrefl _)
theorem HOk.kept (x : HOk P w H h) (k : ∀ b u,h.get? b = some u → h'.get? b = some u) : HOk P w H h':=fun a o e =>
  (x a o e).stay (fun b u _ q=>k b u q) (fun _ q=>q) fun _ _ q=>q
theorem HOk.laid (x : HOk P w H h) (k : ∀ b u,h.get? b = some u → h'.get? b = some u) (hp : h.objs.size ≤ a) (new : ObjOk P w (upd H a o) h' a o) : HOk P w (upd H a o) h':=fun b u e=>by
  have hn:=x.fresh hp
  by_cases hb : b = a
  · subst hb; rw [zC] at e; cases e; exact new
  · rw [zM hb] at e
    exact (x b u e).stay (fun c v _ q=>k c v q) (fun c q=>by rw [zM (zY q hn)]; exact q) fun c xs q=>by rw [zM (zY q hn)]; exact q
end
def Rd (H : Hp) (a : Addr) (u : HO) : Prop:=H a = some u ∨ ∃ o,H a = some (.frz o u)
theorem Rd.ok {P : Program} {w : World} {H : Hp} {h : Heap} {a : Addr} {u : HO} (r : Rd H a u) (x : HOk P w H h) : ObjOk P w H h a u:=by
  rcases r with r | ⟨o,r⟩
  · exact x a u r
  · obtain ⟨_,q⟩:=x a _ r
    exact q
def Mut : Option HO → Prop
  | some (.lst _)=>True
  | some (.dK _)=>True
  | some (.dT _)=>True
  | some (.set _ _)=>True
  | some (.ins _ _ _)=>True
  | some (.ext _)=>True
  | _=>False
section
variable {P : Program} {w : World} {H : Hp} {h h' : Heap} {x e : Addr} {o' : HO}
theorem HOk.write (ok : HOk P w H h) (mu : Mut (H x)) (he : e = x ∨ H e = some (.own x)) (k : ∀ b u,b ≠ e → h.get? b = some u → h'.get? b = some u) (heo : ∃ u,h'.get? e = some u)
    (new : ObjOk P w (upd H x o') h' x o') : HOk P w (upd H x o') h':=fun b u q=>by
  have nown : ∀ c y,H c = some (.own y) → c ≠ x:=fun c y r z=>by subst z; rw [r] at mu; exact mu
  have ntup : ∀ c xs,H c = some (.tup xs) → c ≠ x:=fun c xs r z=>by subst z; rw [r] at mu; exact mu
  by_cases hb : b = x
  · subst hb; rw [zC] at q; cases q; exact new
  · rw [zM hb] at q
    by_cases hbe : b = e
    · have q' : H b = some (.own x):=by
        rcases he with z | z
        · exact absurd (hbe.trans z) hb
        · rw [hbe]; exact z
      rw [q] at q'; cases q'
      obtain ⟨v,hv⟩:=heo
      exact ⟨v,by rw [hbe]; exact hv⟩
    · refine (ok b u q).stay (fun c v hc r=>k c v ?_ r) (fun c r=>by rw [zM (nown c b r)]; exact r) fun c xs r=>by rw [zM (ntup c xs r)]; exact r
      rcases hc with rfl | hc
      · exact hbe
      · rintro rfl
        rcases he with z | z
        · exact nown c b hc z
        · rw [hc] at z; cases z; exact hb rfl
end
structure Un (fs ex : List Addr) (H H' : Hp) (h h' : Heap) : Prop where
  keep : ∀ b o,h.get? b = some o → H b = none → b ∉ fs → b ∉ ex → h'.get? b = some o
  slot : ∀ b o,h.get? b = some o → H b = none → b ∈ fs → b ∉ ex → ∃ sl,h'.get? b = some { o with slots:=sl }
  free : ∀ b o,h.get? b = some o → H b = none → b ∉ ex → H' b = none
  there : ∀ b o,h.get? b = some o → b ∉ ex → ∃ o',h'.get? b = some o'
  tups : ∀ b xs,H b = some (.tup xs) → H' b = some (.tup xs)
  frzs : ∀ b o u,H b = some (.frz o u) → H' b = some (.frz o u)
  tbls : ∀ b ps,H b = some (.tbl ps) → ∃ more,H' b = some (.tbl (ps ++ more))
section
variable {fs fs' ex ex' : List Addr} {H H1 H2 : Hp} {h h1 h2 h' : Heap} {a x e : Addr} {o : HO}
theorem Un.any (u : Un fs ex H H1 h h1) {b : Addr} {ob : Obj} (q : h.get? b = some ob) (n : H b = none) (hx : b ∉ ex) : ∃ sl,h1.get? b = some { ob with slots:=sl }:=by
  by_cases hb : b ∈ fs
  · exact u.slot b ob q n hb hx
  · exact ⟨ob.slots,u.keep b ob q n hb hx⟩
theorem Un.kept (k : ∀ b u,h.get? b = some u → h'.get? b = some u) : Un fs ex H H h h' :=
  ⟨fun b ob q _ _ _=>k b ob q,fun b ob q _ _ _=>⟨ob.slots,k b ob q⟩,fun _ _ _ n _=>n,fun b ob q _=>⟨ob,k b ob q⟩,fun _ _ q=>q,fun _ _ _ q=>q,fun _ ps q=>⟨#[],by rw [q]; simp⟩⟩
theorem Un.refl : Un fs ex H H h h:=Un.kept fun _ _ q=>q
theorem Un.laid (k : ∀ b u,h.get? b = some u → h'.get? b = some u) (hp : h.objs.size ≤ a) (hn : H a = none) : Un fs ex H (upd H a o) h h' where
  keep:=fun b u q _ _ _=>k b u q
  slot:=fun b u q _ _ _=>⟨u.slots,k b u q⟩
  free:=fun b u q n _=>by rw [zM (Nat.ne_of_lt (Nat.lt_of_lt_of_le (Heap.lt_size q) hp))]; exact n
  there:=fun b u q _=>⟨u,k b u q⟩
  tups:=fun b xs q=>by rw [zM (zY q hn)]; exact q
  frzs:=fun b u xs q=>by rw [zM (zY q hn)]; exact q
  tbls:=fun b ps q=>⟨#[],by rw [zM (zY q hn),q]; simp⟩
theorem Un.write (mu : Mut (H x)) (he : e = x ∨ H e = some (.own x)) (k : ∀ b u,b ≠ e → h.get? b = some u → h'.get? b = some u) (heo : ∃ u,h'.get? e = some u) : Un fs ex H (upd H x o) h h':=by
  have hx : ∀ b,H b = none → b ≠ x:=fun b n z=>by subst z; rw [n] at mu; exact mu
  have hb : ∀ b,H b = none → b ≠ e:=fun b n z=>by
    subst z
    rcases he with r | r
    · exact hx b n r
    · rw [n] at r; cases r
  have hm : ∀ b u,H b = some u → ¬ Mut (some u) → b ≠ x:=fun b u q nm z=>by subst z; rw [q] at mu; exact nm mu
  refine ⟨fun b u q n _ _=>k b u (hb b n) q,fun b u q n _ _=>⟨u.slots,k b u (hb b n) q⟩,fun b u q n _=>by rw [zM (hx b n)]; exact n,fun b u q _=>?_,
    fun b xs q=>by rw [zM (hm b _ q fun z=>z)]; exact q,fun b u xs q=>by rw [zM (hm b _ q fun z=>z)]; exact q,fun b ps q=>⟨#[],by rw [zM (hm b _ q fun z=>z),q]; simp⟩⟩
  by_cases hbe : b = e
  · subst hbe; exact heo
  · exact ⟨u,k b u hbe q⟩
end
def trk (h : Heap) (H : Hp) : List Addr:=(List.range h.objs.size).filter fun a=>(H a).isSome
def hidT (h : Heap) (H : Hp) : Heap:=PySem.W.hideAll h (trk h H)
theorem zGg (h : Heap) (H : Hp) : (hidT h H).objs.size = h.objs.size:=PySem.W.hideAll_size _ _
theorem zJl {h : Heap} {H : Hp} {b : Addr} {o : Obj} (e : h.get? b = some o) (n : H b = none) : (hidT h H).get? b = some o :=
  PySem.W.hideAll_get _ e fun hm=>by
    have q : (H b).isSome = true:=(List.mem_filter.mp hm).2
    rw [n] at q; simp at q
theorem zLp {h : Heap} {H : Hp} {b : Addr} {o : Obj} (e : (hidT h H).get? b = some o) : h.get? b = some o ∧ H b = none:=by
  have e' : h.get? b = some o:=PySem.W.of_hideAll (trk h H) e
  refine ⟨e', ?_⟩
  cases q : H b with
  | none=>rfl
  | some x =>
    have hm : b ∈ trk h H:=List.mem_filter.mpr ⟨List.mem_range.mpr (Heap.lt_size e'),by simp [q]⟩
    have z : (hidT h H).get? b = none:=PySem.W.hideAll_none (trk h H) hm
    rw [z] at e; cases e
def allNews (g h : Heap) (L : Addr) : List (Addr × Obj):=(List.range h.objs.size).filterMap fun a=>if a = L ∨ (g.get? a).isSome = true then none else (h.get? a).map fun o=>(a,o)
def rest (g h : Heap) (L d : Addr) : List (Addr × Obj):=(allNews g h L).filter fun p=>decide (p.1 ≠ d)
structure Mod (K : PySem.W.Frag) (mg : Str → Option Value) (base : Heap) : Prop where
  kin : K.In base
  glob : base.Ns mainGlobals mg
  blt : ∃ mb,base.Ns builtinsNs mb ∧ ∀ x : Str,x ≠ "__name__" → mb x = bootBuiltins x
  nolimit : base.NoLimit
structure Cx where
  prog : Program
  w : World
  K : PySem.W.Frag
  mg : Str → Option Value
  base : Heap
  A : Around
  N : List Str
  s₀ : Shared
  H₀ : Hp
  env : Env
  outer : List Env
  stack : List Env
  ex : List Addr
  fn : Str → Bool
  calm : Bool
  pn : List (Addr × Obj)
  xe : Value → Shared → Prop
def frs (l : List Env) : List Addr:=l.filterMap (·.frame)
abbrev Cx.fs (X : Cx) : List Addr:=frs X.outer
def Vis (sc : Scope) (x : Str) : Prop:=sc.names.lookup x = some .local ∨ sc.names.lookup x = some .cell ∨ sc.names.lookup x = some .free
def Loc (sc : Scope) (x : Str) : Prop:=sc.names.lookup x = some .local ∨ sc.names.lookup x = some .cell
def Look (env : Env) (h : Heap) (m : Str → Option Value) (x : Str) (u : Value) : Prop :=
  (env.kindOf x = some .local ∧ m x = some u) ∨ ((env.kindOf x = some .cell ∨ env.kindOf x = some .free) ∧ ∃ c,env.cells.lookup x = some c ∧ h.IsCell c (some u))
structure Cx.Ok (X : Cx) : Prop where
  mod : Mod X.K X.mg X.base
  kind : X.env.scope.kind = .function
  glob : X.env.globals = mainGlobals
  blt : X.env.builtins = builtinsNs
  above : X.s₀.heap.objs.size ≤ X.env.locals
  inj : ∀ x y c,X.env.cells.lookup x = some c → X.env.cells.lookup y = some c → x = y
  has : ∀ x,(X.env.kindOf x = some .cell ∨ X.env.kindOf x = some .free) → ∃ c,X.env.cells.lookup x = some c
  cab : ∀ x c,X.fn x = true → X.env.cells.lookup x = some c → X.s₀.heap.objs.size ≤ c
  hd : X.calm = true → X.A.handled = none
  frames : X.A.frames = some X.stack
  stk : X.stack = X.outer ∨ (X.stack = X.env :: X.outer ∧ X.env.frame = some X.env.locals)
  exf : ∀ b ∈ X.ex,b ≠ X.env.locals ∧ ∀ x c,X.env.cells.lookup x = some c → c ≠ b
  bs : ∀ b o,X.base.get? b = some o → X.s₀.heap.get? b = some o ∧ X.H₀ b = none
  bsz : X.base.objs.size ≤ X.s₀.heap.objs.size
  noex : ∀ b o,X.base.get? b = some o → b ∉ X.ex
  exfs : ∀ b ∈ X.ex,b ∉ X.fs
  funs : X.s₀.heap.FunFrames X.base X.outer
  frf : ∀ b ∈ X.fs,X.H₀ b = none
structure Inv (X : Cx) (pins : List (Addr × Obj)) (σ : List (Option V)) (H : Hp) (s : Shared) : Prop where
  ok : X.Ok
  os : s.os = X.s₀.os
  bare : AllBare s.gens
  base : Un X.fs X.ex X.H₀ H X.s₀.heap s.heap
  loc : ∃ m,s.heap.Ns X.env.locals m ∧ ∀ (i : Nat) (x : Str) (v : V),X.N[i]? = some x → σ[i]? = some (some v) → Vis X.env.scope x → ∃ u,RelV v u ∧ Look X.env s.heap m x u
  cell : ∀ x c,X.env.cells.lookup x = some c → ∃ v,s.heap.IsCell c v
  free : H X.env.locals = none
  freeC : ∀ x c,X.env.cells.lookup x = some c → H c = none
  pin : ∀ p ∈ X.pn ++ pins,s.heap.get? p.1 = some p.2 ∧ H p.1 = none ∧ p.1 ≠ X.env.locals ∧ p.1 ∉ X.fs ∧ ∀ v,p.2.data ≠ .cell v
  hok : HOk X.prog X.w H s.heap
  len : σ.length = X.N.length
section
variable {X : Cx} {pins : List (Addr × Obj)} {σ : List (Option V)} {H H' : Hp} {s : Shared} {h' : Heap}
theorem Cx.Ok.nofr (ok : X.Ok) {b : Addr} {o : Obj} (e : X.base.get? b = some o) : b ∉ X.fs:=fun hb=>by
  have:=(ok.funs.mem hb).1
  rw [e] at this; cases this
theorem Inv.bs (I : Inv X pins σ H s) : ∀ b o,X.base.get? b = some o → s.heap.get? b = some o ∧ H b = none:=fun b o e =>
  ⟨I.base.keep b o (I.ok.bs b o e).1 (I.ok.bs b o e).2 (I.ok.nofr e) (I.ok.noex b o e),I.base.free b o (I.ok.bs b o e).1 (I.ok.bs b o e).2 (I.ok.noex b o e)⟩
theorem Inv.bk (I : Inv X pins σ H s) : ∀ b o,X.base.get? b = some o → s.heap.get? b = some o:=fun b o e=>(I.bs b o e).1
theorem Inv.mod (I : Inv X pins σ H s) : Mod X.K X.mg X.base:=I.ok.mod
theorem Inv.kIn (I : Inv X pins σ H s) : X.K.In s.heap:=I.ok.mod.kin.keeps I.bk
theorem Inv.lt (I : Inv X pins σ H s) : X.env.locals < s.heap.objs.size:=let ⟨_,hn,_⟩:=I.loc; hn.lt
theorem Inv.sz (I : Inv X pins σ H s) : X.s₀.heap.objs.size ≤ s.heap.objs.size:=Nat.le_trans I.ok.above (Nat.le_of_lt I.lt)
theorem Inv.nofs (I : Inv X pins σ H s) {a : Addr} (h : s.heap.objs.size ≤ a) : a ∉ X.fs:=fun hb=>by
  obtain ⟨_,o,ho,_⟩:=I.ok.funs.mem hb
  exact absurd (Nat.lt_of_lt_of_le (Heap.lt_size ho) (Nat.le_trans I.sz h)) (Nat.lt_irrefl _)
theorem Inv.cne (I : Inv X pins σ H s) : ∀ x c,X.env.cells.lookup x = some c → c ≠ X.env.locals:=fun x c e z=>by
  obtain ⟨v,o,ho,hd⟩:=I.cell x c e
  obtain ⟨m,⟨o',es,ep,ho',hd',_⟩,_⟩:=I.loc
  rw [z,ho'] at ho; cases ho; rw [hd'] at hd; cases hd
theorem Inv.funs (I : Inv X pins σ H s) : s.heap.FunFrames X.base X.outer:=by
  have all : ∀ (l : List Env),(∀ b ∈ frs l,b ∈ X.fs) → X.s₀.heap.FunFrames X.base l → s.heap.FunFrames X.base l:=by
    intro l
    induction l with
    | nil=>intro _ _; trivial
    | cons env r ih =>
      intro hs hl
      obtain ⟨hk,⟨L,o,hf,hn,ho,hd⟩,hr⟩:=hl
      have hL : L ∈ X.fs:=hs L (by unfold frs; rw [List.filterMap_cons,hf]; exact List.mem_cons_self)
      obtain ⟨sl,e⟩:=I.base.slot L o ho (I.ok.frf L hL) hL fun z=>I.ok.exfs L z hL
      exact ⟨hk,⟨L,_,hf,hn,e,hd⟩,ih (fun b hb=>hs b (by unfold frs; rw [List.filterMap_cons,hf]; exact List.mem_cons_of_mem _ hb)) hr⟩
  exact all X.outer (fun _ hb=>hb) I.ok.funs
theorem Inv.stack (I : Inv X pins σ H s) : s.heap.FunFrames X.base X.stack:=by
  rcases I.ok.stk with e | ⟨e,hf⟩
  · rw [e]; exact I.funs
  · rw [e]
    obtain ⟨m,hn,_⟩:=I.loc
    refine .cons (by rw [I.ok.kind]; decide) hf hn ?_ I.funs
    exact Heap.get?_none_of_le (Nat.le_trans I.ok.bsz I.ok.above)
theorem Inv.stkSub (I : Inv X pins σ H s) : ∀ b ∈ frs X.stack,b ∈ X.env.locals :: X.fs:=fun b hb=>by
  rcases I.ok.stk with e | ⟨e,hf⟩
  · rw [e] at hb; exact List.mem_cons_of_mem _ hb
  · rw [e] at hb
    unfold frs at hb
    rw [List.filterMap_cons,hf] at hb
    exact hb
theorem Inv.stkFree (I : Inv X pins σ H s) : ∀ b ∈ frs X.stack,H b = none:=fun b hb=>by
  rcases List.mem_cons.mp (I.stkSub b hb) with e | hb
  · rw [e]; exact I.free
  · obtain ⟨_,o,ho,_⟩:=I.ok.funs.mem hb
    exact I.base.free b o ho (I.ok.frf b hb) fun z=>I.ok.exfs b z hb
theorem Inv.step {g' : Array GenState} {t' : Nat} {d' : Drawn} {ch : List Addr} (I : Inv X pins σ H s)
    (hch : ∀ b ∈ ch,(b ∈ X.ex ∨ X.s₀.heap.objs.size ≤ b) ∧ b ≠ X.env.locals ∧ (∀ x c,X.env.cells.lookup x = some c → c ≠ b) ∧ ∀ p ∈ X.pn ++ pins,p.1 ≠ b)
    (keep : ∀ b o,b ≠ X.env.locals → b ∉ X.fs → b ∉ ch → s.heap.get? b = some o → H b = none → h'.get? b = some o)
    (slot : ∀ b o,b ≠ X.env.locals → b ∈ X.fs → b ∉ ch → s.heap.get? b = some o → H b = none → ∃ sl,h'.get? b = some { o with slots:=sl }) (free : ∀ b o,b ∉ ch → s.heap.get? b = some o → H b = none → H' b = none)
    (there : ∀ b o,b ∉ ch → s.heap.get? b = some o → ∃ o',h'.get? b = some o')
    (tups : ∀ b xs,H b = some (.tup xs) → H' b = some (.tup xs)) (frzs : ∀ b o u,H b = some (.frz o u) → H' b = some (.frz o u)) (tbls : ∀ b ps,H b = some (.tbl ps) → ∃ more,H' b = some (.tbl (ps ++ more)))
    (ns : ∀ m,s.heap.Ns X.env.locals m → h'.Ns X.env.locals m) (hok : HOk X.prog X.w H' h') (hg : AllBare g') :
    Inv X pins σ H' { s with heap:=h',gens:=g',drawn:=d',toks:=t' }:=by
  have neL : ∀ b o,X.s₀.heap.get? b = some o → b ≠ X.env.locals:=fun b o e=>Nat.ne_of_lt (Nat.lt_of_lt_of_le (Heap.lt_size e) I.ok.above)
  have neC : ∀ b o,X.s₀.heap.get? b = some o → b ∉ X.ex → b ∉ ch:=fun b o e hx hb=>by
    rcases (hch b hb).1 with z | z
    · exact hx z
    · exact absurd (Nat.lt_of_lt_of_le (Heap.lt_size e) z) (Nat.lt_irrefl _)
  have cellK : ∀ x c,X.env.cells.lookup x = some c → ∀ v,s.heap.IsCell c v → h'.IsCell c v:=fun x c e v ⟨o,ho,hd⟩=>by
    have nch : c ∉ ch:=fun z=>(hch c z).2.2.1 x c e rfl
    by_cases hc : c ∈ X.fs
    · obtain ⟨sl,q⟩:=slot c o (I.cne x c e) hc nch ho (I.freeC x c e)
      exact ⟨_,q,hd⟩
    · exact ⟨o,keep c o (I.cne x c e) hc nch ho (I.freeC x c e),hd⟩
  refine ⟨I.ok,I.os,hg,⟨fun b o e n hb hx=>?_,fun b o e n hb hx=>?_,fun b o e n hx=>?_,fun b o e hx=>?_,fun b xs e=>tups b xs (I.base.tups b xs e),fun b o xs e=>frzs b o xs (I.base.frzs b o xs e),fun b ps e=>?_⟩, ?_,fun x c e=>?_, ?_,fun x c e=>?_,fun p hp=>?_,hok,I.len⟩
  · exact keep b o (neL b o e) hb (neC b o e hx) (I.base.keep b o e n hb hx) (I.base.free b o e n hx)
  · obtain ⟨sl,e1⟩:=I.base.slot b o e n hb hx
    obtain ⟨sl',e2⟩:=slot b _ (neL b o e) hb (neC b o e hx) e1 (I.base.free b o e n hx)
    exact ⟨sl',e2⟩
  · obtain ⟨o',e1⟩:=I.base.there b o e hx
    exact free b o' (neC b o e hx) e1 (I.base.free b o e n hx)
  · obtain ⟨o',e1⟩:=I.base.there b o e hx
    exact there b o' (neC b o e hx) e1
  · obtain ⟨m1,e1⟩:=I.base.tbls b ps e
    obtain ⟨m2,e2⟩:=tbls b _ e1
    exact ⟨m1 ++ m2,by rw [e2,Array.append_assoc]⟩
  · obtain ⟨m,hn,hl⟩:=I.loc
    refine ⟨m,ns m hn,fun i x v e1 e2 e3=>?_⟩
    obtain ⟨u,r,l⟩:=hl i x v e1 e2 e3
    refine ⟨u,r, ?_⟩
    rcases l with l | ⟨k,c,e,z⟩
    · exact .inl l
    · exact .inr ⟨k,c,e,cellK x c e _ z⟩
  · obtain ⟨v,z⟩:=I.cell x c e
    exact ⟨v,cellK x c e v z⟩
  · obtain ⟨m,⟨o,_,_,ho,_⟩,_⟩:=I.loc
    exact free _ o (fun z=>(hch _ z).2.1 rfl) ho I.free
  · obtain ⟨v,o,ho,hd⟩:=I.cell x c e
    exact free c o (fun z=>(hch c z).2.2.1 x c e rfl) ho (I.freeC x c e)
  · obtain ⟨e,n,ne,nf,d⟩:=I.pin p hp
    have nch : p.1 ∉ ch:=fun z=>(hch p.1 z).2.2.2 p hp rfl
    exact ⟨keep p.1 p.2 ne nf nch e n,free p.1 p.2 nch e n,ne,nf,d⟩
theorem Inv.un {t' : Nat} (I : Inv X pins σ H s) (u : Un X.fs [] H H' s.heap h') (hok : HOk X.prog X.w H' h') : Inv X pins σ H' { s with heap:=h',toks:=t' }:=by
  obtain ⟨m,⟨o,es,ep,ho,r⟩,_⟩:=id I.loc
  obtain ⟨sl,hL⟩:=u.any ho I.free (by simp)
  exact I.step (g':=s.gens) (d':=s.drawn) (ch:=[]) (fun _ z=>nomatch z) (fun b o _ hb _ e n=>u.keep b o e n hb (by simp)) (fun b o _ hb _ e n=>u.slot b o e n hb (by simp)) (fun b o _ e n=>u.free b o e n (by simp)) (fun b o _ e=>u.there b o e (by simp)) u.tups u.frzs u.tbls (fun m' hm=>by
    obtain ⟨o',es',ep',ho',r'⟩:=hm
    rw [ho] at ho'; cases ho'
    exact ⟨_,es',ep',hL,r'⟩) hok I.bare
theorem Inv.call {g' : Array GenState} {t' : Nat} {d' : Drawn} {ch : List Addr} (I : Inv X pins σ H s) (u : Un (frs X.stack) ch H H' s.heap h') (hok : HOk X.prog X.w H' h') (hg : AllBare g')
    (hch : ∀ b ∈ ch,(b ∈ X.ex ∨ X.s₀.heap.objs.size ≤ b) ∧ b ≠ X.env.locals ∧ (∀ x c,X.env.cells.lookup x = some c → c ≠ b) ∧ ∀ p ∈ X.pn ++ pins,p.1 ≠ b) :
    Inv X pins σ H' { s with heap:=h',gens:=g',drawn:=d',toks:=t' }:=by
  obtain ⟨m,⟨o,es,ep,ho,r⟩,_⟩:=id I.loc
  obtain ⟨sl,hL⟩:=u.any ho I.free fun z=>(hch _ z).2.1 rfl
  exact I.step (ch:=ch) hch (fun b o hL hb hc e n=>u.keep b o e n (fun z=>(List.mem_cons.mp (I.stkSub b z)).elim hL hb) hc) (fun b o _ _ hc e n=>u.any e n hc) (fun b o hc e n=>u.free b o e n hc) (fun b o hc e=>u.there b o e hc) u.tups u.frzs u.tbls (fun m' hm=>by
    obtain ⟨o',es',ep',ho',r'⟩:=hm
    rw [ho] at ho'; cases ho'
    exact ⟨_,es',ep',hL,r'⟩) hok hg
theorem Inv.turned {t' : Nat} {it : Addr} (I : Inv X pins σ H s) (k : ∀ b o,b ≠ it → s.heap.get? b = some o → h'.get? b = some o) (hn : H it = none) (hL : it ≠ X.env.locals)
    (h1 : it ∈ X.ex ∨ X.s₀.heap.objs.size ≤ it) (h2 : ∀ x c,X.env.cells.lookup x = some c → c ≠ it) (h3 : ∀ p ∈ X.pn ++ pins,p.1 ≠ it) : Inv X pins σ H { s with heap:=h',toks:=t' }:=by
  have nit : ∀ b u,H b = some u → b ≠ it:=fun b u e z=>by rw [z,hn] at e; cases e
  refine I.step (g':=s.gens) (d':=s.drawn) (ch:=[it]) (fun b hb=>?_) (fun b o _ _ hc e _=>k b o (fun z=>hc (by simp [z])) e) (fun b o _ _ hc e _=>⟨o.slots,k b o (fun z=>hc (by simp [z])) e⟩) (fun _ _ _ _ n=>n)
    (fun b o hc e=>⟨o,k b o (fun z=>hc (by simp [z])) e⟩) (fun _ _ e=>e) (fun _ _ _ e=>e) (fun b ps e=>⟨#[],by rw [e]; simp⟩) (fun m hm=>?_) (fun b u e=>?_) I.bare
  · have e : b = it:=by simpa using hb
    subst e
    exact ⟨h1,hL,h2,h3⟩
  · obtain ⟨o,es,ep,ho,r⟩:=hm
    exact ⟨o,es,ep,k _ o (Ne.symm hL) ho,r⟩
  · refine (I.hok b u e).stay (fun c v hc q=>k c v ?_ q) (fun _ q=>q) fun _ _ q=>q
    rcases hc with z | z
    · rw [z]; exact nit b u e
    · exact nit c _ z
theorem Inv.tok (I : Inv X pins σ H s) (t : Nat) : Inv X pins σ H { s with toks:=t }:=I.un (h':=s.heap) (t':=t) Un.refl I.hok
theorem Inv.kept {t' : Nat} (I : Inv X pins σ H s) (k : ∀ b u,s.heap.get? b = some u → h'.get? b = some u) : Inv X pins σ H { s with heap:=h',toks:=t' }:=I.un (Un.kept k) (I.hok.kept k)
theorem Inv.laid {a : Addr} {o : HO} {t' : Nat} (I : Inv X pins σ H s) (k : ∀ b u,s.heap.get? b = some u → h'.get? b = some u) (hp : s.heap.objs.size ≤ a) (new : ObjOk X.prog X.w (upd H a o) h' a o) :
    Inv X pins σ (upd H a o) { s with heap:=h',toks:=t' }:=I.un (Un.laid k hp (I.hok.fresh hp)) (I.hok.laid k hp new)
theorem Inv.write {x e : Addr} {o : HO} {t' : Nat} (I : Inv X pins σ H s) (mu : Mut (H x)) (he : e = x ∨ H e = some (.own x)) (k : ∀ b u,b ≠ e → s.heap.get? b = some u → h'.get? b = some u) (heo : ∃ u,h'.get? e = some u)
    (new : ObjOk X.prog X.w (upd H x o) h' x o) : Inv X pins σ (upd H x o) { s with heap:=h',toks:=t' }:=I.un (Un.write mu he k heo) (I.hok.write mu he k heo new)
theorem Inv.weak {σ' : List (Option V)} (I : Inv X pins σ H s) (hl : σ'.length = σ.length) (w : ∀ (i : Nat) v,σ'[i]? = some (some v) → σ[i]? = some (some v)) : Inv X pins σ' H s :=
  ⟨I.ok,I.os,I.bare,I.base,let ⟨m,hn,hl'⟩:=I.loc; ⟨m,hn,fun i x v e1 e2 e3=>hl' i x v e1 (w i v e2) e3⟩,I.cell,I.free,I.freeC,I.pin,I.hok,hl.trans I.len⟩
theorem Inv.pins_of {pins' : List (Addr × Obj)} (I : Inv X pins σ H s) (h : ∀ p ∈ pins',s.heap.get? p.1 = some p.2 ∧ H p.1 = none ∧ p.1 ≠ X.env.locals ∧ p.1 ∉ X.fs ∧ ∀ v,p.2.data ≠ .cell v) : Inv X pins' σ H s :=
  ⟨I.ok,I.os,I.bare,I.base,I.loc,I.cell,I.free,I.freeC,fun p hp=>(List.mem_append.mp hp).elim (fun z=>I.pin p (List.mem_append_left _ z)) (h p),I.hok,I.len⟩
theorem zCu {N : List Str} (hN : N.Nodup) {i j : Nat} {x : Str} (a : N[i]? = some x) (b : N[j]? = some x) : i = j:=by
  obtain ⟨h1,e1⟩:=List.getElem?_eq_some_iff.mp a
  obtain ⟨h2,e2⟩:=List.getElem?_eq_some_iff.mp b
  exact (List.getElem_inj hN).mp (e1.trans e2.symm)
theorem zAo {M : Model} {A : Around} {E : Value → Shared → Prop} {i : Nat} {x : Str} {v : V} {u : Value} {Q : Unit → Shared → Prop} (I : Inv X pins σ H s) (hN : X.N.Nodup) (hi : X.N[i]? = some x) (hx : Loc X.env.scope x) (r : RelV v u)
    (h : ∀ s',Inv X pins (σ.set i (some v)) H s' → (∃ a,Heap.SameBut a s.heap s'.heap ∧ (a = X.env.locals ∨ X.env.cells.lookup x = some a)) → Q () s') (hf : X.fn x = true ∨ X.env.scope.names.lookup x = some .local:=by first | exact .inl rfl | exact .inr rfl | assumption) : wpAny M A (storeName X.env x u) Q E s:=by
  obtain ⟨m,hn,hl⟩:=id I.loc
  have hcls : (X.env.scope.kind == .class || (X.env.scope.kind == .module && X.env.locals != X.env.globals)) = false:=by rw [I.ok.kind]; rfl
  have hiσ : i < σ.length:=by rw [I.len]; exact (List.getElem?_eq_some_iff.mp hi).1
  have cne:=I.cne
  have tracked : ∀ {a : Addr} {h' : Heap},(∃ o,s.heap.get? a = some o ∧ H a = none) → Heap.SameBut a s.heap h' → HOk X.prog X.w H h':=fun {a h'} ha hs b ob e=>by
    obtain ⟨_,_,hfree⟩:=ha
    refine (I.hok b ob e).stay (fun c w' hc q=>(hs.2 c ?_).trans q) (fun _ q=>q) fun _ _ q=>q
    rintro rfl
    rcases hc with rfl | hc
    · rw [hfree] at e; cases e
    · rw [hfree] at hc; cases hc
  rcases hx with hk | hk
  · refine wpAny_storeName_local hk hn (fun h' hn' hs=>?_) hcls
    obtain ⟨oL,_,_,hoL,_⟩:=id hn
    refine h _ ⟨I.ok,I.os,I.bare,⟨fun b o e n hb hx=>?_,fun b o e n hb hx=>?_,I.base.free,fun b o e hx=>?_,I.base.tups,I.base.frzs,I.base.tbls⟩,⟨_,hn',fun j y v' e1 e2 e3=>?_⟩,fun y c e=>?_,I.free,I.freeC,fun p hp=>?_,tracked ⟨oL,hoL,I.free⟩ hs,by simpa using I.len⟩ ⟨_,hs, .inl rfl⟩
    · exact (hs.2 b (Nat.ne_of_lt (Nat.lt_of_lt_of_le (Heap.lt_size e) I.ok.above))).trans (I.base.keep b o e n hb hx)
    · obtain ⟨sl,e1⟩:=I.base.slot b o e n hb hx
      exact ⟨sl,(hs.2 b (Nat.ne_of_lt (Nat.lt_of_lt_of_le (Heap.lt_size e) I.ok.above))).trans e1⟩
    · obtain ⟨o',e1⟩:=I.base.there b o e hx
      exact ⟨o',(hs.2 b (Nat.ne_of_lt (Nat.lt_of_lt_of_le (Heap.lt_size e) I.ok.above))).trans e1⟩
    · by_cases hj : j = i
      · subst hj
        rw [hi] at e1; cases e1
        rw [List.getElem?_set_self hiσ] at e2
        cases e2
        exact ⟨u,r, .inl ⟨hk,by simp⟩⟩
      · rw [List.getElem?_set_ne (Ne.symm hj)] at e2
        obtain ⟨u',r',q⟩:=hl j y v' e1 e2 e3
        refine ⟨u',r', ?_⟩
        rcases q with ⟨k,e⟩ | ⟨k,c,e,z⟩
        · refine .inl ⟨k, ?_⟩
          have : y ≠ x:=fun e=>hj (zCu hN e1 (e ▸ hi))
          simp [this,e]
        · exact .inr ⟨k,c,e,z.sameBut hs (cne y c e)⟩
    · obtain ⟨w',z⟩:=I.cell y c e
      exact ⟨w',z.sameBut hs (cne y c e)⟩
    · obtain ⟨e,n,ne,nf,d⟩:=I.pin p hp
      exact ⟨(hs.2 p.1 ne).trans e,n,ne,nf,d⟩
  · have hfn : X.fn x = true:=by
      rcases hf with z | z
      · exact z
      · rw [z] at hk; cases hk
    obtain ⟨c,hc⟩:=I.ok.has x (.inl hk)
    obtain ⟨w',z⟩:=I.cell x c hc
    refine wpAny_storeName_cell I.ok.kind hk hc z (fun h' hc' hs=>?_)
    obtain ⟨oc,hoc,hocd⟩:=id z
    refine h { s with heap:=h' } ⟨I.ok,I.os,I.bare,⟨fun b o e n hb hx=>?_,fun b o e n hb hx=>?_,I.base.free,fun b o e hx=>?_,I.base.tups,I.base.frzs,I.base.tbls⟩,⟨m,hn.sameBut hs (Ne.symm (cne x c hc)),fun j y v' e1 e2 e3=>?_⟩,fun y c' e=>?_,I.free,I.freeC,fun p hp=>?_,tracked ⟨oc,hoc,I.freeC x c hc⟩ hs,by simpa using I.len⟩ ⟨c,hs, .inr hc⟩
    · exact (hs.2 b (Nat.ne_of_lt (Nat.lt_of_lt_of_le (Heap.lt_size e) (I.ok.cab x c hfn hc)))).trans (I.base.keep b o e n hb hx)
    · obtain ⟨sl,e1⟩:=I.base.slot b o e n hb hx
      exact ⟨sl,(hs.2 b (Nat.ne_of_lt (Nat.lt_of_lt_of_le (Heap.lt_size e) (I.ok.cab x c hfn hc)))).trans e1⟩
    · obtain ⟨o',e1⟩:=I.base.there b o e hx
      exact ⟨o',(hs.2 b (Nat.ne_of_lt (Nat.lt_of_lt_of_le (Heap.lt_size e) (I.ok.cab x c hfn hc)))).trans e1⟩
    · by_cases hj : j = i
      · subst hj
        rw [hi] at e1; cases e1
        rw [List.getElem?_set_self hiσ] at e2
        cases e2
        exact ⟨u,r, .inr ⟨.inl hk,c,hc,hc'⟩⟩
      · rw [List.getElem?_set_ne (Ne.symm hj)] at e2
        obtain ⟨u',r',q⟩:=hl j y v' e1 e2 e3
        refine ⟨u',r', ?_⟩
        rcases q with q | ⟨k,c',e,z'⟩
        · exact .inl q
        · refine .inr ⟨k,c',e,z'.sameBut hs ?_⟩
          rintro rfl
          exact hj (zCu hN e1 (I.ok.inj _ _ _ e hc ▸ hi))
    · by_cases hcc : c' = c
      · subst hcc; exact ⟨_,hc'⟩
      · obtain ⟨w2,z2⟩:=I.cell y c' e
        exact ⟨w2,z2.sameBut hs hcc⟩
    · obtain ⟨e,n,ne,nf,d⟩:=I.pin p hp
      refine ⟨(hs.2 p.1 ?_).trans e,n,ne,nf,d⟩
      intro q
      rw [q,hoc] at e
      have q' : oc = p.2:=Option.some.inj e
      exact d w' (by rw [← q']; exact hocd)
theorem kX {M : Model} {A : Around} {E : Value → Shared → Prop} {i : Nat} {x : Str} {v : V} {u : Value} {Q : Unit → Shared → Prop} (I : Inv X pins σ H s) (hN : X.N.Nodup) (hi : X.N[i]? = some x) (hx : Loc X.env.scope x) (r : RelV v u)
    (h : ∀ s',Inv X pins (σ.set i (some v)) H s' → Q () s') (hf : X.fn x = true ∨ X.env.scope.names.lookup x = some .local:=by first | exact .inl rfl | exact .inr rfl | assumption) : wpAny M A (storeName X.env x u) Q E s :=
  zAo I hN hi hx r (fun s' I' _=>h s' I') hf
theorem Inv.call' {s' : Shared} {ch : List Addr} (I : Inv X pins σ H s) (ho : s'.os = s.os) (u : Un (frs X.stack) ch H H' s.heap s'.heap) (hok : HOk X.prog X.w H' s'.heap) (hg : AllBare s'.gens)
    (hch : ∀ b ∈ ch,(b ∈ X.ex ∨ X.s₀.heap.objs.size ≤ b) ∧ b ≠ X.env.locals ∧ (∀ x c,X.env.cells.lookup x = some c → c ≠ b) ∧ ∀ p ∈ X.pn ++ pins,p.1 ≠ b) : Inv X pins σ H' s':=by
  obtain ⟨h',g',d',t',o'⟩:=s'
  have e : o' = s.os:=ho
  subst e
  exact I.call (g':=g') (t':=t') (d':=d') u hok hg hch
end
abbrev XK:=Value → Option Addr → Hp → Prop
abbrev St:=List (Option V)
abbrev VK:=V → Hp → Prop
abbrev TE:=St → Hp → VK → Prop
abbrev TT:=St → Hp → (Bool → Hp → Prop) → Prop
abbrev TA:=St → Hp → (List V → Hp → Prop) → Prop
structure Ends where
  nx : St → Hp → Prop
  rt : VK
  bk : St → Hp → Prop:=fun _ _=>False
  ct : St → Hp → Prop:=fun _ _=>False
abbrev TS:=Ends → St → Hp → Prop
def EP (X : Cx) (pins : List (Addr × Obj)) (σ : St) (Q : VK) (u : Value) (s' : Shared) : Prop:=∃ v H',Inv X pins σ H' s' ∧ RelV v u ∧ Q v H'
def TP (X : Cx) (pins : List (Addr × Obj)) (σ : St) (Q : Bool → Hp → Prop) (b : Bool) (s' : Shared) : Prop:=∃ H',Inv X pins σ H' s' ∧ Q b H'
def AP (X : Cx) (pins : List (Addr × Obj)) (σ : St) (Q : List V → Hp → Prop) (us : List Value) (s' : Shared) : Prop:=∃ vs H',Inv X pins σ H' s' ∧ Vals vs us ∧ Q vs H'
def SP (X : Cx) (pins : List (Addr × Obj)) (D : Ends) (f : Flow) (s' : Shared) : Prop :=
  match f with
  | .next=>∃ σ' H',Inv X pins σ' H' s' ∧ D.nx σ' H'
  | .brk=>∃ σ' H',Inv X pins σ' H' s' ∧ D.bk σ' H'
  | .cont=>∃ σ' H',Inv X pins σ' H' s' ∧ D.ct σ' H'
  | .ret u=>∃ v σ' H',Inv X pins σ' H' s' ∧ RelV v u ∧ D.rt v H'
def PE (X : Cx) (e : Expr) (t : TE) : Prop :=
  ∀ (pins : List (Addr × Obj)) (s : Shared) (σ : St) (H : Hp) (Q : VK),Inv X pins σ H s → t σ H Q → wpAny (model X.prog X.w) X.A (eval e X.env) (EP X pins σ Q) X.xe s
def PT (X : Cx) (e : Expr) (t : TT) : Prop :=
  ∀ (pins : List (Addr × Obj)) (s : Shared) (σ : St) (H : Hp) (Q : Bool → Hp → Prop),Inv X pins σ H s → t σ H Q → wpAny (model X.prog X.w) X.A (isTrue e X.env (eval e X.env)) (TP X pins σ Q) X.xe s
def PW (X : Cx) (e : Expr) (t : TT) : Prop :=
  ∀ (whole : Sem Value) (pins : List (Addr × Obj)) (s : Shared) (σ : St) (H : Hp) (Q : Bool → Hp → Prop),Inv X pins σ H s → t σ H Q → wpAny (model X.prog X.w) X.A (isTrue e X.env whole) (TP X pins σ Q) X.xe s
theorem PW.pt {X : Cx} {e : Expr} {t : TT} (h : PW X e t) : PT X e t:=h _
def PA (X : Cx) (es : List Expr) (t : TA) : Prop :=
  ∀ (pos : Pos) (pins : List (Addr × Obj)) (s : Shared) (σ : St) (H : Hp) (Q : List V → Hp → Prop),Inv X pins σ H s → t σ H Q → wpAny (model X.prog X.w) X.A (spliced (backTo pos (starEach es X.env))) (AP X pins σ Q) X.xe s
def PS (X : Cx) (st : Stmt) (t : TS) : Prop :=
  ∀ (pins : List (Addr × Obj)) (s : Shared) (σ : St) (H : Hp) (D : Ends),Inv X pins σ H s → t D σ H → wpAny (model X.prog X.w) X.A (exec st X.env) (SP X pins D) X.xe s
def PSs (X : Cx) (st : List Stmt) (t : TS) : Prop :=
  ∀ (pins : List (Addr × Obj)) (s : Shared) (σ : St) (H : Hp) (D : Ends),Inv X pins σ H s → t D σ H → wpAny (model X.prog X.w) X.A (execs st X.env) (SP X pins D) X.xe s
theorem thn {α : Type} {t : Sem α} {Q Q' : α → Shared → Prop} {M : Model} {A : Around} {E : Value → Shared → Prop} {s : Shared} (h : wpAny M A t Q E s) (hQ : ∀ a s,Q a s → Q' a s) : wpAny M A t Q' E s:=wpAny_mono h hQ fun _ _ x=>x
section
variable {X : Cx}
def tVar (i : Nat) : TE:=fun σ H Q=>∃ v,σ[i]? = some (some v) ∧ Q v H
def tC (v : V) : TE:=fun _ H Q=>Q v H
theorem zNq {i : Nat} {x : Str} {pos : Pos} (hN : X.N[i]? = some x) (hv : Vis X.env.scope x) (hd : (x == ("__debug__" : Str)) = false:=by decide) (hcd : (x == ("__classdict__" : Str)) = false:=by decide) : PE X (.Name x pos) (tVar i):=by
  intro pins s σ H Q I h
  obtain ⟨v,e,h⟩:=h
  obtain ⟨m,hn,hl⟩:=I.loc
  obtain ⟨u,r,l⟩:=hl i x v hN e hv
  have fin : EP X pins σ Q u s:=⟨v,H,I,r,h⟩
  rcases l with ⟨hk,hm⟩ | ⟨hk,c,hc,hcell⟩
  · exact wpAny_Name (wpAny_loadName_local I.ok.kind hk hn hm fin) hd
  · rcases hk with hk | hk
    · exact wpAny_Name (wpAny_loadName_cell I.ok.kind hk hc hcell fin) hd
    · exact wpAny_Name (wpAny_loadName_free I.ok.kind hk hc hcell fin hcd) hd
theorem zE {i j pos} : PE X (.Constant (.int i) j pos) (tC (.int i)):=fun _ _ _ H _ I h=>wpAny_Constant_int ⟨.int i,H,I.tok _,⟨_,rfl⟩,h⟩
theorem vU {b j pos} : PE X (.Constant (.bool b) j pos) (tC (.bl b)):=fun _ _ _ H _ I h=>Constant_bool ⟨.bl b,H,I,rfl,h⟩
theorem qV {j pos} : PE X (.Constant .none j pos) (tC .non):=fun _ _ _ H _ I h=>Constant_none ⟨.non,H,I,rfl,h⟩
theorem zX {x j pos} : PE X (.Constant (.str x) j pos) (tC (.str x)):=fun _ _ _ H _ I h=>Calls.Constant_str ⟨.str x,H,I.tok _,⟨_,rfl⟩,h⟩
def Gl (X : Cx) (x : Str) : Prop:=X.env.kindOf x = some .globalImplicit
theorem vT {E : Value → Shared → Prop} {pins : List (Addr × Obj)} {s : Shared} {σ : St} {H : Hp} {x : Str} {u : Value} {pos : Pos} {Q : Value → Shared → Prop} (I : Inv X pins σ H s) (hg : Gl X x) (hm : X.mg x = some u) (h : Q u s)
    (hd : (x == ("__debug__" : Str)) = false:=by decide) : wpAny (model X.prog X.w) X.A (eval (.Name x pos) X.env) Q E s :=
  Calls.Name_function_global I.ok.kind hg (Calls.loadGlobal_global (by rw [I.ok.glob]; exact I.mod.glob.keeps I.bk) hm h) hd
theorem kS {E : Value → Shared → Prop} {pins : List (Addr × Obj)} {s : Shared} {σ : St} {H : Hp} {x : Str} {u : Value} {pos : Pos} {Q : Value → Shared → Prop} (I : Inv X pins σ H s) (hg : Gl X x) (hm : X.mg x = none) (hv : bootBuiltins x = some u) (h : Q u s)
    (hn : x ≠ "__name__":=by decide) (hd : (x == ("__debug__" : Str)) = false:=by decide) : wpAny (model X.prog X.w) X.A (eval (.Name x pos) X.env) Q E s:=by
  obtain ⟨mb,h1,h2⟩:=I.mod.blt
  exact Calls.Name_function_global I.ok.kind hg (Calls.loadGlobal_builtin (by rw [I.ok.glob]; exact I.mod.glob.keeps I.bk) hm (by rw [I.ok.blt]; exact h1.keeps I.bk) ((h2 x hn).trans hv) h) hd
theorem yP {x : Str} {v : V} {u : Value} {pos : Pos} (hg : Gl X x) (hm : X.mg x = some u) (r : RelV v u) (hd : (x == ("__debug__" : Str)) = false:=by decide) : PE X (.Name x pos) (tC v) :=
  fun _ _ _ H _ I h=>vT I hg hm ⟨v,H,I,r,h⟩ hd
theorem zR {x : Str} {v : V} {u : Value} {pos : Pos} (hg : Gl X x) (hm : X.mg x = none) (hv : bootBuiltins x = some u) (r : RelV v u) (hn : x ≠ "__name__":=by decide) (hd : (x == ("__debug__" : Str)) = false:=by decide) : PE X (.Name x pos) (tC v) :=
  fun _ _ _ H _ I h=>kS I hg hm hv ⟨v,H,I,r,h⟩ hn hd
variable {a b : Expr} {ta tb : TE} {pos : Pos}
def PC (X : Cx) (op : CmpOp) (a b : Expr) (t : TE) : Prop :=
  ∀ (pins : List (Addr × Obj)) (s : Shared) (σ : St) (H : Hp) (Q : VK),Inv X pins σ H s → t σ H Q →
    wpAny (model X.prog X.w) X.A (eval a X.env) (fun v s₁=>wpAny (model X.prog X.w) X.A (eval b X.env) (fun u s₂=>wpAny (model X.prog X.w) X.A (compareOp op v u) (EP X pins σ Q) X.xe s₂) X.xe s₁) X.xe s
theorem zCh (b : Expr) {op : CmpOp} (h : op ≠ .In) (h2 : op ≠ .NotIn) : behindInMarks op b = false:=by
  have e1 : (op == CmpOp.In) = false:=by cases op <;> first | rfl | exact absurd rfl h
  have e2 : (op == CmpOp.NotIn) = false:=by cases op <;> first | rfl | exact absurd rfl h2
  cases b <;> simp [behindInMarks,e1,e2]
def tIsN (ta : TE) : TE:=fun σ H Q=>ta σ H fun x H1=>Q (.bl (decide (x = .non))) H1
def tNotN (ta : TE) : TE:=fun σ H Q=>ta σ H fun x H1=>Q (.bl (!decide (x = .non))) H1
theorem RelV.none_iff {x : V} {v : Value} (r : RelV x v) : (v == Value.none) = decide (x = .non):=by
  cases x with
  | non=>cases r; rfl
  | bl _=>cases r; rfl
  | int _=>obtain ⟨t,rfl⟩:=r; rfl
  | str _=>obtain ⟨t,rfl⟩:=r; rfl
  | byt _=>obtain ⟨t,rfl⟩:=r; rfl
  | flt _=>obtain ⟨t,rfl⟩:=r; rfl
  | ref _=>cases r; rfl
  | ty _=>cases r; rfl
theorem zDl {j pos'} (ha : PE X a ta) : PC X .Is a (.Constant .none j pos') (tIsN ta):=by
  intro pins s σ H Q I h
  refine thn (ha pins s σ H _ I h) fun v s1 ⟨x,H1,I1,r1,q1⟩=>?_
  exact Constant_none (is_none_gen ⟨.bl _,H1,I1,by rw [r1.none_iff]; rfl,q1⟩)
def tB (t : TE) : TT:=fun σ H Q=>t σ H fun x H1=>∃ c,x = .bl c ∧ Q c H1
theorem zDv {op : CmpOp} {t : TE} (h : PC X op a b t) (h1 : behindInMarks op b = false:=by first | exact zCh _ (by decide) (by decide) | rfl) : PE X (.Compare a [op] [b] pos) t:=fun pins s σ H Q I hw=>wpAny_Compare1 (h pins s σ H Q I hw) h1
theorem zBn {op : CmpOp} {t : TE} (h : PC X op a b t) (h1 : behindInMarks op b = false:=by first | exact zCh _ (by decide) (by decide) | rfl) : PT X (.Compare a [op] [b] pos) (tB t):=by
  intro pins s σ H Q I hw
  refine wpAny_isTrue_Compare1 (thn (h pins s σ H _ I hw) fun v s1 h1=>thn h1 fun u s2 h2=>thn h2 fun c s3 ⟨x,H1,I1,r1,q1⟩=>?_) h1
  obtain ⟨d,rfl,q⟩:=q1
  cases r1
  exact wpAny_truthy_bool ⟨H1,I1,q⟩
theorem zZ {e : Expr} {t : TE} (h : PE X e t) (he : ∀ whole,isTrue e X.env whole = (do let v ← whole; standAt e.pos; holding [v] (truthy v)):=by intro _; rfl) : PT X e (tB t):=by
  intro pins s σ H Q I hw
  refine isTrue_plain (thn (h pins s σ H _ I hw) fun v s1 ⟨x,H1,I1,r1,q1⟩=>?_) (he _)
  obtain ⟨d,rfl,q⟩:=q1
  cases r1
  exact wpAny_truthy_bool ⟨H1,I1,q⟩
variable {tA tB' : TT} {rest : List Expr}
def tAnd (t u : TT) : TT:=fun σ H Q=>t σ H fun c H1=>if c = true then u σ H1 Q else Q false H1
def tOr (t u : TT) : TT:=fun σ H Q=>t σ H fun c H1=>if c = true then Q true H1 else u σ H1 Q
def tNot (t : TT) : TT:=fun σ H Q=>t σ H fun c H1=>Q (!c) H1
theorem jQ (ha : PT X a tA) : PW X (.BoolOp .And [a] pos) tA:=by
  intro wh pins s σ H Q I h
  refine isTrue_and (thn (ha pins s σ H Q I h) fun c s1 e=>?_)
  cases c with
  | true=>exact isTrue_and_nil e
  | false=>exact e
theorem vS (ha : PT X a tA) : PW X (.BoolOp .Or [a] pos) tA:=by
  intro wh pins s σ H Q I h
  refine isTrue_or (thn (ha pins s σ H Q I h) fun c s1 e=>?_)
  cases c with
  | false=>exact isTrue_or_nil e
  | true=>exact e
theorem uG (ha : PT X a tA) (hb : PW X (.BoolOp .And (b :: rest) pos) tB') : PW X (.BoolOp .And (a :: b :: rest) pos) (tAnd tA tB'):=by
  intro wh pins s σ H Q I h
  refine isTrue_and (thn (ha pins s σ H _ I h) fun c s1 ⟨H1,I1,q1⟩=>?_)
  cases c with
  | true=>exact hb wh pins s1 σ H1 Q I1 q1
  | false=>exact ⟨H1,I1,q1⟩
theorem qS (ha : PT X a tA) (hb : PW X (.BoolOp .Or (b :: rest) pos) tB') : PW X (.BoolOp .Or (a :: b :: rest) pos) (tOr tA tB'):=by
  intro wh pins s σ H Q I h
  refine isTrue_or (thn (ha pins s σ H _ I h) fun c s1 ⟨H1,I1,q1⟩=>?_)
  cases c with
  | true=>exact ⟨H1,I1,q1⟩
  | false=>exact hb wh pins s1 σ H1 Q I1 q1
theorem wC (ha : PT X a tA) : PT X (.UnaryOp .Not a pos) (tNot tA):=by
  intro pins s σ H Q I h
  exact isTrue_not (ha pins s σ H (fun c H1=>Q (!c) H1) I h)
def tAndV (ta tb : TE) : TE:=fun σ H Q=>ta σ H fun x H1=>∃ c,x = .bl c ∧ if c = true then tb σ H1 Q else Q (.bl false) H1
def tOrV (ta tb : TE) : TE:=fun σ H Q=>ta σ H fun x H1=>∃ c,x = .bl c ∧ if c = true then Q (.bl true) H1 else tb σ H1 Q
def tNotV (ta : TE) : TE:=fun σ H Q=>ta σ H fun x H1=>∃ c,x = .bl c ∧ Q (.bl (!c)) H1
theorem xY {op} {t : TE} (h : PE X a t) : PE X (.BoolOp op [a] pos) t:=fun pins s σ H Q I hw=>BoolOp_one (h pins s σ H Q I hw)
theorem xU (ha : PE X a ta) (hb : PE X (.BoolOp .And (b :: rest) pos) tb) : PE X (.BoolOp .And (a :: b :: rest) pos) (tAndV ta tb):=by
  intro pins s σ H Q I h
  refine BoolOp_and (thn (ha pins s σ H _ I h) fun v s1 ⟨x,H1,I1,r1,q1⟩=>?_)
  obtain ⟨c,rfl,q1⟩:=q1
  cases r1
  refine wpAny_truthy_bool ?_
  cases c with
  | true=>exact hb pins s1 σ H1 Q I1 q1
  | false=>exact ⟨.bl false,H1,I1,rfl,q1⟩
theorem pe_or (ha : PE X a ta) (hb : PE X (.BoolOp .Or (b :: rest) pos) tb) : PE X (.BoolOp .Or (a :: b :: rest) pos) (tOrV ta tb):=by
  intro pins s σ H Q I h
  refine BoolOp_or (thn (ha pins s σ H _ I h) fun v s1 ⟨x,H1,I1,r1,q1⟩=>?_)
  obtain ⟨c,rfl,q1⟩:=q1
  cases r1
  refine wpAny_truthy_bool ?_
  cases c with
  | false=>exact hb pins s1 σ H1 Q I1 q1
  | true=>exact ⟨.bl true,H1,I1,rfl,q1⟩
theorem zMn (ha : PE X a ta) : PE X (.UnaryOp .Not a pos) (tNotV ta):=by
  intro pins s σ H Q I h
  refine UnaryOp_ (thn (ha pins s σ H _ I h) fun v s1 ⟨x,H1,I1,r1,q1⟩=>?_)
  obtain ⟨c,rfl,q1⟩:=q1
  cases r1
  exact not_of (wpAny_truthy_bool ⟨.bl (!c),H1,I1,rfl,q1⟩)
def tIf (t : TT) (ta tb : TE) : TE:=fun σ H Q=>t σ H fun c H1=>if c = true then ta σ H1 Q else tb σ H1 Q
theorem zKd {c : Expr} (hc : PT X c tA) (ha : PE X a ta) (hb : PE X b tb) : PE X (.IfExp c a b pos) (tIf tA ta tb):=by
  intro pins s σ H Q I h
  refine wpAny_IfExp (thn (hc pins s σ H _ I h) fun d s1 ⟨H1,I1,q1⟩=>?_)
  cases d with
  | true=>exact ha pins s1 σ H1 Q I1 q1
  | false=>exact hb pins s1 σ H1 Q I1 q1
end
def SqL (K : PySem.W.Frag) (H : Hp) (a : Addr) (xs : List V) : Prop :=
  Rd H a (.lst xs) ∨
    ∃ (o : Obj) (its : Array Value) (n : Nat),K.lookup a = some o ∧ o.cls = .type "list" ∧ o.dict = none ∧ o.data = .seq its n ∧ its.size ≤ sizeLine ∧ Vals xs its.toList
def SqT (K : PySem.W.Frag) (H : Hp) (a : Addr) (xs : List V) : Prop :=
  Rd H a (.tup xs) ∨
    ∃ (o : Obj) (its : Array Value) (n : Nat),K.lookup a = some o ∧ o.cls = .type "tuple" ∧ o.data = .seq its n ∧ its.size ≤ sizeLine ∧ Vals xs its.toList
def absV : Value → Option V
  | .none=>some .non
  | .bool b=>some (.bl b)
  | .int i _=>some (.int i)
  | .str x _=>some (.str x)
  | .bytes b _=>some (.byt b)
  | .float b _=>some (.flt b)
  | .ref a=>some (.ref a)
  | .type n=>some (.ty n)
  | _=>none
theorem RelV.abs {x : V} {u : Value} (r : RelV x u) : absV u = some x:=by
  cases x with
  | non=>cases r; rfl
  | bl _=>cases r; rfl
  | int _=>obtain ⟨t,rfl⟩:=r; rfl
  | str _=>obtain ⟨t,rfl⟩:=r; rfl
  | byt _=>obtain ⟨t,rfl⟩:=r; rfl
  | flt _=>obtain ⟨t,rfl⟩:=r; rfl
  | ref _=>cases r; rfl
  | ty _=>cases r; rfl
theorem RelV.inj {x y : V} {u : Value} (r : RelV x u) (q : RelV y u) : x = y:=Option.some.inj (r.abs.symm.trans q.abs)
theorem Vals.inj : ∀ {xs ys : List V} {us : List Value},Vals xs us → Vals ys us → xs = ys
  | _,_,_, .nil, .nil=>rfl
  | _,_,_, .cons r t, .cons r' t'=>by rw [r.inj r',Vals.inj t t']
section
variable {X : Cx} {pins : List (Addr × Obj)} {σ : St} {H : Hp} {s : Shared} {a : Addr} {xs ys : List V}
theorem SqL.of {K : PySem.W.Frag} (h : H a = some (.lst xs)) : SqL K H a xs:=.inl (.inl h)
theorem SqT.of {K : PySem.W.Frag} (h : H a = some (.tup xs)) : SqT K H a xs:=.inl (.inl h)
theorem Inv.list (I : Inv X pins σ H s) (h : SqL X.K H a xs) : ∃ its : List Value,Vals xs its ∧ PlainL s.heap a its.toArray ∧ xs.length ≤ sizeLine:=by
  rcases h with h | ⟨o,its,n,hk,hc,hd,hs,hz,r⟩
  · obtain ⟨z,its,n,r,e⟩:=h.ok I.hok
    exact ⟨its,r,⟨_,n,e,rfl,rfl,rfl⟩,z⟩
  · refine ⟨its.toList,r,⟨o,n,I.kIn a o hk,hc,hd,by simpa using hs⟩, ?_⟩
    have e:=r.length
    simp only [Array.length_toList] at e
    omega
theorem Inv.tuple (I : Inv X pins σ H s) (h : SqT X.K H a xs) : ∃ its : List Value,Vals xs its ∧ IsTup s.heap a its.toArray ∧ xs.length ≤ sizeLine:=by
  rcases h with h | ⟨o,its,n,hk,hc,hs,hz,r⟩
  · obtain ⟨z,its,r,p⟩:=h.ok I.hok
    exact ⟨its,r,p,z⟩
  · refine ⟨its.toList,r,⟨o,I.kIn a o hk,hc,n,by simpa using hs⟩, ?_⟩
    have e:=r.length
    simp only [Array.length_toList] at e
    omega
theorem Inv.list_inj (I : Inv X pins σ H s) (h : SqL X.K H a xs) (h' : SqL X.K H a ys) : xs = ys:=by
  obtain ⟨its,r,⟨o,n,e,_,_,d⟩,_⟩:=I.list h
  obtain ⟨its',r',⟨o',n',e',_,_,d'⟩,_⟩:=I.list h'
  rw [e] at e'; cases e'
  rw [d] at d'
  injection d' with d1 _
  have : its = its':=by simpa using congrArg Array.toList d1
  subst this
  exact r.inj r'
theorem Inv.tuple_inj (I : Inv X pins σ H s) (h : SqT X.K H a xs) (h' : SqT X.K H a ys) : xs = ys:=by
  obtain ⟨its,r,⟨o,e,_,n,d⟩,_⟩:=I.tuple h
  obtain ⟨its',r',⟨o',e',_,n',d'⟩,_⟩:=I.tuple h'
  rw [e] at e'; cases e'
  rw [d] at d'
  injection d' with d1 _
  have : its = its':=by simpa using congrArg Array.toList d1
  subst this
  exact r.inj r'
end
abbrev Cx.wish (X : Cx) (E : Value → Shared → Prop) : Cx:={ X with xe:=E }
abbrev Cx.nox (X : Cx) : Cx:=X.wish fun _ _=>False
theorem Cx.Ok.wish {X : Cx} (ok : X.Ok) (E : Value → Shared → Prop) : (X.wish E).Ok :=
  ⟨ok.mod,ok.kind,ok.glob,ok.blt,ok.above,ok.inj,ok.has,ok.cab,ok.hd,ok.frames,ok.stk,ok.exf,ok.bs,ok.bsz,ok.noex,ok.exfs,ok.funs,ok.frf⟩
theorem Cx.Ok.unwish {X : Cx} {E : Value → Shared → Prop} (ok : (X.wish E).Ok) : X.Ok :=
  ⟨ok.mod,ok.kind,ok.glob,ok.blt,ok.above,ok.inj,ok.has,ok.cab,ok.hd,ok.frames,ok.stk,ok.exf,ok.bs,ok.bsz,ok.noex,ok.exfs,ok.funs,ok.frf⟩
section
variable {X : Cx} {pins : List (Addr × Obj)} {σ : St} {H : Hp} {s : Shared} {E : Value → Shared → Prop}
theorem Inv.wish (I : Inv X pins σ H s) (E : Value → Shared → Prop) : Inv (X.wish E) pins σ H s:=⟨I.ok.wish E,I.os,I.bare,I.base,I.loc,I.cell,I.free,I.freeC,I.pin,I.hok,I.len⟩
theorem Inv.unwish (I : Inv (X.wish E) pins σ H s) : Inv X pins σ H s:=⟨I.ok.unwish,I.os,I.bare,I.base,I.loc,I.cell,I.free,I.freeC,I.pin,I.hok,I.len⟩
theorem SP.unwish {D : Ends} {f : Flow} {s' : Shared} (h : SP (X.wish E) pins D f s') : SP X pins D f s':=by
  cases f with
  | next=>obtain ⟨σ',H',I,q⟩:=h; exact ⟨σ',H',I.unwish,q⟩
  | brk=>obtain ⟨σ',H',I,q⟩:=h; exact ⟨σ',H',I.unwish,q⟩
  | cont=>obtain ⟨σ',H',I,q⟩:=h; exact ⟨σ',H',I.unwish,q⟩
  | ret u=>obtain ⟨v,σ',H',I,r,q⟩:=h; exact ⟨v,σ',H',I.unwish,r,q⟩
theorem PSs.nox {st : List Stmt} {t : TS} (h : PSs X.nox st t) : PSs X st t:=fun pins s σ H D I hw =>
  wpAny_mono (h pins s σ H D (I.wish _) hw) (fun _ _ q=>q.unwish) fun _ _ z=>False.elim z
end
section
variable {X : Cx} {st : Stmt} {rest : List Stmt} {t u : TS} {e : Expr} {te : TE} {pos : Pos}
def tNext : TS:=fun D σ H=>D.nx σ H
def tSeq (t u : TS) : TS:=fun D σ H=>t { D with nx:=u D } σ H
theorem zK : PSs X [] tNext:=fun _ _ σ H _ I h=>wpAny_execs_nil ⟨σ,H,I,h⟩
theorem zF (h1 : PS X st t) (h2 : PSs X rest u) : PSs X (st :: rest) (tSeq t u):=by
  intro pins s σ H D I h
  refine wpAny_execs_cons (thn (h1 pins s σ H { D with nx:=u D } I h) fun f s1 q=>?_)
  cases f with
  | next =>
    obtain ⟨σ',H',I',q⟩:=q
    exact h2 pins s1 σ' H' D I' q
  | ret v=>exact q
  | brk=>exact q
  | cont=>exact q
theorem zG (h1 : PS X st t) : PSs X [st] t:=by
  intro pins s σ H D I h
  refine wpAny_execs_cons (thn (h1 pins s σ H D I h) fun f s1 q=>?_)
  cases f with
  | next=>exact wpAny_execs_nil q
  | ret v=>exact q
  | brk=>exact q
  | cont=>exact q
theorem Inv.quiet {pins : List (Addr × Obj)} {σ : St} {H : Hp} {s : Shared} (I : Inv X pins σ H s) : interactive X.env = false:=by simp [interactive,I.ok.kind]
def tDrop (te : TE) : TS:=fun D σ H=>te σ H fun _ H1=>D.nx σ H1
theorem wF (he : PE X e te) (hs : swapsWith e none pos.line X.env = pure false:=by rfl) : PS X (.Expr e pos) (tDrop te):=by
  intro pins s σ H D I h
  exact wpAny_Expr_any (thn (he pins s σ H _ I h) fun v s1 ⟨x,H1,I1,r1,q1⟩=>⟨σ,H1,I1,q1⟩) I.quiet hs
def tRet (te : TE) : TS:=fun D σ H=>te σ H D.rt
theorem zL (he : PE X e te) : PS X (.Return (some e) pos) (tRet te):=by
  intro pins s σ H D I h
  exact wpAny_Return_some (thn (he pins s σ H _ I h) fun v s1 ⟨x,H1,I1,r1,q1⟩=>⟨x,σ,H1,I1,r1,q1⟩)
def tRetN : TS:=fun D _ H=>D.rt .non H
def tIfS (c : TT) (t u : TS) : TS:=fun D σ H=>c σ H fun b H1=>if b = true then t D σ H1 else u D σ H1
theorem zW {c : Expr} {a b : List Stmt} {tc : TT} (hc : PT X c tc) (ha : PSs X a t) (hb : PSs X b u) : PS X (.If c a b pos) (tIfS tc t u):=by
  intro pins s σ H D I h
  refine wpAny_If (thn (hc pins s σ H _ I h) fun d s1 ⟨H1,I1,q1⟩=>?_)
  cases d with
  | true=>exact ha pins s1 σ H1 D I1 q1
  | false=>exact hb pins s1 σ H1 D I1 q1
def tNever : TS:=fun _ _ _=>False
theorem zGt {sts : List Stmt} : PSs X sts tNever:=fun _ _ _ _ _ _ h=>h.elim
end
abbrev TG:=V → St → Hp → (St → Hp → Prop) → Prop
abbrev TGs:=List V → St → Hp → (St → Hp → Prop) → Prop
def PG (X : Cx) (target : Expr) (t : TG) : Prop :=
  ∀ (pins : List (Addr × Obj)) (s : Shared) (σ : St) (H : Hp) (v : V) (u : Value) (Q : St → Hp → Prop),Inv X pins σ H s → RelV v u → t v σ H Q →
    wpAny (model X.prog X.w) X.A (assign target X.env u) (fun _ s'=>∃ σ' H',Inv X pins σ' H' s' ∧ Q σ' H') X.xe s
def PGs (X : Cx) (ts : List Expr) (t : TGs) : Prop :=
  ∀ (pins : List (Addr × Obj)) (s : Shared) (σ : St) (H : Hp) (vs : List V) (us : List Value) (Q : St → Hp → Prop),Inv X pins σ H s → Vals vs us → t vs σ H Q →
    wpAny (model X.prog X.w) X.A (assignInOrder ((assignEach ts X.env).map (·.2)) us) (fun _ s'=>∃ σ' H',Inv X pins σ' H' s' ∧ Q σ' H') X.xe s
abbrev TSet:=V → V → V → Hp → (Hp → Prop) → Prop
def PSet (X : Cx) (t : TSet) : Prop :=
  ∀ (pins : List (Addr × Obj)) (s : Shared) (σ : St) (H : Hp) (o i v : V) (ov iv u : Value) (Q : Hp → Prop),Inv X pins σ H s → RelV o ov → RelV i iv → RelV v u → t o i v H Q →
    wpAny (model X.prog X.w) X.A (setItem ov iv u) (fun _ s'=>∃ H',Inv X pins σ H' s' ∧ Q H') X.xe s
section
variable {X : Cx} {pos : Pos}
def gName (i : Nat) : TG:=fun v σ H Q=>Q (σ.set i (some v)) H
theorem yC {i : Nat} {x : Str} (hN : X.N.Nodup) (hi : X.N[i]? = some x) (hx : Loc X.env.scope x) (hf : X.fn x = true ∨ X.env.scope.names.lookup x = some .local:=by first | exact .inl rfl | exact .inr rfl | assumption) : PG X (.Name x pos) (gName i):=by
  intro pins s σ H v u Q I r h
  exact wpAny_assign_Name (kX I hN hi hx r (fun s' I'=>⟨_,H,I',h⟩) hf)
def gNil : TGs:=fun vs σ H Q=>vs = [] ∧ Q σ H
def gCons (t : TG) (u : TGs) : TGs:=fun vs σ H Q=>∃ v r,vs = v :: r ∧ t v σ H fun σ' H'=>u r σ' H' Q
theorem zFo : PGs X [] gNil:=by
  intro pins s σ H vs us Q I r h
  obtain ⟨e,h⟩:=h
  subst e
  cases r
  exact assignInOrder_nil ⟨σ,H,I,h⟩
theorem jK {e : Expr} {es : List Expr} {t : TG} {u : TGs} (h1 : PG X e t) (h2 : PGs X es u)
    (hs : (assignEach (e :: es) X.env).map (·.2) = assign e X.env :: (assignEach es X.env).map (·.2):=by rfl) : PGs X (e :: es) (gCons t u):=by
  intro pins s σ H vs us Q I r h
  obtain ⟨v,vr,e1,h⟩:=h
  subst e1
  cases r with
  | cons r rr =>
    rw [hs]
    refine assignInOrder_cons (thn (h1 pins s σ H _ _ _ I r h) fun _ s1 ⟨σ1,H1,I1,q1⟩=>?_)
    exact h2 pins s1 σ1 H1 _ _ Q I1 rr q1
def gTup (K : PySem.W.Frag) (n : Nat) (t : TGs) : TG:=fun v σ H Q=>∃ a xs,v = .ref a ∧ SqT K H a xs ∧ xs.length = n ∧ t xs σ H Q
theorem zIa {es : List Expr} {k : Nat} {t : TGs} {n : Nat} (hc : X.calm = true) (h : PGs X es t)
    (hn : (assignEach es X.env).length = n:=by rfl) (hst : (assignEach es X.env).findIdx? (·.1) = none:=by rfl) : PG X (.Tuple es k pos) (gTup X.K n t):=by
  intro pins s σ H v u Q I r hw
  obtain ⟨a,xs,e1,hq,hl,hw⟩:=hw
  subst e1
  cases r
  obtain ⟨its,rv,ht,hz⟩:=I.tuple hq
  refine assign_Tuple_tuple (I.ok.hd hc) ht (by simp [hn,← hl,rv.length]) hst fun h' hx=>?_
  have I1 : Inv X pins σ H { s with heap:=h' }:=I.kept (t':=s.toks) fun b o e=>hx b o (Nat.ne_of_lt (Heap.lt_size e)) e
  exact h pins _ σ H xs _ Q I1 (by simpa using rv) hw
def gSub (to ti : TE) (t : TSet) : TG:=fun v σ H Q=>to σ H fun o H1=>ti σ H1 fun i H2=>t o i v H2 fun H3=>Q σ H3
theorem zMo {o i : Expr} {to ti : TE} {t : TSet} (ho : PE X o to) (hi : PE X i ti) (hs : PSet X t)
    (ha : ∀ v,assign (.Subscript o i pos) X.env v = (do
      let ov ← holding [v] (eval o X.env)
      let iv ← holding [v,ov] (eval i X.env)
      standAt pos
      holding [v,ov,iv] (setItem ov iv v)
      release [v,ov,iv] []):=by intro _; rfl) : PG X (.Subscript o i pos) (gSub to ti t):=by
  intro pins s σ H v u Q I r h
  rw [ha]
  refine wpAny_bind (wpAny_holding (thn (ho pins s σ H _ I h) fun ov s1 ⟨x,H1,I1,r1,q1⟩=>?_))
  refine wpAny_bind (wpAny_holding (thn (hi pins s1 σ H1 _ I1 q1) fun iv s2 ⟨y,H2,I2,r2,q2⟩=>?_))
  refine wpAny_bind (wpAny_standAt (wpAny_bind (wpAny_holding (thn (hs pins s2 σ H2 x y v ov iv u _ I2 r1 r2 r q2) fun _ s3 ⟨H3,I3,q3⟩=>?_))))
  exact wpAny_release ⟨σ,H3,I3,q3⟩
def tAsg (te : TE) (g : TG) : TS:=fun D σ H=>te σ H fun x H1=>g x σ H1 D.nx
theorem zJo {tg e : Expr} {te : TE} {g : TG} (he : PE X e te) (hg : PG X tg g) (hs : swapsWithSole [tg] e pos.line X.env = pure false:=by rfl) (hw : swappedStores [tg] e X.env = pure none:=by rfl)
    (h1 : (assignEach [tg] X.env).map (·.2) = [assign tg X.env]:=by rfl) : PS X (.Assign [tg] e pos) (tAsg te g):=by
  intro pins s σ H D I h
  refine wpAny_Assign_stores (thn (he pins s σ H _ I h) fun v s1 ⟨x,H1,I1,r1,q1⟩=>?_) hs hw
  rw [h1]
  exact thn (hg pins s1 σ H1 x v _ I1 r1 q1) fun _ s2 q=>q
theorem zO {i : Nat} {x : Str} {e : Expr} {te : TE} {pos' : Pos} (hN : X.N.Nodup) (hi : X.N[i]? = some x) (hx : Loc X.env.scope x) (he : PE X e te) (hs : swapsWith e (some (.Name x pos')) pos.line X.env = pure false:=by rfl) (hf : X.fn x = true ∨ X.env.scope.names.lookup x = some .local:=by first | exact .inl rfl | exact .inr rfl | assumption) :
    PS X (.Assign [.Name x pos'] e pos) (tAsg te (gName i)):=by
  intro pins s σ H D I h
  refine wpAny_Assign_Name (thn (he pins s σ H _ I h) fun v s1 ⟨y,H1,I1,r1,q1⟩=>?_) hs
  exact kX I1 hN hi hx r1 (fun s2 I2=>⟨_,H1,I2,q1⟩) hf
end
section
variable {X : Cx} {pos : Pos}
def tWhile (c : TT) (tb : TS) : TS:=fun D σ H=>∃ W : Nat → St → Hp → Prop,(∃ m,W m σ H) ∧ ∀ m σ H,W m σ H →
  c σ H fun b H1=>if b = true then ∃ N : St → Hp → Prop,(∀ σ' H',N σ' H' → ∃ m',m' < m ∧ W m' σ' H') ∧ tb { D with nx:=N,ct:=N,bk:=D.nx } σ H1 else D.nx σ H1
theorem zIs {c : Expr} {body : List Stmt} {tc : TT} {tb : TS} (hp : PassesOwn (model X.prog X.w) X.A X.env X.xe) (hc : PT X c tc) (hb : PSs X body tb) : PS X (.While c body [] pos) (tWhile tc tb):=by
  intro pins s σ H D I h
  obtain ⟨W,⟨m0,w0⟩,turn⟩:=h
  refine wpAny_While (codeAny_whileLoop (fun n s'=>∃ σ' H',Inv X pins σ' H' s' ∧ W n σ' H') ?_ m0 ⟨σ,H,I,w0⟩)
  rintro n s1 ⟨σ1,H1,I1,w1⟩
  refine wpAny_passesOwn hp (thn (hc pins s1 σ1 H1 _ I1 (turn n σ1 H1 w1)) fun b s2 ⟨H2,I2,q2⟩=>?_)
  cases b with
  | true =>
    obtain ⟨N,hN,q2⟩:=q2
    rw [if_pos rfl]
    refine wpAny_passesOwn hp (thn (hb pins s2 σ1 H2 _ I2 q2) fun f s3 q3=>?_)
    cases f with
    | next =>
      obtain ⟨σ3,H3,I3,n3⟩:=q3
      obtain ⟨m',hm,w3⟩:=hN σ3 H3 n3
      exact ⟨m',hm,σ3,H3,I3,w3⟩
    | cont =>
      obtain ⟨σ3,H3,I3,n3⟩:=q3
      obtain ⟨m',hm,w3⟩:=hN σ3 H3 n3
      exact ⟨m',hm,σ3,H3,I3,w3⟩
    | brk=>exact q3
    | ret v=>exact q3
  | false =>
    rw [if_neg Bool.false_ne_true]
    exact wpAny_execs_nil ⟨σ1,H2,I2,q2⟩
end
structure It where
  go : Nat → Hp → Prop
  yld : Nat → Hp → V → Hp → Prop
  stop : Nat → Hp → Prop
def FpOk (X : Cx) (pins : List (Addr × Obj)) (H : Hp) (b : Addr) : Prop :=
  H b = none ∧ b ≠ X.env.locals ∧ b ∉ X.fs ∧ (b ∈ X.ex ∨ X.s₀.heap.objs.size ≤ b) ∧ (∀ x c,X.env.cells.lookup x = some c → c ≠ b) ∧ ∀ p ∈ X.pn ++ pins,p.1 ≠ b
theorem Inv.fpOk {X : Cx} {pins : List (Addr × Obj)} {σ : St} {H H' : Hp} {s : Shared} {b : Addr} (I : Inv X pins σ H s) (hb : s.heap.objs.size ≤ b) (hn : H' b = none) : FpOk X pins H' b:=by
  refine ⟨hn,Nat.ne_of_gt (Nat.lt_of_lt_of_le I.lt hb),I.nofs hb, .inr (Nat.le_trans I.sz hb),fun x c e z=>?_,fun p hp z=>?_⟩
  · obtain ⟨v,q⟩:=I.cell x c e
    exact absurd (Nat.lt_of_lt_of_le q.lt (by rw [z]; exact hb)) (Nat.lt_irrefl _)
  · exact absurd (Nat.lt_of_lt_of_le (Heap.lt_size (I.pin p hp).1) (by rw [z]; exact hb)) (Nat.lt_irrefl _)
structure Turn (P : Program) (w : World) (K : PySem.W.Frag) (tg : Expr) (J : It) (fp : List Addr) (it : Addr) (tn : Nat → Heap → Prop) : Prop where
  mem : it ∈ fp
  obj : ∀ i h,tn i h → ∀ b ∈ fp,∃ o,h.get? b = some o ∧ ∀ v,o.data ≠ .cell v
  keep : ∀ i h h',tn i h → (∀ b ∈ fp,∀ o,h.get? b = some o → h'.get? b = some o) → tn i h'
  item : ∀ (X : Cx),X.prog = P → X.w = w → X.K = K → X.calm = true → ∀ (i : Nat) (pins : List (Addr × Obj)) (s : Shared) (σ : St) (H : Hp) (E : Value → Shared → Prop),Inv X pins σ H s → (∀ b ∈ fp,FpOk X pins H b) → tn i s.heap → J.go i H →
    wpAny (model P w) X.A (pyNext (.ref it)) (fun r s1=>∃ u,r = some u ∧
      wpAny (model P w) X.A (letOwnedTupleGo tg (.ref it) u) (fun _ s2=>∃ x H',Inv X pins σ H' s2 ∧ RelV x u ∧ J.yld i H x H' ∧ tn (i + 1) s2.heap ∧ ∀ b ∈ fp,H' b = none) E s1) E s
  done : ∀ (X : Cx),X.prog = P → X.w = w → X.K = K → X.calm = true → ∀ (i : Nat) (pins : List (Addr × Obj)) (s : Shared) (σ : St) (H : Hp) (E : Value → Shared → Prop),Inv X pins σ H s → (∀ b ∈ fp,FpOk X pins H b) → tn i s.heap → J.stop i H →
    wpAny (model P w) X.A (pyNext (.ref it)) (fun r s1=>r = none ∧ Inv X pins σ H s1) E s
  self : ∀ (A : Around) (i : Nat) (s : Shared) (Q : Value → Shared → Prop) (E : Value → Shared → Prop),tn i s.heap → Q (.ref it) s → wpAny (model P w) A (pyIter (.ref it)) Q E s
abbrev TI:=St → Hp → (It → Hp → Prop) → Prop
def PIE (X : Cx) (pins : List (Addr × Obj)) (σ : St) (tg : Expr) (R : It → Hp → Prop) (itv : Value) (s2 : Shared) : Prop :=
  ∃ (it : Addr) (fp : List Addr) (tn : Nat → Heap → Prop) (J : It) (H' : Hp),itv = .ref it ∧ Inv X pins σ H' s2 ∧ Turn X.prog X.w X.K tg J fp it tn ∧ tn 0 s2.heap ∧ (∀ b ∈ fp,FpOk X pins H' b) ∧ R J H'
def PI (X : Cx) (tg iter : Expr) (wi : TI) : Prop :=
  ∀ (pins : List (Addr × Obj)) (s : Shared) (σ : St) (H : Hp) (R : It → Hp → Prop),Inv X pins σ H s → wi σ H R →
    wpAny (model X.prog X.w) X.A (eval iter X.env) (fun v s1=>wpAny (model X.prog X.w) X.A (pyIter v) (PIE X pins σ tg R) X.xe s1) X.xe s
theorem zBv {M : Model} {A : Around} {E : Value → Shared → Prop} {s : Shared} {tg : Expr} {it : Addr} {u : Value} {o : Obj} {n : String} {vs : Array Value} {Q : Unit → Shared → Prop} (ho : s.heap.get? it = some o) (hc : o.cls = .type n) (hd : o.data = .fields vs)
    (hn : ["enumerate","zip","dict_itemiterator","dict_reverseitemiterator","odict_iterator","itertools.zip_longest","itertools.pairwise"].contains n = false) (hQ : Q () s) : wpAny M A (letOwnedTupleGo tg (.ref it) u) Q E s:=by
  unfold letOwnedTupleGo
  cases tg <;> first
    | exact wpAny_pure hQ
    | (cases u <;> first
        | exact wpAny_pure hQ
        | (refine wpAny_bind (wpAny_load ho ?_)
           rw [hc,hd]
           show wpAny M A (if (["enumerate","zip","dict_itemiterator","dict_reverseitemiterator","odict_iterator","itertools.zip_longest","itertools.pairwise"].contains n && vs[0]? == some (rawInt _)) = true then _ else _) Q E s
           rw [if_neg (by intro h; rw [hn,Bool.false_and] at h; cases h)]
           exact wpAny_pure hQ))
def Itl (K : PySem.W.Frag) (a : Addr) : It :=
  ⟨fun i H=>∃ xs x,SqL K H a xs ∧ xs[i]? = some x,fun i H x H'=>H' = H ∧ ∀ xs,SqL K H a xs → xs[i]? = some x,fun i H=>∃ xs,SqL K H a xs ∧ xs.length ≤ i⟩
def Itt (K : PySem.W.Frag) (a : Addr) : It :=
  ⟨fun i H=>∃ xs x,SqT K H a xs ∧ xs[i]? = some x,fun i H x H'=>H' = H ∧ ∀ xs,SqT K H a xs → xs[i]? = some x,fun i H=>∃ xs,SqT K H a xs ∧ xs.length ≤ i⟩
def Itr (lo : Int) (n : Nat) : It:=⟨fun i _=>i < n,fun i H x H'=>H' = H ∧ x = .int (lo + i),fun i _=>n ≤ i⟩
theorem zHa {P : Program} {w : World} {K : PySem.W.Frag} {tg : Expr} (a it : Addr) : Turn P w K tg (Itl K a) [it] it (fun i h=>h.IsListIter it a i) where
  mem:=by simp
  obj:=fun i h st b hb=>by
    have e : b = it:=by simpa using hb
    subst e
    obtain ⟨o,e,c,d⟩:=st
    exact ⟨o,e,fun v z=>by rw [d] at z; cases z⟩
  keep:=fun i h h' st k=>st.at fun o e=>k it (by simp) o e
  item:=by
    intro X hP hw hK hc i pins s σ H E I hf st hg
    subst hP hw hK
    obtain ⟨xs,x,hq,hx⟩:=hg
    obtain ⟨its,rv,p,hz⟩:=I.list hq
    obtain ⟨u,hu,ru⟩:=rv.get hx
    obtain ⟨f0,f1,f2,f3,f4,f5⟩:=hf it (by simp)
    refine wpAny_pyNext_list_item st p.isList (x:=u) (by simpa using hu) fun h' st' sb=>?_
    have I1 : Inv X pins σ H { s with heap:=h' }:=I.turned (t':=s.toks) (fun b o hb e=>(sb.2 b hb).trans e) f0 f1 f3 f4 f5
    obtain ⟨o,e,c,d⟩:=id st'
    exact ⟨u,rfl,zBv (s:={ s with heap:=h' }) e c d (by decide) ⟨x,H,I1,ru,⟨rfl,fun ys hy=>by rw [I.list_inj hy hq]; exact hx⟩,st',fun b hb=>(hf b hb).1⟩⟩
  done:=by
    intro X hP hw hK hc i pins s σ H E I hf st hg
    subst hP hw hK
    obtain ⟨xs,hq,hx⟩:=hg
    obtain ⟨its,rv,p,hz⟩:=I.list hq
    obtain ⟨f0,f1,f2,f3,f4,f5⟩:=hf it (by simp)
    have hl:=rv.length
    exact wpAny_pyNext_list_end (I.ok.hd hc) st p.isList (by simp; omega) fun h' eb=>⟨rfl,I.turned (t':=s.toks) (fun b o hb e=>eb b o hb e) f0 f1 f3 f4 f5⟩
  self:=fun _ _ _ _ _ st h=>wpAny_pyIter_listiter st h
theorem zDz {P : Program} {w : World} {K : PySem.W.Frag} {tg : Expr} (a it : Addr) : Turn P w K tg (Itt K a) [it] it (fun i h=>h.IsTupleIter it a i) where
  mem:=by simp
  obj:=fun i h st b hb=>by
    have e : b = it:=by simpa using hb
    subst e
    obtain ⟨o,e,c,d⟩:=st
    exact ⟨o,e,fun v z=>by rw [d] at z; cases z⟩
  keep:=fun i h h' st k=>st.at fun o e=>k it (by simp) o e
  item:=by
    intro X hP hw hK hc i pins s σ H E I hf st hg
    subst hP hw hK
    obtain ⟨xs,x,hq,hx⟩:=hg
    obtain ⟨its,rv,p,hz⟩:=I.tuple hq
    obtain ⟨u,hu,ru⟩:=rv.get hx
    obtain ⟨f0,f1,f2,f3,f4,f5⟩:=hf it (by simp)
    refine wpAny_pyNext_tuple_item st (show s.heap.IsTuple a its.toArray from p) (x:=u) (by simpa using hu) fun h' st' sb=>?_
    have I1 : Inv X pins σ H { s with heap:=h' }:=I.turned (t':=s.toks) (fun b o hb e=>(sb.2 b hb).trans e) f0 f1 f3 f4 f5
    obtain ⟨o,e,c,d⟩:=id st'
    exact ⟨u,rfl,zBv (s:={ s with heap:=h' }) e c d (by decide) ⟨x,H,I1,ru,⟨rfl,fun ys hy=>by rw [I.tuple_inj hy hq]; exact hx⟩,st',fun b hb=>(hf b hb).1⟩⟩
  done:=by
    intro X hP hw hK hc i pins s σ H E I hf st hg
    subst hP hw hK
    obtain ⟨xs,hq,hx⟩:=hg
    obtain ⟨its,rv,p,hz⟩:=I.tuple hq
    obtain ⟨f0,f1,f2,f3,f4,f5⟩:=hf it (by simp)
    have hl:=rv.length
    exact wpAny_pyNext_tuple_end (I.ok.hd hc) st (show s.heap.IsTuple a its.toArray from p) (by simp; omega) fun h' eb=>⟨rfl,I.turned (t':=s.toks) (fun b o hb e=>eb b o hb e) f0 f1 f3 f4 f5⟩
  self:=fun _ _ _ _ _ st h=>wpAny_pyIter_tupleiter st h
theorem zEj {P : Program} {w : World} {K : PySem.W.Frag} {tg : Expr} (it : Addr) (lo : Int) (n : Nat) : Turn P w K tg (Itr lo n) [it] it (fun i h=>IsRangeIter h it (lo + (i : Nat) * 1) ((n : Int) - (i : Nat)) 1) where
  mem:=by simp
  obj:=fun i h st b hb=>by
    have e : b = it:=by simpa using hb
    subst e
    exact ⟨_,st,fun v z=>by
      have z' : Data.fields _ = Data.cell v:=z
      cases z'⟩
  keep:=fun i h h' st k=>k it (by simp) _ st
  item:=by
    intro X hP hw hK hc i pins s σ H E I hf st hg
    subst hP hw hK
    obtain ⟨f0,f1,f2,f3,f4,f5⟩:=hf it (by simp)
    have W:=Walks.range (prog:=X.prog) (w:=X.w) (I.ok.hd hc) it lo 1 n
    refine W.item i s _ _ hg st fun v h' tk hv st' kk=>?_
    obtain ⟨t,rfl⟩:=hv
    have I1 : Inv X pins σ H { s with heap:=h',toks:=tk }:=I.turned (fun b o hb e=>kk b o (by simpa using hb) e) f0 f1 f3 f4 f5
    refine ⟨_,rfl,zBv (s:={ s with heap:=h',toks:=tk }) (n:="range_iterator") st' rfl rfl (by decide) ⟨.int (lo + i),H,I1,⟨t, ?_⟩,⟨rfl,rfl⟩,st',fun b hb=>(hf b hb).1⟩⟩
    rw [Int.mul_one]
  done:=by
    intro X hP hw hK hc i pins s σ H E I hf st hg
    subst hP hw hK
    obtain ⟨f0,f1,f2,f3,f4,f5⟩:=hf it (by simp)
    exact wpAny_pyNext_range_end (I.ok.hd hc) st (by have : n ≤ i:=hg; omega) fun h' eb=>⟨rfl,I.turned (t':=s.toks) (fun b o hb e=>eb b o hb e) f0 f1 f3 f4 f5⟩
  self:=fun _ _ _ _ _ st h=>wpAny_pyIter_rangeiter st h
section
variable {X : Cx} {tg : Expr}
def iList (K : PySem.W.Frag) (tl : TE) : TI:=fun σ H R=>tl σ H fun x H1=>∃ a,x = .ref a ∧ (∃ xs,SqL K H1 a xs) ∧ R (Itl K a) H1
def iTup (K : PySem.W.Frag) (tl : TE) : TI:=fun σ H R=>tl σ H fun x H1=>∃ a,x = .ref a ∧ (∃ xs,SqT K H1 a xs) ∧ R (Itt K a) H1
theorem qH {l : Expr} {tl : TE} (hl : PE X l tl) : PI X tg l (iList X.K tl):=by
  intro pins s σ H R I h
  refine thn (hl pins s σ H _ I h) fun v s1 ⟨x,H1,I1,r1,q1⟩=>?_
  obtain ⟨a,e,⟨xs,hq⟩,q⟩:=q1
  subst e
  cases r1
  obtain ⟨its,rv,p,hz⟩:=I1.list hq
  refine wpAny_pyIter_list p.isList ?_
  refine ⟨s1.heap.objs.size,[s1.heap.objs.size],_,_,H1,rfl,I1.kept (t':=s1.toks) fun b o e=>Heap.get?_push_of_some _ e,zHa a _,⟨_,Heap.get?_push_size _ rfl,rfl,rfl⟩,fun b hb=>?_,q⟩
  have e : b = s1.heap.objs.size:=by simpa using hb
  subst e
  exact I1.fpOk (Nat.le_refl _) (I1.hok.fresh (Nat.le_refl _))
theorem zHu {l : Expr} {tl : TE} (hl : PE X l tl) : PI X tg l (iTup X.K tl):=by
  intro pins s σ H R I h
  refine thn (hl pins s σ H _ I h) fun v s1 ⟨x,H1,I1,r1,q1⟩=>?_
  obtain ⟨a,e,⟨xs,hq⟩,q⟩:=q1
  subst e
  cases r1
  obtain ⟨its,rv,p,hz⟩:=I1.tuple hq
  refine wpAny_pyIter_tuple (show s1.heap.IsTuple a its.toArray from p) ?_
  refine ⟨s1.heap.objs.size,[s1.heap.objs.size],_,_,H1,rfl,I1.kept (t':=s1.toks) fun b o e=>Heap.get?_push_of_some _ e,zDz a _,⟨_,Heap.get?_push_size _ rfl,rfl,rfl⟩,fun b hb=>?_,q⟩
  have e : b = s1.heap.objs.size:=by simpa using hb
  subst e
  exact I1.fpOk (Nat.le_refl _) (I1.hok.fresh (Nat.le_refl _))
theorem zJg {pins : List (Addr × Obj)} {σ : St} {H : Hp} {s : Shared} {R : It → Hp → Prop} {E : Value → Shared → Prop} {lo hi : Int} {t u v : Tok} {tk : Nat} (I : Inv X pins σ H s) (h1 : -(2 ^ 62) ≤ lo) (h2 : lo < 2 ^ 62) (h3 : -(2 ^ 62) ≤ hi) (h4 : hi < 2 ^ 62)
    (q : R (Itr lo (hi - lo).toNat) H) : wpAny (model X.prog X.w) X.A (pyIter (.ref s.heap.objs.size)) (PIE X pins σ tg R) E { s with heap:=s.heap.push { cls:=.type "range",data:=.fields #[.int lo t, .int hi u, .int 1 v] },toks:=tk }:=by
  refine wpAny_pyIter_range (IsRange.new ..) (small_one h1 h2 h3 h4) ?_
  have I1 : Inv X pins σ H { s with heap:=s.heap.push { cls:=.type "range",data:=.fields #[.int lo t, .int hi u, .int 1 v] },toks:=tk }:=I.kept fun b o e=>Heap.get?_push_of_some _ e
  refine ⟨(s.heap.push { cls:=.type "range",data:=.fields #[.int lo t, .int hi u, .int 1 v] }).objs.size,[(s.heap.push { cls:=.type "range",data:=.fields #[.int lo t, .int hi u, .int 1 v] }).objs.size],_,_,H,rfl,
    I1.kept (t':=tk) fun b o e=>Heap.get?_push_of_some _ e,zEj _ lo (hi - lo).toNat, ?_,fun b hb=>?_,q⟩
  · have e1 : lo + ((0 : Nat) : Int) * 1 = lo:=by simp
    have e2 : (((hi - lo).toNat : Nat) : Int) - ((0 : Nat) : Int) = Builtin.Range.rangeSize lo hi 1:=by rw [rangeSize_one]; split <;> omega
    show IsRangeIter _ _ (lo + ((0 : Nat) : Int) * 1) ((((hi - lo).toNat : Nat) : Int) - ((0 : Nat) : Int)) 1
    rw [e1,e2]
    exact Heap.get?_push_size _ rfl
  · have e : b = (s.heap.push { cls:=.type "range",data:=.fields #[.int lo t, .int hi u, .int 1 v] }).objs.size:=by simpa using hb
    subst e
    exact I1.fpOk (Nat.le_refl _) (I1.hok.fresh (Nat.le_refl _))
def iRng1 (ta : TA) : TI:=fun σ H R=>ta σ H fun vs H1=>∃ j : Int,vs = [.int j] ∧ -(2 ^ 62) ≤ j ∧ j < 2 ^ 62 ∧ R (Itr 0 j.toNat) H1
theorem yJ {a : Expr} {ta : TA} {p pos : Pos} (hg : Gl X "range") (hm : X.mg "range" = none) (ha : PA X [a] ta) (hs : starEach [a] X.env = [(false,eval a X.env)]:=by rfl) : PI X tg (.Call (.Name "range" p) [a] [] pos) (iRng1 ta):=by
  intro pins s σ H R I h
  refine Call_ (kS I hg hm boot_range (PyProof.Rows.callWith_type1 (thn (ha pos pins s σ H _ I h) fun us s1 ⟨vs,H1,I1,r1,q1⟩=>?_) hs rfl))
  obtain ⟨j,e,q1,q2,q⟩:=q1
  subst e
  cases r1 with
  | cons r rr =>
    cases rr
    obtain ⟨t,rfl⟩:=r
    exact call_range_1 (zJg I1 (by omega) (by omega) q1 q2 (by simpa using q))
def tFor (wi : TI) (g : TG) (tb : TS) : TS:=fun D σ H=>wi σ H fun J H1=>∃ W : Nat → Nat → St → Hp → Prop,(∃ m,W 0 m σ H1) ∧ ∀ i m σ H,W i m σ H →
  (J.stop i H ∧ D.nx σ H) ∨ (J.go i H ∧ ∃ N : St → Hp → Prop,(∀ σ' H',N σ' H' → ∃ m',m' < m ∧ W (i + 1) m' σ' H') ∧ ∀ x H',J.yld i H x H' → g x σ H' fun σ2 H2=>tb { D with nx:=N,ct:=N,bk:=D.nx } σ2 H2)
def pinsAt (fp : List Addr) (h : Heap) : List (Addr × Obj):=fp.filterMap fun b=>(h.get? b).map fun o=>(b,o)
theorem vP {fp : List Addr} {h : Heap} {b : Addr} {o : Obj} (hb : b ∈ fp) (e : h.get? b = some o) : (b,o) ∈ pinsAt fp h:=List.mem_filterMap.mpr ⟨b,hb,by rw [e]; rfl⟩
theorem zGn {fp : List Addr} {h : Heap} {p : Addr × Obj} (hp : p ∈ pinsAt fp h) : p.1 ∈ fp ∧ h.get? p.1 = some p.2:=by
  obtain ⟨b,hb,e⟩:=List.mem_filterMap.mp hp
  cases q : h.get? b with
  | none=>rw [q] at e; cases e
  | some o =>
    rw [q] at e
    have e' : (b,o) = p:=Option.some.inj e
    subst e'
    exact ⟨hb,q⟩
theorem Inv.pinned {pins : List (Addr × Obj)} {σ : St} {H : Hp} {s : Shared} {fp : List Addr} (I : Inv X pins σ H s) (hf : ∀ b ∈ fp,FpOk X pins H b) (ho : ∀ b ∈ fp,∃ o,s.heap.get? b = some o ∧ ∀ v,o.data ≠ .cell v) : Inv X (pins ++ pinsAt fp s.heap) σ H s :=
  I.pins_of fun p hp=>(List.mem_append.mp hp).elim (fun z=>I.pin p (List.mem_append_right _ z)) fun z=>by
    obtain ⟨hb,e⟩:=zGn z
    obtain ⟨f0,f1,f2,_⟩:=hf p.1 hb
    obtain ⟨o,e',d⟩:=ho p.1 hb
    rw [e] at e'; cases e'
    exact ⟨e,f0,f1,f2,d⟩
theorem Inv.unpinned {pins pl : List (Addr × Obj)} {σ : St} {H : Hp} {s : Shared} (I : Inv X (pins ++ pl) σ H s) : Inv X pins σ H s:=I.pins_of fun p hp=>I.pin p (List.mem_append_right _ (List.mem_append_left _ hp))
theorem wH {iter : Expr} {body : List Stmt} {wi : TI} {g : TG} {tb : TS} {pos : Pos} (hp : PassesOwn (model X.prog X.w) X.A X.env X.xe) (hc : X.calm = true) (hi : PI X tg iter wi) (hg : PG X tg g) (hb : PSs X body tb)
    (hs : ∀ x,foldedSetIterable iter X.env x = pure x:=by intro _; rfl) : PS X (.For tg iter body [] pos) (tFor wi g tb):=by
  intro pins s σ H D I h
  refine wpAny_For (thn (hi pins s σ H _ I h) fun v s1 h1=>thn h1 fun itv s2 h2=>?_) hs
  obtain ⟨it,fp,tn,J,H2,e,I2,T,st2,f2,W,⟨m0,w0⟩,turn⟩:=h2
  subst e
  -- what stays true of the iterator's objects through the loop
  have stat : ∀ {H' : Hp},(∀ b ∈ fp,H' b = none) → ∀ b ∈ fp,FpOk X pins H' b:=fun hn b hb=>⟨hn b hb,(f2 b hb).2⟩
  refine codeAny_forLoop_any (fun n s'=>∃ i σ' H',Inv X pins σ' H' s' ∧ tn i s'.heap ∧ (∀ b ∈ fp,H' b = none) ∧ W i n σ' H') ?_ m0 ⟨0,σ,H2,I2,st2,fun b hb=>(f2 b hb).1,w0⟩
  rintro n s3 ⟨i,σ3,H3,I3,st3,fr3,w3⟩
  rcases turn i n σ3 H3 w3 with ⟨stop,qn⟩ | ⟨go,N,hN,step⟩
  · refine wpAny_passesOwn hp (thn (T.done X rfl rfl rfl hc i pins s3 σ3 H3 X.xe I3 (stat fr3) st3 stop) fun r s4 ⟨hr,I4⟩=>?_)
    subst hr
    exact wpAny_execs_nil ⟨σ3,H3,I4,qn⟩
  · refine wpAny_passesOwn hp (thn (T.item X rfl rfl rfl hc i pins s3 σ3 H3 X.xe I3 (stat fr3) st3 go) fun r s4 ⟨u,hr,h4⟩=>?_)
    subst hr
    refine wpAny_passesOwn hp (thn h4 fun _ s5 ⟨x,H5,I5,r5,y5,st5,fr5⟩=>?_)
    have I5':=I5.pinned (stat fr5) (T.obj _ _ st5)
    refine wpAny_passesOwn hp (thn (hg _ s5 σ3 H5 x u _ I5' r5 (step x H5 y5)) fun _ s6 ⟨σ6,H6,I6,q6⟩=>?_)
    refine wpAny_passesOwn hp (thn (hb _ s6 σ6 H6 _ I6 q6) fun f s7 q7=>?_)
    have again : ∀ {σ7 : St} {H7 : Hp},Inv X (pins ++ pinsAt fp s5.heap) σ7 H7 s7 → N σ7 H7 → ∃ m,m < n ∧ ∃ i σ' H',Inv X pins σ' H' s7 ∧ tn i s7.heap ∧ (∀ b ∈ fp,H' b = none) ∧ W i m σ' H':=fun {σ7 H7} I7 n7=>by
      obtain ⟨m',hm,w7⟩:=hN σ7 H7 n7
      refine ⟨m',hm,i + 1,σ7,H7,I7.unpinned,T.keep _ _ _ st5 fun b hb o e=>(I7.pin (b,o) (List.mem_append_right _ (List.mem_append_right _ (vP hb e)))).1,fun b hb=>?_,w7⟩
      obtain ⟨o,e,d⟩:=T.obj _ _ st5 b hb
      exact (I7.pin (b,o) (List.mem_append_right _ (List.mem_append_right _ (vP hb e)))).2.1
    cases f with
    | next=>obtain ⟨σ7,H7,I7,n7⟩:=q7; exact again I7 n7
    | cont=>obtain ⟨σ7,H7,I7,n7⟩:=q7; exact again I7 n7
    | brk=>obtain ⟨σ7,H7,I7,q7⟩:=q7; exact ⟨σ7,H7,I7.unpinned,q7⟩
    | ret v=>obtain ⟨x7,σ7,H7,I7,r7,q7⟩:=q7; exact ⟨x7,σ7,H7,I7.unpinned,r7,q7⟩
end
theorem zIf {K : PySem.W.Frag} {a : Addr} {xs : List V} {g : TG} {tb : TS} {D : Ends} {σ : St} {H : Hp} (Pv : Nat → St → Hp → Prop) (h0 : Pv 0 σ H) (hl : ∀ i σ H,i ≤ xs.length → Pv i σ H → SqL K H a xs)
    (hs : ∀ i x σ H,xs[i]? = some x → Pv i σ H → g x σ H fun σ2 H2=>tb { D with nx:=Pv (i + 1),ct:=Pv (i + 1),bk:=D.nx } σ2 H2) (hd : ∀ σ H,Pv xs.length σ H → D.nx σ H) :
    ∃ W : Nat → Nat → St → Hp → Prop,(∃ m,W 0 m σ H) ∧ ∀ i m σ H,W i m σ H →
      ((Itl K a).stop i H ∧ D.nx σ H) ∨ ((Itl K a).go i H ∧ ∃ N : St → Hp → Prop,(∀ σ' H',N σ' H' → ∃ m',m' < m ∧ W (i + 1) m' σ' H') ∧ ∀ x H',(Itl K a).yld i H x H' → g x σ H' fun σ2 H2=>tb { D with nx:=N,ct:=N,bk:=D.nx } σ2 H2):=by
  refine ⟨fun i m σ H=>m = xs.length - i ∧ i ≤ xs.length ∧ Pv i σ H,⟨xs.length,by simp,Nat.zero_le _,h0⟩, ?_⟩
  rintro i m σ H ⟨rfl,hi,p⟩
  have q:=hl i σ H hi p
  by_cases hlt : i < xs.length
  · refine .inr ⟨⟨xs,xs[i],q,by simp [hlt]⟩,Pv (i + 1),fun σ' H' p'=>⟨xs.length - (i + 1),by omega,rfl,hlt,p'⟩,fun x H' y=>?_⟩
    obtain ⟨e,y⟩:=y
    subst e
    exact hs i x σ _ (y xs q) p
  · have e : i = xs.length:=by omega
    subst e
    exact .inl ⟨⟨xs,q,Nat.le_refl _⟩,hd σ H p⟩
theorem zGm {lo : Int} {n : Nat} {g : TG} {tb : TS} {D : Ends} {σ : St} {H : Hp} (Pv : Nat → St → Hp → Prop) (h0 : Pv 0 σ H)
    (hs : ∀ i σ H,i < n → Pv i σ H → g (.int (lo + i)) σ H fun σ2 H2=>tb { D with nx:=Pv (i + 1),ct:=Pv (i + 1),bk:=D.nx } σ2 H2) (hd : ∀ σ H,Pv n σ H → D.nx σ H) :
    ∃ W : Nat → Nat → St → Hp → Prop,(∃ m,W 0 m σ H) ∧ ∀ i m σ H,W i m σ H →
      ((Itr lo n).stop i H ∧ D.nx σ H) ∨ ((Itr lo n).go i H ∧ ∃ N : St → Hp → Prop,(∀ σ' H',N σ' H' → ∃ m',m' < m ∧ W (i + 1) m' σ' H') ∧ ∀ x H',(Itr lo n).yld i H x H' → g x σ H' fun σ2 H2=>tb { D with nx:=N,ct:=N,bk:=D.nx } σ2 H2):=by
  refine ⟨fun i m σ H=>m = n - i ∧ i ≤ n ∧ Pv i σ H,⟨n,by simp,Nat.zero_le _,h0⟩, ?_⟩
  rintro i m σ H ⟨rfl,hi,p⟩
  by_cases hlt : i < n
  · refine .inr ⟨hlt,Pv (i + 1),fun σ' H' p'=>⟨n - (i + 1),by omega,rfl,hlt,p'⟩,fun x H' y=>?_⟩
    obtain ⟨e,y⟩:=y
    subst e y
    exact hs i σ _ hlt p
  · have e : i = n:=by omega
    subst e
    exact .inl ⟨Nat.le_refl _,hd σ H p⟩
abbrev R2:=V → V → Hp → VK → Prop
def OpR (X : Cx) (f : Value → Value → Sem Value) (r : R2) : Prop :=
  ∀ (pins : List (Addr × Obj)) (s : Shared) (σ : St) (H : Hp) (x y : V) (v u : Value) (Q : VK),Inv X pins σ H s → RelV x v → RelV y u → r x y H Q →
    wpAny (model X.prog X.w) X.A (f v u) (EP X pins σ Q) X.xe s
def UnR (X : Cx) (f : Value → Sem Value) (r : V → Hp → VK → Prop) : Prop :=
  ∀ (pins : List (Addr × Obj)) (s : Shared) (σ : St) (H : Hp) (x : V) (v : Value) (Q : VK),Inv X pins σ H s → RelV x v → r x H Q →
    wpAny (model X.prog X.w) X.A (f v) (EP X pins σ Q) X.xe s
def CallR (X : Cx) (f : Value) (r : List V → Hp → VK → Prop) : Prop :=
  ∀ (pins : List (Addr × Obj)) (s : Shared) (σ : St) (H : Hp) (xs : List V) (us : List Value) (Q : VK),Inv X pins σ H s → Vals xs us → r xs H Q →
    wpAny (model X.prog X.w) X.A (call f us) (EP X pins σ Q) X.xe s
def TruR (X : Cx) (r : V → Hp → (Bool → Hp → Prop) → Prop) : Prop :=
  ∀ (pins : List (Addr × Obj)) (s : Shared) (σ : St) (H : Hp) (x : V) (v : Value) (Q : Bool → Hp → Prop),Inv X pins σ H s → RelV x v → r x H Q →
    wpAny (model X.prog X.w) X.A (truthy v) (TP X pins σ Q) X.xe s
def tOp (r : R2) (ta tb : TE) : TE:=fun σ H Q=>ta σ H fun x H1=>tb σ H1 fun y H2=>r x y H2 Q
def tUn (r : V → Hp → VK → Prop) (ta : TE) : TE:=fun σ H Q=>ta σ H fun x H1=>r x H1 Q
def rI (C : Int → Int → Prop) (g : Int → Int → V) : R2:=fun x y H Q=>∃ i j,x = .int i ∧ y = .int j ∧ C i j ∧ Q (g i j) H
def rI0 (g : Int → Int → V) : R2:=fun x y H Q=>∃ i j,x = .int i ∧ y = .int j ∧ Q (g i j) H
def rU (g : Int → V) : V → Hp → VK → Prop:=fun x H Q=>∃ i,x = .int i ∧ Q (g i) H
section
variable {X : Cx} {a b c : Expr} {ta tb tc : TE} {pos : Pos}
theorem zOh (ha : PE X a ta) (hb : PE X b tb) {pins : List (Addr × Obj)} {s : Shared} {σ : St} {H : Hp} {R : V → V → Hp → Prop} (I : Inv X pins σ H s)
    (h : ta σ H fun x H1=>tb σ H1 fun y H2=>R x y H2) {Q : Value → Shared → Prop} {f : Value → Value → Sem Value}
    (hf : ∀ v u s2 x y H2,Inv X pins σ H2 s2 → RelV x v → RelV y u → R x y H2 → wpAny (model X.prog X.w) X.A (f v u) Q X.xe s2) :
    wpAny (model X.prog X.w) X.A (eval a X.env) (fun v s₁=>wpAny (model X.prog X.w) X.A (eval b X.env) (fun u s₂=>wpAny (model X.prog X.w) X.A (f v u) Q X.xe s₂) X.xe s₁) X.xe s:=by
  refine thn (ha pins s σ H _ I h) fun v s1 ⟨x,H1,I1,r1,q1⟩=>?_
  refine thn (hb pins s1 σ H1 _ I1 q1) fun u s2 ⟨y,H2,I2,r2,q2⟩=>?_
  exact hf v u s2 x y H2 I2 r1 r2 q2
theorem zH {op : Operator} {r : R2} (ho : OpR X (binaryOp op) r) (ha : PE X a ta) (hb : PE X b tb) : PE X (.BinOp a op b pos) (tOp r ta tb):=by
  intro pins s σ H Q I h
  exact wpAny_BinOp (zOh ha hb I h fun v u s2 x y H2 I2 rx ry q=>ho pins s2 σ H2 x y v u Q I2 rx ry q)
theorem wJ {op : UnaryOp} {r : V → Hp → VK → Prop} (ho : UnR X (unaryOp op) r) (ha : PE X a ta) : PE X (.UnaryOp op a pos) (tUn r ta):=by
  intro pins s σ H Q I h
  exact UnaryOp_ (thn (ha pins s σ H _ I h) fun v s1 ⟨x,H1,I1,r1,q1⟩=>ho pins s1 σ H1 x v Q I1 r1 q1)
theorem opI {f : Value → Value → Sem Value} {C : Int → Int → Prop} {g : Int → Int → Int}
    (rule : ∀ (i j : Int) (t u : Tok) (s : Shared) (Q : Value → Shared → Prop) (E : Value → Shared → Prop),C i j → Q (.int (g i j) s.toks) { s with toks:=s.toks + 1 } → wpAny (model X.prog X.w) X.A (f (.int i t) (.int j u)) Q E s) :
    OpR X f (rI C fun i j=>.int (g i j)):=by
  intro pins s σ H x y v u Q I rx ry h
  obtain ⟨i,j,rfl,rfl,hc,q⟩:=h
  obtain ⟨t,rfl⟩:=rx
  obtain ⟨t',rfl⟩:=ry
  exact rule i j t t' s _ _ hc ⟨.int (g i j),H,I.tok _,⟨_,rfl⟩,q⟩
theorem opI0 {f : Value → Value → Sem Value} {g : Int → Int → Int}
    (rule : ∀ (i j : Int) (t u : Tok) (s : Shared) (Q : Value → Shared → Prop) (E : Value → Shared → Prop),Q (.int (g i j) s.toks) { s with toks:=s.toks + 1 } → wpAny (model X.prog X.w) X.A (f (.int i t) (.int j u)) Q E s) :
    OpR X f (rI0 fun i j=>.int (g i j)):=by
  intro pins s σ H x y v u Q I rx ry h
  obtain ⟨i,j,rfl,rfl,q⟩:=h
  obtain ⟨t,rfl⟩:=rx
  obtain ⟨t',rfl⟩:=ry
  exact rule i j t t' s _ _ ⟨.int (g i j),H,I.tok _,⟨_,rfl⟩,q⟩
theorem zNp {f : Value → Value → Sem Value} {g : Int → Int → Bool}
    (rule : ∀ (i j : Int) (t u : Tok) (s : Shared) (Q : Value → Shared → Prop) (E : Value → Shared → Prop),Q (.bool (g i j)) s → wpAny (model X.prog X.w) X.A (f (.int i t) (.int j u)) Q E s) :
    OpR X f (rI0 fun i j=>.bl (g i j)):=by
  intro pins s σ H x y v u Q I rx ry h
  obtain ⟨i,j,rfl,rfl,q⟩:=h
  obtain ⟨t,rfl⟩:=rx
  obtain ⟨t',rfl⟩:=ry
  exact rule i j t t' s _ _ ⟨.bl (g i j),H,I,rfl,q⟩
def CDiv (i j : Int) : Prop:=0 < j ∧ j < 1073741824
def CPow (i j : Int) : Prop:=0 ≤ j ∧ j ≤ 1000000 ∧ i.natAbs < 2 ^ 64
def CMul (i j : Int) : Prop:=(-(2 ^ 64) < i ∧ i < 2 ^ 64) ∨ (-(2 ^ 64) < j ∧ j < 2 ^ 64)
theorem CMul.ok {i j : Int} (h : CMul i j) : IntMulOk i j:=by
  rcases h with ⟨h1,h2⟩ | ⟨h1,h2⟩
  · exact .of_left (intBits_le_64 h1 h2)
  · exact .of_right (intBits_le_64 h1 h2)
theorem yA : OpR X (binaryOp .Add) (rI0 fun i j=>.int (i + j)):=opI0 fun _ _ _ _ _ _ _ q=>add_int q
theorem xO : OpR X (binaryOp .Sub) (rI0 fun i j=>.int (i - j)):=opI0 fun _ _ _ _ _ _ _ q=>sub_int q
theorem xZ : OpR X (binaryOp .Mult) (rI CMul fun i j=>.int (i * j)):=opI fun _ _ _ _ _ _ _ hc q=>mul_int q hc.ok
theorem zU : OpR X (binaryOp .FloorDiv) (rI CDiv fun i j=>.int (i / j)):=opI fun i j _ _ _ _ _ hc q=>by
  have h1 : (0 : Int) < j:=hc.1
  have h2 : j < 1073741824:=hc.2
  exact floordiv_int (by omega) (by rw [Int.fdiv_eq_ediv_of_nonneg i (by omega)]; exact q) (.inl (PyProof.noPylong_small (by omega)))
theorem zP : OpR X (binaryOp .Mod) (rI (fun _ j=>0 < j) fun i j=>.int (i % j)):=opI fun i j _ _ _ _ _ hc q=>by
  have h1 : (0 : Int) < j:=hc
  exact mod_int' (by omega) (by rw [Int.fmod_eq_emod_of_nonneg i (by omega)]; exact q)
theorem qZ : OpR X (binaryOp .Pow) (rI CPow fun i j=>.int (i ^ j.toNat)):=opI fun _ _ _ _ _ _ _ hc q=>pow_int_small hc.1 hc.2.1 hc.2.2 q
theorem unI {f : Value → Sem Value} {g : Int → Int}
    (rule : ∀ (i : Int) (t : Tok) (s : Shared) (Q : Value → Shared → Prop) (E : Value → Shared → Prop),Q (.int (g i) s.toks) { s with toks:=s.toks + 1 } → wpAny (model X.prog X.w) X.A (f (.int i t)) Q E s) :
    UnR X f (rU fun i=>.int (g i)):=by
  intro pins s σ H x v Q I rx h
  obtain ⟨i,rfl,q⟩:=h
  obtain ⟨t,rfl⟩:=rx
  exact rule i t s _ _ ⟨.int (g i),H,I.tok _,⟨_,rfl⟩,q⟩
theorem xH : UnR X (unaryOp .USub) (rU fun i=>.int (-i)):=unI fun _ _ _ _ _ q=>neg_int q
end
def scal : V → V → Bool
  | .non, .non=>true | .non, .int _=>true | .int _, .non=>true | .non, .bl _=>true | .bl _, .non=>true | .non, .str _=>true | .str _, .non=>true
  | .int _, .int _=>true | .bl _, .bl _=>true | .str _, .str _=>true | .byt _, .byt _=>true
  | .int _, .str _=>true | .str _, .int _=>true | .bl _, .str _=>true | .str _, .bl _=>true
  | _,_=>false
def rEq : R2:=fun x y H Q=>scal x y = true ∧ Q (.bl (decide (x = y))) H
def rNe : R2:=fun x y H Q=>scal x y = true ∧ Q (.bl (!decide (x = y))) H
theorem zFd {i j : Int} : decide (V.int i = V.int j) = (i == j):=by
  rw [Bool.eq_iff_iff]
  simp
theorem zIz {i j : Bool} : decide (V.bl i = V.bl j) = (i == j):=by
  rw [Bool.eq_iff_iff]
  simp
theorem zFn {i j : Str} : decide (V.str i = V.str j) = (i == j):=by
  rw [Bool.eq_iff_iff]
  simp
theorem zEx {i j : Array UInt8} : decide (V.byt i = V.byt j) = (i.toList == j.toList):=by
  rw [Bool.eq_iff_iff]
  cases i
  cases j
  simp
section
variable {X : Cx} {a b c : Expr} {ta tb tc : TE} {pos : Pos}
theorem yI {pins : List (Addr × Obj)} {σ : St} {H : Hp} {s : Shared} {Q : VK} {k k' : Bool} (I : Inv X pins σ H s) (q : Q (.bl k) H) (e : k = k') : EP X pins σ Q (.bool k') s:=by
  subst e
  exact ⟨.bl k,H,I,rfl,q⟩
theorem yK : OpR X (compareOp .Eq) rEq:=by
  intro pins s σ H x y v u Q I rx ry h
  obtain ⟨hs,q⟩:=h
  cases x with
  | non =>
    cases rx
    cases y with
    | non=>cases ry; exact PySem.EqNone.eq_none_none (yI I q (by simp))
    | bl j=>cases ry; exact PySem.EqNone.eq_none_bool (yI I q (by simp))
    | int j=>obtain ⟨t',rfl⟩:=ry; exact PySem.EqNone.eq_none_int (yI I q (by simp))
    | str j=>obtain ⟨t',rfl⟩:=ry; exact PySem.EqNone.eq_none_str (yI I q (by simp))
    | _=>exact absurd (show false = true from hs) Bool.false_ne_true
  | bl i =>
    cases rx
    cases y with
    | non=>cases ry; exact PySem.EqNone.eq_bool_none (yI I q (by simp))
    | bl j=>cases ry; exact eq_bool (yI I q zIz)
    | str j=>obtain ⟨t',rfl⟩:=ry; exact PySem.EqMixed.eq_bool_str (yI I q (by simp))
    | _=>exact absurd (show false = true from hs) Bool.false_ne_true
  | int i =>
    obtain ⟨t,rfl⟩:=rx
    cases y with
    | non=>cases ry; exact PySem.EqNone.eq_int_none (yI I q (by simp))
    | int j=>obtain ⟨t',rfl⟩:=ry; exact eq_int (yI I q zFd)
    | str j=>obtain ⟨t',rfl⟩:=ry; exact PySem.EqMixed.eq_int_str (yI I q (by simp))
    | _=>exact absurd (show false = true from hs) Bool.false_ne_true
  | str i =>
    obtain ⟨t,rfl⟩:=rx
    cases y with
    | non=>cases ry; exact PySem.EqNone.eq_str_none (yI I q (by simp))
    | bl j=>cases ry; exact PySem.EqMixed.eq_str_bool (yI I q (by simp))
    | int j=>obtain ⟨t',rfl⟩:=ry; exact PySem.EqMixed.eq_str_int (yI I q (by simp))
    | str j=>obtain ⟨t',rfl⟩:=ry; exact eq_str (yI I q zFn)
    | _=>exact absurd (show false = true from hs) Bool.false_ne_true
  | byt i =>
    obtain ⟨t,rfl⟩:=rx
    cases y with
    | byt j=>obtain ⟨t',rfl⟩:=ry; exact PySem.W.eq_bytes (yI I q zEx)
    | _=>exact absurd (show false = true from hs) Bool.false_ne_true
  | _=>cases y <;> exact absurd (show false = true from hs) Bool.false_ne_true
theorem jP : OpR X (compareOp .NotEq) rNe:=by
  intro pins s σ H x y v u Q I rx ry h
  obtain ⟨hs,q⟩:=h
  cases x with
  | non =>
    cases rx
    cases y with
    | non=>cases ry; exact PySem.EqNone.ne_none_none (yI I q (by simp))
    | bl j=>cases ry; exact PySem.EqNone.ne_none_bool (yI I q (by simp))
    | int j=>obtain ⟨t',rfl⟩:=ry; exact PySem.EqNone.ne_none_int (yI I q (by simp))
    | str j=>obtain ⟨t',rfl⟩:=ry; exact PySem.EqNone.ne_none_str (yI I q (by simp))
    | _=>exact absurd (show false = true from hs) Bool.false_ne_true
  | bl i =>
    cases rx
    cases y with
    | non=>cases ry; exact PySem.EqNone.ne_bool_none (yI I q (by simp))
    | bl j=>cases ry; exact ne_bool (yI I q (congrArg not zIz))
    | str j=>obtain ⟨t',rfl⟩:=ry; exact PySem.EqMixed.ne_bool_str (yI I q (by simp))
    | _=>exact absurd (show false = true from hs) Bool.false_ne_true
  | int i =>
    obtain ⟨t,rfl⟩:=rx
    cases y with
    | non=>cases ry; exact PySem.EqNone.ne_int_none (yI I q (by simp))
    | int j=>obtain ⟨t',rfl⟩:=ry; exact ne_int (yI I q (congrArg not zFd))
    | str j=>obtain ⟨t',rfl⟩:=ry; exact PySem.EqMixed.ne_int_str (yI I q (by simp))
    | _=>exact absurd (show false = true from hs) Bool.false_ne_true
  | str i =>
    obtain ⟨t,rfl⟩:=rx
    cases y with
    | non=>cases ry; exact PySem.EqNone.ne_str_none (yI I q (by simp))
    | bl j=>cases ry; exact PySem.EqMixed.ne_str_bool (yI I q (by simp))
    | int j=>obtain ⟨t',rfl⟩:=ry; exact PySem.EqMixed.ne_str_int (yI I q (by simp))
    | str j=>obtain ⟨t',rfl⟩:=ry; exact ne_str (yI I q (congrArg not zFn))
    | _=>exact absurd (show false = true from hs) Bool.false_ne_true
  | byt i =>
    obtain ⟨t,rfl⟩:=rx
    cases y with
    | byt j=>obtain ⟨t',rfl⟩:=ry; exact PySem.W.ne_bytes (yI I q (congrArg not zEx))
    | _=>exact absurd (show false = true from hs) Bool.false_ne_true
  | _=>cases y <;> exact absurd (show false = true from hs) Bool.false_ne_true
theorem kC : OpR X (compareOp .Lt) (rI0 fun i j=>.bl (decide (i < j))):=zNp fun _ _ _ _ _ _ _ q=>lt_int q
theorem zMc : OpR X (compareOp .LtE) (rI0 fun i j=>.bl (decide (i ≤ j))):=zNp fun _ _ _ _ _ _ _ q=>le_int q
theorem zCj : OpR X (compareOp .Gt) (rI0 fun i j=>.bl (decide (j < i))):=zNp fun _ _ _ _ _ _ _ q=>gt_int q
theorem zT (b : Expr) {op : CmpOp} (h : op ≠ .In:=by decide) (h2 : op ≠ .NotIn:=by decide) : behindInMarks op b = false:=by
  have e1 : (op == CmpOp.In) = false:=by cases op <;> first | rfl | exact absurd rfl h
  have e2 : (op == CmpOp.NotIn) = false:=by cases op <;> first | rfl | exact absurd rfl h2
  cases b <;> simp [behindInMarks,e1,e2]
theorem xE {op : CmpOp} {r : R2} (ho : OpR X (compareOp op) r) (ha : PE X a ta) (hb : PE X b tb) (hm : behindInMarks op b = false) : PE X (.Compare a [op] [b] pos) (tOp r ta tb):=by
  intro pins s σ H Q I h
  exact wpAny_Compare1 (zOh ha hb I h fun v u s2 x y H2 I2 rx ry q=>ho pins s2 σ H2 x y v u Q I2 rx ry q) hm
def tTest (t : TE) : TT:=fun σ H Q=>t σ H fun x H'=>∃ k,x = .bl k ∧ Q k H'
theorem zS {op : CmpOp} {r : R2} (ho : OpR X (compareOp op) r) (ha : PE X a ta) (hb : PE X b tb) (hm : behindInMarks op b = false) : PT X (.Compare a [op] [b] pos) (tTest (tOp r ta tb)):=by
  intro pins s σ H Q I h
  refine wpAny_isTrue_Compare1 (thn (ha pins s σ H _ I h) fun v s1 ⟨x,H1,I1,r1,q1⟩=>thn (hb pins s1 σ H1 _ I1 q1) fun u s2 ⟨y,H2,I2,r2,q2⟩ =>
    thn (ho pins s2 σ H2 x y v u _ I2 r1 r2 q2) fun c s3 ⟨z,H3,I3,r3,k,e,q3⟩=>?_) hm
  subst e
  cases r3
  exact wpAny_truthy_bool ⟨H3,I3,q3⟩
def tChain (r r' : R2) (ta tb tc : TE) : TE:=fun σ H Q=>ta σ H fun x H1=>tb σ H1 fun y H2=>r x y H2 fun z H3=>∃ k,z = .bl k ∧
  (if k = true then tc σ H3 fun w' H4=>r' y w' H4 Q else Q (.bl false) H3)
theorem zId {op op' : CmpOp} {r r' : R2} (ho : OpR X (compareOp op) r) (ho' : OpR X (compareOp op') r') (ha : PE X a ta) (hb : PE X b tb) (hc : PE X c tc)
    (hm : lastMarks [op,op'] [b,c] = false:=by with_unfolding_all rfl) : PE X (.Compare a [op,op'] [b,c] pos) (tChain r r' ta tb tc):=by
  intro pins s σ H Q I h
  refine Compare_chain (thn (ha pins s σ H _ I h) fun v s1 ⟨x,H1,I1,r1,q1⟩=>chain_link (thn (hb pins s1 σ H1 _ I1 q1) fun u s2 ⟨y,H2,I2,r2,q2⟩ =>
    thn (ho pins s2 σ H2 x y v u _ I2 r1 r2 q2) fun d s3 ⟨z,H3,I3,r3,k,e,q3⟩=>?_)) hm
  subst e
  cases r3
  refine wpAny_truthy_bool ?_
  cases k with
  | false=>exact ite_ff ⟨.bl false,H3,I3,rfl,q3⟩
  | true=>exact ite_tt (chain_last (thn (hc pins s3 σ H3 _ I3 q3) fun w' s4 ⟨z',H4,I4,r4,q4⟩=>ho' pins s4 σ H4 y z' u w' Q I4 r2 r4 q4))
def TruV (K : PySem.W.Frag) (x : V) (H : Hp) (k : Bool) : Prop :=
  match x with
  | .non=>k = false
  | .bl b=>k = b
  | .int i=>k = (i != 0)
  | .str y=>y.length ≤ sizeLine ∧ k = ((y.length : Int) != 0)
  | .byt y=>y.size ≤ sizeLine ∧ k = ((y.size : Int) != 0)
  | .ref p=>(∃ xs,SqL K H p xs ∧ k = !xs.isEmpty) ∨ (∃ xs,SqT K H p xs ∧ k = !xs.isEmpty) ∨ ∃ kvs,H p = some (.dK kvs) ∧ k = !kvs.isEmpty
  | _=>False
theorem zEc {κ : Type} {kvs : List (κ × V)} {vs : List (κ × Value)} (r : KV kvs vs) : (!vs.isEmpty) = !kvs.isEmpty:=by
  cases r <;> rfl
theorem uD {xs : List V} {its : List Value} (r : Vals xs its) : (!its.toArray.isEmpty) = !xs.isEmpty:=by
  cases r <;> simp
theorem jS : (sizeLine : Nat) < 2 ^ 63:=by rw [sizeLine_eq]; decide
theorem zNd : TruR X (fun x H Q=>∃ k,TruV X.K x H k ∧ Q k H):=by
  intro pins s σ H x v Q I rx h
  obtain ⟨k,e,q⟩:=h
  have hl:=jS
  have hs : sizeLine = 16777216:=sizeLine_eq
  cases x with
  | non =>
    cases rx
    have e' : k = false:=e
    subst e'
    exact truthy_none ⟨H,I,q⟩
  | bl b =>
    cases rx
    have e' : k = b:=e
    subst e'
    exact wpAny_truthy_bool ⟨H,I,q⟩
  | int i =>
    obtain ⟨t,rfl⟩:=rx
    have e' : k = (i != 0):=e
    subst e'
    exact PySem.P.truthy_int ⟨H,I,q⟩
  | str y =>
    obtain ⟨t,rfl⟩:=rx
    obtain ⟨hy,e'⟩ : y.length ≤ sizeLine ∧ k = ((y.length : Int) != 0):=e
    subst e'
    exact PySem.P.truthy_str (by omega) ⟨H,I.tok _,q⟩
  | byt y =>
    obtain ⟨t,rfl⟩:=rx
    obtain ⟨hy,e'⟩ : y.size ≤ sizeLine ∧ k = ((y.size : Int) != 0):=e
    subst e'
    exact PySem.W.truthy_bytes (by omega) ⟨H,I.tok _,q⟩
  | ref p =>
    cases rx
    have e' : (∃ xs,SqL X.K H p xs ∧ k = !xs.isEmpty) ∨ (∃ xs,SqT X.K H p xs ∧ k = !xs.isEmpty) ∨ ∃ kvs,H p = some (.dK kvs) ∧ k = !kvs.isEmpty:=e
    rcases e' with ⟨xs,hx,e'⟩ | ⟨xs,hx,e'⟩ | ⟨kvs,hx,e'⟩
    · subst e'
      obtain ⟨its,r,pl,hz⟩:=I.list hx
      have hlen:=r.length
      exact wpAny_truthy_list pl.isList (by simp only [List.size_toArray]; omega) ⟨H,I.tok _,by rw [uD r]; exact q⟩
    · subst e'
      obtain ⟨its,r,pl,hz⟩:=I.tuple hx
      have hlen:=r.length
      exact truthy_tuple pl (by simp only [List.size_toArray]; omega) ⟨H,I.tok _,by rw [uD r]; exact q⟩
    · subst e'
      obtain ⟨hz,hS,vs,r,m⟩ : kvs.length ≤ sizeLine ∧ (p == sysModules) = false ∧ ∃ vs,KV kvs vs ∧ s.heap.DictOf (mixKind X.prog X.w) p vs:=I.hok p _ hx
      have hlen : kvs.length = vs.length:=Paired.length r
      exact wpAny_truthy_dict hS m (by omega) ⟨H,I.tok _,by rw [zEc r]; exact q⟩
  | _=>exact (show False from e).elim
theorem zHx (ha : PE X a ta) (he : ∀ whole,isTrue a X.env whole = (do let v ← whole; standAt a.pos; holding [v] (truthy v))) :
    PT X a (fun σ H Q=>ta σ H fun x H'=>∃ k,TruV X.K x H' k ∧ Q k H'):=by
  intro pins s σ H Q I h
  exact isTrue_plain (thn (ha pins s σ H _ I h) fun v s1 ⟨x,H1,I1,r1,q1⟩=>zNd pins s1 σ H1 x v Q I1 r1 q1) (he _)
theorem xP : OpR X (binaryOp .Add) (fun x y H Q=>∃ i j,x = .str i ∧ y = .str j ∧ i.length + j.length ≤ sizeLine ∧ Q (.str (i ++ j)) H):=by
  intro pins s σ H x y v u Q I rx ry h
  obtain ⟨i,j,rfl,rfl,hz,q⟩:=h
  obtain ⟨t,rfl⟩:=rx
  obtain ⟨t',rfl⟩:=ry
  exact add_str (fun t' tk=>⟨.str (i ++ j),H,I.tok _,⟨_,rfl⟩,q⟩) hz
theorem wZ {x : V} {us : List Value} (r : Vals [x] us) : ∃ u,us = [u] ∧ RelV x u:=by
  cases r with
  | cons r1 r2=>cases r2; exact ⟨_,rfl,r1⟩
theorem kR {x y : V} {us : List Value} (r : Vals [x,y] us) : ∃ u w',us = [u,w'] ∧ RelV x u ∧ RelV y w':=by
  cases r with
  | cons r1 r2 =>
    cases r2 with
    | cons r3 r4=>cases r4; exact ⟨_,_,rfl,r1,r3⟩
theorem uP (hc : X.calm = true) : CallR X (.builtin "min") (fun xs H Q=>∃ i j,xs = [.int i, .int j] ∧ Q (.int (if j < i then j else i)) H):=by
  intro pins s σ H xs us Q I r h
  obtain ⟨i,j,rfl,q⟩:=h
  obtain ⟨u,w',rfl,⟨t,rfl⟩,⟨t',rfl⟩⟩:=kR r
  refine min_two_ints (I.ok.hd hc) fun h' tk k=>⟨_,H,I.kept k, ?_,q⟩
  by_cases hj : j < i
  · rw [if_pos hj,if_pos hj]; exact ⟨_,rfl⟩
  · rw [if_neg hj,if_neg hj]; exact ⟨_,rfl⟩
theorem zHf : CallR X (.type "int") (fun xs H Q=>(∃ i,xs = [.int i] ∧ Q (.int i) H) ∨ ∃ k,xs = [.bl k] ∧ Q (.int (if k then 1 else 0)) H):=by
  intro pins s σ H xs us Q I r h
  rcases h with ⟨i,rfl,q⟩ | ⟨k,rfl,q⟩
  · obtain ⟨u,rfl,t,rfl⟩:=wZ r
    exact call_int_int ⟨.int i,H,I,⟨_,rfl⟩,q⟩
  · obtain ⟨u,rfl,r1⟩:=wZ r
    cases r1
    exact call_int_bool ⟨.int (if k then 1 else 0),H,I.tok _,⟨_,rfl⟩,q⟩
theorem zBd : CallR X (.type "str") (fun xs H Q=>∃ i,xs = [.int i] ∧ i.natAbs.log2 < 1920 ∧ Q (.str (toString i)) H):=by
  intro pins s σ H xs us Q I r h
  obtain ⟨i,rfl,hz,q⟩:=h
  obtain ⟨u,rfl,t,rfl⟩:=wZ r
  exact PySem.P.str_of_int hz ⟨.str _,H,I.tok _,⟨_,rfl⟩,q⟩
end
structure ObjM (h : Heap) (x dx C : Addr) (mA : Str → Option Value) : Prop where
  obj : h.get? x = some (PySem.W.instObj C dx)
  ns : h.Ns1 dx mA
  ne : dx ≠ x
theorem uT {h : Heap} {dx : Addr} {mA : Str → Option Value} (n : h.Ns1 dx mA) : ∃ od,h.get? dx = some od ∧ ∀ name,PySem.W.lookIn name od = some (mA name):=by
  obtain ⟨o,es,ep,ho,hd,hk,_,hm⟩:=n
  refine ⟨o,ho,fun name=>?_⟩
  have e:=hm name
  unfold nsFind findBy at e
  rw [← Array.find?_toList] at e
  unfold PySem.W.lookIn
  rw [hd]
  dsimp only
  split
  · rename_i y q
    rw [q] at e
    exact congrArg some e
  · rename_i q
    rw [q] at e
    have a : es.toList.any (·.refKey) = false:=by
      rw [List.any_eq_false]
      intro y hy
      obtain ⟨z,t,hkey⟩:=hk y (Array.mem_toList_iff.mp hy)
      simp [DictEntry.refKey,hkey]
    have a' : ¬ es.toList.any (·.refKey) = true:=by rw [a]; exact Bool.false_ne_true
    rw [if_neg a']
    exact congrArg some e
theorem ObjM.look {h : Heap} {x dx C : Addr} {mA : Str → Option Value} (I : ObjM h x dx C mA) : ∃ od,PySem.W.InstAt h x (PySem.W.instObj C dx) C (some od) ∧ ∀ name,PySem.W.lookIn name od = some (mA name) :=
  let ⟨od,ho,hl⟩:=uT I.ns
  ⟨od,⟨I.obj,rfl,rfl,ho⟩,hl⟩
section
variable {prog : Program} {w : World} {A : Around} {E : Value → Shared → Prop} {s : Shared} {K : PySem.W.Frag} {x dx C f : Addr} {mA : Str → Option Value} {name : Str} {v : Value}
end
theorem RelO.some_of {v : V} {o : Option Value} (r : RelO (some v) o) : ∃ u,o = some u ∧ RelV v u:=by
  cases o with
  | none=>exact (show False from r).elim
  | some u=>exact ⟨u,rfl,r⟩
section
variable {P : Program} {w : World} {H H' : Hp} {h h' : Heap} {a C dx : Addr} {fs fs' : List (Str × V)}
theorem zKh (hok : HOk P w H h) (e : H a = some (.ins C dx fs)) : ∃ mA,ObjM h a dx C mA ∧ (∀ f,RelO (fs.lookup f) (mA f)) ∧ PySem.Within mA (fs.map (·.1)) ∧ fs.length ≤ 1000 ∧ H dx = some (.own a):=by
  obtain ⟨d,z,ne,ob,mA,n,r,q⟩:=(show ObjOk P w H h a (.ins C dx fs) from hok a _ e)
  exact ⟨mA,⟨ob,n,ne⟩,r,q,z,d⟩
end
structure Cls (K : PySem.W.Frag) (C : Addr) : Prop where
  pg : PySem.W.plainGet K C Str.empty = true
  hd : PySem.W.hasDictIn K C = true
  po : PySem.W.plainOver K C = true
  sa : PySem.W.findIn K (.ref C) "__setattr__" = some (some (.builtin "object.__setattr__"))
theorem Cls.get {K : PySem.W.Frag} {C : Addr} (c : Cls K C) (f : Str) : PySem.W.plainGet K C f = true:=c.pg
structure Con (K : PySem.W.Frag) (C : Addr) (f : Str) (v : V) (u : Value) : Prop where
  at_ : PySem.W.findIn K (.ref C) f = some (some u)
  rel : RelV v u
  get : PySem.W.specialIn K u "__get__" = some none
  cp : PySem.W.copiedNames.contains f = false
structure Meth (K : PySem.W.Frag) (C : Addr) (m : Str) (f : Addr) : Prop where
  at_ : PySem.W.findIn K (.ref C) m = some (some (.ref f))
  fn : PySem.W.isFn K (.ref f) = true
  kp : PySem.W.keepIn K (.ref f) = true
section
variable {X : Cx} {pins : List (Addr × Obj)} {σ : St} {H : Hp} {s : Shared} {a C dx : Addr} {fs : List (Str × V)} {f : Str} {v : V} {A : Around} {E : Value → Shared → Prop}
theorem zKq {prog : Program} {w : World} {env : Env} {e : Expr} {f : Str} {pos : Pos} {s : Shared} {Q : Value → Shared → Prop} (hb : attributeBase e f env (eval e env) = eval e env)
    (h : wpAny (model prog w) A (eval e env) (fun o s₁=>wpAny (model prog w) A (getAttr o f true) Q E s₁) E s) : wpAny (model prog w) A (eval (.Attribute e f pos) env) Q E s :=
  Attribute_any_ h (by rw [arm_eval_Attribute,hb])
end
section
variable {X : Cx} {o e value : Expr} {f : Str} {pos pos' tpos : Pos} {ta tv : TE}
end
section
variable {X : Cx} {pins : List (Addr × Obj)} {σ : St} {H : Hp} {s : Shared} {A : Around} {E : Value → Shared → Prop} {Q : Value → Shared → Prop} {c : Value} {b : Bool}
inductive TyOf (K : PySem.W.Frag) (H : Hp) : V → Value → Prop where
  | non : TyOf K H .non (.type "NoneType")
  | bl (x : Bool) : TyOf K H (.bl x) (.type "bool")
  | int (i : Int) : TyOf K H (.int i) (.type "int")
  | str (x : Str) : TyOf K H (.str x) (.type "str")
  | flt (x : UInt64) : TyOf K H (.flt x) (.type "float")
  | lst {a : Addr} {xs : List V} (e : H a = some (.lst xs)) : TyOf K H (.ref a) (.type "list")
  | frz {a : Addr} {o : Obj} {xs : List V} (e : H a = some (.frz o (.lst xs))) : TyOf K H (.ref a) (.type "list")
  | tup {a : Addr} {xs : List V} (e : H a = some (.tup xs)) : TyOf K H (.ref a) (.type "tuple")
  | dK {a : Addr} {kvs : List (Key × V)} (e : H a = some (.dK kvs)) : TyOf K H (.ref a) (.type "dict")
  | dT {a : Addr} {kvs : List (List Key × V)} (e : H a = some (.dT kvs)) : TyOf K H (.ref a) (.type "dict")
  | ins {a C dx : Addr} {fs : List (Str × V)} (e : H a = some (.ins C dx fs)) (cl : Cls K C) (ha : PySem.W.findIn K (.ref C) "__class__" = some (some (.builtin "object.__class__")))
      (hn : PySem.W.specialIn K (.builtin "object.__class__") "__get__" = some (some (.builtin "getset_descriptor.__get__"))) (htk : PySem.W.takesIn K (.builtin "object.__class__") = some true)
      (hm : PySem.W.mroIn K C (.type "object") = some true) : TyOf K H (.ref a) (.ref C)
theorem zGr {x : V} {u t : Value} (I : Inv X pins σ H s) (rx : RelV x u) (ty : TyOf X.K H x t) (e : PySem.W.kitOne X.K t c = some b) (h : ∀ tk,Q (.bool b) { s with toks:=tk }) :
    wpAny (model X.prog X.w) A (call (.builtin "isinstance") [u,c]) Q E s:=by
  cases ty with
  | non=>cases (show u = Value.none from rx); exact PySem.W.kia_one PySem.W.kitx_none I.kIn True.intro e (fun z=>nomatch z) h
  | bl y=>cases (show u = Value.bool y from rx); exact PySem.W.kia_one PySem.W.kitx_bool I.kIn True.intro e (fun z=>nomatch z) h
  | int i=>obtain ⟨t,q⟩:=(show ∃ t,u = Value.int i t from rx); cases q; exact PySem.W.kia_one PySem.W.kitx_int I.kIn True.intro e (fun z=>nomatch z) h
  | str y=>obtain ⟨t,q⟩:=(show ∃ t,u = Value.str y t from rx); cases q; exact PySem.W.kia_one PySem.W.kitx_str I.kIn True.intro e (fun z=>nomatch z) h
  | flt y=>obtain ⟨t,q⟩:=(show ∃ t,u = Value.float y t from rx); cases q; exact PySem.W.kia_one PySem.W.kitx_float I.kIn True.intro e (fun z=>nomatch z) h
  | @lst a xs ea =>
    cases (show u = Value.ref a from rx)
    obtain ⟨_,_,n,_,h1⟩:=(show ObjOk X.prog X.w H s.heap a (.lst xs) from I.hok a _ ea)
    exact PySem.W.kia_one PySem.W.kitx_list I.kIn ⟨_,h1,rfl⟩ e (fun z=>nomatch z) h
  | @frz a ob xs ea =>
    cases (show u = Value.ref a from rx)
    obtain ⟨_,_,_,n,_,h1⟩:=(show ObjOk X.prog X.w H s.heap a (.frz ob (.lst xs)) from I.hok a _ ea)
    exact PySem.W.kia_one PySem.W.kitx_list I.kIn ⟨_,h1,rfl⟩ e (fun z=>nomatch z) h
  | @tup a xs ea =>
    cases (show u = Value.ref a from rx)
    obtain ⟨_,_,_,p⟩:=(show ObjOk X.prog X.w H s.heap a (.tup xs) from I.hok a _ ea)
    obtain ⟨o,h1,h2,_⟩:=p
    exact PySem.W.kia_one PySem.W.kitx_tuple I.kIn ⟨o,h1,h2⟩ e (fun z=>nomatch z) h
  | @dK a kvs ea =>
    cases (show u = Value.ref a from rx)
    obtain ⟨_,_,vs,_,p⟩:=(show ObjOk X.prog X.w H s.heap a (.dK kvs) from I.hok a _ ea)
    obtain ⟨o,es,ep,h1,h2,_⟩:=p
    exact PySem.W.kia_one PySem.W.kitx_dict I.kIn ⟨o,h1,h2.1⟩ e (fun z=>nomatch z) h
  | @dT a kvs ea =>
    cases (show u = Value.ref a from rx)
    obtain ⟨_,_,xs,_,o,es,ep,h1,h2,_⟩:=(show ObjOk X.prog X.w H s.heap a (.dT kvs) from I.hok a _ ea)
    exact PySem.W.kia_one PySem.W.kitx_dict I.kIn ⟨o,h1,h2.1⟩ e (fun z=>nomatch z) h
  | @ins a C dx fs ea cl ha hn htk hm =>
    cases (show u = Value.ref a from rx)
    obtain ⟨mA,O,_⟩:=zKh I.hok ea
    obtain ⟨od,J,_⟩:=O.look
    exact PySem.W.kia_one (PySem.W.kitx_own (cl.get _) cl.hd ha hn htk hm) I.kIn J e (fun z=>nomatch z) h
end
structure Room (k : Nat) (A : Around) : Prop where
  hd : A.handled = none
  dp : A.depth + 3 * k + 5 < recursionLimit
  un : A.units + 16 * k + 200 < cLine
theorem Room.mono {j k : Nat} {A : Around} (r : Room k A) (h : j ≤ k) : Room j A:=⟨r.hd,by have:=r.dp; omega,by have:=r.un; omega⟩
theorem Room.deeper {k : Nat} {A : Around} (r : Room (k + 1) A) (env : Env) : Room k (A.deeper env) :=
  ⟨r.hd,by have:=r.dp; show A.depth + 1 + 3 * k + 5 < _; omega,by have:=r.un; show A.units + 3 + 16 * k + 200 < _; omega⟩
theorem zDn {A : Around} {C : Addr} {us : List Value} {kw : List (Str × Value)} : (A.under (.builtin "type.__call__" ⟨.ref C :: us,kw⟩)).depth = A.depth + 1:=by
  first | rfl | simp [Around.under,Code.weight,Code.isCreation,Code.isGuard,Code.isCaller,Code.frames,Code.isFrame,guardIds]
theorem zEl {A : Around} {C : Addr} {us : List Value} {kw : List (Str × Value)} : (A.under (.builtin "type.__call__" ⟨.ref C :: us,kw⟩)).units = A.units + 1:=by
  first | rfl | simp [Around.under,Code.cUnits,Code.frames,Code.isFrame]
theorem Room.make {k : Nat} {A : Around} (r : Room (k + 1) A) (C : Addr) (us : List Value) (kw : List (Str × Value)) : Room k (A.under (.builtin "type.__call__" ⟨.ref C :: us,kw⟩)) :=
  ⟨r.hd,by have:=r.dp; rw [zDn]; omega,by have:=r.un; rw [zEl]; omega⟩
theorem Room.depth {k : Nat} {A : Around} (r : Room k A) : A.depth < recursionLimit:=by have:=r.dp; omega
theorem Room.units {k : Nat} {A : Around} (r : Room k A) : A.units + 64 < cLine:=by have:=r.un; omega
theorem Room.units0 {k : Nat} {A : Around} (r : Room k A) : A.units < cLine:=by have:=r.un; omega
def tNil : TA:=fun _ H Q=>Q [] H
def tCons (ta : TE) (tr : TA) : TA:=fun σ H Q=>ta σ H fun x H1=>tr σ H1 fun xs H2=>Q (x :: xs) H2
section
variable {X : Cx} {e : Expr} {es : List Expr} {te : TE} {t : TA} {pos : Pos}
theorem zB : PA X [] tNil:=fun _ _ _ _ H Q I h=>Calls.spliced_nil ⟨[],H,I, .nil,h⟩
theorem zA (ha : PE X e te) (hr : PA X es t) (hs : starEach (e :: es) X.env = (false,eval e X.env) :: starEach es X.env:=by rfl) : PA X (e :: es) (tCons te t):=by
  intro pos pins s σ H Q I h
  rw [hs]
  show wpAny _ _ (spliced ((false,eval e X.env) :: backTo pos (starEach es X.env))) _ _ s
  refine Calls.spliced_cons (thn (ha pins s σ H _ I h) fun u s1 ⟨x,H1,I1,r1,q1⟩=>?_)
  exact thn (hr pos pins s1 σ H1 _ I1 q1) fun us s2 ⟨xs,H2,I2,r2,q2⟩=>⟨x :: xs,H2,I2, .cons r1 r2,q2⟩
def tTup (t : TA) : TE:=fun σ H Q=>t σ H fun xs H1=>xs.length ≤ sizeLine ∧ ∀ p,H1 p = none → Q (.ref p) (upd H1 p (.tup xs))
def tLst (t : TA) : TE:=fun σ H Q=>t σ H fun xs H1=>xs.length ≤ sizeLine ∧ ∀ p,H1 p = none → Q (.ref p) (upd H1 p (.lst xs))
theorem yT {x1} (h : PA X es t) : PE X (.Tuple es x1 pos) (tTup t):=by
  intro pins s σ H Q I hq
  refine wpAny_Tuple_spliced (thn (h pos pins s σ H _ I hq) fun us s1 ⟨xs,H1,I1,r,z,q⟩=>⟨by rw [← r.length]; exact z, ?_⟩)
  have hf : H1 s1.heap.objs.size = none:=I1.hok.fresh (Nat.le_refl _)
  refine ⟨.ref s1.heap.objs.size,upd H1 s1.heap.objs.size (.tup xs),I1.laid (t':=s1.toks) (fun b u e=>Heap.get?_push_of_some _ e) (Nat.le_refl _) ?_,rfl,q _ hf⟩
  exact ⟨z,us,r,⟨_,Heap.get?_push_size _ rfl,rfl,_,rfl⟩⟩
theorem yB (h : PA X es t) : PE X (.List es pos) (tLst t):=by
  intro pins s σ H Q I hq
  refine wpAny_List_spliced (thn (h pos pins s σ H _ I hq) fun us s1 ⟨xs,H1,I1,r,z,q⟩=>⟨by rw [← r.length]; exact z, ?_⟩)
  have hf : H1 s1.heap.objs.size = none:=I1.hok.fresh (Nat.le_refl _)
  refine ⟨.ref s1.heap.objs.size,upd H1 s1.heap.objs.size (.lst xs),I1.laid (t':=s1.toks) (fun b u e=>Heap.get?_push_of_some _ e) (Nat.le_refl _) ?_,rfl,q _ hf⟩
  exact ⟨z,us,0,r,Heap.get?_push_size _ rfl⟩
end
abbrev Sp:=List V → Hp → VK → XK → Prop
abbrev CXT:=List Env → Hp → Shared → XK → Value → Shared → Prop
structure Env0 (P : Program) (w : World) (K : PySem.W.Frag) (mg : Str → Option Value) (base : Heap) (A : Around) (outer : List Env) (s : Shared) (H : Hp) : Prop where
  frames : A.frames = some outer
  mod : Mod K mg base
  bs : ∀ b o,base.get? b = some o → s.heap.get? b = some o ∧ H b = none
  bsz : base.objs.size ≤ s.heap.objs.size
  funs : s.heap.FunFrames base outer
  frf : ∀ b ∈ frs outer,H b = none
  hok : HOk P w H s.heap
  bare : AllBare s.gens
def CE (outer : List Env) (P : Program) (w : World) (H : Hp) (s : Shared) (Q : VK) (u : Value) (s' : Shared) : Prop :=
  ∃ v H',s'.os = s.os ∧ AllBare s'.gens ∧ Un (frs outer) [] H H' s.heap s'.heap ∧ HOk P w H' s'.heap ∧ RelV v u ∧ Q v H'
def CR (CX : CXT) (outer : List Env) (P : Program) (w : World) (H : Hp) (s : Shared) (Q : VK) (E : XK) (r : Result) (s' : Shared) : Prop :=
  match r with
  | .ok (.ret u)=>CE outer P w H s Q u s'
  | .ok _=>False
  | .error e=>CX outer H s E e s'
structure FnOk (P : Program) (w : World) (K : PySem.W.Frag) (mg : Str → Option Value) (base : Heap) (CX : CXT) (k : Nat) (f : Addr) (fd : FuncData) (ps : List Str) (sp : Sp) : Prop where
  len : ∀ vs H Q E,sp vs H Q E → vs.length = ps.length
  run : ∀ (A : Around) (outer : List Env) (s : Shared) (H : Hp) (args : Args) (us : List Value) (vs : List V) (Q : VK) (E : XK),Room k A → Env0 P w K mg base A outer s H → BindsTo s fd args (ps.zip us) → Vals vs us → sp vs H Q E →
    codeAny (model P w) A (.call (.ref f) args) (CR CX outer P w H s Q E) s
theorem Env0.make {P : Program} {w : World} {K : PySem.W.Frag} {mg : Str → Option Value} {base : Heap} {A : Around} {outer : List Env} {s : Shared} {H : Hp} (e : Env0 P w K mg base A outer s H) (C : Addr) (us : List Value) (kw : List (Str × Value)) :
    Env0 P w K mg base (A.under (.builtin "type.__call__" ⟨.ref C :: us,kw⟩)) outer s H:=⟨by first | exact e.frames | (simpa [Around.under,Code.envs,Code.isFrame,pushEnvs] using e.frames),e.mod,e.bs,e.bsz,e.funs,e.frf,e.hok,e.bare⟩
section
variable {X : Cx} {pins : List (Addr × Obj)} {σ : St} {H : Hp} {s s' : Shared}
theorem Inv.env0 (I : Inv X pins σ H s) : Env0 X.prog X.w X.K X.mg X.base X.A X.stack s H :=
  ⟨I.ok.frames,I.ok.mod,I.bs,Nat.le_trans I.ok.bsz I.sz,I.stack,I.stkFree,I.hok,I.bare⟩
theorem Inv.after {Q : VK} {u : Value} (I : Inv X pins σ H s) (h : CE X.stack X.prog X.w H s Q u s') : EP X pins σ Q u s':=by
  obtain ⟨v,H',os,bare,un,hok,r,q⟩:=h
  obtain ⟨hh,g,d,t,os'⟩:=s'
  obtain rfl : os' = s.os:=os
  exact ⟨v,H',I.call (h':=hh) (g':=g) (d':=d) (t':=t) (ch:=[]) un hok bare (fun b z=>absurd z (by simp)),r,q⟩
end
def tCall (sp : Sp) (dvs : List V) (E : XK) (t : TA) : TE:=fun σ H Q=>t σ H fun vs H1=>sp (vs ++ dvs) H1 Q E
def Binds (K : PySem.W.Frag) (fd : FuncData) (ps : List Str) (ds : List Value) : Prop :=
  ∀ (s : Shared) (us : List Value),K.In s.heap → (us ++ ds).length = ps.length → BindsTo s fd ⟨us,[]⟩ (ps.zip (us ++ ds))
theorem Binds.all {K : PySem.W.Frag} {fd : FuncData} {ps : List Str} (h : ∀ us : List Value,us.length = ps.length → bindArgs fd ⟨us,[]⟩ = pure (ps.zip us)) : Binds K fd ps []:=fun s us _ hl=>by
  rw [List.append_nil] at hl ⊢
  exact .of_eq (h us hl)
def Passes (CX : CXT) (X : Cx) (E : XK) : Prop:=∀ (pins : List (Addr × Obj)) (σ : St) (H : Hp) (s : Shared) (e : Value) (s' : Shared),Inv X pins σ H s → CX X.stack H s E e s' → X.xe e s'
section
variable {X : Cx} {CX : CXT} {k : Nat} {f C : Addr} {fd : FuncData} {ps : List Str} {sp : Sp} {dvs : List V} {ds : List Value} {E : XK} {x m : Str} {p pos apos : Pos} {e o : Expr} {es : List Expr} {ta : TE} {t : TA}
theorem zIi {pins : List (Addr × Obj)} {σ : St} {H : Hp} {s : Shared} {Q : VK} {us : List Value} {vs : List V} (F : FnOk X.prog X.w X.K X.mg X.base CX k f fd ps sp) (hr : Room k X.A) (hb : Binds X.K fd ps ds) (hd : Vals dvs ds) (hx : Passes CX X E)
    (I : Inv X pins σ H s) (r : Vals vs us) (h : sp (vs ++ dvs) H Q E) : wpAny (model X.prog X.w) X.A (call (.ref f) us) (EP X pins σ Q) X.xe s:=by
  have r2 : Vals (vs ++ dvs) (us ++ ds):=r.append hd
  have hl : (us ++ ds).length = ps.length:=by rw [← r2.length]; exact F.len _ _ _ _ h
  refine wpAny_call (codeAny_mono (F.run X.A X.stack s H ⟨us,[]⟩ (us ++ ds) (vs ++ dvs) Q E hr I.env0 (hb s us I.kIn hl) r2 h) fun r s' hq=>?_)
  cases r with
  | error e=>exact hx pins σ H s e s' I hq
  | ok fl =>
    cases fl with
    | ret u=>exact I.after hq
    | next=>exact False.elim hq
    | brk=>exact False.elim hq
    | cont=>exact False.elim hq
theorem kK (F : FnOk X.prog X.w X.K X.mg X.base CX k f fd ps sp) (hr : Room k X.A) (hg : Gl X x) (hm : X.mg x = some (.ref f)) (hk : PySem.W.keepIn X.K (.ref f) = true) (hb : Binds X.K fd ps ds) (hd : Vals dvs ds) (hx : Passes CX X E)
    (ha : PA X (e :: es) t) (hdb : (x == ("__debug__" : Str)) = false:=by decide) (he : starEach (e :: es) X.env = (false,eval e X.env) :: starEach es X.env:=by rfl) (hpl : (backTo pos (starEach es X.env)).any (·.1) = false:=by rfl) :
    PE X (.Call (.Name x p) (e :: es) [] pos) (tCall sp dvs E t):=by
  intro pins s σ H Q I h
  refine wpAny_Call_Name_kw (vT I hg hm ?_ hdb)
  refine PySem.W.callWith_K (h₀:=X.base) I.ok.mod.kin hk (thn (ha pos pins s σ H _ I h) fun us s1 ⟨vs,H1,I1,r,q⟩=>⟨I1.kIn, ?_⟩) he hpl
  exact zIi F hr hb hd hx I1 r q
theorem zJp (F : FnOk X.prog X.w X.K X.mg X.base CX k f fd ps sp) (hr : Room k X.A) (hg : Gl X x) (hm : X.mg x = some (.ref f)) (hk : PySem.W.keepIn X.K (.ref f) = true) (hb : Binds X.K fd ps ds) (hd : Vals dvs ds) (hx : Passes CX X E)
    (hdb : (x == ("__debug__" : Str)) = false:=by decide) : PE X (.Call (.Name x p) [] [] pos) (tCall sp dvs E tNil):=by
  intro pins s σ H Q I h
  refine wpAny_Call_Name_kw (vT I hg hm ?_ hdb)
  exact PySem.W.callWith_K0 I.kIn hk (zIi (us:=[]) F hr hb hd hx I .nil h)
structure Mk (K : PySem.W.Frag) (C f : Addr) : Prop where
  makes : PySem.W.makesIn K C = true
  init : PySem.W.findIn K (.ref C) "__init__" = some (some (.ref f))
  fn : PySem.W.isFn K (.ref f) = true
  kp : PySem.W.keepIn K (.ref C) = true
end
section
variable {X : Cx} {CX : CXT} {k : Nat} {f C : Addr} {fd : FuncData} {ps ks : List Str} {sp : Sp} {E : XK} {x m : Str} {p pos apos kpos : Pos} {e o : Expr} {es : List Expr} {kws : List Keyword} {te ta : TE} {t tk : TA} {nm : Option Str}
structure KBinds (K : PySem.W.Frag) (fd : FuncData) (ps ks : List Str) (g : List Value → List Value → List Value) (gV : List V → List V → List V) : Prop where
  to : ∀ (s : Shared) (us ws : List Value),K.In s.heap → (g us ws).length = ps.length → BindsTo s fd ⟨us,ks.zip ws⟩ (ps.zip (g us ws))
  rel : ∀ {vs : List V} {us : List Value} {zs : List V} {ws : List Value},Vals vs us → Vals zs ws → Vals (gV vs zs) (g us ws)
variable {g : List Value → List Value → List Value} {gV : List V → List V → List V}
end
structure FnScope (N P : List Str) (sc : Scope) : Prop where
  kind : sc.kind = .function
  co : sc.isCoroutine = false
  gen : sc.isGenerator = false
  nd : N.Nodup
  pre : N.take P.length = P
  par : ∀ x ∈ P,sc.names.lookup x = some .local ∨ sc.names.lookup x = some .cell
  nofree : ∀ y ∈ sc.names,y.2 ≠ .free
theorem uU {kindOf : Str → Option NameKind} {x : Str} : ∀ {binds : List (Str × Value)} {m : Str → Option Value},(∀ v,(x,v) ∉ binds) → bindL kindOf binds m x = m x
  | [],_,_=>rfl
  | (n,v) :: r,m,h=>by
    unfold bindL
    rw [uU fun w hw=>h w (List.mem_cons_of_mem _ hw)]
    split
    · have : x ≠ n:=by rintro rfl; exact h v List.mem_cons_self
      simp [this]
    · rfl
theorem uR {kindOf : Str → Option NameKind} {x : Str} : ∀ {binds : List (Str × Value)} {m : Str → Option Value},(∀ v,(x,v) ∉ binds) → bindC kindOf binds m x = m x
  | [],_,_=>rfl
  | (n,v) :: r,m,h=>by
    unfold bindC
    rw [uR fun w hw=>h w (List.mem_cons_of_mem _ hw)]
    split
    · rfl
    · have : x ≠ n:=by rintro rfl; exact h v List.mem_cons_self
      simp [this]
theorem zAi {kindOf : Str → Option NameKind} {x : Str} {v : Value} : ∀ {P : List Str} {vs : List Value} {i : Nat} {m : Str → Option Value},P.Nodup → P[i]? = some x → vs[i]? = some v → kindOf x = some .local →
    bindL kindOf (P.zip vs) m x = some v
  | [],_,_,_,_,h,_,_=>by simp at h
  | _ :: _,[],_,_,_,_,h,_=>by simp at h
  | p :: P,w :: vs,0,m,nd,h1,h2,hk=>by
    simp at h1 h2; subst h1; subst h2
    show bindL kindOf ((p,w) :: P.zip vs) m p = _
    unfold bindL
    rw [uU fun v hv=>(List.nodup_cons.mp nd).1 (List.of_mem_zip hv).1,if_pos hk]
    simp
  | p :: P,w :: vs,i + 1,m,nd,h1,h2,hk=>by
    show bindL kindOf ((p,w) :: P.zip vs) m x = _
    unfold bindL
    exact zAi (i:=i) (List.nodup_cons.mp nd).2 (by simpa using h1) (by simpa using h2) hk
theorem zAp {kindOf : Str → Option NameKind} {x : Str} {v : Value} : ∀ {P : List Str} {vs : List Value} {i : Nat} {m : Str → Option Value},P.Nodup → P[i]? = some x → vs[i]? = some v → kindOf x ≠ some .local →
    bindC kindOf (P.zip vs) m x = some v
  | [],_,_,_,_,h,_,_=>by simp at h
  | _ :: _,[],_,_,_,_,h,_=>by simp at h
  | p :: P,w :: vs,0,m,nd,h1,h2,hk=>by
    simp at h1 h2; subst h1; subst h2
    show bindC kindOf ((p,w) :: P.zip vs) m p = _
    unfold bindC
    rw [uR fun v hv=>(List.nodup_cons.mp nd).1 (List.of_mem_zip hv).1,if_neg hk]
    simp
  | p :: P,w :: vs,i + 1,m,nd,h1,h2,hk=>by
    show bindC kindOf ((p,w) :: P.zip vs) m x = _
    unfold bindC
    exact zAp (i:=i) (List.nodup_cons.mp nd).2 (by simpa using h1) (by simpa using h2) hk
def start (N : List Str) (vs : List V) : St:=vs.map some ++ List.replicate (N.length - vs.length) none
def cxOf (CX : CXT) (P : Program) (w : World) (K : PySem.W.Frag) (mg : Str → Option Value) (base : Heap) (N : List Str) (qual : Str) (scope : Scope) (f : Addr) (cd : Value) (A : Around) (outer : List Env) (s : Shared) (H : Hp) (E : XK) : Cx where
  prog:=P
  w:=w
  K:=K
  mg:=mg
  base:=base
  A:=A.deeper (envOfC qual scope s.heap.objs.size f cd)
  N:=N
  s₀:=s
  H₀:=H
  env:=envOfC qual scope s.heap.objs.size f cd
  outer:=outer
  stack:=envOfC qual scope s.heap.objs.size f cd :: outer
  ex:=[]
  calm:=true
  fn:=fun _=>true
  pn:=[]
  xe:=fun e s'=>wpAny (model P w) (A.deeper (envOfC qual scope s.heap.objs.size f cd)) (leaving (envOfC qual scope s.heap.objs.size f cd) e) (fun _ s''=>CX outer H s E e s'') (fun e' s''=>CX outer H s E e' s'') s'
theorem zCt {sc : Scope} {n : Nat} {x : Str} (h : sc.names.lookup x = some .cell) : ∃ c,(cellsFrom n sc.names []).lookup x = some c:=by
  have q:=PySem.W.cellsFrom_some sc.names n [] (.inl h)
  exact Option.isSome_iff_exists.mp q
theorem uZ {CX : CXT} {P : Program} {w : World} {K : PySem.W.Frag} {mg : Str → Option Value} {base : Heap} {N ps : List Str} {qual : Str} {scope : Scope} {f : Addr} {cd : Value} {A : Around} {outer : List Env} {s s1 : Shared} {H : Hp} {E : XK} {us : List Value} {vs : List V}
    (S : FnScope N ps scope) (hd : A.handled = none) (e0 : Env0 P w K mg base A outer s H) (hl : vs.length = ps.length) (r : Vals vs us)
    (x : InCallC s s.heap.objs.size (bindL (envOfC qual scope s.heap.objs.size f cd).kindOf (ps.zip us) fun _=>none) (cellsFrom (s.heap.objs.size + 1) scope.names []) (bindC (envOfC qual scope s.heap.objs.size f cd).kindOf (ps.zip us) fun _=>none) s1) :
    Inv (cxOf CX P w K mg base N qual scope f cd A outer s H E) [] (start N vs) H s1:=by
  have hpl : ps.length ≤ N.length:=by have:=congrArg List.length S.pre; rw [List.length_take] at this; omega
  obtain ⟨h1,tk,rfl,hk⟩:=x.done
  have noA : ∀ b : Addr,b ∉ (cxOf CX P w K mg base N qual scope f cd A outer s H E).ex:=fun b z=>absurd (show b ∈ ([] : List Addr) from z) (by simp)
  refine ⟨⟨e0.mod,S.kind,rfl,rfl,Nat.le_refl _,fun y z c h1 h2=>?_,fun y hy=>?_,fun y c _ h=>?_,fun _=>hd,Around.frames_deeper e0.frames, .inr ⟨rfl,rfl⟩,fun b z=>absurd z (noA b),e0.bs,e0.bsz,fun b _ _=>noA b,fun b z=>absurd z (noA b),e0.funs,e0.frf⟩,
    rfl,e0.bare,Un.kept hk,⟨_,x.toInCall.ns,fun i y v h1 h2 h3=>?_⟩,fun y c h=>⟨_,x.cell y c h⟩,e0.hok.fresh (Nat.le_refl _),fun y c h=>?_,fun p hp=>absurd (show p ∈ ([] : List (Addr × Obj)) from hp) (by simp),e0.hok.kept hk, ?_⟩
  · exact name_of_addr x.apart (PySem.mem_of_lookup h1) (PySem.mem_of_lookup h2)
  · have hy : scope.names.lookup y = some .cell ∨ scope.names.lookup y = some .free:=hy
    rcases hy with hy | hy
    · exact zCt hy
    · exact absurd rfl (S.nofree _ (PySem.mem_of_lookup hy))
  · exact Nat.le_of_lt (x.above y c (PySem.mem_of_lookup h))
  · have hi : i < vs.length:=by
      unfold start at h2
      by_cases hi : i < vs.length
      · exact hi
      · rw [List.getElem?_append_right (by simpa using hi)] at h2
        rw [List.getElem?_replicate] at h2
        split at h2 <;> cases h2
    have ha : vs[i]? = some v:=by
      unfold start at h2
      rw [List.getElem?_append_left (by simpa using hi),List.getElem?_map] at h2
      cases e : vs[i]? with
      | none=>rw [e] at h2; cases h2
      | some a=>rw [e] at h2; cases h2; rfl
    obtain ⟨u,hu,rv⟩:=r.get ha
    have hp : ps[i]? = some y:=by
      rw [← S.pre,List.getElem?_take_of_lt (by omega)]; exact h1
    have ndP : ps.Nodup:=by rw [← S.pre]; exact S.nd.sublist (List.take_sublist _ _)
    refine ⟨u,rv, ?_⟩
    rcases S.par y (List.mem_of_getElem? hp) with k | k
    · exact .inl ⟨k,zAi ndP hp hu k⟩
    · obtain ⟨c,e⟩:=zCt (n:=s.heap.objs.size + 1) k
      refine .inr ⟨.inl k,c,e, ?_⟩
      have q:=x.cell y c e
      rw [zAp ndP hp hu (by show scope.names.lookup y ≠ _; rw [k]; decide)] at q
      exact q
  · exact e0.hok.fresh (Nat.le_of_lt (x.above y c (PySem.mem_of_lookup h)))
  · unfold start
    show _ = N.length
    rw [List.length_append,List.length_map,List.length_replicate]
    omega
theorem zEy {CX : CXT} {P : Program} {w : World} {K : PySem.W.Frag} {mg : Str → Option Value} {base : Heap} {k : Nat} {f : Addr} {name qual : Str} {params : Arguments} {body : List Stmt} {scope : Scope} {dV kV doc pm cdv ct oc : Value} {an od : Option Addr}
    {osl : Array (Option Value)} {N ps : List Str} {sp : Sp} (lk : K.lookup f = some ⟨oc,od, .func (PySem.W.fnOf name qual params body scope dV kV doc pm an cdv ct),osl⟩) (hcd : PySem.W.codeIn K cdv qual = true) (S : FnScope N ps scope)
    (len : ∀ vs H Q E,sp vs H Q E → vs.length = ps.length)
    (hbody : ∀ (A : Around) (outer : List Env) (s : Shared) (H : Hp) (vs : List V) (Q : VK) (E : XK),Room k (A.deeper (envOfC qual scope s.heap.objs.size f cdv)) → sp vs H Q E →
      ∃ t,PSs (cxOf CX P w K mg base N qual scope f cdv A outer s H E) body t ∧ t { nx:=fun _ H'=>Q .non H',rt:=Q } (start N vs) H) :
    FnOk P w K mg base CX (k + 1) f (PySem.W.fnOf name qual params body scope dV kV doc pm an cdv ct) ps sp:=by
  refine ⟨len,fun A outer s H args us vs Q E hr e0 hb r hsp=>?_⟩
  have hl:=len _ _ _ _ hsp
  have KX : K.In s.heap:=e0.mod.kin.keeps fun b o e=>(e0.bs b o e).1
  have lim : s.heap.NoLimit:=e0.mod.nolimit.keeps fun b o e=>(e0.bs b o e).1
  have hkind : ∀ y ∈ ps.zip us,scope.names.lookup y.1 = some .local ∨ (scope.names.lookup y.1 = some .cell ∧ ((cellsFrom (s.heap.objs.size + 1) scope.names []).lookup y.1).isSome = true):=fun ⟨n,v⟩ hy=>by
    rcases S.par n (List.of_mem_zip hy).1 with q | q
    · exact .inl q
    · exact .inr ⟨q,PySem.W.cellsFrom_some _ _ _ (.inl q)⟩
  refine codeAny_call_function hr.depth (KX _ _ lk) rfl S.co S.gen rfl (PySem.W.codeRec_of KX hcd) (hb _ _ _ _ ?_)
  refine wpAny_newFunctionEnv_cells S.kind hkind fun env he s1 x=>?_
  subst he
  refine ⟨lim.keeps x.toInCall.keep,codeAny_func ?_⟩
  obtain ⟨t,ht,hq⟩:=hbody A outer s H vs Q E (hr.deeper _) hsp
  have I : Inv (cxOf CX P w K mg base N qual scope f cdv A outer s H E) [] (start N vs) H s1:=uZ S hr.hd e0 hl r x
  refine wpAny_mono (ht [] s1 (start N vs) H _ I hq) (fun fl s' hs=>?_) fun e s' hs=>hs
  have fin : ∀ {σ' : St} {H' : Hp} {v : V} {u : Value},Inv (cxOf CX P w K mg base N qual scope f cdv A outer s H E) [] σ' H' s' → RelV v u → Q v H' → CE outer P w H s Q u s' :=
    fun {σ' H' v u} J rv q=>⟨v,H',J.os,J.bare,J.base,J.hok,rv,q⟩
  cases fl with
  | ret u =>
    obtain ⟨v,σ',H',J,rv,q⟩:=hs
    exact fin J rv q
  | next =>
    obtain ⟨σ',H',J,q⟩:=hs
    exact fin (v:=V.non) (u:=Value.none) J rfl q
  | brk =>
    obtain ⟨_,_,_,q⟩:=hs
    exact False.elim q
  | cont =>
    obtain ⟨_,_,_,q⟩:=hs
    exact False.elim q
section
variable {X : Cx} {x : Str} {p pos : Pos} {e : Expr} {es : List Expr} {t : TA} {id T : String} {r : List V → Hp → VK → Prop}
def tCB (r : List V → Hp → VK → Prop) (t : TA) : TE:=fun σ H Q=>t σ H fun vs H1=>r vs H1 Q
theorem zJ (hc : CallR X (.builtin id) r) (hg : Gl X x) (hm : X.mg x = none) (hv : bootBuiltins x = some (.builtin id)) (ha : PA X (e :: es) t) (hn : x ≠ "__name__":=by decide) (hdb : (x == ("__debug__" : Str)) = false:=by decide)
    (he : starEach (e :: es) X.env = (false,eval e X.env) :: starEach es X.env:=by rfl) (hpl : (backTo pos (starEach es X.env)).any (·.1) = false:=by rfl) : PE X (.Call (.Name x p) (e :: es) [] pos) (tCB r t):=by
  intro pins s σ H Q I h
  refine wpAny_Call_Name_kw (kS I hg hm hv ?_ hn hdb)
  exact PyProof.Rows.callWith_builtin1 (thn (ha pos pins s σ H _ I h) fun us s1 ⟨vs,H1,I1,r1,q1⟩=>hc pins s1 σ H1 vs us Q I1 r1 q1) he hpl
theorem yE (hc : CallR X (.type T) r) (hg : Gl X x) (hm : X.mg x = none) (hv : bootBuiltins x = some (.type T)) (ha : PA X (e :: es) t) (hn : x ≠ "__name__":=by decide) (hdb : (x == ("__debug__" : Str)) = false:=by decide)
    (he : starEach (e :: es) X.env = (false,eval e X.env) :: starEach es X.env:=by rfl) (hpl : (backTo pos (starEach es X.env)).any (·.1) = false:=by rfl) : PE X (.Call (.Name x p) (e :: es) [] pos) (tCB r t):=by
  intro pins s σ H Q I h
  refine wpAny_Call_Name_kw (kS I hg hm hv ?_ hn hdb)
  exact PyProof.Rows.callWith_type1 (thn (ha pos pins s σ H _ I h) fun us s1 ⟨vs,H1,I1,r1,q1⟩=>hc pins s1 σ H1 vs us Q I1 r1 q1) he hpl
end
end L2
namespace HT
open PySem PyProof.Rows
section
open PySem.SeqAt
open PySem.AutoSeq1 (wpAny_loadPart')
open PySem.MeetsSeq PySem.MeetsSeq2 PySem.MeetsSeq3
end
section
variable {prog : Program} {w : World} {A : Around} {E : Value → Shared → Prop} {s : Shared}
def sIx (n d : Nat) : Option Int → Nat
  | none=>d
  | some v=>if v < 0 then (v + (n : Int)).toNat else min v.toNat n
theorem sIx_none (n d : Nat) : sIx n d none = d:=rfl
theorem sIx_nat (n d k : Nat) : sIx n d (some (k : Int)) = min k n:=by
  show (if (k : Int) < 0 then ((k : Int) + (n : Int)).toNat else min (k : Int).toNat n) = min k n
  rw [if_neg (by omega),Int.toNat_natCast]
end
end HT
namespace L2
open PySem PySem.Spec PyProof.Rows
abbrev TO:=St → Hp → (Option Int → Hp → Prop) → Prop
def PO (X : Cx) (e : Option Expr) (t : TO) : Prop :=
  ∀ (pins : List (Addr × Obj)) (s : Shared) (σ : St) (H : Hp) (Q : Option Int → Hp → Prop),Inv X pins σ H s → t σ H Q →
    wpAny (model X.prog X.w) X.A (evalPart e X.env) (fun u s'=>∃ o H',Inv X pins σ H' s' ∧ IsPart u o ∧ Q o H') X.xe s
def tNoPart : TO:=fun _ H Q=>Q none H
def tPart (t : TE) : TO:=fun σ H Q=>t σ H fun x H1=>∃ i,x = .int i ∧ Q (some i) H1
section
variable {X : Cx} {e : Expr} {te : TE} {lo hi : Option Expr} {tl th : TO} {pos p2 : Pos}
theorem xL : PO X none tNoPart:=by
  intro pins s σ H Q I h
  rw [evalPart_none]
  exact wpAny_pure ⟨none,H,I, .none,h⟩
theorem xJ (h : PE X e te) : PO X (some e) (tPart te):=by
  intro pins s σ H Q I hw
  rw [evalPart_some]
  refine thn (h pins s σ H _ I hw) fun u s1 ⟨x,H1,I1,r1,q1⟩=>?_
  obtain ⟨i,rfl,q⟩:=q1
  obtain ⟨t,rfl⟩:=r1
  exact ⟨some i,H1,I1, .int i t,q⟩
def SlR (X : Cx) (r : V → Option Int → Option Int → Hp → VK → Prop) : Prop :=
  ∀ (pins : List (Addr × Obj)) (s : Shared) (σ : St) (H : Hp) (x : V) (v vl vu : Value) (lo hi : Option Int) (sl : Addr) (Q : VK),Inv X pins σ H s → RelV x v → s.heap.IsSliceOf sl vl vu .none → IsPart vl lo → IsPart vu hi → r x lo hi H Q →
    ∃ T id,typeLookup (.type T) "__getitem__" = pure (some (.builtin id)) ∧ s.TypeIs v T ∧ wpAny (model X.prog X.w) X.A (getItem v (.ref sl)) (EP X pins σ Q) X.xe s
def tSl (r : V → Option Int → Option Int → Hp → VK → Prop) (te : TE) (tl th : TO) : TE:=fun σ H Q=>te σ H fun x H1=>tl σ H1 fun l H2=>th σ H2 fun u H3=>r x l u H3 Q
theorem yZ {r : V → Option Int → Option Int → Hp → VK → Prop} (hr : SlR X r) (he : PE X e te) (hl : PO X lo tl) (hu : PO X hi th) : PE X (.Subscript e (.Slice lo hi none p2) pos) (tSl r te tl th):=by
  intro pins s σ H Q I h
  refine Subscript_ (thn (he pins s σ H _ I h) fun v s1 ⟨x,H1,I1,r1,q1⟩=>?_)
  refine wpAny_Slice (thn (hl pins s1 σ H1 _ I1 q1) fun vl s2 ⟨l,H2,I2,pl,q2⟩=>thn (hu pins s2 σ H2 _ I2 q2) fun vu s3 ⟨u,H3,I3,pu,q3⟩=>?_)
  rw [evalPart_none]
  refine wpAny_pure ?_
  have I4 : Inv X pins σ H3 { s3 with heap:=s3.heap.push { cls:=.type "slice",data:=.fields #[vl,vu, .none] } }:=I3.kept (t':=s3.toks) fun b ob q=>Heap.get?_push_of_some _ q
  obtain ⟨T,id,hT,ht,hg⟩:=hr pins { s3 with heap:=s3.heap.push { cls:=.type "slice",data:=.fields #[vl,vu, .none] } } σ H3 x v vl vu l u s3.heap.objs.size Q I4 r1 (Heap.IsSliceOf.new ..) pl pu q3
  show wpAny (model X.prog X.w) X.A (subscriptTail e (.Slice lo hi none p2) v (.ref s3.heap.objs.size)) (EP X pins σ Q) X.xe { s3 with heap:=s3.heap.push { cls:=.type "slice",data:=.fields #[vl,vu, .none] } }
  exact tail_any (ops:=[.ref s3.heap.objs.size,v]) ht hT hg (by with_unfolding_all rfl)
def cutV (xs : List V) (lo hi : Option Int) : List V:=(xs.drop (HT.sIx xs.length 0 lo)).take (HT.sIx xs.length xs.length hi - HT.sIx xs.length 0 lo)
theorem zCi (xs : List V) (lo hi : Option Int) : (cutV xs lo hi).length ≤ xs.length:=by
  unfold cutV
  rw [List.length_take,List.length_drop]
  omega
end
def ixN (n : Nat) (i : Int) : Option Nat:=if 0 ≤ i then (if i < n then some i.toNat else none) else if -(n : Int) ≤ i then some (i + n).toNat else none
def atI {α : Type} (xs : List α) (i : Int) : Option α:=(ixN xs.length i).bind fun j=>xs[j]?
theorem zFh {n : Nat} {i : Int} {j : Nat} (h : ixN n i = some j) : seqIndex? i n = some j ∧ j < n ∧ -(n : Int) ≤ i ∧ i < n:=by
  unfold ixN at h
  by_cases h0 : 0 ≤ i
  · rw [if_pos h0] at h
    by_cases h1 : i < n
    · rw [if_pos h1] at h
      have e : i.toNat = j:=Option.some.inj h
      exact ⟨by rw [seqIndex_of h0 h1,e],by omega,by omega,h1⟩
    · rw [if_neg h1] at h; cases h
  · rw [if_neg h0] at h
    by_cases h1 : -(n : Int) ≤ i
    · rw [if_pos h1] at h
      have e : (i + n).toNat = j:=Option.some.inj h
      exact ⟨by rw [seqIndex_neg (by omega) h1,e],by omega,h1,by omega⟩
    · rw [if_neg h1] at h; cases h
theorem zBi {α : Type} {xs : List α} {i : Int} {v : α} (h : atI xs i = some v) : ∃ j,seqIndex? i xs.length = some j ∧ xs[j]? = some v ∧ j < xs.length ∧ -(xs.length : Int) ≤ i ∧ i < xs.length:=by
  unfold atI at h
  cases e : ixN xs.length i with
  | none=>rw [e] at h; cases h
  | some j =>
    rw [e] at h
    obtain ⟨h1,h2,h3,h4⟩:=zFh e
    exact ⟨j,h1,h,h2,h3,h4⟩
theorem yU {α : Type} {xs : List α} {j : Nat} {v : α} (h : xs[j]? = some v) : atI xs (j : Int) = some v:=by
  have hj : j < xs.length:=(List.getElem?_eq_some_iff.mp h).1
  have e : ixN xs.length (j : Int) = some j:=by
    unfold ixN
    rw [if_pos (by omega),if_pos (by omega)]; simp
  unfold atI; rw [e]; exact h
theorem jH {α : Type} (xs : List α) (v : α) : atI (xs ++ [v]) (-1) = some v:=by
  have hl : (xs ++ [v]).length = xs.length + 1:=by simp
  have e : ixN (xs ++ [v]).length (-1) = some xs.length:=by
    unfold ixN
    rw [hl,if_neg (by decide),if_pos (by omega)]
    congr 1
    omega
  unfold atI
  rw [e]
  show (xs ++ [v])[xs.length]? = some v
  simp
def PlainIx (b : Expr) : Prop:=∀ o i,subscripted b false o i = operate [o,i] (getItem o i)
def IxR (X : Cx) (r : R2) : Prop :=
  ∀ (value slice : Expr) (pins : List (Addr × Obj)) (s : Shared) (σ : St) (H : Hp) (x y : V) (v u : Value) (Q : VK),Inv X pins σ H s → RelV x v → RelV y u → r x y H Q →
    subscripted slice false v u = operate [v,u] (getItem v u) → wpAny (model X.prog X.w) X.A (subscriptTail value slice v u) (EP X pins σ Q) X.xe s
def MtR (X : Cx) (id : String) (r : V → List V → Hp → VK → Prop) : Prop :=
  ∀ (pins : List (Addr × Obj)) (s : Shared) (σ : St) (H : Hp) (x : V) (xs : List V) (v : Value) (us : List Value) (Q : VK),Inv X pins σ H s → RelV x v → Vals xs us → r x xs H Q →
    wpAny (model X.prog X.w) X.A (call (.builtin id) (v :: us)) (EP X pins σ Q) X.xe s
section
variable {X : Cx} {a b : Expr} {ta tb : TE} {pos : Pos}
theorem IxR.or {r r' : R2} (h : IxR X r) (h' : IxR X r') : IxR X (fun x y H Q=>r x y H Q ∨ r' x y H Q):=by
  intro value slice pins s σ H x y v u Q I rx ry q hs
  rcases q with q | q
  · exact h value slice pins s σ H x y v u Q I rx ry q hs
  · exact h' value slice pins s σ H x y v u Q I rx ry q hs
theorem yH {r : R2} (hr : IxR X r) (ha : PE X a ta) (hb : PE X b tb) (hs : PlainIx b) : PE X (.Subscript a b pos) (tOp r ta tb):=by
  intro pins s σ H Q I h
  exact Subscript_ (zOh ha hb I h fun v u s2 x y H2 I2 rx ry q=>hr a b pins s2 σ H2 x y v u Q I2 rx ry q (hs _ _))
def rIxL (K : PySem.W.Frag) : R2:=fun x y H Q=>∃ p xs i v,x = .ref p ∧ y = .int i ∧ SqL K H p xs ∧ atI xs i = some v ∧ Q v H
def rIxT (K : PySem.W.Frag) : R2:=fun x y H Q=>∃ p xs i v,x = .ref p ∧ y = .int i ∧ SqT K H p xs ∧ atI xs i = some v ∧ Q v H
def rIxS : R2:=fun x y H Q=>∃ z i c,x = .str z ∧ y = .int i ∧ z.length ≤ sizeLine ∧ atI z.cps.toList i = some c ∧ Q (.str ⟨#[c]⟩) H
theorem ix_list : IxR X (rIxL X.K):=by
  intro value slice pins s σ H x y v u Q I rx ry h hs
  obtain ⟨p,xs,i,z,rfl,rfl,hq,he,q⟩:=h
  cases rx
  obtain ⟨t,rfl⟩:=ry
  obtain ⟨its,r,pl,hz⟩:=I.list hq
  obtain ⟨j,h1,h2,h3,h4,h5⟩:=zBi he
  obtain ⟨w,ew,rw'⟩:=r.get h2
  have hl:=r.length
  have hn:=jS
  have fin : EP X pins σ Q w s:=⟨z,H,I,rw',q⟩
  by_cases h0 : 0 ≤ i
  · have hj : i.toNat = j:=by
      rw [seqIndex_of h0 h5] at h1
      exact Option.some.inj h1
    exact item_listR pl.isList h0 (by omega) (by rw [hj]; simpa using ew) fin hs
  · have hj : (i + (its.toArray.size : Int)).toNat = j:=by
      rw [seqIndex_neg (by omega) h4] at h1
      rw [List.size_toArray,← hl]
      exact Option.some.inj h1
    exact subscriptTail_builtinR (x:=w) pl.isList.typeIs slot_list_getitem.lookup
      (wpAny_getItem_list_neg (Q:=fun r s'=>r = w ∧ EP X pins σ Q r s') pl.isList (by omega) (by rw [List.size_toArray] <;> omega) (by omega) (by rw [hj]; simpa using ew) ⟨rfl,fin⟩) hs
theorem ix_tup : IxR X (rIxT X.K):=by
  intro value slice pins s σ H x y v u Q I rx ry h hs
  obtain ⟨p,xs,i,z,rfl,rfl,hq,he,q⟩:=h
  cases rx
  obtain ⟨t,rfl⟩:=ry
  obtain ⟨its,r,pl,hz⟩:=I.tuple hq
  obtain ⟨j,h1,h2,h3,h4,h5⟩:=zBi he
  obtain ⟨w,ew,rw'⟩:=r.get h2
  have hl:=r.length
  have hn:=jS
  have fin : EP X pins σ Q w s:=⟨z,H,I,rw',q⟩
  exact subscriptTail_builtinR (x:=w) pl.typeIs slot_tuple_getitem.lookup
    (getItem_tuple (j:=j) (Q:=fun r s'=>r = w ∧ EP X pins σ Q r s') pl (by omega) (by omega) (by rw [List.size_toArray,← hl]; exact h1) (by simpa using ew) ⟨rfl,fin⟩) hs
theorem qX : IxR X rIxS:=by
  intro value slice pins s σ H x y v u Q I rx ry h hs
  obtain ⟨z,i,c,rfl,rfl,hz,he,q⟩:=h
  obtain ⟨t,rfl⟩:=rx
  obtain ⟨t',rfl⟩:=ry
  obtain ⟨j,h1,h2,h3,h4,h5⟩:=zBi he
  have hl : z.cps.toList.length = z.length:=by simp [Str.length]
  rw [hl] at h1 h4 h5
  have hn:=jS
  exact tail_any (typeIs_str s z t) slot_str_getitem.lookup (getItem_str (c:=c) (by
    have e1 : decide (i < -(2 ^ 63 : Int)) = false:=decide_eq_false (by omega)
    have e2 : decide (i ≥ 2 ^ 63) = false:=decide_eq_false (by omega)
    rw [e1,e2,Bool.or_false]) (by rw [h1]; simpa using h2) ⟨.str ⟨#[c]⟩,H,I.tok _,⟨_,rfl⟩,q⟩) hs
def rIx (K : PySem.W.Frag) : R2:=fun x y H Q=>rIxL K x y H Q ∨ rIxT K x y H Q ∨ rIxS x y H Q
theorem zMk : IxR X (rIx X.K):=ix_list.or (ix_tup.or qX)
theorem zEd (its : List Value) (n j : Nat) (u : Value) : Obj.mapSeq (·.setIfInBounds j u) { cls:=.type "list",data:=.seq its.toArray n } = { cls:=.type "list",data:=.seq (its.set j u).toArray n }:=by
  simp [Obj.mapSeq]
theorem Inv.lst {pins : List (Addr × Obj)} {σ : St} {H : Hp} {s : Shared} {p : Addr} {xs : List V} (I : Inv X pins σ H s) (h : H p = some (.lst xs)) :
    ∃ (its : List Value) (n : Nat),Vals xs its ∧ s.heap.get? p = some { cls:=.type "list",data:=.seq its.toArray n } ∧ xs.length ≤ sizeLine:=by
  obtain ⟨z,its,n,r,e⟩:=I.hok p _ h
  exact ⟨its,n,r,e,z⟩
theorem Inv.lstUpd {pins : List (Addr × Obj)} {σ : St} {H : Hp} {s : Shared} {p : Addr} {xs ys : List V} {its its' : List Value} {n n' : Nat} {f : Obj → Obj} (I : Inv X pins σ H s) (h : H p = some (.lst xs))
    (ho : s.heap.get? p = some { cls:=.type "list",data:=.seq its.toArray n }) (hf : f { cls:=.type "list",data:=.seq its.toArray n } = { cls:=.type "list",data:=.seq its'.toArray n' }) (r : Vals ys its') (hz : ys.length ≤ sizeLine) (t : Nat) :
    Inv X pins σ (upd H p (.lst ys)) { s with heap:=s.heap.update p f,toks:=t }:=by
  have e : (s.heap.update p f).get? p = some { cls:=.type "list",data:=.seq its'.toArray n' }:=by
    rw [Heap.get?_update_self f ho (by rw [hf] <;> rfl),hf]
  refine I.write (x:=p) (e:=p) (by rw [h]; trivial) (.inl rfl) (fun b u hb q=>(Heap.get?_update_other _ _ (Ne.symm hb)).trans q) ⟨_,e⟩ ?_
  exact ⟨hz,its',n',r,e⟩
def rSetL : V → V → V → Hp → (Hp → Prop) → Prop:=fun o i v H Q=>∃ p xs k j,o = .ref p ∧ i = .int k ∧ H p = some (.lst xs) ∧ ixN xs.length k = some j ∧ Q (upd H p (.lst (xs.set j v)))
theorem zIh : PSet X rSetL:=by
  intro pins s σ H o i v ov iv u Q I ro ri rv h
  obtain ⟨p,xs,k,j,rfl,rfl,hp,hj,q⟩:=h
  cases ro
  obtain ⟨t,rfl⟩:=ri
  obtain ⟨its,n,r,ho,hz⟩:=I.lst hp
  obtain ⟨h1,h2,h3,h4⟩:=zFh hj
  have hl:=r.length
  have hn:=jS
  have I' : Inv X pins σ (upd H p (.lst (xs.set j v))) { s with heap:=s.heap.update p (Obj.mapSeq (·.setIfInBounds j u)) } :=
    I.lstUpd hp ho (zEd its n j u) (r.set rv j) (by rw [List.length_set]; exact hz) s.toks
  by_cases h0 : 0 ≤ k
  · have hk : k.toNat = j:=by
      rw [seqIndex_of h0 h4] at h1
      exact Option.some.inj h1
    exact PySem.W.ki_setAt ho h0 (by omega) (by rw [List.size_toArray,← hl]; exact h4) (by rw [hk]; exact ⟨_,I',q⟩)
  · have hk : (k + (its.toArray.size : Int)).toNat = j:=by
      rw [seqIndex_neg (by omega) h3] at h1
      rw [List.size_toArray,← hl]
      exact Option.some.inj h1
    exact PySem.W.ki_setBack ho (by omega) (by rw [List.size_toArray,← hl]; exact h3) (by omega) (by rw [hk]; exact ⟨_,I',q⟩)
theorem zBl (lo hi : Option Int) (n : Nat) : (sliceBounds lo hi none n).1 = ((HT.sIx n 0 lo : Nat) : Int) ∧ (sliceBounds lo hi none n).2.1 = ((HT.sIx n n hi : Nat) : Int) ∧ (sliceBounds lo hi none n).2.2 = 1:=by
  refine ⟨?_, ?_,rfl⟩
  · cases lo with
    | none=>simp [sliceBounds,HT.sIx]
    | some i =>
      simp only [sliceBounds,HT.sIx,Option.getD_none,show (1 : Int) > 0 by decide,if_true]
      by_cases h : i < 0
      · simp only [h,if_true] <;> omega
      · simp only [h,if_false] <;> omega
  · cases hi with
    | none=>simp [sliceBounds,HT.sIx]
    | some i =>
      simp only [sliceBounds,HT.sIx,Option.getD_none,show (1 : Int) > 0 by decide,if_true]
      by_cases h : i < 0
      · simp only [h,if_true] <;> omega
      · simp only [h,if_false] <;> omega
theorem uI (its : List Value) (lo hi : Option Int) : slicePick its.toArray lo hi none = ((its.drop (HT.sIx its.length 0 lo)).take (HT.sIx its.length its.length hi - HT.sIx its.length 0 lo)).toArray:=by
  obtain ⟨h1,h2,h3⟩:=zBl lo hi its.toArray.size
  unfold slicePick
  rw [h1,h2,h3]
  simp only [sliceRange_one,pick_run,List.size_toArray] <;> rfl
def rSlL (K : PySem.W.Frag) : V → Option Int → Option Int → Hp → VK → Prop:=fun x lo hi H Q=>∃ a xs,x = .ref a ∧ SqL K H a xs ∧ ∀ p,H p = none → Q (.ref p) (upd H p (.lst (cutV xs lo hi)))
theorem xV : SlR X (rSlL X.K):=by
  intro pins s σ H x v vl vu lo hi sl Q I rx hs pl pu h
  obtain ⟨a,xs,rfl,hx,q⟩:=h
  cases rx
  obtain ⟨its,r,ht,hz⟩:=I.list hx
  have hlen:=r.length
  refine ⟨"list",_,slot_list_getitem.lookup,ht.isList.typeIs, ?_⟩
  refine wpAny_getItem_list_slice ht.isList hs pl pu .none (by simp) ?_ (by rw [List.size_toArray] <;> omega)
  rw [uI,← hlen]
  refine ⟨.ref s.heap.objs.size,_,I.laid (t':=s.toks) (o:=.lst (cutV xs lo hi)) (fun b ob q=>Heap.get?_push_of_some _ q) (Nat.le_refl _) ?_,rfl,q _ (I.hok.fresh (Nat.le_refl _))⟩
  exact ⟨Nat.le_trans (zCi xs lo hi) hz,_,0,(r.drop (HT.sIx xs.length 0 lo)).take (HT.sIx xs.length xs.length hi - HT.sIx xs.length 0 lo),Heap.get?_push_size _ rfl⟩
def flatV : V → Bool
  | .non=>true
  | .bl _=>true
  | .int _=>true
  | .str _=>true
  | _=>false
def eqV : V → V → Bool
  | .non, .non=>true
  | .bl a, .bl b=>a == b
  | .bl a, .int b=>(if a then 1 else 0) == b
  | .int a, .bl b=>a == (if b then 1 else 0)
  | .int a, .int b=>a == b
  | .str a, .str b=>a == b
  | _,_=>false
theorem zKa {A : Around} {s : Shared} {y x : V} {u v : Value} (ry : RelV y u) (rx : RelV x v) (fy : flatV y = true) (fx : flatV x = true) : SeqAt.EqAt A s u v (eqV y x):=by
  cases y with
  | non =>
    cases ry
    cases x with
    | non=>cases rx; exact SeqAt.EqAt.same _
    | bl b=>cases rx; exact SeqAt.EqAt.none_bool b
    | int b=>obtain ⟨t,rfl⟩:=rx; exact SeqAt.EqAt.none_int b t
    | str b=>obtain ⟨t,rfl⟩:=rx; exact SeqAt.EqAt.none_str b t
    | _=>exact absurd (show false = true from fx) Bool.false_ne_true
  | bl a =>
    cases ry
    cases x with
    | non=>cases rx; exact SeqAt.EqAt.bool_none a
    | bl b=>cases rx; exact SeqAt.EqAt.bool_bool a b
    | int b=>obtain ⟨t,rfl⟩:=rx; exact SeqAt.EqAt.bool_int a b t
    | str b=>obtain ⟨t,rfl⟩:=rx; exact SeqAt.EqAt.bool_str a b t
    | _=>exact absurd (show false = true from fx) Bool.false_ne_true
  | int a =>
    obtain ⟨t',rfl⟩:=ry
    cases x with
    | non=>cases rx; exact SeqAt.EqAt.int_none a t'
    | bl b=>cases rx; exact SeqAt.EqAt.int_bool a t' b
    | int b=>obtain ⟨t,rfl⟩:=rx; exact SeqAt.EqAt.int_int a t' b t
    | str b=>obtain ⟨t,rfl⟩:=rx; exact SeqAt.EqAt.int_str a t' b t
    | _=>exact absurd (show false = true from fx) Bool.false_ne_true
  | str a =>
    obtain ⟨t',rfl⟩:=ry
    cases x with
    | non=>cases rx; exact SeqAt.EqAt.str_none a t'
    | bl b=>cases rx; exact SeqAt.EqAt.str_bool a t' b
    | int b=>obtain ⟨t,rfl⟩:=rx; exact SeqAt.EqAt.str_int a t' b t
    | str b=>obtain ⟨t,rfl⟩:=rx; exact SeqAt.EqAt.str_str a t' b t
    | _=>exact absurd (show false = true from fx) Bool.false_ne_true
  | _=>exact absurd (show false = true from fy) Bool.false_ne_true
def eqU (x : V) (u : Value) : Bool:=match u with
  | .none=>eqV .non x
  | .bool b=>eqV (.bl b) x
  | .int i _=>eqV (.int i) x
  | .str z _=>eqV (.str z) x
  | _=>false
theorem zHz {x y : V} {u : Value} (r : RelV y u) (f : flatV y = true) : eqU x u = eqV y x:=by
  cases y with
  | non=>cases r; rfl
  | bl b=>cases r; rfl
  | int i=>obtain ⟨t,rfl⟩:=r; rfl
  | str z=>obtain ⟨t,rfl⟩:=r; rfl
  | _=>exact absurd (show false = true from f) Bool.false_ne_true
theorem zBq {x : V} : ∀ {xs : List V} {us : List Value},Vals xs us → xs.all flatV = true → us.any (eqU x) = xs.any fun y=>eqV y x
  | _,_, .nil,_=>rfl
  | y :: xs,u :: us, .cons r t,f=>by
    rw [List.all_cons,Bool.and_eq_true] at f
    rw [List.any_cons,List.any_cons,zHz r f.1,zBq t f.2]
theorem uA {A : Around} {s : Shared} {x : V} {v : Value} (rx : RelV x v) (fx : flatV x = true) : ∀ {xs : List V} {us : List Value},Vals xs us → xs.all flatV = true → ∀ u ∈ us,SeqAt.EqAt A s u v (eqU x u)
  | _,_, .nil,_=>fun u hu=>by cases hu
  | y :: xs,u :: us, .cons r t,f=>fun u' hu=>by
    rw [List.all_cons,Bool.and_eq_true] at f
    rcases List.mem_cons.mp hu with rfl | hu
    · rw [zHz r f.1]; exact zKa r rx f.1 fx
    · exact uA rx fx t f.2 u' hu
def inV (x : V) (xs : List V) : Bool:=xs.any fun y=>eqV y x
def rIn (K : PySem.W.Frag) (neg : Bool) : R2:=fun x y H Q=>∃ p xs,y = .ref p ∧ (SqL K H p xs ∨ SqT K H p xs) ∧ flatV x = true ∧ xs.all flatV = true ∧ Q (.bl (if neg then !inV x xs else inV x xs)) H
theorem zGy : OpR X (compareOp .In) (rIn X.K false):=by
  intro pins s σ H x y v u Q I rx ry h
  obtain ⟨p,xs,rfl,hq,fx,fs,q⟩:=h
  cases ry
  rcases hq with hq | hq
  · obtain ⟨its,r,pl,hz⟩:=I.list hq
    refine SeqAt.in_listAt (eqU x) pl.isList (fun w hw=>uA rx fx r fs w (by simpa using hw)) ⟨.bl _,H,I,rfl, ?_⟩
    rw [show its.toArray.any (eqU x) = its.any (eqU x) by simp,zBq r fs]
    exact q
  · obtain ⟨its,r,pl,hz⟩:=I.tuple hq
    refine SeqAt.in_tupleAt (eqU x) pl (fun w hw=>uA rx fx r fs w (by simpa using hw)) ⟨.bl _,H,I,rfl, ?_⟩
    rw [show its.toArray.any (eqU x) = its.any (eqU x) by simp,zBq r fs]
    exact q
theorem wL : CallR X (.builtin "len") (fun xs H Q=>∃ p ys,xs = [.ref p] ∧ (SqL X.K H p ys ∨ SqT X.K H p ys) ∧ Q (.int ys.length) H):=by
  intro pins s σ H xs us Q I r h
  obtain ⟨p,ys,rfl,hq,q⟩:=h
  obtain ⟨u,rfl,rx⟩:=wZ r
  cases rx
  have hn:=jS
  rcases hq with hq | hq
  · obtain ⟨its,r',pl,hz⟩:=I.list hq
    have hlen:=r'.length
    exact Calls.call_len_list pl.isList (by simp only [List.size_toArray] <;> omega) ⟨.int ys.length,H,I.tok _,⟨s.toks + 1,by rw [List.size_toArray,hlen]⟩,q⟩
  · obtain ⟨its,r',pl,hz⟩:=I.tuple hq
    have hlen:=r'.length
    exact len_tuple pl (by simp only [List.size_toArray] <;> omega) ⟨.int ys.length,H,I.tok _,⟨s.toks + 1,by rw [List.size_toArray,hlen]⟩,q⟩
theorem vR : CallR X (.type "list") (fun xs H Q=>∃ p ys,xs = [.ref p] ∧ (SqL X.K H p ys ∨ SqT X.K H p ys) ∧ ∀ l,H l = none → Q (.ref l) (upd H l (.lst ys))):=by
  intro pins s σ H xs us Q I r h
  obtain ⟨p,ys,rfl,hq,q⟩:=h
  obtain ⟨u,rfl,rx⟩:=wZ r
  cases rx
  have fin : ∀ (its : List Value),Vals ys its → ys.length ≤ sizeLine → ∀ (h' : Heap) (c' : Nat),(∀ b o',s.heap.get? b = some o' → h'.get? b = some o') →
      h'.get? s.heap.objs.size = some { cls:=.type "list",dict:=none,data:=.seq its.toArray c',slots:=#[] } → EP X pins σ Q (.ref s.heap.objs.size) { s with heap:=h' }:=fun its r' hz h' c' kp e =>
    ⟨.ref s.heap.objs.size,_,I.laid (t':=s.toks) kp (Nat.le_refl _) (show ObjOk X.prog X.w _ h' _ (.lst ys) from ⟨hz,its,c',r',e⟩),rfl,q _ (I.hok.fresh (Nat.le_refl _))⟩
  rcases hq with hq | hq
  · obtain ⟨its,r',pl,hz⟩:=I.list hq
    have hlen:=r'.length
    obtain ⟨o,ho,hc,n,hd⟩:=pl.isList
    exact call_list_seq p (.inl rfl) ho hc hd (fun h' c' kp e=>fin its r' hz h' c' kp e) (by simp only [List.size_toArray] <;> omega)
  · obtain ⟨its,r',pl,hz⟩:=I.tuple hq
    have hlen:=r'.length
    obtain ⟨o,ho,hc,n,hd⟩:=pl
    exact call_list_seq p (.inr rfl) ho hc hd (fun h' c' kp e=>fin its r' hz h' c' kp e) (by simp only [List.size_toArray] <;> omega)
theorem qR : CallR X (.type "tuple") (fun xs H Q=>∃ p ys,xs = [.ref p] ∧ ((SqL X.K H p ys ∧ ∀ l,H l = none → Q (.ref l) (upd H l (.tup ys))) ∨ (SqT X.K H p ys ∧ Q (.ref p) H))):=by
  intro pins s σ H xs us Q I r h
  obtain ⟨p,ys,rfl,h⟩:=h
  obtain ⟨u,rfl,rx⟩:=wZ r
  cases rx
  rcases h with ⟨hq,q⟩ | ⟨hq,q⟩
  · obtain ⟨its,r',pl,hz⟩:=I.list hq
    have hlen:=r'.length
    refine call_tuple_list pl.isList (fun h' kp=>?_) (by simp only [List.size_toArray] <;> omega)
    have I1 : Inv X pins σ H { s with heap:=h' }:=I.kept (t':=s.toks) kp
    have I2 : Inv X pins σ (upd H h'.objs.size (.tup ys)) { s with heap:=h'.push { cls:=.type "tuple",data:=.seq its.toArray } } :=
      I1.laid (t':=s.toks) (fun b o e=>Heap.get?_push_of_some _ e) (Nat.le_refl _) (show ObjOk X.prog X.w _ _ _ (.tup ys) from ⟨hz,its,r',IsTup.new _ _⟩)
    exact ⟨.ref h'.objs.size,_,I2,rfl,q _ (I1.hok.fresh (Nat.le_refl _))⟩
  · obtain ⟨its,r',pl,hz⟩:=I.tuple hq
    exact call_tuple_same pl ⟨.ref p,H,I,rfl,q⟩
def tyV (K : PySem.W.Frag) (T : String) (x : V) (H : Hp) : Prop:=match x with
  | .str _=>T = "str"
  | .int _=>T = "int"
  | .ref p=>(T = "list" ∧ ∃ xs,SqL K H p xs) ∨ (T = "tuple" ∧ ∃ o,K.lookup p = some o ∧ o.cls = .type "tuple" ∧ o.dict = none) ∨
      (T = "dict" ∧ ((∃ kvs,H p = some (.dK kvs)) ∨ ∃ kvs,H p = some (.dT kvs))) ∨ (T = "set" ∧ ∃ S n,H p = some (.set S n))
  | _=>False
theorem zHy {pins : List (Addr × Obj)} {σ : St} {H : Hp} {s : Shared} {T : String} {x : V} {v : Value} (I : Inv X pins σ H s) (r : RelV x v) (ty : tyV X.K T x H) :
    s.TypeIs v T ∧ ∀ a,v = .ref a → ∃ ob,s.heap.get? a = some ob ∧ ob.dict = none:=by
  cases x with
  | str z =>
    obtain ⟨t,rfl⟩:=r
    cases (show T = "str" from ty)
    exact ⟨typeIs_str s z t,fun _ e=>nomatch e⟩
  | int i =>
    obtain ⟨t,rfl⟩:=r
    cases (show T = "int" from ty)
    exact ⟨typeIs_int s i t,fun _ e=>nomatch e⟩
  | ref p =>
    cases r
    rcases ty with ⟨rfl,xs,hq⟩ | ⟨rfl,o,hk,hc,hd⟩ | ⟨rfl,hk⟩ | ⟨rfl,S,n,hk⟩
    · obtain ⟨its,_,pl,_⟩:=I.list hq
      refine ⟨pl.isList.typeIs,fun a e=>?_⟩
      cases e
      obtain ⟨o,n,e,c,hd,_⟩:=pl
      exact ⟨o,e,hd⟩
    · refine ⟨⟨o,I.kIn p o hk,hc⟩,fun a e=>?_⟩
      cases e
      exact ⟨o,I.kIn _ o hk,hd⟩
    · have z : ∃ o,s.heap.get? p = some o ∧ o.ExactDict:=by
        rcases hk with ⟨kvs,hk⟩ | ⟨kvs,hk⟩
        · obtain ⟨_,_,_,_,o,_,_,e,ex,_⟩:=I.hok p _ hk
          exact ⟨o,e,ex⟩
        · obtain ⟨_,_,_,_,o,_,_,e,ex,_⟩:=I.hok p _ hk
          exact ⟨o,e,ex⟩
      obtain ⟨o,e,ex⟩:=z
      refine ⟨⟨o,e,ex.1⟩,fun a e2=>?_⟩
      cases e2
      exact ⟨o,e,ex.2.1⟩
    · obtain ⟨o,_,_,_,e,ex,_⟩:=I.hok p _ hk
      refine ⟨⟨o,e,ex.1⟩,fun a e2=>?_⟩
      cases e2
      exact ⟨o,e,ex.2.1⟩
  | _=>exact False.elim ty
def tBM0 (K : PySem.W.Frag) (T : String) (r : V → List V → Hp → VK → Prop) (to : TE) : TE:=fun σ H Q=>to σ H fun x H1=>tyV K T x H1 ∧ r x [] H1 Q
def tBM (K : PySem.W.Frag) (T : String) (r : V → List V → Hp → VK → Prop) (to : TE) (t : TA) : TE:=fun σ H Q=>to σ H fun x H1=>tyV K T x H1 ∧ t σ H1 fun xs H2=>r x xs H2 Q
variable {o e : Expr} {es : List Expr} {to : TE} {t : TA} {name : Str} {apos cpos : Pos} {T id : String} {r : V → List V → Hp → VK → Prop}
theorem zEb (pa : PlainAttrs T) (slot : Slot T name id) (hty : typeOf (.builtin id) = pure (.type "method_descriptor")) (hm : MtR X id r) (ho : PE X o to)
    (hbase : attributeBase o name X.env (eval o X.env) = eval o X.env:=by rfl) (hline : (apos.endLine == cpos.line) = true:=by rfl) : PE X (.Call (.Attribute o name apos) [] [] cpos) (tBM0 X.K T r to):=by
  intro pins s σ H Q I h
  refine wpAny_Call_method0_late hbase hline (thn (ho pins s σ H _ I h) fun v s1 ⟨x,H1,I1,r1,ty,q1⟩=>?_)
  obtain ⟨h1,h2⟩:=zHy I1 r1 ty
  exact ⟨T,id,pa,slot,hty,h1,h2,Calls.callWith_builtin rfl (PySem.evalArgs_none (hm pins s1 σ H1 x [] v [] Q I1 r1 .nil q1))⟩
theorem jR (pa : PlainAttrs T) (slot : Slot T name id) (hty : typeOf (.builtin id) = pure (.type "method_descriptor")) (hm : MtR X id r) (ho : PE X o to) (ha : PA X (e :: es) t)
    (hbase : attributeBase o name X.env (eval o X.env) = eval o X.env:=by rfl)
    (hfew : ((backTo cpos (starEach (e :: es) X.env)).all (fun x=>!x.1) && (backToKw cpos (keywordEach [] X.env)).all (fun x=>x.1.isSome)
      && decide ((e :: es).length + ([] : List Keyword).length + (if ([] : List Keyword).isEmpty then 0 else 1) < 30)) = true:=by rfl)
    (hline : (apos.endLine == cpos.line) = true:=by rfl) (hs : starEach (e :: es) X.env = (false,eval e X.env) :: starEach es X.env:=by rfl) (hplain : (backTo cpos (starEach es X.env)).any (·.1) = false:=by rfl) :
    PE X (.Call (.Attribute o name apos) (e :: es) [] cpos) (tBM X.K T r to t):=by
  intro pins s σ H Q I h
  refine wpAny_Call_method_late hbase hfew hline rfl (thn (ho pins s σ H _ I h) fun v s1 ⟨x,H1,I1,r1,ty,q1⟩=>?_)
  obtain ⟨h1,h2⟩:=zHy I1 r1 ty
  refine ⟨T,id,pa,slot,hty,h1,h2, ?_⟩
  have hA:=ha cpos pins s1 σ H1 _ I1 q1
  rw [hs] at hA ⊢
  refine Calls.callWith_builtin (by show (false || (backTo cpos (starEach es X.env)).any (·.1)) = false; rw [hplain] <;> rfl) (Calls.evalArgs_plain ?_)
  exact thn hA fun us s2 ⟨vs,H2,I2,r2,q2⟩=>hm pins s2 σ H2 x vs v us Q I2 r1 r2 q2
/- xs.append(e),list.index on a module's tuple .. are MtR facts of 06m -/
end
def MtM (X : Cx) (id : String) (r : V → List V → Hp → VK → Prop) : Prop :=
  ∀ (pins : List (Addr × Obj)) (s : Shared) (σ : St) (H : Hp) (x : V) (xs : List V) (v : Value) (us : List Value) (Q : VK),Inv X pins σ H s → RelV x v → Vals xs us → r x xs H Q →
    wpAny (model X.prog X.w) X.A (call (.builtin id) (v :: us)) (EP X pins σ Q) X.xe s
theorem Vals.one : ∀ {x : V} {us : List Value},Vals [x] us → ∃ u,us = [u] ∧ RelV x u
  | _,_, .cons r .nil=>⟨_,rfl,r⟩
theorem Vals.zero : ∀ {us : List Value},Vals [] us → us = []
  | _, .nil=>rfl
theorem Vals.dropLast {xs : List V} {us : List Value} (h : Vals xs us) : Vals xs.dropLast us.dropLast:=by
  induction h with
  | nil=>exact .nil
  | cons r t ih =>
    cases t with
    | nil=>exact .nil
    | cons q t'=>exact .cons r ih
theorem Vals.rep {xs : List V} {us : List Value} (h : Vals xs us) : ∀ k : Nat,Vals (List.replicate k xs).flatten (List.replicate k us).flatten
  | 0=>.nil
  | k + 1=>by
    rw [List.replicate_succ,List.replicate_succ,List.flatten_cons,List.flatten_cons]
    exact Vals.append h (Vals.rep h k)
theorem zDy {α : Type} (l : List α) : l.eraseIdx (l.length - 1) = l.dropLast:=by
  induction l with
  | nil=>rfl
  | cons a r ih =>
    cases r with
    | nil=>rfl
    | cons b r =>
      have e : (a :: b :: r).length - 1 = ((b :: r).length - 1) + 1:=by
        have h1 : (a :: b :: r).length = r.length + 2:=rfl
        have h2 : (b :: r).length = r.length + 1:=rfl
        omega
      rw [e,List.eraseIdx_cons_succ,ih]
      all_goals rfl
theorem zAd (its : List Value) : ∀ (k : Nat) (acc : List Value),
    List.foldl (fun x1 x2=>x1 ++ x2) acc.toArray (List.replicate k its.toArray) = (acc ++ (List.replicate k its).flatten).toArray
  | 0,acc=>by simp
  | k + 1,acc=>by
    have e : acc.toArray ++ its.toArray = (acc ++ its).toArray:=by simp
    have e2 : (acc ++ its) ++ (List.replicate k its).flatten = acc ++ (List.replicate (k + 1) its).flatten:=by
      rw [List.replicate_succ,List.flatten_cons,List.append_assoc]
    rw [← e2,← zAd its k (acc ++ its),← e,List.replicate_succ,List.foldl_cons]
section
variable {X : Cx} {pins : List (Addr × Obj)} {σ : St} {H : Hp} {s : Shared} {l b : Addr} {xs ys zs : List V}
theorem Inv.lset {its its' : List Value} {n : Nat} {f : Array Value → Array Value} {t' : Nat} (I : Inv X pins σ H s) (hH : H l = some (.lst xs))
    (e : s.heap.get? l = some { cls:=.type "list",data:=.seq its.toArray n }) (hf : f its.toArray = its'.toArray) (hv : Vals ys its') (hz : ys.length ≤ sizeLine) :
    Inv X pins σ (upd H l (.lst ys)) { s with heap:=s.heap.update l (Obj.mapSeq f),toks:=t' }:=by
  have q:=PySem.IsL.update e f
  rw [hf] at q
  refine I.write (x:=l) (e:=l) (by rw [hH]; exact trivial) (.inl rfl) (fun b' u hb hu=>(Heap.get?_update_other s.heap (Obj.mapSeq f) (Ne.symm hb)).trans hu) ⟨_,q⟩ ?_
  exact ⟨hz,its',_,hv,q⟩
theorem Inv.lnew {its : List Value} {t' : Nat} (I : Inv X pins σ H s) (hv : Vals ys its) (hz : ys.length ≤ sizeLine) :
    Inv X pins σ (upd H s.heap.objs.size (.lst ys)) { s with heap:=s.heap.push { cls:=.type "list",data:=.seq its.toArray },toks:=t' } :=
  I.laid (fun _ _ q=>Heap.get?_push_of_some _ q) (Nat.le_refl _) ⟨hz,its,0,hv,Heap.get?_push_size _ rfl⟩
theorem Inv.fresh (I : Inv X pins σ H s) : H s.heap.objs.size = none:=I.hok.fresh (Nat.le_refl _)
theorem Inv.lstM (I : Inv X pins σ H s) (hH : H l = some (.lst xs)) : xs.length ≤ sizeLine ∧ ∃ (its : List Value) (n : Nat),Vals xs its ∧ xs.length = its.length ∧ s.heap.get? l = some { cls:=.type "list",data:=.seq its.toArray n }:=by
  obtain ⟨z,its,n,r,e⟩:=I.hok l _ hH
  exact ⟨z,its,n,r,r.length,e⟩
theorem zIt {n : Nat} (h : n ≤ sizeLine) : Builtin.List.listTooLong n = false:=by
  unfold Builtin.List.listTooLong
  exact decide_eq_false (by omega)
end
section
variable {X : Cx}
def rAppend : V → List V → Hp → VK → Prop:=fun x vs H Q=>∃ l xs y,x = .ref l ∧ vs = [y] ∧ H l = some (.lst xs) ∧ xs.length < sizeLine ∧ Q .non (upd H l (.lst (xs ++ [y])))
theorem vG : MtM X "list.append" rAppend:=by
  intro pins s σ H x vs v us Q I rx rv h
  obtain ⟨l,xs,y,rfl,rfl,hH,hz,q⟩:=h
  cases rx
  obtain ⟨u,rfl,ru⟩:=rv.one
  obtain ⟨z,its,n,r,hl,e⟩:=I.lstM hH
  refine call_meets F.slot_list_append ⟨_,e,rfl⟩ F.entry_list_append (F.args_list_append_2 _ _) (PySem.list_append l its.toArray n u (by rw [List.size_toArray]; omega)) ⟨e, ?_⟩
  refine ⟨.non,_,I.lset (its':=its ++ [u]) hH e (by simp) (r.append (.cons ru .nil)) ?_,rfl,q⟩
  rw [List.length_append,List.length_singleton]
  omega
def rPop : V → List V → Hp → VK → Prop:=fun x vs H Q=>∃ l xs y,x = .ref l ∧ vs = [] ∧ H l = some (.lst xs) ∧ xs[xs.length - 1]? = some y ∧ Q y (upd H l (.lst xs.dropLast))
theorem zMq : MtM X "list.pop" rPop:=by
  intro pins s σ H x vs v us Q I rx rv h
  obtain ⟨l,xs,y,rfl,rfl,hH,hy,q⟩:=h
  cases rx
  have hus:=rv.zero
  subst hus
  obtain ⟨z,its,n,r,hl,e⟩:=I.lstM hH
  obtain ⟨u,hu,ru⟩:=r.get hy
  have hy' : its.toArray[its.toArray.size - 1]? = some u:=by
    show its.toArray[its.length - 1]? = some u
    rw [← Array.getElem?_toList,← hl]
    exact hu
  refine call_meets F.slot_list_pop ⟨_,e,rfl⟩ F.entry_list_pop (F.args_list_pop_1 _) (MeetsSeq.list_pop_last l its.toArray n u hy' (by rw [List.size_toArray]; omega)) ⟨e, ?_⟩
  refine ⟨y,_,I.lset (its':=its.dropLast) hH e ?_ r.dropLast ?_,ru,q⟩
  · show its.toArray.eraseIdxIfInBounds (its.toArray.size - 1) = its.dropLast.toArray
    rw [List.size_toArray,List.eraseIdxIfInBounds_toArray,zDy]
  · rw [List.length_dropLast]
    omega
def rCat : R2:=fun x y H Q=>∃ l b xs zs,x = .ref l ∧ y = .ref b ∧ H l = some (.lst xs) ∧ H b = some (.lst zs) ∧ xs.length + zs.length ≤ sizeLine ∧ ∀ p,H p = none → Q (.ref p) (upd H p (.lst (xs ++ zs)))
theorem vD : OpR X (binaryOp .Add) rCat:=by
  intro pins s σ H x y v u Q I rx ry h
  obtain ⟨l,b,xs,zs,rfl,rfl,hH,hB,hz,q⟩:=h
  cases rx
  cases ry
  obtain ⟨z,its,n,r,hl,e⟩:=I.lstM hH
  obtain ⟨z2,its2,n2,r2,hl2,e2⟩:=I.lstM hB
  refine PySem.P.add_list e e2 ?_ (by rw [List.size_toArray,List.size_toArray]; omega)
  have ea : its.toArray ++ its2.toArray = (its ++ its2).toArray:=by simp
  rw [ea]
  exact ⟨.ref _,_,I.lnew (t':=s.toks) (r.append r2) (by rw [List.length_append]; omega),rfl,q _ I.fresh⟩
def rRep : R2:=fun x y H Q=>∃ l k xs,x = .ref l ∧ y = .int k ∧ H l = some (.lst xs) ∧ -(2 ^ 63) ≤ k ∧ k < 2 ^ 63 ∧ xs.length * k.toNat ≤ sizeLine ∧
  ∀ p,H p = none → Q (.ref p) (upd H p (.lst (List.replicate k.toNat xs).flatten))
theorem zKk {α : Type} (xs : List α) (k : Nat) : (List.replicate k xs).flatten.length = k * xs.length:=by
  induction k with
  | zero=>simp
  | succ k ih=>rw [List.replicate_succ,List.flatten_cons,List.length_append,ih,Nat.succ_mul,Nat.add_comm]
theorem kY : OpR X (binaryOp .Mult) rRep:=by
  intro pins s σ H x y v u Q I rx ry h
  obtain ⟨l,k,xs,rfl,rfl,hH,h1,h2,hz,q⟩:=h
  cases rx
  obtain ⟨t,rfl⟩:=ry
  obtain ⟨z,its,n,r,hl,e⟩:=I.lstM hH
  have hlen : its.toArray.size * k.toNat ≤ sizeLine:=by rw [List.size_toArray,← hl]; exact hz
  have hcap : ¬ its.toArray.size * k.toNat > (2 ^ 63 - 1) / 8:=by
    have : (sizeLine : Nat) ≤ (2 ^ 63 - 1) / 8:=by decide
    omega
  have hfit : ¬ (!Builtin.List.listFitsIndex k) = true:=by
    rw [fitsIndex_both h1 h2]
    exact Bool.false_ne_true
  have hlong : ¬ Builtin.List.listTooLong (its.toArray.size * k.toNat) = true:=by
    rw [zIt hlen]
    exact Bool.false_ne_true
  have hnew : List.foldl (fun x1 x2=>x1 ++ x2) #[] (List.replicate (if its.toArray.isEmpty = true then 0 else k.toNat) its.toArray) = (List.replicate k.toNat its).flatten.toArray:=by
    have f0 : ∀ m : Nat,List.foldl (fun x1 x2=>x1 ++ x2) #[] (List.replicate m its.toArray) = (List.replicate m its).flatten.toArray:=fun m=>by
      have:=zAd its m []
      rw [List.nil_append] at this
      exact this
    rw [f0]
    cases its with
    | nil=>simp
    | cons a r'=>rw [if_neg (by simp)]
  refine wpAny_binaryOp_repeat_ref (T:="list") (U:="int") (by decide) ⟨_,e,rfl⟩ (fun s'=>typeIs_int s' k t) noFill_list_mul F.fills_int_mul F.slot_int_rmul repeat_list F.slot_int_index.lookup
    (call_meets F.slot_int_rmul (typeIs_int s k t) F.entry_int_rmul (F.args_int_rmul_2 _ _) (int___rmul___int_list k t l its.toArray n)
      ⟨e,rfl,⟨_,e,rfl⟩,call_meets F.slot_list_mul ⟨_,e,rfl⟩ F.entry_list_mul (F.args_list_mul_2 _ _) (AutoListH.list___mul___list_int_3 l its.toArray n k t hfit hcap hlong) ⟨e, ?_⟩⟩)
  rw [hnew]
  exact ⟨.ref _,_,I.lnew (t':=s.toks) (r.rep k.toNat) (by rw [zKk,Nat.mul_comm]; exact hz),rfl,q _ I.fresh⟩
end
section
variable {prog : Program} {w : World} {A : Around} {E : Value → Shared → Prop} {s : Shared}
set_option maxRecDepth 100000 in
end
section
variable {X : Cx}
end
section
variable {κ : Type} [DecidableEq κ]
def valV (kvs : List (κ × V)) (k : κ) : Option V:=(kvs.find? fun kv=>decide (kv.1 = k)).map (·.2)
def putK (kvs : List (κ × V)) (k : κ) (v : V) : List (κ × V) :=
  if (kvs.any fun kv=>decide (kv.1 = k)) = true then kvs.map (fun kv=>if kv.1 = k then (kv.1,v) else kv) else kvs ++ [(k,v)]
def dropK (kvs : List (κ × V)) (k : κ) : List (κ × V):=kvs.filter fun kv=>decide (kv.1 ≠ k)
theorem xA {p : κ × V} {r : List (κ × V)} {k : κ} (e : p.1 = k) : valV (p :: r) k = some p.2:=by simp [valV,List.find?_cons,e]
theorem yY {p : κ × V} {r : List (κ × V)} {k : κ} (e : ¬ p.1 = k) : valV (p :: r) k = valV r k:=by simp [valV,List.find?_cons,e]
theorem wU (k : κ) : ∀ kvs : List (κ × V),(kvs.any fun kv=>decide (kv.1 = k)) = (valV kvs k).isSome
  | []=>rfl
  | p :: r=>by
    rw [List.any_cons]
    by_cases e : p.1 = k
    · simp only [xA e,decide_eq_true e,Bool.true_or,Option.isSome_some]
    · rw [yY e,decide_eq_false e,Bool.false_or]; exact wU k r
theorem zCk (k j : κ) (y : V) : ∀ kvs : List (κ × V),valV (kvs.map fun kv=>if kv.1 = k then (kv.1,y) else kv) j = (valV kvs j).map fun x=>if j = k then y else x
  | []=>rfl
  | p :: r=>by
    have ih:=zCk k j y r
    rw [List.map_cons]
    by_cases h : p.1 = k
    · rw [if_pos h]
      by_cases e : p.1 = j
      · rw [xA (p:=(p.1,y)) e,xA e,Option.map_some,if_pos (e.symm.trans h)]
      · rw [yY (p:=(p.1,y)) e,yY e,ih]
    · rw [if_neg h]
      by_cases e : p.1 = j
      · rw [xA (p:=p) e,xA e,Option.map_some,if_neg (fun z=>h (e.trans z))]
      · rw [yY (p:=p) e,yY e,ih]
theorem zAr (k j : κ) (y : V) : ∀ kvs : List (κ × V),valV kvs k = none → valV (kvs ++ [(k,y)]) j = if j = k then some y else valV kvs j
  | [],_=>by
    by_cases e : k = j
    · rw [if_pos e.symm]; exact xA (p:=(k,y)) e
    · rw [if_neg (fun z=>e z.symm)]; exact yY (p:=(k,y)) e
  | p :: r,hn=>by
    rw [List.cons_append]
    have hk : ¬ p.1 = k:=fun z=>by rw [xA z] at hn; cases hn
    rw [yY hk] at hn
    have ih:=zAr k j y r hn
    by_cases e : p.1 = j
    · rw [xA e,xA e,if_neg (fun z=>hk (e.trans z))]
    · rw [yY e,yY e,ih]
theorem zIl (kvs : List (κ × V)) (k j : κ) (y : V) : valV (putK kvs k y) j = if j = k then some y else valV kvs j:=by
  unfold putK
  by_cases a : (kvs.any fun kv=>decide (kv.1 = k)) = true
  · rw [if_pos a,zCk]
    rw [wU] at a
    by_cases e : j = k
    · obtain ⟨x,hx⟩:=Option.isSome_iff_exists.mp a
      rw [if_pos e,e,hx,Option.map_some,if_pos rfl]
    · rw [if_neg e]
      cases valV kvs j with
      | none=>rfl
      | some x=>rw [Option.map_some,if_neg e]
  · rw [if_neg a]
    refine zAr k j y kvs ?_
    rw [wU] at a
    cases q : valV kvs k with
    | none=>rfl
    | some x=>rw [q] at a; exact (a rfl).elim
theorem qB (kvs : List (κ × V)) (k : κ) (v : V) : (putK kvs k v).length ≤ kvs.length + 1:=by
  unfold putK
  split
  · rw [List.length_map]; omega
  · rw [List.length_append,List.length_cons,List.length_nil]; omega
theorem zHn {kvs : List (κ × V)} {k : κ} (v : V) (h : valV kvs k = none) : putK kvs k v = kvs ++ [(k,v)]:=by
  unfold putK
  rw [wU,h]
  exact if_neg (by decide)
theorem RelO.isSome_eq {o : Option V} {u : Option Value} (r : RelO o u) : o.isSome = u.isSome:=by
  cases o with
  | none=>cases u with
    | none=>rfl
    | some _=>exact (show False from r).elim
  | some _=>cases u with
    | none=>exact (show False from r).elim
    | some _=>rfl
theorem KV.val {kvs : List (κ × V)} {vs : List (κ × Value)} (r : KV kvs vs) (k : κ) : RelO (valV kvs k) (valueAt vs k):=by
  unfold KV at r
  induction r with
  | nil=>exact True.intro
  | @cons p q ps qs h t ih =>
    obtain ⟨h1,h2⟩:=h
    by_cases e : p.1 = k
    · have e' : q.1 = k:=h1.symm.trans e
      have b : valueAt (q :: qs) k = some q.2:=by simp [valueAt,List.find?_cons,e']
      rw [xA e,b]; exact h2
    · have e' : ¬ q.1 = k:=fun z=>e (h1.trans z)
      have b : valueAt (q :: qs) k = valueAt qs k:=by simp [valueAt,List.find?_cons,e']
      rw [yY e,b]; exact ih
theorem KV.any {kvs : List (κ × V)} {vs : List (κ × Value)} (r : KV kvs vs) (k : κ) : (kvs.any fun kv=>decide (kv.1 = k)) = vs.any fun kv=>decide (kv.1 = k):=by
  unfold KV at r
  induction r with
  | nil=>rfl
  | cons h t ih=>rw [List.any_cons,List.any_cons,ih,h.1]
theorem KV.repl {kvs : List (κ × V)} {vs : List (κ × Value)} (r : KV kvs vs) (k : κ) {y : V} {u : Value} (ry : RelV y u) :
    KV (kvs.map fun kv=>if kv.1 = k then (kv.1,y) else kv) (vs.map fun kv=>if kv.1 = k then (kv.1,u) else kv):=by
  unfold KV at r ⊢
  induction r with
  | nil=>exact .nil
  | @cons p q ps qs h t ih =>
    rw [List.map_cons,List.map_cons]
    refine .cons ?_ ih
    obtain ⟨h1,h2⟩:=h
    by_cases e : p.1 = k
    · rw [if_pos e,if_pos (h1.symm.trans e)]; exact ⟨h1,ry⟩
    · rw [if_neg e,if_neg (fun z=>e (h1.trans z))]; exact ⟨h1,h2⟩
theorem KV.put {kvs : List (κ × V)} {vs : List (κ × Value)} (r : KV kvs vs) (k : κ) {y : V} {u : Value} (ry : RelV y u) : KV (putK kvs k y) (stored vs k u):=by
  unfold putK stored
  rw [r.any k]
  by_cases e : (vs.any fun kv=>decide (kv.1 = k)) = true
  · rw [if_pos e,if_pos e]; exact r.repl k ry
  · rw [if_neg e,if_neg e]; exact Paired.snoc r ⟨rfl,ry⟩
theorem KV.drop {kvs : List (κ × V)} {vs : List (κ × Value)} (r : KV kvs vs) (k : κ) : KV (dropK kvs k) (without vs k):=by
  unfold KV at r ⊢
  unfold dropK without
  induction r with
  | nil=>exact .nil
  | @cons p q ps qs h t ih =>
    obtain ⟨h1,h2⟩:=h
    rw [List.filter_cons,List.filter_cons]
    by_cases e : p.1 = k
    · have a : ¬ decide (p.1 ≠ k) = true:=by simp [e]
      have b : ¬ decide (q.1 ≠ k) = true:=by simp [h1.symm.trans e]
      rw [if_neg a,if_neg b]; exact ih
    · have e' : ¬ q.1 = k:=fun z=>e (h1.trans z)
      have a : decide (p.1 ≠ k) = true:=by simp [e]
      have b : decide (q.1 ≠ k) = true:=by simp [e']
      rw [if_pos a,if_pos b]; exact .cons ⟨h1,h2⟩ ih
theorem KV.keys {kvs : List (κ × V)} {vs : List (κ × Value)} (r : KV kvs vs) : kvs.map (·.1) = vs.map (·.1):=by
  unfold KV at r
  induction r with
  | nil=>rfl
  | cons h t ih=>rw [List.map_cons,List.map_cons,ih,h.1]
theorem KV.length {kvs : List (κ × V)} {vs : List (κ × Value)} (r : KV kvs vs) : kvs.length = vs.length:=Paired.length r
theorem zJe (kvs : List (κ × V)) (k : κ) : (dropK kvs k).length ≤ kvs.length:=List.length_filter_le _ _
end
theorem kE {P : Program} {w : World} {k : Key} {u : Value} (r : RelV (kV k) u) : (mixKind P w).is k u = true:=by
  cases k with
  | inl i=>obtain ⟨t,e⟩:=(show ∃ t,u = Value.int i t from r); subst e; exact zBz P w i t
  | inr x=>obtain ⟨t,e⟩:=(show ∃ t,u = Value.str x t from r); subst e; exact zCo P w x t
theorem uK {P : Program} {w : World} : ∀ {ks : List Key} {us : List Value},Vals (ks.map kV) us → ItemsAre (mixKind P w) ks us
  | [],_,r=>by rw [List.map_nil] at r; cases r; exact .nil
  | k :: ks,_,r=>by
    rw [List.map_cons] at r
    cases r with
    | cons h t=>exact .cons (kE h) (uK t)
abbrev KT (H : Hp) : List (List Key × V) → List (List Key × Addr × Value) → Prop:=Paired fun p q=>p.1 = q.1 ∧ H q.2.1 = some (.tup (p.1.map kV)) ∧ RelV p.2 q.2.2
theorem KT.val {H : Hp} {kvs : List (List Key × V)} {xs : List (List Key × Addr × Value)} (r : KT H kvs xs) (k : List Key) : RelO (valV kvs k) ((atKey xs k).map (·.2)):=by
  induction r with
  | nil=>exact True.intro
  | @cons p q ps qs h t ih =>
    obtain ⟨h1,_,h2⟩:=h
    by_cases e : p.1 = k
    · have e' : q.1 = k:=h1.symm.trans e
      have b : atKey (q :: qs) k = some q.2:=by simp [atKey,List.find?_cons,e']
      rw [xA e,b]; exact h2
    · have e' : ¬ q.1 = k:=fun z=>e (h1.trans z)
      have b : atKey (q :: qs) k = atKey qs k:=by simp [atKey,List.find?_cons,e']
      rw [yY e,b]; exact ih
theorem KT.repl {H : Hp} {kvs : List (List Key × V)} {xs : List (List Key × Addr × Value)} (r : KT H kvs xs) (k : List Key) {y : V} {u : Value} (ry : RelV y u) :
    KT H (kvs.map fun kv=>if kv.1 = k then (kv.1,y) else kv) (xs.map (putAt k u)):=by
  induction r with
  | nil=>exact .nil
  | @cons p q ps qs h t ih =>
    rw [List.map_cons,List.map_cons]
    refine .cons ?_ ih
    obtain ⟨h1,h2,h3⟩:=h
    unfold putAt
    by_cases e : p.1 = k
    · rw [if_pos e,if_pos (h1.symm.trans e)]; exact ⟨h1,h2,ry⟩
    · rw [if_neg e,if_neg (fun z=>e (h1.trans z))]; exact ⟨h1,h2,h3⟩
theorem KT.put {H : Hp} {kvs : List (List Key × V)} {xs : List (List Key × Addr × Value)} (r : KT H kvs xs) (k : List Key) {b : Addr} {y : V} {u : Value} (hb : H b = some (.tup (k.map kV))) (ry : RelV y u) :
    KT H (putK kvs k y) (storedH xs k b u):=by
  have e : (kvs.any fun kv=>decide (kv.1 = k)) = (atKey xs k).isSome:=by
    rw [wU,(r.val k).isSome_eq,Option.isSome_map]
  unfold putK storedH
  rw [e]
  by_cases q : (atKey xs k).isSome = true
  · rw [if_pos q,if_pos q]; exact r.repl k ry
  · rw [if_neg q,if_neg q]; exact Paired.snoc r ⟨rfl,hb,ry⟩
theorem KT.keeps {H H' : Hp} {kvs : List (List Key × V)} {xs : List (List Key × Addr × Value)} (r : KT H kvs xs) (ht : ∀ b ys,H b = some (.tup ys) → H' b = some (.tup ys)) : KT H' kvs xs :=
  Paired.mapP r fun _ _ z=>⟨z.1,ht _ _ z.2.1,z.2.2⟩
section
variable {P : Program} {w : World} {H : Hp} {h : Heap} {a : Addr}
theorem zMe {u : HO} (ok : HOk P w H h) (e : Rd H a u) : ObjOk P w H h a u:=e.ok ok
theorem qA {kvs : List (Key × V)} (ok : HOk P w H h) (e : Rd H a (.dK kvs)) : kvs.length ≤ sizeLine ∧ (a == sysModules) = false ∧ ∃ vs,KV kvs vs ∧ h.DictOf (mixKind P w) a vs :=
  show ObjOk P w H h a (.dK kvs) from zMe ok e
theorem zHr {kvs : List (Key × V)} (ok : HOk P w H h) (e : H a = some (.dK kvs)) : kvs.length ≤ sizeLine ∧ (a == sysModules) = false ∧ ∃ vs,KV kvs vs ∧ h.DictOf (mixKind P w) a vs:=qA ok (.inl e)
theorem gR {ks : List Key} (ok : HOk P w H h) (e : H a = some (.tup (ks.map kV))) : (tupleKind (mixKind P w)).is h ks a:=by
  obtain ⟨_,its,r,o,h1,h2,n,h3⟩:=(show ObjOk P w H h a (.tup (ks.map kV)) from ok a _ e)
  exact ⟨o,its.toArray,n,h1,h2,h3,by simpa using uK r⟩
theorem zAl {kvs : List (List Key × V)} (ok : HOk P w H h) (e : Rd H a (.dT kvs)) : kvs.length ≤ sizeLine ∧ (a == sysModules) = false ∧
    ∃ xs,KT H kvs xs ∧ h.DictOfH (tupleKind (mixKind P w)) a xs:=by
  obtain ⟨z,y,xs,r,o,es,ep,h1,h2,h3,h4,h5⟩:=(show ObjOk P w H h a (.dT kvs) from zMe ok e)
  refine ⟨z,y,xs,r,o,es,ep,h1,h2,h3,h4,fun x hx=>?_,h5⟩
  have all : ∀ {l : List (List Key × V)} {m : List (List Key × Addr × Value)},KT H l m → ∀ x ∈ m,(tupleKind (mixKind P w)).is h x.1 x.2.1:=by
    intro l m q
    induction q with
    | nil=>intro x hx; exact nomatch hx
    | @cons p q ps qs hq t ih =>
      intro x hx
      rcases List.mem_cons.mp hx with e | hx
      · subst e
        exact gR ok (by rw [← hq.1]; exact hq.2.1)
      · exact ih x hx
  exact all r x hx
theorem dt_of {kvs : List (List Key × V)} (ok : HOk P w H h) (e : H a = some (.dT kvs)) : kvs.length ≤ sizeLine ∧ (a == sysModules) = false ∧
    ∃ xs,KT H kvs xs ∧ h.DictOfH (tupleKind (mixKind P w)) a xs:=zAl ok (.inl e)
end
def DGet (H : Hp) (a : Addr) (y : V) (r : Option V) : Prop :=
  (∃ kvs k,Rd H a (.dK kvs) ∧ y = kV k ∧ r = valV kvs k) ∨ ∃ kvs k b,Rd H a (.dT kvs) ∧ y = .ref b ∧ H b = some (.tup (k.map kV)) ∧ r = valV kvs k
def DPut (H : Hp) (a : Addr) (y v : V) (H' : Hp) : Prop :=
  (∃ kvs k,H a = some (.dK kvs) ∧ y = kV k ∧ kvs.length < sizeLine ∧ H' = upd H a (.dK (putK kvs k v))) ∨
  ∃ kvs k b,H a = some (.dT kvs) ∧ y = .ref b ∧ H b = some (.tup (k.map kV)) ∧ kvs.length < sizeLine ∧ H' = upd H a (.dT (putK kvs k v))
theorem DPut.k {H : Hp} {a : Addr} {kvs : List (Key × V)} {k : Key} {v : V} (e : H a = some (.dK kvs)) (hl : kvs.length < sizeLine) : DPut H a (kV k) v (upd H a (.dK (putK kvs k v))):=.inl ⟨kvs,k,e,rfl,hl,rfl⟩
section
variable {X : Cx} {pins : List (Addr × Obj)} {σ : St} {H : Hp} {s : Shared} {a : Addr} {y v : V} {u r : Value} {o : Option V} {A : Around} {E : Value → Shared → Prop}
theorem Inv.big (I : Inv X pins σ H s) : sysModules < s.heap.objs.size:=by
  have h : mainGlobals < s.heap.objs.size:=(I.mod.glob.keeps I.bk).lt
  exact Nat.lt_trans (by decide) h
theorem zHl {Q : Value → Shared → Prop} (hu : A.units + 1 < cLine) (I : Inv X pins σ H s) (g : DGet H a y (some v)) (ry : RelV y u) (h : ∀ w' s',Inv X pins σ H s' → RelV v w' → Q w' s') :
    wpAny (model X.prog X.w) A (getItem (.ref a) u) Q E s:=by
  rcases g with ⟨kvs,k,e,ey,l⟩ | ⟨kvs,k,b,e,ey,eb,l⟩
  · subst ey
    obtain ⟨z,hd,vs,rel,dd⟩:=qA I.hok e
    obtain ⟨w',hw,rw'⟩:=RelO.some_of (v:=v) (o:=valueAt vs k) (by rw [l]; exact rel.val k)
    exact wpAny_getItem_of (kE ry) dd.mapOf hw (h w' _ (I.tok _) rw')
  · subst ey
    cases (show u = Value.ref b from ry)
    obtain ⟨z,hd,xs,rel,dd⟩:=zAl I.hok e
    obtain ⟨w',hw,rw'⟩:=RelO.some_of (v:=v) (o:=(atKey xs k).map (·.2)) (by rw [l]; exact rel.val k)
    obtain ⟨p,hp,hp2⟩:=Option.map_eq_some_iff.mp hw
    refine wpAny_getItem_heap (tupleKind_room_in1 hu) (gR I.hok eb) dd hp ?_
    rw [hp2]
    exact h w' _ (I.tok _) rw'
theorem d_in {Q : Value → Shared → Prop} (hu : A.units + 1 < cLine) (I : Inv X pins σ H s) (g : DGet H a y o) (ry : RelV y u) (h : ∀ s',Inv X pins σ H s' → Q (.bool o.isSome) s') :
    wpAny (model X.prog X.w) A (compareOp .In u (.ref a)) Q E s:=by
  rcases g with ⟨kvs,k,e,ey,l⟩ | ⟨kvs,k,b,e,ey,eb,l⟩
  · subst ey
    obtain ⟨z,hd,vs,rel,dd⟩:=qA I.hok e
    refine wpAny_in_of (kE ry) hd dd.mapOf ?_
    rw [← (rel.val k).isSome_eq,← l]
    exact h _ (I.tok _)
  · subst ey
    cases (show u = Value.ref b from ry)
    obtain ⟨z,hd,xs,rel,dd⟩:=zAl I.hok e
    refine wpAny_in_heap (tupleKind_room_in1 hu) (gR I.hok eb) hd dd ?_
    have q:=(rel.val k).isSome_eq
    rw [Option.isSome_map] at q
    rw [← q,← l]
    exact h _ (I.tok _)
theorem zLw {Q : Value → Shared → Prop} (hu : A.units + 1 < cLine) (I : Inv X pins σ H s) (g : DGet H a y o) (ry : RelV y u) (h : ∀ s',Inv X pins σ H s' → Q (.bool (!o.isSome)) s') :
    wpAny (model X.prog X.w) A (compareOp .NotIn u (.ref a)) Q E s:=by
  rcases g with ⟨kvs,k,e,ey,l⟩ | ⟨kvs,k,b,e,ey,eb,l⟩
  · subst ey
    obtain ⟨z,hd,vs,rel,dd⟩:=qA I.hok e
    refine wpAny_notIn_of (kE ry) hd dd.mapOf ?_
    rw [← (rel.val k).isSome_eq,← l]
    exact h _ (I.tok _)
  · subst ey
    cases (show u = Value.ref b from ry)
    obtain ⟨z,hd,xs,rel,dd⟩:=zAl I.hok e
    refine wpAny_notIn_heap (tupleKind_room_in1 hu) (gR I.hok eb) hd dd ?_
    have q:=(rel.val k).isSome_eq
    rw [Option.isSome_map] at q
    rw [← q,← l]
    exact h _ (I.tok _)
theorem kG {h' : Heap} {t' : Nat} {ob : HO} (I : Inv X pins σ H s) (mu : Mut (H a)) (hs : Heap.SameBut a s.heap h') (he : ∃ q,h'.get? a = some q) (new : ObjOk X.prog X.w (upd H a ob) h' a ob) :
    Inv X pins σ (upd H a ob) { s with heap:=h',toks:=t' } :=
  I.write (x:=a) (e:=a) mu (.inl rfl) (fun b q hb z=>(hs.2 b hb).trans z) he new
theorem zBa {P : Program} {w : World} {H' : Hp} {h' : Heap} {kvs : List (Key × V)} {vs : List (Key × Value)} (z : kvs.length ≤ sizeLine) (hd : (a == sysModules) = false) (rel : KV kvs vs) (dd : h'.DictOf (mixKind P w) a vs) :
    ObjOk P w H' h' a (.dK kvs):=⟨z,hd,vs,rel,dd⟩
theorem zHi {H' : Hp} {Q : Unit → Shared → Prop} (hu : A.units + 1 < cLine) (I : Inv X pins σ H s) (g : DPut H a y v H') (ry : RelV y u) (rv : RelV v r) (h : ∀ s',Inv X pins σ H' s' → Q () s') :
    wpAny (model X.prog X.w) A (setItem (.ref a) u r) Q E s:=by
  rcases g with ⟨kvs,k,e,ey,l,eH⟩ | ⟨kvs,k,b,e,ey,eb,l,eH⟩
  · subst ey eH
    obtain ⟨z,hd,vs,rel,dd⟩:=zHr I.hok e
    have hz : vs.length ≤ sizeLine:=by rw [← rel.length]; exact z
    have hl : (putK kvs k v).length ≤ sizeLine:=by have:=qB kvs k v; omega
    refine wpAny_setItem_pairs (hsz:=hz) (kE ry) dd fun h' dd' hs=>h _ ?_
    have he : ∃ q,h'.get? a = some q:=let ⟨q,_,_,hq,_⟩:=dd'; ⟨q,hq⟩
    exact kG I (by rw [e]; exact True.intro) hs he (zBa hl hd (rel.put k rv) dd')
  · subst ey eH
    cases (show u = Value.ref b from ry)
    obtain ⟨z,hd,xs,rel,dd⟩:=dt_of I.hok e
    have hz : xs.length ≤ sizeLine:=by rw [← Paired.length rel]; exact z
    have hl : (putK kvs k v).length ≤ sizeLine:=by have:=qB kvs k v; omega
    refine wpAny_setItem_heap (hsz:=hz) (tupleKind_room_in1 hu) (gR I.hok eb) dd fun h' dd' hs=>h _ ?_
    obtain ⟨q,es,ep,hq,h2,h3,h4,_,h5⟩:=dd'
    refine kG I (by rw [e]; exact True.intro) hs ⟨q,hq⟩ ⟨hl,hd,_,(rel.put k eb rv).keeps fun c ys ec=>?_,q,es,ep,hq,h2,h3,h4,h5⟩
    rw [zM (ne_of ec e (fun z=>nomatch z))]
    exact ec
end
section
variable {X : Cx} {pins : List (Addr × Obj)} {σ : St} {H : Hp} {s : Shared} {a : Addr} {kvs : List (Key × V)} {k : Key} {u : Value} {A : Around} {E : Value → Shared → Prop}
theorem d_pop {v : V} {more : List Value} {Q : Value → Shared → Prop} (I : Inv X pins σ H s) (e : H a = some (.dK kvs)) (ry : RelV (kV k) u) (l : valV kvs k = some v) (hm : more = [] ∨ ∃ x,more = [x])
    (h : ∀ w' s',Inv X pins σ (upd H a (.dK (dropK kvs k))) s' → RelV v w' → Q w' s') : wpAny (model X.prog X.w) A (call (.builtin "dict.pop") (.ref a :: u :: more)) Q E s:=by
  obtain ⟨z,hd,vs,rel,dd⟩:=zHr I.hok e
  obtain ⟨w',hw,rw'⟩:=RelO.some_of (v:=v) (o:=valueAt vs k) (by rw [← l]; exact rel.val k)
  have hp : (keyPart u).isSome = true:=by
    cases k with
    | inl i=>obtain ⟨t,q⟩:=(show ∃ t,u = Value.int i t from ry); subst q; rfl
    | inr x=>obtain ⟨t,q⟩:=(show ∃ t,u = Value.str x t from ry); subst q; rfl
  have ha : argsOk "dict.pop" ⟨.ref a :: u :: more,[]⟩:=by
    rcases hm with q | ⟨x,q⟩
    · subst q; exact PySem.F.args_dict_pop_2 _ _
    · subst q; exact PySem.F.args_dict_pop_3 _ _ _
  refine call_meetsIn PySem.F.slot_dict_pop dd.typeIs PySem.F.entry_dict_pop ha (meets_dict_pop_there (mixKind X.prog X.w) a (kE ry) more hm hp)
    ⟨vs,w',dd,by rw [← rel.length]; exact z,hw,fun h' dd' hs=>h w' _ ?_ rw'⟩
  have he : ∃ q,h'.get? a = some q:=let ⟨q,_,_,hq,_⟩:=dd'; ⟨q,hq⟩
  exact kG I (by rw [e]; exact True.intro) hs he (zBa (Nat.le_trans (zJe kvs k) z) hd (rel.drop k) dd')
theorem d_len {Q : Value → Shared → Prop} (I : Inv X pins σ H s) (e : Rd H a (.dK kvs)) (h : ∀ t s',Inv X pins σ H s' → Q (.int kvs.length t) s') : wpAny (model X.prog X.w) A (call (.builtin "len") [.ref a]) Q E s:=by
  obtain ⟨z,hd,vs,rel,dd⟩:=qA I.hok e
  refine call_len_dict hd dd (by rw [← rel.length]; rw [sizeLine_eq] at z; omega) ?_
  rw [← rel.length]
  exact h _ _ (I.tok _)
end
def NoSl (i : Expr) : Prop:=∀ ov iv,subscripted i false ov iv = operate [ov,iv] (getItem ov iv)
theorem zKv {prog : Program} {w : World} {A : Around} {E : Value → Shared → Prop} {s : Shared} {env : Env} {value slice : Expr} {pos : Pos} {T id : String} {Q : Value → Shared → Prop}
    (hl : typeLookup (.type T) "__getitem__" = pure (some (.builtin id))) (hs : NoSl slice)
    (h : wpAny (model prog w) A (eval value env) (fun o s₁=>wpAny (model prog w) A (eval slice env) (fun i s₂=>s₂.TypeIs o T ∧ wpAny (model prog w) A (getItem o i) Q E s₂) E s₁) E s) :
    wpAny (model prog w) A (eval (.Subscript value slice pos) env) Q E s:=by
  refine Subscript_ (wpAny_mono h (fun o s₁ h₁=>wpAny_mono h₁ (fun i s₂ h₂=>?_) fun _ _ x=>x) fun _ _ x=>x)
  obtain ⟨hT,h₂⟩:=h₂
  unfold subscriptTail
  refine wpAny_bind ?_
  rw [getitemInPython_of_ne hT.not_modules]
  refine wpAny_bind (wpAny_specialOf hT hl ?_)
  have fin : wpAny (model prog w) A (subscripted slice false o i) (fun r s₃=>wpAny (model prog w) A (letTemporaryGo value o r >>= fun _=>pure r) Q E s₃) E s₂:=by
    rw [hs o i]
    exact wpAny_operating (wpAny_mono h₂ (fun r s₃ h₃=>wpAny_bind (wpAny_letTemporaryGo (wpAny_pure h₃))) fun _ _ x=>x)
  first
    | exact wpAny_pure (wpAny_bind fin)
    | exact wpAny_bind (wpAny_pure (wpAny_bind fin))
    | exact wpAny_bind fin
theorem zBy {X : Cx} {pins : List (Addr × Obj)} {σ : St} {H : Hp} {s : Shared} {a : Addr} {y : V} {o : Option V} (I : Inv X pins σ H s) (g : DGet H a y o) : s.TypeIs (.ref a) "dict":=by
  rcases g with ⟨kvs,k,e,_,_⟩ | ⟨kvs,k,b,e,_,_,_⟩
  · obtain ⟨_,_,vs,_,dd⟩:=qA I.hok e
    exact dd.typeIs
  · obtain ⟨_,_,xs,_,dd⟩:=zAl I.hok e
    exact dd.typeIs
def tDGet (td ty : TE) : TE:=fun σ H Q=>td σ H fun x H1=>ty σ H1 fun y H2=>∃ a v,x = .ref a ∧ DGet H2 a y (some v) ∧ Q v H2
def tDIn (ty td : TE) : TE:=fun σ H Q=>ty σ H fun y H1=>td σ H1 fun x H2=>∃ a o,x = .ref a ∧ DGet H2 a y o ∧ Q (.bl o.isSome) H2
def tDNotIn (ty td : TE) : TE:=fun σ H Q=>ty σ H fun y H1=>td σ H1 fun x H2=>∃ a o,x = .ref a ∧ DGet H2 a y o ∧ Q (.bl (!o.isSome)) H2
def sDPut (td ty tv : TE) : TS:=fun D σ H=>tv σ H fun v H1=>td σ H1 fun x H2=>ty σ H2 fun y H3=>∃ a H4,x = .ref a ∧ DPut H3 a y v H4 ∧ D.nx σ H4
section
variable {X : Cx} {o i e value : Expr} {pos pos' tpos : Pos} {td ty tv : TE}
theorem wW (hu : X.A.units + 1 < cLine) (ho : PE X o td) (hi : PE X i ty) (hs : NoSl i) : PE X (.Subscript o i pos) (tDGet td ty):=by
  intro pins s σ H Q I h
  refine zKv PySem.F.slot_dict_getitem.lookup hs (thn (ho pins s σ H _ I h) fun u s1 ⟨x,H1,I1,rx,q1⟩=>thn (hi pins s1 σ H1 _ I1 q1) fun iv s2 ⟨y,H2,I2,ry,a,v,ex,g,q2⟩=>?_)
  subst ex
  obtain rfl : u = Value.ref a:=rx
  exact ⟨zBy I2 g,zHl hu I2 g ry fun w' s3 I3 rw'=>⟨v,H2,I3,rw',q2⟩⟩
theorem zDs (hu : X.A.units + 1 < cLine) (hi : PE X i ty) (ho : PE X o td) : PC X .In i o (tDIn ty td):=by
  intro pins s σ H Q I h
  refine thn (hi pins s σ H _ I h) fun iv s1 ⟨y,H1,I1,ry,q1⟩=>thn (ho pins s1 σ H1 _ I1 q1) fun u s2 ⟨x,H2,I2,rx,a,ov,ex,g,q2⟩=>?_
  subst ex
  obtain rfl : u = Value.ref a:=rx
  exact d_in hu I2 g ry fun s3 I3=>⟨.bl ov.isSome,H2,I3,rfl,q2⟩
theorem zFw (hu : X.A.units + 1 < cLine) (hi : PE X i ty) (ho : PE X o td) : PC X .NotIn i o (tDNotIn ty td):=by
  intro pins s σ H Q I h
  refine thn (hi pins s σ H _ I h) fun iv s1 ⟨y,H1,I1,ry,q1⟩=>thn (ho pins s1 σ H1 _ I1 q1) fun u s2 ⟨x,H2,I2,rx,a,ov,ex,g,q2⟩=>?_
  subst ex
  obtain rfl : u = Value.ref a:=rx
  exact zLw hu I2 g ry fun s3 I3=>⟨.bl (!ov.isSome),H2,I3,rfl,q2⟩
theorem vQ (hu : X.A.units + 1 < cLine) (ho : PE X o td) (hi : PE X i ty) (hv : PE X value tv) (hs : swapsWith value (some (.Subscript o i pos')) pos.line X.env = pure false) :
    PS X (.Assign [.Subscript o i pos'] value pos) (sDPut td ty tv):=by
  intro pins s σ H D I h
  refine wpAny_Assign_Subscript (thn (hv pins s σ H _ I h) fun r s1 ⟨v,H1,I1,rv,q1⟩=>thn (ho pins s1 σ H1 _ I1 q1) fun u s2 ⟨x,H2,I2,rx,q2⟩=>thn (hi pins s2 σ H2 _ I2 q2) fun iv s3 ⟨y,H3,I3,ry,a,H4,ex,g,q3⟩=>?_) hs
  subst ex
  obtain rfl : u = Value.ref a:=rx
  exact zHi hu I3 g ry rv fun s4 I4=>⟨σ,H4,I4,q3⟩
end
theorem zCx {P : Program} {w : World} {H : Hp} (h : Heap) (hb : sysModules < h.objs.size) : ObjOk P w H (h.push { cls:=.type "dict",data:=.dict #[] }) h.objs.size (.dK []) :=
  ⟨Nat.zero_le _,beq_eq_false_iff_ne.mpr (Ne.symm (Nat.ne_of_lt hb)),[], .nil,Heap.DictOf.new h⟩
def tDNewK : TE:=fun _ H Q=>∀ p,H p = none → Q (.ref p) (upd H p (.dK []))
section
variable {X : Cx} {pos : Pos}
theorem gG : PE X (.Dict [] [] pos) tDNewK:=fun pins s σ H Q I h =>
  wpAny_Dict_empty ⟨.ref s.heap.objs.size,_,I.laid (a:=s.heap.objs.size) (o:=.dK []) (t':=s.toks) (fun _ _ q=>Heap.get?_push_of_some _ q) (Nat.le_refl _) (zCx s.heap I.big),rfl,h _ (I.hok.fresh (Nat.le_refl _))⟩
end
def tPairs : List (TE × TE) → St → Hp → (List (V × V) → Hp → Prop) → Prop
  | [],_,H,Q=>Q [] H
  | (tk,tv) :: r,σ,H,Q=>tk σ H fun x H1=>tv σ H1 fun y H2=>tPairs r σ H2 fun ps H3=>Q ((x,y) :: ps) H3
abbrev VV : List (V × V) → List (Value × Value) → Prop:=Paired fun p q=>RelV p.1 q.1 ∧ RelV p.2 q.2
def PPs (X : Cx) (pos : Pos) (keys : List (Option Expr)) (values : List Expr) (trs : List (TE × TE)) : Prop :=
  ∀ (pins : List (Addr × Obj)) (s : Shared) (σ : St) (H : Hp) (Q : List (V × V) → Hp → Prop),Inv X pins σ H s → tPairs trs σ H Q →
    wpAny (model X.prog X.w) X.A (evalPairs (pairTrees keys values X.env pos)) (fun vs s'=>∃ ps H',Inv X pins σ H' s' ∧ VV ps vs ∧ Q ps H') X.xe s
theorem zKx {X : Cx} {pos : Pos} : PPs X pos [] [] []:=fun pins s σ H Q I h=>pairTrees_nil_walk ⟨[],H,I, .nil,h⟩
theorem zIe {X : Cx} {pos : Pos} {k v : Expr} {ks : List (Option Expr)} {vs : List Expr} {tk tv : TE} {trs : List (TE × TE)} (hk : PE X k tk) (hv : PE X v tv) (hr : PPs X pos ks vs trs) :
    PPs X pos (some k :: ks) (v :: vs) ((tk,tv) :: trs):=fun pins s σ H Q I h =>
  pairTrees_cons_walk (thn (hk pins s σ H _ I h) fun u s1 ⟨x,H1,I1,rx,q1⟩=>thn (hv pins s1 σ H1 _ I1 q1) fun w2 s2 ⟨y,H2,I2,ry,q2⟩ =>
    thn (hr pins s2 σ H2 _ I2 q2) fun ws s3 ⟨ps,H3,I3,rel,q3⟩=>⟨(x,y) :: ps,H3,I3, .cons ⟨rx,ry⟩ rel,q3⟩)
def mergeK (kvs more : List (Key × V)) : List (Key × V):=more.foldl (fun acc kv=>putK acc kv.1 kv.2) kvs
theorem KV.merge : ∀ {more : List (Key × V)} {rs : List (Key × Value)} {kvs : List (Key × V)} {vs : List (Key × Value)},KV more rs → KV kvs vs → KV (mergeK kvs more) (merged vs rs):=by
  intro more rs kvs vs r
  unfold KV at r
  induction r generalizing kvs vs with
  | nil=>intro q; exact q
  | @cons p q ps qs h t ih =>
    intro r0
    have e : KV (putK kvs p.1 p.2) (stored vs q.1 q.2):=by
      have:=r0.put p.1 h.2
      rw [← h.1]; exact this
    exact ih e
theorem vE : ∀ (more kvs : List (Key × V)),(mergeK kvs more).length ≤ kvs.length + more.length
  | [],kvs=>by show kvs.length ≤ kvs.length + 0; omega
  | p :: r,kvs=>by
    have h1:=vE r (putK kvs p.1 p.2)
    have h2:=qB kvs p.1 p.2
    show (mergeK (putK kvs p.1 p.2) r).length ≤ _
    rw [List.length_cons]; omega
theorem uH {P : Program} {w : World} : ∀ {kvs : List (Key × V)} {ws : List (Value × Value)},VV (kvs.map fun kv=>(kV kv.1,kv.2)) ws → ∃ rs,Carries (mixKind P w) ws rs ∧ KV kvs rs
  | [],_,r=>by rw [List.map_nil] at r; cases r; exact ⟨[],True.intro, .nil⟩
  | p :: kvs,_,r=>by
    rw [List.map_cons] at r
    cases r with
    | @cons a b as bs h t =>
      obtain ⟨rs,c,q⟩:=uH (P:=P) (w:=w) t
      obtain ⟨b1,b2⟩:=b
      exact ⟨(p.1,b2) :: rs,⟨kE h.1,rfl,c⟩, .cons ⟨rfl,h.2⟩ q⟩
def tDisp (trs : List (TE × TE)) : TE:=fun σ H Q=>∀ p,H p = none → tPairs trs σ (upd H p (.dK [])) fun ps H2=>H2 p = some (.dK []) ∧ ∃ kvs : List (Key × V),ps = kvs.map (fun kv=>(kV kv.1,kv.2)) ∧ kvs.length ≤ 15 ∧ Q (.ref p) (upd H2 p (.dK (mergeK [] kvs)))
theorem zLn {X : Cx} {pos : Pos} {keys : List (Option Expr)} {values : List Expr} {trs : List (TE × TE)} (h : PPs X pos keys values trs) (hall : keys.all (·.isSome) = true) (hl : keys.length = values.length) (h0 : keys ≠ [])
    (h15 : keys.length ≤ 15) : PE X (.Dict keys values pos) (tDisp trs):=by
  intro pins s σ H Q I q
  have hn:=I.hok.fresh (Nat.le_refl s.heap.objs.size)
  have I1:=I.laid (a:=s.heap.objs.size) (o:=.dK []) (h':=s.heap.push { cls:=.type "dict",data:=.dict #[] }) (t':=s.toks) (fun _ _ q=>Heap.get?_push_of_some _ q) (Nat.le_refl _) (zCx s.heap I.big)
  refine wpAny_Dict_walk (knd:=mixKind X.prog X.w) hall hl h0 h15 (thn (h pins _ σ _ _ I1 (q _ hn)) fun ws s2 ⟨ps,H2,I2,rel,e,kvs,ep,lk,q2⟩=>?_)
  subst ep
  obtain ⟨rs,c,rk⟩:=uH (P:=X.prog) (w:=X.w) rel
  obtain ⟨z,hd,vs0,r0,dd⟩:=zHr I2.hok e
  cases r0
  refine ⟨rs,c,dd,fun h' dd' hs=>⟨.ref s.heap.objs.size,_, ?_,rfl,q2⟩⟩
  have hz : (mergeK [] kvs).length ≤ sizeLine:=by
    have h1:=vE kvs []
    rw [List.length_nil] at h1
    rw [sizeLine_eq]; omega
  have he : ∃ q,h'.get? s.heap.objs.size = some q:=let ⟨q,_,_,hq,_⟩:=dd'; ⟨q,hq⟩
  exact kG I2 (by rw [e]; exact True.intro) hs he (zBa hz hd (rk.merge .nil) dd')
structure M1 (X : Cx) (o : Expr) (m : Str) (apos : Pos) (e : Expr) (cpos : Pos) : Prop where
  base : attributeBase o m X.env (eval o X.env) = eval o X.env
  few : ((backTo cpos (starEach [e] X.env)).all (fun x=>!x.1) && (backToKw cpos (keywordEach [] X.env)).all (fun x=>x.1.isSome)
    && decide (([e] : List Expr).length + ([] : List Keyword).length + (if ([] : List Keyword).isEmpty then 0 else 1) < 30)) = true
  line : (apos.endLine == cpos.line) = true
  trees : backTo cpos (starEach [e] X.env) = [(false,eval e X.env)]
structure M2 (X : Cx) (o : Expr) (m : Str) (apos : Pos) (e f : Expr) (cpos : Pos) : Prop where
  base : attributeBase o m X.env (eval o X.env) = eval o X.env
  few : ((backTo cpos (starEach [e,f] X.env)).all (fun x=>!x.1) && (backToKw cpos (keywordEach [] X.env)).all (fun x=>x.1.isSome)
    && decide (([e,f] : List Expr).length + ([] : List Keyword).length + (if ([] : List Keyword).isEmpty then 0 else 1) < 30)) = true
  line : (apos.endLine == cpos.line) = true
  trees : backTo cpos (starEach [e,f] X.env) = [(false,eval e X.env),(false,eval f X.env)]
def IsD (H : Hp) (a : Addr) : Prop:=(∃ kvs,Rd H a (.dK kvs)) ∨ ∃ kvs,Rd H a (.dT kvs)
theorem zNo {X : Cx} {pins : List (Addr × Obj)} {σ : St} {H : Hp} {s : Shared} {a : Addr} (I : Inv X pins σ H s) (d : IsD H a) :
    s.TypeIs (.ref a) "dict" ∧ (∀ b,Value.ref a = .ref b → ∃ ob,s.heap.get? b = some ob ∧ ob.dict = none) ∧ (a == sysModules) = false:=by
  rcases d with ⟨kvs,e⟩ | ⟨kvs,e⟩
  · obtain ⟨_,hd,vs,_,dd⟩:=qA I.hok e
    refine ⟨dd.typeIs,fun b q=>?_,hd⟩
    cases q
    obtain ⟨ob,_,_,h1,h2,_⟩:=dd
    exact ⟨ob,h1,h2.2.1⟩
  · obtain ⟨_,hd,xs,_,dd⟩:=zAl I.hok e
    refine ⟨dd.typeIs,fun b q=>?_,hd⟩
    cases q
    obtain ⟨ob,_,_,h1,h2,_⟩:=dd
    exact ⟨ob,h1,h2.2.1⟩
section
variable {X : Cx} {pins : List (Addr × Obj)} {σ : St} {H : Hp} {s : Shared} {a : Addr} {y d : V} {u r : Value} {o : Option V} {A : Around} {E : Value → Shared → Prop}
end
def tDPop1 (td ty : TE) : TE:=fun σ H Q=>td σ H fun x H1=>∃ a,x = .ref a ∧ IsD H1 a ∧ ty σ H1 fun y H2=>∃ kvs k v,H2 a = some (.dK kvs) ∧ y = kV k ∧ valV kvs k = some v ∧ Q v (upd H2 a (.dK (dropK kvs k)))
section
variable {X : Cx} {o e f : Expr} {apos cpos : Pos} {td ty tx : TE}
theorem zJw (ho : PE X o td) (he : PE X e ty) (m : M1 X o "pop" apos e cpos) : PE X (.Call (.Attribute o "pop" apos) [e] [] cpos) (tDPop1 td ty):=by
  intro pins s σ H Q I h
  refine wpAny_Call_method m.base m.few m.line PySem.F.plainAttrs_dict PySem.F.slot_dict_pop PySem.F.type_dict_pop (thn (ho pins s σ H _ I h) fun u s1 ⟨x,H1,I1,rx,a,ex,d,q1⟩=>?_)
  subst ex
  obtain rfl : u = Value.ref a:=rx
  obtain ⟨t1,t2,_⟩:=zNo I1 d
  refine ⟨t1,t2, ?_⟩
  rw [m.trees]
  refine Calls.callWith_builtin rfl (Calls.evalArgs_plain (Calls.spliced_cons (thn (he pins s1 σ H1 _ I1 q1) fun iv s2 ⟨y,H2,I2,ry,kvs,k,v,ea,ey,l,q2⟩=>Calls.spliced_nil ?_)))
  subst ey
  exact d_pop I2 ea ry l (.inl rfl) fun w' s3 I3 rw'=>⟨v,_,I3,rw',q2⟩
end
section
variable {X : Cx} {pins : List (Addr × Obj)} {σ : St} {H : Hp} {s : Shared} {a : Addr} {kvs : List (Key × V)} {A : Around} {E : Value → Shared → Prop}
end
section
variable {X : Cx} {pins : List (Addr × Obj)} {σ : St} {H : Hp} {s : Shared} {a : Addr} {y : V} {u : Value} {A : Around} {E : Value → Shared → Prop}
end
end L2
namespace Att
open PySem PySem.W PySem.Calls PyProof.Rows
theorem kF {P : Params} {h : Heap} : ∀ (ns : List Int) (vs : List Value),WellAll P h vs (ns.map WData.int) → IntsAre vs ns:=by
  intro ns
  induction ns with
  | nil =>
    intro vs w
    rw [List.map_nil] at w
    cases w
    exact .nil
  | cons n ns ih =>
    intro vs w
    rw [List.map_cons] at w
    cases w with
    | cons a b =>
      cases a
      exact .cons _ _ (ih _ b)
theorem zGp {l : OpenLaw} {n : Nat} (hn : l.most = some n) {P : Params} {h : Heap} {args : List WData} {vals : List Value}
    (hpre : l.row.toRowW.claim.pre args = true) (hwl : WellAll P h vals args) :
    ∃ a vs ns,vals = [Value.ref a] ∧ args = [WData.list (ns.map WData.int)] ∧ h.get? a = some { cls:=.type "list",data:=.seq vs.toArray } ∧ IntsAre vs ns ∧ ns.length ≤ n:=by
  have hsh : WShape.hasAll [] args [.list .int] = true:=(pre_splitW hpre).1
  have hc : l.pre.holds [] { args:=args } = true:=(pre_splitW hpre).2
  obtain ⟨d,r,rfl,h1,h2⟩:=hasAllW_cons hsh
  obtain rfl:=hasAllW_nil h2
  obtain ⟨xs,rfl,h3⟩:=hasW_list h1
  obtain ⟨ns,rfl⟩:=items_int h3
  have hlen : ns.length ≤ n:=by
    unfold OpenLaw.pre at hc
    have h4 : (WTm.not (.lt (.lit (.int (n : Int))) (.len (.arg 0)))).holds [] { args:=[.list (ns.map .int)] } = true:=by
      have h4:=(holds_andW hc).1
      rw [hn] at h4
      exact h4
    have h5:=condW_of h4 (w_not (w_lt w_lit (w_len_list (w_arg rfl))))
    rw [List.length_map] at h5
    refine Nat.le_of_not_lt fun q=>?_
    have q' : (n : Int) < ((ns.length : Nat) : Int):=by omega
    first
      | (rw [decide_eq_true q'] at h5; exact absurd h5 (by decide))
      | (simp at h5; omega)
  cases hwl with
  | cons w1 w2 =>
    cases w2
    cases w1 with
    | list ho hall=>exact ⟨_,_,ns,rfl,rfl,ho,kF ns _ hall,hlen⟩
theorem zHd (l : OpenLaw) (args : List WData) : l.row.toRowW.claim.post args (.bool true) args = true :=
  postW_of (r:=l.row.toRowW) (X:=(true == true))
    (show WShape.has [] (.bool true) .bool = true by first | rfl | decide | simp [WShape.has,WShape.arms,WShape.armsAll])
    (show (WTm.eq .res (.lit (.bool true))).value [] { args:=args,res:=some (.bool true),after:=args } = some (.bool (true == true)) from w_eq_bool (w_res rfl) w_lit) rfl
theorem attach_call {l : OpenLaw} {n : Nat} {q : Program} {loose : List Str} {XP : (Str → Option Value) → Heap → Prop} {YP : World → Heap → Prop} {d : DefRec}
    (hn : l.most = some n) (hdf : d.params.defaults = [])
    (call : ∀ (w : World) (s₀ s₁ : Shared) (mg mb : Str → Option Value) (fa : Addr) (o : Obj) (pm cd doc : Value) (a : Addr) (vs : List Value) (ns : List Int),
      Ground q loose [] XP w s₀ mg mb s₁.heap → YP w s₁.heap →
      s₁.heap.get? fa = some o → o.data = .func (docDef d.name d.params d.body d.scope pm cd doc) → s₁.heap.CodeRec cd d.name → mg d.name = some (.ref fa) →
      s₁.heap.get? a = some { cls:=.type "list",data:=.seq vs.toArray } → IntsAre vs ns → ns.length ≤ n → s₁.gens = #[] →
      codeAny (model l.prog w) callerA (.call (.ref fa) ⟨[.ref a],[]⟩) (fun r s'=>r = .ok (.ret (.bool true)) ∧ OldK s₁.heap s'.heap ∧ s'.os = s₁.os ∧ AllBare s'.gens) s₁) :
    WalkO q loose XP YP l.row.toRowW d [] (fun f vs=>PySem.call f vs):=by
  intro w s₀ s₁ mg mb G Y fa o pm cd doc dV kV ho hd hcd hD hmg hg args vals as hpre hlay hrd hwl hlo
  obtain rfl : dV = .none:=Dflts.none hD hdf
  obtain rfl : kV = .none:=Dflts.noKw hD
  obtain ⟨a,vs,ns,rfl,rfl,hobj,hints,hlen⟩:=zGp hn hpre hwl
  refine enter_call (codeAny_mono (call w s₀ s₁ mg mb fa o pm cd doc a vs ns G Y ho (fd_plain hd) hcd hmg hobj hints hlen hg) fun r s' hq=>?_)
  obtain ⟨rfl,h2,h3,h4⟩:=hq
  exact ⟨.inl ⟨.bool true, .bool true,[],rfl,fun _=>rfl, .bool true,zHd l _,fun _=>⟨List.Pairwise.nil,fun _ hm=>(nomatch hm)⟩⟩,h2,h3,h4⟩
section
variable {prog : Program} {w : World} {A : Around} {E : Value → Shared → Prop} {s : Shared} {K : Frag}
end
end Att
namespace L2
open PySem PySem.Spec PyProof.Rows
theorem zAg : ∀ {vs : List Value} {ns : List Int},IntsAre vs ns → Vals (ns.map V.int) vs
  | _,_, .nil=>.nil
  | _,_, .cons n t h=>.cons ⟨t,rfl⟩ (zAg h)
def Only (H : Hp) : Prop:=∀ b,H b = none ∨ ∃ o xs,H b = some (.frz o (.lst xs))
theorem zHp {P : Program} {w : World} {K : PySem.W.Frag} {mg mb : Str → Option Value} {CX : CXT} {k : Nat} {fa a : Addr} {fd : FuncData} {x : Str} {sp : Sp} {s₁ : Shared} {vs : List Value} {ns : List Int}
    (KX : K.In s₁.heap) (hns : s₁.heap.Ns mainGlobals mg) (hb : s₁.heap.Ns builtinsNs mb) (hbb : ∀ x : Str,x ≠ "__name__" → mb x = bootBuiltins x) (hlim : s₁.heap.NoLimit) (hg : s₁.gens = #[])
    (ha : s₁.heap.get? a = some { cls:=.type "list",data:=.seq vs.toArray }) (hi : IntsAre vs ns) (hl : ns.length ≤ sizeLine) (hr : Room k callerA)
    (F : ∀ base : Heap,K.In base → base.Ns mainGlobals mg → FnOk P w K mg base CX k fa fd [x] sp) (hbind : ∀ (s : Shared) (u : Value),BindsTo s fd ⟨[u],[]⟩ [(x,u)])
    (hsp : ∀ H : Hp,Only H → SqL K H a (ns.map V.int) → sp [.ref a] H (fun v _=>v = .bl true) fun _ _ _=>False)
    (hCX : ∀ H e s',CX [] H s₁ (fun _ _ _=>False) e s' → False) :
    codeAny (model P w) callerA (.call (.ref fa) ⟨[.ref a],[]⟩) (fun r s'=>r = .ok (.ret (.bool true)) ∧ OldK s₁.heap s'.heap ∧ s'.os = s₁.os ∧ AllBare s'.gens) s₁:=by
  have rv:=zAg hi
  have lenV:=hi.length
  -- from an abstract heap in which nothing but the script may be tracked
  have core : ∀ H : Hp,Only H → SqL K H a (ns.map V.int) → HOk P w H s₁.heap → (∀ b,H b ≠ none → b = a) → (H a ≠ none → K.lookup a = none) →
      codeAny (model P w) callerA (.call (.ref fa) ⟨[.ref a],[]⟩) (fun r s'=>r = .ok (.ret (.bool true)) ∧ OldK s₁.heap s'.heap ∧ s'.os = s₁.os ∧ AllBare s'.gens) s₁:=by
    intro H hO hS hok hA hK
    have base_of : ∀ {b : Addr} {o : Obj},s₁.heap.get? b = some o → H b = none → (hidT s₁.heap H).get? b = some o:=fun e n=>zJl e n
    have noA : ∀ {b : Addr} {o : Obj} {es : Array DictEntry} {ep : Nat},s₁.heap.get? b = some o → o.data = .dict es ep → H b = none:=fun {b o es ep} e d=>by
      cases q : H b with
      | none=>rfl
      | some u =>
        have e' : b = a:=hA b (by rw [q]; simp)
        subst e'
        rw [ha] at e; cases e
        have d' : Data.seq vs.toArray _ = Data.dict es ep:=d
        cases d'
    have nsK : ∀ {b : Addr} {m : Str → Option Value},s₁.heap.Ns b m → (hidT s₁.heap H).Ns b m:=fun {b m} ⟨o,es,ep,e,d,r⟩=>⟨o,es,ep,base_of e (noA e d),d,r⟩
    have hKb : K.In (hidT s₁.heap H):=fun b o e=>base_of (KX b o e) (by
      cases q : H b with
      | none=>rfl
      | some u =>
        have e' : b = a:=hA b (by rw [q]; simp)
        subst e'
        rw [hK (by rw [q]; simp)] at e; cases e)
    have hM : Mod K mg (hidT s₁.heap H):=⟨hKb,nsK hns,⟨mb,nsK hb,hbb⟩,let ⟨mc,h1,h2⟩:=hlim; ⟨mc,nsK h1,h2⟩⟩
    have e0 : Env0 P w K mg (hidT s₁.heap H) callerA [] s₁ H:=⟨rfl,hM,fun b o e=>zLp e,Nat.le_of_eq (zGg _ _),trivial,fun b hb=>absurd (show b ∈ ([] : List Addr) from hb) (by simp),hok, .of_eq hg⟩
    refine codeAny_mono ((F _ hKb (nsK hns)).run callerA [] s₁ H ⟨[.ref a],[]⟩ [.ref a] [.ref a] _ _ hr e0 (hbind s₁ (.ref a)) (.cons rfl .nil) (hsp H hO hS)) fun r s' h=>?_
    cases r with
    | error e=>exact (hCX H e s' h).elim
    | ok fl =>
      cases fl with
      | next=>exact False.elim h
      | brk=>exact False.elim h
      | cont=>exact False.elim h
      | ret u =>
        obtain ⟨v,H',os,bare,un,hok',r',q⟩:=h
        have q' : v = .bl true:=q
        subst q'
        obtain rfl : u = Value.bool true:=r'
        refine ⟨rfl,OldK.of_keep fun b o e=>?_,os,bare⟩
        cases q : H b with
        | none=>exact un.keep b o e q (by intro z; exact absurd (show b ∈ ([] : List Addr) from z) (by simp)) (by simp)
        | some u =>
          rcases hO b with z | ⟨ob,xs,z⟩
          · rw [q] at z; cases z
          · have z2:=un.frzs b ob _ z
            obtain ⟨e1,_⟩:=hok b _ z
            obtain ⟨e2,_⟩:=hok' b _ z2
            rw [e] at e1; cases e1
            exact e2
  cases hk : K.lookup a with
  | some o =>
    -- the script is one of the module's own objects
    have e:=KX a o hk
    rw [ha] at e
    cases e
    refine core (fun _=>none) (fun _=>.inl rfl) (.inr ⟨_,vs.toArray,_,hk,rfl,rfl,rfl,by rw [List.size_toArray,lenV]; exact hl,by simpa using rv⟩) (fun b u z=>by have z' : (none : Option HO) = some u:=z; cases z') (fun b z=>absurd rfl z) fun z=>absurd rfl z
  | none =>
    refine core (fun b=>if b = a then some (.frz { cls:=.type "list",data:=.seq vs.toArray } (.lst (ns.map V.int))) else none) (fun b=>?_) (.inl (.inr ⟨{ cls:=.type "list",data:=.seq vs.toArray },if_pos rfl⟩)) (fun b u z=>?_) (fun b z=>?_) fun _=>hk
    · by_cases hb : b = a
      · exact .inr ⟨_,_,if_pos hb⟩
      · exact .inl (if_neg hb)
    · by_cases hb : b = a
      · have z':=(if_pos hb).symm.trans z
        cases z'
        subst hb
        exact ⟨ha,by rw [List.length_map]; exact hl,vs,_,rv,ha⟩
      · have z':=(if_neg hb).symm.trans z
        cases z'
    · by_cases hb : b = a
      · exact hb
      · exact absurd (if_neg hb) z
abbrev KOf {K : PySem.W.Frag} {h : Heap} (_ : K.In h) : PySem.W.Frag:=K
theorem zFq {l : PySem.W.OpenLaw} {n k : Nat} {q : Program} {loose : List Str} {XP : (Str → Option Value) → Heap → Prop} {YP : World → Heap → Prop} {d : DefRec} {K : Params → PySem.W.Frag} {CX : World → CXT} {sp : World → Sp} {x : Str}
    (hn : l.most = some n) (hn2 : n ≤ sizeLine) (hdf : d.params.defaults = []) (hr : Room k callerA)
    (hY : ∀ (w : World) (h : Heap),YP w h → (K w.params).In h)
    (F : ∀ (w : World) (mg : Str → Option Value) (fa : Addr) (h : Heap),(K w.params).In h → h.Ns mainGlobals mg → mg d.name = some (.ref fa) →
      ∃ fd : FuncData,(∀ (s : Shared) (u : Value),BindsTo s fd ⟨[u],[]⟩ [(x,u)]) ∧
        ∀ base : Heap,(K w.params).In base → base.Ns mainGlobals mg → FnOk l.prog w (K w.params) mg base (CX w) k fa fd [x] (sp w))
    (hsp : ∀ (w : World) (H : Hp) (a : Addr) (ns : List Int),ns.length ≤ n → Only H → SqL (K w.params) H a (ns.map V.int) → sp w [.ref a] H (fun v _=>v = .bl true) fun _ _ _=>False)
    (hCX : ∀ (w : World) (H : Hp) (s : Shared) (e : Value) (s' : Shared),CX w [] H s (fun _ _ _=>False) e s' → False) :
    PySem.W.WalkO q loose XP YP l.row.toRowW d [] (fun f vs=>PySem.call f vs):=by
  refine Att.attach_call hn hdf fun w s₀ s₁ mg mb fa o pm cd doc a vs ns G Y ho hd hcd hmg hobj hints hlen hg=>?_
  have KX:=hY w _ Y
  obtain ⟨fd,hb,hF⟩:=F w mg fa _ KX G.T.g hmg
  exact zHp KX G.T.g G.T.b G.T.builtins G.T.nolimit hg hobj hints (Nat.le_trans hlen hn2) hr hF hb (fun H hO hS=>hsp w H a ns hlen hO hS) fun H e s'=>hCX w H s₁ e s'
end L2
/- THE LAST THEOREM (shape; LID,My.* are yours):
   My.Adr: a structure of the addresses that your layer names (classes,functions); My.Txt K t: a structure (Prop) of the equations over K;
   My.txt_mk : {K} {implicit addresses ..} (e1 : nsIn K mainGlobals "law" = some (some (.ref f))) (e2 : K.lookup f = some ⟨oc,od, .func (fnOf "law" "law" params body scope dV kV doc pm an cdv ct),sl⟩) (e3 : codeIn K cdv "law" = true) .. : ∃ t,My.Txt K t
set_option maxRecDepth 100000 in
set_option maxHeartbeats 0 in
theorem PySem.Challenge.cw_LID_holds : PySem.Challenge.rw_LID.Holds := by
  w_on; o_law; k_head; (case hw=>w_witness2)
  k_fill
  refine L2.zFq (l:=PySem.Challenge.rw_LID) (n:=63) (k:=40) (x:="script") (CX:=fun w=>..) (sp:=fun _=>My.sp_law) rfl (by decide) rfl ⟨rfl,by decide,by decide⟩ (fun w h Y=>PySem.W.kIn_of Y) ?F ?S ?C
  case F =>
    intro w mg fa h KX G hmg
    have T : ∃ t,My.Txt (L2.KOf KX) t:=by
      dsimp only [L2.KOf]                          -- K must stand as «<heap const> w.params» for k_is
      refine' My.txt_mk ?e1 ?e2 ?e3 ..
      (case e1=>PySem.W.k_is)                    -- in the order: a name -> its address -> its object -> its parts
      (case e2=>PySem.W.k_is)
      ..
    obtain ⟨t,T⟩:=T
    have e0:=hmg.symm.trans (PySem.W.mg_of KX G T.law)
    cases e0                                       -- fa is the law's own address
    exact ⟨_,fun s u=>.of_eq rfl,fun base kb nb=>My.law_fn T kb nb⟩     -- if «.of_eq rfl» comes too early: refine' ⟨_, ?b,fun base kb nb=>My.law_fn T kb nb⟩; exact fun s u=>.of_eq rfl
  case S=>exact fun w H a ns hl hO hS=>..
  case C=>exact ..
(the tactic k_is has no namespace: write k_is) -/
namespace L2
open PySem PySem.Spec PyProof.Rows
def defArgs (s : Stmt) : Arguments:=match s with
  | .FunctionDef _ a _ _ _ _ _ _ _ _=>a
  | _=>{ posonlyargs:=[],args:=[],vararg:=none,kwonlyargs:=[],kw_defaults:=[],kwarg:=none,defaults:=[] }
def defBody (s : Stmt) : List Stmt:=match s with
  | .FunctionDef _ _ b _ _ _ _ _ _ _=>b
  | _=>[]
def defScope (s : Stmt) : Scope:=match s with
  | .FunctionDef _ _ _ _ _ _ sc _ _ _=>sc
  | _=>{ kind:=.function,names:=[],isGenerator:=false,isCoroutine:=false }
abbrev CX0 : CXT:=fun _ _ _ _ _ _=>False
abbrev E0 : XK:=fun _ _ _=>False
theorem zMf {X : Cx} : Passes CX0 X E0:=fun _ _ _ _ _ _ _ h=>h.elim
structure Fun (K : PySem.W.Frag) (x qual : Str) (st : Stmt) (f : Addr) (fd : FuncData) : Prop where
  ex : ∃ (oc : Value) (od : Option Addr) (kV doc pm : Value) (an : Option Addr) (cdv ct : Value) (osl : Array (Option Value)),
    fd = PySem.W.fnOf x qual (defArgs st) (defBody st) (defScope st) .none kV doc pm an cdv ct ∧ K.lookup f = some ⟨oc,od, .func fd,osl⟩ ∧ PySem.W.codeIn K cdv qual = true
  kp : PySem.W.keepIn K (.ref f) = true
section
variable {P : Program} {w : World} {K : PySem.W.Frag} {mg : Str → Option Value} {base : Heap}
theorem Fun.ok {x qual : Str} {st : Stmt} {f : Addr} {fd : FuncData} {N ps : List Str} {k : Nat} {sp : Sp} (F : Fun K x qual st f fd) (S : FnScope N ps (defScope st)) (len : ∀ vs H Q E,sp vs H Q E → vs.length = ps.length)
    (hbody : ∀ (cdv : Value) (A : Around) (outer : List Env) (s : Shared) (H : Hp) (vs : List V) (Q : VK) (E : XK),Room k (A.deeper (envOfC qual (defScope st) s.heap.objs.size f cdv)) → sp vs H Q E →
      ∃ t,PSs (cxOf CX0 P w K mg base N qual (defScope st) f cdv A outer s H E).nox (defBody st) t ∧ t { nx:=fun _ H'=>Q .non H',rt:=Q } (start N vs) H) : FnOk P w K mg base CX0 (k + 1) f fd ps sp:=by
  obtain ⟨oc,od,kV,doc,pm,an,cdv,ct,osl,rfl,lk,hcd⟩:=F.ex
  refine zEy lk hcd S len fun A outer s H vs Q E hr hsp=>?_
  obtain ⟨t,h,q⟩:=hbody cdv A outer s H vs Q E hr hsp
  exact ⟨t,h.nox,q⟩
theorem Fun.binds {x qual : Str} {st : Stmt} {f : Addr} {fd : FuncData} {ps : List Str} (F : Fun K x qual st f fd)
    (h : ∀ (kV doc pm : Value) (an : Option Addr) (cdv ct : Value) (us : List Value),us.length = ps.length → bindArgs (PySem.W.fnOf x qual (defArgs st) (defBody st) (defScope st) .none kV doc pm an cdv ct) ⟨us,[]⟩ = pure (ps.zip us)) : Binds K fd ps []:=by
  obtain ⟨oc,od,kV,doc,pm,an,cdv,ct,osl,rfl,lk,hcd⟩:=F.ex
  exact .all (h kV doc pm an cdv ct)
theorem yD {x qual : Str} {st : Stmt} {f : Addr} {oc : Value} {od an : Option Addr} {osl : Array (Option Value)} {kV doc pm cdv ct : Value} (l : K.lookup f = some ⟨oc,od, .func (PySem.W.fnOf x qual (defArgs st) (defBody st) (defScope st) .none kV doc pm an cdv ct),osl⟩)
    (c : PySem.W.codeIn K cdv qual = true) (k : PySem.W.keepIn K (.ref f) = true) : Fun K x qual st f (PySem.W.fnOf x qual (defArgs st) (defBody st) (defScope st) .none kV doc pm an cdv ct):=⟨⟨oc,od,kV,doc,pm,an,cdv,ct,osl,rfl,l,c⟩,k⟩
end
theorem wK {A : Around} {k : Nat} (hr : Room k A) : A.units + 1 < cLine:=Nat.lt_of_le_of_lt (Nat.add_le_add_left (by decide : 1 ≤ 64) _) hr.units
section
variable {X : Cx}
theorem pv (i : Nat) {x : Str} {pos : Pos} (hN : X.N[i]? = some x:=by rfl) (hv : Vis X.env.scope x:=by first | exact Or.inl rfl | exact Or.inr (Or.inl rfl) | exact Or.inr (Or.inr rfl)) (hd : (x == ("__debug__" : Str)) = false:=by decide)
    (hcd : (x == ("__classdict__" : Str)) = false:=by decide) : PE X (.Name x pos) (tVar i):=zNq hN hv hd hcd
end
theorem zGb {A B : Prop} (h : B) : if false = true then A else B:=by
  rw [if_neg Bool.false_ne_true]
  exact h
theorem iteT {A B : Prop} (h : A) : if true = true then A else B:=by
  rw [if_pos rfl]
  exact h
def Same (H H' : Hp) : Prop:=∀ b o,H b = some o → H' b = some o
theorem Same.refl (H : Hp) : Same H H:=fun _ _ h=>h
theorem Same.trans {H H1 H2 : Hp} (a : Same H H1) (b : Same H1 H2) : Same H H2:=fun c o h=>b c o (a c o h)
theorem Same.seq {K : PySem.W.Frag} {H H' : Hp} {a : Addr} {xs : List V} (e : Same H H') (h : SqL K H a xs) : SqL K H' a xs:=by
  rcases h with (h | ⟨o,h⟩) | h
  · exact .inl (.inl (e _ _ h))
  · exact .inl (.inr ⟨o,e _ _ h⟩)
  · exact .inr h
section
variable {X : Cx}
theorem uW : CallR X (.builtin "len") (fun xs H Q=>∃ a kvs,xs = [V.ref a] ∧ H a = some (.dK kvs) ∧ Q (.int kvs.length) H):=by
  intro pins s σ H xs us Q I r h
  obtain ⟨a,kvs,rfl,ha,q⟩:=h
  obtain ⟨u,rfl,ru⟩:=wZ r
  cases ru
  exact d_len I (.inl ha) fun t s' I'=>⟨.int kvs.length,H,I',⟨t,rfl⟩,q⟩
end
section
variable {κ : Type} [DecidableEq κ]
theorem zKs {kvs : List (κ × V)} {k : κ} {v : V} (h : valV kvs k = some v) : k ∈ kvs.map (·.1):=by
  have q : (kvs.any fun kv=>decide (kv.1 = k)) = true:=by
    rw [wU,h]
    all_goals rfl
  obtain ⟨p,hp,e⟩:=List.any_eq_true.mp q
  exact List.mem_map.mpr ⟨p,hp,of_decide_eq_true e⟩
theorem zBs : ∀ {l : List κ} {k : κ},l.Nodup → ¬ k ∈ l → (l ++ [k]).Nodup
  | [],k,_,_=>by simp
  | a :: r,k,h,hk=>by
    obtain ⟨h1,h2⟩:=List.nodup_cons.mp h
    show (a :: (r ++ [k])).Nodup
    refine List.nodup_cons.mpr ⟨fun m=>?_,zBs h2 fun m=>hk (List.mem_cons.mpr (Or.inr m))⟩
    rcases List.mem_append.mp m with q | q
    · exact h1 q
    · exact hk (List.mem_cons.mpr (Or.inl (List.mem_singleton.mp q).symm))
end
abbrev ts (x : Str) : List Nat:=x.cps.toList
abbrev tx (l : List Nat) : Str:=⟨l.toArray⟩
theorem wT (l : List Nat) : ts (tx l) = l:=rfl
theorem wV (x : Str) : tx (ts x) = x:=by cases x; simp [tx,ts]
theorem zEk (x : Str) : x.length = (ts x).length:=by simp [Str.length,ts]
theorem xX (l : List Nat) : (tx l).length = l.length:=by simp [Str.length,tx]
theorem kN {x y : Str} (h : ts x = ts y) : x = y:=by rw [← wV x,← wV y,h]
theorem jX (a b : List Nat) : tx a ++ tx b = tx (a ++ b):=by
  apply kN
  show (a.toArray ++ b.toArray).toList = a ++ b
  simp
theorem zAj (xs : Array Nat) : ∀ (k : Nat) (acc : Array Nat),((List.replicate k xs).foldl (· ++ ·) acc).toList = acc.toList ++ (List.replicate k xs.toList).flatten
  | 0,acc=>by simp
  | k + 1,acc=>by
    rw [List.replicate_succ,List.foldl_cons,zAj xs k (acc ++ xs)]
    simp [List.replicate_succ]
theorem zNw (x : Str) (n : Int) : Txt.mul x n = tx (List.replicate n.toNat (ts x)).flatten:=by
  apply kN
  rw [wT]
  unfold Txt.mul
  by_cases h1 : n < 1
  · rw [if_pos h1]
    have e : n.toNat = 0:=by omega
    rw [e]; rfl
  · rw [if_neg h1]
    by_cases h2 : (n == 1 || x.length == 0) = true
    · rw [if_pos h2]
      rcases (Bool.or_eq_true _ _).mp h2 with h3 | h3
      · have e : n = 1:=by simpa using h3
        subst e; simp
      · have e : x.length = 0:=by simpa using h3
        rw [zEk] at e
        have e2 : ts x = []:=List.eq_nil_of_length_eq_zero e
        show ts x = _
        rw [e2]; simp
    · rw [if_neg h2]
      show ((List.replicate n.toNat x.cps).foldl (· ++ ·) #[]).toList = _
      rw [zAj]; simp
section
variable {X : Cx}
def rMulS : R2:=fun x y H Q=>∃ z n,x = .str z ∧ y = .int n ∧ z.length ≤ 1000 ∧ -1000 ≤ n ∧ n ≤ 1000 ∧ Q (.str (tx (List.replicate n.toNat (ts z)).flatten)) H
theorem wN : OpR X (binaryOp .Mult) rMulS:=by
  intro pins s σ H x y v u Q I rx ry h
  obtain ⟨z,n,rfl,rfl,hz,h0,h1,q⟩:=h
  obtain ⟨t,rfl⟩:=rx
  obtain ⟨t',rfl⟩:=ry
  refine SB.mul ⟨by rw [decide_eq_false (by omega),decide_eq_false (by omega)]; rfl,fun a _ b=>?_,fun a _=>?_⟩ fun t' k=>⟨.str (Txt.mul z n),H,I.tok _,⟨_,rfl⟩,by rw [zNw]; exact q⟩
  · have h2 : (9223372036854775 : Int) ≤ (2 ^ 63 - 1 : Int) / n:=Int.le_ediv_of_mul_le (by omega) (by omega)
    omega
  · unfold PySem.Builtin.Str.tooLong
    have e : z.length * n.toNat ≤ 1000 * 1000:=Nat.mul_le_mul hz (by omega)
    exact decide_eq_false (by rw [sizeLine_eq]; omega)
theorem zEp {ys : List Str} : ∀ {us : List Value},Vals (ys.map V.str) us → StrsAre us ys:=by
  induction ys with
  | nil=>intro us r; rw [List.map_nil] at r; cases r; exact .nil
  | cons n ns ih =>
    intro us r
    rw [List.map_cons] at r
    cases r with
    | cons r1 r2 =>
      obtain ⟨t,e⟩:=r1
      subst e
      exact .cons n t (ih r2)
theorem gJ (g : Str) : ∀ (ps : List Str) (acc : Array Nat),(ps.foldl (fun a p=>a ++ g.cps ++ p.cps) acc).toList = acc.toList ++ (ps.map fun p=>ts g ++ ts p).flatten
  | [],acc=>by simp
  | p :: ps,acc=>by
    rw [List.foldl_cons,gJ g ps]
    simp
theorem zIn (ys : List Str) : Txt.join (tx []) ys = tx (ys.map ts).flatten:=by
  apply kN
  show ((ys.drop 1).foldl (fun acc p=>acc ++ (tx []).cps ++ p.cps) (ys.headD Str.empty).cps).toList = _
  rw [gJ]
  cases ys with
  | nil=>rfl
  | cons y r =>
    show ts y ++ (List.map (fun p=>ts (tx []) ++ ts p) r).flatten = ts y ++ (List.map ts r).flatten
    simp only [wT,List.nil_append]
def rJoin (K : PySem.W.Frag) : V → List V → Hp → VK → Prop:=fun x vs H Q=>∃ (p : Addr) (ys : List Str),x = .str (tx []) ∧ vs = [.ref p] ∧ SqL K H p (ys.map V.str) ∧ ((ys.map ts).flatten).length ≤ 100000 ∧ Q (.str (tx (ys.map ts).flatten)) H
theorem zLu (ys : List Str) : (ys.map (·.length)).sum = ((ys.map ts).flatten).length:=by
  induction ys with
  | nil=>rfl
  | cons y r ih=>rw [List.map_cons,List.sum_cons,ih,List.map_cons,List.flatten_cons,List.length_append,zEk]
theorem zFu : MtR X "str.join" (rJoin X.K):=by
  intro pins s σ H x vs v us Q I rx rv h
  obtain ⟨p,ys,rfl,rfl,hq,hz,q⟩:=h
  obtain ⟨t,rfl⟩:=rx
  obtain ⟨u,rfl,ru⟩:=rv.one
  cases ru
  obtain ⟨its,r,pl,_⟩:=I.list hq
  refine join_list (ys:=ys) pl.isList (by simpa using zEp r) ?_ fun t' k=>⟨.str (Txt.join (tx []) ys),H,I.tok _,⟨_,rfl⟩,by rw [zIn]; exact q⟩
  rw [zLu,show (tx []).length = 0 from rfl,Nat.mul_zero]
  omega
theorem zDh (a b n : Nat) : PySem.Builtin.Str.strSliceIndices (some (a : Int)) (some (b : Int)) 1 n = PySem.Builtin.Str.strSliceIndices (some ((min a n : Nat) : Int)) (some ((min b n : Nat) : Int)) 1 n:=by
  have h1 : ¬ ((a : Int) < 0):=by omega
  have h2 : ¬ ((b : Int) < 0):=by omega
  have h3 : ¬ (((min a n : Nat) : Int) < 0):=by omega
  have h4 : ¬ (((min b n : Nat) : Int) < 0):=by omega
  have e1 : max (0 : Int) (min (a : Int) (n : Int)) = max (0 : Int) (min ((min a n : Nat) : Int) (n : Int)):=by omega
  have e2 : max (0 : Int) (min (b : Int) (n : Int)) = max (0 : Int) (min ((min b n : Nat) : Int) (n : Int)):=by omega
  unfold PySem.Builtin.Str.strSliceIndices
  simp only [h1,h2,h3,h4,if_false,show ((1 : Int) > 0) = True from by simp,if_true]
  rw [e1,e2]
theorem zJs {a b n : Nat} (h : b < a) (hb : a ≤ n) : PySem.Builtin.Str.strSliceIndices (some (a : Int)) (some (b : Int)) 1 n = []:=by
  have h1 : ¬ ((a : Int) < 0):=by omega
  have h2 : ¬ ((b : Int) < 0):=by omega
  have e1 : max (0 : Int) (min (a : Int) (n : Int)) = a:=by omega
  have e2 : max (0 : Int) (min (b : Int) (n : Int)) = b:=by omega
  have h3 : ¬ ((a : Int) < (b : Int)):=by omega
  simp only [PySem.Builtin.Str.strSliceIndices,PySem.sliceRange,h1,h2,if_false,e1,e2,show ((1 : Int) > 0) = True from by simp,if_true,h3]
  rfl
theorem zLe {α : Type} (l : List α) (a b : Nat) : (l.drop (min a l.length)).take (min b l.length - min a l.length) = (l.take b).drop a:=by
  rw [List.drop_take]
  by_cases ha : a ≤ l.length
  · rw [Nat.min_eq_left ha]
    by_cases hb : b ≤ l.length
    · rw [Nat.min_eq_left hb]
    · rw [Nat.min_eq_right (by omega),List.take_of_length_le (by rw [List.length_drop]; omega),List.take_of_length_le (by rw [List.length_drop]; omega)]
  · have e1 : min a l.length = l.length:=Nat.min_eq_right (by omega)
    rw [e1,List.drop_eq_nil_of_le (Nat.le_refl _),List.drop_eq_nil_of_le (as:=l) (i:=a) (by omega),List.take_nil,List.take_nil]
theorem zGz (x : Str) (a b : Nat) : Txt.slice x (some (a : Int)) (some (b : Int)) = tx (((ts x).take b).drop a):=by
  have hl : x.length = (ts x).length:=zEk x
  by_cases h : min a x.length ≤ min b x.length
  · have e:=StrLaws.sliceText_nat x h (Nat.min_le_right _ _)
    have e2 : Txt.slice x (some (a : Int)) (some (b : Int)) = StrLaws.sliceText x (some ((min a x.length : Nat) : Int)) (some ((min b x.length : Nat) : Int)):=by
      unfold Txt.slice StrLaws.sliceText
      rw [zDh a b]
    rw [e2,e,hl,zLe]
  · have h1 : min b x.length = b:=by omega
    have h2 : b < a:=by omega
    have e : PySem.Builtin.Str.strSliceIndices (some (a : Int)) (some (b : Int)) 1 x.length = []:=by
      rw [zDh a b,h1]
      exact zJs (by omega) (Nat.min_le_right _ _)
    unfold Txt.slice
    rw [e,if_neg (by simp; omega)]
    apply kN
    rw [wT,List.drop_eq_nil_of_le (by rw [List.length_take]; omega)]
    rfl
theorem zIq (x : Str) (j : Nat) : Txt.slice x none (some (j : Int)) = tx ((ts x).take j):=by
  have e : Txt.slice x none (some (j : Int)) = Txt.slice x (some ((0 : Nat) : Int)) (some (j : Int)):=by
    unfold Txt.slice
    rw [StrLaws.sliceIdx_none_lo]; rfl
  rw [e,zGz,List.drop_zero]
def rSlS : V → Option Int → Option Int → Hp → VK → Prop:=fun x lo hi H Q=>∃ z,x = .str z ∧ z.length ≤ sizeLine ∧ Q (.str (Txt.slice z lo hi)) H
theorem zMj : SlR X rSlS:=by
  intro pins s σ H x v vl vu lo hi sl Q I rx hs pl pu h
  obtain ⟨z,rfl,hz,q⟩:=h
  obtain ⟨t,rfl⟩:=rx
  refine ⟨"str",_,F.slot_str_getitem.lookup,typeIs_str _ _ _, ?_⟩
  have fin : ∀ t' k,EP X pins σ Q (.str (Txt.slice z lo hi) t') { s with toks:=k }:=fun t' k=>⟨.str (Txt.slice z lo hi),H,I.tok _,⟨_,rfl⟩,q⟩
  obtain ⟨o,ho,hc,hd⟩:=hs
  cases pl with
  | none =>
    cases pu with
    | none=>exact wpAny_getItem_str_slice (l:=none) (u:=none) (st:=none) ⟨o,ho,hc,hd⟩ rfl (post_val_or_str ⟨Nat.le_trans (Txt.slice_le z _ _) hz,fin⟩)
    | int j uj=>exact wpAny_getItem_str_slice (l:=none) (u:=some (j,uj)) (st:=none) ⟨o,ho,hc,hd⟩ rfl (post_val_or_str ⟨Nat.le_trans (Txt.slice_le z _ _) hz,fin⟩)
  | int i ui =>
    cases pu with
    | none=>exact wpAny_getItem_str_slice (l:=some (i,ui)) (u:=none) (st:=none) ⟨o,ho,hc,hd⟩ rfl (post_val_or_str ⟨Nat.le_trans (Txt.slice_le z _ _) hz,fin⟩)
    | int j uj=>exact wpAny_getItem_str_slice (l:=some (i,ui)) (u:=some (j,uj)) (st:=none) ⟨o,ho,hc,hd⟩ rfl (post_val_or_str ⟨Nat.le_trans (Txt.slice_le z _ _) hz,fin⟩)
def rInC (neg : Bool) : R2:=fun x y H Q=>∃ c j,x = .str (tx [c]) ∧ y = .str j ∧ Q (.bl (if neg then !decide (c ∈ ts j) else decide (c ∈ ts j))) H
def Its (x : Str) : It:=⟨fun i _=>i < (ts x).length,fun i H y H'=>H' = H ∧ ∃ c,(ts x)[i]? = some c ∧ y = .str (tx [c]),fun i _=>(ts x).length ≤ i⟩
def iStr (tl : TE) : TI:=fun σ H R=>tl σ H fun x H1=>∃ z,x = .str z ∧ R (Its z) H1
theorem zDe {bs : List Bool} : ∀ {us : List Value},Vals (bs.map V.bl) us → PyProof.Rows.LSm.BoolsAre us bs:=by
  induction bs with
  | nil=>intro us r; rw [List.map_nil] at r; cases r; exact .nil
  | cons n ns ih =>
    intro us r
    rw [List.map_cons] at r
    cases r with
    | cons r1 r2 =>
      cases (show _ = Value.bool n from r1)
      exact .cons n (ih r2)
theorem zCb (hc : X.calm = true) : CallR X (.builtin "all") (fun xs H Q=>∃ (p : Addr) (bs : List Bool),xs = [.ref p] ∧ SqL X.K H p (bs.map V.bl) ∧ Q (.bl (bs.all id)) H):=by
  intro pins s σ H xs us Q I r h
  obtain ⟨p,bs,rfl,hq,q⟩:=h
  obtain ⟨u,rfl,rx⟩:=wZ r
  cases rx
  obtain ⟨its,rv,pl,hz⟩:=I.list hq
  have hl:=pl.isList
  have hb:=zDe rv
  have hlt : p < s.heap.objs.size:=by obtain ⟨_,e,_⟩:=hl; exact Heap.lt_size e
  refine call_all_walk (wpAny_pyIter_list hl ?_)
  refine ⟨s.heap.objs.size,[s.heap.objs.size,p],[s.heap.objs.size],its.toArray.size,_,_,fun i=>(bs[i]?).getD true,rfl,Walks.list (A:=X.A.in1) (I.ok.hd hc) _ p (Nat.ne_of_lt hlt) its.toArray,
    ⟨⟨_,Heap.get?_push_size _ rfl,rfl,rfl⟩,hl.push _⟩,fun i v s' Q' E' hP hQ=>?_,fun h' tk hk=>?_⟩
  · obtain ⟨b,e,rfl⟩:=hb.get i v (by simpa using hP)
    simp only [e,Option.getD_some] at hQ
    exact wpAny_truthy_bool hQ
  · have e : ((List.range its.toArray.size).all fun i=>(bs[i]?).getD true) = bs.all id:=by
      rw [List.size_toArray,hb.length]; exact PyProof.Rows.LSm.range_all bs
    rw [e]
    exact ⟨.bl _,H,I.kept (PyProof.Rows.LSm.kept_iter hk),rfl,q⟩
def eqLs : List V → List V → Bool
  | [],[]=>true
  | x :: xs,y :: ys=>eqV x y && eqLs xs ys
  | _,_=>false
theorem kZ : ∀ (xs ys : List V),xs.length = ys.length → (List.range xs.length).all (fun j=>match xs[j]?,ys[j]? with | some a,some b=>eqV a b | _,_=>true) = eqLs xs ys
  | [],[],_=>rfl
  | x :: xs,y :: ys,h=>by
    have ih:=kZ xs ys (by simpa using h)
    rw [List.length_cons,List.range_succ_eq_map,List.all_cons,List.all_map]
    show (eqV x y && _) = (eqV x y && eqLs xs ys)
    rw [← ih]
    congr 1
theorem zDi : ∀ {xs ys : List V},xs.length ≠ ys.length → eqLs xs ys = false
  | [],[],h=>absurd rfl h
  | [],_ :: _,_=>rfl
  | _ :: _,[],_=>rfl
  | x :: xs,y :: ys,h=>by
    have ih:=zDi (xs:=xs) (ys:=ys) (by simpa using h)
    show (eqV x y && eqLs xs ys) = false
    rw [ih,Bool.and_false]
def rEqL (K : PySem.W.Frag) (neg : Bool) : R2:=fun x y H Q=>∃ a b xs ys,x = .ref a ∧ y = .ref b ∧ SqL K H a xs ∧ SqL K H b ys ∧ xs.all flatV = true ∧ ys.all flatV = true ∧ Q (.bl (if neg then !eqLs xs ys else eqLs xs ys)) H
theorem Vals.some_at {xs : List V} {us : List Value} (r : Vals xs us) {j : Nat} (h : j < us.length) : ∃ x,xs[j]? = some x ∧ RelV x us[j]:=by
  have hl:=r.length
  obtain ⟨x,e⟩ : ∃ x,xs[j]? = some x:=⟨xs[j],by simp [hl,h]⟩
  obtain ⟨u,hu,ru⟩:=r.get e
  have e2 : us[j]? = some us[j]:=by simp [h]
  rw [e2] at hu
  cases hu
  exact ⟨x,e,ru⟩
theorem zIy {A : Around} {s : Shared} {xs ys : List V} {us ws : List Value} (r : Vals xs us) (q : Vals ys ws) (fx : xs.all flatV = true) (fy : ys.all flatV = true) :
    ∀ j (h1 : j < us.toArray.size) (h2 : j < ws.toArray.size),SeqAt.EqAt A s us.toArray[j] ws.toArray[j] ((fun j=>match xs[j]?,ys[j]? with | some a,some b=>eqV a b | _,_=>true) j):=fun j h1 h2=>by
  obtain ⟨x,e1,r1⟩:=r.some_at (j:=j) (by simpa using h1)
  obtain ⟨y,e2,r2⟩:=q.some_at (j:=j) (by simpa using h2)
  have f1 : flatV x = true:=List.all_eq_true.mp fx x (List.mem_of_getElem? e1)
  have f2 : flatV y = true:=List.all_eq_true.mp fy y (List.mem_of_getElem? e2)
  have z:=zKa (A:=A) (s:=s) r1 r2 f1 f2
  simp only [e1,e2]
  simpa using z
theorem zKr (hu : X.A.units < cLine) : OpR X (compareOp .NotEq) (rEqL X.K true):=by
  intro pins s σ H x y v u Q I rx ry h
  obtain ⟨a,b,xs,ys,rfl,rfl,ha,hb,fx,fy,q⟩:=h
  cases rx
  cases ry
  obtain ⟨its,r1,pl1,_⟩:=I.list ha
  obtain ⟨its2,r2,pl2,_⟩:=I.list hb
  have l1:=r1.length
  have l2:=r2.length
  by_cases e : xs.length = ys.length
  · refine SeqAt.RcNeAt.lists pl1.isList pl2.isList (by simp only [List.size_toArray]; omega) hu (zIy r1 r2 fx fy) X.prog X.w X.xe _ ⟨.bl _,H,I,rfl, ?_⟩
    rw [List.size_toArray,← l1,kZ xs ys e]
    exact q
  · refine SeqAt.RcNeAt.lists_lengths pl1.isList pl2.isList (by simp only [List.size_toArray]; simpa [← l1,← l2] using e) hu X.prog X.w X.xe _ ⟨.bl _,H,I,rfl, ?_⟩
    have z:=zDi e
    simpa [z] using q
def tyS (H : Hp) : V → Option String
  | .non=>some "NoneType"
  | .bl _=>some "bool"
  | .int _=>some "int"
  | .str _=>some "str"
  | .ref a=>match H a with
    | some (.lst _)=>some "list"
    | some (.tup _)=>some "tuple"
    | some (.dK _)=>some "dict"
    | _=>none
  | _=>none
def isSub (t T : String) : Bool:=t == T || (t == "bool" && T == "int")
theorem zHo {K : PySem.W.Frag} {H : Hp} {x : V} {t : String} (h : tyS H x = some t) : TyOf K H x (.type t):=by
  cases x with
  | non=>cases h; exact .non
  | bl b=>cases h; exact .bl b
  | int i=>cases h; exact .int i
  | str z=>cases h; exact .str z
  | ref a =>
    have h' : (match H a with | some (.lst _)=>some "list" | some (.tup _)=>some "tuple" | some (.dK _)=>some "dict" | _=>none) = some t:=h
    cases e : H a with
    | none=>rw [e] at h'; cases h'
    | some o =>
      rw [e] at h'
      cases o with
      | lst xs=>cases h'; exact .lst e
      | tup xs=>cases h'; exact .tup e
      | dK kvs=>cases h'; exact .dK e
      | _=>cases h'
  | byt b=>cases h
  | flt b=>cases h
  | ty n=>cases h
def tyL : List String:=["NoneType","bool","int","str","list","tuple","dict"]
def kitB (t T : String) : Option Bool:=if (Value.type t == Value.type T) = true then some true else if PySem.W.kitMeta T = true then (fastBuiltinMro t).map (·.contains (.type T)) else none
theorem zLk : (tyL.all fun t=>tyL.all fun T=>kitB t T == some (isSub t T)) = true:=by decide +kernel
theorem zDj {K : PySem.W.Frag} {t T : String} (h1 : t ∈ tyL) (h2 : T ∈ tyL) : PySem.W.kitOne K (.type t) (.type T) = some (isSub t T):=by
  have a:=List.all_eq_true.mp (List.all_eq_true.mp zLk t h1) T h2
  have b : kitB t T = some (isSub t T):=by simpa using a
  exact b
theorem zBj {H : Hp} {x : V} {t : String} (h : tyS H x = some t) : t ∈ tyL:=by
  cases x <;> first | (cases h; simp [tyL]; done) | (cases h; done) | skip
  rename_i a
  have h' : (match H a with | some (.lst _)=>some "list" | some (.tup _)=>some "tuple" | some (.dK _)=>some "dict" | _=>none) = some t:=h
  split at h' <;> first | (cases h'; simp [tyL]; done) | (cases h'; done)
theorem zKm {pins : List (Addr × Obj)} {σ : St} {H : Hp} {s : Shared} {x : V} {u : Value} {t : String} (I : Inv X pins σ H s) (rx : RelV x u) (h : tyS H x = some t) :
    ∃ φ : Heap → Prop,PySem.W.KitX X.K u (.type t) φ ∧ φ s.heap ∧ u ≠ .builtin "__main__.__loader__#opaque":=by
  cases zHo (K:=X.K) h with
  | non=>cases (show u = Value.none from rx); exact ⟨_,PySem.W.kitx_none,True.intro,fun z=>nomatch z⟩
  | bl y=>cases (show u = Value.bool y from rx); exact ⟨_,PySem.W.kitx_bool,True.intro,fun z=>nomatch z⟩
  | int i=>obtain ⟨t,q⟩:=(show ∃ t,u = Value.int i t from rx); cases q; exact ⟨_,PySem.W.kitx_int,True.intro,fun z=>nomatch z⟩
  | str y=>obtain ⟨t,q⟩:=(show ∃ t,u = Value.str y t from rx); cases q; exact ⟨_,PySem.W.kitx_str,True.intro,fun z=>nomatch z⟩
  | flt y=>obtain ⟨t,q⟩:=(show ∃ t,u = Value.float y t from rx); cases q; exact ⟨_,PySem.W.kitx_float,True.intro,fun z=>nomatch z⟩
  | @lst a xs ea =>
    cases (show u = Value.ref a from rx)
    obtain ⟨_,_,n,_,h1⟩:=(show ObjOk X.prog X.w H s.heap a (.lst xs) from I.hok a _ ea)
    exact ⟨_,PySem.W.kitx_list,⟨_,h1,rfl⟩,fun z=>nomatch z⟩
  | @frz a ob xs ea =>
    cases (show u = Value.ref a from rx)
    obtain ⟨_,_,_,n,_,h1⟩:=(show ObjOk X.prog X.w H s.heap a (.frz ob (.lst xs)) from I.hok a _ ea)
    exact ⟨_,PySem.W.kitx_list,⟨_,h1,rfl⟩,fun z=>nomatch z⟩
  | @tup a xs ea =>
    cases (show u = Value.ref a from rx)
    obtain ⟨_,_,_,p⟩:=(show ObjOk X.prog X.w H s.heap a (.tup xs) from I.hok a _ ea)
    obtain ⟨o,h1,h2,_⟩:=p
    exact ⟨_,PySem.W.kitx_tuple,⟨o,h1,h2⟩,fun z=>nomatch z⟩
  | @dK a kvs ea =>
    cases (show u = Value.ref a from rx)
    obtain ⟨_,_,vs,_,p⟩:=(show ObjOk X.prog X.w H s.heap a (.dK kvs) from I.hok a _ ea)
    obtain ⟨o,es,ep,h1,h2,_⟩:=p
    exact ⟨_,PySem.W.kitx_dict,⟨o,h1,h2.1⟩,fun z=>nomatch z⟩
  | @dT a kvs ea =>
    cases (show u = Value.ref a from rx)
    obtain ⟨_,_,xs,_,o,es,ep,h1,h2,_⟩:=(show ObjOk X.prog X.w H s.heap a (.dT kvs) from I.hok a _ ea)
    exact ⟨_,PySem.W.kitx_dict,⟨o,h1,h2.1⟩,fun z=>nomatch z⟩
theorem qL {T U : String} (hT : T ∈ tyL) (hU : U ∈ tyL) : CallR X (.builtin "isinstance") (fun xs H Q=>∃ x t p,xs = [x, .ref p] ∧ H p = some (.tup [.ty T, .ty U]) ∧ tyS H x = some t ∧ Q (.bl (isSub t T || isSub t U)) H):=by
  intro pins s σ H xs us Q I r h
  obtain ⟨x,t,p,rfl,hp,ht,q⟩:=h
  obtain ⟨u,w',rfl,ru,rw'⟩:=kR r
  cases (show w' = Value.ref p from rw')
  obtain ⟨φ,Z,hφ,hne⟩:=zKm I ru ht
  obtain ⟨_,its,rv,pl⟩:=(show ObjOk X.prog X.w H s.heap p (.tup [.ty T, .ty U]) from I.hok p _ hp)
  obtain ⟨v1,v2,e,r1,r2⟩:=kR rv
  subst e
  cases (show v1 = Value.type T from r1)
  cases (show v2 = Value.type U from r2)
  obtain ⟨o,ho,hc,n,hd⟩:=pl
  obtain ⟨oc,od,odt,osl⟩:=o
  cases (show oc = Value.type "tuple" from hc)
  cases (show odt = Data.seq _ n from hd)
  refine PySem.W.kia_tup Z I.kIn hφ ho (b:=isSub t T || isSub t U) ?_ hne fun tk=>⟨.bl _,H,I.tok _,rfl,q⟩
  have k1:=zDj (K:=X.K) (zBj ht) hT
  have k2:=zDj (K:=X.K) (zBj ht) hU
  simp only [PySem.W.kitAny,k1,k2]
  cases isSub t T <;> cases isSub t U <;> rfl
theorem zQ {T : String} (hT : T ∈ tyL) : CallR X (.builtin "isinstance") (fun xs H Q=>∃ x t,xs = [x, .ty T] ∧ tyS H x = some t ∧ Q (.bl (isSub t T)) H):=by
  intro pins s σ H xs us Q I r h
  obtain ⟨x,t,rfl,ht,q⟩:=h
  obtain ⟨u,w',rfl,ru,rw'⟩:=kR r
  cases (show w' = Value.type T from rw')
  exact zGr I ru (zHo ht) (zDj (zBj ht) hT) fun tk=>⟨.bl _,H,I.tok _,rfl,q⟩
end
theorem yS : bootBuiltins "len" = some (.builtin "len"):=by decide +kernel
theorem zI : bootBuiltins "isinstance" = some (.builtin "isinstance"):=by decide +kernel
theorem zJa : bootBuiltins "all" = some (.builtin "all"):=by decide +kernel
theorem zJx : bootBuiltins "min" = some (.builtin "min"):=by decide +kernel
theorem uL : bootBuiltins "sorted" = some (.builtin "sorted"):=by decide +kernel
theorem qE : bootBuiltins "int" = some (.type "int"):=by decide +kernel
theorem vL : bootBuiltins "str" = some (.type "str"):=by decide +kernel
theorem jF : bootBuiltins "bool" = some (.type "bool"):=by decide +kernel
theorem yO : bootBuiltins "list" = some (.type "list"):=by decide +kernel
theorem yN : bootBuiltins "dict" = some (.type "dict"):=by decide +kernel
theorem xI : bootBuiltins "tuple" = some (.type "tuple"):=by decide +kernel
structure Bl (mg : Str → Option Value) : Prop where
  len : mg "len" = none
  range : mg "range" = none
  isinstance : mg "isinstance" = none
  all : mg "all" = none
  sum : mg "sum" = none
  int : mg "int" = none
  str : mg "str" = none
  bool : mg "bool" = none
  list : mg "list" = none
  dict : mg "dict" = none
  tuple : mg "tuple" = none
structure Dn (P : Program) (w : World) (K : PySem.W.Frag) (mg : Str → Option Value) (base : Heap) (k : Nat) (x : Str) (ps : List Str) (sp : Sp) : Prop where
  ex : ∃ (f : Addr) (fd : FuncData),FnOk P w K mg base CX0 k f fd ps sp ∧ Binds K fd ps [] ∧ PySem.W.keepIn K (.ref f) = true ∧ mg x = some (.ref f)
section
variable {X : Cx} {k j : Nat} {x : Str} {ps : List Str} {sp : Sp} {e : Expr} {es : List Expr} {t : TA} {p pos : Pos}
theorem zV (D : Dn X.prog X.w X.K X.mg X.base k x ps sp) (hr : Room j X.A) (hj : k ≤ j) (hg : Gl X x) (ha : PA X (e :: es) t) (hdb : (x == ("__debug__" : Str)) = false:=by decide)
    (he : starEach (e :: es) X.env = (false,eval e X.env) :: starEach es X.env:=by rfl) (hpl : (backTo pos (starEach es X.env)).any (·.1) = false:=by rfl) : PE X (.Call (.Name x p) (e :: es) [] pos) (tCall sp [] E0 t):=by
  obtain ⟨f,fd,h1,h2,h3,h4⟩:=D.ex
  exact kK h1 (hr.mono hj) hg h4 h3 h2 .nil zMf ha hdb he hpl
theorem zMw (D : Dn X.prog X.w X.K X.mg X.base k x ps sp) (hr : Room j X.A) (hj : k ≤ j) (hg : Gl X x) (hdb : (x == ("__debug__" : Str)) = false:=by decide) : PE X (.Call (.Name x p) [] [] pos) (tCall sp [] E0 tNil):=by
  obtain ⟨f,fd,h1,h2,h3,h4⟩:=D.ex
  exact zJp h1 (hr.mono hj) hg h4 h3 h2 .nil zMf hdb
end
theorem zEi {α β : Type} {l : List α} {f : α → β → Sem (ForInStep β)} (g : β → α → β) (h : ∀ x ∈ l,∀ c,f x c = pure (.yield (g c x))) : ∀ b : β,forIn l b f = pure (l.foldl g b):=by
  induction l with
  | nil=>intro b; rfl
  | cons a r ih =>
    intro b
    rw [List.forIn_cons,h a List.mem_cons_self]
    show forIn r (g b a) f = _
    rw [ih (fun x hx=>h x (List.mem_cons_of_mem _ hx)) (g b a)]
    rfl
def cloStep (env : Env) (cs : List (Str × Addr)) (x : Str × NameKind) : List (Str × Addr) :=
  if (x.2 == NameKind.free) = true then (match env.cells.lookup x.1 with | some a=>(x.1,a) :: cs | none=>cs) else cs
def clo (env : Env) (names : List (Str × NameKind)) : List (Str × Addr):=names.foldl (cloStep env) []
theorem vY {scope : Scope} {env : Env} (h : ∀ x ∈ scope.names,x.2 = .free → ∃ c,env.cells.lookup x.1 = some c) : closureFor scope env = pure (clo env scope.names):=by
  simp only [closureFor]
  rw [zEi (cloStep env) (fun x hx c=>by
    obtain ⟨n,k⟩:=x
    by_cases hk : k = .free
    · subst hk
      obtain ⟨a,e⟩:=h _ hx rfl
      have e' : env.cells.lookup n = some a:=e
      simp [cloStep,cellOf,e']
    · have e : (k == NameKind.free) = false:=by simpa using hk
      simp [cloStep,e])]
  rfl
theorem zFl {env : Env} : ∀ (names : List (Str × NameKind)) (cs : List (Str × Addr)),(∀ p ∈ cs,env.cells.lookup p.1 = some p.2) → ∀ p ∈ names.foldl (cloStep env) cs,env.cells.lookup p.1 = some p.2
  | [],_,h=>h
  | x :: r,cs,h=>by
    refine zFl r (cloStep env cs x) fun p hp=>?_
    unfold cloStep at hp
    split at hp
    · split at hp
      · rename_i a e
        rcases List.mem_cons.mp hp with z | z
        · rw [z]; exact e
        · exact h p z
      · exact h p hp
    · exact h p hp
theorem zBx {env : Env} {p : Str × Addr} : ∀ (names : List (Str × NameKind)) (cs : List (Str × Addr)),p ∈ cs → p ∈ names.foldl (cloStep env) cs
  | [],_,h=>h
  | x :: r,cs,h=>by
    refine zBx r (cloStep env cs x) ?_
    unfold cloStep
    split
    · split
      · exact List.mem_cons_of_mem _ h
      · exact h
    · exact h
theorem zFi {env : Env} {n : Str} {c : Addr} (e : env.cells.lookup n = some c) : ∀ (names : List (Str × NameKind)) (cs : List (Str × Addr)),(n,NameKind.free) ∈ names → (n,c) ∈ names.foldl (cloStep env) cs
  | [],_,h=>nomatch h
  | x :: r,cs,h=>by
    rcases List.mem_cons.mp h with z | z
    · subst z
      refine zBx r _ ?_
      unfold cloStep
      rw [if_pos (by rfl)]
      show (n,c) ∈ (match env.cells.lookup n with | some a=>(n,a) :: cs | none=>cs)
      rw [e]
      exact List.mem_cons_self
    · exact zFi e r _ z
theorem wR {α : Type} {n : Str} {c : α} : ∀ {l : List (Str × α)},(n,c) ∈ l → ∃ c',l.lookup n = some c'
  | [],h=>nomatch h
  | (m,d) :: r,h=>by
    by_cases e : n = m
    · subst e; exact ⟨d,by simp [List.lookup_cons]⟩
    · rcases List.mem_cons.mp h with z | z
      · cases z; exact absurd rfl e
      · obtain ⟨c',q⟩:=wR z
        have e2 : (n == m) = false:=by simpa using e
        exact ⟨c',by rw [List.lookup_cons,e2]; exact q⟩
theorem zIv {env : Env} {names : List (Str × NameKind)} {n : Str} {c : Addr} (h : (clo env names).lookup n = some c) : env.cells.lookup n = some c :=
  zFl names [] (fun _ z=>nomatch z) (n,c) (PySem.mem_of_lookup h)
theorem kW {env : Env} {names : List (Str × NameKind)} {n : Str} {c : Addr} (e : env.cells.lookup n = some c) (h : (n,NameKind.free) ∈ names) : (clo env names).lookup n = some c:=by
  obtain ⟨c',q⟩:=wR (zFi e names [] h)
  have q' : (clo env names).lookup n = some c':=q
  have z:=zIv q'
  rw [e] at z
  rw [q',← z]
inductive FreeOk (X : Cx) (scope : Scope) : List (Str × Nat) → Prop where
  | nil : FreeOk X scope []
  | cons {x : Str} {i : Nat} {r : List (Str × Nat)} (h1 : X.N[i]? = some x) (h2 : X.env.kindOf x = some .cell) (h3 : scope.names.lookup x = some .free) (h : FreeOk X scope r) : FreeOk X scope ((x,i) :: r)
theorem FreeOk.mem {X : Cx} {scope : Scope} : ∀ {F : List (Str × Nat)},FreeOk X scope F → ∀ p ∈ F,X.N[p.2]? = some p.1 ∧ X.env.kindOf p.1 = some .cell ∧ scope.names.lookup p.1 = some .free
  | _, .nil,_,h=>nomatch h
  | _, .cons h1 h2 h3 h,p,hp=>by
    rcases List.mem_cons.mp hp with z | z
    · subst z; exact ⟨h1,h2,h3⟩
    · exact h.mem p z
structure CompSc (X : Cx) (scope : Scope) (own : List Str) (F : List (Str × Nat)) : Prop where
  kind : scope.kind = .function
  nocell : (scope.names.all fun y=>!(y.2 == NameKind.cell)) = true
  loc : (scope.names.all fun y=>!(y.2 == NameKind.local) || (scope.names.lookup y.1 == some NameKind.local)) = true
  fr : (scope.names.all fun y=>!(y.2 == NameKind.free) || (X.env.scope.names.lookup y.1 == some NameKind.cell)) = true
  free : FreeOk X scope F
def compN (own : List Str) (F : List (Str × Nat)) : List Str:=own ++ F.map (·.1)
def compσ (own : List Str) (F : List (Str × Nat)) (σ : St) : St:=own.map (fun _=>Option.none) ++ F.map (fun p=>(σ[p.2]?).join)
def compCx (X : Cx) (own : List Str) (F : List (Str × Nat)) (scope : Scope) (C : Addr) (s₃ : Shared) (H₃ : Hp) (ex : List Addr) : Cx where
  prog:=X.prog
  w:=X.w
  K:=X.K
  mg:=X.mg
  base:=X.base
  A:=X.A
  N:=compN own F
  s₀:=s₃
  H₀:=H₃
  env:=compEnvC scope (clo X.env scope.names) C X.env
  outer:=X.stack
  stack:=X.stack
  ex:=ex
  fn:=fun _=>false
  calm:=X.calm
  pn:=[]
  xe:=fun _ _=>False
theorem CompSc.nc {X : Cx} {scope : Scope} {own : List Str} {F : List (Str × Nat)} (S : CompSc X scope own F) : ∀ y ∈ scope.names,y.2 ≠ .cell:=fun y hy e=>by
  have q:=List.all_eq_true.mp S.nocell y hy
  rw [e] at q
  exact absurd q (by decide)
theorem CompSc.lc {X : Cx} {scope : Scope} {own : List Str} {F : List (Str × Nat)} (S : CompSc X scope own F) : ∀ y ∈ scope.names,y.2 = .local → scope.names.lookup y.1 = some .local:=fun y hy e=>by
  have q:=List.all_eq_true.mp S.loc y hy
  rw [e] at q
  simpa using q
theorem CompSc.fc {X : Cx} {scope : Scope} {own : List Str} {F : List (Str × Nat)} (S : CompSc X scope own F) : ∀ y ∈ scope.names,y.2 = .free → X.env.kindOf y.1 = some .cell:=fun y hy e=>by
  have q:=List.all_eq_true.mp S.fr y hy
  rw [e] at q
  have q' : X.env.scope.names.lookup y.1 = some NameKind.cell:=by simpa using q
  exact q'
theorem zAy {scope : Scope} {env : Env} (hc : ∀ y ∈ scope.names,y.2 ≠ .cell) {x : Str} (h : (relabel scope env).names.lookup x = some .cell ∨ (relabel scope env).names.lookup x = some .free) : (x,NameKind.free) ∈ scope.names:=by
  have go : ∀ k,(relabel scope env).names.lookup x = some k → k = .cell ∨ k = .free → (x,NameKind.free) ∈ scope.names:=fun k e hk=>by
    have m:=PySem.mem_of_lookup e
    unfold relabel at m
    obtain ⟨⟨n,k0⟩,hm,e2⟩:=List.mem_map.mp m
    by_cases hf : k0 = .free
    · subst hf
      dsimp only at e2
      split at e2 <;> (cases e2; exact hm)
    · have e3 : (k0 == NameKind.free) = false:=by simpa using hf
      simp only [e3,Bool.false_and,Bool.false_eq_true,if_false] at e2
      cases e2
      rcases hk with z | z
      · exact absurd z (hc _ hm)
      · exact absurd z hf
  rcases h with h | h
  · exact go _ h (.inl rfl)
  · exact go _ h (.inr rfl)
theorem wI {env : Env} (hf : env.scope.kind = .function) : ∀ {names : List (Str × NameKind)} {x : Str},names.lookup x = some .free → env.kindOf x = some .cell →
    (names.map fun (n,k)=>if (k == NameKind.free && env.scope.kind == .function && env.kindOf n == some .cell) then (n,NameKind.cell) else (n,k)).lookup x = some .cell
  | [],_,h,_=>by simp at h
  | (n,k) :: r,x,h,hx=>by
    have ih:=@wI env hf r x
    rw [List.map_cons]
    by_cases e : x = n
    · subst e
      have hk : k = .free:=by simpa [List.lookup_cons] using h
      subst hk
      have c : (NameKind.free == NameKind.free && env.scope.kind == .function && env.kindOf x == some .cell) = true:=by rw [hf,hx]; rfl
      show List.lookup x ((if (NameKind.free == NameKind.free && env.scope.kind == .function && env.kindOf x == some .cell) = true then (x,NameKind.cell) else (x,NameKind.free)) :: _) = _
      rw [if_pos c]
      simp [List.lookup_cons]
    · have e2 : (x == n) = false:=by simpa using e
      have h' : r.lookup x = some .free:=by rw [List.lookup_cons,e2] at h; exact h
      have q:=ih h' hx
      dsimp only
      split
      · rw [List.lookup_cons,e2]; exact q
      · rw [List.lookup_cons,e2]; exact q
section
variable {X : Cx} {pins : List (Addr × Obj)} {σ : St} {H : Hp} {s : Shared}
theorem Inv.freeCells {scope : Scope} {own : List Str} {F : List (Str × Nat)} (I : Inv X pins σ H s) (S : CompSc X scope own F) : ∀ x ∈ scope.names,x.2 = .free → ∃ c,X.env.cells.lookup x.1 = some c:=fun x hx e =>
  I.ok.has x.1 (.inl (S.fc x hx e))
theorem Inv.notStk (I : Inv X pins σ H s) {b : Addr} (h1 : b ≠ X.env.locals) (h2 : b ∉ X.fs) : b ∉ frs X.stack:=fun z=>(List.mem_cons.mp (I.stkSub b z)).elim h1 h2
theorem zDw {scope : Scope} {own : List Str} {F : List (Str × Nat)} {fp : List Addr} {h1 : Heap} {tk : Nat} (I : Inv X pins σ H s) (S : CompSc X scope own F) (hf : ∀ b ∈ fp,FpOk X pins H b) (hlt : ∀ b ∈ fp,b < s.heap.objs.size) {s3 : Shared}
    (e3 : s3 = { s with heap:=s.heap.push { cls:=.type "list",data:=.seq ([] : List Value).toArray } })
    (hns : h1.Ns s3.heap.objs.size (fun _=>none)) (hk : ∀ b o,s3.heap.get? b = some o → h1.get? b = some o) :
    Inv (compCx X own F scope s3.heap.objs.size s3 H (s.heap.objs.size :: fp)) [] (compσ own F σ) H { s3 with heap:=h1,toks:=tk }:=by
  have sz3 : s3.heap.objs.size = s.heap.objs.size + 1:=by rw [e3]; exact Heap.size_push ..
  have k3 : ∀ b o,s.heap.get? b = some o → s3.heap.get? b = some o:=fun b o e=>by rw [e3]; exact Heap.get?_push_of_some _ e
  have I3 : Inv X pins σ H s3:=by rw [e3]; exact I.kept (t':=s.toks) fun b o e=>Heap.get?_push_of_some _ e
  have lkup : ∀ x c,(clo X.env scope.names).lookup x = some c → X.env.cells.lookup x = some c:=fun x c e=>zIv e
  have base_lt : ∀ b o,X.base.get? b = some o → b < X.s₀.heap.objs.size:=fun b o e=>Nat.lt_of_lt_of_le (Heap.lt_size e) I.ok.bsz
  have kf : X.env.scope.kind = .function:=I.ok.kind
  refine ⟨⟨I.ok.mod,S.kind,I.ok.glob,I.ok.blt,Nat.le_refl _,fun x y c h1 h2=>I.ok.inj x y c (lkup x c h1) (lkup y c h2),fun x hx=>?_,fun x c hx _=>(nomatch hx),I.ok.hd,I.ok.frames, .inl rfl,fun b hb=>?_,fun b o e=>?_, ?_,fun b o e hb=>?_,fun b hb=>?_,I3.stack,fun b hb=>I.stkFree b hb⟩,
    rfl,I3.bare,Un.kept hk,⟨_,hns,fun i x v e1 e2 e3'=>?_⟩,fun x c e=>?_, ?_,fun x c e=>I.freeC x c (lkup x c e),fun p hp=>absurd (show p ∈ ([] : List (Addr × Obj)) from hp) (by simp),I3.hok.kept hk, ?_⟩
  · have hm:=zAy S.nc hx
    obtain ⟨c,e⟩:=I.freeCells S _ hm rfl
    exact ⟨c,kW e hm⟩
  · rcases List.mem_cons.mp hb with z | z
    · subst z
      refine ⟨fun q=>?_,fun x c e q=>?_⟩
      · have q' : s.heap.objs.size = s3.heap.objs.size:=q
        omega
      · obtain ⟨v,u⟩:=I.cell x c (lkup x c e)
        exact absurd u.lt (by rw [q]; exact Nat.lt_irrefl _)
    · refine ⟨fun q=>?_,fun x c e=>(hf b z).2.2.2.2.1 x c (lkup x c e)⟩
      exact Nat.ne_of_lt (Nat.lt_of_lt_of_le (hlt b z) (show s.heap.objs.size ≤ s3.heap.objs.size by omega)) q
  · obtain ⟨a1,a2⟩:=I.bs b o e
    exact ⟨k3 b o a1,a2⟩
  · exact Nat.le_trans (Nat.le_trans I.ok.bsz I.sz) (by show s.heap.objs.size ≤ s3.heap.objs.size; omega)
  · have l1:=base_lt b o e
    rcases List.mem_cons.mp hb with z | z
    · exact absurd (Nat.lt_of_lt_of_le l1 I.sz) (by rw [z]; exact Nat.lt_irrefl _)
    · rcases (hf b z).2.2.2.1 with q | q
      · exact I.ok.noex b o e q
      · exact absurd l1 (Nat.not_lt.mpr q)
  · rcases List.mem_cons.mp hb with z | z
    · subst z
      exact I.notStk (Nat.ne_of_gt I.lt) (I.nofs (Nat.le_refl _))
    · exact I.notStk (hf b z).2.1 (hf b z).2.2.1
  · -- a name that is seen
    have hi : own.length ≤ i:=by
      by_cases z : i < own.length
      · rw [compσ,List.getElem?_append_left (by simpa using z),List.getElem?_map] at e2
        cases q : own[i]? with
        | none=>rw [q] at e2; cases e2
        | some y=>rw [q] at e2; cases e2
      · omega
    rw [compσ,List.getElem?_append_right (by simpa using hi),List.getElem?_map] at e2
    have e1' : (own ++ F.map (·.1))[i]? = some x:=e1
    rw [List.getElem?_append_right hi,List.getElem?_map] at e1'
    simp only [List.length_map] at e2
    cases q : F[i - own.length]? with
    | none=>rw [q] at e2; cases e2
    | some p =>
      rw [q] at e1' e2
      simp only [Option.map_some,Option.some.injEq] at e1' e2
      obtain ⟨f1,f2,f3⟩:=S.free.mem p (List.mem_of_getElem? q)
      subst e1'
      obtain ⟨m,hn,hl⟩:=I.loc
      have e4 : σ[p.2]? = some (some v):=by
        cases r : σ[p.2]? with
        | none=>rw [r] at e2; cases e2
        | some o=>rw [r] at e2; exact congrArg some e2
      obtain ⟨u,ru,l⟩:=hl p.2 p.1 v f1 e4 (.inr (.inl f2))
      refine ⟨u,ru, .inr ⟨.inl (wI kf f3 f2), ?_⟩⟩
      rcases l with ⟨l,_⟩ | ⟨_,c,ec,z⟩
      · rw [f2] at l; cases l
      · refine ⟨c,kW ec (PySem.mem_of_lookup f3), ?_⟩
        obtain ⟨oc,ho,hd⟩:=z
        exact ⟨oc,hk _ _ (k3 _ _ ho),hd⟩
  · obtain ⟨v,oc,ho,hd⟩:=I.cell x c (lkup x c e)
    exact ⟨v,oc,hk _ _ (k3 _ _ ho),hd⟩
  · exact I.hok.fresh (by show s.heap.objs.size ≤ s3.heap.objs.size; omega)
  · show (compσ own F σ).length = (compN own F).length
    simp [compσ,compN]
theorem zHm {scope : Scope} {own : List Str} {F : List (Str × Nat)} {fp : List Addr} {s3 s4 : Shared} {σ' : St} {H' : Hp} {ys : List V} {its : List Value} {n : Nat} (I : Inv X pins σ H s) (hf : ∀ b ∈ fp,FpOk X pins H b)
    (e3 : s3 = { s with heap:=s.heap.push { cls:=.type "list",data:=.seq ([] : List Value).toArray } })
    (J : Inv (compCx X own F scope s3.heap.objs.size s3 H (s.heap.objs.size :: fp)) [] σ' H' s4) (hz : ys.length ≤ sizeLine) (hv : Vals ys its)
    (ha : s4.heap.get? s.heap.objs.size = some { cls:=.type "list",data:=.seq its.toArray n }) (hn : H' s.heap.objs.size = none) : Inv X pins σ (upd H' s.heap.objs.size (.lst ys)) s4:=by
  have sz3 : s3.heap.objs.size = s.heap.objs.size + 1:=by rw [e3]; exact Heap.size_push ..
  have k3 : ∀ b o,s.heap.get? b = some o → s3.heap.get? b = some o:=fun b o e=>by rw [e3]; exact Heap.get?_push_of_some _ e
  have U : Un (frs X.stack) (s.heap.objs.size :: fp) H H' s3.heap s4.heap:=J.base
  have ne : ∀ b o,s.heap.get? b = some o → b ≠ s.heap.objs.size:=fun b o e=>Nat.ne_of_lt (Heap.lt_size e)
  have nx : ∀ b o,s.heap.get? b = some o → b ∉ fp → b ∉ s.heap.objs.size :: fp:=fun b o e h z=>(List.mem_cons.mp z).elim (ne b o e) h
  have os4 : s4.os = s.os:=by
    have q : s4.os = s3.os:=J.os
    rw [q,e3]
  refine I.call' (ch:=fp) os4 ⟨fun b o e z hb hx=>U.keep b o (k3 b o e) z hb (nx b o e hx),fun b o e z hb hx=>U.slot b o (k3 b o e) z hb (nx b o e hx),fun b o e z hx=>?_,fun b o e hx=>U.there b o (k3 b o e) (nx b o e hx),fun b xs e=>?_,fun b o u e=>?_,fun b ps e=>?_⟩ (fun b u e=>?_) J.bare fun b hb=>?_
  · rw [zM (ne b o e)]
    exact U.free b o (k3 b o e) z (nx b o e hx)
  · have q:=U.tups b xs e
    rw [zM (zY q hn)]; exact q
  · have q:=U.frzs b o u e
    rw [zM (zY q hn)]; exact q
  · obtain ⟨more,q⟩:=U.tbls b ps e
    exact ⟨more,by rw [zM (zY q hn)]; exact q⟩
  · by_cases hb : b = s.heap.objs.size
    · subst hb
      rw [zC] at e
      cases e
      exact ⟨hz,its,n,hv,ha⟩
    · rw [zM hb] at e
      exact (J.hok b u e).stay (fun _ _ _ q=>q) (fun c q=>by rw [zM (zY q hn)]; exact q) fun c xs q=>by rw [zM (zY q hn)]; exact q
  · obtain ⟨_,f1,_,f3,f4,f5⟩:=hf b hb
    exact ⟨f3,f1,f4,f5⟩
theorem uB {H' : Hp} {s4 : Shared} {C : Addr} {h' : Heap} {σ4 : St} (I : Inv X pins σ H s) (hC : s.heap.objs.size ≤ C) (I4 : Inv X pins σ4 H' s4) (hn : H' C = none) (hs : Heap.SameBut C s4.heap h') : Inv X pins σ4 H' { s4 with heap:=h' }:=by
  have q:=I4.turned (it:=C) (t':=s4.toks) (h':=h') (fun b o hb e=>(hs.2 b hb).trans e) hn (Nat.ne_of_gt (Nat.lt_of_lt_of_le I.lt hC)) (.inr (Nat.le_trans I.sz hC)) (fun x c e z=>?_) (fun p hp z=>?_)
  · exact q
  · obtain ⟨v,u⟩:=I.cell x c e
    exact absurd (Nat.lt_of_lt_of_le u.lt (by rw [z]; exact hC)) (Nat.lt_irrefl _)
  · exact absurd (Nat.lt_of_lt_of_le (Heap.lt_size (I.pin p hp).1) (by rw [z]; exact hC)) (Nat.lt_irrefl _)
end
def PTs (X : Cx) (ifs : List Expr) (t : TT) : Prop :=
  ∀ (pins : List (Addr × Obj)) (s : Shared) (σ : St) (H : Hp) (Q : Bool → Hp → Prop),Inv X pins σ H s → t σ H Q →
    wpAny (model X.prog X.w) X.A (forIn ifs true fun c r=>if r = true then do let ok ← isTrue c X.env (eval c X.env); pure (ForInStep.yield ok) else pure (ForInStep.yield r)) (TP X pins σ Q) X.xe s
def tTrue : TT:=fun _ H Q=>Q true H
theorem yR {X : Cx} : PTs X [] tTrue:=fun _ _ _ H _ I h=>wpAny_tests_nil ⟨H,I,h⟩
theorem zLr {X : Cx} {c : Expr} {t : TT} (h : PT X c t) : PTs X [c] t:=fun pins s σ H Q I q=>wpAny_tests_one (h pins s σ H Q I q)
theorem zCr {prog : Program} {w : World} {A : Around} {R : Result → Shared → Prop} {s : Shared} {elt target iter : Expr} {ifs : List Expr} {scope : Scope} {pos : Pos} {it acc : Value} {env : Env} (I : Nat → Shared → Prop)
    (turn : ∀ n s,I n s → wpAny (model prog w) A (pyNext it) (fun r s₁=>match r with
      | none=>R (.ok .next) s₁
      | some v=>wpAny (model prog w) A (letOwnedTupleGo target it v) (fun _ s₂=>wpAny (model prog w) A (assign target env v) (fun _ s₃ =>
          wpAny (model prog w) A (forIn ifs true fun c r=>if r = true then do let ok ← isTrue c env (eval c env); pure (ForInStep.yield ok) else pure (ForInStep.yield r)) (fun ok s₄ =>
            if ok = true then wpAny (model prog w) A (eval elt env) (fun x s₅ =>
              wpAny (model prog w) A (call (.builtin "list.append") [acc,x]) (fun _ s₆=>∃ m,m < n ∧ I m s₆) (fun _ _=>False) s₅) (fun _ _=>False) s₄
            else ∃ m,m < n ∧ I m s₄) (fun _ _=>False) s₃) (fun _ _=>False) s₂) (fun _ _=>False) s₁) (fun _ _=>False) s)
    (n : Nat) (h : I n s) : codeAny (model prog w) A (.compLoop (.ListComp elt [⟨target,iter,ifs,0⟩] scope pos) 0 it acc env) R s:=by
  refine codeAny_loop rfl I (fun n s hI=>?_) n h
  show wpAny _ A ((compTurn (.ListComp elt [⟨target,iter,ifs,0⟩] scope pos) 0 it acc env).onRaise (fun x=>do noteFrame x env; theTreesLotGoes x)) _ _ s
  refine wpAny_noted ?_
  rw [compTurn_list]
  refine wpAny_bind (wpAny_standAt (wpAny_bind (wpAny_mono (turn n s hI) (fun r s₁ h₁=>?_) fun _ _ f=>f.elim)))
  cases r with
  | none=>exact wpAny_pure h₁
  | some v =>
    refine wpAny_bind (wpAny_mono h₁ (fun _ s₂ h₂=>wpAny_bind (wpAny_mono h₂ (fun _ s₃ h₃=>wpAny_bind (wpAny_mono h₃ (fun ok s₄ h₄=>?_) fun _ _ f=>f.elim)) fun _ _ f=>f.elim)) fun _ _ f=>f.elim)
    cases ok with
    | false=>exact wpAny_pure ⟨rfl,h₄⟩
    | true=>exact wpAny_bind (wpAny_bind (wpAny_mono h₄ (fun x s₅ h₅=>wpAny_bind (wpAny_mono h₅ (fun _ s₆ h₆=>wpAny_pure (wpAny_pure ⟨rfl,h₆⟩)) fun _ _ f=>f.elim)) fun _ _ f=>f.elim))
def Weak (σ σ' : St) : Prop:=σ'.length = σ.length ∧ ∀ (i : Nat) v,σ'[i]? = some (some v) → σ[i]? = some (some v)
theorem zHs {σ : St} {i : Nat} {v : Option V} (h : σ[i]? = some none) : Weak (σ.set i v) σ:=by
  refine ⟨by simp,fun j u e=>?_⟩
  by_cases hj : i = j
  · subst hj; rw [h] at e; cases e
  · rw [List.getElem?_set_ne hj]; exact e
def CompBody (own : List Str) (F : List (Str × Nat)) (g : TG) (tt : TT) (te : TE) (σ : St) (Q : VK) (J : It) (H1 : Hp) : Prop:=∃ W : Nat → Nat → List V → Hp → Prop,(∃ m,W 0 m [] H1) ∧ ∀ i m ys H',W i m ys H' → ys.length ≤ i →
  (J.stop i H' ∧ i ≤ sizeLine ∧ ∀ p,H' p = none → Q (.ref p) (upd H' p (.lst ys))) ∨
  (J.go i H' ∧ i < sizeLine ∧ ∃ N : List V → Hp → Prop,(∀ ys' H'',N ys' H'' → ∃ m',m' < m ∧ W (i + 1) m' ys' H'') ∧
    ∀ x H2,J.yld i H' x H2 → g x (compσ own F σ) H2 fun σ3 H3=>Weak σ3 (compσ own F σ) ∧ tt σ3 H3 fun b H4=>if b = true then te σ3 H4 fun y H5=>N (ys ++ [y]) H5 else N ys H4)
def tComp (own : List Str) (F : List (Str × Nat)) (wi : TI) (g : TG) (tt : TT) (te : TE) : TE:=fun σ H Q=>wi σ H fun J H1=>CompBody own F g tt te σ Q J H1
section
variable {X : Cx} {scope : Scope} {own : List Str} {F : List (Str × Nat)} {elt tg iter : Expr} {ifs : List Expr} {pos : Pos} {wi : TI} {g : TG} {tt : TT} {te : TE}
abbrev pushed (s : Shared) : Shared:={ s with heap:=s.heap.push { cls:=.type "list",data:=.seq ([] : List Value).toArray } }
theorem zDg {pins : List (Addr × Obj)} {σ : St} {H : Hp} {s : Shared} {Q : VK} {RR : Addr → Result → Shared → Prop} {it : Addr} {fp : List Addr} {tn : Nat → Heap → Prop} {J : It} (S : CompSc X scope own F) (hc : X.calm = true)
    (hg : ∀ C s₃ H₃ ex,PG (compCx X own F scope C s₃ H₃ ex) tg g) (ht : ∀ C s₃ H₃ ex,PTs (compCx X own F scope C s₃ H₃ ex) ifs tt) (he : ∀ C s₃ H₃ ex,PE (compCx X own F scope C s₃ H₃ ex) elt te)
    (I : Inv X pins σ H s) (T : Turn X.prog X.w X.K tg J fp it tn) (st : tn 0 s.heap) (hf : ∀ b ∈ fp,FpOk X pins H b)
    (h : CompBody own F g tt te σ Q J H)
    (hR : ∀ C s4 H4,s.heap.objs.size ≤ C → C ≠ s.heap.objs.size → Inv X pins σ H4 s4 → Q (.ref s.heap.objs.size) H4 → H4 C = none → (∃ m,s4.heap.Ns C m) → RR C (.ok .next) s4) :
    wpAny (model X.prog X.w) X.A (newList []) (fun acc s₃=>wpAny (model X.prog X.w) X.A (newFunctionEnv scope X.env.globals (clo X.env scope.names) [] X.env.qual none .none (some X.env)) (fun cenv s₄ =>
      codeAny (model X.prog X.w) X.A (.compStart (.ListComp elt [⟨tg,iter,ifs,0⟩] scope pos) 0 (.ref it) acc { cenv with scope:=relabel scope X.env }) (fun r s'=>acc = .ref s.heap.objs.size ∧ RR cenv.locals r s') s₄) X.xe s₃) X.xe s:=by
  obtain ⟨W,⟨m0,w0⟩,turn⟩:=h
  have hlt : ∀ b ∈ fp,b < s.heap.objs.size:=fun b hb=>by
    obtain ⟨o,e,_⟩:=T.obj _ _ st b hb
    exact Heap.lt_size e
  refine wpAny_newObj_type (wpAny_newFunctionEnv S.nc (by intro y hy; simp at hy) (fun h₁ hns₁ hsb₁=>?_) S.kind)
  dsimp only at hns₁ hsb₁ ⊢
  have e3' : pushed s = { s with heap:=s.heap.push { cls:=.type "list",data:=.seq ([] : List Value).toArray } }:=rfl
  have sz3 : (pushed s).heap.objs.size = s.heap.objs.size + 1:=Heap.size_push ..
  have k3 : ∀ b o,(pushed s).heap.get? b = some o → h₁.get? b = some o:=fun b o e=>hsb₁.extBut b o (Nat.ne_of_lt (Heap.lt_size e)) (Heap.get?_push_of_some _ e)
  have k2 : ∀ b o,s.heap.get? b = some o → (pushed s).heap.get? b = some o:=fun b o e=>Heap.get?_push_of_some _ e
  have hns : h₁.Ns (pushed s).heap.objs.size (fun _=>none):=by simpa using hns₁
  have I0 : Inv (compCx X own F scope (pushed s).heap.objs.size (pushed s) H (s.heap.objs.size :: fp)) [] (compσ own F σ) H { pushed s with heap:=h₁,toks:=(pushed s).toks + ([] : List (Str × Value)).length }:=zDw I S hf hlt e3' hns k3
  have acc0 : h₁.get? s.heap.objs.size = some { cls:=.type "list",data:=.seq ([] : List Value).toArray 0 }:=k3 _ _ (Heap.get?_push_size _ rfl)
  have ht0 : tn 0 h₁:=T.keep _ _ _ st fun b _ o e=>k3 b o (k2 b o e)
  have loop : codeAny (model X.prog X.w) X.A (.compLoop (.ListComp elt [⟨tg,iter,ifs,0⟩] scope pos) 0 (.ref it) (.ref s.heap.objs.size) (compEnvC scope (clo X.env scope.names) (pushed s).heap.objs.size X.env)) (RR (pushed s).heap.objs.size) { pushed s with heap:=h₁,toks:=(pushed s).toks + ([] : List (Str × Value)).length }:=by
    refine zCr (fun n s'=>∃ i ys H' its k,Inv (compCx X own F scope (pushed s).heap.objs.size (pushed s) H (s.heap.objs.size :: fp)) [] (compσ own F σ) H' s' ∧ tn i s'.heap ∧ (∀ b ∈ fp,H' b = none) ∧ H' s.heap.objs.size = none ∧
      Vals ys its ∧ s'.heap.get? s.heap.objs.size = some { cls:=.type "list",data:=.seq its.toArray k } ∧ ys.length ≤ i ∧ W i n ys H') ?_ m0 ⟨0,[],H,[],0,I0,ht0,fun b hb=>(hf b hb).1,I.hok.fresh (Nat.le_refl _), .nil,acc0,Nat.le_refl _,w0⟩
    rintro n s5 ⟨i,ys,H5,its,k,I5,t5,fr5,ha5,v5,o5,l5,w5⟩
    have pn5 : Inv (compCx X own F scope (pushed s).heap.objs.size (pushed s) H (s.heap.objs.size :: fp)) [(s.heap.objs.size,{ cls:=.type "list",data:=.seq its.toArray k })] (compσ own F σ) H5 s5:=I5.pins_of fun p hp=>by
      have z : p = (s.heap.objs.size,{ cls:=.type "list",data:=.seq its.toArray k }):=by simpa using hp
      subst z
      obtain ⟨x1,x2⟩:=I0.ok.exf s.heap.objs.size List.mem_cons_self
      exact ⟨o5,ha5,x1,I0.ok.exfs _ List.mem_cons_self,fun v z=>by cases z⟩
    have fp5 : ∀ {H' : Hp},(∀ b ∈ fp,H' b = none) → ∀ b ∈ fp,FpOk (compCx X own F scope (pushed s).heap.objs.size (pushed s) H (s.heap.objs.size :: fp)) [(s.heap.objs.size,{ cls:=.type "list",data:=.seq its.toArray k })] H' b:=fun {H'} hn b hb=>by
      obtain ⟨x1,x2⟩:=I0.ok.exf b (List.mem_cons_of_mem _ hb)
      refine ⟨hn b hb,x1,I0.ok.exfs b (List.mem_cons_of_mem _ hb), .inl (List.mem_cons_of_mem _ hb),x2,fun p hp=>?_⟩
      have z : p = (s.heap.objs.size,{ cls:=.type "list",data:=.seq its.toArray k }):=by
        have hp' : p ∈ ([] : List (Addr × Obj)) ++ [(s.heap.objs.size,{ cls:=.type "list",data:=.seq its.toArray k })]:=hp
        simpa using hp'
      subst z
      exact Nat.ne_of_gt (hlt b hb)
    rcases turn i n ys H5 w5 l5 with ⟨stop,hz,q⟩ | ⟨go,hz,N,hN,step⟩
    · refine thn (T.done (compCx X own F scope (pushed s).heap.objs.size (pushed s) H (s.heap.objs.size :: fp)) rfl rfl rfl hc i _ s5 _ H5 (fun _ _=>False) pn5 (fp5 fr5) t5 stop) fun r s6 ⟨hr,I6⟩=>?_
      subst hr
      obtain ⟨a6,b6,_⟩:=I6.pin (s.heap.objs.size,{ cls:=.type "list",data:=.seq its.toArray k }) (List.mem_append_right _ (List.mem_singleton.mpr rfl))
      have J6:=I6.pins_of (pins':=[]) (fun p hp=>nomatch hp)
      have I7:=zHm I hf e3' J6 (Nat.le_trans l5 hz) v5 a6 b6
      have hC : H5 (pushed s).heap.objs.size = none:=J6.free
      refine hR _ s6 _ (show s.heap.objs.size ≤ (pushed s).heap.objs.size by omega) (fun z=>by have z' : (pushed s).heap.objs.size = s.heap.objs.size:=z; omega) I7 (q _ b6) (by rw [zM (fun z=>by have z' : (pushed s).heap.objs.size = s.heap.objs.size:=z; omega)]; exact hC) ?_
      obtain ⟨m,hn,_⟩:=J6.loc
      exact ⟨m,hn⟩
    · refine thn (T.item (compCx X own F scope (pushed s).heap.objs.size (pushed s) H (s.heap.objs.size :: fp)) rfl rfl rfl hc i _ s5 _ H5 (fun _ _=>False) pn5 (fp5 fr5) t5 go) fun r s6 ⟨u,hr,h6⟩=>?_
      subst hr
      refine thn h6 fun _ s7 ⟨x,H7,I7,r7,y7,t7,fr7⟩=>?_
      have J7:=I7.pinned (fp5 fr7) (T.obj _ _ t7)
      refine thn (hg _ _ _ _ _ s7 _ H7 x u _ J7 r7 (step x H7 y7)) fun _ s8 ⟨σ8,H8,I8,wk,q8⟩=>?_
      refine thn (ht _ _ _ _ _ s8 σ8 H8 _ I8 q8) fun ok s9 ⟨H9,I9,q9⟩=>?_
      have keep : ∀ {σ' : St} {H' : Hp} {s' : Shared},Inv (compCx X own F scope (pushed s).heap.objs.size (pushed s) H (s.heap.objs.size :: fp)) ([(s.heap.objs.size,{ cls:=.type "list",data:=.seq its.toArray k })] ++ pinsAt fp s7.heap) σ' H' s' →
          tn (i + 1) s'.heap ∧ (∀ b ∈ fp,H' b = none) ∧ H' s.heap.objs.size = none ∧ s'.heap.get? s.heap.objs.size = some { cls:=.type "list",data:=.seq its.toArray k }:=fun {σ' H' s'} J=>by
        have pa:=J.pin (s.heap.objs.size,{ cls:=.type "list",data:=.seq its.toArray k }) (List.mem_append_right _ (List.mem_append_left _ (List.mem_singleton.mpr rfl)))
        refine ⟨T.keep _ _ _ t7 fun b hb o e=>(J.pin (b,o) (List.mem_append_right _ (List.mem_append_right _ (vP hb e)))).1,fun b hb=>?_,pa.2.1,pa.1⟩
        obtain ⟨o,e,d⟩:=T.obj _ _ t7 b hb
        exact (J.pin (b,o) (List.mem_append_right _ (List.mem_append_right _ (vP hb e)))).2.1
      cases ok with
      | false =>
        rw [if_neg Bool.false_ne_true] at q9 ⊢
        obtain ⟨m',hm,w9⟩:=hN _ _ q9
        obtain ⟨a1,a2,a3,a4⟩:=keep I9
        exact ⟨m',hm,i + 1,ys,H9,its,k,(I9.pins_of (pins':=[]) (fun p hp=>nomatch hp)).weak wk.1 wk.2,a1,a2,a3,v5,a4,Nat.le_succ_of_le l5,w9⟩
      | true =>
        rw [if_pos rfl] at q9 ⊢
        refine thn (he _ _ _ _ _ s9 σ8 H9 _ I9 q9) fun u' s10 ⟨y,H10,I10,r10,q10⟩=>?_
        obtain ⟨m',hm,w10⟩:=hN _ _ q10
        obtain ⟨a1,a2,a3,a4⟩:=keep I10
        have hl:=v5.length
        refine call_meets PySem.F.slot_list_append ⟨_,a4,rfl⟩ PySem.F.entry_list_append (PySem.F.args_list_append_2 _ _) (PySem.list_append s.heap.objs.size its.toArray k u' (by rw [List.size_toArray]; omega)) ⟨a4, ?_⟩
        have q:=PySem.IsL.update a4 (fun xs : Array Value=>xs.push u')
        have eq : its.toArray.push u' = (its ++ [u']).toArray:=by simp
        rw [eq] at q
        obtain ⟨x1,x2⟩:=I0.ok.exf s.heap.objs.size List.mem_cons_self
        have I11:=(I10.pins_of (pins':=[]) (fun p hp=>nomatch hp)).turned (it:=s.heap.objs.size) (t':=s10.toks) (h':=s10.heap.update s.heap.objs.size (Obj.mapSeq (fun xs : Array Value=>xs.push u'))) (fun b o hb e=>(Heap.get?_update_other s10.heap _ (Ne.symm hb)).trans e) a3 x1 (.inl List.mem_cons_self) x2 (fun p hp=>absurd (show p ∈ ([] : List (Addr × Obj)) from hp) (by simp))
        refine ⟨m',hm,i + 1,ys ++ [y],H10,its ++ [u'],_,I11.weak wk.1 wk.2, ?_,a2,a3,v5.append (.cons r10 .nil),q,by rw [List.length_append,List.length_singleton]; omega,w10⟩
        exact T.keep _ _ _ a1 fun b hb o e=>(Heap.get?_update_other s10.heap _ (Nat.ne_of_gt (hlt b hb))).trans e
  have loop':=codeAny_mono loop (R':=fun r s'=>Value.ref s.heap.objs.size = .ref s.heap.objs.size ∧ RR (pushed s).heap.objs.size r s') fun r s' z=>⟨rfl,z⟩
  exact codeAny_compStart_list loop' (T.self X.A 0 _ _ _ ht0 loop')
theorem yW (S : CompSc X scope own F) (hc : X.calm = true) (hi : PI X tg iter wi)
    (hg : ∀ C s₃ H₃ ex,PG (compCx X own F scope C s₃ H₃ ex) tg g) (ht : ∀ C s₃ H₃ ex,PTs (compCx X own F scope C s₃ H₃ ex) ifs tt) (he : ∀ C s₃ H₃ ex,PE (compCx X own F scope C s₃ H₃ ex) elt te)
    (hs : ∀ x,foldedSetIterable iter X.env x = pure x:=by intro _; rfl) : PE X (.ListComp elt [⟨tg,iter,ifs,0⟩] scope pos) (tComp own F wi g tt te):=by
  intro pins s σ H Q I h
  rw [eval_ListComp]
  refine wpAny_comprehension_free (use:=none) rfl hs (vY (I.freeCells S)) S.kind S.lc ?_
  refine thn (hi pins s σ H _ I h) fun v s1 h1=>thn h1 fun itv s2 ⟨it,fp,tn,J,H2,e,I2,T,st2,f2,q2⟩=>?_
  subst e
  refine thn (zDg (Q:=Q) (RR:=fun C r s'=>compPost (model X.prog X.w) X.A X.xe none (EP X pins σ Q) (.ref s2.heap.objs.size) C r s') S hc hg ht he I2 T st2 f2 q2 fun C s4 H4 c1 c2 I4 q4 n4 hm=>?_) fun acc s3 h3=>thn h3 fun cenv s4 h4=>codeAny_mono h4 fun r s' ⟨ea,hr⟩=>?_
  · obtain ⟨m,hn⟩:=hm
    exact ⟨m,hn,fun h' hs'=>⟨.ref s2.heap.objs.size,H4,uB I2 c1 I4 n4 hs',rfl,q4⟩⟩
  · rw [ea]; exact hr
theorem zEt {i : Nat} {x : Str} {pos' spos : Pos} (hN : X.N.Nodup) (hi' : X.N[i]? = some x) (hx : Loc X.env.scope x) (S : CompSc X scope own F) (hc : X.calm = true) (hi : PI X tg iter wi)
    (hg : ∀ C s₃ H₃ ex,PG (compCx X own F scope C s₃ H₃ ex) tg g) (ht : ∀ C s₃ H₃ ex,PTs (compCx X own F scope C s₃ H₃ ex) ifs tt) (he : ∀ C s₃ H₃ ex,PE (compCx X own F scope C s₃ H₃ ex) elt te)
    (hsw : swapsWith (.ListComp elt [⟨tg,iter,ifs,0⟩] scope pos) (some (.Name x pos')) spos.line X.env = pure true:=by rfl)
    (hs : ∀ x,foldedSetIterable iter X.env x = pure x:=by intro _; rfl) (hf : X.fn x = true ∨ X.env.scope.names.lookup x = some .local:=by first | exact .inl rfl | exact .inr rfl | assumption) :
    PS X (.Assign [.Name x pos'] (.ListComp elt [⟨tg,iter,ifs,0⟩] scope pos) spos) (tAsg (tComp own F wi g tt te) (gName i)):=by
  intro pins s σ H D I h
  rw [exec_Assign_Name_used x pos' _ _ hsw]
  refine wpAny_bind (wpAny_standAt (wpAny_bind ?_))
  refine wpAny_bind ?_
  refine wpAny_mono (Q:=fun _ s'=>SP X pins D .next s') ?_ (fun _ s' q=>wpAny_pure (wpAny_pure q)) fun _ _ z=>z
  refine wpAny_comprehension_free (use:=some (assign (.Name x pos') X.env)) rfl hs (vY (I.freeCells S)) S.kind S.lc ?_
  refine thn (hi pins s σ H _ I h) fun v s1 h1=>thn h1 fun itv s2 ⟨it,fp,tn,J,H2,e,I2,T,st2,f2,q2⟩=>?_
  subst e
  refine thn (zDg (Q:=fun x H1=>gName i x σ H1 D.nx) (RR:=fun C r s'=>compPost (model X.prog X.w) X.A X.xe (some (assign (.Name x pos') X.env)) (fun _ s'=>SP X pins D .next s') (.ref s2.heap.objs.size) C r s') S hc hg ht he I2 T st2 f2 q2 fun C s4 H4 c1 c2 I4 q4 n4 hm=>?_) fun acc s3 h3=>thn h3 fun cenv s4 h4=>codeAny_mono h4 fun r s' ⟨ea,hr⟩=>?_
  · obtain ⟨m,hn⟩:=hm
    refine wpAny_assign_Name (zAo I4 hN hi' hx (v:=.ref s2.heap.objs.size) rfl (fun s5 I5 ⟨a,sb,ha⟩=>?_) hf)
    have aC : a ≠ C:=by
      rcases ha with z | z
      · rw [z]; exact Nat.ne_of_lt (Nat.lt_of_lt_of_le I2.lt c1)
      · obtain ⟨v,u⟩:=I2.cell _ _ z
        exact Nat.ne_of_lt (Nat.lt_of_lt_of_le u.lt c1)
    exact ⟨m,hn.sameBut sb (Ne.symm aC),fun h' hs'=>⟨_,H4,uB I2 c1 I5 n4 hs',q4⟩⟩
  · rw [ea]; exact hr
end
inductive T where
  | non | bl (b : Bool) | int (i : Int) | str (x : List Nat) | lst (ts : List T) | dic (ks : List (List Nat)) (ts : List T) | tup (ts : List T)
mutual
def Rep (H : Hp) : V → T → Prop
  | v, .non=>v = .non
  | v, .bl b=>v = .bl b
  | v, .int i=>v = .int i
  | v, .str x=>v = .str (tx x)
  | v, .lst ts=>∃ a vs,v = .ref a ∧ H a = some (.lst vs) ∧ Reps H vs ts
  | v, .dic ks ts=>∃ a ps,v = .ref a ∧ H a = some (.dK ps) ∧ ps.map (·.1) = ks.map (fun k=>(Sum.inr (tx k) : Key)) ∧ Reps H (ps.map (·.2)) ts
  | v, .tup ts=>∃ a vs,v = .ref a ∧ H a = some (.tup vs) ∧ Reps H vs ts
def Reps (H : Hp) : List V → List T → Prop
  | vs,[]=>vs = []
  | vs,t :: ts=>∃ v r,vs = v :: r ∧ Rep H v t ∧ Reps H r ts
end
mutual
theorem Rep.same {H H' : Hp} (e : Same H H') : ∀ (v : V) (t : T),Rep H v t → Rep H' v t
  | _, .non,h=>h
  | _, .bl _,h=>h
  | _, .int _,h=>h
  | _, .str _,h=>h
  | _, .lst ts,⟨a,vs,h1,h2,h3⟩=>⟨a,vs,h1,e _ _ h2,Reps.same e vs ts h3⟩
  | _, .dic ks ts,⟨a,ps,h1,h2,h3,h4⟩=>⟨a,ps,h1,e _ _ h2,h3,Reps.same e _ ts h4⟩
  | _, .tup ts,⟨a,vs,h1,h2,h3⟩=>⟨a,vs,h1,e _ _ h2,Reps.same e vs ts h3⟩
theorem Reps.same {H H' : Hp} (e : Same H H') : ∀ (vs : List V) (ts : List T),Reps H vs ts → Reps H' vs ts
  | _,[],h=>h
  | _,t :: ts,⟨v,r,h1,h2,h3⟩=>⟨v,r,h1,Rep.same e v t h2,Reps.same e r ts h3⟩
end
theorem Reps.snoc {H : Hp} {v : V} {t : T} (h : Rep H v t) : ∀ {vs : List V} {ts : List T},Reps H vs ts → Reps H (vs ++ [v]) (ts ++ [t])
  | _,[],e=>by
    have e' : _ = []:=e
    subst e'
    exact ⟨v,[],rfl,h,rfl⟩
  | _,t' :: ts,⟨v',r,h1,h2,h3⟩=>by
    subst h1
    exact ⟨v',r ++ [v],rfl,h2,Reps.snoc h h3⟩
theorem Reps.length {H : Hp} : ∀ {vs : List V} {ts : List T},Reps H vs ts → vs.length = ts.length
  | _,[],e=>by
    have e' : _ = []:=e
    subst e'; rfl
  | _,t' :: ts,⟨v',r,h1,h2,h3⟩=>by
    subst h1
    simp [Reps.length h3]
theorem Reps.get {H : Hp} : ∀ {vs : List V} {ts : List T} {i : Nat} {v : V},Reps H vs ts → vs[i]? = some v → ∃ t,ts[i]? = some t ∧ Rep H v t
  | _,[],i,v,e,h=>by
    have e' : _ = []:=e
    subst e'; simp at h
  | _,t' :: ts,0,v,⟨v',r,h1,h2,h3⟩,h=>by
    subst h1
    simp at h; subst h
    exact ⟨t',rfl,h2⟩
  | _,t' :: ts,i + 1,v,⟨v',r,h1,h2,h3⟩,h=>by
    subst h1
    obtain ⟨t,e,q⟩:=Reps.get (i:=i) (v:=v) h3 (by simpa using h)
    exact ⟨t,by simpa using e,q⟩
def tyT : T → String
  | .non=>"NoneType"
  | .bl _=>"bool"
  | .int _=>"int"
  | .str _=>"str"
  | .lst _=>"list"
  | .dic _ _=>"dict"
  | .tup _=>"tuple"
theorem Rep.ty {H : Hp} {v : V} : ∀ {t : T},Rep H v t → tyS H v = some (tyT t)
  | .non,h=>by cases (show v = .non from h); rfl
  | .bl b,h=>by cases (show v = .bl b from h); rfl
  | .int i,h=>by cases (show v = .int i from h); rfl
  | .str x,h=>by cases (show v = .str (tx x) from h); rfl
  | .lst ts,h=>by obtain ⟨a,vs,e,h2,_⟩:=h; subst e; show (match H a with | some (.lst _)=>some "list" | some (.tup _)=>some "tuple" | some (.dK _)=>some "dict" | _=>none) = _; rw [h2]; rfl
  | .dic ks ts,h=>by obtain ⟨a,vs,e,h2,_⟩:=h; subst e; show (match H a with | some (.lst _)=>some "list" | some (.tup _)=>some "tuple" | some (.dK _)=>some "dict" | _=>none) = _; rw [h2]; rfl
  | .tup ts,h=>by obtain ⟨a,vs,e,h2,_⟩:=h; subst e; show (match H a with | some (.lst _)=>some "list" | some (.tup _)=>some "tuple" | some (.dK _)=>some "dict" | _=>none) = _; rw [h2]; rfl
def letL : List Nat:=(List.range 26).map (· + 97)
def figL : List Nat:=(List.range 10).map (· + 48)
def sgnL : List Nat:=((List.range 95).map (· + 32)).filter (· != 37)
def okName (w : List Nat) : Bool:=decide (1 ≤ w.length) && decide (w.length ≤ 12) && (match w with | []=>false | c :: _=>decide (c ∈ letL)) && w.all (fun c=>decide (c ∈ letL ++ figL))
def okText (w : List Nat) : Bool:=decide (w.length ≤ 30) && w.all (fun c=>decide (c ∈ sgnL))
mutual
def Nice : Nat → T → Prop
  | _, .non=>True
  | _, .bl _=>True
  | _, .int i=>-(10 ^ 12) ≤ i ∧ i ≤ 10 ^ 12
  | _, .str x=>okText x = true
  | d, .lst ts=>1 ≤ d ∧ ts.length ≤ 4 ∧ NiceL (d - 1) ts
  | d, .dic ks ts=>1 ≤ d ∧ ts.length ≤ 4 ∧ ks.length = ts.length ∧ ks.Nodup ∧ (∀ k ∈ ks,okName k = true) ∧ NiceL (d - 1) ts
  | _, .tup _=>False
def NiceL : Nat → List T → Prop
  | _,[]=>True
  | d,t :: ts=>Nice d t ∧ NiceL d ts
end
theorem zD {H : Hp} {p : Addr} (h : H p = none) (o : HO) : Same H (upd H p o):=fun b u q=>by rw [zM (zY q h)]; exact q
section
variable {K : PySem.W.Frag} {H : Hp} {Q : VK} {a b : Addr} {xs ys : List V}
theorem zNu {neg : Bool} (h1 : SqL K H a xs) (h2 : SqL K H b ys) (f1 : xs.all flatV = true) (f2 : ys.all flatV = true) (q : Q (.bl (if neg then !eqLs xs ys else eqLs xs ys)) H) : rEqL K neg (.ref a) (.ref b) H Q :=
  ⟨a,b,xs,ys,rfl,rfl,h1,h2,f1,f2,q⟩
theorem yG {i : Int} {v : V} (h1 : SqL K H a xs) (h2 : atI xs i = some v) (q : Q v H) : rIxL K (.ref a) (.int i) H Q:=⟨a,xs,i,v,rfl,rfl,h1,h2,q⟩
theorem zBh {i : Int} {v : V} (h1 : SqT K H a xs) (h2 : atI xs i = some v) (q : Q v H) : rIxT K (.ref a) (.int i) H Q:=⟨a,xs,i,v,rfl,rfl,h1,h2,q⟩
theorem jT {z : Str} {i : Int} {c : Nat} (h1 : z.length ≤ sizeLine) (h2 : atI (ts z) i = some c) (q : Q (.str (tx [c])) H) : rIxS (.str z) (.int i) H Q:=⟨z,i,c,rfl,rfl,h1,h2,q⟩
end
theorem zIp {α : Type} {xs : List α} {i : Int} (h0 : 0 ≤ i) (h1 : i < xs.length) : ∃ v,atI xs i = some v ∧ v ∈ xs:=by
  obtain ⟨j,rfl⟩:=Int.eq_ofNat_of_zero_le h0
  have hj : j < xs.length:=by omega
  exact ⟨xs[j],yU (by simp [hj]),List.getElem_mem hj⟩
theorem wQ {α : Type} {xs : List α} {i : Int} {d : α} (h0 : 0 ≤ i) (h1 : i < xs.length) : atI xs i = some (xs.getD i.toNat d):=by
  obtain ⟨j,rfl⟩:=Int.eq_ofNat_of_zero_le h0
  have hj : j < xs.length:=by omega
  refine yU ?_
  simp [List.getD,hj]
theorem kH {x : Str} {F : List (Str × Nat)} {J : It} {n : Nat} {tt : TT} {te : TE} {σ : St} {Q : VK} {H1 : Hp} (Pv : Nat → List V → Hp → Prop) (hn : n ≤ sizeLine) (h0 : Pv 0 [] H1) (hgo : ∀ i ys H,i < n → Pv i ys H → J.go i H)
    (hst : ∀ ys H,Pv n ys H → J.stop n H)
    (hs : ∀ i ys H y H2,i < n → ys.length ≤ i → Pv i ys H → J.yld i H y H2 → tt (some y :: F.map (fun p=>(σ[p.2]?).join)) H2 fun b H3=>if b = true then te (some y :: F.map (fun p=>(σ[p.2]?).join)) H3 fun z H4=>Pv (i + 1) (ys ++ [z]) H4 else Pv (i + 1) ys H3)
    (hd : ∀ ys H,ys.length ≤ n → Pv n ys H → ∀ p,H p = none → Q (.ref p) (upd H p (.lst ys))) : CompBody [x] F (gName 0) tt te σ Q J H1:=by
  refine ⟨fun i m ys H=>m = n - i ∧ i ≤ n ∧ Pv i ys H,⟨n,by simp,Nat.zero_le _,h0⟩, ?_⟩
  rintro i m ys H ⟨rfl,hi,p⟩ hl
  by_cases hlt : i < n
  · refine .inr ⟨hgo i ys H hlt p,by omega,Pv (i + 1),fun ys' H'' q=>⟨n - (i + 1),by omega,rfl,hlt,q⟩,fun y H2 hy=>?_⟩
    exact ⟨zHs (i:=0) rfl,hs i ys H y H2 hlt hl p hy⟩
  · have e : i = n:=by omega
    subst e
    exact .inl ⟨hst ys H p,hn,hd ys H hl p⟩
theorem xG {x : Str} {F : List (Str × Nat)} {lo : Int} {n : Nat} {te : TE} {σ : St} {Q : VK} {H1 : Hp} (Pv : Nat → List V → Hp → Prop) (hn : n ≤ sizeLine) (h0 : Pv 0 [] H1)
    (hs : ∀ (i : Nat) ys H,i < n → ys.length ≤ i → Pv i ys H → te (some (.int (lo + i)) :: F.map (fun p=>(σ[p.2]?).join)) H fun z H4=>Pv (i + 1) (ys ++ [z]) H4)
    (hd : ∀ ys H,ys.length ≤ n → Pv n ys H → ∀ p,H p = none → Q (.ref p) (upd H p (.lst ys))) : CompBody [x] F (gName 0) tTrue te σ Q (Itr lo n) H1 :=
  kH Pv hn h0 (fun i _ _ h _=>h) (fun _ _ _=>Nat.le_refl _) (fun i ys H y H2 h1 h2 h3 h4=>by
    obtain ⟨rfl,rfl⟩:=h4
    exact hs i ys _ h1 h2 h3) hd
section
variable {X : Cx} {x : Str} {pos : Pos}
theorem pe_gi {z : Int} (hg : Gl X x) (h : ∃ t,X.mg x = some (.int z t)) (hd : (x == ("__debug__" : Str)) = false:=by decide) : PE X (.Name x pos) (tC (.int z)):=by
  obtain ⟨t,h⟩:=h
  exact yP hg h ⟨t,rfl⟩ hd
end
theorem zDk {CX : CXT} {P : Program} {w : World} {K : PySem.W.Frag} {mg : Str → Option Value} {base : Heap} {N : List Str} {qual : Str} {scope : Scope} {f : Addr} {cd : Value} {A : Around} {outer : List Env} {s : Shared} {H : Hp} {E : XK} : (cxOf CX P w K mg base N qual scope f cd A outer s H E).K = K:=rfl
theorem zHv {X : Cx} : X.nox.K = X.K:=rfl
theorem gQ {X : Cx} {own : List Str} {F : List (Str × Nat)} {scope : Scope} {C : Addr} {s₃ : Shared} {H₃ : Hp} {ex : List Addr} : (compCx X own F scope C s₃ H₃ ex).K = X.K:=rfl
theorem zGf (ns : List Int) : (ns.map V.int).all flatV = true:=by
  rw [List.all_map]; exact List.all_eq_true.mpr fun _ _=>rfl
theorem zIm (xs : List V) : eqLs xs [] = xs.isEmpty:=by cases xs <;> rfl
end L2
namespace L2
theorem gK : Int.natAbs 10 = 10:=rfl
end L2
namespace L2
open PySem PySem.Spec PyProof.Rows
def ForB (g : TG) (tb : TS) (D : Ends) (σ : St) (J : It) (H1 : Hp) : Prop:=∃ W : Nat → Nat → St → Hp → Prop,(∃ m,W 0 m σ H1) ∧ ∀ i m σ H,W i m σ H →
  (J.stop i H ∧ D.nx σ H) ∨ (J.go i H ∧ ∃ N : St → Hp → Prop,(∀ σ' H',N σ' H' → ∃ m',m' < m ∧ W (i + 1) m' σ' H') ∧ ∀ x H',J.yld i H x H' → g x σ H' fun σ2 H2=>tb { D with nx:=N,ct:=N,bk:=D.nx } σ2 H2)
theorem zBo (wi : TI) (g : TG) (tb : TS) (D : Ends) (σ : St) (H : Hp) : tFor wi g tb D σ H = wi σ H fun J H1=>ForB g tb D σ J H1:=rfl
theorem vH {lo : Int} {n : Nat} {g : TG} {tb : TS} {D : Ends} {σ : St} {H : Hp} (Pv : Nat → St → Hp → Prop) (h0 : Pv 0 σ H)
    (hs : ∀ i σ H,i < n → Pv i σ H → g (.int (lo + i)) σ H fun σ2 H2=>tb { D with nx:=Pv (i + 1),ct:=Pv (i + 1),bk:=D.nx } σ2 H2) (hd : ∀ σ H,Pv n σ H → D.nx σ H) : ForB g tb D σ (Itr lo n) H:=zGm Pv h0 hs hd
theorem vI {K : PySem.W.Frag} {a : Addr} {xs : List V} {g : TG} {tb : TS} {D : Ends} {σ : St} {H : Hp} (Pv : Nat → St → Hp → Prop) (h0 : Pv 0 σ H) (hl : ∀ i σ H,i ≤ xs.length → Pv i σ H → SqL K H a xs)
    (hs : ∀ i x σ H,xs[i]? = some x → Pv i σ H → g x σ H fun σ2 H2=>tb { D with nx:=Pv (i + 1),ct:=Pv (i + 1),bk:=D.nx } σ2 H2) (hd : ∀ σ H,Pv xs.length σ H → D.nx σ H) : ForB g tb D σ (Itl K a) H:=zIf Pv h0 hl hs hd
section
variable {X : Cx}
theorem vF : CallR X (.type "int") (fun xs H Q=>∃ k,xs = [.bl k] ∧ Q (.int (if k then 1 else 0)) H):=fun pins s σ H xs us Q I r h=>zHf pins s σ H xs us Q I r (.inr h)
theorem yF : CallR X (.builtin "len") (fun xs H Q=>∃ p,xs = [.ref p] ∧ ∃ ys,SqL X.K H p ys ∧ Q (.int ys.length) H):=fun pins s σ H xs us Q I r ⟨p,e,ys,h,q⟩=>wL pins s σ H xs us Q I r ⟨p,ys,e, .inl h,q⟩
end
abbrev nK (k : List Nat) : Key:=Sum.inr (tx k)
theorem qW {a b : List Nat} (h : nK a = nK b) : a = b:=by
  have e : tx a = tx b:=Sum.inr.inj h
  rw [← wT a,e,wT]
theorem Reps.repl {H : Hp} {k : Key} {v : V} {t : T} (hv : Rep H v t) : ∀ {ps : List (Key × V)} {ts : List T},Reps H (ps.map (·.2)) ts → ∃ ts',Reps H ((ps.map fun kv=>if kv.1 = k then (kv.1,v) else kv).map (·.2)) ts' ∧ ts'.length = ts.length ∧ ∀ u ∈ ts',u ∈ ts ∨ u = t
  | [],ts,h=>⟨ts,h,rfl,fun u hu=>.inl hu⟩
  | p :: ps,[],h=>by
    have h' : (p :: ps).map (·.2) = []:=h
    cases h'
  | p :: ps,u :: ts,⟨v',r,e,h1,h2⟩=>by
    have e' : p.2 :: ps.map (·.2) = v' :: r:=e
    injection e' with e1 e2
    subst e1 e2
    obtain ⟨ts',r',l',m'⟩:=Reps.repl hv h2
    by_cases hk : p.1 = k
    · refine ⟨t :: ts',⟨v,_, ?_,hv,r'⟩,by simp [l'],fun z hz=>?_⟩
      · rw [List.map_cons,if_pos hk,List.map_cons]
      · rcases List.mem_cons.mp hz with q | q
        · exact .inr q
        · exact (m' z q).imp (List.mem_cons_of_mem _) id
    · refine ⟨u :: ts',⟨p.2,_, ?_,h1,r'⟩,by simp [l'],fun z hz=>?_⟩
      · rw [List.map_cons,if_neg hk,List.map_cons]
      · rcases List.mem_cons.mp hz with q | q
        · exact .inl (by rw [q]; exact List.mem_cons_self)
        · exact (m' z q).imp (List.mem_cons_of_mem _) id
theorem zLb {H : Hp} {ps : List (Key × V)} {ks : List (List Nat)} {ts : List T} {n : List Nat} {v : V} {t : T} (hk : ps.map (·.1) = ks.map nK) (hR : Reps H (ps.map (·.2)) ts) (nd : ks.Nodup) (hv : Rep H v t) :
    ∃ (ks' : List (List Nat)) (ts' : List T),(putK ps (nK n) v).map (·.1) = ks'.map nK ∧ Reps H ((putK ps (nK n) v).map (·.2)) ts' ∧ ks'.Nodup ∧ (∀ k ∈ ks',k ∈ ks ∨ k = n) ∧ (∀ u ∈ ts',u ∈ ts ∨ u = t) ∧ ks'.length ≤ ks.length + 1:=by
  unfold putK
  by_cases h : (ps.any fun kv=>decide (kv.1 = nK n)) = true
  · rw [if_pos h]
    obtain ⟨ts',r',l',m'⟩:=Reps.repl (k:=nK n) hv hR
    refine ⟨ks,ts', ?_,r',nd,fun k hk=>.inl hk,m',Nat.le_succ _⟩
    rw [← hk,List.map_map]
    apply List.map_congr_left
    intro p _
    show (if p.1 = nK n then (p.1,v) else p).1 = p.1
    split <;> rfl
  · rw [if_neg h]
    refine ⟨ks ++ [n],ts ++ [t],by rw [List.map_append,hk,List.map_append]; rfl,by rw [List.map_append]; exact Reps.snoc hv hR, ?_,fun k hk=>?_,fun u hu=>?_,by simp⟩
    · refine zBs nd fun hm=>h (List.any_eq_true.mpr ?_)
      have hm' : nK n ∈ ps.map (·.1):=by rw [hk]; exact List.mem_map.mpr ⟨n,hm,rfl⟩
      obtain ⟨p,hp,e⟩:=List.mem_map.mp hm'
      exact ⟨p,hp,decide_eq_true e⟩
    · rcases List.mem_append.mp hk with q | q
      · exact .inl q
      · exact .inr (List.mem_singleton.mp q)
    · rcases List.mem_append.mp hu with q | q
      · exact .inl q
      · exact .inr (List.mem_singleton.mp q)
theorem NiceL_iff {d : Nat} : ∀ {ts : List T},NiceL d ts ↔ ∀ t ∈ ts,Nice d t
  | []=>⟨fun _ _ h=>(nomatch h),fun _=>trivial⟩
  | u :: ts=>by
    show (Nice d u ∧ NiceL d ts) ↔ _
    rw [NiceL_iff (ts:=ts)]
    exact ⟨fun h t ht=>(List.mem_cons.mp ht).elim (fun e=>e ▸ h.1) (h.2 t),fun h=>⟨h u List.mem_cons_self,fun t ht=>h t (List.mem_cons_of_mem _ ht)⟩⟩
theorem zEn : ts (Str.ofString "abcdefghijklmnopqrstuvwxyz0123456789") = letL ++ figL:=by decide +kernel
theorem ts_a : ts (Str.ofString "a") = [97]:=by decide +kernel
theorem ts_q : ts (Str.ofString "'") = [39]:=by decide +kernel
theorem zJb : Str.ofString "" = tx []:=by decide +kernel
theorem kL (c k : Nat) : (List.replicate k [c]).flatten = List.replicate k c:=by
  induction k with
  | zero=>rfl
  | succ k ih=>rw [List.replicate_succ,List.flatten_cons,ih,List.replicate_succ]; rfl
theorem uS {w : List Nat} (h1 : w.length ≤ 12) (h3 : ∃ c r,w = c :: r ∧ c ∈ letL) (h4 : ∀ c ∈ w,c ∈ letL ++ figL) : okName w = true:=by
  obtain ⟨c,r,rfl,hc⟩:=h3
  unfold okName
  simp only [Bool.and_eq_true,decide_eq_true_eq,List.all_eq_true]
  exact ⟨⟨⟨by simp,h1⟩,hc⟩,h4⟩
theorem zAh {w : List Nat} (h1 : w.length ≤ 30) (h4 : ∀ c ∈ w,c ∈ sgnL) : okText w = true:=by
  unfold okText
  simp only [Bool.and_eq_true,decide_eq_true_eq,List.all_eq_true]
  exact ⟨h1,h4⟩
theorem zOd {i : Int} (h0 : 0 ≤ i) (h1 : i < 26) : ∃ c,atI (letL ++ figL) i = some c ∧ c ∈ letL:=by
  obtain ⟨j,rfl⟩:=Int.eq_ofNat_of_zero_le h0
  have hj : j < 26:=by omega
  have hj' : j < letL.length:=hj
  refine ⟨letL[j],yU (by rw [List.getElem?_append_left hj']; simp [hj']),List.getElem_mem hj'⟩
theorem zEr : 97 ∈ letL:=by decide
theorem jN {c : Nat} (h : c ∈ letL) : c ∈ letL ++ figL:=List.mem_append_left _ h
end L2
namespace L2
end L2
namespace L2
open PySem PySem.Spec PyProof.Rows
theorem zNi : Str.ofString " !\"#$&'()*+,-./0123456789:;<=>?@ABCDEFGHIJKLMNOPQRSTUVWXYZ[\\]^_`" ++ Str.ofString "abcdefghijklmnopqrstuvwxyz{|}~" = tx sgnL:=by decide +kernel
theorem zOf : 39 ∈ sgnL:=by decide
theorem vX (cs : List Nat) : ((cs.map fun c=>tx [c]).map ts).flatten = cs:=by
  induction cs with
  | nil=>rfl
  | cons d r ih=>simp only [List.map_cons,List.flatten_cons,ih,wT]; rfl
theorem HOk.sim {P : Program} {w : World} {H H' : Hp} {h : Heap} (ok : HOk P w H h) (ho : ∀ b a,H b = some (.own a) → H' b = some (.own a)) (ht : ∀ b xs,H b = some (.tup xs) → H' b = some (.tup xs))
    (hs : ∀ b u,H' b = some u → H b = some u ∨ (∃ o,H b = some (.frz o u)) ∨ ∃ o u',u = .frz o u' ∧ H b = some u' ∧ h.get? b = some o) : HOk P w H' h:=fun b u e=>by
  rcases hs b u e with q | ⟨o,q⟩ | ⟨o,u',rfl,q,g⟩
  · exact (ok b u q).stay (fun _ _ _ z=>z) (fun c z=>ho c b z) fun c xs z=>ht c xs z
  · obtain ⟨_,z⟩:=(show ObjOk P w H h b (.frz o u) from ok b _ q)
    exact z.stay (fun _ _ _ z=>z) (fun c z=>ho c b z) fun c xs z=>ht c xs z
  · exact ⟨g,(ok b u' q).stay (fun _ _ _ z=>z) (fun c z=>ho c b z) fun c xs z=>ht c xs z⟩
section
variable {X : Cx} {pins : List (Addr × Obj)} {σ σ' : St} {H H' : Hp} {s s' : Shared}
theorem Inv.sim (I : Inv X pins σ H s) (hn : ∀ b,H b = none → H' b = none) (ho : ∀ b a,H b = some (.own a) → H' b = some (.own a)) (ht : ∀ b xs,H b = some (.tup xs) → H' b = some (.tup xs))
    (hb : ∀ b ps,H b = some (.tbl ps) → H' b = some (.tbl ps)) (hf : ∀ b o u,X.H₀ b = some (.frz o u) → H' b = some (.frz o u))
    (hs : ∀ b u,H' b = some u → H b = some u ∨ (∃ o,H b = some (.frz o u)) ∨ ∃ o u',u = .frz o u' ∧ H b = some u' ∧ s.heap.get? b = some o) : Inv X pins σ H' s :=
  ⟨I.ok,I.os,I.bare,⟨I.base.keep,I.base.slot,fun b o e n hx=>hn b (I.base.free b o e n hx),I.base.there,fun b xs e=>ht b xs (I.base.tups b xs e),hf,fun b ps e=>by
    obtain ⟨m,q⟩:=I.base.tbls b ps e
    exact ⟨m,hb b _ q⟩⟩,I.loc,I.cell,hn _ I.free,fun x c e=>hn _ (I.freeC x c e),fun p hp=>by
    obtain ⟨a,b,c,d,e⟩:=I.pin p hp
    exact ⟨a,hn _ b,c,d,e⟩,I.hok.sim ho ht hs,I.len⟩
theorem Inv.freeze {d : Addr} {kvs : List (Key × V)} {o : Obj} (I : Inv X pins σ H s) (h : H d = some (.dK kvs)) (hg : s.heap.get? d = some o) : Inv X pins σ (upd H d (.frz o (.dK kvs))) s:=by
  have ne : ∀ b u,H b = u → u ≠ some (.dK kvs) → b ≠ d:=fun b u e n z=>by subst z; exact n (e.symm.trans h)
  refine I.sim (fun b e=>by rw [zM (ne b _ e (by intro z; cases z))]; exact e) (fun b a e=>by rw [zM (ne b _ e (by intro z; cases z))]; exact e) (fun b a e=>by rw [zM (ne b _ e (by intro z; cases z))]; exact e)
    (fun b a e=>by rw [zM (ne b _ e (by intro z; cases z))]; exact e) (fun b o' u e=>?_) fun b u e=>?_
  · have e':=I.base.frzs b o' u e
    rw [zM (ne b _ e' (by intro z; cases z))]; exact e'
  · by_cases hb : b = d
    · subst hb
      rw [zC] at e; cases e
      exact .inr (.inr ⟨o,_,rfl,h,hg⟩)
    · rw [zM hb] at e; exact .inl e
def thaw (H H' : Hp) : Hp:=fun b=>match H b with
  | some (.frz _ _)=>H' b
  | _=>match H' b with
    | some (.frz _ u)=>some u
    | y=>y
theorem zCv {b : Addr} {o : Obj} {u : HO} (h : H b = some (.frz o u)) : thaw H H' b = H' b:=by unfold thaw; rw [h]
theorem zFy {b : Addr} (h : H' b = none) : thaw H H' b = none:=by unfold thaw; rw [h]; split <;> rfl
theorem xK {b : Addr} {u : HO} (h : H' b = some u) (n : ∀ o v,u ≠ .frz o v) : thaw H H' b = some u:=by
  unfold thaw; rw [h]
  split
  · rfl
  · cases u <;> first | rfl | exact absurd rfl (n _ _)
theorem zLc {b : Addr} {o : Obj} {u : HO} (h : H' b = some (.frz o u)) (n : ∀ o v,H b ≠ some (.frz o v)) : thaw H H' b = some u:=by
  unfold thaw; rw [h]
  cases e : H b with
  | none=>rfl
  | some v=>cases v <;> first | rfl | exact absurd e (n _ _)
theorem zIk {b : Addr} {u : HO} (h : thaw H H' b = some u) : H' b = some u ∨ ∃ o,H' b = some (.frz o u):=by
  unfold thaw at h
  split at h
  · exact .inl h
  · split at h
    · rename_i o v e
      cases h
      exact .inr ⟨_,e⟩
    · exact .inl h
theorem Inv.thaw (I : Inv X pins σ H s) (J : Inv X pins σ' H' s') : Inv X pins σ' (thaw H H') s' :=
  J.sim (fun b e=>zFy e) (fun b a e=>xK e (by intro o v z; cases z)) (fun b a e=>xK e (by intro o v z; cases z)) (fun b a e=>xK e (by intro o v z; cases z))
    (fun b o u e=>by rw [zCv (I.base.frzs b o u e)]; exact J.base.frzs b o u e) fun b u e=>(zIk e).imp id .inl
theorem zHk {H H' : Hp} (h : ∀ b u,H b = some u → H' b = some u ∨ ((∃ o,H' b = some (.frz o u)) ∧ ∀ o v,u ≠ .frz o v)) : Same H (L2.thaw H H'):=fun b u e=>by
  rcases h b u e with q | ⟨⟨o,q⟩,n⟩
  · cases u with
    | frz o v=>rw [zCv e]; exact q
    | _=>exact xK q (by intro o v z; cases z)
  · refine zLc q fun o' v z=>?_
    rw [e] at z; cases z; exact n _ _ rfl
def tThaw (t : TE) : TE:=fun σ H Q=>t σ H fun v H'=>Q v (thaw H H')
theorem kO {e : Expr} {t : TE} (h : PE X e t) : PE X e (tThaw t):=by
  intro pins s σ H Q I q
  refine thn (h pins s σ H _ I q) fun u s1 ⟨v,H1,I1,r,q1⟩=>⟨v,_,I.thaw I1,r,q1⟩
end
theorem KV.get {κ : Type} : ∀ {kvs : List (κ × V)} {vs : List (κ × Value)} {i : Nat} {kv : κ × V},KV kvs vs → kvs[i]? = some kv → ∃ q,vs[i]? = some q ∧ kv.1 = q.1 ∧ RelV kv.2 q.2
  | _,_,_,_, .nil,e=>by simp at e
  | _,_,0,_, .cons r _,e=>by simp at e; subst e; exact ⟨_,rfl,r⟩
  | _,_,i + 1,x, .cons _ t,e=>by
    obtain ⟨u,h1,h2⟩:=KV.get (i:=i) (kv:=x) t (by simpa using e)
    exact ⟨u,by simpa using h1,h2⟩
theorem zBg {P : Program} {w : World} {k : Key} {u : Value} (h : (mixKind P w).is k u = true) : RelV (kV k) u:=by
  rcases yQ (show keyIs k u = true from h) with ⟨i,t,rfl,rfl⟩ | ⟨x,t,rfl,rfl⟩
  · exact ⟨t,rfl⟩
  · exact ⟨t,rfl⟩
theorem qO {P : Program} {w : World} {H : Hp} {h : Heap} {d : Addr} {o : Obj} {kvs : List (Key × V)} {es : Array DictEntry} {ep : Nat} (ok : HOk P w H h) (e : H d = some (.frz o (.dK kvs))) (he : o.data = .dict es ep) :
    ∃ vs,KV kvs vs ∧ h.DictAt (mixKind P w) d vs ep ∧ (d == sysModules) = false ∧ kvs.length ≤ sizeLine:=by
  obtain ⟨g,z,hd,vs,rel,o',es',ep',ho,c,hdat,r⟩:=(show ObjOk P w H h d (.frz o (.dK kvs)) from ok d _ e)
  rw [g] at ho; cases ho
  rw [he] at hdat; cases hdat
  exact ⟨vs,rel,⟨o,es,g,c,he,r⟩,hd,z⟩
def Itd (d : Addr) (o : Obj) (kvs : List (Key × V)) : It :=
  ⟨fun i H=>i < kvs.length ∧ H d = some (.frz o (.dK kvs)),fun i H y H'=>H' = H ∧ ∃ kv,kvs[i]? = some kv ∧ y = kV kv.1,fun i H=>kvs.length ≤ i ∧ H d = some (.frz o (.dK kvs))⟩
theorem zGc {P : Program} {w : World} {K : PySem.W.Frag} {tg : Expr} (d it : Addr) (o : Obj) (kvs : List (Key × V)) : Turn P w K tg (Itd d o kvs) [it] it (fun i h=>∃ es ep,o.data = .dict es ep ∧ h.IsKeyIter it d i kvs.length ep) where
  mem:=by simp
  obj:=fun i h st b hb=>by
    obtain ⟨es,ep,_,ob,e,c,dd⟩:=st
    have e' : b = it:=by simpa using hb
    subst e'
    exact ⟨ob,e,fun v z=>by rw [dd] at z; cases z⟩
  keep:=fun i h h' st k=>by
    obtain ⟨es,ep,a,st⟩:=st
    exact ⟨es,ep,a,st.at fun ob e=>k it (by simp) ob e⟩
  item:=by
    intro X hP hw hK hc i pins s σ H E I hf st hg
    subst hP hw hK
    obtain ⟨es,ep,hes,st⟩:=st
    obtain ⟨hi,hg⟩:=hg
    obtain ⟨vs,rel,hm,_,_⟩:=qO I.hok hg hes
    obtain ⟨f0,f1,f2,f3,f4,f5⟩:=hf it (by simp)
    have hl:=rel.length
    obtain ⟨kv,hkv⟩ : ∃ kv,kvs[i]? = some kv:=⟨kvs[i],by simp [hi]⟩
    obtain ⟨q,hq,hq1,hq2⟩:=KV.get rel hkv
    rw [hl] at st
    refine wpAny_pyNext_dict_item (k:=q.1) (v:=q.2) st hm hq fun key h' hk st' sb=>?_
    have I1 : Inv X pins σ H { s with heap:=h' }:=I.turned (t':=s.toks) (fun b o hb e=>(sb.2 b hb).trans e) f0 f1 f3 f4 f5
    obtain ⟨ob,e,c,dd⟩:=id st'
    exact ⟨key,rfl,zBv (s:={ s with heap:=h' }) e c dd (by decide) ⟨kV kv.1,H,I1,by rw [hq1]; exact zBg hk,⟨rfl,kv,hkv,rfl⟩,⟨es,ep,hes,by rw [hl]; exact st'⟩,fun b hb=>(hf b hb).1⟩⟩
  done:=by
    intro X hP hw hK hc i pins s σ H E I hf st hg
    subst hP hw hK
    obtain ⟨es,ep,hes,st⟩:=st
    obtain ⟨hi,hg⟩:=hg
    obtain ⟨vs,rel,hm,_,_⟩:=qO I.hok hg hes
    obtain ⟨f0,f1,f2,f3,f4,f5⟩:=hf it (by simp)
    have hl:=rel.length
    rw [hl] at st
    exact wpAny_pyNext_dict_end (I.ok.hd hc) st hm (by simp; omega) fun h' eb=>⟨rfl,I.turned (t':=s.toks) (fun b o hb e=>eb b o hb e) f0 f1 f3 f4 f5⟩
  self:=fun _ _ _ _ _ st h=>by
    obtain ⟨es,ep,_,st⟩:=st
    exact wpAny_pyIter_keyiter st h
def iDict (tl : TE) : TI:=fun σ H R=>tl σ H fun x H1=>∃ d kvs,x = .ref d ∧ ((H1 d = some (.dK kvs) ∧ ∀ o,R (Itd d o kvs) (upd H1 d (.frz o (.dK kvs)))) ∨ ∃ o,H1 d = some (.frz o (.dK kvs)) ∧ R (Itd d o kvs) H1)
section
variable {X : Cx}
theorem zBu {tg l : Expr} {tl : TE} (hl : PE X l tl) : PI X tg l (iDict tl):=by
  intro pins s σ H R I h
  refine thn (hl pins s σ H _ I h) fun v s1 ⟨x,H1,I1,r1,q1⟩=>?_
  obtain ⟨d,kvs,rfl,q⟩:=q1
  cases r1
  have fin : ∀ o H2,Inv X pins σ H2 s1 → H2 d = some (.frz o (.dK kvs)) → R (Itd d o kvs) H2 → wpAny (model X.prog X.w) X.A (pyIter (.ref d)) (PIE X pins σ tg R) X.xe s1:=fun o H2 I2 e q=>by
    obtain ⟨g,z,hd,vs,rel,o',es,ep,ho,c,hdat,r⟩:=(show ObjOk X.prog X.w H2 s1.heap d (.frz o (.dK kvs)) from I2.hok d _ e)
    rw [g] at ho; cases ho
    have hm : s1.heap.DictAt (mixKind X.prog X.w) d vs ep:=⟨o,es,g,c,hdat,r⟩
    refine wpAny_pyIter_dict hd hm ?_
    refine ⟨s1.heap.objs.size,[s1.heap.objs.size],_,_,H2,rfl,I2.kept (t':=s1.toks) fun b o e=>Heap.get?_push_of_some _ e,zGc d _ o kvs,⟨es,ep,hdat,_,Heap.get?_push_size _ rfl,rfl,by rw [rel.length]; rfl⟩,fun b hb=>?_,q⟩
    have e : b = s1.heap.objs.size:=by simpa using hb
    subst e
    exact I2.fpOk (Nat.le_refl _) (I2.hok.fresh (Nat.le_refl _))
  rcases q with ⟨e,q⟩ | ⟨o,e,q⟩
  · obtain ⟨z,hd,vs,rel,o,es,ep,ho,_⟩:=(show ObjOk X.prog X.w H1 s1.heap d (.dK kvs) from I1.hok d _ e)
    exact fin o _ (I1.freeze e ho) zC (q o)
  · exact fin o _ I1 e q
end
theorem kB {x : Str} {F : List (Str × Nat)} {d : Addr} {o : Obj} {kvs : List (Key × V)} {tt : TT} {te : TE} {σ : St} {Q : VK} {H1 : Hp} (Pv : Nat → List V → Hp → Prop) (hn : kvs.length ≤ sizeLine) (h0 : Pv 0 [] H1) (hz : ∀ i ys H,Pv i ys H → H d = some (.frz o (.dK kvs)))
    (hs : ∀ i kv ys H,kvs[i]? = some kv → ys.length ≤ i → Pv i ys H → tt (some (kV kv.1) :: F.map (fun p=>(σ[p.2]?).join)) H fun b H3=>if b = true then te (some (kV kv.1) :: F.map (fun p=>(σ[p.2]?).join)) H3 fun z H4=>Pv (i + 1) (ys ++ [z]) H4 else Pv (i + 1) ys H3)
    (hd : ∀ ys H,ys.length ≤ kvs.length → Pv kvs.length ys H → ∀ p,H p = none → Q (.ref p) (upd H p (.lst ys))) : CompBody [x] F (gName 0) tt te σ Q (Itd d o kvs) H1 :=
  kH Pv hn h0 (fun i ys H h p=>⟨h,hz i ys H p⟩) (fun ys H p=>⟨Nat.le_refl _,hz _ ys H p⟩) (fun i ys H y H2 h1 h2 h3 h4=>by
    obtain ⟨rfl,kv,hkv,rfl⟩:=h4
    exact hs i kv ys _ hkv h2 h3) hd
theorem uM {K : PySem.W.Frag} {x : Str} {F : List (Str × Nat)} {a : Addr} {xs : List V} {tt : TT} {te : TE} {σ : St} {Q : VK} {H1 : Hp} (Pv : Nat → List V → Hp → Prop) (hn : xs.length ≤ sizeLine) (h0 : Pv 0 [] H1) (hz : ∀ i ys H,i ≤ xs.length → Pv i ys H → SqL K H a xs)
    (hs : ∀ i v ys H,xs[i]? = some v → ys.length ≤ i → Pv i ys H → tt (some v :: F.map (fun p=>(σ[p.2]?).join)) H fun b H3=>if b = true then te (some v :: F.map (fun p=>(σ[p.2]?).join)) H3 fun z H4=>Pv (i + 1) (ys ++ [z]) H4 else Pv (i + 1) ys H3)
    (hd : ∀ ys H,ys.length ≤ xs.length → Pv xs.length ys H → ∀ p,H p = none → Q (.ref p) (upd H p (.lst ys))) : CompBody [x] F (gName 0) tt te σ Q (Itl K a) H1 :=
  kH Pv hn h0 (fun i ys H h p=>⟨xs,xs[i],hz i ys H (Nat.le_of_lt h) p,by simp [h]⟩) (fun ys H p=>⟨xs,hz _ ys H (Nat.le_refl _) p,Nat.le_refl _⟩) (fun i ys H y H2 h1 h2 h3 h4=>by
    obtain ⟨rfl,hy⟩:=h4
    exact hs i y ys _ (hy xs (hz i ys _ (Nat.le_of_lt h1) h3)) h2 h3) hd
def valsO (p d : Addr) : HO:=.ext fun h=>h.IsValuesView p d
section
variable {X : Cx}
theorem zFc {κ : Type} : ∀ {kvs : List (κ × V)} {vs : List (κ × Value)},KV kvs vs → Vals (kvs.map (·.2)) (vs.map (·.2))
  | _,_, .nil=>.nil
  | _,_, .cons r t=>.cons r.2 (zFc t)
def rVals : V → List V → Hp → VK → Prop:=fun x vs H Q=>∃ d kvs,x = .ref d ∧ vs = [] ∧ Rd H d (.dK kvs) ∧ ∀ p,H p = none → Q (.ref p) (upd H p (valsO p d))
theorem zGk : MtR X "dict.values" rVals:=by
  intro pins s σ H x vs v us Q I rx rv h
  obtain ⟨d,kvs,rfl,rfl,hq,q⟩:=h
  cases rx
  cases rv
  obtain ⟨z,hd,ws,rel,dd⟩:=qA I.hok hq
  refine call_meetsIn PySem.F.slot_dict_values dd.typeIs PySem.F.entry_dict_values (PySem.F.args_dict_values_1 _) (meets_dict_values (mixKind X.prog X.w) d hd) ⟨⟨ws,dd⟩, ?_⟩
  refine ⟨.ref s.heap.objs.size,_,I.laid (t':=s.toks) (fun b o e=>Heap.get?_push_of_some _ e) (Nat.le_refl _) (o:=valsO s.heap.objs.size d) ?_,rfl,q _ (I.hok.fresh (Nat.le_refl _))⟩
  exact ⟨⟨_,Heap.get?_push_size _ rfl,rfl,rfl⟩,⟨_,Heap.get?_push_size _ rfl⟩,fun h1 h2 ⟨o,e,r⟩ k=>⟨o,k o e,r⟩⟩
theorem zCy (hc : X.calm = true) : CallR X (.type "list") (fun xs H Q=>∃ p d kvs,xs = [.ref p] ∧ H p = some (valsO p d) ∧ Rd H d (.dK kvs) ∧ ∀ l,H l = none → Q (.ref l) (upd H l (.lst (kvs.map (·.2))))):=by
  intro pins s σ H xs us Q I r h
  obtain ⟨p,d,kvs,rfl,hp,hq,q⟩:=h
  obtain ⟨u,rfl,rx⟩:=wZ r
  cases rx
  obtain ⟨z,hd,vs,rel,dd⟩:=qA I.hok hq
  obtain ⟨hv,_⟩:=(show ObjOk X.prog X.w H s.heap p (valsO p d) from I.hok p _ hp)
  obtain ⟨ep,hat⟩:=dd.dictAt
  have hl:=rel.length
  refine PySem.W.kdl_call (PySem.W.kdl_values (knd:=mixKind X.prog X.w) (kvs:=vs) (ep:=ep)) (I.ok.hd hc) ⟨hv,hat⟩ (by omega) fun h' tk acc c' hk hg hi=>?_
  refine ⟨.ref s.heap.objs.size,_,I.laid (t':=tk) hk (Nat.le_refl _) (o:=.lst (kvs.map (·.2))) ?_,rfl,q _ (I.hok.fresh (Nat.le_refl _))⟩
  have e : acc.toList = vs.map (·.2):=PySem.W.kdl_vals_eq acc.toList (by rw [Array.length_toList]; exact hi.1) (fun j v e=>hi.2 j v (by rw [← Array.getElem?_toList]; exact e))
  exact ⟨by rw [List.length_map]; exact z,acc.toList,c',by rw [e]; exact zFc rel,by simpa using hg⟩
end
theorem zBc : typeLookup (.type "list") "keys" = pure none:=am_miss_of_fast (by decide +kernel)
theorem qU : entryFor table "dict.update.loop" = some Builtin.«dict.update.loop»:=entryFor_of_tree (by kernel_rfl)
theorem wE : plainId "dict.update.loop" = true:=by decide +kernel
section
variable {prog : Program} {w : World} {A : Around} {E : Value → Shared → Prop}
theorem zGh {s : Shared} {a : Addr} {xs : Array Value} {k : Nat} {name : Str} {Q : Option Value → Shared → Prop}
    (hx : s.heap.get? a = some { cls:=.type "list",dict:=none,data:=.seq xs k,slots:=#[] }) (hmiss : typeLookup (.type "list") name = pure none) (hname : (["__module__","__name__","__qualname__","__doc__","__annotations__"] : List Str).contains name = false) (hA : A.handled = none)
    (h : ∀ h' tk,(∀ b o,s.heap.get? b = some o → h'.get? b = some o) → Q none { s with heap:=h',toks:=tk }) (hsz : name.length + 100 ≤ sizeLine:=by size_fits) :
    wpAny (model prog w) A (getAttr? (.ref a) name) Q E s:=by
  obtain ⟨hp,g,d,tk,os⟩:=s
  have hT : ∀ tk',(⟨hp,g,d,tk',os⟩ : Shared).TypeIs (.ref a) "list":=fun _=>⟨_,hx,rfl⟩
  have f1:=sub_AttributeError
  have f3:=F.slot_list_getattribute.lookup
  have f4:=F.slot_list_getattribute.bind (.ref a)
  have f5:=am_list_getattr_none
  unfold getAttr? getAttrBy? getAttrBy
  repeat (any_goals (first | assumption | exact hT _ | ((with_reducible show wpAny _ _ (call (Value.builtin "list.__getattribute__") _ _) _ _ _); refine call_meets F.slot_list_getattribute (hT _) am_entry_list_getattribute (F.args_list_getattribute_2 _ _) (meets_getattribute_miss_list a xs k #[] name _ hmiss hname hsz) ⟨hx,hA,fun h' tk' e hx'=>?_⟩) | wp_step))
  obtain ⟨t',u',he⟩:=hx'.there
  show wpAny _ _ (getattributeRaised _ _ _ _ _ _ _) _ _ _
  unfold getattributeRaised
  repeat (any_goals (first | assumption | wp_step))
  exact h h' tk' fun b o e=>hx'.keeps b o e
theorem zKy {κ : Type} [DecidableEq κ] (knd : KeyKind prog w κ) (hh : A.handled = none) {d it l : Addr} {items : Array Value} {ps : List (κ × Value)} {R : Result → Shared → Prop} (hdi : d ≠ it) (hdl : d ≠ l) (hil : it ≠ l) (hps : ps.length = items.size) :
    ∀ (n i : Nat) (s : Shared) (kvs : List (κ × Value)),items.size - i = n → i ≤ items.size → s.heap.IsListIter it l i → s.heap.IsList l items →
      (∀ (j : Nat) k v,ps[j]? = some (k,v) → ∃ a key,items[j]? = some (.ref a) ∧ a ≠ d ∧ a ≠ it ∧ IsTup s.heap a #[key,v] ∧ knd.is k key = true) → s.heap.DictOf knd d kvs → kvs.length + n ≤ sizeLine →
      (∀ h' tk,h'.DictOf knd d ((ps.drop i).foldl (fun m kv=>stored m kv.1 kv.2) kvs) → (∀ b o,b ≠ d → b ≠ it → s.heap.get? b = some o → h'.get? b = some o) → R (.ok (.ret .none)) { s with heap:=h',toks:=tk }) →
      codeAny (model prog w) A (.builtin "dict.update.loop" ⟨[.ref d, .ref it,rawInt i, .none],[]⟩) R s:=by
  intro n
  induction n with
  | zero =>
    intro i s kvs hn hi hit hl hp hd hz hR
    refine codeAny_builtin qU ?_
    rw [Around.under_plainId wE _]
    unfold Builtin.«dict.update.loop»
    show wpAny _ A.in1 (pyNext (.ref it) >>= _) _ _ s
    refine wpAny_bind (wpAny_pyNext_list_end (show A.in1.handled = none from hh) hit hl (by simp; omega) fun h' eb=>?_)
    show wpAny _ _ (Builtin.Dict.addKeywords d [] >>= fun _=>ret .none) _ _ _
    refine wpAny_bind (wpAny_pure (wpAny_pure (hR h' _ ?_ fun b o hb hi' e=>eb b o hi' e)))
    rw [List.drop_eq_nil_of_le (by omega)]
    exact hd.extBut eb hdi
  | succ n ih =>
    intro i s kvs hn hi hit hl hp hd hz hR
    refine codeAny_builtin qU ?_
    rw [Around.under_plainId wE _]
    unfold Builtin.«dict.update.loop»
    have hlt : i < items.size:=by omega
    obtain ⟨kv,hkv⟩ : ∃ kv,ps[i]? = some kv:=⟨ps[i],by simp [hps,hlt]⟩
    obtain ⟨a,key,ha,had,hai,ht,hk⟩:=hp i kv.1 kv.2 hkv
    show wpAny _ A.in1 (pyNext (.ref it) >>= _) _ _ s
    refine wpAny_bind (wpAny_pyNext_list_item hit hl (x:=.ref a) ha fun h' st' sb=>?_)
    show wpAny _ _ (holding [Value.ref a] (Sem.tryCatch (Builtin.Dict.pairItems (.ref a)) _ >>= _) >>= fun _=>again _) _ _ _
    have kp : ∀ b o,b ≠ it → s.heap.get? b = some o → h'.get? b = some o:=fun b o hb e=>(sb.2 b hb).trans e
    obtain ⟨o,ho,hc,m,hdat⟩:=id ht
    refine wpAny_bind (wpAny_holding (wpAny_bind (wpAny_tryCatch ?_)))
    unfold Builtin.Dict.pairItems
    refine wpAny_bind (wpAny_typeOf (T:="tuple") ⟨o,kp a o hai ho,hc⟩ ?_)
    rw [if_pos (by decide)]
    refine wpAny_bind (wpAny_seqItems (kp a o hai ho) hdat (wpAny_pure ?_))
    show wpAny _ _ (holding [key,kv.2] (dictSet d key kv.2)) _ _ _
    refine wpAny_holding (wpAny_dictSet_pairs hk (hd.sameBut sb hdi) (fun h2 hd2 sb2=>?_) (by omega))
    have kp2 : ∀ b o,b ≠ d → b ≠ it → s.heap.get? b = some o → h2.get? b = some o:=fun b o hb hi' e=>(sb2.2 b hb).trans (kp b o hi' e)
    have hc' : ((i : Int) + 1) = ((i + 1 : Nat) : Int):=by omega
    rw [hc']
    refine wpAny_pure ⟨plainId_quiet wE _,ih (i + 1) _ (stored kvs kv.1 kv.2) (by omega) (by omega) ?_ ?_ ?_ hd2 ?_ ?_⟩
    · exact st'.at fun o e=>(sb2.2 it (Ne.symm hdi)).trans e
    · obtain ⟨ol,e1,e2⟩:=hl
      exact ⟨ol,kp2 l ol (Ne.symm hdl) (Ne.symm hil) e1,e2⟩
    · intro j k v e
      obtain ⟨a',key',x1,x2,x3,⟨o',y1,y2⟩,x5⟩:=hp j k v e
      exact ⟨a',key',x1,x2,x3,⟨o',kp2 a' o' x2 x3 y1,y2⟩,x5⟩
    · have : (stored kvs kv.1 kv.2).length ≤ kvs.length + 1:=by
        unfold stored
        split <;> simp
      omega
    · intro h3 tk hd3 k3
      refine hR h3 tk ?_ fun b o hb hi' e=>k3 b o hb hi' (kp2 b o hb hi' e)
      have e : ps.drop i = kv :: ps.drop (i + 1):=by
        obtain ⟨hlt',e'⟩:=List.getElem?_eq_some_iff.mp hkv
        rw [List.drop_eq_getElem_cons hlt',e']
      rw [e,List.foldl_cons]
      exact hd3
end
section
variable {X : Cx}
theorem zCn {P : Program} {w : World} {H : Hp} {h : Heap} (ok : HOk P w H h) : ∀ {kvs : List (Key × V)} {ys : List V} {its : List Value},Vals ys its → kvs.length = ys.length → (∀ (j : Nat) kv,kvs[j]? = some kv → ∃ a,ys[j]? = some (.ref a) ∧ H a = some (.tup [kV kv.1,kv.2])) →
    ∃ ps : List (Key × Value),KV kvs ps ∧ ∀ (j : Nat) k v,ps[j]? = some (k,v) → ∃ a key,its[j]? = some (.ref a) ∧ IsTup h a #[key,v] ∧ (mixKind P w).is k key = true
  | [],[],_, .nil,_,_=>⟨[], .nil,fun j k v e=>by simp at e⟩
  | kv :: kvs,y :: ys,_, .cons r t,hl,hp=>by
    obtain ⟨ps,rel,h2⟩:=zCn ok (kvs:=kvs) t (by simpa using hl) fun j kv' e=>by
      obtain ⟨a,e1,e2⟩:=hp (j + 1) kv' (by simpa using e)
      exact ⟨a,by simpa using e1,e2⟩
    obtain ⟨a,e1,e2⟩:=hp 0 kv rfl
    simp only [List.getElem?_cons_zero,Option.some.injEq] at e1
    subst e1
    cases r
    obtain ⟨_,its2,rv,pl⟩:=(show ObjOk P w H h a (.tup [kV kv.1,kv.2]) from ok a _ e2)
    obtain ⟨u1,u2,e3,r1,r2⟩:=kR rv
    subst e3
    refine ⟨(kv.1,u2) :: ps, .cons ⟨rfl,r2⟩ rel,fun j k v e=>?_⟩
    cases j with
    | zero =>
      simp only [List.getElem?_cons_zero,Option.some.injEq,Prod.mk.injEq] at e
      obtain ⟨rfl,rfl⟩:=e
      exact ⟨a,u1,rfl,pl,kE r1⟩
    | succ j=>simpa using h2 j k v (by simpa using e)
  | [],_ :: _,_,_,hl,_=>by simp at hl
  | _ :: _,[],_,_,hl,_=>by simp at hl
theorem vC (hc : X.calm = true) : CallR X (.type "dict") (fun xs H Q=>∃ (p : Addr) (ys : List V) (kvs : List (Key × V)),xs = [.ref p] ∧ H p = some (.lst ys) ∧ kvs.length = ys.length ∧ (∀ (j : Nat) kv,kvs[j]? = some kv → ∃ a,ys[j]? = some (.ref a) ∧ H a = some (.tup [kV kv.1,kv.2])) ∧
    ∀ l,H l = none → Q (.ref l) (upd H l (.dK (mergeK [] kvs)))):=by
  intro pins s σ H xs us Q I r h
  obtain ⟨p,ys,kvs,rfl,hq,hlen,hpair,q⟩:=h
  obtain ⟨u,rfl,rx⟩:=wZ r
  cases rx
  obtain ⟨hz,its,n,rv,hg⟩:=(show ObjOk X.prog X.w H s.heap p (.lst ys) from I.hok p _ hq)
  obtain ⟨ps,rel,hps⟩:=zCn I.hok rv hlen hpair
  have hl1:=rv.length
  have hl2:=rel.length
  have hplt : p < s.heap.objs.size:=Heap.lt_size hg
  refine callType_codes (Q₁:=fun obj s₁=>obj = .ref s.heap.objs.size ∧ s₁ = { s with heap:=s.heap.push { cls:=.type "dict",data:=.dict #[] } }) F.kt_called_dict (F.kt_typeCall_dict_1 _) F.entry_dict_init (kt_code_dict_new _ ⟨rfl,rfl⟩) ?_
  rintro obj s₁ ⟨rfl,rfl⟩
  have hnew : (s.heap.push { cls:=.type "dict",data:=.dict #[] }).DictOf (mixKind X.prog X.w) s.heap.objs.size []:=Heap.DictOf.new s.heap
  have hg1:=Heap.get?_push_of_some { cls:=.type "dict",data:=.dict #[] } hg
  refine ⟨hnew.typeIs,F.args_dict_init_2 _ _, ?_⟩
  unfold Builtin.«dict.__init__»
  refine wpAny_bind ?_
  unfold Builtin.Dict.selfAndRest
  refine wpAny_bind (wpAny_notOrdered_dict hnew.typeIs ?_)
  show wpAny _ _ (pure (s.heap.objs.size,[Value.ref p])) _ _ _
  refine wpAny_pure ?_
  show wpAny _ _ (Builtin.Dict.updateFrom "dict.__init__" s.heap.objs.size (.ref p) [] .none) _ _ _
  unfold Builtin.Dict.updateFrom
  refine wpAny_bind (wpAny_typeOf (T:="list") ⟨_,hg1,rfl⟩ ?_)
  rw [if_pos (by decide)]
  refine wpAny_bind (zGh hg1 zBc (by decide +kernel) (I.ok.hd hc) (fun h2 tk2 k2=>?_))
  rw [if_pos (by rfl)]
  refine wpAny_bind (wpAny_rule (wpAny_bind (wpAny_pyIter_list (items:=its.toArray) ⟨_,k2 _ _ hg1,rfl,n,rfl⟩ ?_)))
  have k1 : ∀ b o,s.heap.get? b = some o → h2.get? b = some o:=fun b o e=>k2 b o (Heap.get?_push_of_some _ e)
  have hd2 : s.heap.objs.size < h2.objs.size:=Heap.lt_size (k2 _ _ (Heap.get?_push_size _ rfl))
  have hpl : ∀ b o,h2.get? b = some o → (h2.push { cls:=.type "list_iterator",data:=.fields #[.ref p, .int 0 0] }).get? b = some o:=fun b o e=>Heap.get?_push_of_some _ e
  refine wpAny_pure ⟨plainId_quiet wE _,zKy (mixKind X.prog X.w) (show X.A.in1.handled = none from I.ok.hd hc) (d:=s.heap.objs.size) (it:=h2.objs.size) (l:=p) (items:=its.toArray) (ps:=ps) (Nat.ne_of_lt hd2) (Nat.ne_of_gt hplt) (Nat.ne_of_gt (Nat.lt_trans hplt hd2)) (by simp; omega) _ 0 _ [] rfl (Nat.zero_le _) ?_ ?_ ?_ ?_ ?_ ?_⟩
  · exact ⟨_,Heap.get?_push_size _ rfl,rfl,rfl⟩
  · exact ⟨_,hpl _ _ (k2 _ _ hg1),rfl,n,rfl⟩
  · intro j k v e
    obtain ⟨a,key,e1,⟨o,e2,e3⟩,e4⟩:=hps j k v e
    have hlt:=Heap.lt_size e2
    exact ⟨a,key,by simpa using e1,Nat.ne_of_lt hlt,Nat.ne_of_lt (Nat.lt_trans hlt hd2),⟨o,hpl _ _ (k1 _ _ e2),e3⟩,e4⟩
  · obtain ⟨o,es,ep,ho,rest⟩:=hnew
    exact ⟨o,es,ep,hpl _ _ (k2 _ _ ho),rest⟩
  · simp; omega
  · intro h3 tk3 hd3 k3
    rw [List.drop_zero] at hd3
    have k4 : ∀ b o,s.heap.get? b = some o → h3.get? b = some o:=fun b o e=>k3 b o (Nat.ne_of_lt (Heap.lt_size e)) (Nat.ne_of_lt (Nat.lt_trans (Heap.lt_size e) hd2)) (hpl _ _ (k1 _ _ e))
    refine ⟨rfl, .ref s.heap.objs.size,_,I.laid (t':=tk3) k4 (Nat.le_refl _) (o:=.dK (mergeK [] kvs)) ?_,rfl,q _ (I.hok.fresh (Nat.le_refl _))⟩
    have hm : (mergeK [] kvs).length ≤ kvs.length:=by
      have:=vE kvs []
      simpa using this
    exact zBa (by omega) (beq_eq_false_iff_ne.mpr (Ne.symm (Nat.ne_of_lt I.big))) (KV.merge rel .nil) hd3
end
structure Bl2 (mg : Str → Option Value) : Prop extends Bl mg where
  max : mg "max" = none
  min : mg "min" = none
  sorted : mg "sorted" = none
def mxI (b z : Int) : Int:=if z > b then z else b
def mxD (k : Int) : List Int → Int
  | []=>k
  | b :: r=>r.foldl mxI b
section
variable {prog : Program} {w : World} {A : Around}
end
section
variable {X : Cx}
def rMaxD (K : PySem.W.Frag) : V → V → Hp → VK → Prop:=fun x y H Q=>∃ (p : Addr) (ns : List Int) (k : Int),x = .ref p ∧ y = .int k ∧ SqL K H p (ns.map V.int) ∧ Q (.int (mxD k ns)) H
variable {e d : Expr} {te td : TE} {p kp pos : Pos}
def tMaxD (K : PySem.W.Frag) (te td : TE) : TE:=fun σ H Q=>te σ H fun x H1=>td σ H1 fun y H2=>rMaxD K x y H2 Q
end
end L2
namespace L2
open PySem PySem.Spec PyProof.Rows
mutual
def T.dep : T → Nat
  | .lst ts=>T.deps ts + 1
  | .dic _ ts=>T.deps ts + 1
  | .tup ts=>T.deps ts + 1
  | .non=>0
  | .bl _=>0
  | .int _=>0
  | .str _=>0
def T.deps : List T → Nat
  | []=>0
  | t :: ts=>max (T.dep t) (T.deps ts)
end
mutual
def T.pure : T → Prop
  | .tup _=>False
  | .lst ts=>T.pures ts
  | .dic ks ts=>ks.Nodup ∧ T.pures ts
  | .non=>True
  | .bl _=>True
  | .int _=>True
  | .str _=>True
def T.pures : List T → Prop
  | []=>True
  | t :: ts=>T.pure t ∧ T.pures ts
end
theorem T.deps_le {t : T} : ∀ {ts : List T},t ∈ ts → T.dep t ≤ T.deps ts
  | [],h=>nomatch h
  | u :: ts,h=>by
    show T.dep t ≤ max (T.dep u) (T.deps ts)
    rcases List.mem_cons.mp h with e | e
    · subst e; exact Nat.le_max_left _ _
    · exact Nat.le_trans (T.deps_le e) (Nat.le_max_right _ _)
section
variable {P : Program} {w : World}
open AutoSeq1 (wpAny_loadPart')
open MeetsSeq MeetsSeq2 MeetsSeq3 SeqRoads2 SeqAt
end
section
variable {X : Cx} {pins : List (Addr × Obj)} {σ : St} {H : Hp} {s : Shared}
theorem xS {ks : List (List Nat)} (h : ks.Nodup) : (ks.map nK).Nodup:=by
  induction ks with
  | nil=>exact List.nodup_nil
  | cons k r ih =>
    rw [List.nodup_cons] at h
    rw [List.map_cons,List.nodup_cons]
    refine ⟨fun hm=>?_,ih h.2⟩
    obtain ⟨k',hk,e⟩:=List.mem_map.mp hm
    exact h.1 (qW e ▸ hk)
def rEq0 (K : PySem.W.Frag) (neg : Bool) : R2:=fun x y H Q=>∃ a b xs,x = .ref a ∧ y = .ref b ∧ SqL K H a xs ∧ SqL K H b [] ∧ Q (.bl (if neg then !xs.isEmpty else xs.isEmpty)) H
theorem zLg (hu : X.A.units < cLine) : OpR X (compareOp .Eq) (rEq0 X.K false):=by
  intro pins s σ H x y v u Q I rx ry h
  obtain ⟨a,b,xs,rfl,rfl,ha,hb,q⟩:=h
  cases rx; cases ry
  obtain ⟨us,r1,pl1,_⟩:=I.list ha
  obtain ⟨vs,r2,pl2,_⟩:=I.list hb
  cases r2
  cases xs with
  | nil =>
    cases r1
    exact SeqAt.eq_listAt (e:=fun _=>true) pl1.isList pl2.isList rfl hu (fun j h1=>absurd h1 (by simp)) ⟨.bl true,H,I,rfl,q⟩
  | cons x xs =>
    have n1:=r1.length
    exact SeqAt.eq_list_lengthsAt pl1.isList pl2.isList (by simp [← n1]) hu ⟨.bl false,H,I,rfl,q⟩
theorem zAz (hu : X.A.units < cLine) : OpR X (compareOp .NotEq) (rEq0 X.K true):=by
  intro pins s σ H x y v u Q I rx ry h
  obtain ⟨a,b,xs,rfl,rfl,ha,hb,q⟩:=h
  cases rx; cases ry
  obtain ⟨us,r1,pl1,_⟩:=I.list ha
  obtain ⟨vs,r2,pl2,_⟩:=I.list hb
  cases r2
  cases xs with
  | nil =>
    cases r1
    exact SeqAt.RcNeAt.lists (e:=fun _=>true) pl1.isList pl2.isList rfl hu (fun j h1=>absurd h1 (by simp)) X.prog X.w X.xe _ ⟨.bl false,H,I,rfl,q⟩
  | cons x xs =>
    have n1:=r1.length
    exact SeqAt.RcNeAt.lists_lengths pl1.isList pl2.isList (by simp [← n1]) hu X.prog X.w X.xe _ ⟨.bl true,H,I,rfl,q⟩
end
end L2
namespace L2
open PySem PySem.Spec PyProof.Rows
mutual
def T.sz : T → Nat
  | .lst ts=>T.szs ts + 1
  | .dic _ ts=>T.szs ts + 1
  | .tup ts=>T.szs ts + 1
  | .non=>1
  | .bl _=>1
  | .int _=>1
  | .str _=>1
def T.szs : List T → Nat
  | []=>0
  | t :: ts=>T.sz t + T.szs ts
end
mutual
def Occ (H : Hp) (d : Addr) : V → T → Prop
  | v, .lst ts=>v = .ref d ∨ ∃ a vs,v = .ref a ∧ H a = some (.lst vs) ∧ Occs H d vs ts
  | v, .dic _ ts=>v = .ref d ∨ ∃ a ps,v = .ref a ∧ H a = some (.dK ps) ∧ Occs H d (ps.map (·.2)) ts
  | v, .tup ts=>v = .ref d ∨ ∃ a vs,v = .ref a ∧ H a = some (.tup vs) ∧ Occs H d vs ts
  | _, .non=>False
  | _, .bl _=>False
  | _, .int _=>False
  | _, .str _=>False
def Occs (H : Hp) (d : Addr) : List V → List T → Prop
  | v :: vs,t :: ts=>Occ H d v t ∨ Occs H d vs ts
  | _,_=>False
end
mutual
theorem Rep.away {H : Hp} {d : Addr} {o : HO} : ∀ (x : V) (t : T),Rep H x t → ¬ Occ H d x t → Rep (upd H d o) x t
  | _, .non,h,_=>h
  | _, .bl _,h,_=>h
  | _, .int _,h,_=>h
  | _, .str _,h,_=>h
  | x, .lst ts,⟨a,vs,e,ha,hs⟩,n=>by
    have ne : a ≠ d:=fun z=>n (.inl (by rw [e,z]))
    exact ⟨a,vs,e,by rw [zM ne]; exact ha,Reps.away vs ts hs fun z=>n (.inr ⟨a,vs,e,ha,z⟩)⟩
  | x, .dic ks ts,⟨a,ps,e,ha,hk,hs⟩,n=>by
    have ne : a ≠ d:=fun z=>n (.inl (by rw [e,z]))
    exact ⟨a,ps,e,by rw [zM ne]; exact ha,hk,Reps.away _ ts hs fun z=>n (.inr ⟨a,ps,e,ha,z⟩)⟩
  | x, .tup ts,⟨a,vs,e,ha,hs⟩,n=>by
    have ne : a ≠ d:=fun z=>n (.inl (by rw [e,z]))
    exact ⟨a,vs,e,by rw [zM ne]; exact ha,Reps.away vs ts hs fun z=>n (.inr ⟨a,vs,e,ha,z⟩)⟩
theorem Reps.away {H : Hp} {d : Addr} {o : HO} : ∀ (xs : List V) (ts : List T),Reps H xs ts → ¬ Occs H d xs ts → Reps (upd H d o) xs ts
  | _,[],h,_=>h
  | _,t :: ts,⟨x,xr,e,h1,h2⟩,n=>by
    subst e
    exact ⟨x,xr,rfl,Rep.away x t h1 fun z=>n (.inl z),Reps.away xr ts h2 fun z=>n (.inr z)⟩
end
mutual
theorem Occ.sub {H : Hp} {d : Addr} : ∀ (x : V) (t : T),Rep H x t → Occ H d x t → ∃ t',Rep H (.ref d) t' ∧ T.sz t' ≤ T.sz t
  | _, .non,_,h=>h.elim
  | _, .bl _,_,h=>h.elim
  | _, .int _,_,h=>h.elim
  | _, .str _,_,h=>h.elim
  | x, .lst ts,hr,h=>by
    rcases h with e | ⟨a,vs,e,ha,h⟩
    · exact ⟨.lst ts,e ▸ hr,Nat.le_refl _⟩
    · obtain ⟨a',vs',e',ha',hs⟩:=hr
      rw [e] at e'; cases e'
      rw [ha] at ha'; cases ha'
      obtain ⟨t',q,l⟩:=Occs.sub vs ts hs h
      exact ⟨t',q,Nat.le_succ_of_le l⟩
  | x, .dic ks ts,hr,h=>by
    rcases h with e | ⟨a,vs,e,ha,h⟩
    · exact ⟨.dic ks ts,e ▸ hr,Nat.le_refl _⟩
    · obtain ⟨a',vs',e',ha',_,hs⟩:=hr
      rw [e] at e'; cases e'
      rw [ha] at ha'; cases ha'
      obtain ⟨t',q,l⟩:=Occs.sub _ ts hs h
      exact ⟨t',q,Nat.le_succ_of_le l⟩
  | x, .tup ts,hr,h=>by
    rcases h with e | ⟨a,vs,e,ha,h⟩
    · exact ⟨.tup ts,e ▸ hr,Nat.le_refl _⟩
    · obtain ⟨a',vs',e',ha',hs⟩:=hr
      rw [e] at e'; cases e'
      rw [ha] at ha'; cases ha'
      obtain ⟨t',q,l⟩:=Occs.sub vs ts hs h
      exact ⟨t',q,Nat.le_succ_of_le l⟩
theorem Occs.sub {H : Hp} {d : Addr} : ∀ (xs : List V) (ts : List T),Reps H xs ts → Occs H d xs ts → ∃ t',Rep H (.ref d) t' ∧ T.sz t' ≤ T.szs ts
  | xs,[],_,h=>by cases xs <;> exact h.elim
  | _,t :: ts,⟨x,xr,e,h1,h2⟩,h=>by
    subst e
    rcases h with h | h
    · obtain ⟨t',q,l⟩:=Occ.sub x t h1 h
      exact ⟨t',q,Nat.le_trans l (Nat.le_add_right _ _)⟩
    · obtain ⟨t',q,l⟩:=Occs.sub xr ts h2 h
      exact ⟨t',q,Nat.le_trans l (Nat.le_add_left _ _)⟩
end
theorem zFf : ∀ {a b : List (List Nat)},a.map nK = b.map nK → a = b
  | [],[],_=>rfl
  | [],_ :: _,h=>by simp at h
  | _ :: _,[],h=>by simp at h
  | x :: a,y :: b,h=>by
    rw [List.map_cons,List.map_cons] at h
    injection h with h1 h2
    rw [qW h1,zFf h2]
mutual
theorem Rep.one {H : Hp} : ∀ (t : T) (x : V) (t' : T),Rep H x t → Rep H x t' → t = t'
  | .non,x,t',h,h'=>by
    cases (show x = .non from h)
    cases t' with
    | non=>rfl
    | bl b=>cases (show V.non = .bl b from h')
    | int b=>cases (show V.non = .int b from h')
    | str b=>cases (show V.non = .str (tx b) from h')
    | lst ts=>obtain ⟨a,vs,e,_⟩:=h'; cases e
    | dic ks ts=>obtain ⟨a,vs,e,_⟩:=h'; cases e
    | tup ts=>obtain ⟨a,vs,e,_⟩:=h'; cases e
  | .bl c,x,t',h,h'=>by
    cases (show x = .bl c from h)
    cases t' with
    | non=>cases (show V.bl c = .non from h')
    | bl b=>cases (show V.bl c = .bl b from h'); rfl
    | int b=>cases (show V.bl c = .int b from h')
    | str b=>cases (show V.bl c = .str (tx b) from h')
    | lst ts=>obtain ⟨a,vs,e,_⟩:=h'; cases e
    | dic ks ts=>obtain ⟨a,vs,e,_⟩:=h'; cases e
    | tup ts=>obtain ⟨a,vs,e,_⟩:=h'; cases e
  | .int c,x,t',h,h'=>by
    cases (show x = .int c from h)
    cases t' with
    | non=>cases (show V.int c = .non from h')
    | bl b=>cases (show V.int c = .bl b from h')
    | int b=>cases (show V.int c = .int b from h'); rfl
    | str b=>cases (show V.int c = .str (tx b) from h')
    | lst ts=>obtain ⟨a,vs,e,_⟩:=h'; cases e
    | dic ks ts=>obtain ⟨a,vs,e,_⟩:=h'; cases e
    | tup ts=>obtain ⟨a,vs,e,_⟩:=h'; cases e
  | .str c,x,t',h,h'=>by
    cases (show x = .str (tx c) from h)
    cases t' with
    | non=>cases (show V.str (tx c) = .non from h')
    | bl b=>cases (show V.str (tx c) = .bl b from h')
    | int b=>cases (show V.str (tx c) = .int b from h')
    | str b =>
      have e : V.str (tx c) = .str (tx b):=h'
      injection e with e
      have e2 : ts (tx c) = ts (tx b):=by rw [e]
      rw [wT,wT] at e2
      rw [e2]
    | lst ts=>obtain ⟨a,vs,e,_⟩:=h'; cases e
    | dic ks ts=>obtain ⟨a,vs,e,_⟩:=h'; cases e
    | tup ts=>obtain ⟨a,vs,e,_⟩:=h'; cases e
  | .lst us,x,t',⟨a,vs,e,ha,hs⟩,h'=>by
    subst e
    cases t' with
    | non=>cases (show V.ref a = .non from h')
    | bl b=>cases (show V.ref a = .bl b from h')
    | int b=>cases (show V.ref a = .int b from h')
    | str b=>cases (show V.ref a = .str (tx b) from h')
    | lst ts =>
      obtain ⟨a',vs',e',ha',hs'⟩:=h'
      cases e'
      rw [ha] at ha'; cases ha'
      rw [Reps.one us vs ts hs hs']
    | dic ks ts=>obtain ⟨a',vs',e',ha',_⟩:=h'; cases e'; rw [ha] at ha'; cases ha'
    | tup ts=>obtain ⟨a',vs',e',ha',_⟩:=h'; cases e'; rw [ha] at ha'; cases ha'
  | .dic js us,x,t',⟨a,vs,e,ha,hk,hs⟩,h'=>by
    subst e
    cases t' with
    | non=>cases (show V.ref a = .non from h')
    | bl b=>cases (show V.ref a = .bl b from h')
    | int b=>cases (show V.ref a = .int b from h')
    | str b=>cases (show V.ref a = .str (tx b) from h')
    | lst ts=>obtain ⟨a',vs',e',ha',_⟩:=h'; cases e'; rw [ha] at ha'; cases ha'
    | dic ks ts =>
      obtain ⟨a',vs',e',ha',hk',hs'⟩:=h'
      cases e'
      rw [ha] at ha'; cases ha'
      rw [Reps.one us _ ts hs hs',zFf (hk.symm.trans hk')]
    | tup ts=>obtain ⟨a',vs',e',ha',_⟩:=h'; cases e'; rw [ha] at ha'; cases ha'
  | .tup us,x,t',⟨a,vs,e,ha,hs⟩,h'=>by
    subst e
    cases t' with
    | non=>cases (show V.ref a = .non from h')
    | bl b=>cases (show V.ref a = .bl b from h')
    | int b=>cases (show V.ref a = .int b from h')
    | str b=>cases (show V.ref a = .str (tx b) from h')
    | lst ts=>obtain ⟨a',vs',e',ha',_⟩:=h'; cases e'; rw [ha] at ha'; cases ha'
    | dic ks ts=>obtain ⟨a',vs',e',ha',_⟩:=h'; cases e'; rw [ha] at ha'; cases ha'
    | tup ts =>
      obtain ⟨a',vs',e',ha',hs'⟩:=h'
      cases e'
      rw [ha] at ha'; cases ha'
      rw [Reps.one us vs ts hs hs']
theorem Reps.one {H : Hp} : ∀ (us : List T) (xs : List V) (ts : List T),Reps H xs us → Reps H xs ts → us = ts
  | [],xs,ts,h,h'=>by
    cases (show xs = [] from h)
    cases ts with
    | nil=>rfl
    | cons t ts=>obtain ⟨x,r,e,_⟩:=h'; cases e
  | u :: us,xs,ts,⟨x,r,e,h1,h2⟩,h'=>by
    subst e
    cases ts with
    | nil=>cases (show x :: r = [] from h')
    | cons t ts =>
      obtain ⟨x',r',e',h1',h2'⟩:=h'
      cases e'
      rw [Rep.one u x t h1 h1',Reps.one us r ts h2 h2']
end
theorem Reps.dic_away {H : Hp} {d : Addr} {o : HO} {ps : List (Key × V)} {ks : List (List Nat)} {ts : List T} (hd : H d = some (.dK ps)) (hk : ps.map (·.1) = ks.map nK) (h : Reps H (ps.map (·.2)) ts) : Reps (upd H d o) (ps.map (·.2)) ts:=by
  refine Reps.away _ ts h fun z=>?_
  obtain ⟨t',q,l⟩:=Occs.sub _ ts h z
  have e:=Rep.one (.dic ks ts) (.ref d) t' ⟨d,ps,rfl,hd,hk,h⟩ q
  rw [← e] at l
  exact absurd l (Nat.not_le_of_lt (Nat.lt_succ_self _))
theorem qI : ∀ {vs : List (Key × V)} {i : Nat} {k : Key} {y : V},(vs.map (·.1)).Nodup → vs[i]? = some (k,y) → valV vs k = some y
  | [],i,k,y,_,h=>by simp at h
  | p :: vs,0,k,y,_,h=>by
    simp only [List.getElem?_cons_zero,Option.some.injEq] at h
    subst h
    exact xA rfl
  | p :: vs,i + 1,k,y,nd,h=>by
    rw [List.map_cons,List.nodup_cons] at nd
    have h' : vs[i]? = some (k,y):=by simpa using h
    have ne : ¬ p.1 = k:=fun e=>nd.1 (List.mem_map.mpr ⟨(k,y),List.mem_of_getElem? h',e.symm⟩)
    rw [yY ne]
    exact qI nd.2 h'
theorem xT : ∀ (more kvs : List (Key × V)),((kvs ++ more).map (·.1)).Nodup → mergeK kvs more = kvs ++ more
  | [],kvs,_=>by show kvs = _; rw [List.append_nil]
  | p :: r,kvs,h=>by
    show mergeK (putK kvs p.1 p.2) r = _
    have hn : valV kvs p.1 = none:=by
      cases e : valV kvs p.1 with
      | none=>rfl
      | some v =>
        have hm:=zKs e
        rw [List.map_append,List.nodup_append] at h
        exact absurd rfl (h.2.2 p.1 hm p.1 (by simp))
    rw [zHn _ hn,xT r (kvs ++ [(p.1,p.2)]) (by rw [List.append_assoc]; exact h),List.append_assoc]
    rfl
mutual
theorem Nice.dep : ∀ (t : T) {d : Nat},Nice d t → T.dep t ≤ d
  | .non,_,_=>Nat.zero_le _
  | .bl _,_,_=>Nat.zero_le _
  | .int _,_,_=>Nat.zero_le _
  | .str _,_,_=>Nat.zero_le _
  | .lst ts,d,h=>by
    have:=NiceL.dep ts h.2.2
    have:=h.1
    show T.deps ts + 1 ≤ d
    omega
  | .dic ks ts,d,h=>by
    have:=NiceL.dep ts h.2.2.2.2.2
    have:=h.1
    show T.deps ts + 1 ≤ d
    omega
  | .tup _,_,h=>h.elim
theorem NiceL.dep : ∀ (ts : List T) {d : Nat},NiceL d ts → T.deps ts ≤ d
  | [],_,_=>Nat.zero_le _
  | t :: ts,_,h=>Nat.max_le.mpr ⟨Nice.dep t h.1,NiceL.dep ts h.2⟩
end
theorem vK (d : Nat) : 1 ≤ 5 ^ d:=Nat.one_le_pow _ _ (by decide)
mutual
theorem Nice.sz : ∀ (t : T) {d : Nat},Nice d t → T.sz t ≤ 5 ^ d
  | .non,d,_=>vK d
  | .bl _,d,_=>vK d
  | .int _,d,_=>vK d
  | .str _,d,_=>vK d
  | .lst ts,d,h=>by
    obtain ⟨h1,h2,h3⟩:=h
    obtain ⟨e,rfl⟩ : ∃ e,d = e + 1:=⟨d - 1,by omega⟩
    have:=NiceL.sz ts h3
    have p:=vK e
    show T.szs ts + 1 ≤ 5 ^ (e + 1)
    rw [Nat.add_sub_cancel] at this
    have q : ts.length * 5 ^ e ≤ 4 * 5 ^ e:=Nat.mul_le_mul_right _ h2
    rw [Nat.pow_succ]; omega
  | .dic ks ts,d,h=>by
    obtain ⟨h1,h2,_,_,_,h3⟩:=h
    obtain ⟨e,rfl⟩ : ∃ e,d = e + 1:=⟨d - 1,by omega⟩
    have:=NiceL.sz ts h3
    have p:=vK e
    show T.szs ts + 1 ≤ 5 ^ (e + 1)
    rw [Nat.add_sub_cancel] at this
    have q : ts.length * 5 ^ e ≤ 4 * 5 ^ e:=Nat.mul_le_mul_right _ h2
    rw [Nat.pow_succ]; omega
  | .tup _,_,h=>h.elim
theorem NiceL.sz : ∀ (ts : List T) {d : Nat},NiceL d ts → T.szs ts ≤ ts.length * 5 ^ d
  | [],_,_=>Nat.zero_le _
  | t :: ts,d,h=>by
    have a:=Nice.sz t h.1
    have b:=NiceL.sz ts h.2
    show T.sz t + T.szs ts ≤ (ts.length + 1) * 5 ^ d
    rw [Nat.succ_mul]; omega
end
theorem qM {H : Hp} {a : Addr} {xs : List V} (h : H a = some (.tup xs)) : tyS H (.ref a) = some "tuple":=by
  show (match H a with | some (.lst _)=>some "list" | some (.tup _)=>some "tuple" | some (.dK _)=>some "dict" | _=>none) = _; rw [h]
theorem xM {H : Hp} {a : Addr} {xs : List V} (h : H a = some (.lst xs)) : tyS H (.ref a) = some "list":=by
  show (match H a with | some (.lst _)=>some "list" | some (.tup _)=>some "tuple" | some (.dK _)=>some "dict" | _=>none) = _; rw [h]
theorem xR {H : Hp} {a : Addr} {xs : List (Key × V)} (h : H a = some (.dK xs)) : tyS H (.ref a) = some "dict":=by
  show (match H a with | some (.lst _)=>some "list" | some (.tup _)=>some "tuple" | some (.dK _)=>some "dict" | _=>none) = _; rw [h]
theorem wG {H H' : Hp} (g : Same H H') {v : V} {t : String} (h : tyS H v = some t) : tyS H' v = some t:=by
  cases v with
  | ref a =>
    have h' : (match H a with | some (.lst _)=>some "list" | some (.tup _)=>some "tuple" | some (.dK _)=>some "dict" | _=>none) = some t:=h
    cases e : H a with
    | none=>rw [e] at h'; cases h'
    | some o =>
      rw [e] at h'
      cases o with
      | lst xs=>cases h'; exact xM (g _ _ e)
      | tup xs=>cases h'; exact qM (g _ _ e)
      | dK kvs=>cases h'; exact xR (g _ _ e)
      | _=>cases h'
  | _=>exact h
theorem Same.put {H H' : Hp} {p : Addr} (g : Same H H') (h : H p = none) (o : HO) : Same H (upd H' p o):=fun b u e=>by
  rw [zM (zY e h)]; exact g b u e
theorem T.pures_mem {t : T} : ∀ {ts : List T},T.pures ts → t ∈ ts → T.pure t
  | [],_,h=>nomatch h
  | u :: ts,h,hm=>(List.mem_cons.mp hm).elim (fun e=>e ▸ h.1) (T.pures_mem h.2)
theorem yL {α : Type} {l : List α} {i : Nat} {a : α} (h : l[i]? = some a) : l.take (i + 1) = l.take i ++ [a]:=by rw [List.take_add_one,h]; rfl
theorem T.sz_pos : ∀ t : T,1 ≤ T.sz t
  | .non=>Nat.le_refl _
  | .bl _=>Nat.le_refl _
  | .int _=>Nat.le_refl _
  | .str _=>Nat.le_refl _
  | .lst _=>Nat.le_add_left _ _
  | .dic _ _=>Nat.le_add_left _ _
  | .tup _=>Nat.le_add_left _ _
theorem T.szs_len : ∀ ts : List T,ts.length ≤ T.szs ts
  | []=>Nat.le_refl _
  | t :: ts=>by
    have a:=T.sz_pos t
    have b:=T.szs_len ts
    show ts.length + 1 ≤ T.sz t + T.szs ts
    omega
theorem T.szs_le {t : T} : ∀ {ts : List T},t ∈ ts → T.sz t ≤ T.szs ts
  | [],h=>nomatch h
  | u :: ts,h=>by
    show T.sz t ≤ T.sz u + T.szs ts
    rcases List.mem_cons.mp h with e | e
    · subst e; exact Nat.le_add_right _ _
    · exact Nat.le_trans (T.szs_le e) (Nat.le_add_left _ _)
theorem qJ {H H' : Hp} {d : Addr} {o : Obj} {ps : List (Key × V)} (hd : H d = some (.dK ps)) (g : Same (upd H d (.frz o (.dK ps))) H') : Same H (L2.thaw H H'):=zHk fun b u e=>by
  by_cases hb : b = d
  · subst hb
    rw [hd] at e; cases e
    exact .inr ⟨⟨o,g _ _ zC⟩,by intro o v z; cases z⟩
  · exact .inl (g _ _ (by rw [zM hb]; exact e))
def T.kids : T → List T
  | .lst us=>us
  | .dic _ us=>us
  | _=>[]
def T.next (ts : List T) : List T:=(ts.map T.kids).flatten
theorem T.szs_append : ∀ (a b : List T),T.szs (a ++ b) = T.szs a + T.szs b
  | [],b=>by show T.szs b = 0 + T.szs b; omega
  | t :: a,b=>by
    show T.sz t + T.szs (a ++ b) = T.sz t + T.szs a + T.szs b
    rw [T.szs_append a b]; omega
theorem Reps.append {H : Hp} {ys : List V} {vs : List T} (h' : Reps H ys vs) : ∀ {xs : List V} {us : List T},Reps H xs us → Reps H (xs ++ ys) (us ++ vs)
  | xs,[],h=>by
    cases (show xs = [] from h)
    exact h'
  | _,u :: us,⟨x,r,e,h1,h2⟩=>by
    subst e
    exact ⟨x,r ++ ys,rfl,h1,Reps.append h' h2⟩
def T.holds (t : T) : Bool:=isSub (tyT t) "list" || isSub (tyT t) "dict"
def tMid (t : TS) : TS:=fun D σ H=>∃ M : St → Hp → Prop,t { D with nx:=M } σ H ∧ ∀ σ' H',M σ' H' → D.nx σ' H'
theorem wA {X : Cx} {st : Stmt} {t : TS} (h : PS X st t) : PS X st (tMid t):=by
  intro pins s σ H D I ⟨M,q,m⟩
  refine thn (h pins s σ H _ I q) fun f s1 z=>?_
  cases f with
  | next=>obtain ⟨σ',H',J,q⟩:=z; exact ⟨σ',H',J,m _ _ q⟩
  | brk=>exact z
  | cont=>exact z
  | ret u=>exact z
section
variable {X : Cx}
theorem zFr {P : Program} {w : World} : ∀ {vs : List (Key × Value)} {ks : List Str} {us : List Value},vs.map (·.1) = ks.map Sum.inr → us.length = vs.length → (∀ (j : Nat) (v : Value),us[j]? = some v → ∃ k x,vs[j]? = some (k,x) ∧ (mixKind P w).is k v = true) → StrsAre us ks
  | [],[],[],_,_,_=>.nil
  | p :: vs,k :: ks,u :: us,e,hl,h=>by
    rw [List.map_cons,List.map_cons] at e
    injection e with e1 e2
    obtain ⟨k',x,e3,hk⟩:=h 0 u rfl
    simp only [List.getElem?_cons_zero,Option.some.injEq] at e3
    rw [e3] at e1
    have e4 : k' = Sum.inr k:=e1
    rw [e4] at hk
    obtain ⟨t,et⟩:=(show ∃ t,u = Value.str k t from zBg hk)
    subst et
    exact .cons k t (zFr e2 (by simpa using hl) fun j v hv=>by simpa using h (j + 1) v (by simpa using hv))
  | [],_ :: _,_,e,_,_=>by simp at e
  | _ :: _,[],_,e,_,_=>by simp at e
  | [],[],_ :: _,_,hl,_=>by simp at hl
  | _ :: _,_ :: _,[],_,hl,_=>by simp at hl
theorem zFv : ∀ {us : List Value} {ss : List Str},StrsAre us ss → Vals (ss.map V.str) us
  | _,_, .nil=>.nil
  | _,_, .cons x t r=>.cons ⟨t,rfl⟩ (zFv r)
theorem qT (hc : X.calm = true) : CallR X (.builtin "sorted") (fun xs H Q=>∃ (p : Addr) (kvs : List (Key × V)) (ks : List Str),xs = [.ref p] ∧ Rd H p (.dK kvs) ∧ kvs.map (·.1) = ks.map Sum.inr ∧ ks.length < 64 ∧
    ∀ l ss,H l = none → ss.Perm ks → sortedS ss = true → Q (.ref l) (upd H l (.lst (ss.map V.str)))):=by
  intro pins s σ H xs us Q I r h
  obtain ⟨p,kvs,ks,rfl,hq,hk,h64,q⟩:=h
  obtain ⟨u,rfl,rx⟩:=wZ r
  cases rx
  obtain ⟨z,hd,vs,rel,dd⟩:=qA I.hok hq
  obtain ⟨ep,hat⟩:=dd.dictAt
  have hl:=rel.length
  refine PySem.Calls.call_function_entry kind_sorted plain_sorted entry_sorted (args_sorted1 _) ?_
  unfold Builtin.«sorted»
  refine wpAny_bind (m:=checkCount "sorted" 1 1 _) (wpAny_pure ?_)
  refine wpAny_bind (PySem.W.kdu_collect (A:=X.A.in1) (PySem.W.kdl_dict (knd:=mixKind X.prog X.w) (kvs:=vs) (ep:=ep) hd) (show X.A.in1.handled = none from I.ok.hd hc) hat (by omega) fun h' tk acc hkp hacc=>?_)
  have hlen : acc.toList.length = vs.length:=by rw [Array.length_toList]; exact hacc.1
  have hS : StrsAre acc.toList ks:=zFr (P:=X.prog) (w:=X.w) (by rw [← rel.keys]; exact hk) hlen fun j v e=>hacc.2 j v (by rw [← Array.getElem?_toList]; exact e)
  have hkl : ks.length = vs.length:=by
    have:=congrArg List.length hk
    simp only [List.length_map] at this
    omega
  refine wpAny_bind (wpAny_newList ?_ (by rw [hlen]; omega))
  have hoL : (h'.push (seqObj "list" acc.toList.toArray 0)).get? h'.objs.size = some (seqObj "list" acc.toList.toArray 0):=Heap.get?_push_size _ rfl
  refine wpAny_bind (wpAny_holding (wpAny_call_entry slot_list_sort ⟨_,hoL,rfl⟩ entry_list_sort (list_sort_treeK strKind_oneLt hoL hS.keysOf (fun v₁ v₂ rest e=>keyKind_strs (by rw [← e]; exact hS)) (by omega) fun st' a1 a2=>⟨_,rfl, ?_⟩) (args_list_sort _)))
  refine wpAny_pure ⟨_,rfl, ?_⟩
  obtain ⟨ss',h1,h2,h3⟩:=sorted_out_str hS a1 a2
  have I' : Inv X pins σ H { s with heap:=h',toks:=tk }:=I.kept (t':=tk) hkp
  have hL : h'.objs.size < (h'.push (seqObj "list" acc.toList.toArray 0)).objs.size:=Heap.lt_size hoL
  obtain ⟨e,he⟩:=sortedHeap_at (out:=(arrOf st').map (·.2)) hoL
  have rS : Vals (ss'.map V.str) ((arrOf st').map (·.2)).toList:=zFv h1
  have hp:=h2.length_eq
  refine ⟨.ref h'.objs.size,_,I'.laid (a:=h'.objs.size) (t':=tk) (h':=sortedHeap (h'.push (seqObj "list" acc.toList.toArray 0)) h'.objs.size acc.toList ((arrOf st').map (·.2))) (fun b u eb=>?_) (Nat.le_refl _) (o:=.lst (ss'.map V.str)) ?_,rfl,q _ ss' (I'.hok.fresh (Nat.le_refl _)) h2 h3⟩
  · have lt : b < h'.objs.size:=Heap.lt_size eb
    exact (sortedHeap_old (Nat.ne_of_lt lt) (Nat.lt_trans lt hL)).trans (Heap.get?_push_of_some _ eb)
  · exact ⟨by rw [List.length_map]; omega,_,e,rS,by rw [Array.toArray_toList]; exact he⟩
end
section
variable {X : Cx}
end
def leK (a b : List Nat) : Bool:=!decide (b < a)
theorem zAq (a b c : List Nat) (h1 : leK a b = true) (h2 : leK b c = true) : leK a c = true:=by
  have x1 : a ≤ b:=by simpa [leK] using h1
  have x2 : b ≤ c:=by simpa [leK] using h2
  have:=List.le_trans x1 x2
  simpa [leK] using this
theorem zHh (a b : List Nat) : (leK a b || leK b a) = true:=by
  rcases List.le_total a b with h | h
  · have : leK a b = true:=by simpa [leK] using h
    rw [this]; rfl
  · have : leK b a = true:=by simpa [leK] using h
    rw [this,Bool.or_true]
theorem zJc {a b : List Nat} (h1 : leK a b = true) (h2 : leK b a = true) : a = b:=by
  have x1 : a ≤ b:=by simpa [leK] using h1
  have x2 : b ≤ a:=by simpa [leK] using h2
  exact List.le_antisymm x1 x2
def sortK (ks : List (List Nat)) : List (List Nat):=ks.mergeSort leK
theorem wO (ks : List (List Nat)) : (sortK ks).Perm ks:=List.mergeSort_perm ks leK
theorem zBe (ks : List (List Nat)) : (sortK ks).Pairwise (fun a b=>leK a b = true):=List.pairwise_mergeSort zAq zHh ks
theorem gZ : ∀ {a b : List (List Nat)},a.Perm b → a.Pairwise (fun a b=>leK a b = true) → b.Pairwise (fun a b=>leK a b = true) → a = b
  | [],b,p,_,_=>(List.nil_perm.mp p).symm
  | x :: a,[],p,_,_=>absurd p.length_eq (by simp)
  | x :: a,y :: b,p,h1,h2=>by
    rw [List.pairwise_cons] at h1 h2
    have hx : x ∈ y :: b:=p.mem_iff.mp List.mem_cons_self
    have hy : y ∈ x :: a:=p.mem_iff.mpr List.mem_cons_self
    have e : x = y:=by
      rcases List.mem_cons.mp hx with z | z
      · exact z
      · rcases List.mem_cons.mp hy with z' | z'
        · exact z'.symm
        · exact zJc (h1.1 y z') (h2.1 x z)
    subst e
    rw [gZ p.cons_inv h1.2 h2.2]
theorem kD : ∀ (p : Str) (l : List Str),risingS p l = true → ((p :: l).map ts).Pairwise (fun a b=>leK a b = true)
  | p,[],_=>List.pairwise_singleton _ _
  | p,x :: r,h=>by
    have h' : (!ltCps x.cps.toList p.cps.toList && risingS x r) = true:=h
    rw [Bool.and_eq_true] at h'
    have ih:=kD x r h'.2
    have hpx : leK (ts p) (ts x) = true:=by
      have:=h'.1
      rw [ltCps_eq] at this
      exact this
    rw [List.map_cons,List.pairwise_cons]
    refine ⟨fun y hy=>?_,ih⟩
    rw [List.map_cons] at hy ih
    rw [List.pairwise_cons] at ih
    rcases List.mem_cons.mp hy with z | z
    · rw [z]; exact hpx
    · exact zAq _ _ _ hpx (ih.1 y z)
theorem zBf {l : List Str} (h : sortedS l = true) : (l.map ts).Pairwise (fun a b=>leK a b = true):=by
  cases l with
  | nil=>exact List.Pairwise.nil
  | cons p r=>exact kD p r h
theorem jI {ss : List Str} {ks : List (List Nat)} (hp : ss.Perm (ks.map tx)) (hs : sortedS ss = true) : ss = (sortK ks).map tx:=by
  have e : ss.map ts = sortK ks:=by
    refine gZ ?_ (zBf hs) (zBe ks)
    have z:=hp.map ts
    rw [List.map_map] at z
    have e2 : ks.map (ts ∘ tx) = ks:=by
      conv=>rhs; rw [← List.map_id ks]
      exact List.map_congr_left fun k _=>wT k
    rw [e2] at z
    exact z.trans (wO ks).symm
  have e3 : (ss.map ts).map tx = ss:=by
    rw [List.map_map]
    conv=>rhs; rw [← List.map_id ss]
    exact List.map_congr_left fun k _=>wV k
  rw [← e3,e]
inductive C where
  | non | bl (b : Bool) | int (i : Int) | str (x : List Nat) | row (xs : List C) | rcd (xs : List C) | odd
def C.ord : C → Nat
  | .non=>0
  | .bl _=>1
  | .int _=>2
  | .str _=>3
  | .row _=>4
  | .rcd _=>5
  | .odd=>6
def lookT (k : List Nat) : List (List Nat) → List T → T
  | k' :: ks,c :: cs=>if k' = k then c else lookT k ks cs
  | _,_=>.tup []
mutual
def T.few : T → Prop
  | .dic ks ts=>ks.Nodup ∧ ks.length < 64 ∧ ks.length = ts.length ∧ T.fews ts
  | .lst ts=>ts.length ≤ 100000 ∧ T.fews ts
  | .tup _=>False
  | .non=>True
  | .bl _=>True
  | .int _=>True
  | .str _=>True
def T.fews : List T → Prop
  | []=>True
  | t :: ts=>T.few t ∧ T.fews ts
end
theorem T.fews_mem {t : T} : ∀ {ts : List T},T.fews ts → t ∈ ts → T.few t
  | [],_,h=>nomatch h
  | u :: ts,h,hm=>(List.mem_cons.mp hm).elim (fun e=>e ▸ h.1) (T.fews_mem h.2)
theorem gS {k : List Nat} : ∀ {ks : List (List Nat)} {ts : List T} {i : Nat} {t : T},ks.Nodup → ks[i]? = some k → ts[i]? = some t → lookT k ks ts = t
  | [],_,i,_,_,h,_=>by simp at h
  | k' :: ks,[],i,_,_,_,h=>by simp at h
  | k' :: ks,u :: ts,0,t,nd,h1,h2=>by
    simp only [List.getElem?_cons_zero,Option.some.injEq] at h1 h2
    subst h1 h2
    exact if_pos rfl
  | k' :: ks,u :: ts,i + 1,t,nd,h1,h2=>by
    rw [List.nodup_cons] at nd
    have h1' : ks[i]? = some k:=by simpa using h1
    have ne : ¬ k' = k:=fun e=>nd.1 (e ▸ List.mem_of_getElem? h1')
    show (if k' = k then u else lookT k ks ts) = t
    rw [if_neg ne]
    exact gS nd.2 h1' (by simpa using h2)
theorem wB {k : List Nat} : ∀ {ks : List (List Nat)} {ts : List T},k ∈ ks → ks.length = ts.length → lookT k ks ts ∈ ts
  | [],_,h,_=>nomatch h
  | k' :: ks,[],_,h=>by simp at h
  | k' :: ks,u :: ts,h,hl=>by
    show (if k' = k then u else lookT k ks ts) ∈ u :: ts
    split
    · exact List.mem_cons_self
    · rename_i ne
      rcases List.mem_cons.mp h with e | e
      · exact absurd e.symm ne
      · exact List.mem_cons_of_mem _ (wB e (by simpa using hl))
theorem mem_sortK {k : List Nat} {ks : List (List Nat)} : k ∈ sortK ks ↔ k ∈ ks:=(wO ks).mem_iff
theorem Rep.at_name {H : Hp} {ps : List (Key × V)} {ks : List (List Nat)} {us : List T} (nk : ks.Nodup) (hk : ps.map (·.1) = ks.map fun k=>(Sum.inr (tx k) : Key)) (hs : Reps H (ps.map (·.2)) us) {k : List Nat} (hm : k ∈ ks) :
    ∃ v,valV ps (Sum.inr (tx k)) = some v ∧ Rep H v (lookT k ks us):=by
  obtain ⟨j,hj⟩:=List.mem_iff_getElem?.mp hm
  have hp : (ps.map (·.1))[j]? = some (Sum.inr (tx k) : Key):=by rw [hk,List.getElem?_map,hj]; rfl
  rw [List.getElem?_map] at hp
  cases hpj : ps[j]? with
  | none=>rw [hpj] at hp; cases hp
  | some kv =>
    rw [hpj] at hp
    have ek : kv.1 = (Sum.inr (tx k) : Key):=Option.some.inj hp
    have hpj' : ps[j]? = some ((Sum.inr (tx k) : Key),kv.2):=by rw [hpj,← ek]
    obtain ⟨t,ht,hr⟩:=hs.get (i:=j) (v:=kv.2) (by rw [List.getElem?_map,hpj]; rfl)
    refine ⟨kv.2,qI (by rw [hk]; exact xS nk) hpj', ?_⟩
    rw [gS nk hj ht]
    exact hr
def LtM (P : Program) (w : World) (A : Around) (s : Shared) (u v : Value) (b : Bool) : Prop:=∀ (E : Value → Shared → Prop) (Q : Value → Shared → Prop),Q (.bool b) s → wpAny (model P w) A (richCompare .Lt u v) Q E s
def EqB (P : Program) (w : World) (A : Around) (s : Shared) (u v : Value) (b : Bool) : Prop:=∀ (E : Value → Shared → Prop) (Q : Bool → Shared → Prop),Q b s → wpAny (model P w) A (eqBool u v) Q E s
inductive Zc (P : Program) (w : World) (A : Around) (s : Shared) : List Value → List Value → Int → Prop
  | nil : Zc P w A s [] [] 0
  | less {y : Value} {ys : List Value} : Zc P w A s [] (y :: ys) (-1)
  | more {x : Value} {xs : List Value} : Zc P w A s (x :: xs) [] 1
  | eq {x y : Value} {xs ys : List Value} {c : Int} : EqB P w A s x y true → Zc P w A s xs ys c → Zc P w A s (x :: xs) (y :: ys) c
  | ne {x y : Value} {xs ys : List Value} {c : Int} : EqB P w A s x y false → LtM P w A s x y (decide (c < 0)) → c ≠ 0 → Zc P w A s (x :: xs) (y :: ys) c
section
variable {P : Program} {w : World} {A : Around} {s : Shared} {E : Value → Shared → Prop}
end
section
variable {X : Cx} {pins : List (Addr × Obj)} {σ : St} {H : Hp} {s : Shared}
end
def rawC : C → T
  | .str x=>.str x
  | _=>.non
mutual
def rk : C → T
  | .non=>.tup [.int 0]
  | .bl b=>.tup [.int 1, .bl b]
  | .int i=>.tup [.int 2, .int i]
  | .str x=>.tup [.int 3, .str x]
  | .row cs=>.tup [.int 4, .tup (rks cs)]
  | .rcd cs=>.tup [.int 5, .tup (rkps cs)]
  | .odd=>.non
def rks : List C → List T
  | []=>[]
  | c :: cs=>rk c :: rks cs
def rkps : List C → List T
  | []=>[]
  | c :: cs=>rkq c :: rkps cs
def rkq : C → T
  | .row cs=>.tup (rkl cs)
  | .non=>.non
  | .bl _=>.non
  | .int _=>.non
  | .str _=>.non
  | .rcd _=>.non
  | .odd=>.non
def rkl : List C → List T
  | []=>[]
  | c :: cs=>rawC c :: rks cs
end
mutual
def C.ok : C → Prop
  | .odd=>False
  | .row cs=>C.oks cs
  | .rcd cs=>C.okps cs
  | .non=>True
  | .bl _=>True
  | .int _=>True
  | .str _=>True
def C.oks : List C → Prop
  | []=>True
  | c :: cs=>C.ok c ∧ C.oks cs
def C.okps : List C → Prop
  | []=>True
  | c :: cs=>C.okq c ∧ C.okps cs
def C.okq : C → Prop
  | .row cs=>C.okl cs
  | .non=>False
  | .bl _=>False
  | .int _=>False
  | .str _=>False
  | .rcd _=>False
  | .odd=>False
def C.okl : List C → Prop
  | []=>False
  | c :: cs=>(∃ k,c = .str k) ∧ cs.length = 1 ∧ C.oks cs
end
theorem T.deps_of {n : Nat} {ts : List T} (h : ∀ t ∈ ts,T.dep t ≤ n) : T.deps ts ≤ n:=by
  induction ts with
  | nil=>exact Nat.zero_le _
  | cons t ts ih=>exact Nat.max_le.mpr ⟨h t List.mem_cons_self,ih fun u hu=>h u (List.mem_cons_of_mem _ hu)⟩
section
variable {X : Cx}
end
section
variable {X : Cx} {e k : Expr} {te : TE} {tk : TO} {pos p2 : Pos}
end
mutual
def T.calm : T → Prop
  | .int i=>-(10 ^ 12) ≤ i ∧ i ≤ 10 ^ 12
  | .str x=>x.length ≤ 100
  | .lst ts=>T.calms ts
  | .dic _ ts=>T.calms ts
  | .tup ts=>T.calms ts
  | .non=>True
  | .bl _=>True
def T.calms : List T → Prop
  | []=>True
  | t :: ts=>T.calm t ∧ T.calms ts
end
structure Fit (d z : Nat) (t : T) : Prop where
  few : T.few t
  calm : T.calm t
  dep : T.dep t ≤ d
  sz : T.sz t ≤ z
theorem kU {K : PySem.W.Frag} {H : Hp} {p : Addr} {xs : List V} {i : Int} {Q : VK} (h : H p = some (.lst xs)) (h0 : 0 ≤ i) (h1 : i < xs.length) (q : ∀ x ∈ xs,Q x H) : rIxL K (.ref p) (.int i) H Q:=by
  obtain ⟨x,hx,hm⟩:=zIp h0 h1
  exact yG (SqL.of h) hx (q x hm)
theorem jL : ∀ (n : Nat) (t : T),T.dep t ≤ n → T.few t → T.pure t:=by
  intro n
  induction n with
  | zero =>
    intro t hd hf
    cases t with
    | lst ts=>exact absurd hd (Nat.not_succ_le_zero _)
    | dic ks ts=>exact absurd hd (Nat.not_succ_le_zero _)
    | tup ts=>exact hf.elim
    | _=>exact True.intro
  | succ n ih =>
    have all : ∀ ts : List T,T.deps ts ≤ n → T.fews ts → T.pures ts:=by
      intro ts
      induction ts with
      | nil=>intros; exact True.intro
      | cons t ts ih2 =>
        intro hd hf
        have hd' : max (T.dep t) (T.deps ts) ≤ n:=hd
        exact ⟨ih t (by omega) hf.1,ih2 (by omega) hf.2⟩
    intro t hd hf
    cases t with
    | lst ts=>exact all ts (Nat.le_of_succ_le_succ hd) hf.2
    | dic ks ts=>exact ⟨hf.1,all ts (Nat.le_of_succ_le_succ hd) hf.2.2.2⟩
    | tup ts=>exact hf.elim
    | _=>exact True.intro
section
variable {P : Program} {w : World}
end
section
variable {X : Cx}
end
theorem zAu (xs : List V) (i : Nat) : cutV xs none (some (i : Int)) = xs.take i:=by
  unfold cutV
  rw [HT.sIx_nat]
  show (xs.drop 0).take (min i xs.length - 0) = _
  rw [List.drop_zero,Nat.sub_zero]
  by_cases h : i ≤ xs.length
  · rw [Nat.min_eq_left h]
  · rw [Nat.min_eq_right (by omega),List.take_length,List.take_of_length_le (by omega)]
theorem qG (xs : List V) (i : Nat) : cutV xs (some (i : Int)) none = xs.drop i:=by
  unfold cutV
  rw [HT.sIx_nat]
  show (xs.drop (min i xs.length)).take (xs.length - min i xs.length) = _
  by_cases h : i ≤ xs.length
  · rw [Nat.min_eq_left h,List.take_of_length_le (by rw [List.length_drop]; omega)]
  · rw [Nat.min_eq_right (by omega),List.drop_length,List.drop_of_length_le (by omega),List.take_nil]
theorem kP (xs : List V) : cutV xs none (some (-1)) = xs.take (xs.length - 1):=by
  unfold cutV
  show (xs.drop 0).take ((-1 + (xs.length : Int)).toNat - 0) = _
  rw [List.drop_zero,Nat.sub_zero]
  congr 1
  omega
theorem Reps.take {H : Hp} : ∀ {xs : List V} {us : List T} (i : Nat),Reps H xs us → Reps H (xs.take i) (us.take i)
  | xs,us,0,_=>by rw [List.take_zero,List.take_zero]; exact rfl
  | xs,[],i + 1,h=>by cases (show xs = [] from h); exact rfl
  | xs,u :: us,i + 1,⟨x,r,e,h1,h2⟩=>by
    subst e
    rw [List.take_succ_cons,List.take_succ_cons]
    exact ⟨x,_,rfl,h1,Reps.take i h2⟩
theorem Reps.drop {H : Hp} : ∀ {xs : List V} {us : List T} (i : Nat),Reps H xs us → Reps H (xs.drop i) (us.drop i)
  | xs,us,0,h=>by rw [List.drop_zero,List.drop_zero]; exact h
  | xs,[],i + 1,h=>by cases (show xs = [] from h); exact rfl
  | xs,u :: us,i + 1,⟨x,r,e,h1,h2⟩=>by
    subst e
    rw [List.drop_succ_cons,List.drop_succ_cons]
    exact Reps.drop i h2
section
variable {X : Cx} {pins : List (Addr × Obj)} {σ σ' : St} {H H' : Hp} {s s' : Shared}
end
theorem zCd {X : Cx} {K : PySem.W.Frag} (h : X.K = K) : IxR X (rIxL K):=by subst h; exact ix_list
end L2
namespace L2
open PySem PySem.Spec PyProof.Rows PySem.Builtin PySem.Builtin.Str
section
variable {prog : Program} {w : World} {A : Around} {E : Value → Shared → Prop} {s : Shared} {x y : Str} {t u : Tok} {Q : Value → Shared → Prop}
end
section
variable {X : Cx}
end
structure Bl3 (mg : Str → Option Value) : Prop extends Bl2 mg where
  abs : mg "abs" = none
end L2
namespace L2
open PySem PySem.Spec PyProof.Rows
def cellF (ns : List Int) (k : Int) : Int :=
  let m:=if ns = [] then k * 7919 else (k * 7919 + k / ns.length * 104729 + ns.getD (k % ns.length).toNat 0 * 48271) % 1000003
  (m * m / 11 + 13 * m) % 1000003
theorem xW (ns : List Int) (k : Int) : 0 ≤ cellF ns k:=Int.emod_nonneg _ (by decide)
theorem wP (ns : List Int) (k : Int) : cellF ns k < 1000003:=Int.emod_lt_of_pos _ (by decide)
def numF (m : Int) : Int:=if m % 3 = 0 then m / 3 % 41 - 20 else if m % 3 = 1 then m ^ 4 % 2000000000001 - 1000000000000
  else ([1000000000000, -1000000000000,999999999999,0,1, -1,100000000000,999] : List Int).getD (m / 3 % 8).toNat 0
theorem jC {α : Type} {xs : List α} {i : Int} (d : α) (h0 : 0 ≤ i) (h1 : i < xs.length) : xs.getD i.toNat d ∈ xs:=by
  have h : i.toNat < xs.length:=by omega
  rw [List.getD_eq_getElem?_getD,List.getElem?_eq_getElem h]
  exact List.getElem_mem h
theorem zLh (m : Int) : -(10 ^ 12) ≤ numF m ∧ numF m ≤ 10 ^ 12:=by
  unfold numF
  split
  · omega
  · split
    · have h1:=Int.emod_nonneg (m ^ 4) (show (2000000000001 : Int) ≠ 0 by decide)
      have h2:=Int.emod_lt_of_pos (m ^ 4) (show (0 : Int) < 2000000000001 by decide)
      omega
    · have h:=jC (xs:=([1000000000000, -1000000000000,999999999999,0,1, -1,100000000000,999] : List Int)) (i:=m / 3 % 8) 0 (by omega) (by simp only [List.length_cons,List.length_nil]; omega)
      revert h
      generalize ([1000000000000, -1000000000000,999999999999,0,1, -1,100000000000,999] : List Int).getD (m / 3 % 8).toNat 0 = z
      intro h
      simp only [List.mem_cons,List.not_mem_nil,or_false] at h
      rcases h with rfl | rfl | rfl | rfl | rfl | rfl | rfl | rfl <;> decide
def chF (i : Int) : Nat:=(letL ++ figL).getD i.toNat 0
theorem zBr {i : Int} (h0 : 0 ≤ i) (h1 : i < 36) : atI (letL ++ figL) i = some (chF i):=wQ h0 (by show i < ((36 : Nat) : Int); omega)
theorem zMl {i : Int} (h0 : 0 ≤ i) (h1 : i < 36) : chF i ∈ letL ++ figL:=jC 0 h0 (by show i < ((36 : Nat) : Int); omega)
theorem zFa {i : Int} (h0 : 0 ≤ i) (h1 : i < 26) : chF i ∈ letL:=by
  obtain ⟨c,e,h⟩:=zOd h0 h1
  rw [zBr h0 (by omega)] at e
  cases e
  exact h
def sizF (m : Int) : Int:=([1,1 + m / 3 % 4,1 + m / 3 % 12] : List Int).getD (m % 3).toNat 0
theorem zEw (m : Int) : 1 ≤ sizF m ∧ sizF m ≤ 12:=by
  unfold sizF
  have h:=jC (xs:=([1,1 + m / 3 % 4,1 + m / 3 % 12] : List Int)) (i:=m % 3) 0 (by omega) (by simp only [List.length_cons,List.length_nil]; omega)
  revert h
  generalize ([1,1 + m / 3 % 4,1 + m / 3 % 12] : List Int).getD (m % 3).toNat 0 = z
  intro h
  simp only [List.mem_cons,List.not_mem_nil,or_false] at h
  rcases h with rfl | rfl | rfl <;> omega
theorem zKn (m : Int) : atI [V.int 1,V.int (1 + m / 3 % 4),V.int (1 + m / 3 % 12)] (m % 3) = some (.int (sizF m)):=by
  rw [wQ (d:=V.int 0) (by omega) (by simp only [List.length_cons,List.length_nil]; omega)]
  unfold sizF
  rcases (by omega : m % 3 = 0 ∨ m % 3 = 1 ∨ m % 3 = 2) with e | e | e <;> rw [e] <;> rfl
def restF (m : Int) (n : Nat) : List Nat:=(List.range n).map fun (i : Nat)=>chF ((m / 7 + (0 + (i : Int)) * (1 + m / 11 % 35)) % 36)
def nameF (m : Int) : List Nat :=
  if m / 36 % 2 = 1 then List.replicate (m / 72 % sizF m).toNat 97 ++ [chF (m / 864 % 26)] ++ List.replicate (sizF m - m / 72 % sizF m - 1).toNat 97
  else chF (m / 72 % 26) :: restF m (sizF m - 1).toNat
theorem jE (m : Int) : okName (nameF m) = true:=by
  obtain ⟨n1,n12⟩:=zEw m
  unfold nameF
  split
  · have a0:=Int.emod_nonneg (m / 72) (show sizF m ≠ 0 by omega)
    have a1:=Int.emod_lt_of_pos (m / 72) (show 0 < sizF m by omega)
    have hcl:=zFa (i:=m / 864 % 26) (by omega) (by omega)
    refine uS ?_ ?_ ?_
    · simp only [List.length_append,List.length_replicate,List.length_singleton]; omega
    · cases e : (m / 72 % sizF m).toNat with
      | zero=>exact ⟨_,_,rfl,hcl⟩
      | succ k=>exact ⟨97,_,rfl,zEr⟩
    · intro d hd
      simp only [List.mem_append,List.mem_replicate,List.mem_singleton] at hd
      rcases hd with (⟨_,rfl⟩ | rfl) | ⟨_,rfl⟩
      · exact jN zEr
      · exact jN hcl
      · exact jN zEr
  · have hcl:=zFa (i:=m / 72 % 26) (by omega) (by omega)
    refine uS ?_ ⟨_,_,rfl,hcl⟩ ?_
    · simp only [List.length_cons,restF,List.length_map,List.length_range]; omega
    · intro d hd
      rcases List.mem_cons.mp hd with z | z
      · rw [z]; exact jN hcl
      · obtain ⟨i,_,rfl⟩:=List.mem_map.mp z
        exact zMl (by omega) (by omega)
def sgF (i : Int) : Nat:=sgnL.getD i.toNat 0
theorem zIo {i : Int} (h0 : 0 ≤ i) (h1 : i < 94) : atI sgnL i = some (sgF i):=wQ h0 (by show i < ((94 : Nat) : Int); omega)
theorem zJm {i : Int} (h0 : 0 ≤ i) (h1 : i < 94) : sgF i ∈ sgnL:=jC 0 h0 (by show i < ((94 : Nat) : Int); omega)
def lenF (m : Int) : Int:=([m / 5 % 4,m / 5 % 9,m / 5 % 31] : List Int).getD (m % 3).toNat 0
theorem zFe (m : Int) : 0 ≤ lenF m ∧ lenF m ≤ 30:=by
  unfold lenF
  have h:=jC (xs:=([m / 5 % 4,m / 5 % 9,m / 5 % 31] : List Int)) (i:=m % 3) 0 (by omega) (by simp only [List.length_cons,List.length_nil]; omega)
  revert h
  generalize ([m / 5 % 4,m / 5 % 9,m / 5 % 31] : List Int).getD (m % 3).toNat 0 = z
  intro h
  simp only [List.mem_cons,List.not_mem_nil,or_false] at h
  rcases h with rfl | rfl | rfl <;> omega
theorem zLt (m : Int) : atI [V.int (m / 5 % 4),V.int (m / 5 % 9),V.int (m / 5 % 31)] (m % 3) = some (.int (lenF m)):=by
  rw [wQ (d:=V.int 0) (by omega) (by simp only [List.length_cons,List.length_nil]; omega)]
  unfold lenF
  rcases (by omega : m % 3 = 0 ∨ m % 3 = 1 ∨ m % 3 = 2) with e | e | e <;> rw [e] <;> rfl
def runF (m : Int) (n : Nat) : List Nat:=(List.range n).map fun (i : Nat)=>sgF ((m / 7 + (0 + (i : Int)) * (1 + m / 13 % 93)) % 94)
def textF (m : Int) : List Nat :=
  if m / 155 % 3 = 1 then List.replicate (lenF m / 2).toNat 39 ++ List.replicate (lenF m - lenF m / 2).toNat (sgF (m / 465 % 94)) else runF m (lenF m).toNat
theorem zJh (m : Int) : okText (textF m) = true:=by
  obtain ⟨n0,n30⟩:=zFe m
  unfold textF
  split
  · refine zAh ?_ ?_
    · simp only [List.length_append,List.length_replicate]; omega
    · intro d hd
      simp only [List.mem_append,List.mem_replicate] at hd
      rcases hd with ⟨_,rfl⟩ | ⟨_,rfl⟩
      · exact zOf
      · exact zJm (by omega) (by omega)
  · refine zAh ?_ ?_
    · simp only [runF,List.length_map,List.length_range]; omega
    · intro d hd
      obtain ⟨i,_,rfl⟩:=List.mem_map.mp hd
      exact zJm (by omega) (by omega)
theorem qY {α : Type} (f : Nat → α) (i : Nat) : (List.range (i + 1)).map f = (List.range i).map f ++ [f i]:=by rw [List.range_succ,List.map_append]; rfl
def putTs (n : List Nat) (t : T) : List (List Nat) → List T → List T
  | k :: ks,u :: us=>(if k = n then t else u) :: putTs n t ks us
  | _,us=>us
def putT (p : List (List Nat) × List T) (n : List Nat) (t : T) : List (List Nat) × List T:=if n ∈ p.1 then (p.1,putTs n t p.1 p.2) else (p.1 ++ [n],p.2 ++ [t])
theorem yX (n : List Nat) (t : T) : ∀ (ks : List (List Nat)) (us : List T),(putTs n t ks us).length = us.length
  | [],us=>by unfold putTs; rfl
  | _ :: _,[]=>rfl
  | k :: ks,u :: us=>by
    show (putTs n t ks us).length + 1 = us.length + 1
    rw [yX n t ks us]
theorem vJ (n : List Nat) (t : T) : ∀ (ks : List (List Nat)) (us : List T) (u : T),u ∈ putTs n t ks us → u ∈ us ∨ u = t
  | [],us,u,h=>by unfold putTs at h; exact .inl h
  | _ :: _,[],u,h=>.inl h
  | k :: ks,v :: us,u,h=>by
    have h' : u ∈ (if k = n then t else v) :: putTs n t ks us:=h
    rcases List.mem_cons.mp h' with z | z
    · split at z
      · exact .inr z
      · exact .inl (by rw [z]; exact List.mem_cons_self)
    · exact (vJ n t ks us u z).imp (List.mem_cons_of_mem _) id
theorem Reps.replT {H : Hp} {n : List Nat} {v : V} {t : T} (hv : Rep H v t) : ∀ {ps : List (Key × V)} {ks : List (List Nat)} {us : List T},ps.map (·.1) = ks.map nK → Reps H (ps.map (·.2)) us → Reps H ((ps.map fun kv=>if kv.1 = nK n then (kv.1,v) else kv).map (·.2)) (putTs n t ks us)
  | [],[],us,_,h=>by
    have e : putTs n t [] us = us:=by unfold putTs; rfl
    rw [e]; exact h
  | [],_ :: _,_,e,_=>by simp at e
  | _ :: _,[],_,e,_=>by simp at e
  | p :: ps,k :: ks,[],_,h=>by
    have h' : (p :: ps).map (·.2) = []:=h
    cases h'
  | p :: ps,k :: ks,u :: us,e,⟨v',r,e0,h1,h2⟩=>by
    have e' : p.2 :: ps.map (·.2) = v' :: r:=e0
    injection e' with e1 e2
    subst e1 e2
    have e3 : p.1 :: ps.map (·.1) = nK k :: ks.map nK:=e
    injection e3 with e4 e5
    have ih:=Reps.replT (n:=n) hv e5 h2
    by_cases hk : k = n
    · refine ⟨v,_, ?_, ?_,ih⟩
      · rw [List.map_cons,if_pos (by rw [e4,hk]),List.map_cons]
      · rw [if_pos hk]; exact hv
    · refine ⟨p.2,_, ?_, ?_,ih⟩
      · rw [List.map_cons,if_neg (by rw [e4]; exact fun z=>hk (qW z)),List.map_cons]
      · rw [if_neg hk]; exact h1
theorem jD {H : Hp} {ps : List (Key × V)} {p : List (List Nat) × List T} {n : List Nat} {v : V} {t : T} (hk : ps.map (·.1) = p.1.map nK) (hR : Reps H (ps.map (·.2)) p.2) (hv : Rep H v t) :
    (putK ps (nK n) v).map (·.1) = (putT p n t).1.map nK ∧ Reps H ((putK ps (nK n) v).map (·.2)) (putT p n t).2:=by
  have hm : (ps.any fun kv=>decide (kv.1 = nK n)) = true ↔ n ∈ p.1:=by
    rw [List.any_eq_true]
    constructor
    · rintro ⟨kv,hkv,e⟩
      have : nK n ∈ ps.map (·.1):=List.mem_map.mpr ⟨kv,hkv,of_decide_eq_true e⟩
      rw [hk] at this
      obtain ⟨k,h1,h2⟩:=List.mem_map.mp this
      rw [← qW h2]; exact h1
    · intro h
      have : nK n ∈ ps.map (·.1):=by rw [hk]; exact List.mem_map.mpr ⟨n,h,rfl⟩
      obtain ⟨kv,h1,h2⟩:=List.mem_map.mp this
      exact ⟨kv,h1,decide_eq_true h2⟩
  unfold putK putT
  by_cases h : n ∈ p.1
  · rw [if_pos (hm.mpr h),if_pos h]
    refine ⟨?_,Reps.replT hv hk hR⟩
    show _ = p.1.map nK
    rw [← hk,List.map_map]
    apply List.map_congr_left
    intro q _
    show (if q.1 = nK n then (q.1,v) else q).1 = q.1
    split <;> rfl
  · rw [if_neg (fun z=>h (hm.mp z)),if_neg h]
    exact ⟨by rw [List.map_append,hk,List.map_append]; rfl,by rw [List.map_append]; exact Reps.snoc hv hR⟩
def dicG (nm : Nat → List Nat) (us : List T) : Nat → List (List Nat) × List T
  | 0=>([],[])
  | i + 1=>putT (dicG nm us i) (nm i) (us.getD i .non)
theorem zBm (nm : Nat → List Nat) (us : List T) (hn : ∀ i,okName (nm i) = true) : ∀ i,i ≤ us.length → (dicG nm us i).1.Nodup ∧ (∀ n ∈ (dicG nm us i).1,okName n = true) ∧ (∀ u ∈ (dicG nm us i).2,u ∈ us) ∧ (dicG nm us i).1.length = (dicG nm us i).2.length ∧ (dicG nm us i).1.length ≤ i
  | 0,_=>⟨List.nodup_nil,fun _ h=>(nomatch h),fun _ h=>(nomatch h),rfl,Nat.le_refl _⟩
  | i + 1,hi=>by
    obtain ⟨h1,h2,h3,h4,h5⟩:=zBm nm us hn i (by omega)
    have hin : us.getD i .non ∈ us:=by
      rw [List.getD_eq_getElem?_getD,List.getElem?_eq_getElem (by omega)]
      exact List.getElem_mem _
    unfold dicG putT
    split
    · exact ⟨h1,h2,fun u hu=>(vJ _ _ _ _ u hu).elim (h3 u) (fun e=>by rw [e]; exact hin),by rw [yX]; exact h4,Nat.le_succ_of_le h5⟩
    · rename_i hm
      refine ⟨zBs h1 hm,fun n hn'=>?_,fun u hu=>?_,by simp [h4],by simp only [List.length_append,List.length_singleton]; omega⟩
      · rcases List.mem_append.mp hn' with q | q
        · exact h2 n q
        · rw [List.mem_singleton.mp q]; exact hn i
      · rcases List.mem_append.mp hu with q | q
        · exact h3 u q
        · rw [List.mem_singleton.mp q]; exact hin
def leafF (m kd : Int) : T:=if kd = 0 then ([.non, .bl true, .bl false] : List T).getD (m / 9 % 3).toNat .non else if kd < 3 then .int (numF (m / 9)) else .str (textF (m / 9))
theorem gL (m kd : Int) (d : Nat) : Nice d (leafF m kd):=by
  unfold leafF
  split
  · rcases (by omega : m / 9 % 3 = 0 ∨ m / 9 % 3 = 1 ∨ m / 9 % 3 = 2) with e | e | e <;> rw [e] <;> exact True.intro
  · split
    · exact zLh _
    · exact zJh _
theorem zCm {H : Hp} (m : Int) : ∃ v,atI [V.non,V.bl true,V.bl false] (m / 9 % 3) = some v ∧ Rep H v (leafF m 0):=by
  have e0 : leafF m 0 = ([.non, .bl true, .bl false] : List T).getD (m / 9 % 3).toNat .non:=if_pos rfl
  rw [e0]
  rcases (by omega : m / 9 % 3 = 0 ∨ m / 9 % 3 = 1 ∨ m / 9 % 3 = 2) with e | e | e <;> rw [e]
  · exact ⟨.non,rfl,rfl⟩
  · exact ⟨.bl true,rfl,rfl⟩
  · exact ⟨.bl false,rfl,rfl⟩
def kidN (ns : List Int) (k : Int) (j : Nat) : List Nat:=nameF (cellF ns (k * 5 + 1 + (0 + (j : Int))) / 9 + (0 + (j : Int)))
def thT (ns : List Int) : Nat → Int → T
  | 0,k=>leafF (cellF ns k) (cellF ns k % 5)
  | e + 1,k=>if cellF ns k % 9 < 5 then leafF (cellF ns k) (cellF ns k % 9) else
    if cellF ns k % 9 < 7 then .lst ((List.range (cellF ns k / 9 % 5).toNat).map fun (j : Nat)=>thT ns e (k * 5 + 1 + (0 + (j : Int))))
    else .dic (dicG (kidN ns k) ((List.range (cellF ns k / 9 % 5).toNat).map fun (j : Nat)=>thT ns e (k * 5 + 1 + (0 + (j : Int)))) (cellF ns k / 9 % 5).toNat).1 (dicG (kidN ns k) ((List.range (cellF ns k / 9 % 5).toNat).map fun (j : Nat)=>thT ns e (k * 5 + 1 + (0 + (j : Int)))) (cellF ns k / 9 % 5).toNat).2
theorem vW (ns : List Int) : ∀ (d : Nat) (k : Int),Nice d (thT ns d k)
  | 0,k=>gL _ _ _
  | e + 1,k=>by
    unfold thT
    split
    · exact gL _ _ _
    · have hN : NiceL e ((List.range (cellF ns k / 9 % 5).toNat).map fun (j : Nat)=>thT ns e (k * 5 + 1 + (0 + (j : Int)))):=NiceL_iff.mpr fun t ht=>by
        obtain ⟨j,_,rfl⟩:=List.mem_map.mp ht
        exact vW ns e _
      have hl : ((List.range (cellF ns k / 9 % 5).toNat).map fun (j : Nat)=>thT ns e (k * 5 + 1 + (0 + (j : Int)))).length = (cellF ns k / 9 % 5).toNat:=by simp
      have hle : (cellF ns k / 9 % 5).toNat ≤ 4:=by omega
      split
      · exact ⟨by omega,by omega,hN⟩
      · obtain ⟨h1,h2,h3,h4,h5⟩:=zBm (kidN ns k) _ (fun j=>jE _) (cellF ns k / 9 % 5).toNat (Nat.le_of_eq hl.symm)
        exact ⟨by omega,by omega,h4,h1,h2,NiceL_iff.mpr fun u hu=>NiceL_iff.mp hN u (h3 u hu)⟩
end L2
namespace L2
open PySem PySem.Spec PyProof.Rows PySem.Builtin PySem.Builtin.Str
theorem zDr {k : List Nat} (h : okName k = true) : k.length ≤ 12:=by
  unfold okName at h
  simp only [Bool.and_eq_true,decide_eq_true_eq] at h
  omega
theorem zLv {i : Int} (h : -(10 ^ 12) ≤ i ∧ i ≤ 10 ^ 12) : (Str.ofString (toString i)).length ≤ 14:=by
  rw [ofString_len]
  have z : ∀ m : Nat,m ≤ 10 ^ 12 → (Nat.repr m).length ≤ 13:=fun m hm=>(Nat.length_repr_le_iff (by decide)).mpr (Nat.lt_of_le_of_lt hm (by decide))
  cases i with
  | ofNat m =>
    have hm : m ≤ 10 ^ 12:=by
      have:=h.2
      have e : (Int.ofNat m) = (m : Int):=rfl
      omega
    exact Nat.le_trans (z m hm) (by decide)
  | negSucc m =>
    have hm : m + 1 ≤ 10 ^ 12:=by
      have:=h.1
      have e : Int.negSucc m = -((m : Int) + 1):=by omega
      omega
    show ("-" ++ Nat.repr (m + 1)).length ≤ 14
    rw [String.length_append]
    have h1 : ("-" : String).length = 1:=by decide
    have:=z _ hm
    omega
theorem zGu {b : Int} (h1 : -(10 ^ 12) ≤ b) (h2 : b ≤ 10 ^ 12) : b.natAbs.log2 < 1920:=by
  by_cases h : b.natAbs = 0
  · rw [h]; decide
  · refine (Nat.log2_lt h).mpr (Nat.lt_of_le_of_lt (show b.natAbs ≤ 10 ^ 12 by omega) (Nat.lt_of_lt_of_le (show 10 ^ 12 < 2 ^ 40 by decide) (Nat.pow_le_pow_right (by decide) (by decide))))
end L2
namespace L2
open PySem PySem.Spec PyProof.Rows
theorem zJq : bootBuiltins "range" = some (.type "range"):=by decide +kernel
def rngO (p : Addr) (n : Int) : HO:=.ext fun h=>∃ t u v,IsRange h p 0 n 1 t u v
section
variable {X : Cx}
theorem zEo : CallR X (.type "range") (fun xs H Q=>∃ n,xs = [.int n] ∧ ∀ p,H p = none → Q (.ref p) (upd H p (rngO p n))):=by
  intro pins s σ H xs us Q I r h
  obtain ⟨n,rfl,q⟩:=h
  obtain ⟨u,rfl,t,rfl⟩:=wZ r
  refine call_range_1 ?_
  refine ⟨.ref s.heap.objs.size,_,I.laid (t':=s.toks + 1 + 1) (fun b o e=>Heap.get?_push_of_some _ e) (Nat.le_refl _) (o:=rngO s.heap.objs.size n) ?_,rfl,q _ (I.hok.fresh (Nat.le_refl _))⟩
  exact ⟨⟨_,_,_,Heap.get?_push_size _ rfl⟩,⟨_,Heap.get?_push_size _ rfl⟩,fun h1 h2 ⟨t,u,v,e⟩ k=>⟨t,u,v,k _ e⟩⟩
theorem zAm : ∀ (us : List Value) (k : Nat),(∀ (j : Nat) (v : Value),us[j]? = some v → ∃ t,v = .int (0 + ((k + j : Nat) : Int) * 1) t) → Vals ((List.range' k us.length).map fun (i : Nat)=>V.int (i : Int)) us
  | [],_,_=>.nil
  | u :: us,k,h=>by
    obtain ⟨t,e⟩:=h 0 u rfl
    subst e
    rw [List.length_cons,List.range'_succ,List.map_cons]
    refine .cons ⟨t, ?_⟩ (zAm us (k + 1) fun j v hv=>?_)
    · show Value.int _ t = Value.int _ t
      congr 1
      omega
    · obtain ⟨t',e'⟩:=h (j + 1) v (by simpa using hv)
      exact ⟨t',by rw [e']; congr 2; omega⟩
theorem zCg (hc : X.calm = true) : CallR X (.type "list") (fun xs H Q=>∃ p n,xs = [.ref p] ∧ H p = some (rngO p n) ∧ 0 ≤ n ∧ n ≤ 100000 ∧ ∀ l,H l = none → Q (.ref l) (upd H l (.lst ((List.range n.toNat).map fun (i : Nat)=>V.int (i : Int))))):=by
  intro pins s σ H xs us Q I r h
  obtain ⟨p,n,rfl,hp,n0,n1,q⟩:=h
  obtain ⟨u,rfl,rx⟩:=wZ r
  cases rx
  obtain ⟨⟨t,u,v,hr⟩,_⟩:=(show ObjOk X.prog X.w H s.heap p (rngO p n) from I.hok p _ hp)
  refine call_list_range (n:=n.toNat) (I.ok.hd hc) hr (small_one (by omega) (by omega) (by omega) (by omega)) ?_ (by omega) fun h' tk acc c' hk hg hi=>?_
  · rw [rangeSize_one]; split <;> omega
  refine ⟨.ref s.heap.objs.size,_,I.laid (t':=tk) hk (Nat.le_refl _) (o:=.lst ((List.range n.toNat).map fun (i : Nat)=>V.int (i : Int))) ?_,rfl,q _ (I.hok.fresh (Nat.le_refl _))⟩
  have hl : acc.toList.length = n.toNat:=by rw [Array.length_toList]; exact hi.1
  refine ⟨by rw [List.length_map,List.length_range,sizeLine_eq]; omega,acc.toList,c', ?_,by simpa using hg⟩
  have z:=zAm acc.toList 0 fun j v e=>by
    obtain ⟨t',e'⟩:=hi.2 j v (by rw [← Array.getElem?_toList]; exact e)
    exact ⟨t',by rw [e']; congr 2; omega⟩
  rw [hl] at z
  rw [List.range_eq_range']
  exact z
def tEither (t u : TE) : TE:=fun σ H Q=>t σ H Q ∨ u σ H Q
theorem jV {e : Expr} {t u : TE} (h1 : PE X e t) (h2 : PE X e u) : PE X e (tEither t u):=fun pins s σ H Q I h=>h.elim (h1 pins s σ H Q I) (h2 pins s σ H Q I)
end
section
variable {X : Cx} {pins : List (Addr × Obj)} {σ : St} {H : Hp} {s : Shared} {h' : Heap}
theorem Inv.turnedNew {fp : List Addr} {a : Addr} {o : HO} {t' : Nat} (I : Inv X pins σ H s) (hf : ∀ b ∈ fp,FpOk X pins H b) (k : ∀ b ob,b ∉ fp → s.heap.get? b = some ob → h'.get? b = some ob) (hp : s.heap.objs.size ≤ a)
    (new : ObjOk X.prog X.w (upd H a o) h' a o) : Inv X pins σ (upd H a o) { s with heap:=h',toks:=t' }:=by
  have hn : H a = none:=I.hok.fresh hp
  have nfp : ∀ b u,H b = some u → b ∉ fp:=fun b u e z=>by rw [(hf b z).1] at e; cases e
  have nea : ∀ b ob,s.heap.get? b = some ob → b ≠ a:=fun b ob e=>Nat.ne_of_lt (Nat.lt_of_lt_of_le (Heap.lt_size e) hp)
  refine I.step (g':=s.gens) (d':=s.drawn) (ch:=fp) (fun b hb=>?_) (fun b ob _ _ hc e _=>k b ob hc e) (fun b ob _ _ hc e _=>⟨ob.slots,k b ob hc e⟩) (fun b ob _ e n=>by rw [zM (nea b ob e)]; exact n)
    (fun b ob hc e=>⟨ob,k b ob hc e⟩) (fun b xs e=>by rw [zM (zY e hn)]; exact e) (fun b ob u e=>by rw [zM (zY e hn)]; exact e) (fun b ps e=>⟨#[],by rw [zM (zY e hn),e]; simp⟩) (fun m hm=>?_) (fun b u e=>?_) I.bare
  · obtain ⟨_,f1,_,f3,f4,f5⟩:=hf b hb
    exact ⟨f3,f1,f4,f5⟩
  · obtain ⟨ob,es,ep,ho,r⟩:=hm
    exact ⟨ob,es,ep,k _ ob (fun z=>(hf _ z).2.1 rfl) ho,r⟩
  · by_cases hb : b = a
    · subst hb; rw [zC] at e; cases e; exact new
    · rw [zM hb] at e
      refine (I.hok b u e).stay (fun c v hc q=>k c v ?_ q) (fun c q=>by rw [zM (zY q hn)]; exact q) fun c xs q=>by rw [zM (zY q hn)]; exact q
      rcases hc with z | z
      · rw [z]; exact nfp b u e
      · exact nfp c _ z
end
def Iti (d : Addr) (o : Obj) (kvs : List (Key × V)) : It :=
  ⟨fun i H=>i < kvs.length ∧ H d = some (.frz o (.dK kvs)),fun i H y H'=>∃ p kv,H p = none ∧ kvs[i]? = some kv ∧ y = .ref p ∧ H' = upd H p (.tup [kV kv.1,kv.2]),fun i H=>kvs.length ≤ i ∧ H d = some (.frz o (.dK kvs))⟩
theorem zIj : entryFor table "dict_itemiterator.__iter__" = some Builtin.«dict_keyiterator.__iter__» :=
  entryFor_alias (by kernel_rfl) rfl (by decide +kernel) (by kernel_rfl) (id':="dict_keyiterator.__iter__")
theorem zEe {P : Program} {w : World} {K : PySem.W.Frag} {elts : List Expr} {x1 : Nat} {pos : Pos} (d it : Addr) (o : Obj) (kvs : List (Key × V)) :
    Turn P w K (.Tuple elts x1 pos) (Iti d o kvs) [it] it (fun i h=>∃ es ep ok ov,o.data = .dict es ep ∧ IsItemIter h it d i kvs.length ep ok ov) where
  mem:=by simp
  obj:=fun i h st b hb=>by
    obtain ⟨es,ep,ok,ov,_,e⟩:=st
    have e' : b = it:=by simpa using hb
    subst e'
    exact ⟨_,e,fun v z=>by cases z⟩
  keep:=fun i h h' st k=>by
    obtain ⟨es,ep,ok,ov,a,st⟩:=st
    exact ⟨es,ep,ok,ov,a,k it (by simp) _ st⟩
  item:=by
    intro X hP hw hK hc i pins s σ H E I hf st hg
    subst hP hw hK
    obtain ⟨es,ep,ok,ov,hes,st⟩:=st
    obtain ⟨hi,hg⟩:=hg
    obtain ⟨vs,rel,hm,_,_⟩:=qO I.hok hg hes
    have hl:=rel.length
    obtain ⟨kv,hkv⟩ : ∃ kv,kvs[i]? = some kv:=⟨kvs[i],by simp [hi]⟩
    obtain ⟨q,hq,hq1,hq2⟩:=KV.get rel hkv
    rw [hl] at st
    have hlt : it < s.heap.objs.size:=Heap.lt_size st
    refine wpAny_pyNext_items_item (k:=q.1) (v:=q.2) st hm hq fun key h1 hk so ht hz keep=>⟨_,rfl, ?_⟩
    refine wpAny_letOwnedTupleGo_items so fun h2 st2 sb=>?_
    have sb : Heap.SameBut it h1 h2:=sb
    have ht2 : h2.get? s.heap.objs.size = some { cls:=.type "tuple",data:=.seq #[key,q.2] }:=(sb.2 _ (Nat.ne_of_gt hlt)).trans ht
    have hnew : H s.heap.objs.size = none:=I.hok.fresh (Nat.le_refl _)
    refine ⟨.ref s.heap.objs.size,upd H s.heap.objs.size (.tup [kV kv.1,kv.2]),I.turnedNew (t':=s.toks) hf (fun b ob hb e=>?_) (Nat.le_refl _) ?_,rfl,⟨_,kv,hnew,hkv,rfl,rfl⟩,⟨es,ep,key,q.2,hes,by rw [hl]; exact st2⟩,fun b hb=>?_⟩
    · have hne : b ≠ it:=by simpa using hb
      exact (sb.2 b hne).trans (keep b ob hne e)
    · refine ⟨by rw [sizeLine_eq]; simp,[key,q.2], .cons (by rw [hq1]; exact zBg hk) (.cons hq2 .nil),⟨_,ht2,rfl,_,rfl⟩⟩
    · have e : b = it:=by simpa using hb
      subst e
      rw [zM (Nat.ne_of_lt hlt)]
      exact (hf _ (by simp)).1
  done:=by
    intro X hP hw hK hc i pins s σ H E I hf st hg
    subst hP hw hK
    obtain ⟨es,ep,ok,ov,hes,st⟩:=st
    obtain ⟨hi,hg⟩:=hg
    obtain ⟨vs,rel,hm,_,_⟩:=qO I.hok hg hes
    obtain ⟨f0,f1,f2,f3,f4,f5⟩:=hf it (by simp)
    have hl:=rel.length
    rw [hl] at st
    exact wpAny_pyNext_items_end (I.ok.hd hc) st hm (by simp; omega) fun h' eb=>⟨rfl,I.turned (t':=s.toks) (fun b o hb e=>eb b o hb e) f0 f1 f3 f4 f5⟩
  self:=fun A i s Q E st h=>by
    obtain ⟨es,ep,ok,ov,_,st⟩:=st
    have hT : s.TypeIs (.ref it) "dict_itemiterator":=⟨_,st,rfl⟩
    refine wpAny_pyIter_slot hT F.slot_dict_itemiterator_iter (wpAny_call_entry F.slot_dict_itemiterator_iter hT zIj ?_ (F.args_dict_itemiterator_iter_1 _))
    show wpAny _ _ (ret (.ref it)) _ _ s
    exact wpAny_pure ⟨_,rfl,"dict_itemiterator",_,hT,F.slot_dict_itemiterator_next.lookup,h⟩
def itmO (p d : Addr) : HO:=.ext fun h=>h.IsItemsView p d
def rItems : V → List V → Hp → VK → Prop:=fun x vs H Q=>∃ d kvs,x = .ref d ∧ vs = [] ∧ Rd H d (.dK kvs) ∧ ∀ p,H p = none → Q (.ref p) (upd H p (itmO p d))
def iItems (tl : TE) : TI:=fun σ H R=>tl σ H fun x H1=>∃ p d kvs,x = .ref p ∧ H1 p = some (itmO p d) ∧ ((H1 d = some (.dK kvs) ∧ ∀ o,R (Iti d o kvs) (upd H1 d (.frz o (.dK kvs)))) ∨ ∃ o,H1 d = some (.frz o (.dK kvs)) ∧ R (Iti d o kvs) H1)
section
variable {X : Cx}
theorem zIx : MtR X "dict.items" rItems:=by
  intro pins s σ H x vs v us Q I rx rv h
  obtain ⟨d,kvs,rfl,rfl,hq,q⟩:=h
  cases rx
  cases rv
  obtain ⟨z,hd,ws,rel,dd⟩:=qA I.hok hq
  refine call_meetsIn PySem.F.slot_dict_items dd.typeIs PySem.F.entry_dict_items (PySem.F.args_dict_items_1 _) (meets_dict_items (mixKind X.prog X.w) d hd) ⟨⟨ws,dd⟩, ?_⟩
  refine ⟨.ref s.heap.objs.size,_,I.laid (t':=s.toks) (fun b o e=>Heap.get?_push_of_some _ e) (Nat.le_refl _) (o:=itmO s.heap.objs.size d) ?_,rfl,q _ (I.hok.fresh (Nat.le_refl _))⟩
  exact ⟨⟨_,Heap.get?_push_size _ rfl,rfl,rfl⟩,⟨_,Heap.get?_push_size _ rfl⟩,fun h1 h2 ⟨o,e,r⟩ k=>⟨o,k o e,r⟩⟩
theorem zIr {elts : List Expr} {x1 : Nat} {pos : Pos} {l : Expr} {tl : TE} (hl : PE X l tl) : PI X (.Tuple elts x1 pos) l (iItems tl):=by
  intro pins s σ H R I h
  refine thn (hl pins s σ H _ I h) fun v s1 ⟨x,H1,I1,r1,q1⟩=>?_
  obtain ⟨p,d,kvs,rfl,hp,q⟩:=q1
  cases r1
  obtain ⟨hv,_⟩:=(show ObjOk X.prog X.w H1 s1.heap p (itmO p d) from I1.hok p _ hp)
  have fin : ∀ o H2,Inv X pins σ H2 s1 → H2 d = some (.frz o (.dK kvs)) → R (Iti d o kvs) H2 → wpAny (model X.prog X.w) X.A (pyIter (.ref p)) (PIE X pins σ (.Tuple elts x1 pos) R) X.xe s1:=fun o H2 I2 e q=>by
    obtain ⟨g,z,hd,vs,rel,o',es,ep,ho,c,hdat,r⟩:=(show ObjOk X.prog X.w H2 s1.heap d (.frz o (.dK kvs)) from I2.hok d _ e)
    rw [g] at ho; cases ho
    have hm : s1.heap.DictAt (mixKind X.prog X.w) d vs ep:=⟨o,es,g,c,hdat,r⟩
    refine wpAny_pyIter_items hv hm ?_
    refine ⟨s1.heap.objs.size,[s1.heap.objs.size],_,_,H2,rfl,I2.kept (t':=s1.toks) fun b o e=>Heap.get?_push_of_some _ e,zEe d _ o kvs,⟨es,ep, .none, .none,hdat, ?_⟩,fun b hb=>?_,q⟩
    · rw [rel.length]; exact Heap.get?_push_size _ rfl
    · have e : b = s1.heap.objs.size:=by simpa using hb
      subst e
      exact I2.fpOk (Nat.le_refl _) (I2.hok.fresh (Nat.le_refl _))
  rcases q with ⟨e,q⟩ | ⟨o,e,q⟩
  · obtain ⟨z,hd,vs,rel,o,es,ep,ho,_⟩:=(show ObjOk X.prog X.w H1 s1.heap d (.dK kvs) from I1.hok d _ e)
    exact fin o _ (I1.freeze e ho) zC (q o)
  · exact fin o _ I1 e q
end
abbrev g2 (K : PySem.W.Frag) : TG:=gTup K 2 (gCons (gName 0) (gCons (gName 1) gNil))
theorem zIu {F : List (Option V)} {x y : V} : Weak (some x :: some y :: F) (none :: none :: F):=⟨rfl,fun i v e=>by
  match i,e with
  | 0,e=>cases e
  | 1,e=>cases e
  | i + 2,e=>exact e⟩
theorem zJy {K : PySem.W.Frag} {x y : Str} {F : List (Str × Nat)} {J : It} {n : Nat} {te : TE} {σ : St} {Q : VK} {H1 : Hp} (Pv : Nat → List V → Hp → Prop) (hn : n ≤ sizeLine) (h0 : Pv 0 [] H1) (hgo : ∀ i ys H,i < n → Pv i ys H → J.go i H)
    (hst : ∀ ys H,Pv n ys H → J.stop n H)
    (hs : ∀ i ys H z H2,i < n → ys.length ≤ i → Pv i ys H → J.yld i H z H2 → ∃ a u v,z = .ref a ∧ SqT K H2 a [u,v] ∧ te (some u :: some v :: F.map (fun p=>(σ[p.2]?).join)) H2 fun r H4=>Pv (i + 1) (ys ++ [r]) H4)
    (hd : ∀ ys H,ys.length ≤ n → Pv n ys H → ∀ p,H p = none → Q (.ref p) (upd H p (.lst ys))) : CompBody [x,y] F (g2 K) tTrue te σ Q J H1:=by
  refine ⟨fun i m ys H=>m = n - i ∧ i ≤ n ∧ Pv i ys H,⟨n,by simp,Nat.zero_le _,h0⟩, ?_⟩
  rintro i m ys H ⟨rfl,hi,p⟩ hl
  by_cases hlt : i < n
  · refine .inr ⟨hgo i ys H hlt p,by omega,Pv (i + 1),fun ys' H'' q=>⟨n - (i + 1),by omega,rfl,hlt,q⟩,fun z H2 hz=>?_⟩
    obtain ⟨a,u,v,rfl,hq,ht⟩:=hs i ys H z H2 hlt hl p hz
    refine ⟨a,[u,v],rfl,hq,rfl,u,[v],rfl,v,[],rfl,rfl, ?_⟩
    exact ⟨zIu,ht⟩
  · have e : i = n:=by omega
    subst e
    exact .inl ⟨hst ys H p,hn,hd ys H hl p⟩
theorem zDq {K : PySem.W.Frag} {x y : Str} {F : List (Str × Nat)} {d : Addr} {o : Obj} {kvs : List (Key × V)} {te : TE} {σ : St} {Q : VK} {H1 : Hp} (Pv : Nat → List V → Hp → Prop) (hn : kvs.length ≤ sizeLine) (h0 : Pv 0 [] H1) (hz : ∀ i ys H,Pv i ys H → H d = some (.frz o (.dK kvs)))
    (hs : ∀ i kv ys H p,kvs[i]? = some kv → ys.length ≤ i → Pv i ys H → H p = none → te (some (kV kv.1) :: some kv.2 :: F.map (fun p=>(σ[p.2]?).join)) (upd H p (.tup [kV kv.1,kv.2])) fun z H4=>Pv (i + 1) (ys ++ [z]) H4)
    (hd : ∀ ys H,ys.length ≤ kvs.length → Pv kvs.length ys H → ∀ p,H p = none → Q (.ref p) (upd H p (.lst ys))) : CompBody [x,y] F (g2 K) tTrue te σ Q (Iti d o kvs) H1 :=
  zJy Pv hn h0 (fun i ys H h p=>⟨h,hz i ys H p⟩) (fun ys H p=>⟨Nat.le_refl _,hz _ ys H p⟩) (fun i ys H z H2 h1 h2 h3 h4=>by
    obtain ⟨p,kv,hp,hkv,rfl,rfl⟩:=h4
    exact ⟨p,_,_,rfl, .of zC,hs i kv ys H p hkv h2 h3 hp⟩) hd
section
variable {X : Cx}
end
theorem zAk {k : Key} : ∀ {ps : List (Key × V)},k ∉ ps.map (·.1) → valV ps k = none
  | [],_=>rfl
  | p :: ps,h=>by
    rw [yY fun e=>h (by simp [e])]
    exact zAk fun z=>h (List.mem_cons_of_mem _ z)
theorem zLj {X : Cx} {K : PySem.W.Frag} (hK : X.K = K) {es : List Expr} {k : Nat} {pos : Pos} {t : TGs} {n : Nat} (hc : X.calm = true) (h : PGs X es t)
    (hn : (assignEach es X.env).length = n:=by rfl) (hst : (assignEach es X.env).findIdx? (·.1) = none:=by rfl) : PG X (.Tuple es k pos) (gTup K n t):=by subst hK; exact zIa hc h hn hst
structure Bl4 (mg : Str → Option Value) : Prop extends Bl2 mg where
  enumerate : mg "enumerate" = none
mutual
def Sp1 (H : Hp) : V → T → List Addr → Prop
  | v, .non,D=>D = [] ∧ v = .non
  | v, .bl b,D=>D = [] ∧ v = .bl b
  | v, .int i,D=>D = [] ∧ v = .int i
  | v, .str x,D=>D = [] ∧ v = .str (tx x)
  | v, .lst ts,D=>∃ a vs D',v = .ref a ∧ H a = some (.lst vs) ∧ D = a :: D' ∧ a ∉ D' ∧ Sps H vs ts D'
  | v, .dic ks ts,D=>∃ a ps D',v = .ref a ∧ H a = some (.dK ps) ∧ ps.map (·.1) = ks.map (fun k=>(Sum.inr (tx k) : Key)) ∧ D = a :: D' ∧ a ∉ D' ∧ Sps H (ps.map (·.2)) ts D'
  | v, .tup ts,D=>∃ a vs D',v = .ref a ∧ H a = some (.tup vs) ∧ D = a :: D' ∧ a ∉ D' ∧ Sps H vs ts D'
def Sps (H : Hp) : List V → List T → List Addr → Prop
  | vs,[],D=>vs = [] ∧ D = []
  | vs,t :: ts,D=>∃ v r D1 D2,vs = v :: r ∧ D = D1 ++ D2 ∧ Sp1 H v t D1 ∧ Sps H r ts D2 ∧ ∀ b ∈ D1,b ∉ D2
end
mutual
theorem Sp1.rep {H : Hp} : ∀ (v : V) (t : T) (D : List Addr),Sp1 H v t D → Rep H v t
  | _, .non,_,h=>h.2
  | _, .bl _,_,h=>h.2
  | _, .int _,_,h=>h.2
  | _, .str _,_,h=>h.2
  | _, .lst ts,_,⟨a,vs,D',h1,h2,_,_,h3⟩=>⟨a,vs,h1,h2,Sps.rep vs ts D' h3⟩
  | _, .dic ks ts,_,⟨a,ps,D',h1,h2,h3,_,_,h4⟩=>⟨a,ps,h1,h2,h3,Sps.rep _ ts D' h4⟩
  | _, .tup ts,_,⟨a,vs,D',h1,h2,_,_,h3⟩=>⟨a,vs,h1,h2,Sps.rep vs ts D' h3⟩
theorem Sps.rep {H : Hp} : ∀ (vs : List V) (ts : List T) (D : List Addr),Sps H vs ts D → Reps H vs ts
  | _,[],_,h=>h.1
  | _,t :: ts,_,⟨v,r,D1,D2,h1,_,h2,h3,_⟩=>⟨v,r,h1,Sp1.rep v t D1 h2,Sps.rep r ts D2 h3⟩
end
mutual
theorem Sp1.keep {H H' : Hp} : ∀ (v : V) (t : T) (D : List Addr),(∀ b ∈ D,∀ o,(∀ ob u,o ≠ HO.frz ob u) → H b = some o → H' b = some o) → Sp1 H v t D → Sp1 H' v t D
  | _, .non,_,_,h=>h
  | _, .bl _,_,_,h=>h
  | _, .int _,_,_,h=>h
  | _, .str _,_,_,h=>h
  | _, .lst ts,_,k,⟨a,vs,D',h1,h2,e,n,h3⟩=>⟨a,vs,D',h1,k a (by rw [e]; exact List.mem_cons_self) _ (by intro ob u z; cases z) h2,e,n,Sps.keep vs ts D' (fun b hb=>k b (by rw [e]; exact List.mem_cons_of_mem _ hb)) h3⟩
  | _, .dic ks ts,_,k,⟨a,ps,D',h1,h2,h3,e,n,h4⟩=>⟨a,ps,D',h1,k a (by rw [e]; exact List.mem_cons_self) _ (by intro ob u z; cases z) h2,h3,e,n,Sps.keep _ ts D' (fun b hb=>k b (by rw [e]; exact List.mem_cons_of_mem _ hb)) h4⟩
  | _, .tup ts,_,k,⟨a,vs,D',h1,h2,e,n,h3⟩=>⟨a,vs,D',h1,k a (by rw [e]; exact List.mem_cons_self) _ (by intro ob u z; cases z) h2,e,n,Sps.keep vs ts D' (fun b hb=>k b (by rw [e]; exact List.mem_cons_of_mem _ hb)) h3⟩
theorem Sps.keep {H H' : Hp} : ∀ (vs : List V) (ts : List T) (D : List Addr),(∀ b ∈ D,∀ o,(∀ ob u,o ≠ HO.frz ob u) → H b = some o → H' b = some o) → Sps H vs ts D → Sps H' vs ts D
  | _,[],_,_,h=>h
  | _,t :: ts,_,k,⟨v,r,D1,D2,h1,e,h2,h3,n⟩=>⟨v,r,D1,D2,h1,e,Sp1.keep v t D1 (fun b hb=>k b (by rw [e]; exact List.mem_append_left _ hb)) h2,Sps.keep r ts D2 (fun b hb=>k b (by rw [e]; exact List.mem_append_right _ hb)) h3,n⟩
end
mutual
theorem Sp1.there {H : Hp} {b : Addr} : ∀ (v : V) (t : T) (D : List Addr),Sp1 H v t D → b ∈ D → ∃ o,H b = some o
  | _, .non,_,h,hb=>by rw [h.1] at hb; cases hb
  | _, .bl _,_,h,hb=>by rw [h.1] at hb; cases hb
  | _, .int _,_,h,hb=>by rw [h.1] at hb; cases hb
  | _, .str _,_,h,hb=>by rw [h.1] at hb; cases hb
  | _, .lst ts,_,⟨a,vs,D',h1,h2,e,n,h3⟩,hb=>by
    rw [e] at hb
    rcases List.mem_cons.mp hb with z | z
    · exact ⟨_,by rw [z]; exact h2⟩
    · exact Sps.there vs ts D' h3 z
  | _, .dic ks ts,_,⟨a,ps,D',h1,h2,h3,e,n,h4⟩,hb=>by
    rw [e] at hb
    rcases List.mem_cons.mp hb with z | z
    · exact ⟨_,by rw [z]; exact h2⟩
    · exact Sps.there _ ts D' h4 z
  | _, .tup ts,_,⟨a,vs,D',h1,h2,e,n,h3⟩,hb=>by
    rw [e] at hb
    rcases List.mem_cons.mp hb with z | z
    · exact ⟨_,by rw [z]; exact h2⟩
    · exact Sps.there vs ts D' h3 z
theorem Sps.there {H : Hp} {b : Addr} : ∀ (vs : List V) (ts : List T) (D : List Addr),Sps H vs ts D → b ∈ D → ∃ o,H b = some o
  | _,[],_,h,hb=>by rw [h.2] at hb; cases hb
  | _,t :: ts,_,⟨v,r,D1,D2,h1,e,h2,h3,n⟩,hb=>by
    rw [e] at hb
    rcases List.mem_append.mp hb with z | z
    · exact Sp1.there v t D1 h2 z
    · exact Sps.there r ts D2 h3 z
end
theorem Sp1.same {H H' : Hp} (g : Same H H') {v : V} {t : T} {D : List Addr} (h : Sp1 H v t D) : Sp1 H' v t D:=Sp1.keep v t D (fun b _ o _ e=>g b o e) h
theorem Sps.same {H H' : Hp} (g : Same H H') {v : List V} {t : List T} {D : List Addr} (h : Sps H v t D) : Sps H' v t D:=Sps.keep v t D (fun b _ o _ e=>g b o e) h
theorem Sps.snoc {H : Hp} {v : V} {t : T} {D1 : List Addr} (h : Sp1 H v t D1) : ∀ {vs : List V} {ts : List T} {D : List Addr},Sps H vs ts D → (∀ b ∈ D,b ∉ D1) → Sps H (vs ++ [v]) (ts ++ [t]) (D ++ D1)
  | _,[],D,e,_=>by
    obtain ⟨e1,e2⟩:=e
    subst e1 e2
    exact ⟨v,[],D1,[],rfl,by simp,h,⟨rfl,rfl⟩,fun _ _ z=>nomatch z⟩
  | _,t' :: ts,D,⟨v',r,E1,E2,h1,e,h2,h3,n⟩,hd=>by
    subst h1 e
    refine ⟨v',r ++ [v],E1,E2 ++ D1,rfl,by simp,h2,Sps.snoc h h3 fun b hb=>hd b (List.mem_append_right _ hb),fun b hb z=>?_⟩
    rcases List.mem_append.mp z with c | c
    · exact n b hb c
    · exact hd b (List.mem_append_left _ hb) c
theorem Sps.length {H : Hp} {vs : List V} {ts : List T} {D : List Addr} (h : Sps H vs ts D) : vs.length = ts.length:=(Sps.rep vs ts D h).length
def Keep (D : List Addr) (H H' : Hp) : Prop:=∀ b o,b ∉ D → H b = some o → H' b = some o
theorem Keep.trans {D : List Addr} {H H1 H2 : Hp} (a : Keep D H H1) (b : Keep D H1 H2) : Keep D H H2:=fun c o h e=>b c o h (a c o h e)
theorem Keep.mono {D D' : List Addr} {H H' : Hp} (h : Keep D H H') (s : ∀ b ∈ D,b ∈ D') : Keep D' H H':=fun b o hb e=>h b o (fun z=>hb (s b z)) e
theorem Keep.of {D : List Addr} {H H' : Hp} (g : Same H H') : Keep D H H':=fun b o _ e=>g b o e
theorem Keep.put {D : List Addr} {H H' : Hp} {a : Addr} (o : HO) (h : Keep D H H') (ha : a ∈ D) : Keep D H (upd H' a o):=fun b u hb e=>by
  rw [zM fun z=>hb (by rw [z]; exact ha)]
  exact h b u hb e
theorem zN {H H' : Hp} (g : Same H H') {p : Addr} (h : H' p = none) : H p = none:=by
  cases e : H p with
  | none=>rfl
  | some o=>rw [g _ _ e] at h; cases h
theorem Sps.thaw {H H' : Hp} {vs : List V} {ts : List T} {D : List Addr} (h : Sps H' vs ts D) : Sps (L2.thaw H H') vs ts D:=Sps.keep vs ts D (fun _ _ _ n e=>xK e n) h
section
variable {prog : Program} {w : World} {A : Around} {E : Value → Shared → Prop} {s : Shared}
end
section
variable {X : Cx}
end
section
variable {X : Cx} {a : Expr} {ta : TE}
end
inductive U where
  | leaf (v : V) | lst (us : List U) | dic (ks : List Key) (us : List U)
mutual
def U.sz : U → Nat
  | .leaf _=>1
  | .lst us=>U.szs us + 1
  | .dic _ us=>U.szs us + 1
def U.szs : List U → Nat
  | []=>0
  | u :: us=>U.sz u + U.szs us
end
mutual
def U.dep : U → Nat
  | .leaf _=>0
  | .lst us=>U.deps us + 1
  | .dic _ us=>U.deps us + 1
def U.deps : List U → Nat
  | []=>0
  | u :: us=>max (U.dep u) (U.deps us)
end
mutual
def U.ok : U → Prop
  | .leaf v=>∀ x,v = .str x → x.length ≤ 1000
  | .lst us=>U.oks us
  | .dic ks us=>ks.Nodup ∧ ks.length = us.length ∧ (∀ x,Sum.inr x ∈ ks → x.length ≤ 1000) ∧ U.oks us
def U.oks : List U → Prop
  | []=>True
  | u :: us=>U.ok u ∧ U.oks us
end
section
variable {X : Cx} {pins : List (Addr × Obj)} {σ : St} {H : Hp} {s : Shared}
end
section
variable {X : Cx} {o : Expr} {to : TE} {name : Str} {apos cpos : Pos} {id : String} {r : V → List V → Hp → VK → Prop}
end
structure Bl5 (mg : Str → Option Value) : Prop extends Bl2 mg where
  abs : mg "abs" = none
  ord : mg "ord" = none
section
variable {X : Cx} {pins : List (Addr × Obj)} {σ : St} {H : Hp} {s : Shared} {h' : Heap}
end
def Itz (K : PySem.W.Frag) (l m : Addr) : It :=
  ⟨fun i H=>∃ xs ys x y,SqL K H l xs ∧ SqL K H m ys ∧ xs[i]? = some x ∧ ys[i]? = some y,
   fun i H v H'=>∃ p x y,H p = none ∧ v = .ref p ∧ (∀ xs,SqL K H l xs → xs[i]? = some x) ∧ (∀ ys,SqL K H m ys → ys[i]? = some y) ∧ H' = upd H p (.tup [x,y]),
   fun i H=>∃ xs ys,SqL K H l xs ∧ SqL K H m ys ∧ (xs.length ≤ i ∨ ys.length ≤ i)⟩
def iZip (K : PySem.W.Frag) (ta : TA) : TI:=fun σ H R=>ta σ H fun vs H1=>∃ l m xs ys,vs = [.ref l, .ref m] ∧ SqL K H1 l xs ∧ SqL K H1 m ys ∧ R (Itz K l m) H1
structure Bl6 (mg : Str → Option Value) : Prop extends Bl2 mg where
  zip : mg "zip" = none
section
variable {X : Cx} {a : Expr} {ta : TE}
def tIsT (ta : TE) : TE:=fun σ H Q=>ta σ H fun x H1=>∃ b,x = .bl b ∧ Q (.bl b) H1
end
end L2
namespace HT
open PySem PyProof.Rows
open PySem.SeqAt
open PySem.AutoSeq1 (wpAny_loadPart')
open PySem.MeetsSeq PySem.MeetsSeq2 PySem.MeetsSeq3
section
variable {prog : Program} {w : World} {A : Around} {E : Value → Shared → Prop} {s : Shared}
end
end HT
namespace L2
open PySem PySem.Spec PyProof.Rows
end L2
namespace L2
open PySem PySem.Spec PyProof.Rows PySem.Builtin PySem.Builtin.Str
section
variable {X : Cx}
end
end L2
namespace L2
open PySem PySem.Spec PyProof.Rows
theorem zEv {X : Cx} {K : PySem.W.Frag} (h : X.K = K) : IxR X (rIx K):=by subst h; exact zMk
section
variable {X : Cx}
end
mutual
def T.okq : T → Prop
  | .lst us=>us.length ≤ 200000 ∧ T.okqs us
  | .tup us=>us.length ≤ 200000 ∧ T.okqs us
  | .dic ks us=>ks.Nodup ∧ ks.length = us.length ∧ us.length ≤ 200000 ∧ T.okqs us
  | .non=>True
  | .bl _=>True
  | .int _=>True
  | .str _=>True
def T.okqs : List T → Prop
  | []=>True
  | t :: us=>T.okq t ∧ T.okqs us
end
theorem T.okqs_mem {t : T} : ∀ {us : List T},T.okqs us → t ∈ us → T.okq t
  | [],_,h=>nomatch h
  | u :: us,h,hm=>(List.mem_cons.mp hm).elim (fun e=>e ▸ h.1) (T.okqs_mem h.2)
theorem T.okqs_of {us : List T} (h : ∀ t ∈ us,T.okq t) : T.okqs us:=by
  induction us with
  | nil=>exact True.intro
  | cons t us ih=>exact ⟨h t List.mem_cons_self,ih fun u hu=>h u (List.mem_cons_of_mem _ hu)⟩
mutual
theorem T.few_okq : ∀ t : T,T.few t → T.okq t
  | .lst us,h=>⟨Nat.le_trans h.1 (by decide),T.fews_okqs us h.2⟩
  | .dic ks us,h=>⟨h.1,h.2.2.1,by have:=h.2.1; have:=h.2.2.1; omega,T.fews_okqs us h.2.2.2⟩
  | .tup _,h=>h.elim
  | .non,_=>True.intro
  | .bl _,_=>True.intro
  | .int _,_=>True.intro
  | .str _,_=>True.intro
theorem T.fews_okqs : ∀ us : List T,T.fews us → T.okqs us
  | [],_=>True.intro
  | t :: us,h=>⟨T.few_okq t h.1,T.fews_okqs us h.2⟩
end
mutual
def T.fewq : T → Prop
  | .dic ks us=>ks.Nodup ∧ ks.length < 64 ∧ ks.length = us.length ∧ T.fewqs us
  | .lst us=>us.length ≤ 100000 ∧ T.fewqs us
  | .tup us=>us.length ≤ 100000 ∧ T.fewqs us
  | .non=>True
  | .bl _=>True
  | .int _=>True
  | .str _=>True
def T.fewqs : List T → Prop
  | []=>True
  | t :: us=>T.fewq t ∧ T.fewqs us
end
theorem T.fewqs_mem {t : T} : ∀ {us : List T},T.fewqs us → t ∈ us → T.fewq t
  | [],_,h=>nomatch h
  | u :: us,h,hm=>(List.mem_cons.mp hm).elim (fun e=>e ▸ h.1) (T.fewqs_mem h.2)
mutual
theorem T.few_fewq : ∀ t : T,T.few t → T.fewq t
  | .lst us,h=>⟨h.1,T.fews_fewqs us h.2⟩
  | .dic ks us,h=>⟨h.1,h.2.1,h.2.2.1,T.fews_fewqs us h.2.2.2⟩
  | .tup _,h=>h.elim
  | .non,_=>True.intro
  | .bl _,_=>True.intro
  | .int _,_=>True.intro
  | .str _,_=>True.intro
theorem T.fews_fewqs : ∀ us : List T,T.fews us → T.fewqs us
  | [],_=>True.intro
  | t :: us,h=>⟨T.few_fewq t h.1,T.fews_fewqs us h.2⟩
end
mutual
def T.fewm (m : Nat) : T → Prop
  | .dic ks us=>ks.Nodup ∧ ks.length ≤ m ∧ ks.length = us.length ∧ T.fewms m us
  | .lst us=>us.length ≤ 100000 ∧ T.fewms m us
  | .tup _=>False
  | .non=>True
  | .bl _=>True
  | .int _=>True
  | .str _=>True
def T.fewms (m : Nat) : List T → Prop
  | []=>True
  | t :: us=>T.fewm m t ∧ T.fewms m us
end
theorem T.fewms_mem {m : Nat} {t : T} : ∀ {us : List T},T.fewms m us → t ∈ us → T.fewm m t
  | [],_,h=>nomatch h
  | u :: us,h,hm=>(List.mem_cons.mp hm).elim (fun e=>e ▸ h.1) (T.fewms_mem h.2)
theorem T.fewms_of {m : Nat} {us : List T} (h : ∀ t ∈ us,T.fewm m t) : T.fewms m us:=by
  induction us with
  | nil=>exact True.intro
  | cons t us ih=>exact ⟨h t List.mem_cons_self,ih fun u hu=>h u (List.mem_cons_of_mem _ hu)⟩
mutual
theorem T.fewm_mono {m m' : Nat} (l : m ≤ m') : ∀ t : T,T.fewm m t → T.fewm m' t
  | .lst us,h=>⟨h.1,T.fewms_mono l us h.2⟩
  | .dic ks us,h=>⟨h.1,Nat.le_trans h.2.1 l,h.2.2.1,T.fewms_mono l us h.2.2.2⟩
  | .tup _,h=>h.elim
  | .non,_=>True.intro
  | .bl _,_=>True.intro
  | .int _,_=>True.intro
  | .str _,_=>True.intro
theorem T.fewms_mono {m m' : Nat} (l : m ≤ m') : ∀ us : List T,T.fewms m us → T.fewms m' us
  | [],_=>True.intro
  | t :: us,h=>⟨T.fewm_mono l t h.1,T.fewms_mono l us h.2⟩
end
mutual
theorem T.fewm_few {m : Nat} (l : m ≤ 63) : ∀ t : T,T.fewm m t → T.few t
  | .lst us,h=>⟨h.1,T.fewms_few l us h.2⟩
  | .dic ks us,h=>⟨h.1,by have:=h.2.1; omega,h.2.2.1,T.fewms_few l us h.2.2.2⟩
  | .tup _,h=>h.elim
  | .non,_=>True.intro
  | .bl _,_=>True.intro
  | .int _,_=>True.intro
  | .str _,_=>True.intro
theorem T.fewms_few {m : Nat} (l : m ≤ 63) : ∀ us : List T,T.fewms m us → T.fews us
  | [],_=>True.intro
  | t :: us,h=>⟨T.fewm_few l t h.1,T.fewms_few l us h.2⟩
end
def mrkV (f : T → Int → T × Int) : List Nat → List T → Int → List T × Int
  | [],us,c=>(us,c)
  | i :: is,us,c=>mrkV f is (us.set i (f (us.getD i .non) c).1) (f (us.getD i .non) c).2
def zzN : List Nat:=ts (Str.ofString "zz")
def ixs (ks : List (List Nat)) : List Nat:=(sortK ks).map fun k=>ks.idxOf k
def mrkL (r : List T × Int) : T × Int:=(.lst (r.1 ++ [.int r.2]),r.2 + 1)
def mrkU (r : List T × Int) : T × Int:=(.tup r.1,r.2 + 1)
def mrkD (ks : List (List Nat)) (r : List T × Int) : T × Int:=(.dic (putT (ks,r.1) zzN (.int r.2)).1 (putT (ks,r.1) zzN (.int r.2)).2,r.2 + 1)
def mrkT : Nat → T → Int → T × Int
  | 0,t,c=>(t,c)
  | n + 1, .lst us,c=>mrkL (mrkV (mrkT n) (List.range us.length) us c)
  | n + 1, .dic ks us,c=>mrkD ks (mrkV (mrkT n) (ixs ks) us c)
  | n + 1, .tup us,c=>mrkU (mrkV (mrkT n) (List.range us.length) us c)
  | _ + 1,t,c=>(t,c + 1)
theorem jB {f : T → Int → T × Int} {A B : T → Prop} (hf : ∀ t c,A t → B (f t c).1) : ∀ (is : List Nat) (us : List T) (c : Int),is.Nodup → (∀ i ∈ is,i < us.length) → (∀ i t,us[i]? = some t → (i ∈ is → A t) ∧ (i ∉ is → B t)) → (∀ t ∈ (mrkV f is us c).1,B t) ∧ (mrkV f is us c).1.length = us.length
  | [],us,c,_,_,h=>⟨fun t ht=>by
      obtain ⟨i,hi⟩:=List.mem_iff_getElem?.mp ht
      exact (h i t hi).2 (fun z=>nomatch z),rfl⟩
  | i :: is,us,c,hn,hl,h=>by
    rw [List.nodup_cons] at hn
    have hi:=hl i List.mem_cons_self
    have e : us.getD i .non = us[i]:=by simp [List.getD_eq_getElem?_getD,hi]
    have ih:=jB hf is (us.set i (f (us.getD i .non) c).1) (f (us.getD i .non) c).2 hn.2 (fun j hj=>by rw [List.length_set]; exact hl j (List.mem_cons_of_mem _ hj)) fun j t hj=>by
      by_cases hji : j = i
      · subst hji
        refine ⟨fun z=>absurd z hn.1,fun _=>?_⟩
        rw [List.getElem?_set_self hi] at hj
        rw [← Option.some.inj hj,e]
        exact hf _ _ ((h j us[j] (List.getElem?_eq_getElem hi)).1 List.mem_cons_self)
      · rw [List.getElem?_set_ne (Ne.symm hji)] at hj
        obtain ⟨h1,h2⟩:=h j t hj
        exact ⟨fun z=>h1 (List.mem_cons_of_mem _ z),fun z=>h2 fun y=>(List.mem_cons.mp y).elim hji z⟩
    rw [List.length_set] at ih
    exact ih
theorem zAv {ks : List (List Nat)} {k : List Nat} (h : k ∈ ks) : ks[ks.idxOf k]? = some k:=by
  have hl:=List.idxOf_lt_length_of_mem h
  rw [List.getElem?_eq_getElem hl]
  exact congrArg some (List.getElem_idxOf hl)
theorem zMz {ks : List (List Nat)} (nd : ks.Nodup) {i : Nat} {k : List Nat} (h : ks[i]? = some k) : ks.idxOf k = i:=by
  obtain ⟨hi,e⟩:=List.getElem?_eq_some_iff.mp h
  rw [← e]
  exact nd.idxOf_getElem i hi
theorem uN {ks : List (List Nat)} (nd : ks.Nodup) : (ixs ks).Nodup:=by
  unfold ixs
  have hp:=wO ks
  have hn : (sortK ks).Nodup:=hp.nodup_iff.mpr nd
  unfold List.Nodup
  rw [List.pairwise_map]
  refine List.Pairwise.imp_of_mem ?_ hn
  intro a b ha hb hab z
  have h1:=zAv (hp.mem_iff.mp ha)
  have h2:=zAv (hp.mem_iff.mp hb)
  rw [z] at h1
  rw [h1] at h2
  exact hab (Option.some.inj h2)
theorem zMu {ks : List (List Nat)} {i : Nat} (h : i ∈ ixs ks) : i < ks.length:=by
  obtain ⟨k,hk,rfl⟩:=List.mem_map.mp h
  exact List.idxOf_lt_length_of_mem ((wO ks).mem_iff.mp hk)
theorem zLx {ks : List (List Nat)} (nd : ks.Nodup) {i : Nat} (h : i < ks.length) : i ∈ ixs ks:=by
  refine List.mem_map.mpr ⟨ks[i],(wO ks).mem_iff.mpr (List.getElem_mem h), ?_⟩
  exact zMz nd (List.getElem?_eq_getElem h)
theorem kQ {ks : List (List Nat)} {us : List T} {n : List Nat} {t : T} (h : ks.length = us.length) : (putT (ks,us) n t).1.length = (putT (ks,us) n t).2.length ∧ (putT (ks,us) n t).2.length ≤ us.length + 1:=by
  unfold putT
  split
  · exact ⟨by show ks.length = (putTs n t ks us).length; rw [yX]; exact h,by show (putTs n t ks us).length ≤ _; rw [yX]; exact Nat.le_succ _⟩
  · exact ⟨by show (ks ++ [n]).length = (us ++ [t]).length; rw [List.length_append,List.length_append,h]; rfl,by show (us ++ [t]).length ≤ _; rw [List.length_append]; exact Nat.le_refl _⟩
theorem jA {ks : List (List Nat)} {us : List T} {n : List Nat} {t : T} (h : ks.Nodup) : (putT (ks,us) n t).1.Nodup:=by
  unfold putT
  split
  · exact h
  · rename_i hn
    show (ks ++ [n]).Nodup
    rw [List.nodup_append]
    exact ⟨h,by simp,fun a ha b hb z=>hn (by rw [← List.mem_singleton.mp hb,← z]; exact ha)⟩
theorem zDa {ks : List (List Nat)} {us : List T} {n : List Nat} {t u : T} (h : u ∈ (putT (ks,us) n t).2) : u ∈ us ∨ u = t:=by
  unfold putT at h
  split at h
  · exact vJ _ _ _ _ _ h
  · rcases List.mem_append.mp h with z | z
    · exact .inl z
    · exact .inr (List.mem_singleton.mp z)
theorem T.deps_lt {n : Nat} {us : List T} (hn : 0 < n) (h : ∀ t ∈ us,T.dep t < n) : T.deps us < n:=by
  have:=T.deps_of (n:=n - 1) (ts:=us) fun t ht=>by have:=h t ht; omega
  omega
theorem kJ : ∀ (n : Nat) (t : T) (c : Int),T.fewq t → T.dep t < n → T.okq (mrkT n t c).1 ∧ T.dep (mrkT n t c).1 < n
  | 0,_,_,_,h=>absurd h (Nat.not_lt_zero _)
  | n + 1, .lst us,c,hf,hd=>by
    have hd' : T.deps us + 1 < n + 1:=hd
    obtain ⟨h1,h2⟩:=jB (f:=mrkT n) (A:=fun t=>T.fewq t ∧ T.dep t < n) (B:=fun t=>T.okq t ∧ T.dep t < n) (fun t c h=>kJ n t c h.1 h.2) (List.range us.length) us c List.nodup_range (fun i hi=>List.mem_range.mp hi) fun i t hi=>by
      refine ⟨fun _=>?_,fun z=>absurd (List.mem_range.mpr (List.getElem?_eq_some_iff.mp hi).1) z⟩
      have hm:=List.mem_of_getElem? hi
      have:=T.deps_le hm
      exact ⟨T.fewqs_mem hf.2 hm,by omega⟩
    show T.okq (mrkL (mrkV (mrkT n) (List.range us.length) us c)).1 ∧ T.dep (mrkL (mrkV (mrkT n) (List.range us.length) us c)).1 < n + 1
    generalize mrkV (mrkT n) (List.range us.length) us c = r at h1 h2 ⊢
    have hall : ∀ t ∈ r.1 ++ [T.int r.2],T.okq t ∧ T.dep t < n:=fun t ht=>by
      rcases List.mem_append.mp ht with z | z
      · exact h1 t z
      · rw [List.mem_singleton.mp z]; exact ⟨True.intro,show 0 < n by omega⟩
    refine ⟨⟨?_,T.okqs_of fun t ht=>(hall t ht).1⟩, ?_⟩
    · rw [List.length_append,h2]
      have:=hf.1
      show us.length + 1 ≤ _
      omega
    · show T.deps (r.1 ++ [T.int r.2]) + 1 < n + 1
      have:=T.deps_lt (n:=n) (by omega) fun t ht=>(hall t ht).2
      omega
  | n + 1, .dic ks us,c,hf,hd=>by
    obtain ⟨nk,h64,hl,hf⟩:=hf
    have hd' : T.deps us + 1 < n + 1:=hd
    obtain ⟨h1,h2⟩:=jB (f:=mrkT n) (A:=fun t=>T.fewq t ∧ T.dep t < n) (B:=fun t=>T.okq t ∧ T.dep t < n) (fun t c h=>kJ n t c h.1 h.2) (ixs ks) us c (uN nk) (fun i hi=>by have:=zMu hi; omega) fun i t hi=>by
      refine ⟨fun _=>?_,fun z=>absurd (zLx nk (by have:=(List.getElem?_eq_some_iff.mp hi).1; omega)) z⟩
      have hm:=List.mem_of_getElem? hi
      have:=T.deps_le hm
      exact ⟨T.fewqs_mem hf hm,by omega⟩
    show T.okq (mrkD ks (mrkV (mrkT n) (ixs ks) us c)).1 ∧ T.dep (mrkD ks (mrkV (mrkT n) (ixs ks) us c)).1 < n + 1
    generalize mrkV (mrkT n) (ixs ks) us c = r at h1 h2 ⊢
    have hall : ∀ t ∈ (putT (ks,r.1) zzN (.int r.2)).2,T.okq t ∧ T.dep t < n:=fun t ht=>by
      rcases zDa ht with z | z
      · exact h1 t z
      · rw [z]; exact ⟨True.intro,show 0 < n by omega⟩
    obtain ⟨l1,l2⟩:=kQ (ks:=ks) (us:=r.1) (n:=zzN) (t:=.int r.2) (by rw [h2]; exact hl)
    refine ⟨⟨jA nk,l1,by omega,T.okqs_of fun t ht=>(hall t ht).1⟩, ?_⟩
    show T.deps (putT (ks,r.1) zzN (.int r.2)).2 + 1 < n + 1
    have:=T.deps_lt (n:=n) (by omega) fun t ht=>(hall t ht).2
    omega
  | n + 1, .tup us,c,hf,hd=>by
    have hd' : T.deps us + 1 < n + 1:=hd
    obtain ⟨h1,h2⟩:=jB (f:=mrkT n) (A:=fun t=>T.fewq t ∧ T.dep t < n) (B:=fun t=>T.okq t ∧ T.dep t < n) (fun t c h=>kJ n t c h.1 h.2) (List.range us.length) us c List.nodup_range (fun i hi=>List.mem_range.mp hi) fun i t hi=>by
      refine ⟨fun _=>?_,fun z=>absurd (List.mem_range.mpr (List.getElem?_eq_some_iff.mp hi).1) z⟩
      have hm:=List.mem_of_getElem? hi
      have:=T.deps_le hm
      exact ⟨T.fewqs_mem hf.2 hm,by omega⟩
    show T.okq (mrkU (mrkV (mrkT n) (List.range us.length) us c)).1 ∧ T.dep (mrkU (mrkV (mrkT n) (List.range us.length) us c)).1 < n + 1
    generalize mrkV (mrkT n) (List.range us.length) us c = r at h1 h2 ⊢
    refine ⟨⟨?_,T.okqs_of fun t ht=>(h1 t ht).1⟩, ?_⟩
    · rw [h2]
      have:=hf.1
      omega
    · show T.deps r.1 + 1 < n + 1
      have:=T.deps_lt (n:=n) (by omega) fun t ht=>(h1 t ht).2
      omega
  | n + 1, .non,c,hf,hd=>⟨True.intro,hd⟩
  | n + 1, .bl _,c,hf,hd=>⟨True.intro,hd⟩
  | n + 1, .int _,c,hf,hd=>⟨True.intro,hd⟩
  | n + 1, .str _,c,hf,hd=>⟨True.intro,hd⟩
theorem Sps.at {H : Hp} : ∀ {us : List T} {vs : List V} {D : List Addr} {i : Nat} {t : T},Sps H vs us D → us[i]? = some t → ∃ v D1,vs[i]? = some v ∧ Sp1 H v t D1 ∧ (∀ b ∈ D1,b ∈ D) ∧
    ∀ H' t' D1',Sp1 H' v t' D1' → (∀ b ∈ D1',b ∈ D1) → Keep D1 H H' → ∃ D',Sps H' vs (us.set i t') D' ∧ ∀ b ∈ D',b ∈ D
  | [],_,_,i,t,_,h=>by simp at h
  | u :: us,_,_,0,t,⟨v,r,D1,D2,rfl,rfl,h1,h2,hd⟩,h=>by
    have e : u = t:=by simpa using h
    subst e
    refine ⟨v,D1,rfl,h1,fun b hb=>List.mem_append_left _ hb,fun H' t' D1' hs hsub hk=>⟨D1' ++ D2,⟨v,r,D1',D2,rfl,rfl,hs, ?_,fun b hb=>hd b (hsub b hb)⟩,fun b hb=>?_⟩⟩
    · exact Sps.keep _ _ _ (fun b hb o _ e=>hk b o (fun z=>hd b z hb) e) h2
    · exact (List.mem_append.mp hb).elim (fun z=>List.mem_append_left _ (hsub b z)) (fun z=>List.mem_append_right _ z)
  | u :: us,_,_,i + 1,t,⟨v,r,D1,D2,rfl,rfl,h1,h2,hd⟩,h=>by
    obtain ⟨w,E1,g1,g2,g3,g4⟩:=Sps.at (i:=i) h2 (by simpa using h)
    refine ⟨w,E1,by simpa using g1,g2,fun b hb=>List.mem_append_right _ (g3 b hb),fun H' t' D1' hs hsub hk=>?_⟩
    obtain ⟨D',k1,k2⟩:=g4 H' t' D1' hs hsub hk
    refine ⟨D1 ++ D',⟨v,r,D1,D',rfl,rfl, ?_,k1,fun b hb z=>hd b hb (k2 b z)⟩,fun b hb=>(List.mem_append.mp hb).elim (fun z=>List.mem_append_left _ z) (fun z=>List.mem_append_right _ (k2 b z))⟩
    exact Sp1.keep _ _ _ (fun b hb o _ e=>hk b o (fun z=>hd b hb (g3 b z)) e) h1
theorem Sps.replT {H : Hp} {n : List Nat} {c : Int} : ∀ {ps : List (Key × V)} {ks : List (List Nat)} {us : List T} {D : List Addr},ps.map (·.1) = ks.map nK → Sps H (ps.map (·.2)) us D →
    ∃ D',Sps H ((ps.map fun kv=>if kv.1 = nK n then (kv.1,V.int c) else kv).map (·.2)) (putTs n (.int c) ks us) D' ∧ ∀ b ∈ D',b ∈ D
  | [],[],us,D,_,h=>by
    have e : putTs n (.int c) [] us = us:=by unfold putTs; rfl
    rw [e]; exact ⟨D,h,fun _ h=>h⟩
  | [],_ :: _,_,_,e,_=>by simp at e
  | _ :: _,[],_,_,e,_=>by simp at e
  | p :: ps,k :: ks,[],_,_,h=>by
    have h' : (p :: ps).map (·.2) = []:=h.1
    cases h'
  | p :: ps,k :: ks,u :: us,_,e,⟨v',r,D1,D2,e0,rfl,h1,h2,hd⟩=>by
    have e' : p.2 :: ps.map (·.2) = v' :: r:=e0
    injection e' with e1 e2
    subst e1 e2
    have e3 : p.1 :: ps.map (·.1) = nK k :: ks.map nK:=e
    injection e3 with e4 e5
    obtain ⟨D',i1,i2⟩:=Sps.replT (n:=n) (c:=c) e5 h2
    by_cases hk : k = n
    · refine ⟨D',⟨.int c,_,[],D', ?_,rfl, ?_,i1,fun _ z=>nomatch z⟩,fun b hb=>List.mem_append_right _ (i2 b hb)⟩
      · rw [List.map_cons,if_pos (by rw [e4,hk]),List.map_cons]
      · rw [if_pos hk]; exact ⟨rfl,rfl⟩
    · refine ⟨D1 ++ D',⟨p.2,_,D1,D', ?_,rfl, ?_,i1,fun b hb z=>hd b hb (i2 b z)⟩,fun b hb=>(List.mem_append.mp hb).elim (fun z=>List.mem_append_left _ z) (fun z=>List.mem_append_right _ (i2 b z))⟩
      · rw [List.map_cons,if_neg (by rw [e4]; exact fun z=>hk (qW z)),List.map_cons]
      · rw [if_neg hk]; exact h1
theorem zDo {ps : List (Key × V)} {ks : List (List Nat)} {n : List Nat} (hk : ps.map (·.1) = ks.map nK) : (ps.any fun kv=>decide (kv.1 = nK n)) = true ↔ n ∈ ks:=by
  rw [List.any_eq_true]
  constructor
  · rintro ⟨kv,hkv,e⟩
    have : nK n ∈ ps.map (·.1):=List.mem_map.mpr ⟨kv,hkv,of_decide_eq_true e⟩
    rw [hk] at this
    obtain ⟨k,h1,h2⟩:=List.mem_map.mp this
    rw [← qW h2]; exact h1
  · intro h
    have : nK n ∈ ps.map (·.1):=by rw [hk]; exact List.mem_map.mpr ⟨n,h,rfl⟩
    obtain ⟨kv,h1,h2⟩:=List.mem_map.mp this
    exact ⟨kv,h1,decide_eq_true h2⟩
theorem Sps.put {H : Hp} {ps : List (Key × V)} {ks : List (List Nat)} {us : List T} {D : List Addr} {n : List Nat} {c : Int} (hk : ps.map (·.1) = ks.map nK) (h : Sps H (ps.map (·.2)) us D) :
    (putK ps (nK n) (.int c)).map (·.1) = (putT (ks,us) n (.int c)).1.map nK ∧ ∃ D',Sps H ((putK ps (nK n) (.int c)).map (·.2)) (putT (ks,us) n (.int c)).2 D' ∧ ∀ b ∈ D',b ∈ D:=by
  refine ⟨(jD (p:=(ks,us)) (n:=n) (t:=.int c) hk (Sps.rep _ _ _ h) (show Rep H (.int c) (.int c) from rfl)).1, ?_⟩
  by_cases hm : n ∈ ks
  · have e1 : putK ps (nK n) (.int c) = ps.map fun kv=>if kv.1 = nK n then (kv.1,V.int c) else kv:=if_pos ((zDo hk).mpr hm)
    have e2 : putT (ks,us) n (.int c) = (ks,putTs n (.int c) ks us):=if_pos hm
    rw [e1,e2]
    exact Sps.replT hk h
  · have e1 : putK ps (nK n) (.int c) = ps ++ [(nK n, .int c)]:=if_neg fun z=>hm ((zDo hk).mp z)
    have e2 : putT (ks,us) n (.int c) = (ks ++ [n],us ++ [.int c]):=if_neg hm
    rw [e1,e2,List.map_append]
    refine ⟨D ++ [],Sps.snoc (show Sp1 H (.int c) (.int c) [] from ⟨rfl,rfl⟩) h (fun _ _ z=>nomatch z),fun b hb=>by simpa using hb⟩
def SmB (R : T → T → Prop) : T → T → Prop
  | .lst us, .lst vs=>us.length = vs.length ∧ vs.length ≤ 200000 ∧ ∀ (i : Nat) a b,us[i]? = some a → vs[i]? = some b → R a b
  | .tup us, .tup vs=>us.length = vs.length ∧ vs.length ≤ 200000 ∧ ∀ (i : Nat) a b,us[i]? = some a → vs[i]? = some b → R a b
  | .dic ks us, .dic ls vs=>(ks.Nodup ∧ ls.Nodup ∧ ks.length = us.length ∧ ls.length = vs.length ∧ us.length = vs.length ∧ vs.length ≤ 200000) ∧ ∀ k ∈ ls,k ∈ ks ∧ R (lookT k ks us) (lookT k ls vs)
  | .non, .non=>True
  | .bl a, .bl b=>a = b
  | .int a, .int b=>a = b
  | .str a, .str b=>a = b
  | _,_=>False
def Sm : Nat → T → T → Prop
  | 0,_,_=>False
  | n + 1,t,u=>T.sz t ≤ T.sz u ∧ SmB (Sm n) t u
theorem Sm.sz {n : Nat} {t u : T} (h : Sm n t u) : T.sz t ≤ T.sz u:=by
  cases n with
  | zero=>exact h.elim
  | succ n=>exact h.1
theorem Sm.refl : ∀ (n : Nat) (t : T),T.okq t → T.dep t < n → Sm n t t
  | 0,_,_,h=>absurd h (Nat.not_lt_zero _)
  | n + 1, .lst us,hq,hd=>⟨Nat.le_refl _,rfl,hq.1,fun i a b h1 h2=>by
      rw [h1] at h2; cases h2
      have hm:=List.mem_of_getElem? h1
      have:=T.deps_le hm
      have hd' : T.deps us + 1 < n + 1:=hd
      exact Sm.refl n a (T.okqs_mem hq.2 hm) (by omega)⟩
  | n + 1, .tup us,hq,hd=>⟨Nat.le_refl _,rfl,hq.1,fun i a b h1 h2=>by
      rw [h1] at h2; cases h2
      have hm:=List.mem_of_getElem? h1
      have:=T.deps_le hm
      have hd' : T.deps us + 1 < n + 1:=hd
      exact Sm.refl n a (T.okqs_mem hq.2 hm) (by omega)⟩
  | n + 1, .dic ks us,hq,hd=>⟨Nat.le_refl _,⟨hq.1,hq.1,hq.2.1,hq.2.1,rfl,hq.2.2.1⟩,fun k hk=>⟨hk,by
      have hm:=wB hk hq.2.1
      have:=T.deps_le hm
      have hd' : T.deps us + 1 < n + 1:=hd
      exact Sm.refl n _ (T.okqs_mem hq.2.2.2 hm) (by omega)⟩⟩
  | n + 1, .non,_,_=>⟨Nat.le_refl _,True.intro⟩
  | n + 1, .bl _,_,_=>⟨Nat.le_refl _,rfl⟩
  | n + 1, .int _,_,_=>⟨Nat.le_refl _,rfl⟩
  | n + 1, .str _,_,_=>⟨Nat.le_refl _,rfl⟩
def moV : V:=.int 7
def moK : Key:=Sum.inr (Str.ofString "zz")
mutual
def T.cn : T → Nat
  | .lst ts=>T.cns ts + 1
  | .dic _ ts=>T.cns ts + 1
  | .tup ts=>T.cns ts + 1
  | .non=>0
  | .bl _=>0
  | .int _=>0
  | .str _=>0
def T.cns : List T → Nat
  | []=>0
  | t :: ts=>T.cn t + T.cns ts
end
mutual
theorem T.cn_sz : ∀ t : T,T.cn t ≤ T.sz t
  | .lst ts=>Nat.succ_le_succ (T.cns_sz ts)
  | .dic _ ts=>Nat.succ_le_succ (T.cns_sz ts)
  | .tup ts=>Nat.succ_le_succ (T.cns_sz ts)
  | .non=>Nat.zero_le _
  | .bl _=>Nat.zero_le _
  | .int _=>Nat.zero_le _
  | .str _=>Nat.zero_le _
theorem T.cns_sz : ∀ ts : List T,T.cns ts ≤ T.szs ts
  | []=>Nat.zero_le _
  | t :: ts=>Nat.add_le_add (T.cn_sz t) (T.cns_sz ts)
end
theorem T.cns_append : ∀ a b : List T,T.cns (a ++ b) = T.cns a + T.cns b
  | [],b=>(Nat.zero_add _).symm
  | t :: a,b=>by
    show T.cn t + T.cns (a ++ b) = T.cn t + T.cns a + T.cns b
    rw [T.cns_append a b]; omega
def Mw (k : Nat) (o o' : HO) : Prop:=o' = o ∨ (∃ xs j,o = .lst xs ∧ j ≤ k ∧ o' = .lst (xs ++ List.replicate j moV)) ∨ ∃ ps,o = .dK ps ∧ o' = .dK (putK ps moK (.int 7))
theorem Mw.mono {k k' : Nat} {o o' : HO} (h : Mw k o o') (l : k ≤ k') : Mw k' o o':=by
  rcases h with h | ⟨xs,j,e1,e2,e3⟩ | h
  · exact .inl h
  · exact .inr (.inl ⟨xs,j,e1,Nat.le_trans e2 l,e3⟩)
  · exact .inr (.inr h)
theorem Mw.lst {k : Nat} {xs : List V} {o' : HO} (h : Mw k (.lst xs) o') : ∃ j,j ≤ k ∧ o' = .lst (xs ++ List.replicate j moV):=by
  rcases h with h | ⟨ys,j,e1,e2,e3⟩ | ⟨ps,e,_⟩
  · exact ⟨0,Nat.zero_le _,by rw [h]; simp⟩
  · cases e1; exact ⟨j,e2,e3⟩
  · cases e
theorem Mw.dic {k : Nat} {ps : List (Key × V)} {o' : HO} (h : Mw k (.dK ps) o') : o' = .dK ps ∨ o' = .dK (putK ps moK (.int 7)):=by
  rcases h with h | ⟨ys,j,e1,e2,e3⟩ | ⟨qs,e,e2⟩
  · exact .inl h
  · cases e1
  · cases e; exact .inr e2
def Mx (HD : Hp) (k : Nat) (H : Hp) : Prop:=∀ b o,HD b = some o → ∃ o',H b = some o' ∧ Mw k o o'
theorem Mx.of {HD H : Hp} (g : Same HD H) : Mx HD 0 H:=fun b o e=>⟨o,g b o e, .inl rfl⟩
theorem Mx.mono {HD H : Hp} {k k' : Nat} (h : Mx HD k H) (l : k ≤ k') : Mx HD k' H:=fun b o e=>by
  obtain ⟨o',h1,h2⟩:=h b o e
  exact ⟨o',h1,h2.mono l⟩
theorem Mx.away {HD H : Hp} {k : Nat} {l : Addr} (h : Mx HD k H) (hl : H l = none) : HD l = none:=by
  cases e : HD l with
  | none=>rfl
  | some o=>obtain ⟨o',h1,_⟩:=h l o e; rw [hl] at h1; cases h1
theorem Mx.new {HD H : Hp} {k : Nat} {l : Addr} (h : Mx HD k H) (hl : H l = none) (o : HO) : Mx HD k (upd H l o):=fun b u e=>by
  obtain ⟨o',h1,h2⟩:=h b u e
  exact ⟨o',by rw [zM (fun z=>by rw [z,hl] at h1; cases h1)]; exact h1,h2⟩
theorem Mx.put {HD H : Hp} {k : Nat} {a : Addr} {o o' : HO} (h : Mx HD k H) (e : HD a = some o) (m : Mw k o o') : Mx HD k (upd H a o'):=fun b u eu=>by
  by_cases hb : b = a
  · subst hb
    rw [e] at eu; cases eu
    exact ⟨o',zC,m⟩
  · obtain ⟨o2,h1,h2⟩:=h b u eu
    exact ⟨o2,by rw [zM hb]; exact h1,h2⟩
structure My (HD H H' : Hp) : Prop where
  keep : ∀ b o,HD b = none → H b = some o → H' b = some o
  stay : ∀ b ps,HD b = some (.dK ps) → H b = some (.dK (putK ps moK (.int 7))) → H' b = some (.dK (putK ps moK (.int 7)))
theorem My.trans {HD H H1 H2 : Hp} (a : My HD H H1) (b : My HD H1 H2) : My HD H H2:=⟨fun c o h e=>b.keep c o h (a.keep c o h e),fun c ps h e=>b.stay c ps h (a.stay c ps h e)⟩
theorem My.same {HD H H' : Hp} (g : Same H H') : My HD H H':=⟨fun _ _ _ e=>g _ _ e,fun _ _ _ e=>g _ _ e⟩
theorem My.putL {HD H : Hp} {a : Addr} {xs : List V} (e : HD a = some (.lst xs)) (o : HO) : My HD H (upd H a o) :=
  ⟨fun b u h hb=>by rw [zM (fun z=>by rw [z,e] at h; cases h)]; exact hb,fun b ps h hb=>by rw [zM (fun z=>by rw [z,e] at h; cases h)]; exact hb⟩
theorem My.putD {HD H : Hp} {a : Addr} {ps : List (Key × V)} (e : HD a = some (.dK ps)) : My HD H (upd H a (.dK (putK ps moK (.int 7)))) :=
  ⟨fun b u h hb=>by rw [zM (fun z=>by rw [z,e] at h; cases h)]; exact hb,fun b qs h hb=>by
    by_cases hz : b = a
    · subst hz
      rw [e] at h; cases h
      exact zC
    · rw [zM hz]; exact hb⟩
theorem My.out {HD H H' N : Hp} (h : My HD H H') (g : Same N H) (d : ∀ b o,N b = some o → HD b = none) : Same N H':=fun b o e=>h.keep b o (d b o e) (g b o e)
theorem zJr (ps : List (Key × V)) (k : Key) (v : V) : putK (putK ps k v) k v = putK ps k v:=by
  have h1 : ((putK ps k v).any fun kv=>decide (kv.1 = k)) = true:=by
    rw [wU,zIl,if_pos rfl]; rfl
  have e0 : putK (putK ps k v) k v = (putK ps k v).map (fun kv=>if kv.1 = k then (kv.1,v) else kv):=if_pos h1
  rw [e0]
  have : ∀ kv ∈ putK ps k v,(if kv.1 = k then (kv.1,v) else kv) = kv:=by
    intro kv hm
    by_cases hk : kv.1 = k
    · rw [if_pos hk]
      unfold putK at hm
      split at hm
      · obtain ⟨y,hy,e⟩:=List.mem_map.mp hm
        by_cases hy1 : y.1 = k
        · rw [if_pos hy1] at e; rw [← e]
        · rw [if_neg hy1] at e; rw [← e] at hk; exact absurd hk hy1
      · rename_i hn
        rcases List.mem_append.mp hm with z | z
        · exact absurd (List.any_eq_true.mpr ⟨kv,z,by simpa using hk⟩) hn
        · rw [List.mem_singleton.mp z]
    · rw [if_neg hk]
  exact (List.map_congr_left this).trans (List.map_id _)
theorem Mw.frz' {k : Nat} {o' : HO} {ob : Obj} {u : HO} (h : Mw k (.frz ob u) o') : o' = .frz ob u:=by
  rcases h with h | ⟨xs,j,e,_⟩ | ⟨ps,e,_⟩
  · exact h
  · cases e
  · cases e
theorem Reps.unsnoc {H : Hp} {x : V} : ∀ {xs : List V} {ts : List T},Reps H (xs ++ [x]) ts → ∃ ts' t,ts = ts' ++ [t] ∧ Reps H xs ts' ∧ Rep H x t
  | [],[],h=>by
    have h' : [x] = []:=h
    cases h'
  | [],t :: ts,⟨v,r,e,h1,h2⟩=>by
    have e' : x :: [] = v :: r:=e
    injection e' with e1 e2
    subst e1 e2
    have:=h2.length
    cases ts with
    | nil=>exact ⟨[],t,rfl,rfl,h1⟩
    | cons _ _=>simp at this
  | y :: xs,[],h=>by
    have h' : y :: (xs ++ [x]) = []:=h
    cases h'
  | y :: xs,t :: ts,⟨v,r,e,h1,h2⟩=>by
    have e' : y :: (xs ++ [x]) = v :: r:=e
    injection e' with e1 e2
    subst e1 e2
    obtain ⟨ts',t',e3,h3,h4⟩:=Reps.unsnoc h2
    exact ⟨t :: ts',t',by rw [e3]; rfl,⟨_,_,rfl,h1,h3⟩,h4⟩
theorem Reps.sevens {H : Hp} : ∀ j : Nat,Reps H (List.replicate j moV) (List.replicate j (.int 7))
  | 0=>rfl
  | j + 1=>⟨moV,List.replicate j moV,List.replicate_succ,rfl,Reps.sevens j⟩
theorem T.cns_sevens : ∀ j : Nat,T.cns (List.replicate j (.int 7)) = 0
  | 0=>rfl
  | j + 1=>by
    rw [List.replicate_succ]
    show 0 + T.cns (List.replicate j (.int 7)) = 0
    rw [T.cns_sevens j]
theorem Reps.repl7 {H : Hp} {k : Key} : ∀ {ps : List (Key × V)} {us : List T},Reps H (ps.map (·.2)) us → ∃ us',Reps H ((ps.map fun kv=>if kv.1 = k then (kv.1,V.int 7) else kv).map (·.2)) us' ∧ T.cns us' ≤ T.cns us ∧ (∀ u ∈ us',u ∈ us ∨ u = .int 7) ∧ us'.length = us.length
  | [],us,h=>⟨us,h,Nat.le_refl _,fun _ h=>.inl h,rfl⟩
  | p :: ps,[],h=>by
    have h' : (p :: ps).map (·.2) = []:=h
    cases h'
  | p :: ps,u :: us,⟨v,r,e,h1,h2⟩=>by
    have e' : p.2 :: ps.map (·.2) = v :: r:=e
    injection e' with e1 e2
    subst e1 e2
    obtain ⟨us',i1,i2,i3,i4⟩:=Reps.repl7 (k:=k) h2
    by_cases hk : p.1 = k
    · refine ⟨.int 7 :: us',⟨.int 7,_,by rw [List.map_cons,if_pos hk,List.map_cons],rfl,i1⟩, ?_,fun w hw=>?_,by rw [List.length_cons,List.length_cons,i4]⟩
      · show 0 + T.cns us' ≤ T.cn u + T.cns us
        omega
      · rcases List.mem_cons.mp hw with z | z
        · exact .inr z
        · exact (i3 w z).imp (List.mem_cons_of_mem _) id
    · refine ⟨u :: us',⟨p.2,_,by rw [List.map_cons,if_neg hk,List.map_cons],h1,i1⟩,Nat.add_le_add_left i2 _,fun w hw=>?_,by rw [List.length_cons,List.length_cons,i4]⟩
      rcases List.mem_cons.mp hw with z | z
      · exact .inl (by rw [z]; exact List.mem_cons_self)
      · exact (i3 w z).imp (List.mem_cons_of_mem _) id
theorem Reps.put7 {H : Hp} {k : Key} {ps qs : List (Key × V)} {us : List T} (h : Reps H (ps.map (·.2)) us) (hq : qs = ps ∨ qs = putK ps k (.int 7)) : ∃ us',Reps H (qs.map (·.2)) us' ∧ T.cns us' ≤ T.cns us ∧ (∀ u ∈ us',u ∈ us ∨ u = .int 7) ∧ us'.length ≤ us.length + 1:=by
  rcases hq with e | e
  · subst e; exact ⟨us,h,Nat.le_refl _,fun _ h=>.inl h,Nat.le_succ _⟩
  · subst e
    unfold putK
    split
    · obtain ⟨us',i1,i2,i3,i4⟩:=Reps.repl7 (k:=k) h
      exact ⟨us',i1,i2,i3,by omega⟩
    · refine ⟨us ++ [.int 7], ?_, ?_,fun w hw=>?_,by rw [List.length_append]; exact Nat.le_refl _⟩
      · rw [List.map_append]; exact Reps.snoc (show Rep H (.int 7) (.int 7) from rfl) h
      · rw [T.cns_append]; exact Nat.le_refl _
      · rcases List.mem_append.mp hw with z | z
        · exact .inl z
        · exact .inr (List.mem_singleton.mp z)
def newH (H H' : Hp) : Hp:=fun b=>match H b with
  | none=>H' b
  | some _=>none
theorem xC {H H' : Hp} {b : Addr} (h : H b = none) : newH H H' b = H' b:=by unfold newH; rw [h]
theorem qC (H H' : Hp) : Same (newH H H') H':=fun b o e=>by
  unfold newH at e
  cases h : H b with
  | none=>rw [h] at e; exact e
  | some _=>rw [h] at e; cases e
theorem gM {H H' : Hp} {b : Addr} {o : HO} (e : newH H H' b = some o) : H b = none:=by
  unfold newH at e
  cases h : H b with
  | none=>rfl
  | some _=>rw [h] at e; cases e
theorem wD {H H' H2 : Hp} (g : Same H' H2) : Same (newH H H') (newH H H2):=fun b o e=>by
  have h:=gM e
  rw [xC h] at e ⊢
  exact g _ _ e
theorem zGs {H0 H H' : Hp} (g : Same H0 H) : Same (newH H H') (newH H0 H'):=fun b o e=>by
  have h:=gM e
  rw [xC h] at e
  rw [xC (zN g h)]; exact e
theorem Sp1.new {H H' : Hp} {v : V} {t : T} {D : List Addr} (h : Sp1 H' v t D) (hD : ∀ b ∈ D,H b = none) : Rep (newH H H') v t :=
  Sp1.rep _ _ _ (Sp1.keep _ _ _ (fun b hb o _ e=>by rw [xC (hD b hb)]; exact e) h)
end L2
namespace L2
open PySem PySem.W PySem.Spec PyProof.Rows
structure Dd (P : Program) (w : World) (K : PySem.W.Frag) (mg : Str → Option Value) (base : Heap) (k : Nat) (x : Str) (ps : List Str) (dvs : List V) (sp : Sp) : Prop where
  ex : ∃ (f : Addr) (fd : FuncData) (ds : List Value),FnOk P w K mg base CX0 k f fd ps sp ∧ Binds K fd ps ds ∧ Vals dvs ds ∧ PySem.W.keepIn K (.ref f) = true ∧ mg x = some (.ref f)
section
variable {X : Cx} {k j : Nat} {x : Str} {ps : List Str} {dvs : List V} {sp : Sp} {e : Expr} {es : List Expr} {t : TA} {p pos : Pos}
end
structure FunD (K : PySem.W.Frag) (x qual : Str) (st : Stmt) (f : Addr) (fd : FuncData) : Prop where
  ex : ∃ (oc : Value) (od : Option Addr) (dV kV doc pm : Value) (an : Option Addr) (cdv ct : Value) (osl : Array (Option Value)),
    fd = PySem.W.fnOf x qual (defArgs st) (defBody st) (defScope st) dV kV doc pm an cdv ct ∧ K.lookup f = some ⟨oc,od, .func fd,osl⟩ ∧ PySem.W.codeIn K cdv qual = true
end L2
namespace L2
open PySem PySem.Spec PyProof.Rows
section
variable {X : Cx}
end
end L2
namespace L2
open PySem PySem.Builtin PySem.Builtin.Str
abbrev Tk:=Nat × List Nat
def stk (a b : Tk) : Bool:=if b.2.take 1 = [45] ∧ b.1 = 0 then false else if a.1 = 1 then decide (b.1 = 1) || decide (b.1 = 0) else decide (a.1 = b.1) && !decide (a.1 = 3)
end L2
namespace L2
open PySem PySem.Spec PyProof.Rows
section
variable {P : Program} {w : World} {A : Around} {s : Shared} {E : Value → Shared → Prop}
end
section
variable {X : Cx}
end
end L2
namespace L2
open PySem PySem.Spec PyProof.Rows PySem.W
structure Kp (fs xs : List Addr) (h h' : Heap) : Prop where
  keep : ∀ b o,h.get? b = some o → b ∉ fs → b ∉ xs → h'.get? b = some o
  slot : ∀ b o,h.get? b = some o → b ∈ fs → b ∉ xs → ∃ sl,h'.get? b = some { o with slots:=sl }
theorem Kp.refl {fs xs : List Addr} {h : Heap} : Kp fs xs h h:=⟨fun _ _ e _ _=>e,fun _ o e _ _=>⟨o.slots,e⟩⟩
theorem Kp.trans {fs xs ys zs : List Addr} {h h1 h2 : Heap} (a : Kp fs xs h h1) (b : Kp fs ys h1 h2) (hz : ∀ c,c ∈ xs ∨ (c ∈ ys ∧ h.get? c ≠ none) → c ∈ zs) : Kp fs zs h h2 where
  keep c o e hf hx:=b.keep c o (a.keep c o e hf fun z=>hx (hz c (.inl z))) hf fun z=>hx (hz c (.inr ⟨z,by rw [e]; exact fun z=>nomatch z⟩))
  slot c o e hf hx:=by
    obtain ⟨sl,e1⟩:=a.slot c o e hf fun z=>hx (hz c (.inl z))
    obtain ⟨sl2,e2⟩:=b.slot c _ e1 hf fun z=>hx (hz c (.inr ⟨z,by rw [e]; exact fun z=>nomatch z⟩))
    exact ⟨sl2,e2⟩
theorem zIg {base h h' : Heap} {fs xs : List Addr} (k : Kp fs xs h h') : ∀ {l : List Env},(∀ b ∈ frs l,b ∈ fs ∧ b ∉ xs) → h.FunFrames base l → h'.FunFrames base l
  | [],_,_=>by rw [Heap.FunFrames.eq_1]; exact True.intro
  | env :: l,hm,hf=>by
    rw [Heap.FunFrames.eq_2] at hf ⊢
    obtain ⟨a,⟨L,o,e1,e2,e3,e4⟩,r⟩:=hf
    have hL : L ∈ frs (env :: l):=by unfold frs; rw [List.filterMap_cons,e1]; exact List.mem_cons_self
    obtain ⟨sl,e5⟩:=k.slot L o e3 (hm L hL).1 (hm L hL).2
    exact ⟨a,⟨L,_,e1,e2,e5,e4⟩,zIg k (fun b hb=>hm b (by unfold frs; rw [List.filterMap_cons,e1]; exact List.mem_cons_of_mem _ hb)) r⟩
def Fl (h : Heap) (x T : Addr) (C : Value) (d : Option Addr) (a0 fl : Value) : Prop:=∃ (oe : Obj) (vs : Array Value) (oT : Obj) (ts : Array Value),h.get? x = some oe ∧ oe.cls = C ∧ oe.dict = d ∧ oe.data = .fields vs ∧ vs[0]? = some a0 ∧ vs[1]? = some (.ref T) ∧ T ≠ x ∧ h.get? T = some oT ∧ oT.data = .fields ts ∧ ts[3]? = some fl
theorem zMg {o : Obj} {vs : Array Value} (h : o.data = .fields vs) (f : Array Value → Array Value) : Obj.mapFields f o = { o with data:=.fields (f vs) }:=by
  obtain ⟨c,d,da,sl⟩:=o
  cases h
  rfl
section
variable {M : Model} {A : Around} {E : Value → Shared → Prop} {s : Shared} {env : Env} {outer : List Env} {x T L : Addr} {C a0 fl : Value} {d : Option Addr} {base : Heap} {Q : Unit → Shared → Prop}
theorem zAw {h : Heap} {a : Addr} {o : Obj} {vs : Array Value} (e : h.get? a = some o) (hd : o.data = .fields vs) (i : Nat) (v : Value) : (h.update a (Obj.mapFields fun xs=>xs.setIfInBounds i v)).get? a = some { o with data:=.fields (vs.setIfInBounds i v) }:=by
  rw [← zMg hd (fun xs=>xs.setIfInBounds i v)]
  exact Heap.get?_update_self _ e (by rw [zMg hd]; rfl)
theorem wX (F : Fl s.heap x T C d a0 fl) (q : ∀ h',Fl h' x T C d a0 .none → Kp [] [T] s.heap h' → Q () { s with heap:=h' }) : wpAny M A (setFlight (.ref x) none) Q E s:=by
  obtain ⟨oe,vs,oT,ts,e1,e2,e3,e4,e5,e6,e7,e8,e9,e10⟩:=F
  unfold setFlight
  refine wpAny_bind (wpAny_field e1 e4 e6 ?_)
  rw [if_pos (by rfl)]
  have hsz : 3 < ts.size:=by
    obtain ⟨z,_⟩:=Array.getElem?_eq_some_iff.mp e10
    exact z
  refine wpAny_setField e8 e9 hsz ?_
  have hT:=zAw e8 e9 3 .none
  refine q _ ⟨oe,vs,_,_,(Heap.get?_update_other _ _ e7).trans e1,e2,e3,e4,e5,e6,e7,hT,rfl, ?_⟩ ⟨fun b o e _ hb=>(Heap.get?_update_other _ _ fun z=>hb (by rw [z]; exact List.mem_cons_self)).trans e,fun b o e hb=>nomatch hb⟩
  show (ts.setIfInBounds 3 Value.none)[3]? = some Value.none
  rw [Array.getElem?_setIfInBounds_self_of_lt hsz]
theorem zJn {oe : Obj} {vs : Array Value} {head : Value} {b : Bool} (hfr : A.frames = some (env :: outer)) (hfu : s.heap.FunFrames base (env :: outer)) (hL : env.frame = some L) (e1 : s.heap.get? x = some oe) (hx : x ∉ frs (env :: outer)) (e4 : oe.data = .fields vs) (e5 : vs[0]? = some a0) (hs : 1 < vs.size)
    (q : ∀ h' T',Fl h' x T' oe.cls oe.dict a0 (rawInt L) → Kp (frs (env :: outer)) [x] s.heap h' → s.heap.get? T' = none → Q () { s with heap:=h' }) :
    wpAny M A (do
      let a ← PySem.frameOf env
      let pl ← entryPlaceOf L b
      let b ← EntryCells.newEntry head a .none (rawInt L) .none pl
      setField (.ref x) 1 b) Q E s:=by
  refine wpAny_bind (wpAny_frameOf_fun hfr hfu hL fun h1 so=>?_)
  refine wpAny_bind (wpAny_entryPlaceOf fun pl hpl=>?_)
  refine wpAny_bind ?_
  unfold EntryCells.newEntry newFields
  have hpz : (([head,Value.ref L,Value.none,rawInt L,Value.none] ++ if pl.isEmpty = true then List.replicate 6 Value.none else pl).toArray).size ≤ sizeLine + 2:=by
    have : (if pl.isEmpty = true then List.replicate 6 Value.none else pl).length ≤ 6:=by
      rcases hpl with rfl | ⟨a,b,c,d,c9,b10,_,rfl⟩ <;> simp
    rw [List.size_toArray,List.length_append,sizeLine_eq]
    simp only [List.length_cons,List.length_nil]
    omega
  refine wpAny_newObj_type ?_ hpz
  obtain ⟨z1,z2,z3⟩:=so
  have x1 : h1.get? x = some oe:=by rw [z2 x hx]; exact e1
  have hlt : x < h1.objs.size:=Heap.lt_size x1
  refine wpAny_setField (Heap.get?_push_of_some _ x1) e4 hs ?_
  have hnew : h1.objs.size ≠ x:=Nat.ne_of_gt hlt
  have hx2:=zAw (Heap.get?_push_of_some (o:={ cls:=.type "traceback",data:=.fields ([head,Value.ref L,Value.none,rawInt L,Value.none] ++ if pl.isEmpty = true then List.replicate 6 Value.none else pl).toArray }) (h:=h1) x1) e4 1 (.ref h1.objs.size)
  refine q _ h1.objs.size ⟨_,_,_,_,hx2,rfl,rfl,rfl, ?_, ?_,hnew,(Heap.get?_update_other _ _ (Ne.symm hnew)).trans (Heap.get?_push_size _ rfl),rfl, ?_⟩ ⟨fun b o e hb hb2=>?_,fun b o e hb hb2=>?_⟩ ?_
  · rw [Array.getElem?_setIfInBounds_ne (by decide)]; exact e5
  · rw [Array.getElem?_setIfInBounds_self_of_lt hs]
  · simp
  · refine (Heap.get?_update_other _ _ fun z=>hb2 (by rw [z]; exact List.mem_cons_self)).trans (Heap.get?_push_of_some _ ?_)
    rw [z2 b hb]; exact e
  · obtain ⟨sl,e'⟩:=z3 b o e
    exact ⟨sl,(Heap.get?_update_other _ _ fun z=>hb2 (by rw [z]; exact List.mem_cons_self)).trans (Heap.get?_push_of_some _ e')⟩
  · rw [z1]
    exact Heap.get?_none_of_le (Nat.le_refl _)
theorem zJd {oe : Obj} {vs : Array Value} (hfr : A.frames = some (env :: outer)) (hfu : s.heap.FunFrames base (env :: outer)) (hL : env.frame = some L) (e1 : s.heap.get? x = some oe) (hx : x ∉ frs (env :: outer)) (e4 : oe.data = .fields vs) (e5 : vs[0]? = some a0) (e6 : vs[1]? = some .none)
    (q : ∀ h' T',Fl h' x T' oe.cls oe.dict a0 (rawInt L) → Kp (frs (env :: outer)) [x] s.heap h' → s.heap.get? T' = none → Q () { s with heap:=h' }) : wpAny M A (noteFrame (.ref x) env) Q E s:=by
  have hs : 1 < vs.size:=by
    obtain ⟨z,_⟩:=Array.getElem?_eq_some_iff.mp e6
    exact z
  unfold noteFrame
  rw [hL]
  refine wpAny_bind (wpAny_field e1 e4 e6 ?_)
  exact zJn hfr hfu hL e1 hx e4 e5 hs q
theorem zFp (hfr : A.frames = some (env :: outer)) (hfu : s.heap.FunFrames base (env :: outer)) (hL : env.frame = some L) (hx : x ∉ frs (env :: outer)) (hT : T ∉ frs (env :: outer)) (F : Fl s.heap x T C d a0 .none)
    (q : ∀ h' T',Fl h' x T' C d a0 (rawInt L) → Kp (frs (env :: outer)) [x,T] s.heap h' → s.heap.get? T' = none → Q () { s with heap:=h' }) : wpAny M A (noteFrame (.ref x) env) Q E s:=by
  obtain ⟨oe,vs,oT,ts,e1,e2,e3,e4,e5,e6,e7,e8,e9,e10⟩:=F
  have hs : 1 < vs.size:=by
    obtain ⟨z,_⟩:=Array.getElem?_eq_some_iff.mp e6
    exact z
  have hsz : 3 < ts.size:=by
    obtain ⟨z,_⟩:=Array.getElem?_eq_some_iff.mp e10
    exact z
  unfold noteFrame
  rw [hL]
  refine wpAny_bind (wpAny_field e1 e4 e6 ?_)
  rw [if_pos (by rfl)]
  refine wpAny_bind (wpAny_field e8 e9 e10 ?_)
  rw [if_neg (by intro z; cases (eq_of_beq z))]
  refine wpAny_bind (wpAny_setField e8 e9 hsz ?_)
  have k1 : Kp (frs (env :: outer)) [T] s.heap (s.heap.update T (Obj.mapFields fun x=>x.setIfInBounds 3 Value.none)):=⟨fun b o e _ hb=>(Heap.get?_update_other _ _ fun z=>hb (by rw [z]; exact List.mem_cons_self)).trans e,fun b o e hb hb2=>⟨o.slots,(Heap.get?_update_other _ _ fun z=>hb2 (by rw [z]; exact List.mem_cons_self)).trans e⟩⟩
  have hfu2 : (s.heap.update T (Obj.mapFields fun x=>x.setIfInBounds 3 Value.none)).FunFrames base (env :: outer):=zIg k1 (fun b hb=>⟨hb,fun z=>hT (by rw [← List.mem_singleton.mp z]; exact hb)⟩) hfu
  have x2 : (s.heap.update T (Obj.mapFields fun x=>x.setIfInBounds 3 Value.none)).get? x = some oe:=(Heap.get?_update_other _ _ e7).trans e1
  have q':=zJn (E:=E) (M:=M) (A:=A) (head:=.ref T) (b:=true) (s:={ s with heap:=s.heap.update T (Obj.mapFields fun x=>x.setIfInBounds 3 Value.none) }) (Q:=Q) hfr hfu2 hL x2 hx e4 e5 hs
  rw [e2,e3] at q'
  refine q' fun h' T' f k n=>q h' T' f (k1.trans k fun c hc=>?_) ?_
  · rcases hc with z | z
    · rw [List.mem_singleton.mp z]; simp
    · rw [List.mem_singleton.mp z.1]; simp
  · cases e : s.heap.get? T' with
    | none=>rfl
    | some o =>
      by_cases z : T' = T
      · subst z
        rw [zAw e8 e9] at n; cases n
      · have:=k1.keep
        rw [(Heap.get?_update_other s.heap _ (Ne.symm z)).trans e] at n; cases n
end
section
variable {X : Cx} {pins : List (Addr × Obj)} {σ : St} {H H' : Hp} {s s' : Shared}
theorem ObjOk.got {P : Program} {w : World} {h : Heap} {a : Addr} {o : HO} (x : ObjOk P w H h a o) : ∃ ob,h.get? a = some ob:=by
  induction o with
  | lst xs=>obtain ⟨_,its,n,_,e⟩:=x; exact ⟨_,e⟩
  | tup xs=>obtain ⟨_,its,_,ob,e,_⟩:=x; exact ⟨_,e⟩
  | dK kvs=>obtain ⟨_,_,vs,_,ob,es,ep,e,_⟩:=x; exact ⟨_,e⟩
  | dT kvs=>obtain ⟨_,_,xs,_,ob,es,ep,e,_⟩:=x; exact ⟨_,e⟩
  | set S n=>obtain ⟨ob,es,ep,t,e,_⟩:=x; exact ⟨_,e⟩
  | ins C dx fs=>obtain ⟨_,_,_,e,_⟩:=x; exact ⟨_,e⟩
  | own y=>exact x
  | xd fs=>obtain ⟨mA,⟨od,es,ep,e,_⟩,_⟩:=x; exact ⟨_,e⟩
  | rng lo hi=>obtain ⟨t,u,v,e⟩:=x; exact ⟨_,e⟩
  | frz ob u ih=>exact ⟨_,x.1⟩
  | tbl ps=>exact ⟨_,(show h.get? a = some _ from x)⟩
  | met f y=>exact ⟨_,(show h.get? a = some _ from x)⟩
  | ext φ=>exact x.2.1
theorem zBk {B h : Heap} : ∀ {l : List Env},h.FunFrames B l → ∀ b ∈ frs l,∃ o,h.get? b = some o ∧ ∀ vs : Array Value,o.data ≠ .fields vs
  | [],_,b,hb=>nomatch hb
  | env :: l,hf,b,hb=>by
    rw [Heap.FunFrames.eq_2] at hf
    obtain ⟨_,⟨L,o,e1,_,e3,e4⟩,r⟩:=hf
    unfold frs at hb
    rw [List.filterMap_cons,e1] at hb
    rcases List.mem_cons.mp hb with z | z
    · rw [z]; exact ⟨o,e3,e4⟩
    · exact zBk r b z
def CXE (P : Program) (w : World) : CXT:=fun outer H s E e s'=>∃ (x T : Addr) (C : Value) (d : Option Addr) (a0 : Value) (H' : Hp),e = .ref x ∧ s'.os = s.os ∧ AllBare s'.gens ∧ Un (frs outer) [] H H' s.heap s'.heap ∧ HOk P w H' s'.heap ∧
  s.heap.get? x = none ∧ s.heap.get? T = none ∧ H' x = none ∧ H' T = none ∧ Fl s'.heap x T C d a0 .none ∧ E C d H'
theorem zFm {fs xs : List Addr} {H0 H' : Hp} {h0 h h' : Heap} (u : Un fs [] H0 H' h0 h) (k : Kp fs xs h h') (h1 : ∀ b ∈ xs,h0.get? b = none) : Un fs [] H0 H' h0 h' where
  keep b o e n hf hx:=k.keep b o (u.keep b o e n hf hx) hf fun z=>by rw [h1 b z] at e; cases e
  slot b o e n hf hx:=by
    obtain ⟨sl,e1⟩:=u.slot b o e n hf hx
    obtain ⟨sl2,e2⟩:=k.slot b _ e1 hf fun z=>by rw [h1 b z] at e; cases e
    exact ⟨sl2,e2⟩
  free b o e n hx:=u.free b o e n hx
  there b o e hx:=by
    obtain ⟨o',e'⟩:=u.there b o e hx
    have nx : b ∉ xs:=fun z=>by rw [h1 b z] at e; cases e
    by_cases hf : b ∈ fs
    · obtain ⟨sl2,e2⟩:=k.slot b _ e' hf nx
      exact ⟨_,e2⟩
    · exact ⟨o',k.keep b o' e' hf nx⟩
  tups:=u.tups
  frzs:=u.frzs
  tbls:=u.tbls
theorem zBb {P : Program} {w : World} {H : Hp} {fs xs : List Addr} {h h' : Heap} (x : HOk P w H h) (k : Kp fs xs h h') (hf : ∀ b ∈ fs,H b = none) (hx : ∀ b ∈ xs,H b = none) : HOk P w H h':=fun a o e =>
  (x a o e).stay (fun b u hb q=>by
    have hn : H b ≠ none:=by
      rcases hb with z | z
      · rw [z,e]; exact fun z=>nomatch z
      · rw [z]; exact fun z=>nomatch z
    exact k.keep b u q (fun z=>hn (hf b z)) fun z=>hn (hx b z)) (fun _ q=>q) fun _ _ q=>q
theorem qQ {fs fs' xs : List Addr} {h h' : Heap} (k : Kp fs xs h h') (hm : ∀ b,b ∈ fs → b ∈ fs' ∨ b ∈ xs) : Kp fs' xs h h' where
  keep b o e hf hx:=k.keep b o e (fun z=>(hm b z).elim hf hx) hx
  slot b o e hf hx:=by
    by_cases z : b ∈ fs
    · exact k.slot b o e z hx
    · exact ⟨o.slots,k.keep b o e z hx⟩
theorem zKj {E : XK} {e : Value} {EE : Value → Shared → Prop} (I : Inv X pins σ H s) (hs : X.stack = X.env :: X.outer) (hf : X.env.frame = some X.env.locals) (hex : X.ex = []) (h : CXE X.prog X.w X.stack H s E e s') :
    wpAny (model X.prog X.w) X.A (leaving X.env e) (fun _ s3=>CXE X.prog X.w X.outer X.H₀ X.s₀ E e s3) EE s':=by
  obtain ⟨x,T,C,d,a0,H',rfl,os,bare,un,hok,hx,hT,hHx,hHT,fl,q⟩:=h
  have I2 : Inv X pins σ H' s':=I.call' os un hok bare (fun b z=>absurd z (by simp))
  have old : ∀ b,s.heap.get? b = none → X.s₀.heap.get? b = none:=fun b hb=>by
    cases e : X.s₀.heap.get? b with
    | none=>rfl
    | some o =>
      obtain ⟨o',e'⟩:=I.base.there b o e (by rw [hex]; exact fun z=>nomatch z)
      rw [hb] at e'; cases e'
  have hfs : frs X.stack = X.env.locals :: X.fs:=by
    rw [hs]; unfold frs; rw [List.filterMap_cons,hf]; rfl
  have hloc : X.s₀.heap.get? X.env.locals = none:=Heap.get?_none_of_le I.ok.above
  have hfr:=I.ok.frames
  rw [hs] at hfr
  have nfr : ∀ b,s.heap.get? b = none → b ∉ frs X.stack:=fun b hb z=>by
    obtain ⟨o,e,_⟩:=zBk I.stack b z
    rw [hb] at e; cases e
  have nx:=nfr x hx
  have nT:=nfr T hT
  have st:=I2.stack
  rw [hs] at nx nT st
  unfold leaving
  refine wpAny_bind (zFp hfr st hf nx nT fl fun h1 T1 f1 k1 n1=>?_)
  refine wX f1 fun h2 f2 k2=>?_
  rw [← hs] at k1
  have hbase:=I2.base
  rw [hex] at hbase
  have hT1H : H' T1 = none:=by
    cases e : H' T1 with
    | none=>rfl
    | some o =>
      obtain ⟨ob,hob⟩:=ObjOk.got (I2.hok T1 o e)
      rw [n1] at hob; cases hob
  have hT1o : X.s₀.heap.get? T1 = none:=by
    cases e : X.s₀.heap.get? T1 with
    | none=>rfl
    | some o =>
      obtain ⟨o',e'⟩:=hbase.there T1 o e (fun z=>nomatch z)
      rw [n1] at e'; cases e'
  have k3 : Kp (frs X.stack) [x,T,T1] s'.heap h2:=k1.trans (qQ k2 fun b hb=>nomatch hb) fun c hc=>by
    rcases hc with z | z
    · rcases List.mem_cons.mp z with z | z
      · rw [z]; simp
      · rw [List.mem_singleton.mp z]; simp
    · rw [List.mem_singleton.mp z.1]; simp
  have k4 : Kp X.fs [x,T,T1,X.env.locals] s'.heap h2:=by
    have k5 : Kp (frs X.stack) [x,T,T1,X.env.locals] s'.heap h2:=k3.trans Kp.refl (ys:=[]) fun c hc=>by
      rcases hc with z | z
      · rcases List.mem_cons.mp z with z | z
        · rw [z]; simp
        · rcases List.mem_cons.mp z with z | z
          · rw [z]; simp
          · rw [List.mem_singleton.mp z]; simp
      · exact nomatch z.1
    refine qQ k5 fun b hb=>?_
    rw [hfs] at hb
    rcases List.mem_cons.mp hb with z | z
    · rw [z]; exact .inr (by simp)
    · exact .inl z
  refine ⟨x,T1,C,d,a0,H',rfl,I2.os,I2.bare,zFm hbase k4 fun b hb=>?_,zBb I2.hok k3 I2.stkFree fun b hb=>?_,old x hx,hT1o,hHx,hT1H,f2,q⟩
  · rcases List.mem_cons.mp hb with z | z
    · rw [z]; exact old x hx
    · rcases List.mem_cons.mp z with z | z
      · rw [z]; exact old T hT
      · rcases List.mem_cons.mp z with z | z
        · rw [z]; exact hT1o
        · rw [List.mem_singleton.mp z]; exact hloc
  · rcases List.mem_cons.mp hb with z | z
    · rw [z]; exact hHx
    · rcases List.mem_cons.mp z with z | z
      · rw [z]; exact hHT
      · rw [List.mem_singleton.mp z]; exact hT1H
end
end L2
namespace L2
open PySem PySem.Spec PyProof.Rows PySem.W
def XObj (nm : Str) (C N : Addr) (bm : List Value) (o : Obj) : Prop:=∃ (q : Str) (bs : List Value) (hdct : Bool) (sn : List Str) (sub : List Value) (ab : Bool) (col : Option Bool) (dd : Option Addr) (k0 k1 k2 k3 k5 : Option Value),o = excClassObj nm q C N bs bm hdct sn sub ab col dd k0 k1 k2 k3 k5 "ValueError.__new__"
section
variable {M : Model} {A : Around} {E : Value → Shared → Prop} {s : Shared} {env : Env}
theorem zEh {nm : Str} {C N : Addr} {bm : List Value} {x : Sem Value} {Q : Flow → Shared → Prop} (hb : bm.contains (.type "BaseException") = true) (hh : A.handled = none)
    (h : wpAny M A x (fun v s1=>∃ (e : Addr) (oe oC : Obj) (vs : Array Value),v = .ref e ∧ s1.heap.get? C = some oC ∧ XObj nm C N bm oC ∧ s1.heap.get? e = some oe ∧ oe.cls = .ref C ∧ oe.data = .fields vs ∧ vs[1]? = some .none ∧ E (.ref e) s1) E s) :
    wpAny M A (raiseStmt env (some x) none) Q E s:=by
  unfold raiseStmt
  refine wpAny_bind (thn h fun v s1 ⟨e,oe,oC,vs,ev,hC,hX,he,hcl,hd,h1,q⟩=>?_)
  subst ev
  obtain ⟨q',bs,hdct,sn,sub,ab,col,dd,k0,k1,k2,k3,k5,rfl⟩:=hX
  have hnc : ∀ c : ClassData,oe.data ≠ .cls c:=fun c z=>by rw [hd] at z; cases z
  refine wpAny_bind (wpAny_pure ?_)
  refine wpAny_bind (wpAny_holding ?_)
  unfold excFromValue isExcClass
  refine wpAny_bind (wpAny_bind (ks_wpAny_isType_inst he hnc ?_))
  rw [if_neg Bool.false_ne_true]
  refine wpAny_pure ?_
  rw [if_neg Bool.false_ne_true]
  unfold PySem.isInstance
  refine wpAny_bind (wpAny_bind (wpAny_typeOf_ref he ?_))
  rw [hcl]
  refine wpAny_isSubtype_exc hC ?_
  rw [show (Value.ref C :: bm).contains (Value.type "BaseException") = true by
    rw [List.contains_cons,hb,Bool.or_true],if_pos rfl]
  refine wpAny_pure ?_
  refine wpAny_bind (ks_wpAny_isType_inst he hnc ?_)
  rw [if_neg Bool.false_ne_true]
  unfold raisedInstance
  refine wpAny_bind (wpAny_bind (wpAny_typeOf_ref he ?_))
  rw [hcl]
  refine wpAny_bind (wpAny_typeOf_ref hC ?_)
  rw [if_pos (by rfl)]
  refine wpAny_pure ?_
  refine wpAny_bind ?_
  unfold setFlight
  refine wpAny_bind (wpAny_field he hd h1 ?_)
  rw [if_neg (by intro z; cases z)]
  refine wpAny_pure ?_
  exact wpAny_raiseNew_none hh q
end
end L2
namespace L2
open PySem PySem.Spec PyProof.Rows PySem.W
abbrev veMro : List Value:=[.type "ValueError", .type "Exception", .type "BaseException", .type "object"]
abbrev newExc (C t : Addr) : Obj:={ cls:=.ref C,data:=.fields #[.ref t, .none, .none, .none, .bool false, .none] }
theorem zHw (a : Args) : (Code.builtin "type.__call__" a).quiet = true:=by
  unfold Code.quiet
  first | rfl | kernel_rfl | decide +kernel
theorem zFz (a : Args) : (Code.builtin "ValueError.__new__" a).quiet = true:=by
  unfold Code.quiet
  first | rfl | kernel_rfl | decide +kernel
section
variable {prog : Program} {w : World} {A : Around} {K : Frag} {C fI N : Addr} {nm : Str} {bm : List Value} {o : Obj}
theorem zMt {R : Result → Shared → Prop} {rest : List Value} {h : Heap} {g : Array GenState} {d : Drawn} {t : Nat} {os : OsState} (hK : K.In h) (lk : K.lookup C = some o) (hX : XObj nm C N bm o) (ht : tailIn K veMro bm = true) (hi : findIn K (.ref C) "__init__" = some (some (.ref fI))) (hf : typeIn K (.ref fI) = some (.type "function")) (hz : rest.length ≤ 100)
    (hh : codeAny (model prog w) (A.under (.builtin "type.__call__" ⟨.ref C :: rest,[]⟩)) (.call (.ref fI) ⟨.ref (h.objs.size + 1) :: rest,[]⟩) (InitBack (h.objs.size + 1) R) ⟨(h.push { cls:=.type "tuple",data:=.seq rest.toArray }).push (newExc C h.objs.size),g,d,t,os⟩) :
    codeAny (model prog w) A (.call (.ref C) ⟨rest,[]⟩) R ⟨h,g,d,t,os⟩:=by
  have hC : h.get? C = some o:=hK _ _ lk
  obtain ⟨q',bs,hdct,sn,sub,ab,col,dd,k0,k1,k2,k3,k5,rfl⟩:=hX
  have hT:=tail_of_in hK ht
  refine codeAny_of_tree ?_
  show wpAny _ _ (callAny (.ref C) ⟨rest,[]⟩) _ _ _
  unfold callAny
  refine wpAny_bind (wpAny_load hC ?_)
  show wpAny _ _ (callAny.viaDunder (.ref C) ⟨rest,[]⟩) _ _ _
  unfold callAny.viaDunder specialOf
  refine wpAny_bind (wpAny_bind (wpAny_typeOf_ref hC ?_))
  rw [tc_lookup]
  refine wpAny_pure ?_
  dsimp only
  rw [tc_bind]
  refine wpAny_bind (wpAny_pure ?_)
  dsimp only
  refine wpAny_bind ?_
  unfold callAny.plainCallee
  refine wpAny_pure ?_
  rw [if_pos (by rfl)]
  refine wpAny_pure ⟨rfl, ?_⟩
  refine codeAny_call_builtin_at (zHw _) F.entry_type_call (wpAny_check_type_call_sub hC ?_)
  show wpAny _ _ (Builtin.«type.__call__» ⟨.ref C :: rest,[]⟩) _ _ _
  unfold Builtin.«type.__call__»
  dsimp only
  rw [if_neg (by intro z; cases (eq_of_beq z))]
  refine wpAny_bind (wpAny_mroOf_exc hC ?_)
  rw [if_neg (by intro z; cases z)]
  refine wpAny_bind (wpAny_madeBy_exc hC ?_)
  dsimp only
  refine wpAny_bind (wpAny_pure ?_)
  refine wpAny_bind (wpAny_holding (wpAny_call ?_))
  refine codeAny_call_builtin_code (zFz _) (wpAny_check_new_subT F.excBase_ValueError hT hC ?_)
  refine codeAny_exc_new_subT F.excBase_ValueError hT hC ?_ (by rw [sizeLine_eq]; omega)
  have k1' : ∀ b ob,h.get? b = some ob → ((h.push { cls:=.type "tuple",data:=.seq rest.toArray }).push (newExc C h.objs.size)).get? b = some ob:=fun b ob e=>Heap.get?_push_of_some _ (Heap.get?_push_of_some _ e)
  have hsz : (h.push { cls:=.type "tuple",data:=.seq rest.toArray }).objs.size = h.objs.size + 1:=Heap.size_push ..
  have he : ((h.push { cls:=.type "tuple",data:=.seq rest.toArray }).push (newExc C h.objs.size)).get? (h.objs.size + 1) = some (newExc C h.objs.size):=by
    rw [← hsz]; exact Heap.get?_push_size _ rfl
  have hK2 : K.In ((h.push { cls:=.type "tuple",data:=.seq rest.toArray }).push (newExc C h.objs.size)):=hK.keeps k1'
  have hC2:=k1' _ _ hC
  unfold PySem.isInstance
  refine wpAny_bind (wpAny_bind (wpAny_typeOf_ref he ?_))
  refine wpAny_isSubtype_exc hC2 ?_
  rw [show (Value.ref C :: bm).contains (Value.ref C) = true by simp,if_neg (by decide)]
  refine wpAny_bind (wpAny_holding ?_)
  unfold callSpecial? specialOf
  refine wpAny_bind (wpAny_bind (wpAny_typeOf_ref he ?_))
  refine Looks.here (looks_findIn hK2 hi) ?_
  dsimp only
  refine wpAny_holding (wpAny_bind (Looks.here (bind_fn hK2 _ hf) ?_))
  dsimp only
  refine wpAny_bind (wpAny_call (codeAny_mono hh fun r s' hr=>?_))
  cases r with
  | error e=>exact hr
  | ok fl =>
    cases fl with
    | ret v =>
      obtain ⟨rfl,hr⟩:=hr
      refine wpAny_pure ?_
      dsimp only
      rw [if_neg (by intro z; cases z)]
      exact wpAny_pure hr
    | next=>exact hr.elim
    | brk=>exact hr.elim
    | cont=>exact hr.elim
end
end L2
namespace L2
open PySem PySem.Spec PyProof.Rows PySem.W PySem.Builtin PySem.Builtin.ObjectAttr
section
variable {prog : Program} {w : World} {A : Around} {K : Frag} {C B x : Addr} {cd : ClassData} {ox : Obj} {name : Str} {v : Value}
theorem osa_x {R : Result → Shared → Prop} {s : Shared} {tk : Tok} (hK : K.In s.heap) (hc : clsIn K C = some cd) (hm : cd.mro = .ref C :: .ref B :: veMro) (hd : cd.hasDict = true) (hx : s.heap.get? x = some ox) (hcl : ox.cls = .ref C) (hnc : ∀ c,ox.data ≠ .cls c) (hdi : ox.dict = none)
    (hn : findIn K (.ref C) name = some none)
    (q : ∀ h' t',h'.get? x = some { ox with dict:=some s.heap.objs.size } → h'.Ns1 s.heap.objs.size (fun y=>if y = name then some v else none) → (∀ b o,b ≠ x → s.heap.get? b = some o → h'.get? b = some o) → R (.ok (.ret .none)) { s with heap:=h',toks:=t' }) :
    codeAny (model prog w) A (.call (.builtin "object.__setattr__") ⟨[.ref x, .str name tk,v],[]⟩) R s:=by
  have SF:=PySem.F.store_ValueError
  obtain ⟨h,g,dr,t,os⟩:=s
  dsimp only at hK hx q
  have tp : Looks (model prog w) h (typeOf (.ref x)) (.ref C):=by
    intro A Q E s k q
    refine wpAny_typeOf_ref (k _ _ hx) ?_
    rw [hcl]; exact q
  have sub : Looks (model prog w) h (isInstance (.ref x) (.type "object")) true:=tp.andThen (looks_mroIn hK (by
    unfold mroIn
    rw [hc,Option.bind_some,if_neg (by rw [hm]; exact Bool.false_ne_true),hm,List.contains_cons,List.contains_cons,show veMro.contains (.type "object") = true by decide,Bool.or_true,Bool.or_true]))
  refine codeAny_call_builtin SF.slot.plain SF.entry (@check_slot (model prog w) _ _ ⟨h,g,dr,t,os⟩ "object.__setattr__" "object" "__setattr__" (.ref x) [.str name tk,v] [] _ SF.kind SF.split sub (SF.args (.ref x) (.str name tk) v) ?_)
  have hmr : Looks (model prog w) h (mroOf (.ref C)) cd.mro:=(looks_clsIn hK hc).andThen .now
  rw [osa_eq,refuse_eq]
  refine wpAny_bind (wpAny_bind (Looks.here tp (wpAny_bind (Looks.here hmr ?_))))
  rw [hm,refuseLoop_ref,refuseLoop_ref,SF.passes]
  refine wpAny_pure (wpAny_bind (Looks.here tp (wpAny_bind (Looks.here (looks_findIn hK hn) (wpAny_bind ?_)))))
  refine wpAny_pure ?_
  dsimp only
  unfold storeInOwnDict
  refine wpAny_bind (wpAny_pure ?_)
  rw [if_neg (by intro z; cases (eq_of_beq z))]
  refine wpAny_bind ?_
  show wpAny _ _ (instanceDict x true) _ _ _
  unfold instanceDict
  refine wpAny_bind (wpAny_loadPart hx ?_)
  obtain ⟨oc,odi,oda,osl⟩:=ox
  dsimp only at hcl hdi hnc
  subst hcl hdi
  dsimp only
  refine wpAny_bind (Looks.here (looks_clsIn hK hc) ?_)
  rw [hd]
  rw [if_neg (show ¬ ((!true) = true) from Bool.false_ne_true),if_neg (by simp [typeHasDict])]
  have main : wpAny (model prog w) A.in1 (do
          let d ← alloc { cls:=Value.type "dict",data:=Data.dict #[] }
          update x fun o=>{ cls:=o.cls,dict:=some d,data:=o.data,slots:=o.slots }
          dictMade (Value.ref C) x d)
      (fun a s' =>
      wpAny (model prog w) A.in1
        (match a with
        | some d=>storeInDict d (Value.str name tk) name v
        | none=>noDictFor (Value.ref x) (Value.ref C) name (none : Option Value).isSome)
        (fun fin s' =>
          match fin with
          | Fin.done f=>R (Except.ok f) s'
          | Fin.again c'=>c'.quiet = true ∧ codeAny (model prog w) A c' R s')
        (fun e s'=>R (Except.error e) s') s')
    (fun e s'=>R (Except.error e) s') { heap:=h,gens:=g,drawn:=dr,toks:=t,os:=os }:=by
    have hx₁ : (h.push { cls:=.type "dict",data:=.dict #[] }).get? x = some _:=Heap.get?_push_of_some _ hx
    have hxs : x ≠ h.objs.size:=Nat.ne_of_lt (Heap.lt_size hx)
    refine wpAny_bind (wpAny_alloc' ?_)
    refine wpAny_bind (wpAny_update' hx₁ ?_)
    refine wpAny_pure ?_
    have hgd : ((h.push { cls:=.type "dict",data:=.dict #[] }).update x fun o=>{ cls:=o.cls,dict:=some h.objs.size,data:=o.data,slots:=o.slots }).get? h.objs.size = some { cls:=.type "dict",data:=.dict #[] } :=
      (Heap.get?_update_ne _ _ _ _ hxs.symm).trans (Heap.get?_push_at rfl rfl)
    have hnd : ((h.push { cls:=.type "dict",data:=.dict #[] }).update x fun o=>{ cls:=o.cls,dict:=some h.objs.size,data:=o.data,slots:=o.slots }).Ns h.objs.size (fun _=>none) :=
      ⟨_,#[],_,hgd,rfl,fun e he=>absurd he (by simp),fun _=>rfl⟩
    show wpAny _ _ (storeInDict h.objs.size (.str name tk) name v) _ _ _
    unfold storeInDict newKeyGuard
    refine wpAny_bind (wpAny_pure (wpAny_bind (wpAny_nsSet1 (Heap.Ns1.of_empty hnd) fun h' hn' hs=>?_)))
    obtain ⟨oD,esD,epD,hoD,hdD,hcD⟩:=hn'.count (Within.cons name v Within.nil)
    refine wpAny_bind (wpAny_lookBehind hoD (by rw [hdD]; exact pastItsLine_dict (Nat.le_trans hcD (by rw [List.length_cons,List.length_nil,sizeLine_eq]; omega))) ?_)
    refine wpAny_pure ?_
    have hfr:=(Heap.get?_some_iff.mp hx).2
    refine q h' _ ((hs.2 x hxs).trans (Heap.get?_update_self _ hx₁ ?_)) hn' fun b o hb e=>?_
    · cases oda <;> first | rfl | exact hfr
    · exact (hs.2 b (Nat.ne_of_lt (Heap.lt_size e))).trans ((Heap.get?_update_ne _ _ _ _ hb).trans (Heap.get?_push_of_some _ e))
  cases oda with
  | cls c=>exact absurd rfl (hnc c)
  | _=>exact main
theorem set_x {E : Value → Shared → Prop} {Q : Unit → Shared → Prop} {s : Shared} (hK : K.In s.heap) (hc : clsIn K C = some cd) (hm : cd.mro = .ref C :: .ref B :: veMro) (hd : cd.hasDict = true) (hx : s.heap.get? x = some ox) (hcl : ox.cls = .ref C) (hnc : ∀ c,ox.data ≠ .cls c) (hdi : ox.dict = none)
    (hs : findIn K (.ref C) "__setattr__" = some (some (.builtin "object.__setattr__"))) (hn : findIn K (.ref C) name = some none)
    (q : ∀ h' t',h'.get? x = some { ox with dict:=some s.heap.objs.size } → h'.Ns1 s.heap.objs.size (fun y=>if y = name then some v else none) → (∀ b o,b ≠ x → s.heap.get? b = some o → h'.get? b = some o) → Q () { s with heap:=h',toks:=t' }) :
    wpAny (model prog w) A (setAttr (.ref x) name v) Q E s:=by
  have hno : notCls ox = true:=by
    unfold notCls
    obtain ⟨oc,odi,oda,osl⟩:=ox
    cases oda with
    | cls c=>exact absurd rfl (hnc c)
    | _=>rfl
  refine set_plain (od:=none) hK ⟨hx,hcl,hno,by rw [hdi]; trivial⟩ hs ?_
  exact osa_x (s:={ s with toks:=s.toks + 1 }) hK hc hm hd hx hcl hnc hdi hn fun h' t' a b c=>q h' t' a b c
end
end L2
namespace L2
open PySem PySem.Spec PyProof.Rows PySem.W
structure XCls (K : Frag) (nm : Str) (C B fI : Addr) : Prop where
  obj : ∃ (N : Addr) (o : Obj),K.lookup C = some o ∧ XObj nm C N (.ref B :: veMro) o
  cd : ∃ cd,clsIn K C = some cd ∧ cd.mro = .ref C :: .ref B :: veMro ∧ cd.hasDict = true
  tl : tailIn K veMro (.ref B :: veMro) = true
  init : findIn K (.ref C) "__init__" = some (some (.ref fI))
  fn : typeIn K (.ref fI) = some (.type "function")
  set : findIn K (.ref C) "__setattr__" = some (some (.builtin "object.__setattr__"))
  at_ : findIn K (.ref C) "at" = some none
  kp : keepIn K (.ref C) = true
structure XBase (K : Frag) (B : Addr) : Prop where
  sp : specialIn K (.ref B) "__getattribute__" = some (some (.builtin "type.__getattribute__"))
  rd : readsIn K B (.type "type") = true
  init : findCls K (.ref B) (.type "type") "__init__" = some (.val (.builtin "ValueError.__init__"))
def exO (x C : Addr) (d : Option Addr) : HO:=.ext fun h=>∃ vs : Array Value,h.get? x = some { cls:=.ref C,dict:=d,data:=.fields vs } ∧ vs.size = 6 ∧ vs[1]? = some .none
theorem zDx {P : Program} {w : World} {H : Hp} {h : Heap} {x C : Addr} {d : Option Addr} {vs : Array Value} (e : h.get? x = some { cls:=.ref C,dict:=d,data:=.fields vs }) (h6 : vs.size = 6) (h1 : vs[1]? = some .none) : ObjOk P w H h x (exO x C d) :=
  ⟨⟨vs,e,h6,h1⟩,⟨_,e⟩,fun _ _ ⟨vs,e,a,b⟩ k=>⟨vs,k _ e,a,b⟩⟩
theorem zMh {H : Hp} {a : Addr} {o : HO} (h : H a = some o) : upd H a o = H:=by
  funext b
  unfold upd
  split
  · rename_i e; rw [e,h]
  · rfl
theorem Un.also {fs ex : List Addr} {H H1 : Hp} {h h' : Heap} {a : Addr} {o : HO} (u : Un fs ex H H1 h h') (hp : h.objs.size ≤ a) (hn : H a = none) : Un fs ex H (upd H1 a o) h h' where
  keep:=u.keep
  slot:=u.slot
  free:=fun b ob q n hx=>by rw [zM (Nat.ne_of_lt (Nat.lt_of_lt_of_le (Heap.lt_size q) hp))]; exact u.free b ob q n hx
  there:=u.there
  tups:=fun b xs q=>by rw [zM (zY q hn)]; exact u.tups b xs q
  frzs:=fun b ob xs q=>by rw [zM (zY q hn)]; exact u.frzs b ob xs q
  tbls:=fun b ps q=>by rw [zM (zY q hn)]; exact u.tbls b ps q
theorem HOk.also {P : Program} {w : World} {H : Hp} {h : Heap} {a : Addr} {o : HO} (x : HOk P w H h) (hn : H a = none) (new : ObjOk P w (upd H a o) h a o) : HOk P w (upd H a o) h:=fun b u e=>by
  by_cases hb : b = a
  · subst hb; rw [zC] at e; cases e; exact new
  · rw [zM hb] at e
    exact (x b u e).stay (fun c v _ q=>q) (fun c q=>by rw [zM (zY q hn)]; exact q) fun c xs q=>by rw [zM (zY q hn)]; exact q
section
variable {X : Cx} {pins : List (Addr × Obj)} {σ : St} {H : Hp} {s : Shared} {x C B fI : Addr} {nm : Str} {d : Option Addr}
theorem zBt (I : Inv X pins σ H s) (h : H x = some (exO x C d)) : ∃ vs : Array Value,s.heap.get? x = some { cls:=.ref C,dict:=d,data:=.fields vs } ∧ vs.size = 6 ∧ vs[1]? = some .none:=(I.hok x _ h).1
theorem zGj {Q : Value → Shared → Prop} {E : Value → Shared → Prop} {u : Value} (c : XCls X.K nm C B fI) (I : Inv X pins σ H s) (hH : H x = some (exO x C d)) (q : ∀ s',Inv X pins σ H s' → Q .none s') :
    wpAny (model X.prog X.w) X.A (call (.builtin "ValueError.__init__") [.ref x,u]) Q E s:=by
  obtain ⟨N,o,lk,q',bs,hdct,sn,sub,ab,col,dd,k0,k1,k2,k3,k5,rfl⟩:=c.obj
  obtain ⟨vs,he,h6,h1⟩:=zBt I hH
  have hT:=tail_of_in I.kIn c.tl
  have hC:=I.kIn _ _ lk
  have I':=I
  obtain ⟨h,g,dr,t,os⟩:=s
  dsimp only at he hC hT
  have F:=F.excBase_ValueError
  obtain ⟨a0,h0⟩ : ∃ a0,vs[0]? = some a0:=⟨_,Array.getElem?_eq_some_iff.mpr ⟨by omega,rfl⟩⟩
  refine wpAny_call (codeAny_call_builtin F.init.plain F.initEntry (wpAny_check_init_subT F hT hC he rfl ?_))
  unfold Builtin.«BaseException.__init__»
  dsimp only
  rw [if_neg (by simp)]
  have hsz : 0 < vs.size:=by omega
  have he₁:=Heap.get?_push_of_some (h:=h) { cls:=.type "tuple",data:=.seq [u].toArray } he
  have hup:=zAw he₁ rfl 0 (.ref h.objs.size)
  have fin : Inv X pins σ H ⟨(h.push { cls:=.type "tuple",data:=.seq [u].toArray }).update x (Obj.mapFields fun xs=>xs.setIfInBounds 0 (.ref h.objs.size)),g,dr,t,os⟩:=by
    rw [← zMh hH]
    refine Inv.write (t':=t) I' (e:=x) (by rw [hH]; exact True.intro) (.inl rfl) (fun b ob hb e=>(Heap.get?_update_other _ _ (Ne.symm hb)).trans (Heap.get?_push_of_some _ e)) ⟨_,hup⟩ (zDx hup ?_ ?_)
    · rw [Array.size_setIfInBounds]; exact h6
    · rw [Array.getElem?_setIfInBounds_ne (by decide)]; exact h1
  refine wpAny_bind (wpAny_newTuple ?_ (by rw [sizeLine_eq]; simp))
  unfold Builtin.BaseException.bexcPut
  refine wpAny_bind (wpAny_bind (wpAny_field he₁ rfl h0 (wpAny_bind (wpAny_setField he₁ rfl hsz ?_))))
  have fin2:=q _ fin
  cases a0 with
  | ref a=>exact wpAny_letGo (wpAny_pure fin2)
  | _=>exact wpAny_pure (wpAny_pure fin2)
end
end L2
namespace L2
open PySem PySem.Spec PyProof.Rows PySem.W
section
variable {X : Cx} {C B fI : Addr} {nm : Str}
def tXInit (C : Addr) (t : TA) : TE:=fun σ H Q=>t σ H fun vs H1=>∃ x v,vs = [.ref x,v] ∧ H1 x = some (exO x C none) ∧ Q .non H1
theorem zHq {bn : Str} {p apos pos : Pos} {e : Expr} {es : List Expr} {t : TA} {pl : Sem Bool} (c : XCls X.K nm C B fI) (b : XBase X.K B) (hg : Gl X bn) (hm : X.mg bn = some (.ref B)) (ha : PA X (e :: es) t) (hdb : (bn == ("__debug__" : Str)) = false:=by decide)
    (he : starEach (e :: es) X.env = (false,eval e X.env) :: starEach es X.env:=by rfl) (hpl : (backTo pos (starEach es X.env)).any (·.1) = false:=by rfl)
    (ht : eval (.Call (.Attribute (.Name bn p) "__init__" apos) (e :: es) [] pos) X.env = (do
      let ov ← eval (.Name bn p) X.env
      standAt apos.atName
      let (f,first) ← holding [ov] (getMethod ov "__init__" pl)
      callWith pos f first (backTo pos (starEach (e :: es) X.env)) (backToKw pos (keywordEach [] X.env))):=by rfl) :
    PE X (.Call (.Attribute (.Name bn p) "__init__" apos) (e :: es) [] pos) (tXInit C t):=by
  intro pins s σ H Q I h
  refine methodCall_KW (pl:=pl) (vT I hg hm ?_ hdb) ht
  refine method_cls I.kIn b.sp (cls_value I.kIn b.rd b.init (by decide +kernel) ?_)
  have I1:=I.tok (s.toks + 1)
  refine PyProof.Rows.callWith_builtin1 (thn (ha pos pins _ σ H _ I1 h) fun us s2 ⟨vs,H2,I2,r,x,v,e1,e2,q⟩=>?_) he hpl
  subst e1
  obtain ⟨u1,u2,rfl,r1⟩ : ∃ u1 u2,us = [u1,u2] ∧ RelV (.ref x) u1:=by
    cases r with
    | cons a r =>
      cases r with
      | cons b r=>cases r; exact ⟨_,_,rfl,a⟩
  obtain rfl : u1 = Value.ref x:=r1
  exact zGj c I2 e2 fun s' I3=>⟨.non,H2,I3,rfl,q⟩
def tXSet (C : Addr) (f : Str) (tv ta : TE) : TS:=fun D σ H=>tv σ H fun v H1=>ta σ H1 fun o H2=>∃ x,o = .ref x ∧ H2 x = some (exO x C none) ∧ ∀ d,H2 d = none → D.nx σ (upd (upd H2 x (exO x C (some d))) d (.xd [(f,v)]))
theorem zLo {o value : Expr} {pos' pos : Pos} {tv ta : TE} (c : XCls X.K nm C B fI) (hv : PE X value tv) (ha : PE X o ta) (hs : swapsWith value (some (.Attribute o "at" pos')) pos.line X.env = pure false:=by rfl) : PS X (.Assign [.Attribute o "at" pos'] value pos) (tXSet C "at" tv ta):=by
  intro pins s σ H D I h
  refine plainObj_wpAny_Assign_Attribute (thn (hv pins s σ H _ I h) fun u s1 ⟨y,H1,I1,ry,q⟩=>thn (ha pins s1 σ H1 _ I1 q) fun ov s2 ⟨z,H2,I2,rx,x,ez,hH,q2⟩=>?_) hs
  subst ez
  obtain rfl : ov = Value.ref x:=rx
  obtain ⟨vs,he,h6,h1⟩:=zBt I2 hH
  obtain ⟨cd,hc,hm,hd⟩:=c.cd
  refine set_x I2.kIn hc hm hd he rfl (fun _ z=>by cases z) rfl c.set c.at_ fun h' t' g1 g2 g3=>?_
  have hfr : H2 s2.heap.objs.size = none:=I2.fresh
  have hne : s2.heap.objs.size ≠ x:=fun z=>by rw [z,hH] at hfr; cases hfr
  have hmu : Mut (H2 x):=by rw [hH]; exact True.intro
  have u1 : Un X.fs [] H2 (upd H2 x (exO x C (some s2.heap.objs.size))) s2.heap h':=Un.write (e:=x) hmu (.inl rfl) g3 ⟨_,g1⟩
  have k1 : HOk X.prog X.w (upd H2 x (exO x C (some s2.heap.objs.size))) h':=I2.hok.write (e:=x) hmu (.inl rfl) g3 ⟨_,g1⟩ (zDx g1 h6 h1)
  refine ⟨σ,_,I2.un (t':=t') (u1.also (a:=s2.heap.objs.size) (o:=.xd [("at",y)]) (Nat.le_refl _) hfr) (k1.also (by rw [zM hne]; exact hfr) ?_),q2 _ hfr⟩
  refine ⟨_,g2,fun f=>?_⟩
  show RelO (List.lookup f [("at",y)]) _
  rw [List.lookup_cons,List.lookup_nil]
  by_cases z : f = "at"
  · subst z
    rw [if_pos rfl,beq_self_eq_true]
    exact ry
  · rw [if_neg z,show (f == ("at" : Str)) = false from beq_eq_false_iff_ne.mpr z]
    trivial
def spXInit (C : Addr) : Sp:=fun vs H Q _=>∃ x v0 v,vs = [.ref x,v0,v] ∧ H x = some (exO x C none) ∧ ∀ d,H d = none → Q .non (upd (upd H x (exO x C (some d))) d (.xd [("at",v)]))
end
section
variable {X : Cx} {pins : List (Addr × Obj)} {σ : St} {H : Hp} {s : Shared} {x C : Addr} {d : Option Addr}
def drp (H : Hp) (x : Addr) : Hp:=fun b=>if b = x then none else H b
theorem vV {b : Addr} (h : b ≠ x) : drp H x b = H b:=if_neg h
theorem zAx : drp H x x = none:=if_pos rfl
theorem zHg {E : XK} {EE : Value → Shared → Prop} (I : Inv X pins σ H s) (hs : X.stack = X.env :: X.outer) (hf : X.env.frame = some X.env.locals) (hex : X.ex = []) (hH : H x = some (exO x C d)) (hx0 : X.s₀.heap.get? x = none) (q : E (.ref C) d (drp H x)) :
    wpAny (model X.prog X.w) X.A (leaving X.env (.ref x)) (fun _ s3=>CXE X.prog X.w X.outer X.H₀ X.s₀ E (.ref x) s3) EE s:=by
  obtain ⟨vs,he,h6,h1⟩:=zBt I hH
  obtain ⟨a0,h0⟩ : ∃ a0,vs[0]? = some a0:=⟨_,Array.getElem?_eq_some_iff.mpr ⟨by omega,rfl⟩⟩
  have hfs : frs X.stack = X.env.locals :: X.fs:=by
    rw [hs]; unfold frs; rw [List.filterMap_cons,hf]; rfl
  have hloc : X.s₀.heap.get? X.env.locals = none:=Heap.get?_none_of_le I.ok.above
  have hfr:=I.ok.frames
  rw [hs] at hfr
  have nx : x ∉ frs X.stack:=fun z=>by
    have:=I.stkFree x z
    rw [hH] at this; cases this
  have st:=I.stack
  have nx':=nx
  rw [hs] at nx' st
  unfold leaving
  refine wpAny_bind (zJd hfr st hf he nx' rfl h0 h1 fun h1 T1 f1 k1 n1=>?_)
  refine wX f1 fun h2 f2 k2=>?_
  rw [← hs] at k1
  have hbase:=I.base
  rw [hex] at hbase
  have hT1H : H T1 = none:=by
    cases e : H T1 with
    | none=>rfl
    | some o =>
      obtain ⟨ob,hob⟩:=ObjOk.got (I.hok T1 o e)
      rw [n1] at hob; cases hob
  have hT1o : X.s₀.heap.get? T1 = none:=by
    cases e : X.s₀.heap.get? T1 with
    | none=>rfl
    | some o =>
      obtain ⟨o',e'⟩:=hbase.there T1 o e (fun z=>nomatch z)
      rw [n1] at e'; cases e'
  have k3 : Kp (frs X.stack) [x,T1] s.heap h2:=k1.trans (qQ k2 fun b hb=>nomatch hb) fun c hc=>by
    rcases hc with z | z
    · rw [List.mem_singleton.mp z]; simp
    · rw [List.mem_singleton.mp z.1]; simp
  have k4 : Kp X.fs [x,T1,X.env.locals] s.heap h2:=by
    have k5 : Kp (frs X.stack) [x,T1,X.env.locals] s.heap h2:=k3.trans Kp.refl (ys:=[]) fun c hc=>by
      rcases hc with z | z
      · rcases List.mem_cons.mp z with z | z
        · rw [z]; simp
        · rw [List.mem_singleton.mp z]; simp
      · exact nomatch z.1
    refine qQ k5 fun b hb=>?_
    rw [hfs] at hb
    rcases List.mem_cons.mp hb with z | z
    · rw [z]; exact .inr (by simp)
    · exact .inl z
  have u1 : Un X.fs [] X.H₀ H X.s₀.heap h2:=zFm hbase k4 fun b hb=>by
    rcases List.mem_cons.mp hb with z | z
    · rw [z]; exact hx0
    · rcases List.mem_cons.mp z with z | z
      · rw [z]; exact hT1o
      · rw [List.mem_singleton.mp z]; exact hloc
  have ne : ∀ b o,H b = some o → (∀ φ,o ≠ .ext φ) → b ≠ x:=fun b o e n z=>by
    subst z
    rw [hH] at e
    exact n _ (Option.some.inj e).symm
  have u2 : Un X.fs [] X.H₀ (drp H x) X.s₀.heap h2:=⟨u1.keep,u1.slot,fun b ob e n hx=>by
      rw [vV (fun z=>by subst z; rw [hx0] at e; cases e)]; exact u1.free b ob e n hx,u1.there,
    fun b xs e=>by have z:=u1.tups b xs e; rw [vV (ne b _ z fun _ y=>nomatch y)]; exact z,
    fun b ob xs e=>by have z:=u1.frzs b ob xs e; rw [vV (ne b _ z fun _ y=>nomatch y)]; exact z,
    fun b ps e=>by obtain ⟨m,z⟩:=u1.tbls b ps e; exact ⟨m,by rw [vV (ne b _ z fun _ y=>nomatch y)]; exact z⟩⟩
  have ok1 : HOk X.prog X.w (drp H x) s.heap:=fun b o e=>by
    by_cases z : b = x
    · subst z; rw [zAx] at e; cases e
    · rw [vV z] at e
      exact (I.hok b o e).stay (fun _ _ _ q=>q) (fun c q=>by rw [vV (ne c _ q fun _ y=>nomatch y)]; exact q) fun c xs q=>by rw [vV (ne c _ q fun _ y=>nomatch y)]; exact q
  have dn : ∀ b,H b = none → drp H x b = none:=fun b e=>by
    unfold drp
    split
    · rfl
    · exact e
  refine ⟨x,T1, .ref C,d,a0,drp H x,rfl,I.os,I.bare,u2,zBb ok1 k3 (fun b hb=>dn b (I.stkFree b hb)) fun b hb=>?_,hx0,hT1o,zAx,dn _ hT1H,f2,q⟩
  rcases List.mem_cons.mp hb with z | z
  · rw [z]; exact zAx
  · rw [List.mem_singleton.mp z]; exact dn _ hT1H
end
end L2
namespace L2
open PySem PySem.Spec PyProof.Rows PySem.W
theorem zKb {H : Hp} {x d : Addr} {o u : HO} (hx : H x = none) (hd : d ≠ x) : drp (upd (upd H x o) d u) x = upd H d u:=by
  funext b
  by_cases z : b = x
  · subst z
    rw [zAx,zM (Ne.symm hd),hx]
  · rw [vV z]
    by_cases y : b = d
    · subst y; rw [zC,zC]
    · rw [zM y,zM z,zM y]
section
variable {X : Cx} {C B fI : Addr} {nm : Str} {k : Nat} {fd : FuncData} {ps : List Str}
theorem zGx {pins : List (Addr × Obj)} {σ : St} {H : Hp} {s : Shared} {Qx : Value → Shared → Prop} {us : List Value} {v0 v : V} (c : XCls X.K nm C B fI) (F : FnOk X.prog X.w X.K X.mg X.base CX0 k fI fd ps (spXInit C)) (hr : Room (k + 1) X.A) (hb : Binds X.K fd ps []) (I : Inv X pins σ H s) (r : Vals [v0,v] us)
    (q : ∀ x d s',X.s₀.heap.get? x = none → H x = none → H d = none → d ≠ x → Inv X pins σ (upd (upd H x (exO x C (some d))) d (.xd [("at",v)])) s' → Qx (.ref x) s') : wpAny (model X.prog X.w) X.A (call (.ref C) us) Qx X.xe s:=by
  obtain ⟨N,o,lk,hX⟩:=c.obj
  have hus : us.length ≤ 100:=by rw [← r.length]; show (2 : Nat) ≤ 100; decide
  have hx0 : X.s₀.heap.get? (s.heap.objs.size + 1) = none:=Heap.get?_none_of_le (Nat.le_trans I.sz (Nat.le_succ _))
  have hHx : H (s.heap.objs.size + 1) = none:=I.hok.fresh (Nat.le_succ _)
  have he : ((s.heap.push { cls:=.type "tuple",data:=.seq us.toArray }).push (newExc C s.heap.objs.size)).get? (s.heap.objs.size + 1) = some (newExc C s.heap.objs.size):=by
    rw [← (Heap.size_push .. : (s.heap.push { cls:=.type "tuple",data:=.seq us.toArray }).objs.size = s.heap.objs.size + 1)]; exact Heap.get?_push_size _ rfl
  have I2:=I.laid (t':=s.toks) (a:=s.heap.objs.size + 1) (o:=exO (s.heap.objs.size + 1) C none) (h':=(s.heap.push { cls:=.type "tuple",data:=.seq us.toArray }).push (newExc C s.heap.objs.size)) (fun b ob e=>Heap.get?_push_of_some _ (Heap.get?_push_of_some _ e)) (Nat.le_succ _) (zDx he rfl rfl)
  have r2 : Vals [V.ref (s.heap.objs.size + 1),v0,v] (Value.ref (s.heap.objs.size + 1) :: us):=.cons rfl r
  have hsp : spXInit C [V.ref (s.heap.objs.size + 1),v0,v] (upd H (s.heap.objs.size + 1) (exO (s.heap.objs.size + 1) C none)) (fun u H2=>u = .non ∧ ∃ d,H d = none ∧ d ≠ s.heap.objs.size + 1 ∧ H2 = upd (upd H (s.heap.objs.size + 1) (exO (s.heap.objs.size + 1) C (some d))) d (.xd [("at",v)])) E0:=by
    refine ⟨_,v0,v,rfl,zC,fun d hd=>⟨rfl,d, ?_⟩⟩
    have hne : d ≠ s.heap.objs.size + 1:=fun z=>by rw [z,zC] at hd; cases hd
    rw [zM hne] at hd
    exact ⟨hd,hne,by rw [zEz]⟩
  have hl : ((Value.ref (s.heap.objs.size + 1) :: us) ++ []).length = ps.length:=by
    rw [List.append_nil,← r2.length]
    exact F.len _ _ _ _ hsp
  have hbt:=hb _ (Value.ref (s.heap.objs.size + 1) :: us) I2.kIn hl
  rw [List.append_nil] at hbt
  have run:=F.run _ X.stack _ _ ⟨Value.ref (s.heap.objs.size + 1) :: us,[]⟩ (Value.ref (s.heap.objs.size + 1) :: us) _ _ E0 (hr.make C us []) (I2.env0.make C us []) hbt r2 hsp
  have I1:=I
  obtain ⟨h,g,dr,t,os⟩:=s
  refine wpAny_call (zMt I1.kIn lk hX c.tl c.init c.fn hus (codeAny_mono run fun r s' hq'=>?_))
  cases r with
  | error e=>exact False.elim hq'
  | ok fl =>
    cases fl with
    | ret u =>
      obtain ⟨v',H',I3,rv,ev,d,hd,hne,rfl⟩:=I2.after hq'
      subst ev
      exact ⟨rv,q _ d s' hx0 hHx hd hne I3⟩
    | next=>exact False.elim hq'
    | brk=>exact False.elim hq'
    | cont=>exact False.elim hq'
def tXRaise (C : Addr) (E : XK) (t : TA) : TS:=fun _ σ H=>t σ H fun vs H1=>∃ v0 v,vs = [v0,v] ∧ ∀ d,H1 d = none → E (.ref C) (some d) (upd H1 d (.xd [("at",v)]))
structure Xr (P : Program) (w : World) (K : Frag) (mg : Str → Option Value) (base : Heap) (k : Nat) (cn : Str) (C : Addr) : Prop where
  ex : ∃ (nm : Str) (B fI : Addr) (fd : FuncData) (ps : List Str),XCls K nm C B fI ∧ FnOk P w K mg base CX0 k fI fd ps (spXInit C) ∧ Binds K fd ps [] ∧ mg cn = some (.ref C)
def Lvs (X : Cx) (E : XK) : Prop:=X.stack = X.env :: X.outer ∧ X.env.frame = some X.env.locals ∧ X.ex = [] ∧ ∀ e s',wpAny (model X.prog X.w) X.A (leaving X.env e) (fun _ s3=>CXE X.prog X.w X.outer X.H₀ X.s₀ E e s3) (fun e' s3=>CXE X.prog X.w X.outer X.H₀ X.s₀ E e' s3) s' → X.xe e s'
theorem passE {E : XK} (l : Lvs X E) : Passes (CXE X.prog X.w) X E:=fun _ _ _ _ e s' I h=>l.2.2.2 e s' (zKj I l.1 l.2.1 l.2.2.1 h)
theorem jU {E : XK} {cn : Str} {p pos rpos : Pos} {e : Expr} {es : List Expr} {t : TA} {j : Nat} (R : Xr X.prog X.w X.K X.mg X.base k cn C) (hr : Room j X.A) (hj : k + 1 ≤ j) (hg : Gl X cn) (hcalm : X.calm = true) (l : Lvs X E) (ha : PA X (e :: es) t) (hdb : (cn == ("__debug__" : Str)) = false:=by decide)
    (he : starEach (e :: es) X.env = (false,eval e X.env) :: starEach es X.env:=by rfl) (hpl : (backTo pos (starEach es X.env)).any (·.1) = false:=by rfl) : PS X (.Raise (some (.Call (.Name cn p) (e :: es) [] pos)) none rpos) (tXRaise C E t):=by
  intro pins s σ H D I h
  obtain ⟨nm,B,fI,fd,ps,c,F,hb,hm⟩:=R.ex
  obtain ⟨hs,hf,hex,hxe⟩:=l
  rw [arm_exec_Raise]
  refine wpAny_bind (wpAny_standAt ?_)
  show wpAny _ _ (raiseStmt X.env (some (do let v ← eval (.Call (.Name cn p) (e :: es) [] pos) X.env; standAt rpos; pure v)) none) _ _ _
  obtain ⟨N,o,lk,hX⟩:=c.obj
  refine zEh (nm:=nm) (C:=C) (N:=N) (bm:=.ref B :: veMro) (by rw [List.contains_cons,show veMro.contains (.type "BaseException") = true by decide,Bool.or_true]) (I.ok.hd hcalm) (wpAny_bind ?_)
  refine wpAny_Call_Name_kw (vT I hg hm ?_ hdb)
  refine callWith_K (h₀:=X.base) I.ok.mod.kin c.kp (thn (ha pos pins s σ H _ I h) fun us s1 ⟨vs,H1,I1,r,v0,v,ev,q⟩=>⟨I1.kIn, ?_⟩) he hpl
  subst ev
  refine zGx c F (hr.mono hj) hb I1 r fun x d s2 hx0 hx hd hne I2=>?_
  refine wpAny_bind (wpAny_standAt (wpAny_pure ?_))
  have hH : upd (upd H1 x (exO x C (some d))) d (.xd [("at",v)]) x = some (exO x C (some d)):=by rw [zM (Ne.symm hne),zC]
  obtain ⟨vs,e1,h6,h1⟩:=zBt I2 hH
  refine ⟨x,_,_,vs,rfl,I2.kIn _ _ lk,hX,e1,rfl,rfl,h1,hxe _ _ (zHg I2 hs hf hex hH hx0 ?_)⟩
  rw [zKb hx hne]
  exact q d hd
end
structure Dx (P : Program) (w : World) (K : PySem.W.Frag) (mg : Str → Option Value) (base : Heap) (k : Nat) (x : Str) (ps : List Str) (sp : Sp) : Prop where
  ex : ∃ (f : Addr) (fd : FuncData),FnOk P w K mg base (CXE P w) k f fd ps sp ∧ Binds K fd ps [] ∧ PySem.W.keepIn K (.ref f) = true ∧ mg x = some (.ref f)
section
variable {X : Cx} {k j : Nat} {x : Str} {ps : List Str} {sp : Sp} {e : Expr} {es : List Expr} {t : TA} {p pos : Pos} {E : XK}
theorem zIc (D : Dx X.prog X.w X.K X.mg X.base k x ps sp) (hr : Room j X.A) (hj : k ≤ j) (hg : Gl X x) (l : Lvs X E) (ha : PA X (e :: es) t) (hdb : (x == ("__debug__" : Str)) = false:=by decide)
    (he : starEach (e :: es) X.env = (false,eval e X.env) :: starEach es X.env:=by rfl) (hpl : (backTo pos (starEach es X.env)).any (·.1) = false:=by rfl) : PE X (.Call (.Name x p) (e :: es) [] pos) (tCall sp [] E t):=by
  obtain ⟨f,fd,h1,h2,h3,h4⟩:=D.ex
  exact kK h1 (hr.mono hj) hg h4 h3 h2 .nil (passE l) ha hdb he hpl
end
section
variable {P : Program} {w : World} {K : PySem.W.Frag} {mg : Str → Option Value} {base : Heap} {k : Nat} {f : Addr} {fd : FuncData} {ps : List Str} {sp sp' : Sp} {CX : CXT}
theorem Fun.okx {x qual : Str} {st : Stmt} {N : List Str} (F : Fun K x qual st f fd) (S : FnScope N ps (defScope st)) (len : ∀ vs H Q E,sp vs H Q E → vs.length = ps.length)
    (hbody : ∀ (cdv : Value) (A : Around) (outer : List Env) (s : Shared) (H : Hp) (vs : List V) (Q : VK) (E : XK),Room k (A.deeper (envOfC qual (defScope st) s.heap.objs.size f cdv)) → sp vs H Q E →
      ∃ t,PSs (cxOf (CXE P w) P w K mg base N qual (defScope st) f cdv A outer s H E) (defBody st) t ∧ t { nx:=fun _ H'=>Q .non H',rt:=Q } (start N vs) H) : FnOk P w K mg base (CXE P w) (k + 1) f fd ps sp:=by
  obtain ⟨oc,od,kV,doc,pm,an,cdv,ct,osl,rfl,lk,hcd⟩:=F.ex
  exact zEy lk hcd S len fun A outer s H vs Q E hr hsp=>hbody cdv A outer s H vs Q E hr hsp
theorem lvs {N : List Str} {qual : Str} {scope : Scope} {cd : Value} {A : Around} {outer : List Env} {s : Shared} {H : Hp} {E : XK} : Lvs (cxOf (CXE P w) P w K mg base N qual scope f cd A outer s H E) E:=⟨rfl,rfl,rfl,fun _ _ h=>h⟩
end
end L2
namespace L2
open PySem PySem.Spec PyProof.Rows PySem.W PySem.Builtin PySem.Builtin.ObjectAttr
structure XGet (K : Frag) (C : Addr) : Prop where
  ga : findIn K (.ref C) "__getattribute__" = some (some (.builtin "BaseException.__getattribute__"))
  gt : findIn K (.ref C) "__getattr__" = some none
  bx : mroIn K C (.type "BaseException") = some true
  ob : mroIn K C (.type "object") = some true
  hd : hasDictIn K C = true
  cl : findIn K (.ref C) "__class__" = some (some (.builtin "object.__class__"))
  cg : specialIn K (.builtin "object.__class__") "__get__" = some (some (.builtin "getset_descriptor.__get__"))
  ct : takesIn K (.builtin "object.__class__") = some true
section
variable {prog : Program} {w : World} {A : Around} {K : Frag} {C x : Addr} {ox od : Obj} {name : Str} {E : Value → Shared → Prop} {s : Shared}
theorem zNf {tk : Tok} {fill expr : Bool} {Q : Value → Shared → Prop} (G : XGet K C) (hK : K.In s.heap) (I : InstAt s.heap x ox C (some od))
    (h : wpAny (model prog w) A.in1 (Builtin.«object.__getattribute__» ⟨[.ref x, .str name tk],[]⟩) (fun fin s'=>match fin with | .done (.ret v)=>wpAny (model prog w) A (handedOut v) Q E s' | _=>False) (fun _ _=>False) s) :
    wpAny (model prog w) A (getAttrBy (.ref x) (.str name tk) fill expr) Q E s:=by
  have hb : Looks (model prog w) s.heap (hookBefore (.ref C)) none:=looks_hook hK (by rw [if_pos (by rfl)]; exact G.gt)
  have ht:=I.type (M:=model prog w)
  unfold getAttrBy
  refine wpAny_holding (wpAny_bind (ht _ _ _ _ (fun _ _ e=>e) (wpAny_bind (looks_findIn hK G.ga _ _ _ _ (fun _ _ e=>e) ?_))))
  dsimp only
  rw [show (onTheHeap (Value.ref C) && Value.builtin "BaseException.__getattribute__" == Value.builtin "object.__getattribute__") = false from by rw [show (Value.builtin "BaseException.__getattribute__" == Value.builtin "object.__getattribute__") = false from by decide +kernel,Bool.and_false],if_neg (by decide)]
  unfold getAttrByItsOwn
  refine wpAny_bind (hb _ _ _ _ (fun _ _ e=>e) (wpAny_bind (wpAny_attempt (wpAny_holding ?_))))
  unfold callGetattribute
  rw [show (expr && onTheHeap (Value.builtin "BaseException.__getattribute__")) = false from Bool.and_false _,if_neg (by decide)]
  unfold boundAndCalled
  have FB:=PySem.F.attr_ValueError
  rw [FB.ga.bind]
  refine wpAny_bind (wpAny_pure ?_)
  show wpAny _ _ (call (.builtin "BaseException.__getattribute__") [.ref x, .str name tk]) _ _ _
  refine wpAny_call ?_
  refine codeAny_call_builtin FB.ga.plain PySem.F.entry_bexc_ga ?_
  refine @check_slot (model prog w) _ _ s "BaseException.__getattribute__" "BaseException" "__getattribute__" (.ref x) [.str name tk] [] _ (by decide +kernel) (by decide +kernel) (ht.andThen (looks_mroIn hK G.bx)) (PySem.F.args_bexc_ga (.ref x) (.str name tk)) ?_
  refine wpAny_mono h (fun fin s' z=>?_) fun _ _ z=>z.elim
  rcases fin with (_ | _ | _ | _) | _ <;> first | exact z | exact z.elim
theorem zGq {v : Value} {expr : Bool} {Q : Value → Shared → Prop} (G : XGet K C) (hK : K.In s.heap) (I : InstAt s.heap x ox C (some od)) (hf : findObj K C (some od) name = some (.value v)) (hh : handedIn v = true) (h : Q v { s with toks:=s.toks + 1 }) :
    wpAny (model prog w) A (getAttr (.ref x) name expr) Q E s:=by
  unfold getAttr
  refine wpAny_bind (wpAny_mkText (zNf (s:={ s with toks:=s.toks + 1 }) G hK I ?_))
  obtain ⟨hh',g,d,t,os⟩:=s
  have L0:=I.type (M:=model prog w)
  have L1:=looks_find (M:=model prog w) hK I hf
  unfold Builtin.«object.__getattribute__»
  refine wpAny_bind (wpAny_pure (wpAny_bind (wpAny_pure (wpAny_bind (L0.at (wpAny_bind (L1.at ?_)))))))
  refine wpAny_pure ?_
  show wpAny _ _ (handedOut v) _ _ _
  rw [handedOut_of hh]; exact wpAny_pure h
end
end L2
namespace L2
open PySem PySem.Spec PyProof.Rows PySem.W
def exF (x C : Addr) (d : Option Addr) : HO:=.ext fun h=>∃ (ob : Obj) (vs : Array Value),h.get? x = some ob ∧ ob.cls = .ref C ∧ ob.dict = d ∧ ob.data = .fields vs
theorem zNr {P : Program} {w : World} {H : Hp} {h : Heap} {x C : Addr} {d : Option Addr} {ob : Obj} {vs : Array Value} (e : h.get? x = some ob) (h1 : ob.cls = .ref C) (h2 : ob.dict = d) (h3 : ob.data = .fields vs) : ObjOk P w H h x (exF x C d) :=
  ⟨⟨ob,vs,e,h1,h2,h3⟩,⟨_,e⟩,fun _ _ ⟨ob,vs,e,a⟩ k=>⟨ob,vs,k _ e,a⟩⟩
abbrev Cx.mark (X : Cx) (v : Value) : Cx:={ X with A:=X.A.mark (some v),calm:=false,xe:=fun _ _=>False }
abbrev Cx.pend (X : Cx) (pins : List (Addr × Obj)) (W : Value → Shared → Prop) : Cx:={ X with pn:=X.pn ++ pins,xe:=W }
section
variable {X : Cx} {pins pins' : List (Addr × Obj)} {σ : St} {H : Hp} {s : Shared} {v : Value} {W : Value → Shared → Prop}
theorem Cx.Ok.mark (ok : X.Ok) : (X.mark v).Ok :=
  ⟨ok.mod,ok.kind,ok.glob,ok.blt,ok.above,ok.inj,ok.has,ok.cab,(fun z=>nomatch z),ok.frames,ok.stk,ok.exf,ok.bs,ok.bsz,ok.noex,ok.exfs,ok.funs,ok.frf⟩
theorem Inv.mark (I : Inv X pins σ H s) : Inv (X.mark v) pins σ H s:=⟨I.ok.mark,I.os,I.bare,I.base,I.loc,I.cell,I.free,I.freeC,I.pin,I.hok,I.len⟩
theorem Inv.unmark (ok : X.Ok) (I : Inv (X.mark v) pins σ H s) : Inv X pins σ H s:=⟨ok,I.os,I.bare,I.base,I.loc,I.cell,I.free,I.freeC,I.pin,I.hok,I.len⟩
theorem Cx.Ok.pend (ok : X.Ok) : (X.pend pins W).Ok :=
  ⟨ok.mod,ok.kind,ok.glob,ok.blt,ok.above,ok.inj,ok.has,ok.cab,ok.hd,ok.frames,ok.stk,ok.exf,ok.bs,ok.bsz,ok.noex,ok.exfs,ok.funs,ok.frf⟩
theorem Inv.pend (I : Inv X pins σ H s) : Inv (X.pend pins W) [] σ H s:=⟨I.ok.pend,I.os,I.bare,I.base,I.loc,I.cell,I.free,I.freeC,fun p hp=>I.pin p (by rw [List.append_nil] at hp; exact hp),I.hok,I.len⟩
theorem Inv.unpend (ok : X.Ok) (I : Inv (X.pend pins W) pins' σ H s) : Inv X pins σ H s:=⟨ok,I.os,I.bare,I.base,I.loc,I.cell,I.free,I.freeC,fun p hp=>I.pin p (List.mem_append_left _ hp),I.hok,I.len⟩
theorem Inv.track {x : Addr} {o : HO} (I : Inv X pins σ H s) (hx : H x = none) (h0 : X.s₀.heap.get? x = none) (hl : x ≠ X.env.locals) (hc : ∀ y c,X.env.cells.lookup y = some c → c ≠ x) (hp : ∀ p ∈ X.pn ++ pins,p.1 ≠ x)
    (new : ObjOk X.prog X.w (upd H x o) s.heap x o) : Inv X pins σ (upd H x o) s where
  ok:=I.ok
  os:=I.os
  bare:=I.bare
  base:=⟨I.base.keep,I.base.slot,fun b ob e n hx'=>by rw [zM (fun z=>by subst z; rw [h0] at e; cases e)]; exact I.base.free b ob e n hx',I.base.there,
    fun b xs e=>by have z:=I.base.tups b xs e; rw [zM (zY z hx)]; exact z,fun b ob xs e=>by have z:=I.base.frzs b ob xs e; rw [zM (zY z hx)]; exact z,
    fun b ps e=>by obtain ⟨m,z⟩:=I.base.tbls b ps e; exact ⟨m,by rw [zM (zY z hx)]; exact z⟩⟩
  loc:=I.loc
  cell:=I.cell
  free:=by rw [zM (Ne.symm hl)]; exact I.free
  freeC:=fun y c e=>by rw [zM (hc y c e)]; exact I.freeC y c e
  pin:=fun p q=>let ⟨a,b,c⟩:=I.pin p q; ⟨a,by rw [zM (hp p q)]; exact b,c⟩
  hok:=I.hok.also hx new
  len:=I.len
theorem Inv.wiped {h' : Heap} {m' : Str → Option Value} {t' : Nat} (I : Inv X pins σ H s) (hn' : h'.Ns X.env.locals m') (hs : Heap.SameBut X.env.locals s.heap h') : Inv X pins (List.replicate X.N.length none) H { s with heap:=h',toks:=t' }:=by
  have neL : ∀ b o,X.s₀.heap.get? b = some o → b ≠ X.env.locals:=fun b o e=>Nat.ne_of_lt (Nat.lt_of_lt_of_le (Heap.lt_size e) I.ok.above)
  refine ⟨I.ok,I.os,I.bare,⟨fun b o e n hb hx=>?_,fun b o e n hb hx=>?_,I.base.free,fun b o e hx=>?_,I.base.tups,I.base.frzs,I.base.tbls⟩,⟨_,hn',fun j y v' e1 e2 e3=>?_⟩,fun y c e=>?_,I.free,I.freeC,fun p hp=>?_,fun b ob e=>?_,List.length_replicate⟩
  · exact (hs.2 b (neL b o e)).trans (I.base.keep b o e n hb hx)
  · obtain ⟨sl,e1⟩:=I.base.slot b o e n hb hx
    exact ⟨sl,(hs.2 b (neL b o e)).trans e1⟩
  · obtain ⟨o',e1⟩:=I.base.there b o e hx
    exact ⟨o',(hs.2 b (neL b o e)).trans e1⟩
  · rw [List.getElem?_replicate] at e2
    split at e2 <;> cases e2
  · obtain ⟨v',o,ho,hd⟩:=I.cell y c e
    exact ⟨v',o,(hs.2 c (I.cne y c e)).trans ho,hd⟩
  · obtain ⟨a,b,c,d⟩:=I.pin p hp
    exact ⟨(hs.2 _ c).trans a,b,c,d⟩
  · refine (I.hok b ob e).stay (fun c w' hc q=>(hs.2 c ?_).trans q) (fun _ q=>q) fun _ _ q=>q
    rintro rfl
    rcases hc with z | z
    · rw [← z,I.free] at e; cases e
    · rw [I.free] at z; cases z
end
section
variable {X : Cx} {B : Addr} {bn n : Str} {i : Nat} {body suite : List Stmt} {b₀ : Stmt} {bp hp pos : Pos} {tb : XK → TS} {ts : TS}
def xTry (K : Frag) (B : Addr) (i len : Nat) (ts : TS) (D : Ends) : XK:=fun C d H2=>∃ Ca,C = .ref Ca ∧ exmOne K (.ref Ca) (.ref B) = some true ∧
  ∀ x,H2 x = none → ts { D with nx:=fun _ H'=>D.nx (List.replicate len none) H',bk:=fun _ H'=>D.bk (List.replicate len none) H',ct:=fun _ H'=>D.ct (List.replicate len none) H' } ((List.replicate len none).set i (some (.ref x))) (upd H2 x (exF x Ca d))
def tTry (K : Frag) (B : Addr) (i len : Nat) (tb : XK → TS) (ts : TS) : TS:=fun D σ H=>tb (xTry K B i len ts D) D σ H
theorem zMx (hcalm : X.calm = true) (hgB : Gl X bn) (hmB : X.mg bn = some (.ref B)) (hN : X.N.Nodup) (hi : X.N[i]? = some n) (hl : X.env.scope.names.lookup n = some .local) (hstk : X.stack = X.env :: X.outer) (hf : X.env.frame = some X.env.locals) (hex : X.ex = [])
    (hb : ∀ pins W E,Passes (CXE X.prog X.w) (X.pend pins W) E → PSs (X.pend pins W) body (tb E)) (hsu : ∀ v,PSs (X.mark v) (b₀ :: suite) ts) (hdb : (bn == ("__debug__" : Str)) = false:=by decide) :
    PS X (.Try body [.ExceptHandler (some (.Name bn bp)) (some n) (b₀ :: suite) hp] [] [] pos) (tTry X.K B i X.N.length tb ts):=by
  intro pins s σ H D I h
  refine wpAny_Try_except ?_
  have J:=hb pins (fun e s'=>∃ σ' H1 s1,Inv X pins σ' H1 s1 ∧ CXE X.prog X.w X.stack H1 s1 (xTry X.K B i X.N.length ts D) e s') (xTry X.K B i X.N.length ts D)
    (fun pins' σ' H' s1 e s' I1 hx=>⟨σ',H',s1,I1.unpend I.ok,hx⟩) [] s σ H D I.pend h
  refine wpAny_mono J (fun f s1 q=>?_) fun e s1 ⟨σ',H0,s0,I0,hx⟩=>?_
  · cases f with
    | next=>obtain ⟨σ',H',I',q⟩:=q; exact wpAny_execs_nil ⟨σ',H',I'.unpend I.ok,q⟩
    | brk=>obtain ⟨σ',H',I',q⟩:=q; exact ⟨σ',H',I'.unpend I.ok,q⟩
    | cont=>obtain ⟨σ',H',I',q⟩:=q; exact ⟨σ',H',I'.unpend I.ok,q⟩
    | ret u=>obtain ⟨v,σ',H',I',r,q⟩:=q; exact ⟨v,σ',H',I'.unpend I.ok,r,q⟩
  obtain ⟨x,T,C,d,a0,H',rfl,os,bare,un,hok,hx0,hT0,hHx,hHT,fl,Ca,rfl,hexm,q⟩:=hx
  have I2 : Inv X pins σ' H' s1:=I0.call' os un hok bare (fun b z=>absurd z (by simp))
  have nfr : ∀ b,s0.heap.get? b = none → b ∉ frs X.stack:=fun b hb z=>by
    obtain ⟨o,e,_⟩:=zBk I0.stack b z
    rw [hb] at e; cases e
  have hfr:=I0.ok.frames
  have nx:=nfr x hx0
  have nT:=nfr T hT0
  have st:=I2.stack
  rw [hstk] at hfr
  have nx':=nx
  have nT':=nT
  rw [hstk] at nx' nT' st
  refine zFp hfr st hf nx' nT' fl fun h1 T1 f1 k1 n1=>?_
  refine wX f1 fun h2 f2 k2=>?_
  rw [← hstk] at k1
  have hT1H : H' T1 = none:=by
    cases e : H' T1 with
    | none=>rfl
    | some o =>
      obtain ⟨ob,hob⟩:=ObjOk.got (I2.hok T1 o e)
      rw [n1] at hob; cases hob
  have hT10 : s0.heap.get? T1 = none:=by
    cases e : s0.heap.get? T1 with
    | none=>rfl
    | some o =>
      obtain ⟨o',e'⟩:=un.there T1 o e (fun z=>nomatch z)
      rw [n1] at e'; cases e'
  have k3 : Kp (frs X.stack) [x,T,T1] s1.heap h2:=k1.trans (qQ k2 fun b hb=>nomatch hb) fun c hc=>by
    rcases hc with z | z
    · rcases List.mem_cons.mp z with z | z
      · rw [z]; simp
      · rw [List.mem_singleton.mp z]; simp
    · rw [List.mem_singleton.mp z.1]; simp
  have all0 : ∀ b ∈ [x,T,T1],s0.heap.get? b = none ∧ H' b = none:=fun b hb=>by
    rcases List.mem_cons.mp hb with z | z
    · rw [z]; exact ⟨hx0,hHx⟩
    · rcases List.mem_cons.mp z with z | z
      · rw [z]; exact ⟨hT0,hHT⟩
      · rw [List.mem_singleton.mp z]; exact ⟨hT10,hT1H⟩
  have I3 : Inv X pins σ' H' { s1 with heap:=h2 }:=I0.call' (s':={ s1 with heap:=h2 }) os (zFm un k3 fun b hb=>(all0 b hb).1) (zBb hok k3 I2.stkFree fun b hb=>(all0 b hb).2) bare (fun b z=>absurd z (by simp))
  have LT : Looks (model X.prog X.w) h2 (typeOf (.ref x)) (.ref Ca):=by
    obtain ⟨oe,vs,oT,ts',e1,e2,_⟩:=f2
    exact e2 ▸ (Looks.ld e1).andThen .now
  refine wpAny_handleBy_cons (codeAny_handlers_test ?_) (by intro z; cases z)
  refine vT (X:=X.mark (.ref x)) (I3.mark) hgB hmB ?_ hdb
  refine exm_one (M:=model X.prog X.w) I3.kIn LT hexm _ _ _ { s1 with heap:=h2 } (fun _ _ e=>e) ?_
  refine codeAny_handlers_suite_as ?_
  refine wX f2 fun h3 f3 k4=>?_
  have k5 : Kp (frs X.stack) [x,T,T1] s1.heap h3:=k3.trans (qQ k4 fun b hb=>nomatch hb) fun c hc=>by
    rcases hc with z | z
    · exact z
    · rw [List.mem_singleton.mp z.1]; simp
  have I4 : Inv X pins σ' H' { s1 with heap:=h3 }:=I0.call' (s':={ s1 with heap:=h3 }) os (zFm un k5 fun b hb=>(all0 b hb).1) (zBb hok k5 I2.stkFree fun b hb=>(all0 b hb).2) bare (fun b z=>absurd z (by simp))
  have hxs : X.s₀.heap.get? x = none:=by
    cases e : X.s₀.heap.get? x with
    | none=>rfl
    | some o =>
      obtain ⟨o',e'⟩:=I0.base.there x o e (by rw [hex]; exact fun z=>nomatch z)
      rw [hx0] at e'; cases e'
  obtain ⟨oe,vs,oT,ts',e1,e2,e3,e4,_⟩:=f3
  have I5 : Inv X pins σ' (upd H' x (exF x Ca d)) { s1 with heap:=h3 }:=by
    refine I4.track hHx hxs (fun z=>?_) (fun y c e z=>?_) (fun p hp z=>?_) (zNr e1 e2 e3 e4)
    · obtain ⟨m,⟨o,_,_,ho,_⟩,_⟩:=I0.loc
      rw [← z,hx0] at ho; cases ho
    · obtain ⟨v,o,ho,_⟩:=I0.cell y c e
      rw [z,hx0] at ho; cases ho
    · have ho:=(I0.pin p hp).1
      rw [z,hx0] at ho; cases ho
  have I6 : Inv X pins (List.replicate X.N.length none) (upd H' x (exF x Ca d)) { s1 with heap:=h3 }:=I5.weak (by rw [List.length_replicate,I5.len]) fun j v' e=>by
    rw [List.getElem?_replicate] at e
    split at e <;> cases e
  refine kX (v:=.ref x) I6 hN hi (.inl hl) rfl (fun s4 I7=>?_) (.inr hl)
  refine wpAny_mono (hsu (.ref x) pins s4 _ _ _ I7.mark (q x hHx)) (fun f s5 z=>?_) fun _ _ z=>False.elim z
  have hcls : (X.env.scope.kind == .class || (X.env.scope.kind == .module && X.env.locals != X.env.globals)) = false:=by rw [I.ok.kind]; rfl
  cases f with
  | next =>
    obtain ⟨σ5,H5,I8,q5⟩:=z
    obtain ⟨m,hn,_⟩:=I8.loc
    exact wpAny_nameGoes hl hn hcls fun h' m' hn' hs'=>⟨_,H5,(I8.unmark I.ok).wiped hn' hs',q5⟩
  | brk =>
    obtain ⟨σ5,H5,I8,q5⟩:=z
    obtain ⟨m,hn,_⟩:=I8.loc
    exact wpAny_nameGoes hl hn hcls fun h' m' hn' hs'=>⟨_,H5,(I8.unmark I.ok).wiped hn' hs',q5⟩
  | cont =>
    obtain ⟨σ5,H5,I8,q5⟩:=z
    obtain ⟨m,hn,_⟩:=I8.loc
    exact wpAny_nameGoes hl hn hcls fun h' m' hn' hs'=>⟨_,H5,(I8.unmark I.ok).wiped hn' hs',q5⟩
  | ret u =>
    obtain ⟨v,σ5,H5,I8,r5,q5⟩:=z
    obtain ⟨m,hn,_⟩:=I8.loc
    exact wpAny_nameGoes hl hn hcls fun h' m' hn' hs'=>⟨v,_,H5,(I8.unmark I.ok).wiped hn' hs',r5,q5⟩
end
end L2
namespace L2
open PySem PySem.Spec PyProof.Rows PySem.W
section
variable {X : Cx} {C D : Addr} {b : Bool}
theorem zIb {pins : List (Addr × Obj)} {σ : St} {H : Hp} {s : Shared} {x d : Addr} {fs : List (Str × V)} (I : Inv X pins σ H s) (hx : H x = some (exF x C (some d))) (hd : H d = some (.xd fs)) :
    ∃ ob od,InstAt s.heap x ob C (some od) ∧ ∀ name,∃ u,lookIn name od = some u ∧ RelO (fs.lookup name) u:=by
  obtain ⟨ob,vs,e1,e2,e3,e4⟩:=(I.hok x _ hx).1
  obtain ⟨mA,n,r⟩:=I.hok d _ hd
  obtain ⟨od,ho,hl⟩:=uT n
  refine ⟨ob,od,⟨e1,e2, ?_,by rw [e3]; exact ho⟩,fun name=>⟨_,hl name,r name⟩⟩
  unfold notCls
  rw [e4]
def tXAt (C : Addr) (f : Str) (ta : TE) : TE:=fun σ H Q=>ta σ H fun v H1=>∃ x d fs n,v = .ref x ∧ H1 x = some (exF x C (some d)) ∧ H1 d = some (.xd fs) ∧ fs.lookup f = some (.int n) ∧ Q (.int n) H1
theorem zNa {e : Expr} {f : Str} {ta : TE} {pos : Pos} (G : XGet X.K C) (hf : findIn X.K (.ref C) f = some none) (he : PE X e ta) (hb : attributeBase e f X.env (eval e X.env) = eval e X.env:=by rfl) : PE X (.Attribute e f pos) (tXAt C f ta):=by
  intro pins s σ H Q I h
  refine zKq hb (thn (he pins s σ H _ I h) fun u s1 ⟨v,H1,I1,rx,x,d,fs,n,ev,hx,hd,hl,q⟩=>?_)
  subst ev
  obtain rfl : u = Value.ref x:=rx
  obtain ⟨ob,od,J,lk⟩:=zIb I1 hx hd
  obtain ⟨u,e1,e2⟩:=lk f
  rw [hl] at e2
  cases u with
  | none=>exact e2.elim
  | some u =>
    obtain ⟨tk,rfl⟩ : ∃ tk,u = Value.int n tk:=e2
    refine zGq G I1.kIn J (findObj_own G.hd hf rfl e1) rfl ⟨.int n,H1,I1.tok _,⟨_,rfl⟩,q⟩
end
section
variable {X : Cx} {k j : Nat} {x : Str} {ps : List Str} {sp : Sp} {e : Expr} {es : List Expr} {t : TA} {p pos : Pos} {E : XK}
theorem pe_cp (D : Dx X.prog X.w X.K X.mg X.base k x ps sp) (hr : Room j X.A) (hj : k ≤ j) (hg : Gl X x) (l : Passes (CXE X.prog X.w) X E) (ha : PA X (e :: es) t) (hdb : (x == ("__debug__" : Str)) = false:=by decide)
    (he : starEach (e :: es) X.env = (false,eval e X.env) :: starEach es X.env:=by rfl) (hpl : (backTo pos (starEach es X.env)).any (·.1) = false:=by rfl) : PE X (.Call (.Name x p) (e :: es) [] pos) (tCall sp [] E t):=by
  obtain ⟨f,fd,h1,h2,h3,h4⟩:=D.ex
  exact kK h1 (hr.mono hj) hg h4 h3 h2 .nil l ha hdb he hpl
end
end L2
namespace L2
open PySem PySem.Spec PyProof.Rows PySem.W
structure RoomH (k : Nat) (A : Around) : Prop where
  dp : A.depth + 3 * k + 5 < recursionLimit
  un : A.units + 16 * k + 200 < cLine
theorem Room.h {k : Nat} {A : Around} {v : Option Value} (r : Room k A) : RoomH k (A.mark v):=⟨r.dp,r.un⟩
theorem RoomH.mono {j k : Nat} {A : Around} (r : RoomH k A) (h : j ≤ k) : RoomH j A:=⟨by have:=r.dp; omega,by have:=r.un; omega⟩
theorem RoomH.deeper {k : Nat} {A : Around} (r : RoomH (k + 1) A) (env : Env) : RoomH k (A.deeper env) :=
  ⟨by have:=r.dp; show A.depth + 1 + 3 * k + 5 < _; omega,by have:=r.un; show A.units + 3 + 16 * k + 200 < _; omega⟩
theorem RoomH.depth {k : Nat} {A : Around} (r : RoomH k A) : A.depth < recursionLimit:=by have:=r.dp; omega
structure FnOkH (P : Program) (w : World) (K : PySem.W.Frag) (mg : Str → Option Value) (base : Heap) (k : Nat) (f : Addr) (fd : FuncData) (ps : List Str) (sp : Sp) : Prop where
  len : ∀ vs H Q E,sp vs H Q E → vs.length = ps.length
  run : ∀ (A : Around) (outer : List Env) (s : Shared) (H : Hp) (args : Args) (us : List Value) (vs : List V) (Q : VK) (E : XK),RoomH k A → Env0 P w K mg base A outer s H → BindsTo s fd args (ps.zip us) → Vals vs us → sp vs H Q E →
    codeAny (model P w) A (.call (.ref f) args) (CR CX0 outer P w H s Q E) s
abbrev cxH (P : Program) (w : World) (K : PySem.W.Frag) (mg : Str → Option Value) (base : Heap) (N : List Str) (qual : Str) (scope : Scope) (f : Addr) (cd : Value) (A : Around) (outer : List Env) (s : Shared) (H : Hp) : Cx :=
  { cxOf CX0 P w K mg base N qual scope f cd A outer s H E0 with calm:=false,xe:=fun _ _=>False }
theorem Fun.okh {P : Program} {w : World} {K : PySem.W.Frag} {mg : Str → Option Value} {base : Heap} {k : Nat} {f : Addr} {fd : FuncData} {ps : List Str} {sp : Sp} {x qual : Str} {st : Stmt} {N : List Str} (F : Fun K x qual st f fd) (S : FnScope N ps (defScope st)) (len : ∀ vs H Q E,sp vs H Q E → vs.length = ps.length)
    (hbody : ∀ (cdv : Value) (A : Around) (outer : List Env) (s : Shared) (H : Hp) (vs : List V) (Q : VK) (E : XK),RoomH k (A.deeper (envOfC qual (defScope st) s.heap.objs.size f cdv)) → sp vs H Q E →
      ∃ t,PSs (cxH P w K mg base N qual (defScope st) f cdv A outer s H) (defBody st) t ∧ t { nx:=fun _ H'=>Q .non H',rt:=Q } (start N vs) H) : FnOkH P w K mg base (k + 1) f fd ps sp:=by
  obtain ⟨oc,od,kV,doc,pm,an,cdv,ct,osl,rfl,lk,hcd⟩:=F.ex
  refine ⟨len,fun A outer s H args us vs Q E hr e0 hb r hsp=>?_⟩
  have hl:=len _ _ _ _ hsp
  have KX : K.In s.heap:=e0.mod.kin.keeps fun b o e=>(e0.bs b o e).1
  have lim : s.heap.NoLimit:=e0.mod.nolimit.keeps fun b o e=>(e0.bs b o e).1
  have hkind : ∀ y ∈ ps.zip us,(defScope st).names.lookup y.1 = some .local ∨ ((defScope st).names.lookup y.1 = some .cell ∧ ((cellsFrom (s.heap.objs.size + 1) (defScope st).names []).lookup y.1).isSome = true):=fun ⟨n,v⟩ hy=>by
    rcases S.par n (List.of_mem_zip hy).1 with q | q
    · exact .inl q
    · exact .inr ⟨q,PySem.W.cellsFrom_some _ _ _ (.inl q)⟩
  refine codeAny_call_function hr.depth (KX _ _ lk) rfl S.co S.gen rfl (PySem.W.codeRec_of KX hcd) (hb _ _ _ _ ?_)
  refine wpAny_newFunctionEnv_cells S.kind hkind fun env he s1 x=>?_
  subst he
  refine ⟨lim.keeps x.toInCall.keep,codeAny_func ?_⟩
  obtain ⟨t,ht,hq⟩:=hbody cdv A outer s H vs Q E (hr.deeper _) hsp
  have e0' : Env0 P w K mg base { A with handled:=none } outer s H:=⟨e0.frames,e0.mod,e0.bs,e0.bsz,e0.funs,e0.frf,e0.hok,e0.bare⟩
  have I0 : Inv (cxOf CX0 P w K mg base N qual (defScope st) f cdv { A with handled:=none } outer s H E0) [] (start N vs) H s1:=uZ S rfl e0' hl r x
  have ok:=I0.ok
  have I : Inv (cxH P w K mg base N qual (defScope st) f cdv A outer s H) [] (start N vs) H s1 :=
    ⟨⟨ok.mod,ok.kind,ok.glob,ok.blt,ok.above,ok.inj,ok.has,ok.cab,(fun z=>nomatch z),ok.frames,ok.stk,ok.exf,ok.bs,ok.bsz,ok.noex,ok.exfs,ok.funs,ok.frf⟩,I0.os,I0.bare,I0.base,I0.loc,I0.cell,I0.free,I0.freeC,I0.pin,I0.hok,I0.len⟩
  refine wpAny_mono (ht [] s1 (start N vs) H _ I hq) (fun fl s' hs=>?_) fun e s' hs=>False.elim hs
  have fin : ∀ {σ' : St} {H' : Hp} {v : V} {u : Value},Inv (cxH P w K mg base N qual (defScope st) f cdv A outer s H) [] σ' H' s' → RelV v u → Q v H' → CE outer P w H s Q u s' :=
    fun {σ' H' v u} J rv q=>⟨v,H',J.os,J.bare,J.base,J.hok,rv,q⟩
  cases fl with
  | ret u =>
    obtain ⟨v,σ',H',J,rv,q⟩:=hs
    exact fin J rv q
  | next =>
    obtain ⟨σ',H',J,q⟩:=hs
    exact fin (v:=V.non) (u:=Value.none) J rfl q
  | brk =>
    obtain ⟨_,_,_,q⟩:=hs
    exact False.elim q
  | cont =>
    obtain ⟨_,_,_,q⟩:=hs
    exact False.elim q
structure Dh (P : Program) (w : World) (K : PySem.W.Frag) (mg : Str → Option Value) (base : Heap) (k : Nat) (x : Str) (ps : List Str) (sp : Sp) : Prop where
  ex : ∃ (f : Addr) (fd : FuncData),FnOkH P w K mg base k f fd ps sp ∧ Binds K fd ps [] ∧ PySem.W.keepIn K (.ref f) = true ∧ mg x = some (.ref f)
section
variable {X : Cx} {k j : Nat} {x : Str} {ps : List Str} {sp : Sp} {e : Expr} {es : List Expr} {t : TA} {p pos : Pos}
theorem pe_ch (D : Dh X.prog X.w X.K X.mg X.base k x ps sp) (hr : RoomH j X.A) (hj : k ≤ j) (hg : Gl X x) (ha : PA X (e :: es) t) (hdb : (x == ("__debug__" : Str)) = false:=by decide)
    (he : starEach (e :: es) X.env = (false,eval e X.env) :: starEach es X.env:=by rfl) (hpl : (backTo pos (starEach es X.env)).any (·.1) = false:=by rfl) : PE X (.Call (.Name x p) (e :: es) [] pos) (tCall sp [] E0 t):=by
  obtain ⟨f,fd,F,hb,hk,hm⟩:=D.ex
  intro pins s σ H Q I h
  refine wpAny_Call_Name_kw (vT I hg hm ?_ hdb)
  refine PySem.W.callWith_K (h₀:=X.base) I.ok.mod.kin hk (thn (ha pos pins s σ H _ I h) fun us s1 ⟨vs,H1,I1,r,q⟩=>⟨I1.kIn, ?_⟩) he hpl
  have q : sp (vs ++ []) H1 Q E0:=q
  rw [List.append_nil] at q
  have hl : (us ++ []).length = ps.length:=by rw [List.append_nil,← r.length]; exact F.len _ _ _ _ q
  have hbt:=hb s1 us I1.kIn hl
  rw [List.append_nil] at hbt
  refine wpAny_call (codeAny_mono (F.run X.A X.stack s1 H1 ⟨us,[]⟩ us vs Q E0 (hr.mono hj) I1.env0 hbt r q) fun r s' hq=>?_)
  cases r with
  | error e=>exact False.elim hq
  | ok fl =>
    cases fl with
    | ret u=>exact I1.after hq
    | next=>exact False.elim hq
    | brk=>exact False.elim hq
    | cont=>exact False.elim hq
end
end L2
namespace L2
open PySem PySem.Spec PyProof.Rows PySem.W
section
variable {M : Model} {A : Around} {E : Value → Shared → Prop} {s : Shared} {env : Env} {outer : List Env} {x T L : Addr} {C a0 fl : Value} {d : Option Addr} {base : Heap} {Q : Unit → Shared → Prop}
end
section
variable {X : Cx} {E : XK} {EE : Value → Shared → Prop} {s : Shared} {e : Value} {cs : List Addr}
end
end L2
namespace L2
open PySem PySem.Spec PyProof.Rows PySem.W
section
variable {X : Cx} {E : XK}
end
section
variable {X : Cx} {scope : Scope} {own : List Str} {F : List (Str × Nat)} {elt tg iter : Expr} {ifs : List Expr} {pos : Pos} {wi : TI} {g : TG} {tt : TT} {te : TE} {E : XK}
end
end L2
namespace L2
open PySem PySem.Spec PyProof.Rows PySem.W PySem.Builtin PySem.Builtin.ObjectAttr
structure Xp (K : Frag) (nm : Str) (C B : Addr) : Prop where
  obj : ∃ (N : Addr) (o : Obj),K.lookup C = some o ∧ XObj nm C N (.ref B :: veMro) o ∧ nsOkIn K N = true ∧ nsIn K N "__init__" = some none
  tl : tailIn K veMro (.ref B :: veMro) = true
  kp : keepIn K (.ref C) = true
section
variable {X : Cx} {C B : Addr} {nm : Str}
structure Xr0 (K : Frag) (mg : Str → Option Value) (cn : Str) (C : Addr) : Prop where
  ex : ∃ (nm : Str) (B : Addr),Xp K nm C B ∧ mg cn = some (.ref C)
end
section
variable {prog : Program} {w : World} {A : Around} {K : Frag} {C x : Addr} {ox : Obj} {od : Option Obj} {name : Str} {E : Value → Shared → Prop} {s : Shared}
theorem zMb {tk : Tok} {fill expr : Bool} {Q : Value → Shared → Prop} (G : XGet K C) (hK : K.In s.heap) (I : InstAt s.heap x ox C od)
    (h : wpAny (model prog w) A.in1 (Builtin.«object.__getattribute__» ⟨[.ref x, .str name tk],[]⟩) (fun fin s'=>match fin with | .done (.ret v)=>wpAny (model prog w) A (handedOut v) Q E s' | _=>False) (fun _ _=>False) s) :
    wpAny (model prog w) A (getAttrBy (.ref x) (.str name tk) fill expr) Q E s:=by
  have hb : Looks (model prog w) s.heap (hookBefore (.ref C)) none:=looks_hook hK (by rw [if_pos (by rfl)]; exact G.gt)
  have ht:=I.type (M:=model prog w)
  unfold getAttrBy
  refine wpAny_holding (wpAny_bind (ht _ _ _ _ (fun _ _ e=>e) (wpAny_bind (looks_findIn hK G.ga _ _ _ _ (fun _ _ e=>e) ?_))))
  dsimp only
  rw [show (onTheHeap (Value.ref C) && Value.builtin "BaseException.__getattribute__" == Value.builtin "object.__getattribute__") = false from by rw [show (Value.builtin "BaseException.__getattribute__" == Value.builtin "object.__getattribute__") = false from by decide +kernel,Bool.and_false],if_neg (by decide)]
  unfold getAttrByItsOwn
  refine wpAny_bind (hb _ _ _ _ (fun _ _ e=>e) (wpAny_bind (wpAny_attempt (wpAny_holding ?_))))
  unfold callGetattribute
  rw [show (expr && onTheHeap (Value.builtin "BaseException.__getattribute__")) = false from Bool.and_false _,if_neg (by decide)]
  unfold boundAndCalled
  have FB:=PySem.F.attr_ValueError
  rw [FB.ga.bind]
  refine wpAny_bind (wpAny_pure ?_)
  show wpAny _ _ (call (.builtin "BaseException.__getattribute__") [.ref x, .str name tk]) _ _ _
  refine wpAny_call ?_
  refine codeAny_call_builtin FB.ga.plain PySem.F.entry_bexc_ga ?_
  refine @check_slot (model prog w) _ _ s "BaseException.__getattribute__" "BaseException" "__getattribute__" (.ref x) [.str name tk] [] _ (by decide +kernel) (by decide +kernel) (ht.andThen (looks_mroIn hK G.bx)) (PySem.F.args_bexc_ga (.ref x) (.str name tk)) ?_
  refine wpAny_mono h (fun fin s' z=>?_) fun _ _ z=>z.elim
  rcases fin with (_ | _ | _ | _) | _ <;> first | exact z | exact z.elim
theorem zDt (G : XGet K C) : findObj K C od "__class__" = some (.bind (.builtin "getset_descriptor.__get__") (.builtin "object.__class__")):=by
  obtain ⟨cd,hc,_⟩:=any_some G.hd
  unfold findObj
  rw [hc,Option.bind_some,G.cl,Option.bind_some]
  simp [G.cg,G.ct]
theorem zDu {Q : Option Value → Shared → Prop} (G : XGet K C) (hK : K.In s.heap) (I : InstAt s.heap x ox C od) (h : Q (some (.ref C)) { s with toks:=s.toks + 1 }) :
    wpAny (model prog w) A (getAttr? (.ref x) "__class__") Q E s:=by
  have hf:=zDt (od:=od) G
  unfold getAttr? getAttrBy?
  refine wpAny_bind (wpAny_mkText (wpAny_bind (wpAny_attempt (zMb (s:={ s with toks:=s.toks + 1 }) G hK I ?_))))
  obtain ⟨hh',g,d,t,os⟩:=s
  have L0:=I.type (M:=model prog w)
  have L1:=looks_find (M:=model prog w) hK I hf
  unfold Builtin.«object.__getattribute__»
  refine wpAny_bind (wpAny_pure (wpAny_bind (wpAny_pure (wpAny_bind (L0.at (wpAny_bind (L1.at ?_)))))))
  show wpAny _ _ (holding [Value.builtin "object.__class__"] (call (.builtin "getset_descriptor.__get__") [.builtin "object.__class__", .ref x, .ref C]) >>= ret) _ _ _
  refine wpAny_bind (wpAny_holding (wpAny_call (class_get (s:=⟨hh',g,d,t + 1,os⟩) hK I G.ob ?_)))
  refine wpAny_pure ?_
  show wpAny _ _ (handedOut (.ref C)) _ _ _
  rw [handedOut_of rfl]
  exact wpAny_pure (wpAny_pure h)
theorem zAb (G : XGet K C) : KitX K (.ref x) (.ref C) (fun h=>∃ ox od,InstAt h x ox C od) where
  ty:=fun _ _ _ ⟨_,_,I⟩=>I.type
  it:=fun _ _ X _=>by
    obtain ⟨cdD,hcD,_⟩:=any_some G.hd
    unfold clsIn at hcD
    split at hcD
    · rename_i c' d' cd' sl' ho
      intro A' Q' E' s' k q
      unfold isType loadHead
      exact wpAny_bind (wpAny_loadPart (k _ _ (X _ _ ho)) (wpAny_pure q))
    · cases hcD
  ne:=fun h tp dd its n sl X htp=>by
    obtain ⟨cdD,hcD,_⟩:=any_some G.hd
    refine Bool.eq_false_iff.mpr fun q=>?_
    have e : C = tp:=Value.ref.inj (beq_iff_eq.mp q)
    subst e
    unfold clsIn at hcD
    split at hcD
    · rename_i c' d' cd' sl' ho
      have z:=(X _ _ ho).symm.trans htp
      cases z
    · cases hcD
  ca:=fun X ⟨_,_,I⟩ k=>zDu G X I k
end
section
variable {X : Cx} {pins : List (Addr × Obj)} {σ : St} {H : Hp} {s : Shared} {x C : Addr}
def Caught (H : Hp) (x C : Addr) : Prop:=H x = some (exF x C none) ∨ ∃ d fs,H x = some (exF x C (some d)) ∧ H d = some (.xd fs)
theorem Caught.inst (h : Caught H x C) (I : Inv X pins σ H s) : ∃ ob od,InstAt s.heap x ob C od:=by
  rcases h with h | ⟨d,fs,h,hd⟩
  · obtain ⟨ob,vs,e1,e2,e3,e4⟩:=(I.hok x _ h).1
    refine ⟨ob,none,⟨e1,e2, ?_,by rw [e3]; trivial⟩⟩
    unfold notCls
    rw [e4]
  · obtain ⟨ob,od,J,_⟩:=zIb I h hd
    exact ⟨ob,some od,J⟩
theorem Caught.same {H' : Hp} (h : Caught H x C) (g : ∀ b o,H b = some o → H' b = some o) : Caught H' x C:=by
  rcases h with h | ⟨d,fs,h,hd⟩
  · exact .inl (g _ _ h)
  · exact .inr ⟨d,fs,g _ _ h,g _ _ hd⟩
theorem jM : CallR X (.builtin "isinstance") (fun vs H Q=>∃ x C D b,vs = [.ref x, .ref D] ∧ Caught H x C ∧ XGet X.K C ∧ kitOne X.K (.ref C) (.ref D) = some b ∧ Q (.bl b) H):=by
  intro pins s σ H xs us Q I r h
  obtain ⟨x,C,D,b,rfl,hc,G,hk,q⟩:=h
  obtain ⟨u,w',rfl,ru,rw'⟩:=kR r
  cases (show u = Value.ref x from ru)
  cases (show w' = Value.ref D from rw')
  obtain ⟨ob,od,J⟩:=hc.inst I
  exact kia_one (zAb G) I.kIn ⟨ob,od,J⟩ hk (by intro z; cases z) fun tk=>⟨.bl b,H,I.tok _,rfl,q⟩
theorem zAe : ∀ {Ds : List Addr} {its : List Value},Vals (Ds.map V.ref) its → its = Ds.map Value.ref
  | [],_, .nil=>rfl
  | D :: Ds,_, .cons r t=>by
    cases (show _ = Value.ref D from r)
    rw [zAe t]; rfl
theorem zAs : CallR X (.builtin "isinstance") (fun vs H Q=>∃ (x C p : Addr) (Ds : List Addr) (b : Bool),vs = [.ref x, .ref p] ∧ H p = some (.tup (Ds.map V.ref)) ∧ Caught H x C ∧ XGet X.K C ∧ kitAny X.K (.ref C) (Ds.map Value.ref) = some b ∧ Q (.bl b) H):=by
  intro pins s σ H xs us Q I r h
  obtain ⟨x,C,p,Ds,b,rfl,hp,hc,G,hk,q⟩:=h
  obtain ⟨u,w',rfl,ru,rw'⟩:=kR r
  cases (show u = Value.ref x from ru)
  cases (show w' = Value.ref p from rw')
  obtain ⟨ob,od,J⟩:=hc.inst I
  obtain ⟨_,its,rv,⟨c,dd,da,sl⟩,ho,hcl,n,hda⟩:=I.hok p _ hp
  have e:=zAe rv
  subst e
  dsimp only at hcl hda
  subst hcl hda
  exact kia_tup (zAb G) I.kIn ⟨ob,od,J⟩ ho hk (by intro z; cases z) fun tk=>⟨.bl b,H,I.tok _,rfl,q⟩
end
section
variable {X : Cx}
def isBl (b : Bool) : Value → Bool
  | .bool c=>c == b
  | _=>false
theorem gP : ∀ {bs : List Bool} {its : List Value},Vals (bs.map V.bl) its → its = bs.map Value.bool
  | [],_, .nil=>rfl
  | b :: bs,_, .cons r t=>by
    cases (show _ = Value.bool b from r)
    rw [gP t]; rfl
def rCountB (K : Frag) : V → List V → Hp → VK → Prop:=fun x vs H Q=>∃ (p : Addr) (bs : List Bool) (b : Bool),x = .ref p ∧ vs = [.bl b] ∧ SqL K H p (bs.map V.bl) ∧ Q (.int (bs.count b)) H
theorem zEm : MtR X "list.count" (rCountB X.K):=by
  intro pins s σ H x vs v us Q I rx rv h
  obtain ⟨p,bs,b,rfl,rfl,hq,q⟩:=h
  cases rx
  obtain ⟨u,rfl,rfl⟩ : ∃ u,us = [u] ∧ u = Value.bool b:=rv.one
  obtain ⟨its,r,pl,_⟩:=I.list hq
  have e:=gP r
  subst e
  obtain ⟨⟨cls,dd,data,sl⟩,ho,hc,n,hd⟩:=id pl.isList
  simp only at hc hd
  subst hc hd
  refine call_meets PySem.F.slot_list_count ⟨_,ho,rfl⟩ PySem.F.entry_list_count (PySem.F.args_list_count_2 _ _) (SeqAt.list_countAt p _ n dd sl (.bool b) (isBl b)) ⟨ho,fun y hy=>?_, ?_⟩
  · obtain ⟨c,_,rfl⟩:=List.mem_map.mp (show y ∈ bs.map Value.bool by simpa using hy)
    exact SeqAt.EqAt.bool_bool c b
  · have e : List.countP (isBl b) ((bs.map Value.bool).toArray.toList) = bs.count b:=by
      rw [List.toList_toArray,List.countP_map]; rfl
    rw [e]
    exact ⟨.int (bs.count b),H,I.tok _,⟨_,rfl⟩,q⟩
def rIndexB (K : Frag) : V → List V → Hp → VK → Prop:=fun x vs H Q=>∃ (p : Addr) (bs : List Bool) (b : Bool) (j : Nat),x = .ref p ∧ vs = [.bl b] ∧ SqL K H p (bs.map V.bl) ∧ bs[j]? = some b ∧ (∀ i,i < j → bs[i]? ≠ some b) ∧ j < 1000 ∧ Q (.int j) H
theorem zDm : MtR X "list.index" (rIndexB X.K):=by
  intro pins s σ H x vs v us Q I rx rv h
  obtain ⟨p,bs,b,j,rfl,rfl,hq,hj,hno,hsm,q⟩:=h
  cases rx
  obtain ⟨u,rfl,rfl⟩ : ∃ u,us = [u] ∧ u = Value.bool b:=rv.one
  obtain ⟨its,r,pl,_⟩:=I.list hq
  have e:=gP r
  subst e
  have hjl : j < bs.length:=(List.getElem?_eq_some_iff.mp hj).1
  obtain ⟨⟨cls,dd,data,sl⟩,ho,hc,n,hd⟩:=id pl.isList
  simp only at hc hd
  subst hc hd
  refine call_meets PySem.F.slot_list_index ⟨_,ho,rfl⟩ PySem.F.entry_list_index (PySem.F.args_list_index_2 _ _) (SeqAt.list_indexAt p _ n dd sl (.bool b) (isBl b) j (by simp; omega) (by omega) ?_ ?_) ⟨ho,fun y hy=>?_,⟨.int j,H,I.tok _,⟨_,rfl⟩,q⟩⟩
  · obtain ⟨hj',e⟩:=List.getElem?_eq_some_iff.mp hj
    show isBl b ((bs.map Value.bool).toArray[j]'(by simp; omega)) = true
    simp [isBl,e]
  · intro m hm hlt
    have hm' : m < bs.length:=by simpa using hm
    have:=hno m hlt
    rw [List.getElem?_eq_getElem hm'] at this
    show isBl b ((bs.map Value.bool).toArray[m]) = false
    simp only [List.getElem_toArray,List.getElem_map,isBl]
    exact beq_eq_false_iff_ne.mpr fun e=>this (by rw [e])
  · obtain ⟨c,_,rfl⟩:=List.mem_map.mp (show y ∈ bs.map Value.bool by simpa using hy)
    exact SeqAt.EqAt.bool_bool c b
end
end L2
namespace L2
open PySem PySem.Spec PyProof.Rows
def ItD (lo : Int) (n : Nat) : It:=⟨fun i _=>i < n,fun i H x H'=>H' = H ∧ x = .int (lo - i),fun i _=>n ≤ i⟩
theorem zFx {P : Program} {w : World} {K : PySem.W.Frag} {tg : Expr} (it : Addr) (lo : Int) (n : Nat) : Turn P w K tg (ItD lo n) [it] it (fun i h=>IsRangeIter h it (lo + (i : Nat) * (-1)) ((n : Int) - (i : Nat)) (-1)) where
  mem:=by simp
  obj:=fun i h st b hb=>by
    have e : b = it:=by simpa using hb
    subst e
    exact ⟨_,st,fun v z=>by
      have z' : Data.fields _ = Data.cell v:=z
      cases z'⟩
  keep:=fun i h h' st k=>k it (by simp) _ st
  item:=by
    intro X hP hw hK hc i pins s σ H E I hf st hg
    subst hP hw hK
    obtain ⟨f0,f1,f2,f3,f4,f5⟩:=hf it (by simp)
    have W:=Walks.range (prog:=X.prog) (w:=X.w) (I.ok.hd hc) it lo (-1) n
    refine W.item i s _ _ hg st fun v h' tk hv st' kk=>?_
    obtain ⟨t,rfl⟩:=hv
    have I1 : Inv X pins σ H { s with heap:=h',toks:=tk }:=I.turned (fun b o hb e=>kk b o (by simpa using hb) e) f0 f1 f3 f4 f5
    refine ⟨_,rfl,zBv (s:={ s with heap:=h',toks:=tk }) (n:="range_iterator") st' rfl rfl (by decide) ⟨.int (lo - i),H,I1,⟨t, ?_⟩,⟨rfl,rfl⟩,st',fun b hb=>(hf b hb).1⟩⟩
    have e : lo + ((i : Nat) : Int) * (-1) = lo - i:=by omega
    rw [e]
  done:=by
    intro X hP hw hK hc i pins s σ H E I hf st hg
    subst hP hw hK
    obtain ⟨f0,f1,f2,f3,f4,f5⟩:=hf it (by simp)
    exact wpAny_pyNext_range_end (I.ok.hd hc) st (by have : n ≤ i:=hg; omega) fun h' eb=>⟨rfl,I.turned (t':=s.toks) (fun b o hb e=>eb b o hb e) f0 f1 f3 f4 f5⟩
  self:=fun _ _ _ _ _ st h=>wpAny_pyIter_rangeiter st h
theorem qF (lo : Int) (h : -1 ≤ lo) : Builtin.Range.rangeSize lo (-1) (-1) = lo + 1:=by
  unfold Builtin.Range.rangeSize
  simp
  omega
theorem zEq {lo : Int} (h0 : -1 ≤ lo) (h1 : lo < 1000) : Builtin.Range.small lo (-1) (-1) = true:=by
  unfold Builtin.Range.small
  rw [qF lo h0]
  simp [Builtin.Range.rangeFitsLong]
  omega
section
variable {X : Cx} {tg : Expr}
def iDown (ta : TA) : TI:=fun σ H R=>ta σ H fun vs H1=>∃ i : Int,vs = [.int i, .int (-1), .int (-1)] ∧ -1 ≤ i ∧ i < 1000 ∧ R (ItD i (i + 1).toNat) H1
theorem zFg {a b c : Expr} {ta : TA} {p pos : Pos} (hg : Gl X "range") (hm : X.mg "range" = none) (ha : PA X [a,b,c] ta) (hs : starEach [a,b,c] X.env = [(false,eval a X.env),(false,eval b X.env),(false,eval c X.env)]:=by rfl) (hs2 : starEach [b,c] X.env = [(false,eval b X.env),(false,eval c X.env)]:=by rfl) :
    PI X tg (.Call (.Name "range" p) [a,b,c] [] pos) (iDown ta):=by
  intro pins s σ H R I h
  refine Call_ (kS I hg hm boot_range (PyProof.Rows.callWith_type1 (thn (ha pos pins s σ H _ I h) fun us s1 ⟨vs,H1,I1,r1,q1⟩=>?_) (by rw [hs,hs2]) (by rw [hs2]; rfl)))
  obtain ⟨i,e,h0,h1,q⟩:=q1
  subst e
  cases r1 with
  | cons r rr =>
    cases rr with
    | cons r' rr =>
      cases rr with
      | cons r2 rr =>
        cases rr
        obtain ⟨t,rfl⟩:=r
        obtain ⟨t',rfl⟩:=r'
        obtain ⟨t2,rfl⟩:=r2
        refine call_range_3 (by decide) ?_ (Or.inl (PyProof.noPylong_small (by omega)))
        refine wpAny_pyIter_range (IsRange.new ..) (zEq h0 h1) ?_
        have I2 : Inv X pins σ H1 { s1 with heap:=s1.heap.push { cls:=.type "range",data:=.fields #[.int i t, .int (-1) t', .int (-1) t2] },toks:=s1.toks }:=I1.kept fun b o e=>Heap.get?_push_of_some _ e
        refine ⟨(s1.heap.push { cls:=.type "range",data:=.fields #[.int i t, .int (-1) t', .int (-1) t2] }).objs.size,[(s1.heap.push { cls:=.type "range",data:=.fields #[.int i t, .int (-1) t', .int (-1) t2] }).objs.size],_,_,H1,rfl,
          I2.kept (t':=s1.toks) fun b o e=>Heap.get?_push_of_some _ e,zFx _ i (i + 1).toNat, ?_,fun b hb=>?_,q⟩
        · have e1 : i + ((0 : Nat) : Int) * (-1) = i:=by simp
          have e2 : ((((i + 1).toNat : Nat) : Int)) - ((0 : Nat) : Int) = Builtin.Range.rangeSize i (-1) (-1):=by rw [qF i h0]; omega
          show IsRangeIter _ _ (i + ((0 : Nat) : Int) * (-1)) ((((i + 1).toNat : Nat) : Int) - ((0 : Nat) : Int)) (-1)
          rw [e1,e2]
          exact Heap.get?_push_size _ rfl
        · have e : b = (s1.heap.push { cls:=.type "range",data:=.fields #[.int i t, .int (-1) t', .int (-1) t2] }).objs.size:=by simpa using hb
          subst e
          exact I2.fpOk (Nat.le_refl _) (I2.hok.fresh (Nat.le_refl _))
theorem uJ {lo : Int} {n : Nat} {g : TG} {tb : TS} {D : Ends} {σ : St} {H : Hp} (Pv : Nat → St → Hp → Prop) (h0 : Pv 0 σ H)
    (hs : ∀ i σ H,i < n → Pv i σ H → g (.int (lo - i)) σ H fun σ2 H2=>tb { D with nx:=Pv (i + 1),ct:=Pv (i + 1),bk:=D.nx } σ2 H2) (hd : ∀ σ H,Pv n σ H → D.nx σ H) : ForB g tb D σ (ItD lo n) H:=by
  refine ⟨fun i m σ H=>m = n - i ∧ i ≤ n ∧ Pv i σ H,⟨n,by simp,Nat.zero_le _,h0⟩, ?_⟩
  rintro i m σ H ⟨rfl,hi,p⟩
  by_cases hlt : i < n
  · refine .inr ⟨hlt,Pv (i + 1),fun σ' H' p'=>⟨n - (i + 1),by omega,rfl,hlt,p'⟩,fun x H' y=>?_⟩
    obtain ⟨e,y⟩:=y
    subst e y
    exact hs i σ _ hlt p
  · have e : i = n:=by omega
    subst e
    exact .inl ⟨Nat.le_refl _,hd σ H p⟩
theorem zGw {K : PySem.W.Frag} {x : Str} {F : List (Str × Nat)} {a : Addr} {xs : List V} {tt : TT} {te : TE} {σ : St} {Q : VK} {H1 : Hp} (Pv : Nat → List V → Hp → Prop) (hn : xs.length ≤ sizeLine) (h0 : Pv 0 [] H1) (hz : ∀ i ys H,i ≤ xs.length → Pv i ys H → SqT K H a xs)
    (hs : ∀ i v ys H,xs[i]? = some v → ys.length ≤ i → Pv i ys H → tt (some v :: F.map (fun p=>(σ[p.2]?).join)) H fun b H3=>if b = true then te (some v :: F.map (fun p=>(σ[p.2]?).join)) H3 fun z H4=>Pv (i + 1) (ys ++ [z]) H4 else Pv (i + 1) ys H3)
    (hd : ∀ ys H,ys.length ≤ xs.length → Pv xs.length ys H → ∀ p,H p = none → Q (.ref p) (upd H p (.lst ys))) : CompBody [x] F (gName 0) tt te σ Q (Itt K a) H1 :=
  kH Pv hn h0 (fun i ys H h p=>⟨xs,xs[i],hz i ys H (Nat.le_of_lt h) p,by simp [h]⟩) (fun ys H p=>⟨xs,hz _ ys H (Nat.le_refl _) p,Nat.le_refl _⟩) (fun i ys H y H2 h1 h2 h3 h4=>by
    obtain ⟨rfl,hy⟩:=h4
    exact hs i y ys _ (hy xs (hz i ys _ (Nat.le_of_lt h1) h3)) h2 h3) hd
theorem zDd : CallR X (.type "dict") (fun xs H Q=>∃ p kvs,xs = [.ref p] ∧ H p = some (.dK kvs) ∧ ∀ l,H l = none → Q (.ref l) (upd H l (.dK kvs))):=by
  intro pins s σ H xs us Q I r h
  obtain ⟨p,kvs,rfl,hq,q⟩:=h
  obtain ⟨u,rfl,rx⟩:=wZ r
  cases rx
  obtain ⟨z,hd,vs,rel,dd⟩:=I.hok p _ hq
  have hl:=rel.length
  refine kt_call_dict hd dd (by omega) fun h' dd' hs=>?_
  have hlt : (s.heap.objs.size == sysModules) = false:=by
    have:=I.big
    exact beq_eq_false_iff_ne.mpr (Nat.ne_of_gt this)
  refine ⟨.ref s.heap.objs.size,_,I.laid (t':=s.toks) (h':=h') (fun b o e=>?_) (Nat.le_refl _) (o:=.dK kvs) ⟨z,hlt,vs,rel,dd'⟩,rfl,q _ (I.hok.fresh (Nat.le_refl _))⟩
  have hb : b ≠ s.heap.objs.size:=Nat.ne_of_lt (Heap.lt_size e)
  rw [hs.2 b hb]
  exact Heap.get?_push_of_some _ e
end
theorem FunD.okx {P : Program} {w : World} {K : PySem.W.Frag} {mg : Str → Option Value} {base : Heap} {x qual : Str} {st : Stmt} {f : Addr} {fd : FuncData} {N ps : List Str} {k : Nat} {sp : Sp} (F : FunD K x qual st f fd) (S : FnScope N ps (defScope st)) (len : ∀ vs H Q E,sp vs H Q E → vs.length = ps.length)
    (hbody : ∀ (cdv : Value) (A : Around) (outer : List Env) (s : Shared) (H : Hp) (vs : List V) (Q : VK) (E : XK),Room k (A.deeper (envOfC qual (defScope st) s.heap.objs.size f cdv)) → sp vs H Q E →
      ∃ t,PSs (cxOf (CXE P w) P w K mg base N qual (defScope st) f cdv A outer s H E) (defBody st) t ∧ t { nx:=fun _ H'=>Q .non H',rt:=Q } (start N vs) H) : FnOk P w K mg base (CXE P w) (k + 1) f fd ps sp:=by
  obtain ⟨oc,od,dV,kV,doc,pm,an,cdv,ct,osl,rfl,lk,hcd⟩:=F.ex
  exact zEy lk hcd S len fun A outer s H vs Q E hr hsp=>hbody cdv A outer s H vs Q E hr hsp
structure Ddx (P : Program) (w : World) (K : PySem.W.Frag) (mg : Str → Option Value) (base : Heap) (k : Nat) (x : Str) (ps : List Str) (dvs : List V) (sp : Sp) : Prop where
  ex : ∃ (f : Addr) (fd : FuncData) (ds : List Value),FnOk P w K mg base (CXE P w) k f fd ps sp ∧ Binds K fd ps ds ∧ Vals dvs ds ∧ PySem.W.keepIn K (.ref f) = true ∧ mg x = some (.ref f)
section
variable {X : Cx} {k j : Nat} {x : Str} {ps : List Str} {dvs : List V} {sp : Sp} {e : Expr} {es : List Expr} {t : TA} {p pos : Pos} {E : XK}
theorem zNg (D : Ddx X.prog X.w X.K X.mg X.base k x ps dvs sp) (hr : Room j X.A) (hj : k ≤ j) (hg : Gl X x) (l : Passes (CXE X.prog X.w) X E) (ha : PA X (e :: es) t) (hdb : (x == ("__debug__" : Str)) = false:=by decide)
    (he : starEach (e :: es) X.env = (false,eval e X.env) :: starEach es X.env:=by rfl) (hpl : (backTo pos (starEach es X.env)).any (·.1) = false:=by rfl) : PE X (.Call (.Name x p) (e :: es) [] pos) (tCall sp dvs E t):=by
  obtain ⟨f,fd,ds,h1,h2,hv,h3,h4⟩:=D.ex
  exact kK h1 (hr.mono hj) hg h4 h3 h2 hv l ha hdb he hpl
end
end L2
namespace L2
open PySem PySem.Spec PyProof.Rows
theorem zGd {X : Cx} {s : Stmt} {t1 t2 : TS} (h1 : PS X s t1) (h2 : PS X s t2) : PS X s (fun D σ H=>t1 D σ H ∨ t2 D σ H):=fun pins s σ H D I h=>h.elim (h1 pins s σ H D I) (h2 pins s σ H D I)
theorem Reps.set {H : Hp} {v : V} {t : T} (hv : Rep H v t) : ∀ {xs : List V} {us : List T} (i : Nat),Reps H xs us → Reps H (xs.set i v) (us.set i t)
  | _,[],i,h=>by
    have e : _ = []:=h
    subst e
    exact rfl
  | _,u :: us,0,⟨x,r,e,h1,h2⟩=>by subst e; exact ⟨v,r,rfl,hv,h2⟩
  | _,u :: us,i + 1,⟨x,r,e,h1,h2⟩=>by subst e; exact ⟨x,_,rfl,h1,Reps.set hv i h2⟩
theorem Sps.new {H H' : Hp} {vs : List V} {us : List T} {D : List Addr} (h : Sps H' vs us D) (hD : ∀ b ∈ D,H b = none) : Reps (newH H H') vs us :=
  Sps.rep _ _ _ (Sps.keep _ _ _ (fun b hb o _ e=>by rw [xC (hD b hb)]; exact e) h)
end L2
section
open PySem L2
local macro_rules | `(tactic| walk_at "rd") => `(tactic| simp only [zDk, zHv, gQ, tSeq, tNext, tAsg, gName, tRet, tRetN, tIfS, tDrop, tOp, tUn, tVar, tC, tCall, tCons, tNil, tTest, tB, tAnd, tOr, tNot, tAndV, tOrV, tNotV, tIf, tCB, tBM, tComp, tTrue, tPart, tNoPart, tSl, tChain, tIsN, tNotN, tLst, tTup, zBo, sDPut, tDNewK, tNever, rI0, rI, rU, rEq, rNe, rMulS, rInC, iRng1, iStr, CDiv, CMul, CPow, scal, List.append_nil, List.getElem?_cons_zero, List.getElem?_cons_succ, List.set_cons_zero, List.set_cons_succ, List.map_cons, List.map_nil, List.length_cons, List.length_nil, sizeLine_eq, Nat.reduceAdd, Nat.reduceLeDiff, Option.join_some, Option.join_none, Option.some.injEq, V.int.injEq, V.str.injEq, V.bl.injEq, V.ref.injEq, V.ty.injEq, List.cons.injEq, and_true, true_and, and_self, exists_eq_left', exists_eq_left, exists_and_left, exists_and_right, decide_eq_true_eq, Bool.not_eq_eq_eq_not, Bool.not_true, Bool.not_false, decide_eq_false_iff_not, Int.reduceLT, Int.reduceLE, Int.reduceNeg, Int.reducePow, Int.reduceAdd, Int.reduceSub, Int.reduceMul, Int.reduceToNat, gK, Nat.reduceLT, Nat.reducePow, or_true, true_or, if_true, if_false, Bool.false_eq_true, ite_true, ite_false, reduceCtorEq])
local macro_rules | `(tactic| walk_at "rd2") => `(tactic| simp only [tDisp, tPairs, tBM0, iList, iDict, tThaw, tMaxD, rMaxD, tDGet, rVals, tComp, zDk, zHv, gQ, tSeq, tNext, tAsg, gName, tRet, tRetN, tIfS, tDrop, tOp, tUn, tVar, tC, tCall, tCons, tNil, tTest, tB, tAnd, tOr, tNot, tAndV, tOrV, tNotV, tIf, tCB, tBM, tComp, tTrue, tPart, tNoPart, tSl, tChain, tIsN, tNotN, tLst, tTup, zBo, sDPut, tDNewK, tNever, rI0, rI, rU, rEq, rNe, rMulS, rInC, iRng1, iStr, CDiv, CMul, CPow, scal, List.append_nil, List.getElem?_cons_zero, List.getElem?_cons_succ, List.set_cons_zero, List.set_cons_succ, List.map_cons, List.map_nil, List.length_cons, List.length_nil, sizeLine_eq, Nat.reduceAdd, Nat.reduceLeDiff, Option.join_some, Option.join_none, Option.some.injEq, V.int.injEq, V.str.injEq, V.bl.injEq, V.ref.injEq, V.ty.injEq, List.cons.injEq, and_true, true_and, and_self, exists_eq_left', exists_eq_left, exists_and_left, exists_and_right, decide_eq_true_eq, Bool.not_eq_eq_eq_not, Bool.not_true, Bool.not_false, decide_eq_false_iff_not, Int.reduceLT, Int.reduceLE, Int.reduceNeg, Int.reducePow, Int.reduceAdd, Int.reduceSub, Int.reduceMul, Int.reduceToNat, gK, Nat.reduceLT, Nat.reducePow, or_true, true_or, if_true, if_false, Bool.false_eq_true, ite_true, ite_false, reduceCtorEq])
local macro_rules | `(tactic| walk_at "rd3") => `(tactic| simp only [gTup, gCons, gNil, iZip, tIsT, tDisp, tPairs, tBM0, iList, iDict, tThaw, tMaxD, rMaxD, tDGet, rVals, tComp, zDk, zHv, gQ, tSeq, tNext, tAsg, gName, tRet, tRetN, tIfS, tDrop, tOp, tUn, tVar, tC, tCall, tCons, tNil, tTest, tB, tAnd, tOr, tNot, tAndV, tOrV, tNotV, tIf, tCB, tBM, tComp, tTrue, tPart, tNoPart, tSl, tChain, tIsN, tNotN, tLst, tTup, zBo, sDPut, tDNewK, tNever, rI0, rI, rU, rEq, rNe, rMulS, rInC, iRng1, iStr, CDiv, CMul, CPow, scal, List.append_nil, List.getElem?_cons_zero, List.getElem?_cons_succ, List.set_cons_zero, List.set_cons_succ, List.map_cons, List.map_nil, List.length_cons, List.length_nil, sizeLine_eq, Nat.reduceAdd, Nat.reduceLeDiff, Option.join_some, Option.join_none, Option.some.injEq, V.int.injEq, V.str.injEq, V.bl.injEq, V.ref.injEq, V.ty.injEq, List.cons.injEq, and_true, true_and, and_self, exists_eq_left', exists_eq_left, exists_and_left, exists_and_right, decide_eq_true_eq, Bool.not_eq_eq_eq_not, Bool.not_true, Bool.not_false, decide_eq_false_iff_not, Int.reduceLT, Int.reduceLE, Int.reduceNeg, Int.reducePow, Int.reduceAdd, Int.reduceSub, Int.reduceMul, Int.reduceToNat, gK, Nat.reduceLT, Nat.reducePow, or_true, true_or, if_true, if_false, Bool.false_eq_true, ite_true, ite_false, reduceCtorEq])
namespace K37
open PySem L2
seal L2.PSs L2.PS L2.PE L2.PT L2.PW L2.PA L2.PI L2.PG L2.PGs L2.PPs L2.PTs
def top (i : Nat) : Stmt:=PySem.Challenge.pw_cabinet_k37_changes_beyond.main.body.getD i (.Pass ⟨0,0,0,0⟩)
abbrev sCell : Stmt:=top 39
abbrev sNum : Stmt:=top 43
def spCell (K : PySem.W.Frag) : Sp:=fun vs H Q _=>∃ (a : Addr) (ns : List Int) (k : Int),vs = [.ref a, .int k] ∧ SqL K H a (ns.map V.int) ∧ ns.length ≤ 63 ∧ 0 ≤ k ∧ k < 1000000 ∧ ∀ H',Same H H' → Q (.int (cellF ns k)) H'
theorem yM {K : PySem.W.Frag} {H : Hp} {Q : VK} {E : XK} {a : Addr} {ns : List Int} {k : Int} (hS : SqL K H a (ns.map V.int)) (h63 : ns.length ≤ 63) (h0 : 0 ≤ k) (h1 : k < 1000000) (q : ∀ H',Same H H' → Q (.int (cellF ns k)) H') :
    spCell K [.ref a, .int k] H Q E:=⟨a,ns,k,rfl,hS,h63,h0,h1,q⟩
section
variable {P : Program} {w : World} {K : PySem.W.Frag} {mg : Str → Option Value} {base : Heap} {f : Addr} {fd : FuncData}
theorem scCell : FnScope ["_law_script","_law_k","_law_more"] ["_law_script","_law_k"] (defScope sCell):=⟨rfl,rfl,rfl,by decide +kernel,rfl,by decide +kernel,by decide +kernel⟩
theorem zLi (F : Fun K "_law_cell" "_law_cell" sCell f fd) (B : Bl mg) : FnOk P w K mg base CX0 1 f fd ["_law_script","_law_k"] (spCell K):=by
  refine F.ok scCell (fun vs H Q E h=>?_) (fun cdv A outer s H vs Q E hr h=>?_)
  · obtain ⟨a,ns,k,rfl,_⟩:=h
    rfl
  obtain ⟨a,ns,k,rfl,hS,h63,h0,h1,q⟩:=h
  have nd:=scCell.nd
  have hu0:=hr.units0
  refine ⟨_,(zF (zO (i:=2) nd rfl (Or.inl rfl) (zH xZ (pv 1) zE))
    (zF (zW (zS (zKr hu0) (pv 0) (yB zB) (zT _)) (zF (zO (i:=2) nd rfl (Or.inl rfl) (zH yA (pv 2) (zH xZ (zH zU (pv 1) (zJ yF rfl B.len yS (zA (pv 0) zB))) zE)))
    (zG (zO (i:=2) nd rfl (Or.inl rfl) (zH zP (zH yA (pv 2) (zH xZ (yH ix_list (pv 0) (zH zP (pv 1) (zJ yF rfl B.len yS (zA (pv 0) zB))) (fun _ _=>rfl)) zE)) zE)))) zK)
    (zG (zL (zH zP (zH yA (zH zU (zH xZ (pv 2) (pv 2)) zE) (zH xZ zE (pv 2))) zE))))), ?_⟩
  rw [show start ["_law_script","_law_k","_law_more"] [.ref a, .int k] = [some (.ref a),some (.int k),none] from rfl]
  walk_at "rd"
  intro p hp
  have hS':=(zD hp (.lst [])).seq hS
  refine zNu hS' (SqL.of zC) (zGf ns) rfl ⟨_,rfl, ?_⟩
  rw [zIm]
  by_cases hn : ns = []
  · subst hn
    refine zGb ⟨.inl (by omega), ?_⟩
    exact q _ (zD hp _)
  · have hpos : 0 < ns.length:=List.length_pos_iff.mpr hn
    have e1 : (ns.map V.int).isEmpty = false:=by cases ns with | nil=>exact absurd rfl hn | cons _ _=>rfl
    rw [if_pos rfl,e1]
    have hl : (ns.map V.int).length = ns.length:=List.length_map _
    have hm0 : 0 ≤ k % (ns.length : Int):=Int.emod_nonneg _ (by omega)
    have hm1 : k % (ns.length : Int) < ns.length:=Int.emod_lt_of_pos _ (by omega)
    refine iteT ⟨ns.map V.int,hS',by rw [hl]; omega,ns.map V.int,hS',by rw [hl]; omega, ?_⟩
    rw [hl]
    refine yG hS' (wQ (d:=.int 0) hm0 (by rw [hl]; exact hm1)) ⟨ns.getD (k % ns.length).toNat 0, ?_, .inl ?_, ?_⟩
    · simp [List.getD,List.getElem?_map]
    · generalize (k * 7919 + k / ns.length * 104729 + ns.getD (k % ns.length).toNat 0 * 48271) = z
      omega
    · have e : cellF ns k = _:=rfl
      have e2 : cellF ns k = (((k * 7919 + k / ns.length * 104729 + ns.getD (k % ns.length).toNat 0 * 48271) % 1000003 * ((k * 7919 + k / ns.length * 104729 + ns.getD (k % ns.length).toNat 0 * 48271) % 1000003) / 11 + 13 * ((k * 7919 + k / ns.length * 104729 + ns.getD (k % ns.length).toNat 0 * 48271) % 1000003)) % 1000003):=by
        unfold cellF; rw [if_neg hn]
      rw [← e2]
      exact q _ (zD hp _)
def spNum : Sp:=fun vs H Q _=>∃ (m : Int),vs = [.int m] ∧ 0 ≤ m ∧ m < 2000000 ∧ ∀ H',Same H H' → Q (.int (numF m)) H'
theorem scNum : FnScope ["_law_more"] ["_law_more"] (defScope sNum):=⟨rfl,rfl,rfl,by decide +kernel,rfl,by decide +kernel,by decide +kernel⟩
theorem zMv (F : Fun K "_law_number_by" "_law_number_by" sNum f fd) : FnOk P w K mg base CX0 1 f fd ["_law_more"] spNum:=by
  refine F.ok scNum (fun vs H Q E h=>?_) (fun cdv A outer s H vs Q E hr h=>?_)
  · obtain ⟨m,rfl,_⟩:=h
    rfl
  obtain ⟨m,rfl,h0,h1,q⟩:=h
  have nd:=scNum.nd
  refine ⟨_,(zF (zW (zS yK (zH zP (pv 0) zE) zE (zT _)) (zG (zL (zH xO (zH zP (zH zU (pv 0) zE) zE) zE))) zK)
    (zF (zW (zS yK (zH zP (pv 0) zE) zE (zT _)) (zG (zL (zH xO (zH zP (zH qZ (pv 0) zE) (zH yA (zH xZ zE (zH qZ zE zE)) zE)) (zH qZ zE zE)))) zK)
    (zG (zL (yH ix_list (yB (zA (zH qZ zE zE) (zA (wJ xH (zH qZ zE zE)) (zA (zH xO (zH qZ zE zE) zE) (zA zE (zA zE (zA (wJ xH zE) (zA (zH qZ zE zE) (zA zE zB))))))))) (zH zP (zH zU (pv 0) zE) zE) (fun _ _=>rfl)))))), ?_⟩
  rw [show start ["_law_more"] [.int m] = [some (.int m)] from rfl]
  walk_at "rd"
  unfold numF at q
  split
  · rename_i hc
    rw [if_pos hc] at q
    exact q _ (Same.refl H)
  · rename_i hc
    rw [if_neg hc] at q
    split
    · rename_i hd
      rw [if_pos hd] at q
      exact ⟨by omega,q _ (Same.refl H)⟩
    · rename_i hd
      rw [if_neg hd] at q
      intro p hp
      refine yG (SqL.of zC) (wQ (d:=.int 0) (by omega) (by simp only [List.length_cons,List.length_nil]; omega)) ?_
      have e : ([V.int 1000000000000,V.int (-1000000000000),V.int 999999999999,V.int 0,V.int 1,V.int (-1),V.int 100000000000,V.int 999] : List V).getD (m / 3 % 8).toNat (.int 0) = .int (([1000000000000, -1000000000000,999999999999,0,1, -1,100000000000,999] : List Int).getD (m / 3 % 8).toNat 0):=by
        rcases (by omega : m / 3 % 8 = 0 ∨ m / 3 % 8 = 1 ∨ m / 3 % 8 = 2 ∨ m / 3 % 8 = 3 ∨ m / 3 % 8 = 4 ∨ m / 3 % 8 = 5 ∨ m / 3 % 8 = 6 ∨ m / 3 % 8 = 7) with e | e | e | e | e | e | e | e <;> rw [e] <;> rfl
      rw [e]
      exact q _ (zD hp _)
end
section
variable {P : Program} {w : World} {K : PySem.W.Frag} {mg : Str → Option Value} {base : Heap} {f : Addr} {fd : FuncData}
abbrev sName : Stmt:=top 40
def spName : Sp:=fun vs H Q _=>∃ (m : Int),vs = [.int m] ∧ 0 ≤ m ∧ m < 2000000 ∧ ∀ H',Same H H' → Q (.str (tx (nameF m))) H'
theorem scName : FnScope ["_law_more","_law_letters","_law_size","_law_at","_law_word_here","_law_rest"] ["_law_more"] (defScope sName):=⟨rfl,rfl,rfl,by decide +kernel,rfl,by decide +kernel,by decide +kernel⟩
theorem zMa (F : Fun K "_law_name_by" "_law_name_by" sName f fd) (B : Bl mg) : FnOk P w K mg base CX0 1 f fd ["_law_more"] spName:=by
  refine F.ok scName (fun vs H Q E h=>?_) (fun cdv A outer s H vs Q E hr h=>?_)
  · obtain ⟨m,rfl,_⟩:=h
    rfl
  obtain ⟨m,rfl,h0,h1,q⟩:=h
  have nd:=scName.nd
  refine ⟨_,(zF (zO (i:=1) nd rfl (Or.inr rfl) zX)
    (zF (zO (i:=2) nd rfl (Or.inl rfl) (yH ix_list (yB (zA zE (zA (zH yA zE (zH zP (zH zU (pv 0) zE) zE)) (zA (zH yA zE (zH zP (zH zU (pv 0) zE) zE)) zB)))) (zH zP (pv 0) zE) (fun _ _=>rfl)))
    (zF (zW (zS yK (zH zP (zH zU (pv 0) zE) zE) zE (zT _)) (zF (zO (i:=3) nd rfl (Or.inl rfl) (zH zP (zH zU (pv 0) zE) (pv 2)))
    (zF (zO (i:=4) nd rfl (Or.inl rfl) (zH xP (zH xP (zH wN zX (pv 3)) (yH qX (pv 1) (zH zP (zH zU (pv 0) zE) zE) (fun _ _=>rfl))) (zH wN zX (zH xO (zH xO (pv 2) (pv 3)) zE))))
    (zG (zL (pv 4))))) zK)
    (zF (zO (i:=5) nd rfl (Or.inl rfl) (jR PySem.F.plainAttrs_str PySem.F.slot_str_join PySem.F.type_str_join zFu zX (zA (yW (own:=["_law_j"]) (F:=[("_law_letters",1),("_law_more",0)]) ⟨rfl,by with_unfolding_all rfl,by with_unfolding_all rfl,by with_unfolding_all rfl,(.cons rfl rfl rfl (.cons rfl rfl rfl .nil))⟩ rfl (yJ rfl B.range (zA (zH xO (pv 2) zE) zB)) (fun _ _ _ _=>yC (i:=0) (by show (compN ["_law_j"] [("_law_letters",1),("_law_more",0)]).Nodup; decide +kernel) rfl (Or.inl rfl)) (fun _ _ _ _=>yR) (fun _ _ _ _=>(yH qX (pv 1) (zH zP (zH yA (zH zU (pv 2) zE) (zH xZ (pv 0) (zH yA zE (zH zP (zH zU (pv 2) zE) zE)))) zE) (fun _ _=>rfl)))) zB)))
    (zG (zL (zH xP (yH qX (pv 1) (zH zP (zH zU (pv 0) zE) zE) (fun _ _=>rfl)) (pv 5)))))))), ?_⟩
  rw [show start ["_law_more","_law_letters","_law_size","_law_at","_law_word_here","_law_rest"] [.int m] = [some (.int m),none,none,none,none,none] from rfl]
  walk_at "rd"
  intro p hp
  obtain ⟨n1,n12⟩:=zEw m
  refine yG (SqL.of zC) (zKn m) ?_
  simp only [ts_a,kL,zJb]
  unfold nameF at q
  generalize sizF m = n at *
  split
  · rename_i hc
    rw [if_pos hc] at q
    have a0:=Int.emod_nonneg (m / 72) (show n ≠ 0 by omega)
    have a1:=Int.emod_lt_of_pos (m / 72) (show 0 < n by omega)
    refine ⟨n,rfl,by omega,by decide,by omega,by omega,jT (by decide) (by rw [zEn]; exact zBr (by omega) (by omega)) ⟨_,rfl, ?_,n,rfl,by decide,by omega,by omega, ?_, ?_⟩⟩
    · rw [xX,xX]; simp only [List.length_replicate,List.length_singleton]; omega
    · rw [jX,xX,xX]; simp only [List.length_append,List.length_replicate,List.length_singleton]; omega
    · rw [jX,jX]
      exact q _ (zD hp _)
  · rename_i hc
    rw [if_neg hc] at q
    refine ⟨rfl,n,rfl,by omega,by omega,xG (fun i ys H'=>Same (upd H p (.lst [V.int 1,V.int (1 + m / 3 % 4),V.int (1 + m / 3 % 12)])) H' ∧ ys = ((restF m i).map fun c=>tx [c]).map V.str) (by rw [sizeLine_eq]; omega) ⟨Same.refl _,rfl⟩ ?_ ?_⟩
    · rintro i ys H' hi _ ⟨hs,rfl⟩
      walk_at "rd"
      refine ⟨.inl (by omega),jT (by decide) (by rw [zEn]; exact zBr (by omega) (by omega)) ⟨hs, ?_⟩⟩
      unfold restF
      rw [qY]
      simp
    · rintro ys H' hl ⟨hs,rfl⟩ p' hp'
      have hrl : (restF m (n - 1).toNat).length = (n - 1).toNat:=by simp [restF]
      refine ⟨p',(restF m (n - 1).toNat).map fun c=>tx [c],rfl,rfl,SqL.of zC,by rw [vX]; omega,jT (by decide) (by rw [zEn]; exact zBr (by omega) (by omega)) ⟨_,rfl,_,rfl, ?_, ?_⟩⟩
      · rw [vX,xX,xX,List.length_singleton]; omega
      · rw [vX,jX]
        exact q _ ((zD hp _).trans (hs.trans (zD hp' _)))
end
end K37
namespace K37
open PySem L2
seal L2.PSs L2.PS L2.PE L2.PT L2.PW L2.PA L2.PI L2.PG L2.PGs L2.PPs L2.PTs
abbrev sSigns : Stmt:=top 41
abbrev sText : Stmt:=top 42
section
variable {P : Program} {w : World} {K : PySem.W.Frag} {mg : Str → Option Value} {base : Heap} {f : Addr} {fd : FuncData}
def spSigns : Sp:=fun vs H Q _=>vs = [] ∧ Q (.str (tx sgnL)) H
theorem scSigns : FnScope ["_law_some"] [] (defScope sSigns):=⟨rfl,rfl,rfl,by decide +kernel,rfl,by decide +kernel,by decide +kernel⟩
theorem zJv (F : Fun K "_law_signs" "_law_signs" sSigns f fd) : FnOk P w K mg base CX0 1 f fd [] spSigns:=by
  refine F.ok scSigns (fun vs H Q E h=>?_) (fun cdv A outer s H vs Q E hr h=>?_)
  · obtain ⟨rfl,_⟩:=h
    rfl
  obtain ⟨rfl,q⟩:=h
  have nd:=scSigns.nd
  refine ⟨_,(zF (zO (i:=0) nd rfl (Or.inl rfl) zX)
    (zG (zL (zH xP (pv 0) zX)))), ?_⟩
  rw [show start ["_law_some"] [] = [none] from rfl]
  walk_at "rd"
  refine ⟨by decide, ?_⟩
  rw [zNi]; exact q
def spText : Sp:=fun vs H Q _=>∃ (m : Int),vs = [.int m] ∧ 0 ≤ m ∧ m < 2000000 ∧ ∀ H',Same H H' → Q (.str (tx (textF m))) H'
theorem scText : FnScope ["_law_more","_law_signs_here","_law_size"] ["_law_more"] (defScope sText):=⟨rfl,rfl,rfl,by decide +kernel,rfl,by decide +kernel,by decide +kernel⟩
theorem zLf (F : Fun K "_law_text_by" "_law_text_by" sText f fd) (B : Bl mg) (G_law_signs : Dn P w K mg base 1 "_law_signs" [] spSigns) : FnOk P w K mg base CX0 2 f fd ["_law_more"] spText:=by
  refine F.ok scText (fun vs H Q E h=>?_) (fun cdv A outer s H vs Q E hr h=>?_)
  · obtain ⟨m,rfl,_⟩:=h
    rfl
  obtain ⟨m,rfl,h0,h1,q⟩:=h
  have nd:=scText.nd
  refine ⟨_,(zF (zO (i:=1) nd rfl (Or.inr rfl) (zMw G_law_signs hr (by omega) rfl))
    (zF (zO (i:=2) nd rfl (Or.inl rfl) (yH ix_list (yB (zA (zH zP (zH zU (pv 0) zE) zE) (zA (zH zP (zH zU (pv 0) zE) zE) (zA (zH zP (zH zU (pv 0) zE) zE) zB)))) (zH zP (pv 0) zE) (fun _ _=>rfl)))
    (zF (zW (zS yK (zH zP (zH zU (pv 0) zE) zE) zE (zT _)) (zG (zL (zH xP (zH wN zX (zH zU (pv 2) zE)) (zH wN (yH qX (pv 1) (zH zP (zH zU (pv 0) zE) zE) (fun _ _=>rfl)) (zH xO (pv 2) (zH zU (pv 2) zE)))))) zK)
    (zG (zL (jR PySem.F.plainAttrs_str PySem.F.slot_str_join PySem.F.type_str_join zFu zX (zA (yW (own:=["_law_j"]) (F:=[("_law_signs_here",1),("_law_more",0)]) ⟨rfl,by with_unfolding_all rfl,by with_unfolding_all rfl,by with_unfolding_all rfl,(.cons rfl rfl rfl (.cons rfl rfl rfl .nil))⟩ rfl (yJ rfl B.range (zA (pv 2) zB)) (fun _ _ _ _=>yC (i:=0) (by show (compN ["_law_j"] [("_law_signs_here",1),("_law_more",0)]).Nodup; decide +kernel) rfl (Or.inl rfl)) (fun _ _ _ _=>yR) (fun _ _ _ _=>(yH qX (pv 1) (zH zP (zH yA (zH zU (pv 2) zE) (zH xZ (pv 0) (zH yA zE (zH zP (zH zU (pv 2) zE) zE)))) zE) (fun _ _=>rfl)))) zB))))))), ?_⟩
  rw [show start ["_law_more","_law_signs_here","_law_size"] [.int m] = [some (.int m),none,none] from rfl]
  walk_at "rd"
  refine ⟨rfl,fun p hp=>?_⟩
  obtain ⟨n0,n30⟩:=zFe m
  refine yG (SqL.of zC) (zLt m) ?_
  simp only [ts_q,kL,zJb]
  unfold textF at q
  generalize lenF m = n at *
  split
  · rename_i hc
    rw [if_pos hc] at q
    refine ⟨n,rfl,by decide,by omega,by omega,jT (by decide) (zIo (by omega) (by omega)) ⟨n,rfl,n,rfl,_,rfl,(show (1 : Nat) ≤ 1000 by decide),by omega,by omega, ?_, ?_⟩⟩
    · rw [wT,kL,xX,xX]; simp only [List.length_replicate]; omega
    · rw [wT,kL,jX]
      exact q _ (zD hp _)
  · rename_i hc
    rw [if_neg hc] at q
    refine ⟨rfl,n,rfl,by omega,by omega,xG (fun i ys H'=>Same (upd H p (.lst [V.int (m / 5 % 4),V.int (m / 5 % 9),V.int (m / 5 % 31)])) H' ∧ ys = ((runF m i).map fun c=>tx [c]).map V.str) (by rw [sizeLine_eq]; omega) ⟨Same.refl _,rfl⟩ ?_ ?_⟩
    · rintro i ys H' hi _ ⟨hs,rfl⟩
      walk_at "rd"
      refine ⟨.inl (by omega),jT (by decide) (zIo (by omega) (by omega)) ⟨hs, ?_⟩⟩
      unfold runF
      rw [qY]
      simp
    · rintro ys H' hl ⟨hs,rfl⟩ p' hp'
      have hrl : (runF m n.toNat).length = n.toNat:=by simp [runF]
      refine ⟨p',(runF m n.toNat).map fun c=>tx [c],rfl,rfl,SqL.of zC,by rw [vX]; omega, ?_⟩
      rw [vX]
      exact q _ ((zD hp _).trans (hs.trans (zD hp' _)))
end
end K37
namespace K37
open PySem L2
seal L2.PSs L2.PS L2.PE L2.PT L2.PW L2.PA L2.PI L2.PG L2.PGs L2.PPs L2.PTs
abbrev sThing : Stmt:=top 44
def spThing (K : PySem.W.Frag) (d : Nat) : Sp:=fun vs H Q _=>∃ (a : Addr) (ns : List Int) (k : Int),vs = [.ref a, .int k, .int d] ∧ SqL K H a (ns.map V.int) ∧ ns.length ≤ 63 ∧ 0 ≤ k ∧ (k + 2) * 5 ^ d ≤ 1000000 ∧
  ∀ v H',Same H H' → Rep H' v (thT ns d k) → Q v H'
section
variable {P : Program} {w : World} {K : PySem.W.Frag} {mg : Str → Option Value} {base : Heap} {f : Addr} {fd : FuncData}
theorem scThing : FnScope ["_law_script","_law_k","_law_deep_here","_law_more","_law_kind","_law_some","_law_found","_law_j"] ["_law_script","_law_k","_law_deep_here"] (defScope sThing):=⟨rfl,rfl,rfl,by decide +kernel,rfl,by decide +kernel,by decide +kernel⟩
def DInv (nm : Nat → List Nat) (us : List T) (Hl : Hp) (p2 : Addr) (i : Nat) (H2 : Hp) : Prop:=∃ (ps : List (Key × V)),H2 p2 = some (.dK ps) ∧ ps.map (·.1) = (dicG nm us i).1.map nK ∧ Reps Hl (ps.map (·.2)) (dicG nm us i).2
theorem pow5 (e : Nat) : (1 : Int) ≤ 5 ^ e:=by
  induction e with
  | zero=>decide
  | succ n ih=>rw [Int.pow_succ]; omega
theorem zGl (F : Fun K "_law_thing_by" "_law_thing_by" sThing f fd) (B : Bl mg) (G_law_cell : Dn P w K mg base 1 "_law_cell" ["_law_script","_law_k"] (spCell K)) (G_law_number_by : Dn P w K mg base 1 "_law_number_by" ["_law_more"] spNum)
    (G_law_text_by : Dn P w K mg base 2 "_law_text_by" ["_law_more"] spText) : FnOk P w K mg base CX0 3 f fd ["_law_script","_law_k","_law_deep_here"] (spThing K 0):=by
  refine F.ok scThing (fun vs H Q E h=>?_) (fun cdv A outer s H vs Q E hr h=>?_)
  · obtain ⟨a,ns,k,rfl,_⟩:=h
    rfl
  obtain ⟨a,ns,k,rfl,hS,h63,h0,h1,q⟩:=h
  have nd:=scThing.nd
  refine ⟨_,(zF (zO (i:=3) nd rfl (Or.inl rfl) (zV G_law_cell hr (by omega) rfl (zA (pv 0) (zA (pv 1) zB))))
    (zF (zO (i:=4) nd rfl (Or.inl rfl) (zH zP (pv 3) (yH ix_list (yB (zA zE (zA zE zB))) (yE vF rfl B.int qE (zA (xE zCj (pv 2) zE (zT _)) zB)) (fun _ _=>rfl))))
    (zF (zW (zS yK (pv 4) zE (zT _)) (zG (zL (yH ix_list (yB (zA qV (zA vU (zA vU zB)))) (zH zP (zH zU (pv 3) zE) zE) (fun _ _=>rfl)))) zK)
    (zF (zW (zS kC (pv 4) zE (zT _)) (zG (zL (zV G_law_number_by hr (by omega) rfl (zA (zH zU (pv 3) zE) zB)))) zK)
    (zF (zW (zS kC (pv 4) zE (zT _)) (zG (zL (zV G_law_text_by hr (by omega) rfl (zA (zH zU (pv 3) zE) zB)))) zK)
    zGt))))), ?_⟩
  rw [show start ["_law_script","_law_k","_law_deep_here","_law_more","_law_kind","_law_some","_law_found","_law_j"] [.ref a, .int k, .int ((0 : Nat) : Int)] = [some (.ref a),some (.int k),some (.int ((0 : Nat) : Int)),none,none,none,none,none] from rfl]
  walk_at "rd"
  refine yM hS h63 h0 (by omega) fun H1 g1 p hp=>yG (SqL.of zC) (v:=.int 5) rfl ⟨_,rfl,5,rfl,by decide, ?_⟩
  have c0:=xW ns k
  have c1:=wP ns k
  have gp:=g1.trans (zD hp (.lst [V.int 5,V.int 9]))
  split
  · intro p2 hp2
    refine ⟨_,rfl, ?_⟩
    rename_i hc
    obtain ⟨v,hv,hr'⟩:=zCm (H:=upd (upd H1 p (.lst [V.int 5,V.int 9])) p2 (.lst [V.non,V.bl true,V.bl false])) (cellF ns k)
    refine yG (SqL.of zC) hv (q _ _ (gp.trans (zD hp2 _)) ?_)
    show Rep _ v (leafF (cellF ns k) (cellF ns k % 5))
    rw [hc]; exact hr'
  · split
    · rename_i n0 hc
      refine ⟨_,rfl,_,rfl,by omega,by omega,fun H2 g2=>q _ _ (gp.trans g2) ?_⟩
      show Rep _ _ (leafF (cellF ns k) (cellF ns k % 5))
      unfold leafF
      rw [if_neg n0,if_pos hc]; rfl
    · rename_i n0 n1
      rw [if_pos (by omega)]
      refine ⟨_,rfl,_,rfl,by omega,by omega,fun H2 g2=>q _ _ (gp.trans g2) ?_⟩
      show Rep _ _ (leafF (cellF ns k) (cellF ns k % 5))
      unfold leafF
      rw [if_neg n0,if_neg n1]; rfl
theorem zGa {e : Nat} (F : Fun K "_law_thing_by" "_law_thing_by" sThing f fd) (B : Bl mg) (G_law_cell : Dn P w K mg base 1 "_law_cell" ["_law_script","_law_k"] (spCell K)) (G_law_number_by : Dn P w K mg base 1 "_law_number_by" ["_law_more"] spNum)
    (G_law_text_by : Dn P w K mg base 2 "_law_text_by" ["_law_more"] spText) (G_law_name_by : Dn P w K mg base 1 "_law_name_by" ["_law_more"] spName)
    (G_law_thing_by : Dn P w K mg base (3 + e) "_law_thing_by" ["_law_script","_law_k","_law_deep_here"] (spThing K e)) : FnOk P w K mg base CX0 (3 + e + 1) f fd ["_law_script","_law_k","_law_deep_here"] (spThing K (e + 1)):=by
  refine F.ok scThing (fun vs H Q E h=>?_) (fun cdv A outer s H vs Q E hr h=>?_)
  · obtain ⟨a,ns,k,rfl,_⟩:=h
    rfl
  obtain ⟨a,ns,k,rfl,hS,h63,h0,h1,q⟩:=h
  have nd:=scThing.nd
  have hu:=wK hr
  refine ⟨_,(zF (zO (i:=3) nd rfl (Or.inl rfl) (zV G_law_cell hr (by omega) rfl (zA (pv 0) (zA (pv 1) zB))))
    (zF (zO (i:=4) nd rfl (Or.inl rfl) (zH zP (pv 3) (yH ix_list (yB (zA zE (zA zE zB))) (yE vF rfl B.int qE (zA (xE zCj (pv 2) zE (zT _)) zB)) (fun _ _=>rfl))))
    (zF (zW (zS yK (pv 4) zE (zT _)) (zG (zL (yH ix_list (yB (zA qV (zA vU (zA vU zB)))) (zH zP (zH zU (pv 3) zE) zE) (fun _ _=>rfl)))) zK)
    (zF (zW (zS kC (pv 4) zE (zT _)) (zG (zL (zV G_law_number_by hr (by omega) rfl (zA (zH zU (pv 3) zE) zB)))) zK)
    (zF (zW (zS kC (pv 4) zE (zT _)) (zG (zL (zV G_law_text_by hr (by omega) rfl (zA (zH zU (pv 3) zE) zB)))) zK)
    (zF (zEt (i:=5) nd rfl (Or.inl rfl) (own:=["_law_j"]) (F:=[("_law_script",0),("_law_k",1),("_law_deep_here",2)]) ⟨rfl,by with_unfolding_all rfl,by with_unfolding_all rfl,by with_unfolding_all rfl,(.cons rfl rfl rfl (.cons rfl rfl rfl (.cons rfl rfl rfl .nil)))⟩ rfl (yJ rfl B.range (zA (zH zP (zH zU (pv 3) zE) zE) zB)) (fun _ _ _ _=>yC (i:=0) (by show (compN ["_law_j"] [("_law_script",0),("_law_k",1),("_law_deep_here",2)]).Nodup; decide +kernel) rfl (Or.inl rfl)) (fun _ _ _ _=>yR) (fun _ _ _ _=>(zV G_law_thing_by hr (by omega) rfl (zA (pv 1) (zA (zH yA (zH yA (zH xZ (pv 2) zE) zE) (pv 0)) (zA (zH xO (pv 3) zE) zB))))))
    (zF (zW (zS kC (pv 4) zE (zT _)) (zG (zL (pv 5))) zK)
    (zF (zO (i:=6) nd rfl (Or.inl rfl) gG)
    (zF (wH PassesOwn.never rfl (yJ rfl B.range (zA (zJ yF rfl B.len yS (zA (pv 5) zB)) zB)) (yC (i:=7) nd rfl (Or.inl rfl)) (zG (vQ hu (pv 6) (zV G_law_name_by hr (by omega) rfl (zA (zH yA (zH zU (zV G_law_cell hr (by omega) rfl (zA (pv 0) (zA (zH yA (zH yA (zH xZ (pv 1) zE) zE) (pv 7)) zB))) zE) (pv 7)) zB)) (yH ix_list (pv 5) (pv 7) (fun _ _=>rfl)) rfl)))
    (zG (zL (pv 6)))))))))))), ?_⟩
  rw [show start ["_law_script","_law_k","_law_deep_here","_law_more","_law_kind","_law_some","_law_found","_law_j"] [.ref a, .int k, .int ((e + 1 : Nat) : Int)] = [some (.ref a),some (.int k),some (.int ((e + 1 : Nat) : Int)),none,none,none,none,none] from rfl]
  walk_at "rd"
  have hpow : (1 : Int) ≤ 5 ^ e:=pow5 e
  have hpow2 : (5 : Int) ^ (e + 1) = 5 ^ e * 5:=Int.pow_succ ..
  have h2 : (k + 2) * 5 * 5 ^ e ≤ 1000000:=by rw [Int.mul_assoc,Int.mul_comm 5 (5 ^ e),← hpow2]; exact h1
  have h3 : (k + 2) * 5 ≤ 1000000:=by
    have : (k + 2) * 5 * 1 ≤ (k + 2) * 5 * 5 ^ e:=Int.mul_le_mul_of_nonneg_left hpow (by omega)
    omega
  refine yM hS h63 h0 (by omega) fun H1 g1 p hp=>yG (SqL.of zC) (v:=.int 9) ?_ ⟨_,rfl,9,rfl,by decide, ?_⟩
  · rw [if_pos (by omega)]; rfl
  have c0:=xW ns k
  have c1:=wP ns k
  have gp:=g1.trans (zD hp (.lst [V.int 5,V.int 9]))
  split
  · intro p2 hp2
    refine ⟨_,rfl, ?_⟩
    rename_i hc
    obtain ⟨v,hv,hr'⟩:=zCm (H:=upd (upd H1 p (.lst [V.int 5,V.int 9])) p2 (.lst [V.non,V.bl true,V.bl false])) (cellF ns k)
    refine yG (SqL.of zC) hv (q _ _ (gp.trans (zD hp2 _)) ?_)
    unfold thT
    rw [if_pos (by omega),hc]; exact hr'
  · split
    · rename_i n0 hc
      refine ⟨_,rfl,_,rfl,by omega,by omega,fun H2 g2=>q _ _ (gp.trans g2) ?_⟩
      unfold thT leafF
      rw [if_pos (by omega),if_neg n0,if_pos hc]; rfl
    · split
      · rename_i n0 n1 hc
        refine ⟨_,rfl,_,rfl,by omega,by omega,fun H2 g2=>q _ _ (gp.trans g2) ?_⟩
        unfold thT leafF
        rw [if_pos hc,if_neg n0,if_neg n1]; rfl
      · rename_i n0 n1 n5
        unfold thT at q
        rw [if_neg n5] at q
        have hnn : (cellF ns k / 9 % 5).toNat ≤ 4:=by omega
        refine ⟨_,rfl,by omega,by omega,xG (fun i ys H'=>Same (upd H1 p (.lst [V.int 5,V.int 9])) H' ∧ Reps H' ys ((List.range i).map fun (j : Nat)=>thT ns e (k * 5 + 1 + (0 + (j : Int))))) (by rw [sizeLine_eq]; omega) ⟨Same.refl _,rfl⟩ ?_ ?_⟩
        · rintro i ys H' hi _ ⟨hs,hR⟩
          walk_at "rd"
          refine ⟨a,ns,k * 5 + 1 + (0 + (i : Int)), ?_,hs.seq (gp.seq hS),h63,by omega, ?_,fun v H2 g2 hv=>⟨hs.trans g2, ?_⟩⟩
          · rw [show ((e + 1 : Nat) : Int) - 1 = (e : Int) by omega]
          · have : (k * 5 + 1 + (0 + (i : Int)) + 2) * 5 ^ e ≤ (k + 2) * 5 * 5 ^ e:=Int.mul_le_mul_of_nonneg_right (by omega) (by omega)
            omega
          · rw [qY]
            exact Reps.snoc hv (Reps.same g2 _ _ hR)
        · rintro ys H' hl ⟨hs,hR⟩ p' hp'
          have gl:=gp.trans (hs.trans (zD hp' (.lst ys)))
          have hR' : Reps (upd H' p' (.lst ys)) ys _:=Reps.same (zD hp' _) _ _ hR
          have hlen : ys.length = (cellF ns k / 9 % 5).toNat:=by rw [hR.length]; simp
          generalize hus : ((List.range (cellF ns k / 9 % 5).toNat).map fun (j : Nat)=>thT ns e (k * 5 + 1 + (0 + (j : Int)))) = us at *
          have hul : us.length = (cellF ns k / 9 % 5).toNat:=by rw [← hus]; simp
          by_cases h7 : cellF ns k % 9 < 7
          · rw [if_pos h7]
            rw [if_pos h7] at q
            exact q _ _ gl ⟨p',ys,rfl,zC,hR'⟩
          rw [if_neg h7]
          rw [if_neg h7] at q
          intro p2 hp2
          have gd:=zD hp2 (.dK [])
          have hSl : SqL K (upd (upd H' p' (.lst ys)) p2 (.dK [])) p' ys:=SqL.of (gd _ _ zC)
          refine ⟨p',rfl,ys,hSl,by omega,by omega, ?_⟩
          rw [Int.toNat_natCast]
          refine vH (fun i σ H2=>(∃ o,σ = [some (V.ref a),some (V.int k),some (V.int ((e + 1 : Nat) : Int)),some (V.int (cellF ns k)),some (V.int (cellF ns k % 9)),some (V.ref p'),some (V.ref p2),o]) ∧ Same (upd H' p' (.lst ys)) H2 ∧ DInv (kidN ns k) us (upd H' p' (.lst ys)) p2 i H2) ⟨⟨_,rfl⟩,gd,[],zC,rfl,rfl⟩ ?_ ?_
          · rintro i σ H2 hi ⟨⟨o,rfl⟩,g2,ps,hd,hk,hU⟩
            walk_at "rd"
            obtain ⟨v,hv⟩ : ∃ v,ys[i]? = some v:=⟨ys[i],by simp [hi]⟩
            obtain ⟨t,ht,hvt⟩:=hR'.get hv
            have hut : us.getD i .non = t:=by rw [List.getD_eq_getElem?_getD,ht]; rfl
            refine yG (SqL.of (g2 _ _ zC)) (by rw [Int.zero_add]; exact yU hv) (yM (g2.seq (gl.seq hS)) h63 (by omega) (by omega) fun H3 g3=>?_)
            have c0':=xW ns (k * 5 + 1 + (0 + (i : Int)))
            have c1':=wP ns (k * 5 + 1 + (0 + (i : Int)))
            refine ⟨_,rfl,_,rfl,by omega,by omega,fun H4 g4=>⟨_,DPut.k (k:=nK (kidN ns k i)) (g4 _ _ (g3 _ _ hd)) ?_,⟨_,rfl⟩, ?_, ?_⟩⟩
            · have l1:=congrArg List.length hk
              have l2:=(zBm (kidN ns k) us (fun j=>jE _) i (by omega)).2.2.2.2
              simp only [List.length_map] at l1
              rw [sizeLine_eq]; omega
            · intro b o' hb
              have hne : b ≠ p2:=fun z=>by rw [z,hp2] at hb; cases hb
              rw [zM hne]
              exact g4 _ _ (g3 _ _ (g2 _ _ hb))
            · obtain ⟨e1,e2⟩:=jD (n:=kidN ns k i) hk hU hvt
              refine ⟨_,zC, ?_, ?_⟩
              · show _ = (putT (dicG (kidN ns k) us i) (kidN ns k i) (us.getD i .non)).1.map nK
                rw [hut]; exact e1
              · show Reps _ _ (putT (dicG (kidN ns k) us i) (kidN ns k i) (us.getD i .non)).2
                rw [hut]; exact e2
          · rintro σ H2 ⟨⟨o,rfl⟩,g2,ps,hd,hk,hU⟩
            walk_at "rd"
            rw [hlen] at hk hU
            exact q _ _ (gl.trans g2) ⟨p2,ps,rfl,hd,hk,Reps.same g2 _ _ hU⟩
end
end K37
namespace K37
open PySem L2
seal L2.PSs L2.PS L2.PE L2.PT L2.PW L2.PA L2.PI L2.PG L2.PGs L2.PPs L2.PTs
abbrev sCp : Stmt:=top 3
section
variable {P : Program} {w : World} {K : PySem.W.Frag} {mg : Str → Option Value} {base : Heap} {f : Addr} {fd : FuncData}
def spCp (n : Nat) : Sp:=fun vs H Q _=>∃ (v : V) (t : T),vs = [v] ∧ Rep H v t ∧ T.pure t ∧ T.dep t < n ∧ T.sz t ≤ 100000 ∧ ∀ v' H' D,Same H H' → Sp1 H' v' t D → (∀ b ∈ D,H b = none) → Q v' H'
theorem scCp : FnScope ["thing"] ["thing"] (defScope sCp):=⟨rfl,rfl,rfl,by decide +kernel,rfl,by decide +kernel,by decide +kernel⟩
theorem zNb {n : Nat} (F : Fun K "copied" "copied" sCp f fd) (B : Bl mg) (Gcopied : Dn P w K mg base (1 + n) "copied" ["thing"] (spCp n)) : FnOk P w K mg base CX0 (1 + n + 1) f fd ["thing"] (spCp (n + 1)):=by
  refine F.ok scCp (fun vs H Q E h=>?_) (fun cdv A outer s H vs Q E hr h=>?_)
  · obtain ⟨v,t,rfl,_⟩:=h
    rfl
  obtain ⟨v,t,rfl,hv,hp,hd,hz,q⟩:=h
  have nd:=scCp.nd
  have hu:=wK hr
  refine ⟨_,(zF (zW (zZ (zJ (zQ (T:="list") (by decide)) rfl B.isinstance zI (zA (pv 0) (zA (zR (v:=.ty "list") rfl B.list yO rfl) zB)))) (zG (zL (yW (own:=["part"]) (F:=[]) ⟨rfl,by with_unfolding_all rfl,by with_unfolding_all rfl,by with_unfolding_all rfl, .nil⟩ rfl (qH (pv 0)) (fun _ _ _ _=>yC (i:=0) (by show (compN ["part"] []).Nodup; decide +kernel) rfl (Or.inl rfl)) (fun _ _ _ _=>yR) (fun _ _ _ _=>(zV Gcopied hr (by omega) rfl (zA (pv 0) zB)))))) zK)
    (zF (zW (zZ (zJ (zQ (T:="dict") (by decide)) rfl B.isinstance zI (zA (pv 0) (zA (zR (v:=.ty "dict") rfl B.dict yN rfl) zB)))) (zG (zL (yE (vC rfl) rfl B.dict yN (zA (kO (yW (own:=["name","part"]) (F:=[]) ⟨rfl,by with_unfolding_all rfl,by with_unfolding_all rfl,by with_unfolding_all rfl, .nil⟩ rfl (zIr (zEb PySem.F.plainAttrs_dict PySem.F.slot_dict_items PySem.F.type_dict_items zIx (pv 0))) (fun _ _ _ _=>zLj (K:=K) (n:=2) rfl rfl (jK (yC (i:=0) (by show (compN ["name","part"] []).Nodup; decide +kernel) rfl (Or.inl rfl)) (jK (yC (i:=1) (by show (compN ["name","part"] []).Nodup; decide +kernel) rfl (Or.inl rfl)) zFo))) (fun _ _ _ _=>yR) (fun _ _ _ _=>(yT (zA (pv 0) (zA (zV Gcopied hr (by omega) rfl (zA (pv 1) zB)) zB)))))) zB)))) zK)
    (zF (zW (zZ (zJ (zQ (T:="tuple") (by decide)) rfl B.isinstance zI (zA (pv 0) (zA (zR (v:=.ty "tuple") rfl B.tuple xI rfl) zB)))) (zG (zL (yE qR rfl B.tuple xI (zA (yW (own:=["part"]) (F:=[]) ⟨rfl,by with_unfolding_all rfl,by with_unfolding_all rfl,by with_unfolding_all rfl, .nil⟩ rfl (zHu (pv 0)) (fun _ _ _ _=>yC (i:=0) (by show (compN ["part"] []).Nodup; decide +kernel) rfl (Or.inl rfl)) (fun _ _ _ _=>yR) (fun _ _ _ _=>(zV Gcopied hr (by omega) rfl (zA (pv 0) zB)))) zB)))) zK)
    (zG (zL (pv 0)))))), ?_⟩
  rw [show start ["thing"] [v] = [some v] from rfl]
  walk_at "rd2"
  cases t with
  | lst us =>
    obtain ⟨a,xs,rfl,ha,hs⟩:=hv
    have hl0:=T.szs_len us
    have hz' : T.szs us + 1 ≤ 100000:=hz
    have hd' : T.deps us + 1 < n + 1:=hd
    refine ⟨"list",xM ha, ?_⟩
    rw [if_pos (by decide)]
    refine ⟨a,rfl,⟨xs,SqL.of ha⟩,uM (K:=K) (xs:=xs) (fun i ys H'=>Same H H' ∧ ∃ D,Sps H' ys (us.take i) D ∧ ∀ b ∈ D,H b = none) ?_ ⟨Same.refl _,[],⟨rfl,rfl⟩,fun _ h=>(nomatch h)⟩ (fun i ys H' _ h=>SqL.of (h.1 _ _ ha)) ?_ ?_⟩
    · have:=hs.length
      rw [sizeLine_eq]; omega
    · rintro i u ys H' hu' _ ⟨g,D,hR,hD⟩
      obtain ⟨t',ht',hr'⟩:=hs.get hu'
      have hm:=List.mem_of_getElem? ht'
      have d1:=T.deps_le hm
      have d2:=T.szs_le hm
      walk_at "rd2"
      refine ⟨u,t',rfl,Rep.same g u t' hr',T.pures_mem hp hm,by omega,by omega,fun v' H4 D1 g4 hv' hD1=>⟨g.trans g4,D ++ D1, ?_,fun b hb=>?_⟩⟩
      · rw [yL ht']
        refine Sps.snoc hv' (hR.same g4) fun b hb z=>?_
        obtain ⟨o,ho⟩:=Sps.there _ _ _ hR hb
        rw [hD1 b z] at ho; cases ho
      · rcases List.mem_append.mp hb with z | z
        · exact hD b z
        · exact zN g (hD1 b z)
    · rintro ys H' _ ⟨g,D,hR,hD⟩ p hp'
      rw [hs.length,List.take_length] at hR
      have hpD : p ∉ D:=fun z=>by
        obtain ⟨o,ho⟩:=Sps.there _ _ _ hR z
        rw [hp'] at ho; cases ho
      refine q (.ref p) _ (p :: D) (g.trans (zD hp' _)) ⟨p,ys,D,rfl,zC,rfl,hpD,hR.same (zD hp' _)⟩ fun b hb=>?_
      rcases List.mem_cons.mp hb with z | z
      · rw [z]; exact zN g hp'
      · exact hD b z
  | dic ks us =>
    obtain ⟨d,ps,rfl,hdd,hk,hs⟩:=hv
    obtain ⟨nk,hp⟩:=hp
    have hl0:=T.szs_len us
    have hz' : T.szs us + 1 ≤ 100000:=hz
    have hd' : T.deps us + 1 < n + 1:=hd
    have hpl : ps.length = us.length:=by have:=hs.length; rwa [List.length_map] at this
    have nkp : (ps.map (·.1)).Nodup:=by rw [hk]; exact xS nk
    refine ⟨"dict",xR hdd, ?_⟩
    rw [if_neg (by decide)]
    refine ⟨"dict",xR hdd, ?_⟩
    rw [if_pos (by decide)]
    refine ⟨.ref d,rfl, .inr (.inr (.inl ⟨rfl, .inl ⟨ps,hdd⟩⟩)),d,ps,rfl,rfl, .inl hdd,fun pv hpv=>?_⟩
    have s1:=zD hpv (itmO pv d)
    have hd1:=s1 _ _ hdd
    refine ⟨pv,d,ps,rfl,zC, .inl ⟨hd1,fun o=>?_⟩⟩
    have gf : Same (upd H d (.frz o (.dK ps))) (upd (upd H pv (itmO pv d)) d (.frz o (.dK ps))):=fun b u e=>by
      by_cases hb : b = d
      · subst hb; rw [zC] at e ⊢; exact e
      · rw [zM hb] at e ⊢
        exact s1 _ _ e
    have gH : ∀ b,upd (upd H pv (itmO pv d)) d (.frz o (.dK ps)) b = none → H b = none:=fun b e=>by
      by_cases hb : b = d
      · subst hb; rw [zC] at e; cases e
      · rw [zM hb] at e
        exact zN s1 e
    have hsf : Reps (upd (upd H pv (itmO pv d)) d (.frz o (.dK ps))) (ps.map (·.2)) us:=Reps.dic_away hd1 hk (Reps.same s1 _ _ hs)
    have hdf : upd (upd H pv (itmO pv d)) d (.frz o (.dK ps)) d = some (.frz o (.dK ps)):=zC
    generalize upd (upd H pv (itmO pv d)) d (.frz o (.dK ps)) = Hf at gf gH hsf hdf ⊢
    refine zDq (K:=K) (fun i ys H'=>Same Hf H' ∧ ∃ (kvs : List (Key × V)) (D : List Addr),kvs.length = ys.length ∧ kvs.map (·.1) = (ps.take i).map (·.1) ∧ Sps H' (kvs.map (·.2)) (us.take i) D ∧ (∀ b ∈ D,H b = none) ∧ ∀ (j : Nat) kv,kvs[j]? = some kv → ∃ a,ys[j]? = some (.ref a) ∧ H' a = some (.tup [kV kv.1,kv.2])) ?_ ⟨Same.refl _,[],[],rfl,rfl,⟨rfl,rfl⟩,fun _ h=>(nomatch h),by intro j kv h; simp at h⟩ (fun i ys H' h=>h.1 _ _ hdf) ?_ ?_
    · rw [sizeLine_eq]; omega
    · rintro i kv ys H' pt hkv _ ⟨g,kvs,D,l1,l2,hR,hD,ht⟩ hpt
      have s2:=zD hpt (.tup [kV kv.1,kv.2])
      have g2:=g.trans s2
      walk_at "rd2"
      obtain ⟨t',ht',hr'⟩:=hsf.get (i:=i) (v:=kv.2) (by rw [List.getElem?_map,hkv]; rfl)
      have hm:=List.mem_of_getElem? ht'
      have d1:=T.deps_le hm
      have d2:=T.szs_le hm
      refine ⟨kv.2,t',rfl,Rep.same g2 _ t' hr',T.pures_mem hp hm,by omega,by omega,fun v' H1 D1 g1 hv' hD1 p hp1=>⟨(g2.trans g1).trans (zD hp1 _),kvs ++ [(kv.1,v')],by simp [l1], ?_,D ++ D1, ?_,fun b hb=>?_, ?_⟩⟩
      · rw [yL hkv,List.map_append,List.map_append,l2]; rfl
      · rw [yL ht',List.map_append]
        refine Sps.snoc (hv'.same (zD hp1 _)) (hR.same (s2.trans (g1.trans (zD hp1 _)))) fun b hb z=>?_
        obtain ⟨ob,ho⟩:=Sps.there _ _ _ (hR.same s2) hb
        rw [hD1 b z] at ho; cases ho
      · rcases List.mem_append.mp hb with z | z
        · exact hD b z
        · exact gH b (zN g2 (hD1 b z))
      · intro j kv1 hj
        by_cases hlt : j < kvs.length
        · rw [List.getElem?_append_left hlt] at hj
          obtain ⟨a,e1,e2⟩:=ht j kv1 hj
          exact ⟨a,by rw [List.getElem?_append_left (by omega)]; exact e1,zD hp1 _ _ _ (g1 _ _ (s2 _ _ e2))⟩
        · rw [List.getElem?_append_right (by omega)] at hj
          have hj0 : j - kvs.length = 0:=by
            have:=(List.getElem?_eq_some_iff.mp hj).1
            simpa using this
          rw [hj0] at hj
          simp only [List.getElem?_cons_zero,Option.some.injEq] at hj
          subst hj
          exact ⟨p,by rw [List.getElem?_append_right (by omega),← l1,hj0]; rfl,zC⟩
    · rintro ys H' _ ⟨g,kvs,D,l1,l2,hR,hD,ht⟩ p hp'
      rw [hpl,List.take_length] at hR
      rw [List.take_length] at l2
      have gs : Same H (thaw H (upd H' p (.lst ys))):=qJ (o:=o) hdd (gf.trans (g.trans (zD hp' _)))
      have hR2 : Sps (thaw H (upd H' p (.lst ys))) (kvs.map (·.2)) us D:=(hR.same (zD hp' _)).thaw
      refine ⟨p,rfl,ys,xK zC (by intro o v z; cases z),kvs,l1,fun j kv hj=>?_,fun l hl=>?_⟩
      · obtain ⟨a,e1,e2⟩:=ht j kv hj
        exact ⟨a,e1,xK (zD hp' _ _ _ e2) (by intro o v z; cases z)⟩
      · have em : mergeK [] kvs = kvs:=xT kvs [] (by rw [List.nil_append,l2]; exact nkp)
        rw [em]
        have hlD : l ∉ D:=fun z=>by
          obtain ⟨ob,ho⟩:=Sps.there _ _ _ hR2 z
          rw [hl] at ho; cases ho
        refine q (.ref l) _ (l :: D) (gs.trans (zD hl _)) ⟨l,kvs,D,rfl,zC,l2.trans hk,rfl,hlD,hR2.same (zD hl _)⟩ fun b hb=>?_
        rcases List.mem_cons.mp hb with z | z
        · rw [z]; exact zN gs hl
        · exact hD b z
  | tup us=>exact hp.elim
  | non=>exact ⟨_,hv.ty,by rw [if_neg (by simp [tyT,isSub])]; exact ⟨_,hv.ty,by rw [if_neg (by simp [tyT,isSub])]; exact ⟨_,hv.ty,by rw [if_neg (by simp [tyT,isSub])]; exact q _ _ [] (Same.refl _) ⟨rfl,hv⟩ (fun _ h=>nomatch h)⟩⟩⟩
  | bl b=>exact ⟨_,hv.ty,by rw [if_neg (by simp [tyT,isSub])]; exact ⟨_,hv.ty,by rw [if_neg (by simp [tyT,isSub])]; exact ⟨_,hv.ty,by rw [if_neg (by simp [tyT,isSub])]; exact q _ _ [] (Same.refl _) ⟨rfl,hv⟩ (fun _ h=>nomatch h)⟩⟩⟩
  | int b=>exact ⟨_,hv.ty,by rw [if_neg (by simp [tyT,isSub])]; exact ⟨_,hv.ty,by rw [if_neg (by simp [tyT,isSub])]; exact ⟨_,hv.ty,by rw [if_neg (by simp [tyT,isSub])]; exact q _ _ [] (Same.refl _) ⟨rfl,hv⟩ (fun _ h=>nomatch h)⟩⟩⟩
  | str b=>exact ⟨_,hv.ty,by rw [if_neg (by simp [tyT,isSub])]; exact ⟨_,hv.ty,by rw [if_neg (by simp [tyT,isSub])]; exact ⟨_,hv.ty,by rw [if_neg (by simp [tyT,isSub])]; exact q _ _ [] (Same.refl _) ⟨rfl,hv⟩ (fun _ h=>nomatch h)⟩⟩⟩
end
end K37
namespace K37
open PySem L2
seal L2.PSs L2.PS L2.PE L2.PT L2.PW L2.PA L2.PI L2.PG L2.PGs L2.PPs L2.PTs
abbrev sCo : Stmt:=top 54
section
variable {P : Program} {w : World} {K : PySem.W.Frag} {mg : Str → Option Value} {base : Heap} {f : Addr} {fd : FuncData}
theorem scCo : FnScope ["_law_thing"] ["_law_thing"] (defScope sCo):=⟨rfl,rfl,rfl,by decide +kernel,rfl,by decide +kernel,by decide +kernel⟩
def spCo (n : Nat) : Sp:=fun vs H Q _=>∃ (v : V) (t : T),vs = [v] ∧ Rep H v t ∧ T.okq t ∧ T.dep t < n ∧ ∀ v' H' D,Same H H' → Sp1 H' v' t D → (∀ b ∈ D,H b = none) → Q v' H'
theorem zNl {n : Nat} (F : Fun K "_law_copy" "_law_copy" sCo f fd) (B : Bl mg) (G_law_copy : Dn P w K mg base (1 + n) "_law_copy" ["_law_thing"] (spCo n)) : FnOk P w K mg base CX0 (1 + n + 1) f fd ["_law_thing"] (spCo (n + 1)):=by
  refine F.ok scCo (fun vs H Q E h=>?_) (fun cdv A outer s H vs Q E hr h=>?_)
  · obtain ⟨v,t,rfl,_⟩:=h
    rfl
  obtain ⟨v,t,rfl,hv,hp,hd,q⟩:=h
  have nd:=scCo.nd
  have hu:=wK hr
  refine ⟨_,(zF (zW (zZ (zJ (zQ (T:="list") (by decide)) rfl B.isinstance zI (zA (pv 0) (zA (zR (v:=.ty "list") rfl B.list yO rfl) zB)))) (zG (zL (yW (own:=["_law_one"]) (F:=[]) ⟨rfl,by with_unfolding_all rfl,by with_unfolding_all rfl,by with_unfolding_all rfl, .nil⟩ rfl (qH (pv 0)) (fun _ _ _ _=>yC (i:=0) (by show (compN ["_law_one"] []).Nodup; decide +kernel) rfl (Or.inl rfl)) (fun _ _ _ _=>yR) (fun _ _ _ _=>(zV G_law_copy hr (by omega) rfl (zA (pv 0) zB)))))) zK)
    (zF (zW (zZ (zJ (zQ (T:="tuple") (by decide)) rfl B.isinstance zI (zA (pv 0) (zA (zR (v:=.ty "tuple") rfl B.tuple xI rfl) zB)))) (zG (zL (yE qR rfl B.tuple xI (zA (yW (own:=["_law_one"]) (F:=[]) ⟨rfl,by with_unfolding_all rfl,by with_unfolding_all rfl,by with_unfolding_all rfl, .nil⟩ rfl (zHu (pv 0)) (fun _ _ _ _=>yC (i:=0) (by show (compN ["_law_one"] []).Nodup; decide +kernel) rfl (Or.inl rfl)) (fun _ _ _ _=>yR) (fun _ _ _ _=>(zV G_law_copy hr (by omega) rfl (zA (pv 0) zB)))) zB)))) zK)
    (zF (zW (zZ (zJ (zQ (T:="dict") (by decide)) rfl B.isinstance zI (zA (pv 0) (zA (zR (v:=.ty "dict") rfl B.dict yN rfl) zB)))) (zG (zL (yE (vC rfl) rfl B.dict yN (zA (kO (yW (own:=["_law_name"]) (F:=[("_law_thing",0)]) ⟨rfl,by with_unfolding_all rfl,by with_unfolding_all rfl,by with_unfolding_all rfl,(.cons rfl rfl rfl .nil)⟩ rfl (zBu (pv 0)) (fun _ _ _ _=>yC (i:=0) (by show (compN ["_law_name"] [("_law_thing",0)]).Nodup; decide +kernel) rfl (Or.inl rfl)) (fun _ _ _ _=>yR) (fun _ _ _ _=>(yT (zA (pv 0) (zA (zV G_law_copy hr (by omega) rfl (zA (wW hu (pv 1) (pv 0) (fun _ _=>rfl)) zB)) zB)))))) zB)))) zK)
    (zG (zL (pv 0)))))), ?_⟩
  rw [show start ["_law_thing"] [v] = [some v] from rfl]
  walk_at "rd3"
  cases t with
  | lst us =>
    obtain ⟨a,xs,rfl,ha,hs⟩:=hv
    obtain ⟨hl0,hp⟩:=hp
    have hd' : T.deps us + 1 < n + 1:=hd
    refine ⟨"list",xM ha, ?_⟩
    rw [if_pos (by decide)]
    refine ⟨a,rfl,⟨xs,SqL.of ha⟩,uM (K:=K) (xs:=xs) (fun i ys H'=>Same H H' ∧ ∃ D,Sps H' ys (us.take i) D ∧ ∀ b ∈ D,H b = none) ?_ ⟨Same.refl _,[],⟨rfl,rfl⟩,fun _ h=>(nomatch h)⟩ (fun i ys H' _ h=>SqL.of (h.1 _ _ ha)) ?_ ?_⟩
    · have:=hs.length
      rw [sizeLine_eq]; omega
    · rintro i u ys H' hu' _ ⟨g,D,hR,hD⟩
      obtain ⟨t',ht',hr'⟩:=hs.get hu'
      have hm:=List.mem_of_getElem? ht'
      have d1:=T.deps_le hm
      walk_at "rd3"
      refine ⟨u,t',rfl,Rep.same g u t' hr',T.okqs_mem hp hm,by omega,fun v' H4 D1 g4 hv' hD1=>⟨g.trans g4,D ++ D1, ?_,fun b hb=>?_⟩⟩
      · rw [yL ht']
        refine Sps.snoc hv' (hR.same g4) fun b hb z=>?_
        obtain ⟨o,ho⟩:=Sps.there _ _ _ hR hb
        rw [hD1 b z] at ho; cases ho
      · rcases List.mem_append.mp hb with z | z
        · exact hD b z
        · exact zN g (hD1 b z)
    · rintro ys H' _ ⟨g,D,hR,hD⟩ p hp'
      rw [hs.length,List.take_length] at hR
      have hpD : p ∉ D:=fun z=>by
        obtain ⟨o,ho⟩:=Sps.there _ _ _ hR z
        rw [hp'] at ho; cases ho
      refine q (.ref p) _ (p :: D) (g.trans (zD hp' _)) ⟨p,ys,D,rfl,zC,rfl,hpD,hR.same (zD hp' _)⟩ fun b hb=>?_
      rcases List.mem_cons.mp hb with z | z
      · rw [z]; exact zN g hp'
      · exact hD b z
  | dic ks us =>
    obtain ⟨d,ps,rfl,hdd,hk,hs⟩:=hv
    obtain ⟨nk,_,hl0,hp⟩:=hp
    have hd' : T.deps us + 1 < n + 1:=hd
    have hpl : ps.length = us.length:=by have:=hs.length; rwa [List.length_map] at this
    have nkp : (ps.map (·.1)).Nodup:=by rw [hk]; exact xS nk
    refine ⟨"dict",xR hdd, ?_⟩
    rw [if_neg (by decide)]
    refine ⟨"dict",xR hdd, ?_⟩
    rw [if_neg (by decide)]
    refine ⟨"dict",xR hdd, ?_⟩
    rw [if_pos (by decide)]
    refine ⟨d,rfl,ps, .inl ⟨hdd,fun o=>?_⟩⟩
    have gf : Same (upd H d (.frz o (.dK ps))) (upd H d (.frz o (.dK ps))):=Same.refl _
    have gH : ∀ b,upd H d (.frz o (.dK ps)) b = none → H b = none:=fun b e=>by
      by_cases hb : b = d
      · subst hb; rw [zC] at e; cases e
      · rw [zM hb] at e
        exact e
    have hsf : Reps (upd H d (.frz o (.dK ps))) (ps.map (·.2)) us:=Reps.dic_away hdd hk hs
    have hdf : upd H d (.frz o (.dK ps)) d = some (.frz o (.dK ps)):=zC
    generalize hHf : upd H d (.frz o (.dK ps)) = Hf at gf gH hsf hdf ⊢
    refine kB (fun i ys H'=>Same Hf H' ∧ ∃ (kvs : List (Key × V)) (D : List Addr),kvs.length = ys.length ∧ kvs.map (·.1) = (ps.take i).map (·.1) ∧ Sps H' (kvs.map (·.2)) (us.take i) D ∧ (∀ b ∈ D,H b = none) ∧ ∀ (j : Nat) kv,kvs[j]? = some kv → ∃ a,ys[j]? = some (.ref a) ∧ H' a = some (.tup [kV kv.1,kv.2])) ?_ ⟨Same.refl _,[],[],rfl,rfl,⟨rfl,rfl⟩,fun _ h=>(nomatch h),by intro j kv h; simp at h⟩ (fun i ys H' h=>h.1 _ _ hdf) ?_ ?_
    · rw [sizeLine_eq]; omega
    · rintro i kv ys H' hkv _ ⟨g,kvs,D,l1,l2,hR,hD,ht⟩
      have s2:=Same.refl H'
      have g2:=g.trans s2
      walk_at "rd3"
      obtain ⟨t',ht',hr'⟩:=hsf.get (i:=i) (v:=kv.2) (by rw [List.getElem?_map,hkv]; rfl)
      have hm:=List.mem_of_getElem? ht'
      have d1:=T.deps_le hm
      refine ⟨kv.2, .inl ⟨ps,kv.1, .inr ⟨o,g _ _ hdf⟩,rfl,(qI nkp hkv).symm⟩,kv.2,t',rfl,Rep.same g2 _ t' hr',T.okqs_mem hp hm,by omega,fun v' H1 D1 g1 hv' hD1 p hp1=>⟨(g2.trans g1).trans (zD hp1 _),kvs ++ [(kv.1,v')],by simp [l1], ?_,D ++ D1, ?_,fun b hb=>?_, ?_⟩⟩
      · rw [yL hkv,List.map_append,List.map_append,l2]; rfl
      · rw [yL ht',List.map_append]
        refine Sps.snoc (hv'.same (zD hp1 _)) (hR.same (s2.trans (g1.trans (zD hp1 _)))) fun b hb z=>?_
        obtain ⟨ob,ho⟩:=Sps.there _ _ _ (hR.same s2) hb
        rw [hD1 b z] at ho; cases ho
      · rcases List.mem_append.mp hb with z | z
        · exact hD b z
        · exact gH b (zN g2 (hD1 b z))
      · intro j kv1 hj
        by_cases hlt : j < kvs.length
        · rw [List.getElem?_append_left hlt] at hj
          obtain ⟨a,e1,e2⟩:=ht j kv1 hj
          exact ⟨a,by rw [List.getElem?_append_left (by omega)]; exact e1,zD hp1 _ _ _ (g1 _ _ (s2 _ _ e2))⟩
        · rw [List.getElem?_append_right (by omega)] at hj
          have hj0 : j - kvs.length = 0:=by
            have:=(List.getElem?_eq_some_iff.mp hj).1
            simpa using this
          rw [hj0] at hj
          simp only [List.getElem?_cons_zero,Option.some.injEq] at hj
          subst hj
          exact ⟨p,by rw [List.getElem?_append_right (by omega),← l1,hj0]; rfl,zC⟩
    · rintro ys H' _ ⟨g,kvs,D,l1,l2,hR,hD,ht⟩ p hp'
      rw [hpl,List.take_length] at hR
      rw [List.take_length] at l2
      have gs : Same H (thaw H (upd H' p (.lst ys))):=qJ (o:=o) hdd (by rw [hHf]; exact g.trans (zD hp' _))
      have hR2 : Sps (thaw H (upd H' p (.lst ys))) (kvs.map (·.2)) us D:=(hR.same (zD hp' _)).thaw
      refine ⟨p,rfl,ys,xK zC (by intro o v z; cases z),kvs,l1,fun j kv hj=>?_,fun l hl=>?_⟩
      · obtain ⟨a,e1,e2⟩:=ht j kv hj
        exact ⟨a,e1,xK (zD hp' _ _ _ e2) (by intro o v z; cases z)⟩
      · have em : mergeK [] kvs = kvs:=xT kvs [] (by rw [List.nil_append,l2]; exact nkp)
        rw [em]
        have hlD : l ∉ D:=fun z=>by
          obtain ⟨ob,ho⟩:=Sps.there _ _ _ hR2 z
          rw [hl] at ho; cases ho
        refine q (.ref l) _ (l :: D) (gs.trans (zD hl _)) ⟨l,kvs,D,rfl,zC,l2.trans hk,rfl,hlD,hR2.same (zD hl _)⟩ fun b hb=>?_
        rcases List.mem_cons.mp hb with z | z
        · rw [z]; exact zN gs hl
        · exact hD b z
  | tup us =>
    obtain ⟨a,xs,rfl,ha,hs⟩:=hv
    obtain ⟨hl0,hp⟩:=hp
    have hd' : T.deps us + 1 < n + 1:=hd
    refine ⟨"tuple",qM ha, ?_⟩
    rw [if_neg (by decide)]
    refine ⟨"tuple",qM ha, ?_⟩
    rw [if_pos (by decide)]
    unfold iTup
    walk_at "rd3"
    refine ⟨⟨xs,SqT.of ha⟩,zGw (K:=K) (xs:=xs) (fun i ys H'=>Same H H' ∧ ∃ D,Sps H' ys (us.take i) D ∧ ∀ b ∈ D,H b = none) ?_ ⟨Same.refl _,[],⟨rfl,rfl⟩,fun _ h=>(nomatch h)⟩ (fun i ys H' _ h=>SqT.of (h.1 _ _ ha)) ?_ ?_⟩
    · have:=hs.length
      rw [sizeLine_eq]; omega
    · rintro i u ys H' hu' _ ⟨g,D,hR,hD⟩
      obtain ⟨t',ht',hr'⟩:=hs.get hu'
      have hm:=List.mem_of_getElem? ht'
      have d1:=T.deps_le hm
      walk_at "rd3"
      refine ⟨u,t',rfl,Rep.same g u t' hr',T.okqs_mem hp hm,by omega,fun v' H4 D1 g4 hv' hD1=>⟨g.trans g4,D ++ D1, ?_,fun b hb=>?_⟩⟩
      · rw [yL ht']
        refine Sps.snoc hv' (hR.same g4) fun b hb z=>?_
        obtain ⟨o,ho⟩:=Sps.there _ _ _ hR hb
        rw [hD1 b z] at ho; cases ho
      · rcases List.mem_append.mp hb with z | z
        · exact hD b z
        · exact zN g (hD1 b z)
    · rintro ys H' _ ⟨g,D,hR,hD⟩ p hp'
      rw [hs.length,List.take_length] at hR
      refine ⟨p,rfl,ys, .inl ⟨SqL.of zC,fun l hl=>?_⟩⟩
      have s1:=zD hp' (.lst ys)
      have hlD : l ∉ D:=fun z=>by
        obtain ⟨o,ho⟩:=Sps.there _ _ _ (hR.same s1) z
        rw [hl] at ho; cases ho
      have s2:=s1.trans (zD hl (.tup ys))
      refine q (.ref l) _ (l :: D) (g.trans s2) ⟨l,ys,D,rfl,zC,rfl,hlD,hR.same s2⟩ fun b hb=>?_
      rcases List.mem_cons.mp hb with z | z
      · rw [z]; exact zN (g.trans s1) hl
      · exact hD b z
  | non=>exact ⟨_,hv.ty,by rw [if_neg (by simp [tyT,isSub])]; exact ⟨_,hv.ty,by rw [if_neg (by simp [tyT,isSub])]; exact ⟨_,hv.ty,by rw [if_neg (by simp [tyT,isSub])]; exact q _ _ [] (Same.refl _) ⟨rfl,hv⟩ (fun _ h=>nomatch h)⟩⟩⟩
  | bl b=>exact ⟨_,hv.ty,by rw [if_neg (by simp [tyT,isSub])]; exact ⟨_,hv.ty,by rw [if_neg (by simp [tyT,isSub])]; exact ⟨_,hv.ty,by rw [if_neg (by simp [tyT,isSub])]; exact q _ _ [] (Same.refl _) ⟨rfl,hv⟩ (fun _ h=>nomatch h)⟩⟩⟩
  | int b=>exact ⟨_,hv.ty,by rw [if_neg (by simp [tyT,isSub])]; exact ⟨_,hv.ty,by rw [if_neg (by simp [tyT,isSub])]; exact ⟨_,hv.ty,by rw [if_neg (by simp [tyT,isSub])]; exact q _ _ [] (Same.refl _) ⟨rfl,hv⟩ (fun _ h=>nomatch h)⟩⟩⟩
  | str b=>exact ⟨_,hv.ty,by rw [if_neg (by simp [tyT,isSub])]; exact ⟨_,hv.ty,by rw [if_neg (by simp [tyT,isSub])]; exact ⟨_,hv.ty,by rw [if_neg (by simp [tyT,isSub])]; exact q _ _ [] (Same.refl _) ⟨rfl,hv⟩ (fun _ h=>nomatch h)⟩⟩⟩
theorem zMp (F : Fun K "copied" "copied" sCp f fd) : FnOk P w K mg base CX0 1 f fd ["thing"] (spCp 0):=by
  refine F.ok scCp (fun vs H Q E h=>?_) (fun cdv A outer s H vs Q E hr h=>?_)
  · obtain ⟨v,t,rfl,_⟩:=h
    rfl
  obtain ⟨v,t,rfl,hv,hp,hd,_⟩:=h
  exact absurd hd (Nat.not_lt_zero _)
theorem zNm (F : Fun K "_law_copy" "_law_copy" sCo f fd) : FnOk P w K mg base CX0 1 f fd ["_law_thing"] (spCo 0):=by
  refine F.ok scCo (fun vs H Q E h=>?_) (fun cdv A outer s H vs Q E hr h=>?_)
  · obtain ⟨v,t,rfl,_⟩:=h
    rfl
  obtain ⟨v,t,rfl,hv,hp,hd,_⟩:=h
  exact absurd hd (Nat.not_lt_zero _)
theorem zHt (F : Fun K "copied" "copied" sCp f fd) (B : Bl mg) (b : Binds K fd ["thing"] []) (kp : PySem.W.keepIn K (.ref f) = true) (m : mg "copied" = some (.ref f)) : ∀ n : Nat,FnOk P w K mg base CX0 (1 + n) f fd ["thing"] (spCp n)
  | 0=>zMp F
  | n + 1=>zNb F B ⟨_,_,zHt F B b kp m n,b,kp,m⟩
theorem zJf (F : Fun K "_law_copy" "_law_copy" sCo f fd) (B : Bl mg) (b : Binds K fd ["_law_thing"] []) (kp : PySem.W.keepIn K (.ref f) = true) (m : mg "_law_copy" = some (.ref f)) : ∀ n : Nat,FnOk P w K mg base CX0 (1 + n) f fd ["_law_thing"] (spCo n)
  | 0=>zNm F
  | n + 1=>zNl F B ⟨_,_,zJf F B b kp m n,b,kp,m⟩
end
end K37
namespace K37
open PySem L2
seal L2.PSs L2.PS L2.PE L2.PT L2.PW L2.PA L2.PI L2.PG L2.PGs L2.PPs L2.PTs
abbrev sAlike : Stmt:=top 53
section
variable {P : Program} {w : World} {K : PySem.W.Frag} {mg : Str → Option Value} {base : Heap} {f : Addr} {fd : FuncData}
theorem iP {c A B : Prop} [Decidable c] (h : c) (a : A) : if c then A else B:=by rw [if_pos h]; exact a
theorem iN {c A B : Prop} [Decidable c] (h : ¬c) (b : B) : if c then A else B:=by rw [if_neg h]; exact b
theorem uF {H : Hp} {d : Addr} {o : HO} {t : T} {xs : List V} {us : List T} (hd : Rep H (.ref d) t) (hs : T.szs us < T.sz t) (h : Reps H xs us) : Reps (upd H d o) xs us :=
  Reps.away _ _ h fun z=>by
    obtain ⟨t',h1,h2⟩:=Occs.sub _ _ h z
    have e:=Rep.one _ _ _ hd h1
    subst e
    omega
theorem jO : ∀ n : Nat,(List.replicate n true).all id = true
  | 0=>rfl
  | n + 1=>by rw [List.replicate_succ,List.all_cons,jO n]; rfl
theorem zBh {K : PySem.W.Frag} {H : Hp} {a : Addr} {xs : List V} {i : Int} {v : V} {Q : VK} (h1 : SqT K H a xs) (h2 : atI xs i = some v) (q : Q v H) : rIxT K (.ref a) (.int i) H Q:=⟨a,xs,i,v,rfl,rfl,h1,h2,q⟩
def spAlike (n : Nat) : Sp:=fun vs H Q _=>∃ (v u : V) (t t' : T),vs = [v,u] ∧ Rep H v t ∧ Rep H u t' ∧ Sm n t t' ∧ ∀ H',Same H H' → Q (.bl true) H'
theorem scAlike : FnScope ["_law_found","_law_due"] ["_law_found","_law_due"] (defScope sAlike):=⟨rfl,rfl,rfl,by decide +kernel,rfl,by decide +kernel,by decide +kernel⟩
theorem zHj {n : Nat} (F : Fun K "_law_alike" "_law_alike" sAlike f fd) (B : Bl2 mg) (G_law_alike : Dn P w K mg base (2 + n) "_law_alike" ["_law_found","_law_due"] (spAlike n)) :
    FnOk P w K mg base CX0 (2 + n + 1) f fd ["_law_found","_law_due"] (spAlike (n + 1)):=by
  refine F.ok scAlike (fun vs H Q E h=>?_) (fun cdv A outer s H vs Q E hr h=>?_)
  · obtain ⟨v,u,t,t',rfl,_⟩:=h
    rfl
  obtain ⟨v,u,t,t',rfl,hv,hw,⟨hsz0,hB⟩,q⟩:=h
  have nd:=scAlike.nd
  have hu:=wK hr
  have hu0:=hr.units0
  refine ⟨_,(zF (zW (PW.pt (qS (zBn (zDl (pv 1))) (vS (zZ (zJ (zQ (T:="bool") (by decide)) rfl B.isinstance zI (zA (pv 1) (zA (zR (v:=.ty "bool") rfl B.bool jF rfl) zB))))))) (zG (zL (xU (xE yK (pv 0) (pv 1) (zT _)) (xY (xE yK (zJ (zQ (T:="bool") (by decide)) rfl B.isinstance zI (zA (pv 0) (zA (zR (v:=.ty "bool") rfl B.bool jF rfl) zB))) (zJ (zQ (T:="bool") (by decide)) rfl B.isinstance zI (zA (pv 1) (zA (zR (v:=.ty "bool") rfl B.bool jF rfl) zB))) (zT _)))))) zK)
    (zF (zW (zZ (zJ (zQ (T:="int") (by decide)) rfl B.isinstance zI (zA (pv 1) (zA (zR (v:=.ty "int") rfl B.int qE rfl) zB)))) (zG (zL (xU (zJ (zQ (T:="int") (by decide)) rfl B.isinstance zI (zA (pv 0) (zA (zR (v:=.ty "int") rfl B.int qE rfl) zB))) (xU (zMn (zJ (zQ (T:="bool") (by decide)) rfl B.isinstance zI (zA (pv 0) (zA (zR (v:=.ty "bool") rfl B.bool jF rfl) zB)))) (xY (xE yK (pv 0) (pv 1) (zT _))))))) zK)
    (zF (zW (zZ (zJ (zQ (T:="str") (by decide)) rfl B.isinstance zI (zA (pv 1) (zA (zR (v:=.ty "str") rfl B.str vL rfl) zB)))) (zG (zL (xU (zJ (zQ (T:="str") (by decide)) rfl B.isinstance zI (zA (pv 0) (zA (zR (v:=.ty "str") rfl B.str vL rfl) zB))) (xY (xE yK (pv 0) (pv 1) (zT _)))))) zK)
    (zF (zW (zZ (zJ (zQ (T:="dict") (by decide)) rfl B.isinstance zI (zA (pv 1) (zA (zR (v:=.ty "dict") rfl B.dict yN rfl) zB)))) (zF (zW (PW.pt (qS (wC (zZ (zJ (zQ (T:="dict") (by decide)) rfl B.isinstance zI (zA (pv 0) (zA (zR (v:=.ty "dict") rfl B.dict yN rfl) zB))))) (vS (zS jP (zJ uW rfl B.len yS (zA (pv 0) zB)) (zJ uW rfl B.len yS (zA (pv 1) zB)) (zT _))))) (zG (zL vU)) zK)
    (zG (zL (zJ (zCb rfl) rfl B.all zJa (zA (kO (yW (own:=["_law_name"]) (F:=[("_law_found",0),("_law_due",1)]) ⟨rfl,by with_unfolding_all rfl,by with_unfolding_all rfl,by with_unfolding_all rfl,(.cons rfl rfl rfl (.cons rfl rfl rfl .nil))⟩ rfl (zBu (pv 1)) (fun _ _ _ _=>yC (i:=0) (by show (compN ["_law_name"] [("_law_found",0),("_law_due",1)]).Nodup; decide +kernel) rfl (Or.inl rfl)) (fun _ _ _ _=>yR) (fun _ _ _ _=>(xU (zDv (zDs hu (pv 0) (pv 1))) (xY (zV G_law_alike hr (by omega) rfl (zA (wW hu (pv 1) (pv 0) (fun _ _=>rfl)) (zA (wW hu (pv 2) (pv 0) (fun _ _=>rfl)) zB)))))))) zB))))) zK)
    (zF (zW (PW.pt (qS (zS jP (zJ (zQ (T:="tuple") (by decide)) rfl B.isinstance zI (zA (pv 1) (zA (zR (v:=.ty "tuple") rfl B.tuple xI rfl) zB))) (zJ (zQ (T:="tuple") (by decide)) rfl B.isinstance zI (zA (pv 0) (zA (zR (v:=.ty "tuple") rfl B.tuple xI rfl) zB))) (zT _)) (vS (wC (zZ (zJ (qL (T:="list") (U:="tuple") (by decide) (by decide)) rfl B.isinstance zI (zA (pv 0) (zA (yT (zA (zR (v:=.ty "list") rfl B.list yO rfl) (zA (zR (v:=.ty "tuple") rfl B.tuple xI rfl) zB))) zB)))))))) (zG (zL vU)) zK)
    (zF (zW (zS jP (zJ wL rfl B.len yS (zA (pv 0) zB)) (zJ wL rfl B.len yS (zA (pv 1) zB)) (zT _)) (zG (zL vU)) zK)
    (zG (zL (zJ (zCb rfl) rfl B.all zJa (zA (yW (own:=["_law_k"]) (F:=[("_law_found",0),("_law_due",1)]) ⟨rfl,by with_unfolding_all rfl,by with_unfolding_all rfl,by with_unfolding_all rfl,(.cons rfl rfl rfl (.cons rfl rfl rfl .nil))⟩ rfl (yJ rfl B.range (zA (zJ wL rfl B.len yS (zA (pv 1) zB)) zB)) (fun _ _ _ _=>yC (i:=0) (by show (compN ["_law_k"] [("_law_found",0),("_law_due",1)]).Nodup; decide +kernel) rfl (Or.inl rfl)) (fun _ _ _ _=>yR) (fun _ _ _ _=>(zV G_law_alike hr (by omega) rfl (zA (yH (zEv (K:=K) rfl) (pv 1) (pv 0) (fun _ _=>rfl)) (zA (yH (zEv (K:=K) rfl) (pv 2) (pv 0) (fun _ _=>rfl)) zB))))) zB)))))))))), ?_⟩
  rw [show start ["_law_found","_law_due"] [v,u] = [some v,some u] from rfl]
  walk_at "rd2"
  have g0:=Same.refl H
  cases t with
  | non =>
    cases t' with
    | non =>
      cases (show v = _ from hv); cases (show u = _ from hw)
      exact iP rfl ⟨rfl,iP rfl ⟨_,rfl,_,rfl,q _ g0⟩⟩
    | _=>exact hB.elim
  | bl b =>
    cases t' with
    | bl b' =>
      have hB : b = b':=hB
      subst hB
      cases (show v = _ from hv); cases (show u = _ from hw)
      refine iN (by simp) ⟨_,rfl,iP (by decide +kernel) ⟨?_,iP rfl ⟨_,rfl,_,rfl, ?_⟩⟩⟩
      · rfl
      · rw [decide_eq_true rfl]; exact q _ g0
    | _=>exact hB.elim
  | int b =>
    cases t' with
    | int b' =>
      have hB : b = b':=hB
      subst hB
      cases (show v = _ from hv); cases (show u = _ from hw)
      refine iN (by simp) ⟨_,rfl,iN (by decide +kernel) ⟨_,rfl,iP (by decide +kernel) ⟨_,rfl,iP (by decide +kernel) ⟨_,rfl,true,by decide +kernel,iP rfl ⟨rfl, ?_⟩⟩⟩⟩⟩
      rw [decide_eq_true rfl]; exact q _ g0
    | _=>exact hB.elim
  | str b =>
    cases t' with
    | str b' =>
      have hB : b = b':=hB
      subst hB
      cases (show v = _ from hv); cases (show u = _ from hw)
      refine iN (by simp) ⟨_,rfl,iN (by decide +kernel) ⟨_,rfl,iN (by decide +kernel) ⟨_,rfl,iP (by decide +kernel) ⟨_,rfl,iP (by decide +kernel) ⟨rfl, ?_⟩⟩⟩⟩⟩
      rw [decide_eq_true rfl]; exact q _ g0
    | _=>exact hB.elim
  | lst us =>
    cases t' with
    | lst us' =>
      have hty : tyS H u = some "list":=hw.ty
      have htv : tyS H v = some "list":=hv.ty
      have hnn : ¬ u = V.non:=fun z=>by rw [z] at hty; exact absurd (Option.some.inj hty) (by decide)
      refine iN hnn ⟨_,hty,iN (by decide +kernel) ⟨_,hty,iN (by decide +kernel) ⟨_,hty,iN (by decide +kernel) ⟨_,hty,iN (by decide +kernel) ?_⟩⟩⟩⟩
      obtain ⟨a,xs,rfl,ha,hx⟩:=hv
      obtain ⟨b,ys,rfl,hb,hy⟩:=hw
      obtain ⟨hlen,hul,hB⟩:=hB
      have hxl:=hx.length
      have hyl:=hy.length
      refine ⟨_,hty,_,htv,false,by simp,zGb fun pt hpt=>?_⟩
      have g2:=zD hpt (.tup [V.ty "list",V.ty "tuple"])
      refine ⟨_,"list",pt,⟨rfl,rfl⟩,zC,wG g2 htv,iN (by decide +kernel) ?_⟩
      generalize upd H pt (.tup [V.ty "list",V.ty "tuple"]) = H2 at g2 ⊢
      have ha:=g2 _ _ ha
      have hb:=g2 _ _ hb
      have hx:=Reps.same g2 _ _ hx
      have hy:=Reps.same g2 _ _ hy
      refine ⟨a,rfl,xs, .inl (SqL.of ha),b,rfl,ys, .inl (SqL.of hb),false,by rw [hxl,hyl,hlen]; simp,zGb ⟨b,rfl,ys, .inl (SqL.of hb),by omega,by omega, ?_⟩⟩
      rw [Int.toNat_natCast]
      refine xG (fun i zs H'=>Same H2 H' ∧ zs = (List.replicate i true).map V.bl) (by rw [sizeLine_eq]; omega) ⟨Same.refl _,rfl⟩ ?_ ?_
      · rintro i zs H' hi _ ⟨g,rfl⟩
        obtain ⟨t1,ht1,hr1⟩:=hx.get (i:=i) (v:=xs[i]) (by simp [hxl,hlen,← hyl,hi])
        obtain ⟨t2,ht2,hr2⟩:=hy.get (i:=i) (v:=ys[i]) (by simp [hi])
        walk_at "rd2"
        refine .inl (yG (SqL.of (g _ _ ha)) (v:=xs[i]) (by rw [Int.zero_add]; exact yU (by simp [hxl,hlen,← hyl,hi])) (.inl (yG (SqL.of (g _ _ hb)) (v:=ys[i]) (by rw [Int.zero_add]; exact yU (by simp [hi])) ⟨_,_,t1,t2,rfl,Rep.same g _ _ hr1,Rep.same g _ _ hr2,hB i t1 t2 ht1 ht2,fun H4 g4=>⟨g.trans g4, ?_⟩⟩)))
        rw [List.replicate_succ']
        simp
      · rintro zs H' _ ⟨g,rfl⟩ p hp
        refine ⟨p,rfl,List.replicate ys.length true,SqL.of zC, ?_⟩
        rw [jO]
        exact q _ (g2.trans (g.trans (zD hp _)))
    | _=>exact hB.elim
  | tup us =>
    cases t' with
    | tup us' =>
      have hty : tyS H u = some "tuple":=hw.ty
      have htv : tyS H v = some "tuple":=hv.ty
      have hnn : ¬ u = V.non:=fun z=>by rw [z] at hty; exact absurd (Option.some.inj hty) (by decide)
      refine iN hnn ⟨_,hty,iN (by decide +kernel) ⟨_,hty,iN (by decide +kernel) ⟨_,hty,iN (by decide +kernel) ⟨_,hty,iN (by decide +kernel) ?_⟩⟩⟩⟩
      obtain ⟨a,xs,rfl,ha,hx⟩:=hv
      obtain ⟨b,ys,rfl,hb,hy⟩:=hw
      obtain ⟨hlen,hul,hB⟩:=hB
      have hxl:=hx.length
      have hyl:=hy.length
      refine ⟨_,hty,_,htv,false,by simp,zGb fun pt hpt=>?_⟩
      have g2:=zD hpt (.tup [V.ty "list",V.ty "tuple"])
      refine ⟨_,"tuple",pt,⟨rfl,rfl⟩,zC,wG g2 htv,iN (by decide +kernel) ?_⟩
      generalize upd H pt (.tup [V.ty "list",V.ty "tuple"]) = H2 at g2 ⊢
      have ha:=g2 _ _ ha
      have hb:=g2 _ _ hb
      have hx:=Reps.same g2 _ _ hx
      have hy:=Reps.same g2 _ _ hy
      refine ⟨a,rfl,xs, .inr (SqT.of ha),b,rfl,ys, .inr (SqT.of hb),false,by rw [hxl,hyl,hlen]; simp,zGb ⟨b,rfl,ys, .inr (SqT.of hb),by omega,by omega, ?_⟩⟩
      rw [Int.toNat_natCast]
      refine xG (fun i zs H'=>Same H2 H' ∧ zs = (List.replicate i true).map V.bl) (by rw [sizeLine_eq]; omega) ⟨Same.refl _,rfl⟩ ?_ ?_
      · rintro i zs H' hi _ ⟨g,rfl⟩
        obtain ⟨t1,ht1,hr1⟩:=hx.get (i:=i) (v:=xs[i]) (by simp [hxl,hlen,← hyl,hi])
        obtain ⟨t2,ht2,hr2⟩:=hy.get (i:=i) (v:=ys[i]) (by simp [hi])
        walk_at "rd2"
        refine .inr (.inl (zBh (SqT.of (g _ _ ha)) (v:=xs[i]) (by rw [Int.zero_add]; exact yU (by simp [hxl,hlen,← hyl,hi])) (.inr (.inl (zBh (SqT.of (g _ _ hb)) (v:=ys[i]) (by rw [Int.zero_add]; exact yU (by simp [hi])) ⟨_,_,t1,t2,rfl,Rep.same g _ _ hr1,Rep.same g _ _ hr2,hB i t1 t2 ht1 ht2,fun H4 g4=>⟨g.trans g4, ?_⟩⟩)))))
        rw [List.replicate_succ']
        simp
      · rintro zs H' _ ⟨g,rfl⟩ p hp
        refine ⟨p,rfl,List.replicate ys.length true,SqL.of zC, ?_⟩
        rw [jO]
        exact q _ (g2.trans (g.trans (zD hp _)))
    | _=>exact hB.elim
  | dic ks us =>
    cases t' with
    | dic ls vs =>
      have hty : tyS H u = some "dict":=hw.ty
      have htv : tyS H v = some "dict":=hv.ty
      have hnn : ¬ u = V.non:=fun z=>by rw [z] at hty; exact absurd (Option.some.inj hty) (by decide)
      refine iN hnn ⟨_,hty,iN (by decide +kernel) ⟨_,hty,iN (by decide +kernel) ⟨_,hty,iN (by decide +kernel) ⟨_,hty,iP (by decide +kernel) ⟨_,htv,iN (by decide +kernel) ?_⟩⟩⟩⟩⟩
      have hRd:=hw
      obtain ⟨a,ps,rfl,ha,hk,hx⟩:=hv
      obtain ⟨b,rs,rfl,hb,hkb,hy⟩:=hw
      obtain ⟨⟨nk,nl,hku,hlv,huv,hul⟩,hB⟩:=hB
      have hpl : ps.length = us.length:=by have:=hx.length; rwa [List.length_map] at this
      have hrl : rs.length = vs.length:=by have:=hy.length; rwa [List.length_map] at this
      have nkp : (ps.map (·.1)).Nodup:=by rw [hk]; exact xS nk
      have nkr : (rs.map (·.1)).Nodup:=by rw [hkb]; exact xS nl
      have hsz : T.szs vs < T.sz (.dic ls vs):=Nat.lt_succ_self _
      have hsz1 : T.szs us < T.sz (.dic ls vs):=Nat.lt_of_lt_of_le (Nat.lt_succ_self _) hsz0
      refine ⟨a,rfl,ps,ha,b,rfl,rs,hb,false,by rw [hpl,hrl,huv]; simp,zGb ⟨b,rfl,rs, .inl ⟨hb,fun o=>?_⟩⟩⟩
      have hxf : Reps (upd H b (.frz o (.dK rs))) (ps.map (·.2)) us:=uF hRd hsz1 hx
      have hyf : Reps (upd H b (.frz o (.dK rs))) (rs.map (·.2)) vs:=uF hRd hsz hy
      have haf : ∀ H',Same (upd H b (.frz o (.dK rs))) H' → Rd H' a (.dK ps):=fun H' g=>by
        by_cases e : a = b
        · subst e
          rw [hb] at ha
          cases ha
          exact .inr ⟨o,g _ _ zC⟩
        · exact .inl (g _ _ (by rw [zM e]; exact ha))
      refine kB (fun i zs H'=>Same (upd H b (.frz o (.dK rs))) H' ∧ zs = (List.replicate i true).map V.bl) ?_ ⟨Same.refl _,rfl⟩ (fun i zs H' h=>h.1 _ _ zC) ?_ ?_
      · rw [sizeLine_eq]; omega
      · rintro i rv zs H' hrv _ ⟨g,rfl⟩
        obtain ⟨t1,ht1,hr1⟩:=hyf.get (i:=i) (v:=rv.2) (by rw [List.getElem?_map,hrv]; rfl)
        obtain ⟨k,hkl,hrk⟩ : ∃ k,ls[i]? = some k ∧ nK k = rv.1:=by
          have hkey : (ls.map nK)[i]? = some rv.1:=by rw [← hkb,List.getElem?_map,hrv]; rfl
          rw [List.getElem?_map] at hkey
          cases hr : ls[i]? with
          | none=>rw [hr] at hkey; cases hkey
          | some k=>rw [hr] at hkey; exact ⟨k,rfl,Option.some.inj hkey⟩
        obtain ⟨hkk,hBk⟩:=hB k (List.mem_of_getElem? hkl)
        obtain ⟨x,hx1,hr2⟩:=Rep.at_name nk hk hxf hkk
        rw [gS nl hkl ht1] at hBk
        have hgv : valV ps rv.1 = some x:=by rw [← hrk]; exact hx1
        walk_at "rd2"
        have hdg : DGet H' a (kV rv.1) (some x):=.inl ⟨ps,rv.1,haf H' g,rfl,hgv.symm⟩
        refine ⟨kV rv.1,rfl, .ref a,rfl,a,some x,rfl,hdg,true,rfl,iP rfl ⟨x,hdg,rv.2, .inl ⟨rs,rv.1, .inr ⟨o,g _ _ zC⟩,rfl,(qI nkr hrv).symm⟩,_,_,_,t1,rfl,Rep.same g _ _ hr2,Rep.same g _ _ hr1,hBk,fun H4 g4=>⟨g.trans g4, ?_⟩⟩⟩
        rw [List.replicate_succ']
        simp
      · rintro zs H' _ ⟨g,rfl⟩ p hp
        refine ⟨p,rfl,List.replicate rs.length true,SqL.of (xK zC (by intro o v z; cases z)), ?_⟩
        rw [jO]
        exact q _ (qJ (o:=o) hb (g.trans (zD hp _)))
    | _=>exact hB.elim
theorem zHe (F : Fun K "_law_alike" "_law_alike" sAlike f fd) : FnOk P w K mg base CX0 2 f fd ["_law_found","_law_due"] (spAlike 0):=by
  refine F.ok scAlike (fun vs H Q E h=>?_) (fun cdv A outer s H vs Q E hr h=>?_)
  · obtain ⟨v,u,t,t',rfl,_⟩:=h
    rfl
  obtain ⟨v,u,t,t',rfl,hv,hw,hf,_⟩:=h
  exact hf.elim
theorem zAn (F : Fun K "_law_alike" "_law_alike" sAlike f fd) (B : Bl2 mg) (b : Binds K fd ["_law_found","_law_due"] []) (kp : PySem.W.keepIn K (.ref f) = true) (m : mg "_law_alike" = some (.ref f)) :
    ∀ n : Nat,FnOk P w K mg base CX0 (2 + n) f fd ["_law_found","_law_due"] (spAlike n)
  | 0=>zHe F
  | n + 1=>zHj F B ⟨_,_,zAn F B b kp m n,b,kp,m⟩
end
end K37
namespace K37
open PySem L2
seal L2.PSs L2.PS L2.PE L2.PT L2.PW L2.PA L2.PI L2.PG L2.PGs L2.PPs L2.PTs
abbrev sDeep : Stmt:=top 45
abbrev sWide : Stmt:=top 46
abbrev sAny : Stmt:=top 47
section
variable {P : Program} {w : World} {K : PySem.W.Frag} {mg : Str → Option Value} {base : Heap} {f : Addr} {fd : FuncData}
theorem uY (F : Fun K "_law_thing_by" "_law_thing_by" sThing f fd) (B : Bl mg) (Gc : Dn P w K mg base 1 "_law_cell" ["_law_script","_law_k"] (spCell K)) (Gn : Dn P w K mg base 1 "_law_number_by" ["_law_more"] spNum)
    (Gt : Dn P w K mg base 2 "_law_text_by" ["_law_more"] spText) (Gm : Dn P w K mg base 1 "_law_name_by" ["_law_more"] spName) (b : Binds K fd ["_law_script","_law_k","_law_deep_here"] []) (kp : PySem.W.keepIn K (.ref f) = true) (m : mg "_law_thing_by" = some (.ref f)) :
    ∀ d : Nat,FnOk P w K mg base CX0 (3 + d) f fd ["_law_script","_law_k","_law_deep_here"] (spThing K d)
  | 0=>zGl F B Gc Gn Gt
  | d + 1=>zGa F B Gc Gn Gt Gm ⟨_,_,uY F B Gc Gn Gt Gm b kp m d,b,kp,m⟩
def spThingAny (K : PySem.W.Frag) (n : Nat) : Sp:=fun vs H Q E=>∃ d,d ≤ n ∧ spThing K d vs H Q E
theorem zGi {n : Nat} (h : ∀ d : Nat,FnOk P w K mg base CX0 (3 + d) f fd ["_law_script","_law_k","_law_deep_here"] (spThing K d)) : FnOk P w K mg base CX0 (3 + n) f fd ["_law_script","_law_k","_law_deep_here"] (spThingAny K n) :=
  ⟨fun vs H Q E ⟨d,_,q⟩=>(h d).len vs H Q E q,fun A outer s H args us vs Q E hr he hb hv ⟨d,hd,hs⟩=>(h d).run A outer s H args us vs Q E (hr.mono (by omega)) he hb hv hs⟩
mutual
theorem Nice.few {d : Nat} : ∀ (t : T),Nice d t → T.fewm 31 t
  | .non,_=>True.intro
  | .bl _,_=>True.intro
  | .int _,_=>True.intro
  | .str _,_=>True.intro
  | .lst ts,h=>⟨by have:=h.2.1; omega,NiceL.few ts h.2.2⟩
  | .dic ks ts,h=>by
    obtain ⟨_,h1,h2,h3,h4,h5⟩:=h
    exact ⟨h3,by omega,h2,NiceL.few ts h5⟩
  | .tup _,h=>h.elim
theorem NiceL.few {d : Nat} : ∀ (ts : List T),NiceL d ts → T.fewms 31 ts
  | [],_=>True.intro
  | t :: ts,h=>⟨Nice.few t h.1,NiceL.few ts h.2⟩
end
def spAny (K : PySem.W.Frag) : Sp:=fun vs H Q _=>∃ (a : Addr) (ns : List Int) (k : Int),vs = [.ref a, .int k] ∧ SqL K H a (ns.map V.int) ∧ ns.length ≤ 63 ∧ 0 ≤ k ∧ k ≤ 1000 ∧ ∀ v H' t,Same H H' → Rep H' v t → T.fewm 31 t → T.dep t ≤ 8 → T.sz t ≤ 1000 → Q v H'
def spDeep (K : PySem.W.Frag) : Sp:=fun vs H Q _=>∃ (a : Addr) (ns : List Int) (k : Int),vs = [.ref a, .int k] ∧ SqL K H a (ns.map V.int) ∧ ns.length ≤ 63 ∧ 0 ≤ k ∧ k ≤ 1000 ∧ ∀ v H' t,Same H H' → Rep H' v t → T.fewm 31 t → T.dep t ≤ 8 → T.sz t ≤ 30 → Q v H'
theorem scDeep : FnScope ["_law_script","_law_k","_law_thing","_law_j","_law_more"] ["_law_script","_law_k"] (defScope sDeep):=⟨rfl,rfl,rfl,by decide +kernel,rfl,by decide +kernel,by decide +kernel⟩
theorem zKw (F : Fun K "_law_deep" "_law_deep" sDeep f fd) (B : Bl mg) (G_law_cell : Dn P w K mg base 1 "_law_cell" ["_law_script","_law_k"] (spCell K)) (G_law_thing_by : Dn P w K mg base (3 + 3) "_law_thing_by" ["_law_script","_law_k","_law_deep_here"] (spThingAny K 3))
    (G_law_name_by : Dn P w K mg base 1 "_law_name_by" ["_law_more"] spName) : FnOk P w K mg base CX0 7 f fd ["_law_script","_law_k"] (spDeep K):=by
  refine F.ok scDeep (fun vs H Q E h=>?_) (fun cdv A outer s H vs Q E hr h=>?_)
  · obtain ⟨a,ns,k,rfl,_⟩:=h
    rfl
  obtain ⟨a,ns,k,rfl,hS,h63,k0,k1,q⟩:=h
  have nd:=scDeep.nd
  have hu:=wK hr
  refine ⟨_,(zF (zO (i:=2) nd rfl (Or.inl rfl) (zV G_law_thing_by hr (by omega) rfl (zA (pv 0) (zA (zH yA (pv 1) zE) (zA zE zB)))))
    (zF (wH PassesOwn.never rfl (yJ rfl B.range (zA (zH yA zE (zH zP (zV G_law_cell hr (by omega) rfl (zA (pv 0) (zA (pv 1) zB))) zE)) zB)) (yC (i:=3) nd rfl (Or.inl rfl)) (zF (zO (i:=4) nd rfl (Or.inl rfl) (zV G_law_cell hr (by omega) rfl (zA (pv 0) (zA (zH yA (zH yA (pv 1) zE) (pv 3)) zB))))
    (zG (zW (zS yK (zH zP (pv 4) zE) zE (zT _)) (zG (zO (i:=2) nd rfl (Or.inl rfl) (zLn (zIe (zV G_law_name_by hr (by omega) rfl (zA (zH zU (pv 4) zE) zB)) (pv 2) zKx) (by rfl) (by rfl) (List.cons_ne_nil _ _) (by decide)))) (zG (zO (i:=2) nd rfl (Or.inl rfl) (yH ix_list (yB (zA (yB (zA (pv 2) zB)) (zA (yB (zA (zH zP (zH zU (pv 4) zE) zE) (zA (pv 2) (zA qV zB)))) zB))) (zH xO (zH zP (pv 4) zE) zE) (fun _ _=>rfl))))))))
    (zG (zL (pv 2))))), ?_⟩
  rw [show start ["_law_script","_law_k","_law_thing","_law_j","_law_more"] [.ref a, .int k] = [some (.ref a),some (.int k),none,none,none] from rfl]
  walk_at "rd2"
  refine ⟨0,by decide,a,ns,k + 1,rfl,hS,h63,by omega,by show (k + 1 + 2) * 1 ≤ 1000000; omega,fun v0 H1 g1 hv0=>?_⟩
  have hn0:=vW ns 0 (k + 1)
  have hd0:=Nice.dep _ hn0
  have hs0:=Nice.sz _ hn0
  have hf0:=Nice.few _ hn0
  generalize thT ns 0 (k + 1) = t0 at *
  refine yM (g1.seq hS) h63 (by omega) (by omega) fun H2 g2=>⟨_,rfl,by omega,by omega, ?_⟩
  have hm9 : (1 + cellF ns k % 8).toNat ≤ 8:=by omega
  generalize (1 + cellF ns k % 8).toNat = m at hm9 ⊢
  have g:=g1.trans g2
  refine vH (fun i σ H3=>(∃ u o3 o4 t',σ = [some (V.ref a),some (V.int k),some u,o3,o4] ∧ Rep H3 u t' ∧ T.fewm 31 t' ∧ T.dep t' ≤ i ∧ T.sz t' ≤ 1 + 3 * i) ∧ Same H H3) ⟨⟨v0,_,_,t0,rfl,Rep.same g2 _ _ hv0,hf0,hd0,by omega⟩,g⟩ ?_ ?_
  · rintro i σ H3 hi ⟨⟨u,o3,o4,t',rfl,hu',q1,q2,q3⟩,g3⟩
    walk_at "rd2"
    refine yM (g3.seq hS) h63 (by omega) (by omega) fun H4 g4=>?_
    have c0:=xW ns (k + 2 + (0 + (i : Int)))
    have c1:=wP ns (k + 2 + (0 + (i : Int)))
    generalize cellF ns (k + 2 + (0 + (i : Int))) = m at c0 c1 ⊢
    refine ⟨m,rfl, ?_⟩
    split
    · intro p hp
      refine ⟨m,rfl,_,rfl,by omega,by omega,fun H5 g5=>?_⟩
      have hnok:=jE (m / 3)
      generalize nameF (m / 3) = nm at *
      refine ⟨g5 _ _ zC,[(nK nm,u)],rfl,by simp, ?_⟩
      have em : mergeK [] [((nK nm : Key),u)] = [((nK nm : Key),u)]:=rfl
      rw [em]
      have G : Same H3 (upd H5 p (.dK [(nK nm,u)])):=(g4.trans ((zD hp _).trans g5)).put (zN g4 hp) _
      refine ⟨⟨.ref p,⟨rfl,_,rfl⟩, .dic [nm] [t'],⟨p,_,rfl,zC,rfl,⟨u,[],rfl,Rep.same G u t' hu',rfl⟩⟩,⟨by simp,by simp,rfl,q1,True.intro⟩, ?_, ?_⟩,g3.trans G⟩
      · show max (T.dep t') 0 + 1 ≤ _
        omega
      · show T.sz t' + 0 + 1 ≤ _
        omega
    · intro pL hpL
      refine ⟨m,rfl,fun pD hpD pO hpO=>⟨m,rfl, ?_⟩⟩
      have sL:=zD hpL (.lst [u])
      have sD:=zD hpD (.lst [V.int (m / 3 % 9),u,V.non])
      have sO:=zD hpO (.lst [V.ref pL,V.ref pD])
      have GG:=g4.trans (sL.trans (sD.trans sO))
      obtain ⟨x,hx,hm⟩:=zIp (xs:=[V.ref pL,V.ref pD]) (i:=m % 3 - 1) (by omega) (by simp only [List.length_cons,List.length_nil]; omega)
      refine yG (SqL.of zC) hx ⟨⟨x,⟨rfl,_,rfl⟩, ?_⟩,g3.trans GG⟩
      simp only [List.mem_cons,List.not_mem_nil,or_false] at hm
      rcases hm with rfl | rfl
      · refine ⟨.lst [t'],⟨pL,[u],rfl,(sD.trans sO) _ _ zC,⟨u,[],rfl,Rep.same GG u t' hu',rfl⟩⟩,⟨by simp,q1,True.intro⟩, ?_, ?_⟩
        · show max (T.dep t') 0 + 1 ≤ _
          omega
        · show T.sz t' + 0 + 1 ≤ _
          omega
      · refine ⟨.lst [.int (m / 3 % 9),t', .non],⟨pD,_,rfl,sO _ _ zC,⟨_,_,rfl,rfl,⟨u,_,rfl,Rep.same GG u t' hu',⟨_,_,rfl,rfl,rfl⟩⟩⟩⟩,⟨by simp,True.intro,q1,True.intro,True.intro⟩, ?_, ?_⟩
        · show max 0 (max (T.dep t') (max 0 0)) + 1 ≤ _
          omega
        · show 1 + (T.sz t' + (1 + 0)) + 1 ≤ _
          omega
  · rintro σ H3 ⟨⟨u,o3,o4,t',rfl,hu',q1,q2,q3⟩,g3⟩
    walk_at "rd2"
    exact q u H3 t' g3 hu' q1 (by omega) (by omega)
theorem zCl {H : Hp} : ∀ n : Nat,Reps H (List.replicate n V.non) (List.replicate n T.non)
  | 0=>rfl
  | n + 1=>⟨V.non,List.replicate n V.non,rfl,rfl,zCl n⟩
theorem zFk : ∀ n : Nat,T.szs (List.replicate n T.non) = n
  | 0=>rfl
  | n + 1=>by
    show 1 + T.szs (List.replicate n T.non) = n + 1
    rw [zFk n]; omega
theorem zCa : ∀ n : Nat,T.deps (List.replicate n T.non) = 0
  | 0=>rfl
  | n + 1=>by
    show max 0 (T.deps (List.replicate n T.non)) = 0
    rw [zCa n]; rfl
theorem zCe {α : Type} (x : α) : ∀ n : Nat,(List.replicate n [x]).flatten = List.replicate n x
  | 0=>rfl
  | n + 1=>by rw [List.replicate_succ,List.flatten_cons,zCe x n,List.replicate_succ]; rfl
theorem zBw : ∀ n : Nat,T.fewms 31 (List.replicate n T.non)
  | 0=>True.intro
  | n + 1=>⟨True.intro,zBw n⟩
theorem kA : ∀ {us : List T},(∀ t ∈ us,Nice 0 t) → T.fewms 31 us ∧ T.deps us ≤ 0 ∧ T.szs us ≤ us.length
  | [],_=>⟨True.intro,Nat.le_refl _,Nat.le_refl _⟩
  | t :: us,h=>by
    obtain ⟨h1,h2,h3⟩:=kA fun u hu=>h u (List.mem_cons_of_mem _ hu)
    have ht:=h t List.mem_cons_self
    have d1:=Nice.dep _ ht
    have d2 : T.sz t ≤ 1:=Nice.sz _ ht
    refine ⟨⟨Nice.few _ ht,h1⟩, ?_, ?_⟩
    · show max (T.dep t) (T.deps us) ≤ 0
      omega
    · show T.sz t + T.szs us ≤ us.length + 1
      omega
theorem uQ {H : Hp} : ∀ is : List Int,Reps H (is.map V.int) (is.map T.int)
  | []=>rfl
  | i :: is=>⟨V.int i,_,rfl,rfl,uQ is⟩
theorem uV : ∀ is : List Int,T.deps (is.map T.int) ≤ 0
  | []=>Nat.le_refl _
  | i :: is=>by
    have:=uV is
    show max 0 (T.deps (is.map T.int)) ≤ 0
    omega
theorem gW : ∀ is : List Int,T.szs (is.map T.int) ≤ is.length
  | []=>Nat.le_refl _
  | i :: is=>by
    have:=gW is
    show 1 + T.szs (is.map T.int) ≤ is.length + 1
    omega
theorem jY : ∀ is : List Int,T.fewms 31 (is.map T.int)
  | []=>True.intro
  | _ :: is=>⟨True.intro,jY is⟩
theorem scWide : FnScope ["_law_script","_law_k","_law_more","_law_inner","_law_found","_law_j"] ["_law_script","_law_k"] (defScope sWide):=⟨rfl,rfl,rfl,by decide +kernel,rfl,by decide +kernel,by decide +kernel⟩
theorem zKp (F : Fun K "_law_wide" "_law_wide" sWide f fd) (B : Bl mg) (G_law_cell : Dn P w K mg base 1 "_law_cell" ["_law_script","_law_k"] (spCell K)) (G_law_thing_by : Dn P w K mg base (3 + 3) "_law_thing_by" ["_law_script","_law_k","_law_deep_here"] (spThingAny K 3))
    (G_law_name_by : Dn P w K mg base 1 "_law_name_by" ["_law_more"] spName) : FnOk P w K mg base CX0 7 f fd ["_law_script","_law_k"] (spAny K):=by
  refine F.ok scWide (fun vs H Q E h=>?_) (fun cdv A outer s H vs Q E hr h=>?_)
  · obtain ⟨a,ns,k,rfl,_⟩:=h
    rfl
  obtain ⟨a,ns,k,rfl,hS,h63,k0,k1,q⟩:=h
  have nd:=scWide.nd
  have hu:=wK hr
  refine ⟨_,(zF (zO (i:=2) nd rfl (Or.inl rfl) (zV G_law_cell hr (by omega) rfl (zA (pv 0) (zA (pv 1) zB))))
    (zF (zO (i:=3) nd rfl (Or.inr rfl) (yW (own:=["_law_j"]) (F:=[("_law_script",0),("_law_k",1)]) ⟨rfl,by with_unfolding_all rfl,by with_unfolding_all rfl,by with_unfolding_all rfl,(.cons rfl rfl rfl (.cons rfl rfl rfl .nil))⟩ rfl (yJ rfl B.range (zA zE zB)) (fun _ _ _ _=>yC (i:=0) (by show (compN ["_law_j"] [("_law_script",0),("_law_k",1)]).Nodup; decide +kernel) rfl (Or.inl rfl)) (fun _ _ _ _=>yR) (fun _ _ _ _=>(zV G_law_thing_by hr (by omega) rfl (zA (pv 1) (zA (zH yA (zH yA (pv 2) zE) (pv 0)) (zA zE zB)))))))
    (zF (zW (zS yK (zH zP (pv 2) zE) zE (zT _)) (zG (zL (yW (own:=["_law_j"]) (F:=[("_law_inner",3)]) ⟨rfl,by with_unfolding_all rfl,by with_unfolding_all rfl,by with_unfolding_all rfl,(.cons rfl rfl rfl .nil)⟩ rfl (yJ rfl B.range (zA (zH zP (zH zU (pv 2) zE) zE) zB)) (fun _ _ _ _=>yC (i:=0) (by show (compN ["_law_j"] [("_law_inner",3)]).Nodup; decide +kernel) rfl (Or.inl rfl)) (fun _ _ _ _=>yR) (fun _ _ _ _=>(yH (zCd (K:=K) rfl) (pv 1) (zH zP (pv 0) zE) (fun _ _=>rfl)))))) zK)
    (zF (zO (i:=4) nd rfl (Or.inl rfl) gG)
    (zF (wH PassesOwn.never rfl (yJ rfl B.range (zA (zH zP (zH zU (pv 2) zE) zE) zB)) (yC (i:=5) nd rfl (Or.inl rfl)) (zG (vQ hu (pv 4) (zH xP (yZ zMj (zV G_law_name_by hr (by omega) rfl (zA (zH zU (pv 2) zE) zB)) xL (xJ zE)) (yE zBd rfl B.str vL (zA (pv 5) zB))) (yH ix_list (pv 3) (zH zP (pv 5) zE) (fun _ _=>rfl)) rfl)))
    (zF (zW (zS yK (zH zP (pv 2) zE) zE (zT _)) (zG (zL (pv 4))) zK)
    (zG (zL (yB (zA (pv 4) (zA (yW (own:=["_law_j"]) (F:=[]) ⟨rfl,by with_unfolding_all rfl,by with_unfolding_all rfl,by with_unfolding_all rfl, .nil⟩ rfl (yJ rfl B.range (zA (zH zP (zH zU (pv 2) zE) zE) zB)) (fun _ _ _ _=>yC (i:=0) (by show (compN ["_law_j"] []).Nodup; decide +kernel) rfl (Or.inl rfl)) (fun _ _ _ _=>yR) (fun _ _ _ _=>(zH xZ (pv 0) (pv 0)))) (zA (yB (zA (yB zB) (zA gG (zA (zH kY (yB (zA qV zB)) (zH zP (zH zU (pv 2) zE) zE)) zB)))) zB)))))))))))), ?_⟩
  rw [show start ["_law_script","_law_k","_law_more","_law_inner","_law_found","_law_j"] [.ref a, .int k] = [some (.ref a),some (.int k),none,none,none,none] from rfl]
  walk_at "rd2"
  refine yM hS h63 (by omega) (by omega) fun H1 g1=>?_
  have c0:=xW ns k
  have c1:=wP ns k
  generalize cellF ns k = m at c0 c1 ⊢
  refine xG (fun i ys H'=>Same H1 H' ∧ ∃ ts,Reps H' ys ts ∧ ts.length = i ∧ ∀ t ∈ ts,Nice 0 t) (by decide) ⟨Same.refl _,[],rfl,rfl,fun _ h=>(nomatch h)⟩ ?_ ?_
  · rintro i ys H' hi _ ⟨hs,ts,hR,hl,hN⟩
    walk_at "rd2"
    refine ⟨0,by decide,a,ns,_,rfl,(g1.trans hs).seq hS,h63,by omega,by show (k + 1 + (0 + (i : Int)) + 2) * 1 ≤ 1000000; omega,fun v H2 g2 hv=>⟨hs.trans g2,ts ++ [_],Reps.snoc hv (Reps.same g2 _ _ hR),by simp [hl],fun t ht=>?_⟩⟩
    rcases List.mem_append.mp ht with z | z
    · exact hN t z
    · rw [List.mem_singleton.mp z]; exact vW ns 0 _
  · rintro ys H' hl ⟨hs,ts,hR,hlen,hN⟩ pI hpI
    have hyl:=hR.length
    have sI:=zD hpI (.lst ys)
    have hI : upd H' pI (.lst ys) pI = some (.lst ys):=zC
    have gI:=g1.trans (hs.trans sI)
    have hR:=Reps.same sI _ _ hR
    generalize upd H' pI (.lst ys) = HI at sI hI gI hR ⊢
    have pick : ∀ i : Int,0 ≤ i → ∃ x t,atI ys (i % 4) = some x ∧ Rep HI x t ∧ Nice 0 t:=fun i h0=>by
      have h4 : (i % 4).toNat < ys.length:=by omega
      obtain ⟨t,ht,hr'⟩:=hR.get (i:=(i % 4).toNat) (v:=ys[(i % 4).toNat]) (by simp [h4])
      refine ⟨ys[(i % 4).toNat],t, ?_,hr',hN t (List.mem_of_getElem? ht)⟩
      rw [wQ (d:=V.non) (by omega) (by omega),List.getD_eq_getElem?_getD,List.getElem?_eq_getElem h4]
      rfl
    refine ⟨m,rfl, ?_⟩
    split
    · refine ⟨m,rfl,by omega,by omega, ?_⟩
      have hr : (m / 3 % 61).toNat ≤ 60:=by omega
      generalize (m / 3 % 61).toNat = r at hr ⊢
      refine xG (fun i zs H2=>Same HI H2 ∧ ∃ us,Reps H2 zs us ∧ us.length = i ∧ ∀ t ∈ us,Nice 0 t) (by rw [sizeLine_eq]; omega) ⟨Same.refl _,[],rfl,rfl,fun _ h=>(nomatch h)⟩ ?_ ?_
      · rintro i zs H2 hi _ ⟨g2,us,hU,hul,hUN⟩
        walk_at "rd2"
        obtain ⟨x,t,hx,hxt,hxn⟩:=pick (0 + (i : Int)) (by omega)
        refine yG (SqL.of (g2 _ _ hI)) hx ⟨g2,us ++ [t],Reps.snoc (Rep.same g2 _ _ hxt) hU,by simp [hul],fun u hu=>?_⟩
        rcases List.mem_append.mp hu with z | z
        · exact hUN u z
        · rw [List.mem_singleton.mp z]; exact hxn
      · rintro zs H2 _ ⟨g2,us,hU,hul,hUN⟩ p hp
        obtain ⟨n1,n2,n3⟩:=kA hUN
        refine q (.ref p) _ (.lst us) (gI.trans (g2.trans (zD hp _))) ⟨p,zs,rfl,zC,Reps.same (zD hp _) _ _ hU⟩ ⟨by omega,n1⟩ ?_ ?_
        · show T.deps us + 1 ≤ 8
          omega
        · show T.szs us + 1 ≤ 1000
          omega
    · intro pD hpD
      refine ⟨m,rfl,by omega,by omega, ?_⟩
      have hr : (m / 3 % 31).toNat ≤ 30:=by omega
      generalize (m / 3 % 31).toNat = r at hr ⊢
      refine vH (fun i σ H2=>(∃ o,σ = [some (V.ref a),some (V.int k),some (V.int m),some (V.ref pI),some (V.ref pD),o]) ∧ Same HI H2 ∧ ∃ ps ks us,H2 pD = some (.dK ps) ∧ ps.map (·.1) = ks.map nK ∧ Reps HI (ps.map (·.2)) us ∧ ks.Nodup ∧ (∀ u ∈ us,Nice 0 u) ∧ ks.length ≤ i) ⟨⟨_,rfl⟩,zD hpD _,[],[],[],zC,rfl,rfl,List.nodup_nil,fun _ h=>(nomatch h),Nat.le_refl _⟩ ?_ ?_
      · rintro i σ H2 hi ⟨⟨o,rfl⟩,g2,ps,ks,us,hd,hk,hU,hnd,hUN,hkl⟩
        walk_at "rd2"
        obtain ⟨x,t,hx,hxt,hxn⟩:=pick (0 + (i : Int)) (by omega)
        have hnok:=zDr (jE (m / 93))
        have hil:=zLv (i:=0 + (i : Int)) ⟨by omega,by omega⟩
        have hplen:=congrArg List.length hk
        simp only [List.length_map] at hplen
        have hsl : (Txt.slice (tx (nameF (m / 93))) none (some 9)).length ≤ 12:=by
          rw [show (9 : Int) = ((9 : Nat) : Int) from rfl,zIq,xX,List.length_take]
          have : (L2.ts (tx (nameF (m / 93)))).length = (nameF (m / 93)).length:=rfl
          omega
        refine yG (SqL.of (g2 _ _ hI)) hx ⟨_,rfl,by omega,by omega,fun H3 g3=>?_⟩
        refine ⟨_,rfl,by rw [xX,sizeLine_eq]; omega,zGu (by omega) (by omega),_,rfl,by omega, ?_⟩
        generalize Txt.slice (tx (nameF (m / 93))) none (some 9) ++ Str.ofString (toString (0 + (i : Int))) = z
        have ez : (Sum.inr z : Key) = nK (L2.ts z):=by rw [nK,wV]
        refine ⟨_,DPut.k (k:=Sum.inr z) (g3 _ _ hd) (by rw [sizeLine_eq]; omega),⟨_,rfl⟩,(g2.trans g3).put hpD _, ?_⟩
        rw [ez]
        obtain ⟨ks',us',e1,e2,e3,e4,e5,e6⟩:=zLb (n:=L2.ts z) hk hU hnd hxt
        refine ⟨_,zC,ks',e1,us',e2,e3,fun u hu=>?_,by omega⟩
        rcases e5 u hu with c | c
        · exact hUN u c
        · rw [c]; exact hxn
      · rintro σ H2 ⟨⟨o,rfl⟩,g2,ps,ks,us,hd,hk,hU,hnd,hUN,hkl⟩
        walk_at "rd2"
        have hplen:=congrArg List.length hk
        simp only [List.length_map] at hplen
        have hulen:=hU.length
        rw [List.length_map] at hulen
        obtain ⟨n1,n2,n3⟩:=kA hUN
        have hrep : Rep H2 (.ref pD) (.dic ks us):=⟨pD,ps,rfl,hd,hk,Reps.same g2 _ _ hU⟩
        have hfew : T.fewm 31 (.dic ks us):=⟨hnd,by omega,by omega,n1⟩
        have G2:=gI.trans g2
        split
        · refine q _ _ _ G2 hrep hfew ?_ ?_
          · show T.deps us + 1 ≤ 8
            omega
          · show T.szs us + 1 ≤ 1000
            omega
        · refine ⟨by omega,by omega, ?_⟩
          have hr : (m / 5 % 61).toNat ≤ 60:=by omega
          generalize (m / 5 % 61).toNat = r5 at hr ⊢
          refine xG (fun i zs H3=>Same H2 H3 ∧ ∃ is : List Int,zs = is.map V.int ∧ is.length = i) (by rw [sizeLine_eq]; omega) ⟨Same.refl _,[],rfl,rfl⟩ ?_ ?_
          · rintro i zs H3 hi _ ⟨g3,is,rfl,hil⟩
            walk_at "rd2"
            exact ⟨.inl (by omega),g3,is ++ [(0 + (i : Int)) * (0 + (i : Int))],by simp,by simp [hil]⟩
          · rintro zs H3 _ ⟨g3,is,rfl,hil⟩ pR hpR pE hpE pN hpN pV hpV
            have hr7 : (m / 7 % 61).toNat ≤ 60:=by omega
            refine ⟨pV,m / 7 % 61,[V.non],rfl,rfl,zC,by omega,by omega,by rw [sizeLine_eq]; simp only [List.length_cons,List.length_nil]; omega,fun pW hpW pM hpM pO hpO=>?_⟩
            rw [zCe] at *
            generalize (m / 7 % 61).toNat = r7 at *
            have sR:=zD hpR (.lst (is.map V.int))
            have sE:=zD hpE (.lst [])
            have sN:=zD hpN (.dK [])
            have sV:=zD hpV (.lst [V.non])
            have sW:=zD hpW (.lst (List.replicate r7 V.non))
            have sM:=zD hpM (.lst [V.ref pE,V.ref pN,V.ref pW])
            have sO:=zD hpO (.lst [V.ref pD,V.ref pR,V.ref pM])
            have s1:=sM.trans sO
            have s2:=sW.trans s1
            have s3:=sV.trans s2
            have s4:=sN.trans s3
            have s5:=sE.trans s4
            have G:=g3.trans (sR.trans s5)
            refine q (.ref pO) _ (.lst [.dic ks us, .lst (is.map T.int), .lst [.lst [], .dic [] [], .lst (List.replicate r7 .non)]]) (G2.trans G) ?_ ?_ ?_ ?_
            · refine ⟨pO,_,rfl,zC,⟨_,_,rfl,Rep.same G _ _ hrep,⟨_,_,rfl,⟨pR,_,rfl,s5 _ _ zC, ?_⟩,⟨_,_,rfl,⟨pM,_,rfl,sO _ _ zC,⟨_,_,rfl,⟨pE,[],rfl,s4 _ _ zC,rfl⟩,⟨_,_,rfl,⟨pN,[],rfl,s3 _ _ zC,rfl,rfl⟩,⟨_,_,rfl,⟨pW,_,rfl,s1 _ _ zC,zCl r7⟩,rfl⟩⟩⟩⟩,rfl⟩⟩⟩⟩
              exact uQ is
            · refine ⟨by simp,hfew,⟨by rw [List.length_map]; omega,jY is⟩,⟨by simp,⟨by simp,True.intro⟩,⟨by simp,by simp,rfl,True.intro⟩,⟨by simp; omega,zBw r7⟩,True.intro⟩,True.intro⟩
            · have e1:=uV is
              have e2:=zCa r7
              show max (T.deps us + 1) (max (T.deps (is.map T.int) + 1) (max (max (0 + 1) (max (0 + 1) (max (T.deps (List.replicate r7 T.non) + 1) 0)) + 1) 0)) + 1 ≤ 8
              omega
            · have e1:=gW is
              have e2:=zFk r7
              show (T.szs us + 1) + ((T.szs (is.map T.int) + 1) + ((((0 + 1) + ((0 + 1) + ((T.szs (List.replicate r7 T.non) + 1) + 0))) + 1) + 0)) + 1 ≤ 1000
              omega
theorem scAny : FnScope ["_law_script","_law_k","_law_more"] ["_law_script","_law_k"] (defScope sAny):=⟨rfl,rfl,rfl,by decide +kernel,rfl,by decide +kernel,by decide +kernel⟩
theorem zOj (F : Fun K "_law_any" "_law_any" sAny f fd) (B : Bl mg) (G_law_cell : Dn P w K mg base 1 "_law_cell" ["_law_script","_law_k"] (spCell K)) (G_law_thing_by : Dn P w K mg base (3 + 3) "_law_thing_by" ["_law_script","_law_k","_law_deep_here"] (spThingAny K 3))
    (G_law_deep : Dn P w K mg base 7 "_law_deep" ["_law_script","_law_k"] (spDeep K)) (G_law_wide : Dn P w K mg base 7 "_law_wide" ["_law_script","_law_k"] (spAny K)) : FnOk P w K mg base CX0 8 f fd ["_law_script","_law_k"] (spAny K):=by
  refine F.ok scAny (fun vs H Q E h=>?_) (fun cdv A outer s H vs Q E hr h=>?_)
  · obtain ⟨a,ns,k,rfl,_⟩:=h
    rfl
  obtain ⟨a,ns,k,rfl,hS,h63,k0,k1,q⟩:=h
  have nd:=scAny.nd
  refine ⟨_,(zF (zO (i:=2) nd rfl (Or.inl rfl) (zV G_law_cell hr (by omega) rfl (zA (pv 0) (zA (zH yA (pv 1) zE) zB))))
    (zF (zW (zS yK (zH zP (pv 2) zE) zE (zT _)) (zG (zL (zV G_law_deep hr (by omega) rfl (zA (pv 0) (zA (pv 1) zB))))) zK)
    (zF (zW (zS yK (zH zP (pv 2) zE) zE (zT _)) (zG (zL (zV G_law_wide hr (by omega) rfl (zA (pv 0) (zA (pv 1) zB))))) zK)
    (zG (zL (zV G_law_thing_by hr (by omega) rfl (zA (pv 0) (zA (pv 1) (zA (zH yA zE (zH zP (zH zU (pv 2) zE) zE)) zB))))))))), ?_⟩
  rw [show start ["_law_script","_law_k","_law_more"] [.ref a, .int k] = [some (.ref a),some (.int k),none] from rfl]
  walk_at "rd2"
  refine yM hS h63 (by omega) (by omega) fun H1 g1=>?_
  have c0:=xW ns (k + 3)
  generalize cellF ns (k + 3) = m at c0 ⊢
  refine ⟨m,rfl, ?_⟩
  split
  · exact ⟨a,ns,k,rfl,g1.seq hS,h63,k0,k1,fun v H2 t g2 hv hf hd hz=>q v H2 t (g1.trans g2) hv hf hd (by omega)⟩
  · refine ⟨m,rfl, ?_⟩
    split
    · exact ⟨a,ns,k,rfl,g1.seq hS,h63,k0,k1,fun v H2 t g2=>q v H2 t (g1.trans g2)⟩
    · refine ⟨m,rfl, ?_⟩
      obtain ⟨d,hd,hd3⟩ : ∃ d : Nat,1 + m / 8 % 3 = (d : Int) ∧ d ≤ 3:=⟨(1 + m / 8 % 3).toNat,by omega,by omega⟩
      rw [hd]
      have hn:=vW ns d k
      refine ⟨d,hd3,a,ns,k,rfl,g1.seq hS,h63,k0, ?_,fun v H2 g2 hv=>q v H2 _ (g1.trans g2) hv (Nice.few _ hn) ?_ ?_⟩
      · have : (5 : Int) ^ d ≤ 5 ^ 3:=by
          rcases (by omega : d = 0 ∨ d = 1 ∨ d = 2 ∨ d = 3) with rfl | rfl | rfl | rfl <;> decide
        have h2 : (k + 2) * 5 ^ d ≤ (k + 2) * 5 ^ 3:=Int.mul_le_mul_of_nonneg_left this (by omega)
        omega
      · have:=Nice.dep _ hn
        omega
      · have:=Nice.sz _ hn
        have h5 : 5 ^ d ≤ 5 ^ 3:=Nat.pow_le_pow_right (by decide) hd3
        omega
end
end K37
namespace K37
open PySem L2
seal L2.PSs L2.PS L2.PE L2.PT L2.PW L2.PA L2.PI L2.PG L2.PGs L2.PPs L2.PTs
abbrev sLo : Stmt:=top 27
abbrev sLl : Stmt:=top 51
def stepT : T → Key → Option T
  | .lst us, .inl i=>us[i.toNat]?
  | .dic ks us, .inr s=>if ts s ∈ ks then some (lookT (ts s) ks us) else none
  | _,_=>none
def okK : Key → Prop
  | .inl i=>0 ≤ i ∧ i ≤ 59
  | .inr _=>True
theorem zCf {H : Hp} {ps : List (Key × V)} {ks : List (List Nat)} {us : List T} (nk : ks.Nodup) (hk : ps.map (·.1) = ks.map nK) (hs : Reps H (ps.map (·.2)) us) (s : Str) : (valV ps (Sum.inr s)).isSome = decide (ts s ∈ ks):=by
  by_cases hm : ts s ∈ ks
  · obtain ⟨v,h1,_⟩:=Rep.at_name nk hk hs hm
    rw [wV] at h1
    rw [h1,decide_eq_true hm]
    rfl
  · rw [decide_eq_false hm,zAk (by
      rw [hk]
      intro z
      obtain ⟨k,h1,h2⟩:=List.mem_map.mp z
      have e : tx k = s:=Sum.inr.inj h2
      rw [← e,wT] at hm
      exact hm h1)]
    rfl
theorem zDf {K : PySem.W.Frag} {H : Hp} {v : V} {t : T} {k : Key} {Q : VK} (hv : Rep H v t) (hp : T.pure t) (hk : okK k) (q : Q (.bl (stepT t k).isSome) H) : ∃ x,tyS H (kV k) = some x ∧ if isSub x "str" = true then ∃ x,tyS H v = some x ∧ if isSub x "dict" = true then tDIn (tVar 1) (tVar 0) [some v,some (kV k)] H Q else Q (V.bl false) H
    else ∃ x,tyS H v = some x ∧ if isSub x "list" = true then ∃ p,v = V.ref p ∧ ∃ ys,SqL K H p ys ∧ ∃ i,kV k = V.int i ∧ Q (V.bl (decide (i < (ys.length : Int)))) H else Q (V.bl false) H:=by
  cases k with
  | inl i =>
    have hi : 0 ≤ i:=hk.1
    refine ⟨"int",rfl,iN (by decide) ⟨_,hv.ty, ?_⟩⟩
    cases t with
    | lst us =>
      obtain ⟨a,xs,rfl,ha,hx⟩:=hv
      refine iP rfl ⟨a,rfl,xs,SqL.of ha,i,rfl, ?_⟩
      have hl:=hx.length
      have e : (stepT (.lst us) (.inl i)).isSome = decide (i < (xs.length : Int)):=by
        show (us[i.toNat]?).isSome = _
        by_cases c : i.toNat < us.length
        · rw [List.getElem?_eq_getElem c,decide_eq_true (by omega)]
          rfl
        · rw [List.getElem?_eq_none (by omega),decide_eq_false (by omega)]
          rfl
      rw [← e]
      exact q
    | non=>exact iN (by simp [tyT,isSub]) q
    | bl b=>exact iN (by simp [tyT,isSub]) q
    | int b=>exact iN (by simp [tyT,isSub]) q
    | str b=>exact iN (by simp [tyT,isSub]) q
    | dic ks us=>exact iN (by simp [tyT,isSub]) q
    | tup us=>exact hp.elim
  | inr s =>
    refine ⟨"str",rfl,iP (by decide) ⟨_,hv.ty, ?_⟩⟩
    cases t with
    | dic ks us =>
      obtain ⟨a,ps,rfl,ha,hkk,hx⟩:=hv
      refine iP rfl ⟨kV (.inr s),rfl, .ref a,rfl,a,_,rfl, .inl ⟨ps, .inr s, .inl ha,rfl,rfl⟩, ?_⟩
      rw [zCf hp.1 hkk hx]
      have e : (stepT (.dic ks us) (.inr s)).isSome = decide (ts s ∈ ks):=by
        show (if ts s ∈ ks then some (lookT (ts s) ks us) else none).isSome = _
        by_cases c : ts s ∈ ks
        · rw [if_pos c,decide_eq_true c]; rfl
        · rw [if_neg c,decide_eq_false c]; rfl
      rw [← e]
      exact q
    | non=>exact iN (by simp [tyT,isSub]) q
    | bl b=>exact iN (by simp [tyT,isSub]) q
    | int b=>exact iN (by simp [tyT,isSub]) q
    | str b=>exact iN (by simp [tyT,isSub]) q
    | lst us=>exact iN (by simp [tyT,isSub]) q
    | tup us=>exact hp.elim
section
variable {P : Program} {w : World} {K : PySem.W.Frag} {mg : Str → Option Value} {base : Heap} {f : Addr} {fd : FuncData}
def spLo : Sp:=fun vs H Q _=>∃ (v : V) (t : T) (k : Key),vs = [v,kV k] ∧ Rep H v t ∧ T.pure t ∧ T.sz t ≤ 100000 ∧ okK k ∧ ∀ H',Same H H' → Q (.bl (stepT t k).isSome) H'
theorem scLo : FnScope ["thing","step"] ["thing","step"] (defScope sLo):=⟨rfl,rfl,rfl,by decide +kernel,rfl,by decide +kernel,by decide +kernel⟩
theorem ok_lo (F : Fun K "leads_on" "leads_on" sLo f fd) (B : Bl mg) : FnOk P w K mg base CX0 1 f fd ["thing","step"] spLo:=by
  refine F.ok scLo (fun vs H Q E h=>?_) (fun cdv A outer s H vs Q E hr h=>?_)
  · obtain ⟨v,t,k,rfl,_⟩:=h
    rfl
  obtain ⟨v,t,k,rfl,hv,hp,hz,hk,q⟩:=h
  have nd:=scLo.nd
  have hu:=wK hr
  refine ⟨_,(zF (zW (zZ (zJ (zQ (T:="str") (by decide)) rfl B.isinstance zI (zA (pv 1) (zA (zR (v:=.ty "str") rfl B.str vL rfl) zB)))) (zG (zL (xU (zJ (zQ (T:="dict") (by decide)) rfl B.isinstance zI (zA (pv 0) (zA (zR (v:=.ty "dict") rfl B.dict yN rfl) zB))) (xY (zDv (zDs hu (pv 1) (pv 0))))))) zK)
    (zG (zL (xU (zJ (zQ (T:="list") (by decide)) rfl B.isinstance zI (zA (pv 0) (zA (zR (v:=.ty "list") rfl B.list yO rfl) zB))) (xY (xE kC (pv 1) (zJ yF rfl B.len yS (zA (pv 0) zB)) (zT _))))))), ?_⟩
  rw [show start ["thing","step"] [v,kV k] = [some v,some (kV k)] from rfl]
  walk_at "rd2"
  exact zDf hv hp hk (q _ (Same.refl _))
theorem scLl : FnScope ["_law_thing","_law_step"] ["_law_thing","_law_step"] (defScope sLl):=⟨rfl,rfl,rfl,by decide +kernel,rfl,by decide +kernel,by decide +kernel⟩
theorem ok_ll (F : Fun K "_law_leads" "_law_leads" sLl f fd) (B : Bl mg) : FnOk P w K mg base CX0 1 f fd ["_law_thing","_law_step"] spLo:=by
  refine F.ok scLl (fun vs H Q E h=>?_) (fun cdv A outer s H vs Q E hr h=>?_)
  · obtain ⟨v,t,k,rfl,_⟩:=h
    rfl
  obtain ⟨v,t,k,rfl,hv,hp,hz,hk,q⟩:=h
  have nd:=scLl.nd
  have hu:=wK hr
  refine ⟨_,(zF (zW (zZ (zJ (zQ (T:="str") (by decide)) rfl B.isinstance zI (zA (pv 1) (zA (zR (v:=.ty "str") rfl B.str vL rfl) zB)))) (zG (zL (xU (zJ (zQ (T:="dict") (by decide)) rfl B.isinstance zI (zA (pv 0) (zA (zR (v:=.ty "dict") rfl B.dict yN rfl) zB))) (xY (zDv (zDs hu (pv 1) (pv 0))))))) zK)
    (zG (zL (xU (zJ (zQ (T:="list") (by decide)) rfl B.isinstance zI (zA (pv 0) (zA (zR (v:=.ty "list") rfl B.list yO rfl) zB))) (xY (xE zCj (zJ yF rfl B.len yS (zA (pv 0) zB)) (pv 1) (zT _))))))), ?_⟩
  rw [show start ["_law_thing","_law_step"] [v,kV k] = [some v,some (kV k)] from rfl]
  walk_at "rd2"
  exact zDf hv hp hk (q _ (Same.refl _))
end
end K37
namespace K37
open PySem L2
seal L2.PSs L2.PS L2.PE L2.PT L2.PW L2.PA L2.PI L2.PG L2.PGs L2.PPs L2.PTs
abbrev sGn : Stmt:=top 52
def goT : T → List Key → List T
  | t,[]=>[t]
  | t,k :: ks=>match stepT t k with
    | none=>[t]
    | some u=>t :: goT u ks
theorem zBp {H : Hp} {c : V} {u u' : T} {k : Key} (hc : Rep H c u) (hpu : T.pure u) (hzu : T.sz u ≤ 100000) (hk : okK k) (hs : stepT u k = some u') :
    ∃ c',Rep H c' u' ∧ T.pure u' ∧ T.sz u' ≤ 100000 ∧ ((∃ b zs j,c = .ref b ∧ H b = some (.lst zs) ∧ kV k = .int j ∧ atI zs j = some c') ∨ (∃ b qs,c = .ref b ∧ H b = some (.dK qs) ∧ valV qs k = some c')):=by
  cases k with
  | inl j =>
    have hj : 0 ≤ j:=hk.1
    cases u with
    | lst vs =>
      have hs' : vs[j.toNat]? = some u':=hs
      obtain ⟨b,zs,rfl,hb,hzs⟩:=hc
      have hm:=List.mem_of_getElem? hs'
      have hzl:=hzs.length
      have hjl:=(List.getElem?_eq_some_iff.mp hs').1
      have hjz : j.toNat < zs.length:=by omega
      obtain ⟨t',ht',hr'⟩:=hzs.get (List.getElem?_eq_getElem hjz)
      rw [hs'] at ht'
      cases ht'
      have d2:=T.szs_le hm
      have hzz : T.szs vs + 1 ≤ 100000:=hzu
      have hat : atI zs j = some zs[j.toNat]:=by
        have z:=yU (j:=j.toNat) (List.getElem?_eq_getElem hjz)
        rwa [show ((j.toNat : Nat) : Int) = j by omega] at z
      exact ⟨_,hr',T.pures_mem hpu hm,by omega, .inl ⟨b,zs,j,rfl,hb,rfl,hat⟩⟩
    | non=>cases hs
    | bl b=>cases hs
    | int b=>cases hs
    | str b=>cases hs
    | dic ks' us'=>cases hs
    | tup us'=>cases hs
  | inr z =>
    cases u with
    | dic ks' vs =>
      have hs' : (if ts z ∈ ks' then some (lookT (ts z) ks' vs) else none) = some u':=hs
      by_cases hm : ts z ∈ ks'
      · rw [if_pos hm] at hs'
        cases hs'
        obtain ⟨b,qs,rfl,hb,hkk,hx'⟩:=hc
        obtain ⟨c',h1,h2⟩:=Rep.at_name hpu.1 hkk hx' hm
        rw [wV] at h1
        have hzz : T.szs vs + 1 ≤ 100000:=hzu
        have hlq : ks'.length = vs.length:=by
          have e1:=congrArg List.length hkk
          have e2:=hx'.length
          rw [List.length_map,List.length_map] at e1
          rw [List.length_map] at e2
          omega
        have hmm:=wB hm hlq
        have d2:=T.szs_le hmm
        exact ⟨c',h2,T.pures_mem hpu.2 hmm,by omega, .inr ⟨b,qs,rfl,hb,h1⟩⟩
      · rw [if_neg hm] at hs'
        cases hs'
    | non=>cases hs
    | bl b=>cases hs
    | int b=>cases hs
    | str b=>cases hs
    | lst us'=>cases hs
    | tup us'=>cases hs
section
variable {P : Program} {w : World} {K : PySem.W.Frag} {mg : Str → Option Value} {base : Heap} {f : Addr} {fd : FuncData}
theorem wY : ∀ (t : T) (ks : List Key),1 ≤ (goT t ks).length ∧ (goT t ks).length ≤ ks.length + 1
  | t,[]=>⟨Nat.le_refl _,Nat.le_refl _⟩
  | t,k :: ks=>by
    show 1 ≤ (match stepT t k with | none=>[t] | some u=>t :: goT u ks).length ∧ (match stepT t k with | none=>[t] | some u=>t :: goT u ks).length ≤ ks.length + 1 + 1
    cases stepT t k with
    | none=>exact ⟨Nat.le_refl _,by show 1 ≤ _; omega⟩
    | some u =>
      have:=wY u ks
      exact ⟨by show 1 ≤ (goT u ks).length + 1; omega,by show (goT u ks).length + 1 ≤ _; omega⟩
def spGn : Sp:=fun vs H Q _=>∃ (v : V) (t : T) (pa : Addr) (ks : List Key),vs = [v, .ref pa] ∧ Rep H v t ∧ T.pure t ∧ T.sz t ≤ 100000 ∧ H pa = some (.lst (ks.map kV)) ∧ (∀ k ∈ ks,okK k) ∧ ks.length ≤ 8 ∧ ∀ o c u H',Same H H' → (goT t ks).getLast? = some u → Rep H c u → H' o = some (.tup [.int (((goT t ks).length : Int) - 1),c]) → Q (.ref o) H'
theorem scGn : FnScope ["_law_thing","_law_path_here","_law_here","_law_many","_law_step"] ["_law_thing","_law_path_here"] (defScope sGn):=⟨rfl,rfl,rfl,by decide +kernel,rfl,by decide +kernel,by decide +kernel⟩
theorem ok_gn (F : Fun K "_law_gone" "_law_gone" sGn f fd) (B : Bl mg) (G_law_leads : Dn P w K mg base 1 "_law_leads" ["_law_thing","_law_step"] spLo) : FnOk P w K mg base CX0 2 f fd ["_law_thing","_law_path_here"] spGn:=by
  refine F.ok scGn (fun vs H Q E h=>?_) (fun cdv A outer s H vs Q E hr h=>?_)
  · obtain ⟨v,t,pa,ks,rfl,_⟩:=h
    rfl
  obtain ⟨v,t,pa,ks,rfl,hv,hp,hz,hpa,hks,h8,q⟩:=h
  have nd:=scGn.nd
  have hu:=wK hr
  refine ⟨_,(zF (zO (i:=2) nd rfl (Or.inl rfl) (pv 0))
    (zF (zO (i:=3) nd rfl (Or.inl rfl) zE)
    (zF (wH PassesOwn.never rfl (qH (pv 1)) (yC (i:=4) nd rfl (Or.inl rfl)) (zF (zW (wC (zZ (zV G_law_leads hr (by omega) rfl (zA (pv 2) (zA (pv 4) zB))))) (zG (zL (yT (zA (pv 3) (zA (pv 2) zB))))) zK)
    (zF (zO (i:=2) nd rfl (Or.inl rfl) (jV (yH ix_list (pv 2) (pv 4) (fun _ _=>rfl)) (wW hu (pv 2) (pv 4) (fun _ _=>rfl))))
    (zG (zO (i:=3) nd rfl (Or.inl rfl) (zH yA (pv 3) zE))))))
    (zG (zL (yT (zA (pv 3) (zA (pv 2) zB)))))))), ?_⟩
  rw [show start ["_law_thing","_law_path_here","_law_here","_law_many","_law_step"] [v, .ref pa] = [some v,some (.ref pa),none,none,none] from rfl]
  walk_at "rd2"
  refine ⟨⟨_,SqL.of hpa⟩,vI (K:=K) (a:=pa) (xs:=ks.map kV) (fun i σ' H'=>∃ o u c,σ' = [some v,some (.ref pa),some c,some (.int i),o] ∧ Same H H' ∧ Rep H c u ∧ (∃ us,us.length = i ∧ goT t ks = us ++ goT u (ks.drop i)) ∧ T.pure u ∧ T.sz u ≤ 100000)
    ⟨none,t,v,rfl,Same.refl _,hv,⟨[],rfl,rfl⟩,hp,hz⟩ (fun i σ' H' _ h=>by
      obtain ⟨o,u,c,_,g,_⟩:=h
      exact SqL.of (g _ _ hpa)) ?_ ?_⟩
  · rintro i x σ' H' hx ⟨o,u,c,rfl,g,hc,⟨us,hl,hg⟩,hpu,hzu⟩
    walk_at "rd2"
    rw [List.getElem?_map] at hx
    cases hki : ks[i]? with
    | none=>rw [hki] at hx; cases hx
    | some k =>
      rw [hki] at hx
      have ex : kV k = x:=Option.some.inj hx
      subst ex
      have hik:=(List.getElem?_eq_some_iff.mp hki).1
      have hok:=hks _ (List.mem_of_getElem? hki)
      have hdr : ks.drop i = k :: ks.drop (i + 1):=by
        rw [List.drop_eq_getElem_cons hik,(List.getElem?_eq_some_iff.mp hki).2]
      rw [hdr] at hg
      refine ⟨c,u,k,rfl,Rep.same g _ _ hc,hpu,hzu,hok,fun H2 g2=>⟨_,rfl, ?_⟩⟩
      have gg:=g.trans g2
      cases hs : stepT u k with
      | none =>
        have e : goT u (k :: ks.drop (i + 1)) = [u]:=by show (match stepT u k with | none=>[u] | some u'=>u :: goT u' (ks.drop (i + 1))) = _; rw [hs]
        rw [e] at hg
        refine iP rfl fun p hp'=>q p c u _ (gg.trans (zD hp' _)) (by rw [hg]; simp) hc ?_
        rw [zC,hg,List.length_append,hl]
        have : (((i + [u].length : Nat) : Int) - 1) = (i : Int):=by simp
        rw [this]
      | some u' =>
        have e : goT u (k :: ks.drop (i + 1)) = u :: goT u' (ks.drop (i + 1)):=by show (match stepT u k with | none=>[u] | some u'=>u :: goT u' (ks.drop (i + 1))) = _; rw [hs]
        rw [e] at hg
        have hend : ∀ c',Rep H c' u' → T.pure u' → T.sz u' ≤ 100000 → ∃ o u1 c1,(c' = c1 ∧ (i : Int) + 1 = ((i + 1 : Nat) : Int) ∧ some (kV k) = o) ∧ Same H H2 ∧ Rep H c1 u1 ∧ (∃ us,us.length = i + 1 ∧ goT t ks = us ++ goT u1 (ks.drop (i + 1))) ∧ T.pure u1 ∧ T.sz u1 ≤ 100000:=fun c' h1 h2 h3 =>
          ⟨_,u',c',⟨rfl,by omega,rfl⟩,gg,h1,⟨us ++ [u],by rw [List.length_append,hl]; rfl,by rw [hg,List.append_assoc]; rfl⟩,h2,h3⟩
        refine iN (by simp) ?_
        obtain ⟨c',h1,h2,h3,⟨b,zs,j,rfl,hb,ej,hat⟩ | ⟨b,qs,rfl,hb,hvq⟩⟩:=zBp hc hpu hzu hok hs
        · refine .inl ?_
          walk_at "rd2"
          rw [ej]
          rw [ej] at hend
          exact yG (SqL.of (gg _ _ hb)) hat (hend _ h1 h2 h3)
        · refine .inr ?_
          walk_at "rd2"
          exact ⟨c', .inl ⟨qs,k, .inl (gg _ _ hb),rfl,hvq.symm⟩,hend _ h1 h2 h3⟩
  · rintro σ' H' ⟨o,u,c,rfl,g,hc,⟨us,hl,hg⟩,hpu,hzu⟩
    walk_at "rd2"
    rw [List.length_map,List.drop_length] at hg
    rw [List.length_map] at hl
    rw [List.length_map]
    have hg' : goT t ks = us ++ [u]:=hg
    refine fun p hp'=>q p c u _ (g.trans (zD hp' _)) (by rw [hg']; simp) hc ?_
    rw [zC,hg',List.length_append,hl]
    have : (((ks.length + [u].length : Nat) : Int) - 1) = (ks.length : Int):=by simp
    rw [this]
end
end K37
namespace K37
open PySem L2
seal L2.PSs L2.PS L2.PE L2.PT L2.PW L2.PA L2.PI L2.PG L2.PGs L2.PPs L2.PTs
abbrev sSs : Stmt:=top 48
abbrev sSb : Stmt:=top 49
def stps : T → List Key
  | .lst us=>(List.range (min 60 us.length)).map fun (i : Nat)=>Sum.inl ((i : Nat) : Int)
  | .dic ks _=>(sortK ks).map fun k=>Sum.inr (tx k)
  | _=>[]
section
variable {P : Program} {w : World} {K : PySem.W.Frag} {mg : Str → Option Value} {base : Heap} {f : Addr} {fd : FuncData}
def spSs : Sp:=fun vs H Q _=>∃ (v : V) (t : T),vs = [v] ∧ Rep H v t ∧ T.pure t ∧ T.few t ∧ T.sz t ≤ 100000 ∧ ∀ p H',Same H H' → H' p = some (.lst ((stps t).map kV)) → Q (.ref p) H'
theorem scSs : FnScope ["_law_thing"] ["_law_thing"] (defScope sSs):=⟨rfl,rfl,rfl,by decide +kernel,rfl,by decide +kernel,by decide +kernel⟩
theorem ok_ss (F : Fun K "_law_steps" "_law_steps" sSs f fd) (B : Bl2 mg) : FnOk P w K mg base CX0 1 f fd ["_law_thing"] spSs:=by
  refine F.ok scSs (fun vs H Q E h=>?_) (fun cdv A outer s H vs Q E hr h=>?_)
  · obtain ⟨v,t,rfl,_⟩:=h
    rfl
  obtain ⟨v,t,rfl,hv,hp,hf,hz,q⟩:=h
  have nd:=scSs.nd
  have hu:=wK hr
  refine ⟨_,(zF (zW (zZ (zJ (zQ (T:="list") (by decide)) rfl B.isinstance zI (zA (pv 0) (zA (zR (v:=.ty "list") rfl B.list yO rfl) zB)))) (zG (zL (yE (zCg rfl) rfl B.list yO (zA (yE zEo rfl B.range zJq (zA (zJ (uP rfl) rfl B.min zJx (zA zE (zA (zJ yF rfl B.len yS (zA (pv 0) zB)) zB))) zB)) zB)))) zK)
    (zF (zW (zZ (zJ (zQ (T:="dict") (by decide)) rfl B.isinstance zI (zA (pv 0) (zA (zR (v:=.ty "dict") rfl B.dict yN rfl) zB)))) (zG (zL (zJ (qT rfl) rfl B.sorted uL (zA (pv 0) zB)))) zK)
    (zG (zL (yB zB))))), ?_⟩
  rw [show start ["_law_thing"] [v] = [some v] from rfl]
  walk_at "rd3"
  cases t with
  | lst us =>
    obtain ⟨a,xs,rfl,ha,hx⟩:=hv
    have hxl:=hx.length
    have hul:=T.szs_len us
    have hz' : T.szs us + 1 ≤ 100000:=hz
    refine ⟨"list",xM ha,iP rfl ⟨a,rfl,xs,SqL.of ha,_,_,⟨rfl,rfl⟩,fun p hp'=>⟨_,zC,by split <;> omega,by split <;> omega,fun l hl=>?_⟩⟩⟩
    refine q l _ ((zD hp' _).trans (zD hl _)) ?_
    rw [zC]
    have e : (if (xs.length : Int) < 60 then (xs.length : Int) else 60).toNat = min 60 us.length:=by split <;> omega
    rw [e]
    show _ = some (HO.lst (((List.range (min 60 us.length)).map fun (i : Nat)=>(Sum.inl ((i : Nat) : Int) : Key)).map kV))
    rw [List.map_map]
    rfl
  | dic ks us =>
    obtain ⟨a,ps,rfl,ha,hk,hx⟩:=hv
    refine ⟨"dict",xR ha,iN (by decide) ⟨"dict",xR ha,iP rfl ⟨a,rfl,ps, .inl ha,ks.map tx,by rw [hk,List.map_map]; rfl,by rw [List.length_map]; exact hf.2.1,fun l ss hl hp1 hs1=>?_⟩⟩⟩
    have es:=jI hp1 hs1
    refine q l _ (zD hl _) ?_
    rw [zC,es]
    show _ = some (HO.lst (((sortK ks).map fun k=>(Sum.inr (tx k) : Key)).map kV))
    rw [List.map_map,List.map_map]
    rfl
  | non=>exact ⟨_,hv.ty,iN (by simp [tyT,isSub]) ⟨_,hv.ty,iN (by simp [tyT,isSub]) fun p hp'=>q p _ (zD hp' _) zC⟩⟩
  | bl b=>exact ⟨_,hv.ty,iN (by simp [tyT,isSub]) ⟨_,hv.ty,iN (by simp [tyT,isSub]) fun p hp'=>q p _ (zD hp' _) zC⟩⟩
  | int b=>exact ⟨_,hv.ty,iN (by simp [tyT,isSub]) ⟨_,hv.ty,iN (by simp [tyT,isSub]) fun p hp'=>q p _ (zD hp' _) zC⟩⟩
  | str b=>exact ⟨_,hv.ty,iN (by simp [tyT,isSub]) ⟨_,hv.ty,iN (by simp [tyT,isSub]) fun p hp'=>q p _ (zD hp' _) zC⟩⟩
  | tup us=>exact hp.elim
def spSb : Sp:=fun vs H Q _=>∃ (m : Int),vs = [.int m] ∧ 0 ≤ m ∧ m < 2000000 ∧ ∀ k H',Same H H' → okK k → Q (kV k) H'
theorem scSb : FnScope ["_law_more"] ["_law_more"] (defScope sSb):=⟨rfl,rfl,rfl,by decide +kernel,rfl,by decide +kernel,by decide +kernel⟩
theorem ok_sb (F : Fun K "_law_step_by" "_law_step_by" sSb f fd) (G_law_name_by : Dn P w K mg base 1 "_law_name_by" ["_law_more"] spName) : FnOk P w K mg base CX0 2 f fd ["_law_more"] spSb:=by
  refine F.ok scSb (fun vs H Q E h=>?_) (fun cdv A outer s H vs Q E hr h=>?_)
  · obtain ⟨m,rfl,_⟩:=h
    rfl
  obtain ⟨m,rfl,h0,h1,q⟩:=h
  have nd:=scSb.nd
  refine ⟨_,(zF (zW (zS yK (zH zP (pv 0) zE) zE (zT _)) (zG (zL (zV G_law_name_by hr (by omega) rfl (zA (zH zU (pv 0) zE) zB)))) zK)
    (zG (zL (yH ix_list (yB (zA (zH zP (zH zU (pv 0) zE) zE) (zA (zH zP (zH zU (pv 0) zE) zE) zB))) (zH zP (zH zU (pv 0) zE) zE) (fun _ _=>rfl))))), ?_⟩
  rw [show start ["_law_more"] [.int m] = [some (.int m)] from rfl]
  walk_at "rd3"
  by_cases c : m % 2 = 0
  · exact iP c ⟨_,rfl,by omega,by omega,fun H' g=>q (.inr (tx (nameF (m / 2)))) H' g True.intro⟩
  · refine iN c fun p hp=>kU (zC (o:=.lst [V.int (m / 4 % 4),V.int (m / 4 % 60)])) (by omega) (by simp only [List.length_cons,List.length_nil]; omega) fun x hx=>?_
    simp only [List.mem_cons,List.not_mem_nil,or_false] at hx
    rcases hx with rfl | rfl
    · exact q (.inl (m / 4 % 4)) _ (zD hp _) (show 0 ≤ m / 4 % 4 ∧ m / 4 % 4 ≤ 59 by omega)
    · exact q (.inl (m / 4 % 60)) _ (zD hp _) (show 0 ≤ m / 4 % 60 ∧ m / 4 % 60 ≤ 59 by omega)
end
end K37
namespace K37
open PySem L2
seal L2.PSs L2.PS L2.PE L2.PT L2.PW L2.PA L2.PI L2.PG L2.PGs L2.PPs L2.PTs
abbrev sPa : Stmt:=top 50
theorem zLm {u : T} {k : Key} (hf : T.few u) (h : k ∈ stps u) : okK k ∧ ∃ u',stepT u k = some u' ∧ T.few u':=by
  cases u with
  | lst us =>
    obtain ⟨i,hi,rfl⟩:=List.mem_map.mp h
    have hl : i < us.length:=by have:=List.mem_range.mp hi; omega
    refine ⟨(show (0 : Int) ≤ (i : Int) ∧ (i : Int) ≤ 59 by have:=List.mem_range.mp hi; omega),us[i], ?_,T.fews_mem hf.2 (List.getElem_mem hl)⟩
    show us[((i : Nat) : Int).toNat]? = _
    rw [Int.toNat_natCast]
    exact List.getElem?_eq_getElem hl
  | dic ks us =>
    obtain ⟨x,hx,rfl⟩:=List.mem_map.mp h
    have hm:=mem_sortK.mp hx
    refine ⟨True.intro,lookT x ks us, ?_,T.fews_mem hf.2.2.2 (wB hm hf.2.2.1)⟩
    show (if ts (tx x) ∈ ks then some (lookT (ts (tx x)) ks us) else none) = _
    rw [wT,if_pos hm]
  | non=>exact nomatch h
  | bl b=>exact nomatch h
  | int b=>exact nomatch h
  | str b=>exact nomatch h
  | tup us=>exact nomatch h
theorem zEu (ks : List Key) (lo hi : Option Int) : ∃ ks' : List Key,cutV (ks.map kV) lo hi = ks'.map kV ∧ ks'.length ≤ ks.length ∧ ∀ k ∈ ks',k ∈ ks:=by
  unfold cutV
  refine ⟨(ks.drop (HT.sIx (ks.map kV).length 0 lo)).take (HT.sIx (ks.map kV).length (ks.map kV).length hi - HT.sIx (ks.map kV).length 0 lo),by rw [List.map_take,List.map_drop],by rw [List.length_take,List.length_drop]; omega,fun k hk=>List.mem_of_mem_drop (List.mem_of_mem_take hk)⟩
theorem cut8 (ks : List Key) : cutV (ks.map kV) none (some 8) = (ks.take 8).map kV:=by
  unfold cutV HT.sIx
  simp
section
variable {P : Program} {w : World} {K : PySem.W.Frag} {mg : Str → Option Value} {base : Heap} {f : Addr} {fd : FuncData}
def spPa (K : PySem.W.Frag) : Sp:=fun vs H Q _=>∃ (a : Addr) (ns : List Int) (k0 : Int) (v : V) (t : T),vs = [.ref a, .int k0,v] ∧ SqL K H a (ns.map V.int) ∧ ns.length ≤ 63 ∧ 0 ≤ k0 ∧ k0 < 1000 ∧ Rep H v t ∧ T.pure t ∧ T.few t ∧ T.sz t ≤ 100000 ∧ ∀ (p : Addr) (ks : List Key) (H' : Hp),Same H H' → H' p = some (.lst (ks.map kV)) → (∀ k ∈ ks,okK k) → ks.length ≤ 8 → Q (.ref p) H'
theorem scPa : FnScope ["_law_script","_law_k","_law_thing","_law_path_here","_law_here","_law_j","_law_steps_here","_law_step","_law_more","_law_some","_law_at"] ["_law_script","_law_k","_law_thing"] (defScope sPa):=⟨rfl,rfl,rfl,by decide +kernel,rfl,by decide +kernel,by decide +kernel⟩
theorem ok_pa (F : Fun K "_law_path" "_law_path" sPa f fd) (B : Bl2 mg) (G_law_cell : Dn P w K mg base 1 "_law_cell" ["_law_script","_law_k"] (spCell K)) (G_law_steps : Dn P w K mg base 1 "_law_steps" ["_law_thing"] spSs) (G_law_step_by : Dn P w K mg base 2 "_law_step_by" ["_law_more"] spSb) : FnOk P w K mg base CX0 3 f fd ["_law_script","_law_k","_law_thing"] (spPa K):=by
  refine F.ok scPa (fun vs H Q E h=>?_) (fun cdv A outer s H vs Q E hr h=>?_)
  · obtain ⟨a,ns,k0,v,t,rfl,_⟩:=h
    rfl
  obtain ⟨a,ns,k0,v,t,rfl,hS,h63,hk0,hk1,hv,hp,hf,hz,q⟩:=h
  have nd:=scPa.nd
  have hu:=wK hr
  have hu0:=hr.units0
  refine ⟨_,(zF (zO (i:=3) nd rfl (Or.inl rfl) (yB zB))
    (zF (zO (i:=4) nd rfl (Or.inl rfl) (pv 2))
    (zF (wH PassesOwn.never rfl (yJ rfl B.range (zA (zH zP (zV G_law_cell hr (by omega) rfl (zA (pv 0) (zA (pv 1) zB))) zE) zB)) (yC (i:=5) nd rfl (Or.inl rfl)) (zF (zO (i:=6) nd rfl (Or.inl rfl) (zV G_law_steps hr (by omega) rfl (zA (pv 4) zB)))
    (zG (zW (zS (zAz hu0) (pv 6) (yB zB) (zT _)) (zF (zO (i:=7) nd rfl (Or.inl rfl) (yH ix_list (pv 6) (zH zP (zV G_law_cell hr (by omega) rfl (zA (pv 0) (zA (zH yA (zH yA (pv 1) zE) (pv 5)) zB))) (zJ yF rfl B.len yS (zA (pv 6) zB))) (fun _ _=>rfl)))
    (zF (wF (jR PySem.F.plainAttrs_list PySem.F.slot_list_append PySem.F.type_list_append vG (pv 3) (zA (pv 7) zB)))
    (zG (zO (i:=4) nd rfl (Or.inl rfl) (jV (yH ix_list (pv 4) (pv 7) (fun _ _=>rfl)) (wW hu (pv 4) (pv 7) (fun _ _=>rfl))))))) zK))))
    (zF (zO (i:=8) nd rfl (Or.inl rfl) (zV G_law_cell hr (by omega) rfl (zA (pv 0) (zA (zH yA (pv 1) zE) zB))))
    (zF (zO (i:=9) nd rfl (Or.inl rfl) (zV G_law_step_by hr (by omega) rfl (zA (zH zU (pv 8) zE) zB)))
    (zF (wA (zW (PW.pt (uG (zS yK (zH zP (pv 8) zE) zE (zT _)) (jQ (zZ (zJ (zQ (T:="list") (by decide)) rfl B.isinstance zI (zA (pv 4) (zA (zR (v:=.ty "list") rfl B.list yO rfl) zB))))))) (zG (zO (i:=9) nd rfl (Or.inl rfl) (zJ (uP rfl) rfl B.min zJx (zA zE (zA (zJ yF rfl B.len yS (zA (pv 4) zB)) zB))))) zK))
    (zF (wA (zW (zS zGy (zH zP (pv 8) zE) (yT (zA zE (zA zE zB))) (by with_unfolding_all rfl)) (zG (zO (i:=3) nd rfl (Or.inl rfl) (zH vD (pv 3) (yB (zA (pv 9) zB))))) zK))
    (zF (wA (zW (PW.pt (uG (zS yK (zH zP (pv 8) zE) zE (zT _)) (jQ (zS (zAz hu0) (pv 3) (yB zB) (zT _))))) (zF (zO (i:=10) nd rfl (Or.inl rfl) (zH zP (zH zU (pv 8) zE) (zJ yF rfl B.len yS (zA (pv 3) zB))))
    (zG (zO (i:=3) nd rfl (Or.inl rfl) (zH vD (zH vD (yZ xV (pv 3) xL (xJ (pv 10))) (yB (zA (pv 9) zB))) (yZ xV (pv 3) (xJ (zH yA (pv 10) zE)) xL))))) zK))
    (zF (wA (zW (zS yK (zH zP (pv 8) zE) zE (zT _)) (zG (zEt (i:=3) nd rfl (Or.inl rfl) (own:=["_law_j"]) (F:=[("_law_script",0),("_law_k",1)]) ⟨rfl,by with_unfolding_all rfl,by with_unfolding_all rfl,by with_unfolding_all rfl,(.cons rfl rfl rfl (.cons rfl rfl rfl .nil))⟩ rfl (yJ rfl B.range (zA (zH zP (zH zU (pv 8) zE) zE) zB)) (fun _ _ _ _=>yC (i:=0) (by show (compN ["_law_j"] [("_law_script",0),("_law_k",1)]).Nodup; decide +kernel) rfl (Or.inl rfl)) (fun _ _ _ _=>yR) (fun _ _ _ _=>(zV G_law_step_by hr (by omega) rfl (zA (zV G_law_cell hr (by omega) rfl (zA (pv 1) (zA (zH yA (zH yA (pv 2) zE) (pv 0)) zB))) zB))))) zK))
    (zG (zL (yZ xV (pv 3) xL (xJ zE))))))))))))), ?_⟩
  rw [show start ["_law_script","_law_k","_law_thing","_law_path_here","_law_here","_law_j","_law_steps_here","_law_step","_law_more","_law_some","_law_at"] [.ref a, .int k0,v] = [some (.ref a),some (.int k0),some v,none,none,none,none,none,none,none,none] from rfl]
  walk_at "rd3"
  intro p hpn
  have s1:=zD hpn (.lst [])
  refine yM (s1.seq hS) h63 (by omega) (by omega) fun H2 g2=>⟨_,rfl,by omega,by omega, ?_⟩
  obtain ⟨n,hn,hn8⟩ : ∃ n : Nat,(cellF ns k0 % 9).toNat = n ∧ n ≤ 8:=⟨_,rfl,by omega⟩
  rw [hn]
  have hpa : H2 p = some (.lst []):=g2 _ _ zC
  have s2:=s1.trans g2
  refine vH (fun i σ' H'=>∃ (c : V) (u : T) (ks : List Key) (o5 o6 o7 : Option V),σ' = [some (.ref a),some (.int k0),some v,some (.ref p),some c,o5,o6,o7,none,none,none] ∧ Same H H' ∧ H' p = some (.lst (ks.map kV)) ∧ Rep H c u ∧ T.pure u ∧ T.few u ∧ T.sz u ≤ 100000 ∧ (∀ k ∈ ks,okK k) ∧ ks.length ≤ i) ⟨v,t,[],_,_,_,rfl,s2,hpa,hv,hp,hf,hz,⟨fun k h=>absurd h List.not_mem_nil,Nat.le_refl _⟩⟩ ?_ ?_
  · rintro i σ' H' hi ⟨c,u,ks,o5,o6,o7,rfl,g,hpp,hc,hpu,hfu,hzu,hks,hkl⟩
    walk_at "rd3"
    refine ⟨c,u,rfl,Rep.same g _ _ hc,hpu,hfu,hzu,fun l H3 g3 hl=>?_⟩
    intro pe hpe
    have s3:=g3.trans (zD hpe (.lst []))
    have hl':=zD hpe (.lst []) _ _ hl
    refine ⟨l,pe,_,rfl,rfl,SqL.of hl',SqL.of zC,_,rfl, ?_⟩
    generalize upd H3 pe (.lst []) = H4 at s3 hl' ⊢
    have g4:=g.trans s3
    have hp4:=s3 _ _ hpp
    cases hst : stps u with
    | nil=>exact iN (by simp) ⟨c,⟨rfl,_,rfl⟩,g4,u,ks,hp4,hc,hpu,hfu,hzu,hks,by omega⟩
    | cons k0' rest =>
      refine iP (by simp) (yM (g4.seq hS) h63 (by omega) (by omega) fun H5 g5=>⟨l,rfl,_,SqL.of (g5 _ _ hl'),_,rfl, ?_, ?_⟩)
      · rw [hst]; simp
      have hpos : (0 : Int) < (((stps u).map kV).length : Int):=by rw [hst]; simp
      refine kU (g5 _ _ hl') (Int.emod_nonneg _ (by omega)) (Int.emod_lt_of_pos _ hpos) fun x hx=>?_
      obtain ⟨k,hk,rfl⟩:=List.mem_map.mp hx
      obtain ⟨hok,u',hs,hfu'⟩:=zLm hfu hk
      have g5':=g4.trans g5
      have hp5:=g5 _ _ hp4
      refine ⟨Or.inl ⟨rfl,_,SqL.of hp5⟩,p,_,_,rfl,rfl,hp5,by rw [sizeLine_eq,List.length_map]; omega, ?_⟩
      have g6 : Same H (upd H5 p (.lst (ks.map kV ++ [kV k]))):=g5'.put hpn _
      have hp6 : upd H5 p (.lst (ks.map kV ++ [kV k])) p = some (.lst ((ks ++ [k]).map kV)):=by rw [zC,List.map_append]; rfl
      generalize upd H5 p (.lst (ks.map kV ++ [kV k])) = H6 at g6 hp6 ⊢
      obtain ⟨c',h1,h2,h3,hor⟩:=zBp hc hpu hzu hok hs
      have hfin : ∃ c1,(c' = c1 ∧ ∃ x,some (kV k) = x) ∧ Same H H6 ∧ ∃ u1 ks1,H6 p = some (.lst (List.map kV ks1)) ∧ Rep H c1 u1 ∧ T.pure u1 ∧ T.few u1 ∧ T.sz u1 ≤ 100000 ∧ (∀ k ∈ ks1,okK k) ∧ ks1.length ≤ i + 1 :=
        ⟨c',⟨rfl,_,rfl⟩,g6,u',ks ++ [k],hp6,h1,h2,hfu',h3,fun k' hk'=>(List.mem_append.mp hk').elim (hks k') (fun z=>by rw [List.mem_singleton.mp z]; exact hok),by rw [List.length_append]; show ks.length + 1 ≤ _; omega⟩
      rcases hor with ⟨b,zs,j,rfl,hb,ej,hat⟩ | ⟨b,qs,rfl,hb,hvq⟩
      · refine .inl ?_
        walk_at "rd3"
        rw [ej]
        rw [ej] at hfin
        exact yG (SqL.of (g6 _ _ hb)) hat hfin
      · refine .inr ?_
        walk_at "rd3"
        exact ⟨c', .inl ⟨qs,k, .inl (g6 _ _ hb),rfl,hvq.symm⟩,hfin⟩
  · rintro σ' H' ⟨c,u,ks,o5,o6,o7,rfl,g,hpp,hc,hpu,hfu,hzu,hks,hkl⟩
    walk_at "rd3"
    refine yM (g.seq hS) h63 (by omega) (by omega) fun H3 g3=>?_
    have c0:=xW ns (k0 + 10)
    have c1:=wP ns (k0 + 10)
    generalize cellF ns (k0 + 10) = more at c0 c1 ⊢
    refine ⟨_,rfl,_,rfl,by omega,by omega,fun k1 H4 g4 hok1=>?_⟩
    have hp4:=g4 _ _ (g3 _ _ hpp)
    have gH4:=g.trans (g3.trans g4)
    have hk8 : ks.length ≤ 8:=by omega
    unfold tMid
    walk_at "rd3"
    refine ⟨fun σ' H'=>∃ k1,σ' = [some (.ref a),some (.int k0),some v,some (.ref p),some c,o5,o6,o7,some (.int more),some (kV k1),none] ∧ okK k1 ∧ Same H H' ∧ H' p = some (.lst (ks.map kV)), ?_, ?_⟩
    · by_cases c4 : more % 8 = 4
      · refine iP c4 ⟨_,(Rep.same gH4 _ _ hc).ty, ?_⟩
        cases u with
        | lst us =>
          obtain ⟨b,xs,rfl,hb,hx⟩:=hc
          exact iP rfl ⟨b,rfl,xs,SqL.of (gH4 _ _ hb),_,_,⟨rfl,rfl⟩, .inl (if (xs.length : Int) < 59 then (xs.length : Int) else 59),rfl,(by show 0 ≤ _ ∧ _ ≤ (59 : Int); split <;> omega),gH4,hp4⟩
        | non=>exact iN (by simp [tyT,isSub]) ⟨k1,rfl,hok1,gH4,hp4⟩
        | bl b=>exact iN (by simp [tyT,isSub]) ⟨k1,rfl,hok1,gH4,hp4⟩
        | int b=>exact iN (by simp [tyT,isSub]) ⟨k1,rfl,hok1,gH4,hp4⟩
        | str b=>exact iN (by simp [tyT,isSub]) ⟨k1,rfl,hok1,gH4,hp4⟩
        | dic ks' us=>exact iN (by simp [tyT,isSub]) ⟨k1,rfl,hok1,gH4,hp4⟩
        | tup us=>exact hpu.elim
      · exact iN c4 ⟨k1,rfl,hok1,gH4,hp4⟩
    rintro σ' H5 ⟨k2,rfl,hok2,g5,hp5⟩
    walk_at "rd3"
    refine ⟨fun σ' H'=>∃ (p1 : Addr) (ks1 : List Key),σ' = [some (.ref a),some (.int k0),some v,some (.ref p1),some c,o5,o6,o7,some (.int more),some (kV k2),none] ∧ Same H H' ∧ H' p1 = some (.lst (ks1.map kV)) ∧ (∀ k ∈ ks1,okK k) ∧ ks1.length ≤ 9, ?_, ?_⟩
    · intro pt hpt
      have sT:=zD hpt (.tup [V.int 4,V.int 5])
      refine ⟨pt,_,rfl, .inr (SqT.of zC),rfl,rfl,_,rfl, ?_⟩
      have hpT:=sT _ _ hp5
      have gT:=g5.trans sT
      generalize upd H5 pt (.tup [V.int 4,V.int 5]) = HT at hpT gT ⊢
      generalize (if false = true then _ else _ : Bool) = bb
      cases bb with
      | false=>exact iN (by decide) ⟨p,ks,rfl,gT,hpT,hks,by omega⟩
      | true =>
        refine iP rfl fun pn hpn'=>?_
        have sN:=zD hpn' (.lst [kV k2])
        refine ⟨p,pn,_,_,rfl,rfl,sN _ _ hpT,zC,by rw [sizeLine_eq,List.length_map]; show ks.length + 1 ≤ _; omega,fun pc hpc=>?_⟩
        refine ⟨pc,ks ++ [k2],rfl,gT.trans (sN.trans (zD hpc _)),by rw [zC,List.map_append]; rfl,fun k hk=>?_,by rw [List.length_append]; show ks.length + 1 ≤ 9; omega⟩
        rcases List.mem_append.mp hk with z | z
        · exact hks k z
        · rw [List.mem_singleton.mp z]; exact hok2
    rintro σ' H6 ⟨p1,ks1,rfl,g6,hp6,hks1,hl1⟩
    walk_at "rd3"
    refine ⟨fun σ' H'=>∃ (p2 : Addr) (ks2 : List Key) (o10 : Option V),σ' = [some (.ref a),some (.int k0),some v,some (.ref p2),some c,o5,o6,o7,some (.int more),some (kV k2),o10] ∧ Same H H' ∧ H' p2 = some (.lst (ks2.map kV)) ∧ (∀ k ∈ ks2,okK k) ∧ ks2.length ≤ 30, ?_, ?_⟩
    · by_cases c6 : more % 8 = 6
      · refine iP c6 fun pe hpe=>?_
        have sE:=zD hpe (.lst [])
        refine ⟨p1,pe,_,rfl,rfl,SqL.of (sE _ _ hp6),SqL.of zC,_,rfl, ?_⟩
        have hpE:=sE _ _ hp6
        have gE:=g6.trans sE
        generalize upd H6 pe (.lst []) = HE at hpE gE ⊢
        cases hks1c : ks1 with
        | nil =>
          subst hks1c
          exact iN (by simp) ⟨p1,[],none,rfl,gE,hpE,hks1,by simp⟩
        | cons k5 r5 =>
          rw [← hks1c]
          refine iP (by rw [hks1c]; rfl) ⟨_,SqL.of hpE,by rw [hks1c]; simp, ?_⟩
          refine ⟨p1,_,rfl,SqL.of hpE,fun q1 hq1=>?_⟩
          obtain ⟨ksA,eA,lA,mA⟩:=zEu ks1 none (some (more / 8 % ((ks1.map kV).length : Int)))
          rw [eA]
          have sA:=zD hq1 (.lst (ksA.map kV))
          intro q2 hq2
          have sB:=zD hq2 (.lst [kV k2])
          refine ⟨q1,q2,_,_,rfl,rfl,sB _ _ zC,zC,by rw [sizeLine_eq,List.length_map]; show ksA.length + 1 ≤ _; omega,fun q3 hq3=>?_⟩
          have sC:=zD hq3 (.lst (ksA.map kV ++ [kV k2]))
          refine ⟨p1,_,rfl,SqL.of (sC _ _ (sB _ _ (sA _ _ hpE))),fun q4 hq4=>?_⟩
          obtain ⟨ksB,eB,lB,mB⟩:=zEu ks1 (some (more / 8 % ((ks1.map kV).length : Int) + 1)) none
          rw [eB]
          have sD:=zD hq4 (.lst (ksB.map kV))
          refine ⟨q3,q4,_,_,rfl,rfl,sD _ _ zC,zC,by rw [sizeLine_eq,List.length_append,List.length_map,List.length_map]; show ksA.length + 1 + ksB.length ≤ _; omega,fun q5 hq5=>?_⟩
          refine ⟨q5,ksA ++ [k2] ++ ksB,_,rfl,gE.trans (sA.trans (sB.trans (sC.trans (sD.trans (zD hq5 _))))),by rw [zC,List.map_append,List.map_append]; rfl,fun k hk=>?_,by rw [List.length_append,List.length_append]; show ksA.length + 1 + ksB.length ≤ 30; omega⟩
          rcases List.mem_append.mp hk with z | z
          · rcases List.mem_append.mp z with z | z
            · exact hks1 k (mA k z)
            · rw [List.mem_singleton.mp z]; exact hok2
          · exact hks1 k (mB k z)
      · exact iN c6 ⟨p1,ks1,none,rfl,g6,hp6,hks1,by omega⟩
    rintro σ' H7 ⟨p2,ks2,o10,rfl,g7,hp7,hks2,hl2⟩
    walk_at "rd3"
    refine ⟨fun σ' H'=>∃ (p3 : Addr) (ks3 : List Key) (o5 o10 : Option V),σ' = [some (.ref a),some (.int k0),some v,some (.ref p3),some c,o5,o6,o7,some (.int more),some (kV k2),o10] ∧ Same H H' ∧ H' p3 = some (.lst (ks3.map kV)) ∧ (∀ k ∈ ks3,okK k) ∧ ks3.length ≤ 30, ?_, ?_⟩
    · by_cases c7 : more % 8 = 7
      · refine iP c7 ⟨by omega,by omega,xG (fun i ys H'=>Same H H' ∧ ∃ ks3 : List Key,ys = ks3.map kV ∧ ks3.length = i ∧ ∀ k ∈ ks3,okK k) (by rw [sizeLine_eq]; omega) ⟨g7,[],rfl,rfl,fun k h=>absurd h List.not_mem_nil⟩ ?_ ?_⟩
        · rintro i ys H' hi _ ⟨hs,ks3,rfl,hl,hb⟩
          walk_at "rd3"
          refine yM (hs.seq hS) h63 (by omega) (by omega) fun H9 g9=>⟨_,rfl,xW _ _,by have:=wP ns (k0 + 11 + (0 + (i : Int))); omega,fun k3 HA gA hok3=>⟨hs.trans (g9.trans gA),ks3 ++ [k3],by simp,by simp [hl],fun k hk=>?_⟩⟩
          rcases List.mem_append.mp hk with z | z
          · exact hb k z
          · rw [List.mem_singleton.mp z]; exact hok3
        · rintro ys H' hl ⟨hs,ks3,rfl,hl',hb⟩ pn hpn'
          exact ⟨pn,ks3,_,_,rfl,hs.trans (zD hpn' _),zC,hb,by omega⟩
      · exact iN c7 ⟨p2,ks2,_,_,rfl,g7,hp7,hks2,hl2⟩
    rintro σ' H8 ⟨p3,ks3,o5',o10',rfl,g8,hp8,hks3,hl3⟩
    walk_at "rd3"
    refine ⟨p3,_,rfl,SqL.of hp8,fun pz hpz=>?_⟩
    rw [cut8]
    exact q pz (ks3.take 8) _ (g8.trans (zD hpz _)) zC (fun k hk=>hks3 k (List.mem_of_mem_take hk)) (by rw [List.length_take]; omega)
end
end K37
namespace K37
open PySem L2
seal L2.PSs L2.PS L2.PE L2.PT L2.PW L2.PA L2.PI L2.PG L2.PGs L2.PPs L2.PTs
abbrev sMk : Stmt:=top 56
abbrev sOwn : Stmt:=top 57
theorem zLy {α : Type} {l : List α} {i : Nat} {a : α} (h : l[i]? = some a) : l.drop i = a :: l.drop (i + 1):=by
  obtain ⟨hi,e⟩:=List.getElem?_eq_some_iff.mp h
  rw [List.drop_eq_getElem_cons hi,e]
theorem zz_nK : (Sum.inr (Str.ofString "zz") : Key) = nK zzN:=by
  show (Sum.inr _ : Key) = Sum.inr (tx (ts _))
  rw [wV]
theorem zLa {us : List T} {i : Nat} {t : T} (h : us[i]? = some t) : us.getD i .non = t:=by rw [List.getD_eq_getElem?_getD,h]; rfl
section
variable {P : Program} {w : World} {K : PySem.W.Frag} {mg : Str → Option Value} {base : Heap} {f : Addr} {fd : FuncData}
def spMk (n : Nat) : Sp:=fun vs H Q _=>∃ (v : V) (t : T) (D : List Addr) (c : Int),vs = [v, .int c] ∧ Sp1 H v t D ∧ T.fewq t ∧ T.dep t < n ∧ ∀ H' D',Keep D H H' → Sp1 H' v (mrkT n t c).1 D' → (∀ b ∈ D',b ∈ D) → Q (.int (mrkT n t c).2) H'
theorem scMk : FnScope ["_law_thing","_law_count","_law_name","_law_one"] ["_law_thing","_law_count"] (defScope sMk):=⟨rfl,rfl,rfl,by decide +kernel,rfl,by decide +kernel,by decide +kernel⟩
def MkW (n : Nat) (H : Hp) (a : Addr) (D' : List Addr) (o0 : HO) (xs : List V) (us : List T) (is : List Nat) (c : Int) (i : Nat) (ci : Int) (H2 : Hp) : Prop :=
  ∃ (usi : List T) (Di : List Addr),Keep (a :: D') H H2 ∧ H2 a = some o0 ∧ Sps H2 xs usi Di ∧ (∀ b ∈ Di,b ∈ D') ∧ usi.length = us.length ∧ mrkV (mrkT n) (is.drop i) usi ci = mrkV (mrkT n) is us c ∧ ∀ j ∈ is.drop i,usi[j]? = us[j]?
theorem MkW.next {n : Nat} {H : Hp} {a : Addr} {D' : List Addr} {o0 : HO} {xs : List V} {us : List T} {is : List Nat} {c : Int} {i j : Nat} {ci : Int} {H2 : Hp} (h : MkW n H a D' o0 xs us is c i ci H2) (haD : a ∉ D') (hn : is.Nodup) (hj : is[i]? = some j) {t : T} (ht : us[j]? = some t) :
    ∃ v D1,xs[j]? = some v ∧ Sp1 H2 v t D1 ∧ (∀ b ∈ D1,b ∈ D') ∧ ∀ H3 D1',Keep D1 H2 H3 → Sp1 H3 v (mrkT n t ci).1 D1' → (∀ b ∈ D1',b ∈ D1) → MkW n H a D' o0 xs us is c (i + 1) (mrkT n t ci).2 H3:=by
  obtain ⟨usi,Di,k2,ha2,hS,hDi,hl,hmk,hsame⟩:=h
  have ed:=zLy hj
  have hti : usi[j]? = some t:=by rw [hsame j (by rw [ed]; exact List.mem_cons_self)]; exact ht
  obtain ⟨v,D1,g1,g2,g3,g4⟩:=hS.at hti
  refine ⟨v,D1,g1,g2,fun b hb=>hDi b (g3 b hb),fun H3 D1' k3 hs hsub=>?_⟩
  obtain ⟨D2,e1,e2⟩:=g4 H3 _ D1' hs hsub k3
  refine ⟨_,D2,k2.trans (k3.mono fun b hb=>List.mem_cons_of_mem _ (hDi b (g3 b hb))),k3 _ _ (fun z=>haD (hDi a (g3 a z))) ha2,e1,fun b hb=>hDi b (e2 b hb),by rw [List.length_set]; exact hl, ?_,fun j' hj'=>?_⟩
  · rw [← hmk,ed]
    show _ = mrkV (mrkT n) (is.drop (i + 1)) (usi.set j (mrkT n (usi.getD j .non) ci).1) (mrkT n (usi.getD j .non) ci).2
    rw [zLa hti]
  · have hne : j' ≠ j:=fun z=>by
      have hnd : (is.drop i).Nodup:=hn.sublist (List.drop_sublist i is)
      rw [ed,List.nodup_cons] at hnd
      exact hnd.1 (z ▸ hj')
    rw [List.getElem?_set_ne (Ne.symm hne)]
    exact hsame j' (by rw [ed]; exact List.mem_cons_of_mem _ hj')
theorem MkW.fin {n : Nat} {H : Hp} {a : Addr} {D' : List Addr} {o0 : HO} {xs : List V} {us : List T} {is : List Nat} {c : Int} {i : Nat} {ci : Int} {H2 : Hp} (h : MkW n H a D' o0 xs us is c i ci H2) (hi : is.length ≤ i) :
    ∃ (usi : List T) (Di : List Addr),Keep (a :: D') H H2 ∧ H2 a = some o0 ∧ Sps H2 xs usi Di ∧ (∀ b ∈ Di,b ∈ D') ∧ usi.length = us.length ∧ mrkV (mrkT n) is us c = (usi,ci):=by
  obtain ⟨usi,Di,k2,ha2,hS,hDi,hl,hmk,_⟩:=h
  rw [List.drop_of_length_le hi] at hmk
  exact ⟨usi,Di,k2,ha2,hS,hDi,hl,hmk.symm⟩
theorem zNe {n : Nat} (F : Fun K "_law_marked" "_law_marked" sMk f fd) (B : Bl2 mg) (G_law_marked : Dn P w K mg base (1 + n) "_law_marked" ["_law_thing","_law_count"] (spMk n)) : FnOk P w K mg base CX0 (1 + n + 1) f fd ["_law_thing","_law_count"] (spMk (n + 1)):=by
  refine F.ok scMk (fun vs H Q E h=>?_) (fun cdv A outer s H vs Q E hr h=>?_)
  · obtain ⟨v,t,D,c,rfl,_⟩:=h
    rfl
  obtain ⟨v,t,D,c,rfl,hv,hf,hd,q⟩:=h
  have nd:=scMk.nd
  have hu:=wK hr
  refine ⟨_,(zF (zW (zZ (zJ (zQ (T:="dict") (by decide)) rfl B.isinstance zI (zA (pv 0) (zA (zR (v:=.ty "dict") rfl B.dict yN rfl) zB)))) (zF (wH PassesOwn.never rfl (qH (zJ (qT rfl) rfl B.sorted uL (zA (pv 0) zB))) (yC (i:=2) nd rfl (Or.inl rfl)) (zG (zO (i:=1) nd rfl (Or.inl rfl) (zV G_law_marked hr (by omega) rfl (zA (wW hu (pv 0) (pv 2) (fun _ _=>rfl)) (zA (pv 1) zB))))))
    (zG (vQ hu (pv 0) zX (pv 1) rfl))) zK)
    (zF (zW (zZ (zJ (qL (T:="list") (U:="tuple") (by decide) (by decide)) rfl B.isinstance zI (zA (pv 0) (zA (yT (zA (zR (v:=.ty "list") rfl B.list yO rfl) (zA (zR (v:=.ty "tuple") rfl B.tuple xI rfl) zB))) zB)))) (zG (wH PassesOwn.never rfl (qH (yE vR rfl B.list yO (zA (pv 0) zB))) (yC (i:=3) nd rfl (Or.inl rfl)) (zG (zO (i:=1) nd rfl (Or.inl rfl) (zV G_law_marked hr (by omega) rfl (zA (pv 3) (zA (pv 1) zB))))))) zK)
    (zF (zW (zZ (zJ (zQ (T:="list") (by decide)) rfl B.isinstance zI (zA (pv 0) (zA (zR (v:=.ty "list") rfl B.list yO rfl) zB)))) (zG (wF (jR PySem.F.plainAttrs_list PySem.F.slot_list_append PySem.F.type_list_append vG (pv 0) (zA (pv 1) zB)))) zK)
    (zG (zL (zH yA (pv 1) zE)))))), ?_⟩
  rw [show start ["_law_thing","_law_count","_law_name","_law_one"] [v, .int c] = [some v,some (.int c),none,none] from rfl]
  walk_at "rd3"
  cases t with
  | lst us =>
    obtain ⟨a,xs,D',rfl,ha,rfl,haD,hs⟩:=hv
    refine ⟨"list",xM ha,iN (by decide) fun p hp=>?_⟩
    have s1:=zD hp (.tup [V.ty "list",V.ty "tuple"])
    have e1:=zC (H:=H) (a:=p) (o:=.tup [V.ty "list",V.ty "tuple"])
    generalize upd H p (.tup [V.ty "list",V.ty "tuple"]) = H1 at s1 e1 ⊢
    have ha1:=s1 _ _ ha
    have hul:=hf.1
    have hxl:=hs.length
    have hd' : T.deps us + 1 < n + 1:=hd
    refine ⟨_,"list",p,⟨rfl,rfl⟩,e1,xM ha1,iP (by decide) ⟨a,rfl,xs, .inl (SqL.of ha1),fun l hl=>⟨⟨_,SqL.of zC⟩, ?_⟩⟩⟩
    have s2:=zD hl (.lst xs)
    have e2:=zC (H:=H1) (a:=l) (o:=.lst xs)
    have hl0:=zN s1 hl
    generalize upd H1 l (.lst xs) = H2 at s2 e2 ⊢
    have g2:=s1.trans s2
    have hla : l ∉ a :: D':=fun z=>by
      rcases List.mem_cons.mp z with z | z
      · rw [z,ha] at hl0; cases hl0
      · obtain ⟨o,ho⟩:=Sps.there _ _ _ hs z
        rw [hl0] at ho; cases ho
    refine vI (K:=K) (a:=l) (xs:=xs) (fun i σ H2=>∃ o ci,σ = [some (V.ref a),some (.int ci),none,o] ∧ H2 l = some (.lst xs) ∧ MkW n H a D' (.lst xs) xs us (List.range us.length) c i ci H2) ⟨_,_,rfl,e2,us,D',Keep.of g2,g2 _ _ ha,hs.same g2,fun _ h=>h,rfl,rfl,fun _ _=>rfl⟩ (fun i σ H2 _ h=>by
      obtain ⟨o,ci,_,h,_⟩:=h
      exact SqL.of h) ?_ ?_
    · rintro i x σ H3 hx ⟨o,ci,rfl,hl3,hW⟩
      have hi : i < us.length:=by have:=(List.getElem?_eq_some_iff.mp hx).1; omega
      have hm:=List.getElem_mem hi
      have d1:=T.deps_le hm
      obtain ⟨v',D1,g1,g2,g3,g4⟩:=hW.next haD List.nodup_range (j:=i) (by simp [hi]) (List.getElem?_eq_getElem hi)
      rw [hx] at g1
      cases g1
      walk_at "rd3"
      exact ⟨x,us[i],D1,ci,rfl,g2,T.fewqs_mem hf.2 hm,by omega,fun H4 D1' k4 hs4 hsub=>⟨_,_,⟨rfl,rfl⟩,k4 _ _ (fun z=>hla (List.mem_cons_of_mem _ (g3 l z))) hl3,g4 H4 D1' k4 hs4 hsub⟩⟩
    · rintro σ H3 ⟨o,ci,rfl,hl3,hW⟩
      obtain ⟨usi,Di,k3,ha3,hS,hDi,hli,hmk⟩:=hW.fin (by rw [List.length_range]; omega)
      walk_at "rd3"
      refine ⟨"list",xM ha3,iP (by decide) ⟨.inl ⟨rfl,_,SqL.of ha3⟩,a,xs, .int ci,rfl,rfl,ha3,by rw [sizeLine_eq]; omega, ?_⟩⟩
      have e : mrkT (n + 1) (.lst us) c = (.lst (usi ++ [.int ci]),ci + 1):=by
        show mrkL (mrkV (mrkT n) (List.range us.length) us c) = _
        rw [hmk]; rfl
      have haDi : a ∉ Di:=fun z=>haD (hDi a z)
      have:=q (upd H3 a (.lst (xs ++ [.int ci]))) (a :: Di) (k3.put _ List.mem_cons_self)
      rw [e] at this
      refine this ⟨a,_,Di,rfl,zC,rfl,haDi, ?_⟩ fun b hb=>?_
      · have:=Sps.snoc (show Sp1 (upd H3 a (.lst (xs ++ [.int ci]))) (.int ci) (.int ci) [] from ⟨rfl,rfl⟩) (Sps.keep _ _ _ (fun b hb o _ e=>by rw [zM (show b ≠ a from fun z=>haDi (z ▸ hb))]; exact e) hS) (fun _ _ z=>nomatch z)
        rw [List.append_nil] at this
        exact this
      · rcases List.mem_cons.mp hb with z | z
        · rw [z]; exact List.mem_cons_self
        · exact List.mem_cons_of_mem _ (hDi b z)
  | dic ks us =>
    obtain ⟨a,ps,D',rfl,ha,hk,rfl,haD,hs⟩:=hv
    obtain ⟨nk,h64,hle,hf⟩:=hf
    have hxl:=hs.length
    rw [List.length_map] at hxl
    have hd' : T.deps us + 1 < n + 1:=hd
    have nkp : (ps.map (·.1)).Nodup:=by rw [hk]; exact xS nk
    refine ⟨"dict",xR ha,iP (by decide) ⟨a,rfl,ps, .inl ha,ks.map tx,by rw [hk,List.map_map]; rfl,by rw [List.length_map]; exact h64,fun l ss hl hp1 hs1=>⟨⟨_,SqL.of zC⟩, ?_⟩⟩⟩
    have es:=jI hp1 hs1
    subst es
    have s2:=zD hl (.lst (((sortK ks).map tx).map V.str))
    have e2:=zC (H:=H) (a:=l) (o:=.lst (((sortK ks).map tx).map V.str))
    generalize upd H l (.lst (((sortK ks).map tx).map V.str)) = H2 at s2 e2 ⊢
    have hla : l ∉ a :: D':=fun z=>by
      rcases List.mem_cons.mp z with z | z
      · rw [z,ha] at hl; cases hl
      · obtain ⟨o,ho⟩:=Sps.there _ _ _ hs z
        rw [hl] at ho; cases ho
    refine vI (K:=K) (a:=l) (xs:=((sortK ks).map tx).map V.str) (fun i σ H2=>∃ o ci,σ = [some (V.ref a),some (.int ci),o,none] ∧ H2 l = some (.lst (((sortK ks).map tx).map V.str)) ∧ MkW n H a D' (.dK ps) (ps.map (·.2)) us (ixs ks) c i ci H2) ⟨_,_,rfl,e2,us,D',Keep.of s2,s2 _ _ ha,hs.same s2,fun _ h=>h,rfl,rfl,fun _ _=>rfl⟩ (fun i σ H2 _ h=>by
      obtain ⟨o,ci,_,h,_⟩:=h
      exact SqL.of h) ?_ ?_
    · rintro i x σ H3 hx ⟨o,ci,rfl,hl3,hW⟩
      obtain ⟨k,hks,rfl⟩ : ∃ k,(sortK ks)[i]? = some k ∧ x = .str (tx k):=by
        rw [List.getElem?_map,List.getElem?_map] at hx
        cases hc : (sortK ks)[i]? with
        | none=>rw [hc] at hx; cases hx
        | some k=>rw [hc] at hx; exact ⟨k,rfl,(Option.some.inj hx).symm⟩
      have hkm : k ∈ ks:=mem_sortK.mp (List.mem_of_getElem? hks)
      have hjk:=zAv hkm
      have hj : ks.idxOf k < us.length:=by have:=List.idxOf_lt_length_of_mem hkm; omega
      have hm:=List.getElem_mem hj
      have d1:=T.deps_le hm
      obtain ⟨v',D1,g1,g2,g3,g4⟩:=hW.next haD (uN nk) (j:=ks.idxOf k) (by unfold ixs; rw [List.getElem?_map,hks]; rfl) (List.getElem?_eq_getElem hj)
      obtain ⟨kv,hkv,rfl⟩ : ∃ kv,ps[ks.idxOf k]? = some kv ∧ kv.2 = v':=by
        rw [List.getElem?_map] at g1
        cases hc : ps[ks.idxOf k]? with
        | none=>rw [hc] at g1; cases g1
        | some kv=>rw [hc] at g1; exact ⟨kv,rfl,Option.some.inj g1⟩
      have hk1 : kv.1 = nK k:=by
        have h1 : (ps.map (·.1))[ks.idxOf k]? = some kv.1:=by rw [List.getElem?_map,hkv]; rfl
        rw [hk,List.getElem?_map,hjk] at h1
        exact (Option.some.inj h1).symm
      have hvv : valV ps (nK k) = some kv.2:=qI nkp (by rw [hkv,← hk1])
      have ha3 : H3 a = some (.dK ps):=by obtain ⟨_,_,_,h,_⟩:=hW; exact h
      walk_at "rd3"
      exact ⟨kv.2, .inl ⟨ps,nK k, .inl ha3,rfl,hvv.symm⟩,kv.2,us[ks.idxOf k],D1,ci,rfl,g2,T.fewqs_mem hf hm,by omega,fun H4 D1' k4 hs4 hsub=>⟨_,_,⟨rfl,rfl⟩,k4 _ _ (fun z=>hla (List.mem_cons_of_mem _ (g3 l z))) hl3,g4 H4 D1' k4 hs4 hsub⟩⟩
    · rintro σ H3 ⟨o,ci,rfl,hl3,hW⟩
      obtain ⟨usi,Di,k3,ha3,hS,hDi,hli,hmk⟩:=hW.fin (by rw [List.length_map,List.length_map]; unfold ixs; rw [List.length_map]; exact Nat.le_refl _)
      walk_at "rd3"
      refine ⟨_,DPut.k (k:=Sum.inr (Str.ofString "zz")) ha3 (by rw [sizeLine_eq]; omega), ?_⟩
      rw [zz_nK]
      obtain ⟨hk5,D5,hS5,hD5⟩:=Sps.put (n:=zzN) (c:=ci) hk hS
      have haD5 : a ∉ D5:=fun z=>haD (hDi a (hD5 a z))
      have k4:=k3.put (.dK (putK ps (nK zzN) (.int ci))) (a:=a) List.mem_cons_self
      have ha4:=zC (H:=H3) (a:=a) (o:=.dK (putK ps (nK zzN) (.int ci)))
      have hS6 : Sps (upd H3 a (.dK (putK ps (nK zzN) (.int ci)))) ((putK ps (nK zzN) (.int ci)).map (·.2)) (putT (ks,usi) zzN (.int ci)).2 D5:=Sps.keep _ _ _ (fun b hb o _ e=>by rw [zM (show b ≠ a from fun z=>haD5 (z ▸ hb))]; exact e) hS5
      generalize upd H3 a (.dK (putK ps (nK zzN) (.int ci))) = H4 at k4 ha4 hS6 ⊢
      intro p hp
      have s5:=zD hp (.tup [V.ty "list",V.ty "tuple"])
      have e5:=zC (H:=H4) (a:=p) (o:=.tup [V.ty "list",V.ty "tuple"])
      generalize upd H4 p (.tup [V.ty "list",V.ty "tuple"]) = H5 at s5 e5 ⊢
      have ha5:=s5 _ _ ha4
      refine ⟨_,"dict",p,⟨rfl,rfl⟩,e5,xR ha5,iN (by decide) ⟨"dict",xR ha5,iN (by decide) ?_⟩⟩
      have e : mrkT (n + 1) (.dic ks us) c = (.dic (putT (ks,usi) zzN (.int ci)).1 (putT (ks,usi) zzN (.int ci)).2,ci + 1):=by
        show mrkD ks (mrkV (mrkT n) (ixs ks) us c) = _
        rw [hmk]; rfl
      have:=q H5 (a :: D5) (k4.trans (Keep.of s5))
      rw [e] at this
      refine this ⟨a,_,D5,rfl,ha5,hk5,rfl,haD5,hS6.same s5⟩ fun b hb=>?_
      rcases List.mem_cons.mp hb with z | z
      · rw [z]; exact List.mem_cons_self
      · exact List.mem_cons_of_mem _ (hDi b (hD5 b z))
  | tup us =>
    obtain ⟨a,xs,D',rfl,ha,rfl,haD,hs⟩:=hv
    refine ⟨"tuple",qM ha,iN (by decide) fun p hp=>?_⟩
    have s1:=zD hp (.tup [V.ty "list",V.ty "tuple"])
    have e1:=zC (H:=H) (a:=p) (o:=.tup [V.ty "list",V.ty "tuple"])
    generalize upd H p (.tup [V.ty "list",V.ty "tuple"]) = H1 at s1 e1 ⊢
    have ha1:=s1 _ _ ha
    have hul:=hf.1
    have hxl:=hs.length
    have hd' : T.deps us + 1 < n + 1:=hd
    refine ⟨_,"tuple",p,⟨rfl,rfl⟩,e1,qM ha1,iP (by decide) ⟨a,rfl,xs, .inr (SqT.of ha1),fun l hl=>⟨⟨_,SqL.of zC⟩, ?_⟩⟩⟩
    have s2:=zD hl (.lst xs)
    have e2:=zC (H:=H1) (a:=l) (o:=.lst xs)
    have hl0:=zN s1 hl
    generalize upd H1 l (.lst xs) = H2 at s2 e2 ⊢
    have g2:=s1.trans s2
    have hla : l ∉ a :: D':=fun z=>by
      rcases List.mem_cons.mp z with z | z
      · rw [z,ha] at hl0; cases hl0
      · obtain ⟨o,ho⟩:=Sps.there _ _ _ hs z
        rw [hl0] at ho; cases ho
    refine vI (K:=K) (a:=l) (xs:=xs) (fun i σ H2=>∃ o ci,σ = [some (V.ref a),some (.int ci),none,o] ∧ H2 l = some (.lst xs) ∧ MkW n H a D' (.tup xs) xs us (List.range us.length) c i ci H2) ⟨_,_,rfl,e2,us,D',Keep.of g2,g2 _ _ ha,hs.same g2,fun _ h=>h,rfl,rfl,fun _ _=>rfl⟩ (fun i σ H2 _ h=>by
      obtain ⟨o,ci,_,h,_⟩:=h
      exact SqL.of h) ?_ ?_
    · rintro i x σ H3 hx ⟨o,ci,rfl,hl3,hW⟩
      have hi : i < us.length:=by have:=(List.getElem?_eq_some_iff.mp hx).1; omega
      have hm:=List.getElem_mem hi
      have d1:=T.deps_le hm
      obtain ⟨v',D1,g1,g2,g3,g4⟩:=hW.next haD List.nodup_range (j:=i) (by simp [hi]) (List.getElem?_eq_getElem hi)
      rw [hx] at g1
      cases g1
      walk_at "rd3"
      exact ⟨x,us[i],D1,ci,rfl,g2,T.fewqs_mem hf.2 hm,by omega,fun H4 D1' k4 hs4 hsub=>⟨_,_,⟨rfl,rfl⟩,k4 _ _ (fun z=>hla (List.mem_cons_of_mem _ (g3 l z))) hl3,g4 H4 D1' k4 hs4 hsub⟩⟩
    · rintro σ H3 ⟨o,ci,rfl,hl3,hW⟩
      obtain ⟨usi,Di,k3,ha3,hS,hDi,hli,hmk⟩:=hW.fin (by rw [List.length_range]; omega)
      walk_at "rd3"
      refine ⟨"tuple",qM ha3,iN (by decide) ?_⟩
      have e : mrkT (n + 1) (.tup us) c = (.tup usi,ci + 1):=by
        show mrkU (mrkV (mrkT n) (List.range us.length) us c) = _
        rw [hmk]; rfl
      have haDi : a ∉ Di:=fun z=>haD (hDi a z)
      have:=q H3 (a :: Di) k3
      rw [e] at this
      refine this ⟨a,_,Di,rfl,ha3,rfl,haDi,hS⟩ fun b hb=>?_
      rcases List.mem_cons.mp hb with z | z
      · rw [z]; exact List.mem_cons_self
      · exact List.mem_cons_of_mem _ (hDi b z)
  | non =>
    have hv' : v = .non:=hv.2
    subst hv'
    refine ⟨_,rfl,iN (by decide) fun p hp=>⟨_,_,p,⟨rfl,rfl⟩,zC,rfl,iN (by decide) ⟨_,rfl,iN (by decide) ?_⟩⟩⟩
    exact q _ [] (Keep.of (zD hp _)) ⟨rfl,rfl⟩ (fun _ h=>nomatch h)
  | bl b =>
    have hv' : v = .bl b:=hv.2
    subst hv'
    refine ⟨_,rfl,iN (by decide) fun p hp=>⟨_,_,p,⟨rfl,rfl⟩,zC,rfl,iN (by decide) ⟨_,rfl,iN (by decide) ?_⟩⟩⟩
    exact q _ [] (Keep.of (zD hp _)) ⟨rfl,rfl⟩ (fun _ h=>nomatch h)
  | int b =>
    have hv' : v = .int b:=hv.2
    subst hv'
    refine ⟨_,rfl,iN (by decide) fun p hp=>⟨_,_,p,⟨rfl,rfl⟩,zC,rfl,iN (by decide) ⟨_,rfl,iN (by decide) ?_⟩⟩⟩
    exact q _ [] (Keep.of (zD hp _)) ⟨rfl,rfl⟩ (fun _ h=>nomatch h)
  | str b =>
    have hv' : v = .str (tx b):=hv.2
    subst hv'
    refine ⟨_,rfl,iN (by decide) fun p hp=>⟨_,_,p,⟨rfl,rfl⟩,zC,rfl,iN (by decide) ⟨_,rfl,iN (by decide) ?_⟩⟩⟩
    exact q _ [] (Keep.of (zD hp _)) ⟨rfl,rfl⟩ (fun _ h=>nomatch h)
theorem zNs (F : Fun K "_law_marked" "_law_marked" sMk f fd) : FnOk P w K mg base CX0 1 f fd ["_law_thing","_law_count"] (spMk 0):=by
  refine F.ok scMk (fun vs H Q E h=>?_) (fun cdv A outer s H vs Q E hr h=>?_)
  · obtain ⟨v,t,D,c,rfl,_⟩:=h
    rfl
  obtain ⟨v,t,D,c,rfl,hv,hf,hd,_⟩:=h
  exact absurd hd (Nat.not_lt_zero _)
theorem zJi (F : Fun K "_law_marked" "_law_marked" sMk f fd) (B : Bl2 mg) (b : Binds K fd ["_law_thing","_law_count"] []) (kp : PySem.W.keepIn K (.ref f) = true) (m : mg "_law_marked" = some (.ref f)) : ∀ n : Nat,FnOk P w K mg base CX0 (1 + n) f fd ["_law_thing","_law_count"] (spMk n)
  | 0=>zNs F
  | n + 1=>zNe F B ⟨_,_,zJi F B b kp m n,b,kp,m⟩
def spOwn : Sp:=fun vs H Q _=>∃ (v : V) (t : T) (D : List Addr),vs = [v] ∧ Sp1 H v t D ∧ T.fewq t ∧ T.okq t ∧ T.dep t < 20 ∧ ∀ H',Keep D H H' → Q (.bl true) H'
theorem scOwn : FnScope ["_law_found","_law_due"] ["_law_found"] (defScope sOwn):=⟨rfl,rfl,rfl,by decide +kernel,rfl,by decide +kernel,by decide +kernel⟩
theorem zMm (F : Fun K "_law_own" "_law_own" sOwn f fd) (G_law_copy : Dn P w K mg base (1 + 20) "_law_copy" ["_law_thing"] (spCo 20)) (G_law_marked : Dn P w K mg base (1 + 20) "_law_marked" ["_law_thing","_law_count"] (spMk 20)) (G_law_alike : Dn P w K mg base (2 + 20) "_law_alike" ["_law_found","_law_due"] (spAlike 20)) : FnOk P w K mg base CX0 23 f fd ["_law_found"] spOwn:=by
  refine F.ok scOwn (fun vs H Q E h=>?_) (fun cdv A outer s H vs Q E hr h=>?_)
  · obtain ⟨v,t,D,rfl,_⟩:=h
    rfl
  obtain ⟨v,t,D,rfl,hv,hf,hq,hd,q⟩:=h
  have nd:=scOwn.nd
  refine ⟨_,(zF (zO (i:=1) nd rfl (Or.inl rfl) (zV G_law_copy hr (by omega) rfl (zA (pv 0) zB)))
    (zF (wF (zV G_law_marked hr (by omega) rfl (zA (pv 0) (zA zE zB))))
    (zF (wF (zV G_law_marked hr (by omega) rfl (zA (pv 1) (zA zE zB))))
    (zG (zL (zV G_law_alike hr (by omega) rfl (zA (pv 0) (zA (pv 1) zB)))))))), ?_⟩
  rw [show start ["_law_found","_law_due"] [v] = [some v,none] from rfl]
  walk_at "rd3"
  refine ⟨v,t,rfl,Sp1.rep _ _ _ hv,hq,hd,fun v' H1 D1 g1 hv1 hD1=>⟨v,t,D,100,rfl,hv.same g1,hf,hd,fun H2 D2 k2 hv2 hD2=>?_⟩⟩
  have dis : ∀ b ∈ D1,b ∉ D:=fun b hb z=>by
    obtain ⟨o,ho⟩:=Sp1.there _ _ _ hv z
    rw [hD1 b hb] at ho; cases ho
  refine ⟨v',t,D1,100,rfl,Sp1.keep _ _ _ (fun b hb o _ e=>k2 b o (dis b hb) e) hv1,hf,hd,fun H3 D3 k3 hv3 hD3=>?_⟩
  obtain ⟨o1,o2⟩:=kJ 20 t 100 hf hd
  refine ⟨v,v',_,_,rfl,Sp1.rep _ _ D2 (Sp1.keep _ _ _ (fun b hb o _ e=>k3 b o (fun z=>dis b z (hD2 b hb)) e) hv2),Sp1.rep _ _ _ hv3,Sm.refl 20 _ o1 o2,fun H4 g4=>q H4 fun b o hb e=>g4 _ _ (k3 b o (fun z=>?_) (k2 b o hb (g1 _ _ e)))⟩
  rw [hD1 b z] at e; cases e
end
end K37
namespace K37
open PySem L2
seal L2.PSs L2.PS L2.PE L2.PT L2.PW L2.PA L2.PI L2.PG L2.PGs L2.PPs L2.PTs
abbrev sSpo : Stmt:=top 55
section
variable {P : Program} {w : World} {K : PySem.W.Frag} {mg : Str → Option Value} {base : Heap} {f : Addr} {fd : FuncData}
def spSpo : Sp:=fun vs H Q _=>∃ (v : V) (t : T) (HD : Hp) (k : Nat),vs = [v] ∧ Rep HD v t ∧ Mx HD k H ∧ T.few t ∧ T.sz t ≤ 2700 ∧ k + T.cn t ≤ 2700 ∧ ∀ H',Mx HD (k + T.cn t) H' → My HD H H' → Q .non H'
theorem scSpo : FnScope ["_law_thing","_law_rest","_law_one"] ["_law_thing"] (defScope sSpo):=⟨rfl,rfl,rfl,by decide +kernel,rfl,by decide +kernel,by decide +kernel⟩
def SpW (HD H : Hp) (kM : Nat) (v : V) (m : Nat) (σ : St) (H2 : Hp) : Prop:=∃ (r : Addr) (xs : List V) (us : List T) (k : Nat) (o : Option V),σ = [some v,some (.ref r),o] ∧ H2 r = some (.lst xs) ∧ HD r = none ∧ H r = none ∧ Reps HD xs us ∧ (∀ u ∈ us,T.few u ∧ T.sz u ≤ 2700) ∧ Mx HD k H2 ∧ My HD H H2 ∧ k + T.cns us ≤ kM ∧ m = xs.length + 5400 * T.cns us ∧ m ≤ 14580001
theorem zKo {HD H H3 : Hp} {k : Nat} {r1 : Addr} {o : HO} (hHr : HD r1 = none) (h0 : H r1 = none) (hM3 : Mx HD k H3) (hY3 : My HD H H3) : Mx HD k (upd H3 r1 o) ∧ My HD H (upd H3 r1 o):=by
  refine ⟨fun b u e=>?_,⟨fun b u h e=>?_,fun b ps h e=>?_⟩⟩
  · rw [zM fun z=>by rw [z,hHr] at e; cases e]; exact hM3 b u e
  · rw [zM fun z=>by rw [z,h0] at e; cases e]; exact hY3.keep b u h e
  · rw [zM fun z=>by rw [z,hHr] at h; cases h]; exact hY3.stay b ps h e
theorem zCq {HD H H2 : Hp} {k : Nat} {p : Addr} (hM : Mx HD k H2) (hY : My HD H H2) (hp : H2 p = none) : H p = none:=by
  cases e : H p with
  | none=>rfl
  | some o =>
    have:=hY.keep p o (hM.away hp) e
    rw [hp] at this; cases this
theorem zOg (F : Fun K "_law_spoil" "_law_spoil" sSpo f fd) (B : Bl mg) : FnOk P w K mg base CX0 1 f fd ["_law_thing"] spSpo:=by
  refine F.ok scSpo (fun vs H Q E h=>?_) (fun cdv A outer s H vs Q E hr h=>?_)
  · obtain ⟨v,t,HD,k,rfl,_⟩:=h
    rfl
  obtain ⟨v,t,HD,k0,rfl,hv,hM,hf,hz,hk0,q⟩:=h
  have nd:=scSpo.nd
  have hu:=wK hr
  have hu0:=hr.units0
  refine ⟨_,(zF (zO (i:=1) nd rfl (Or.inl rfl) (yB (zA (pv 0) zB)))
    (zG (zIs PassesOwn.never (zS (zAz hu0) (pv 1) (yB zB) (zT _)) (zF (zO (i:=2) nd rfl (Or.inl rfl) (zEb PySem.F.plainAttrs_list PySem.F.slot_list_pop PySem.F.type_list_pop zMq (pv 1)))
    (zF (zW (zZ (zJ (zQ (T:="dict") (by decide)) rfl B.isinstance zI (zA (pv 2) (zA (zR (v:=.ty "dict") rfl B.dict yN rfl) zB)))) (zF (zO (i:=1) nd rfl (Or.inl rfl) (zH vD (pv 1) (yE (zCy rfl) rfl B.list yO (zA (zEb PySem.F.plainAttrs_dict PySem.F.slot_dict_values PySem.F.type_dict_values zGk (pv 2)) zB))))
    (zG (vQ hu (pv 2) zX zE rfl))) zK)
    (zG (zW (zZ (zJ (qL (T:="list") (U:="tuple") (by decide) (by decide)) rfl B.isinstance zI (zA (pv 2) (zA (yT (zA (zR (v:=.ty "list") rfl B.list yO rfl) (zA (zR (v:=.ty "tuple") rfl B.tuple xI rfl) zB))) zB)))) (zF (zO (i:=1) nd rfl (Or.inl rfl) (zH vD (pv 1) (yE vR rfl B.list yO (zA (pv 2) zB))))
    (zG (zW (zZ (zJ (zQ (T:="list") (by decide)) rfl B.isinstance zI (zA (pv 2) (zA (zR (v:=.ty "list") rfl B.list yO rfl) zB)))) (zG (wF (jR PySem.F.plainAttrs_list PySem.F.slot_list_append PySem.F.type_list_append vG (pv 2) (zA zE zB)))) zK))) zK))))))), ?_⟩
  rw [show start ["_law_thing","_law_rest","_law_one"] [v] = [some v,none,none] from rfl]
  walk_at "rd3"
  intro r hr0
  have hc1 : T.cns [t] = T.cn t:=Nat.add_zero _
  refine ⟨SpW HD H (k0 + T.cn t) v,⟨_,r,[v],[t],k0,none,rfl,zC,hM.away hr0,hr0,⟨v,[],rfl,hv,rfl⟩,(fun u hu=>by rw [List.mem_singleton.mp hu]; exact ⟨hf,hz⟩),hM.new hr0 _,My.same (zD hr0 _),by rw [hc1]; exact Nat.le_refl _,rfl,by rw [hc1,List.length_singleton]; omega⟩, ?_⟩
  rintro m σ H2 ⟨r1,xs,us,k,o,rfl,hr1,hHr,hH0,hR,hall,hM2,hY,hkK,rfl,hm⟩
  walk_at "rd3"
  intro pe hpe
  have s3:=zD hpe (.lst [])
  have hM3:=hM2.new hpe (.lst [])
  have hY3:=hY.trans (My.same s3)
  have hr3:=s3 _ _ hr1
  have he3:=zC (H:=H2) (a:=pe) (o:=.lst [])
  generalize upd H2 pe (.lst []) = H3 at s3 hM3 hY3 hr3 he3 ⊢
  refine ⟨r1,pe,xs,rfl,rfl,SqL.of hr3,SqL.of he3,_,rfl, ?_⟩
  have hxl:=hR.length
  cases hx : xs.isEmpty with
  | true =>
    have e:=List.isEmpty_iff.mp hx
    subst e
    refine iN (by decide) (q _ ?_ hY3)
    exact hM3.mono (by omega)
  | false =>
    refine iP rfl ⟨fun σ' H'=>∃ m',m' < xs.length + 5400 * T.cns us ∧ SpW HD H (k0 + T.cn t) v m' σ' H',fun _ _ h=>h, ?_⟩
    rcases List.eq_nil_or_concat xs with e | ⟨xs',x,e⟩
    · rw [e] at hx; cases hx
    rw [List.concat_eq_append] at e
    subst e
    obtain ⟨us',t',rfl,hR',hx'⟩:=hR.unsnoc
    have hcn : T.cns (us' ++ [t']) = T.cns us' + T.cn t':=by rw [T.cns_append]; rfl
    rw [hcn] at hkK hm ⊢
    rw [List.length_append] at hm hxl ⊢
    rw [List.length_append] at hxl
    obtain ⟨hft,hzt⟩:=hall t' (List.mem_append_right _ List.mem_cons_self)
    have hall' : ∀ u ∈ us',T.few u ∧ T.sz u ≤ 2700:=fun u hu=>hall u (List.mem_append_left _ hu)
    walk_at "rd3"
    refine ⟨.inl ⟨rfl,_,SqL.of hr3⟩,r1,_,x,rfl,rfl,hr3,by simp, ?_⟩
    rw [List.dropLast_concat]
    obtain ⟨hM4,hY4⟩:=zKo (o:=.lst xs') hHr hH0 hM3 hY3
    have hr4:=zC (H:=H3) (a:=r1) (o:=.lst xs')
    generalize upd H3 r1 (.lst xs') = H4 at hM4 hY4 hr4 ⊢
    have hxH : ∀ o',HD r1 = some o' → False:=fun o' e=>by rw [hHr] at e; cases e
    have leaf : tyS H4 x = some (tyT t') → isSub (tyT t') "dict" = false → isSub (tyT t') "list" = false → isSub (tyT t') "tuple" = false → ∃ x_1,tyS H4 x = some x_1 ∧ (∀ p,H4 p = none → ∃ m',m' < xs'.length + [x].length + 5400 * (T.cns us' + T.cn t') ∧ SpW HD H (k0 + T.cn t) v m' [some v,some (V.ref r1),some x] (upd H4 p (.tup [V.ty "list",V.ty "tuple"]))):=fun h1 h2 h3 h4=>⟨_,h1,fun p hp=>⟨xs'.length + 5400 * T.cns us',by rw [List.length_singleton]; omega,r1,xs',us',k,_,rfl,zD hp _ _ _ hr4,hHr,hH0,hR',hall',hM4.new hp _,hY4.trans (My.same (zD hp _)),by omega,rfl,by omega⟩⟩
    cases t' with
    | lst us =>
      have hv0:=hx'
      obtain ⟨a,ys,rfl,ha,hs⟩:=hx'
      obtain ⟨o',haH,hmo⟩:=hM4 a _ ha
      obtain ⟨j,hj,rfl⟩:=hmo.lst
      have hyl:=hs.length
      have hul:=T.szs_len us
      have hzt' : T.szs us + 1 ≤ 2700:=hzt
      have hcu : T.cn (.lst us) = T.cns us + 1:=rfl
      rw [hcu] at hkK hm ⊢
      refine ⟨"list",xM haH,iN (by decide) fun p hp=>?_⟩
      have s5:=zD hp (.tup [V.ty "list",V.ty "tuple"])
      have hM5:=hM4.new hp (.tup [V.ty "list",V.ty "tuple"])
      have e5:=zC (H:=H4) (a:=p) (o:=.tup [V.ty "list",V.ty "tuple"])
      have hY5:=hY4.trans (My.same s5)
      generalize upd H4 p (.tup [V.ty "list",V.ty "tuple"]) = H5 at s5 hM5 e5 hY5 ⊢
      have ha5:=s5 _ _ haH
      have hr5:=s5 _ _ hr4
      refine ⟨_,"list",p,⟨rfl,rfl⟩,e5,xM ha5,iP (by decide) ⟨a,rfl,_, .inl (SqL.of ha5),fun l hl=>?_⟩⟩
      have s6:=zD hl (.lst (ys ++ List.replicate j moV))
      have hM6:=hM5.new hl (.lst (ys ++ List.replicate j moV))
      have e6:=zC (H:=H5) (a:=l) (o:=.lst (ys ++ List.replicate j moV))
      have hY6:=hY5.trans (My.same s6)
      generalize upd H5 l (.lst (ys ++ List.replicate j moV)) = H6 at s6 hM6 e6 hY6 ⊢
      have hlen : (ys ++ List.replicate j moV).length ≤ 5399:=by rw [List.length_append,List.length_replicate]; omega
      refine ⟨r1,l,_,_,rfl,rfl,s6 _ _ hr5,e6,by rw [sizeLine_eq]; rw [List.length_singleton] at hm; omega,fun p7 hp7=>?_⟩
      have s7:=zD hp7 (.lst (xs' ++ (ys ++ List.replicate j moV)))
      have hM7:=hM6.new hp7 (.lst (xs' ++ (ys ++ List.replicate j moV)))
      have e7:=zC (H:=H6) (a:=p7) (o:=.lst (xs' ++ (ys ++ List.replicate j moV)))
      have hY7:=hY6.trans (My.same s7)
      have hD7:=hM6.away hp7
      have hH7:=zCq hM6 hY6 hp7
      generalize upd H6 p7 (.lst (xs' ++ (ys ++ List.replicate j moV))) = H7 at s7 hM7 e7 hY7 ⊢
      have ha7:=s7 _ _ (s6 _ _ ha5)
      refine ⟨"list",xM ha7,iP (by decide) ⟨.inl ⟨rfl,_,SqL.of ha7⟩,a,_,_,rfl,rfl,ha7,by rw [sizeLine_eq]; omega, ?_⟩⟩
      have hne : p7 ≠ a:=fun z=>by rw [z,ha] at hD7; cases hD7
      refine ⟨(xs' ++ (ys ++ List.replicate j moV)).length + 5400 * (T.cns us' + T.cns us), ?_,p7,xs' ++ (ys ++ List.replicate j moV),us' ++ (us ++ List.replicate j (.int 7)),k + 1,_,rfl,by rw [zM hne]; exact e7,hD7,hH7,Reps.append (Reps.append (Reps.sevens j) hs) hR',fun u hu=>?_, ?_,hY7.trans (My.putL ha _), ?_, ?_, ?_⟩
      · rw [List.length_append]; omega
      · rcases List.mem_append.mp hu with z | z
        · exact hall' u z
        · rcases List.mem_append.mp z with z | z
          · have:=T.szs_le z
            exact ⟨T.fews_mem hft.2 z,by omega⟩
          · rw [List.eq_of_mem_replicate z]; exact ⟨True.intro,by decide⟩
      · refine (hM7.mono (Nat.le_succ k)).put ha (.inr (.inl ⟨ys,j + 1,rfl,by omega, ?_⟩))
        rw [List.replicate_succ',← List.append_assoc]
        rfl
      · rw [T.cns_append,T.cns_append,T.cns_sevens]; omega
      · rw [T.cns_append,T.cns_append,T.cns_sevens]; rfl
      · rw [List.length_append]; rw [List.length_singleton] at hm; omega
    | dic ks us =>
      have hv0:=hx'
      obtain ⟨a,ps,rfl,ha,hkk,hs⟩:=hx'
      obtain ⟨o',haH,hmo⟩:=hM4 a _ ha
      obtain ⟨qs,hq,rfl⟩ : ∃ qs,(qs = ps ∨ qs = putK ps moK (.int 7)) ∧ o' = .dK qs:=by
        rcases hmo.dic with e | e
        · exact ⟨ps, .inl rfl,e⟩
        · exact ⟨_, .inr rfl,e⟩
      have hyl:=hs.length
      rw [List.length_map] at hyl
      have hul:=T.szs_len us
      have hzt' : T.szs us + 1 ≤ 2700:=hzt
      have hcu : T.cn (.dic ks us) = T.cns us + 1:=rfl
      rw [hcu] at hkK hm ⊢
      obtain ⟨us7,hR7,hc7,hm7,hl7⟩:=Reps.put7 (k:=moK) hs hq
      have hql:=hR7.length
      rw [List.length_map] at hql
      refine ⟨"dict",xR haH,iP (by decide) ⟨.inr (.inr (.inl ⟨rfl, .inl ⟨qs,haH⟩⟩)),a,rfl,⟨qs, .inl haH⟩,fun p hp=>⟨a,zC,qs, ?_⟩⟩⟩
      have s5:=zD hp (valsO p a)
      have hM5:=hM4.new hp (valsO p a)
      have hY5:=hY4.trans (My.same s5)
      generalize upd H4 p (valsO p a) = H5 at s5 hM5 hY5 ⊢
      have ha5:=s5 _ _ haH
      have hr5:=s5 _ _ hr4
      refine ⟨.inl ha5,fun l hl=>?_⟩
      have s6:=zD hl (.lst (qs.map (·.2)))
      have hM6:=hM5.new hl (.lst (qs.map (·.2)))
      have e6:=zC (H:=H5) (a:=l) (o:=.lst (qs.map (·.2)))
      have hY6:=hY5.trans (My.same s6)
      generalize upd H5 l (.lst (qs.map (·.2))) = H6 at s6 hM6 e6 hY6 ⊢
      refine ⟨r1,l,_,_,rfl,rfl,s6 _ _ hr5,e6,by rw [sizeLine_eq,List.length_map]; rw [List.length_singleton] at hm; omega,fun p7 hp7=>?_⟩
      have s7:=zD hp7 (.lst (xs' ++ qs.map (·.2)))
      have hM7:=hM6.new hp7 (.lst (xs' ++ qs.map (·.2)))
      have e7:=zC (H:=H6) (a:=p7) (o:=.lst (xs' ++ qs.map (·.2)))
      have hY7:=hY6.trans (My.same s7)
      have hD7:=hM6.away hp7
      have hH7:=zCq hM6 hY6 hp7
      generalize upd H6 p7 (.lst (xs' ++ qs.map (·.2))) = H7 at s7 hM7 e7 hY7 ⊢
      have ha7:=s7 _ _ (s6 _ _ ha5)
      have hne : p7 ≠ a:=fun z=>by rw [z,ha] at hD7; cases hD7
      have hput : putK qs moK (.int 7) = putK ps moK (.int 7):=by
        rcases hq with e | e
        · rw [e]
        · rw [e,zJr]
      refine ⟨a,rfl,_,DPut.k (k:=moK) ha7 (by rw [sizeLine_eq]; omega),fun p9 hp9=>?_⟩
      rw [hput] at hp9 ⊢
      have hM8 : Mx HD (k + 1) (upd H7 a (.dK (putK ps moK (.int 7)))):=(hM7.mono (Nat.le_succ k)).put ha (.inr (.inr ⟨ps,rfl,rfl⟩))
      have hY8:=hY7.trans (My.putD (H:=H7) ha)
      have e8 : upd H7 a (.dK (putK ps moK (.int 7))) p7 = some (.lst (xs' ++ qs.map (·.2))):=by rw [zM hne]; exact e7
      have ha8:=zC (H:=H7) (a:=a) (o:=.dK (putK ps moK (.int 7)))
      generalize upd H7 a (.dK (putK ps moK (.int 7))) = H8 at hM8 hY8 e8 ha8 hp9 ⊢
      have s9:=zD hp9 (.tup [V.ty "list",V.ty "tuple"])
      refine ⟨_,"dict",p9,⟨rfl,rfl⟩,zC,xR (s9 _ _ ha8),iN (by decide) ?_⟩
      refine ⟨(xs' ++ qs.map (·.2)).length + 5400 * (T.cns us' + T.cns us7), ?_,p7,_,us' ++ us7,k + 1,_,rfl,s9 _ _ e8,hD7,hH7,Reps.append hR7 hR',fun u hu=>?_,hM8.new hp9 _,hY8.trans (My.same s9), ?_, ?_, ?_⟩
      · rw [List.length_append,List.length_map]; omega
      · rcases List.mem_append.mp hu with z | z
        · exact hall' u z
        · rcases hm7 u z with z | z
          · have:=T.szs_le z
            exact ⟨T.fews_mem hft.2.2.2 z,by omega⟩
          · rw [z]; exact ⟨True.intro,by decide⟩
      · rw [T.cns_append]; omega
      · rw [T.cns_append]
      · rw [List.length_append,List.length_map]; rw [List.length_singleton] at hm; omega
    | tup us=>exact hft.elim
    | non =>
      have hv : Rep H4 x T.non:=hx'
      obtain ⟨ty,h1,h2⟩:=leaf hv.ty rfl rfl rfl
      exact ⟨_,hv.ty,iN (by simp [tyT,isSub]) fun p hp=>⟨_,_,p,⟨rfl,rfl⟩,zC,wG (zD hp _) hv.ty,iN (by simp [tyT,isSub]) (h2 p hp)⟩⟩
    | bl b =>
      have hv : Rep H4 x (T.bl b):=hx'
      obtain ⟨ty,h1,h2⟩:=leaf hv.ty rfl rfl rfl
      exact ⟨_,hv.ty,iN (by simp [tyT,isSub]) fun p hp=>⟨_,_,p,⟨rfl,rfl⟩,zC,wG (zD hp _) hv.ty,iN (by simp [tyT,isSub]) (h2 p hp)⟩⟩
    | int b =>
      have hv : Rep H4 x (T.int b):=hx'
      obtain ⟨ty,h1,h2⟩:=leaf hv.ty rfl rfl rfl
      exact ⟨_,hv.ty,iN (by simp [tyT,isSub]) fun p hp=>⟨_,_,p,⟨rfl,rfl⟩,zC,wG (zD hp _) hv.ty,iN (by simp [tyT,isSub]) (h2 p hp)⟩⟩
    | str b =>
      have hv : Rep H4 x (T.str b):=hx'
      obtain ⟨ty,h1,h2⟩:=leaf hv.ty rfl rfl rfl
      exact ⟨_,hv.ty,iN (by simp [tyT,isSub]) fun p hp=>⟨_,_,p,⟨rfl,rfl⟩,zC,wG (zD hp _) hv.ty,iN (by simp [tyT,isSub]) (h2 p hp)⟩⟩
end
end K37
namespace K37
open PySem L2
inductive Wd where
  | put | ins | tak
def Wd.s : Wd → Str
  | .put=>Str.ofString "put"
  | .ins=>Str.ofString "insert"
  | .tak=>Str.ofString "take"
def canT : Wd → T → Key → Bool
  | .tak,t,k=>(stepT t k).isSome
  | .put, .dic _ _, .inr _=>true
  | .put, .lst us, .inl i=>decide (i ≤ (us.length : Int))
  | .ins, .lst us, .inl i=>decide (i ≤ (us.length : Int))
  | _,_,_=>false
def dropT (n : List Nat) : List (List Nat) → List T → List T
  | k :: ks,u :: us=>if k = n then dropT n ks us else u :: dropT n ks us
  | _,_=>[]
def dropN (n : List Nat) : List (List Nat) → List (List Nat)
  | k :: ks=>if k = n then dropN n ks else k :: dropN n ks
  | []=>[]
def partT : Wd → T → Key → T → T
  | .put, .dic ks us, .inr s,n=>.dic (putT (ks,us) (ts s) n).1 (putT (ks,us) (ts s) n).2
  | .tak, .dic ks us, .inr s,_=>.dic (dropN (ts s) ks) (dropT (ts s) ks us)
  | .put, .lst us, .inl i,n=>.lst (us.take i.toNat ++ n :: us.drop (i.toNat + 1))
  | .ins, .lst us, .inl i,n=>.lst (us.take i.toNat ++ n :: us.drop i.toNat)
  | .tak, .lst us, .inl i,_=>.lst (us.take i.toNat ++ us.drop (i.toNat + 1))
  | _,t,_,_=>t
def partL : Wd → T → Key → T → T
  | .put, .dic ks us, .inr s,n=>.dic (dropN (ts s) ks ++ [ts s]) (dropT (ts s) ks us ++ [n])
  | w,t,k,n=>partT w t k n
def bld (st : List T) (ks : List Key) : Nat → T → T
  | 0,r=>r
  | m + 1,r=>bld st ks m (partT .put (st.getD m .non) (ks.getD m (.inl 0)) r)
def chG (w : Wd) (pt : T → Key → T) (t : T) (ks : List Key) (n : T) : Sum Nat T :=
  match ks.getLast? with
  | none=>match w with
    | .put=>.inr n
    | _=>.inl 0
  | some k=>if (goT t ks.dropLast).length < ks.length then .inl ((goT t ks.dropLast).length - 1) else
    match (goT t ks.dropLast).getLast? with
    | none=>.inl 0
    | some s=>if canT w s k = true then .inr (bld (goT t ks.dropLast) ks (ks.length - 1) (pt s k)) else .inl (ks.length - 1)
theorem dropN_mem {n k : List Nat} : ∀ {ks : List (List Nat)},k ∈ dropN n ks ↔ k ∈ ks ∧ k ≠ n
  | []=>by simp [dropN]
  | k' :: ks=>by
    unfold dropN
    split
    · rename_i e
      rw [dropN_mem (ks:=ks),e]
      constructor
      · exact fun h=>⟨List.mem_cons_of_mem _ h.1,h.2⟩
      · rintro ⟨h1,h2⟩
        rcases List.mem_cons.mp h1 with z | z
        · exact absurd z h2
        · exact ⟨z,h2⟩
    · rename_i e
      rw [List.mem_cons,dropN_mem (ks:=ks),List.mem_cons]
      constructor
      · rintro (h | h)
        · exact ⟨.inl h,by rw [h]; exact e⟩
        · exact ⟨.inr h.1,h.2⟩
      · rintro ⟨h1 | h1,h2⟩
        · exact .inl h1
        · exact .inr ⟨h1,h2⟩
theorem xQ {n : List Nat} : ∀ {ks : List (List Nat)},ks.Nodup → (dropN n ks).Nodup
  | [],_=>by simp [dropN]
  | k :: ks,h=>by
    rw [List.nodup_cons] at h
    unfold dropN
    split
    · exact xQ h.2
    · rw [List.nodup_cons]
      exact ⟨fun z=>h.1 (dropN_mem.mp z).1,xQ h.2⟩
theorem vZ {n : List Nat} : ∀ {ks : List (List Nat)} {us : List T},ks.length = us.length → (dropN n ks).length = (dropT n ks us).length ∧ (dropT n ks us).length ≤ us.length
  | [],[],_=>⟨rfl,Nat.le_refl _⟩
  | [],_ :: _,h=>by simp at h
  | _ :: _,[],h=>by simp at h
  | k :: ks,u :: us,h=>by
    obtain ⟨h1,h2⟩:=vZ (n:=n) (ks:=ks) (us:=us) (by simpa using h)
    unfold dropN dropT
    split
    · exact ⟨h1,Nat.le_succ_of_le h2⟩
    · exact ⟨by rw [List.length_cons,List.length_cons,h1],Nat.succ_le_succ h2⟩
theorem qP {n : List Nat} {u : T} : ∀ {ks : List (List Nat)} {us : List T},u ∈ dropT n ks us → u ∈ us
  | [],us,h=>by cases us <;> simp [dropT] at h
  | _ :: _,[],h=>by simp [dropT] at h
  | k :: ks,v :: us,h=>by
    unfold dropT at h
    split at h
    · exact List.mem_cons_of_mem _ (qP h)
    · rcases List.mem_cons.mp h with z | z
      · rw [z]; exact List.mem_cons_self
      · exact List.mem_cons_of_mem _ (qP z)
theorem zAc {n k : List Nat} (hk : k ≠ n) : ∀ {ks : List (List Nat)} {us : List T},ks.length = us.length → lookT k (dropN n ks) (dropT n ks us) = lookT k ks us
  | [],[],_=>rfl
  | [],_ :: _,h=>by simp at h
  | _ :: _,[],h=>by simp at h
  | k' :: ks,u :: us,h=>by
    have ih:=zAc hk (ks:=ks) (us:=us) (by simpa using h)
    unfold dropN dropT
    split
    · rename_i e
      rw [ih]
      show _ = if k' = k then u else lookT k ks us
      rw [if_neg (by rw [e]; exact Ne.symm hk)]
    · show (if k' = k then u else lookT k (dropN n ks) (dropT n ks us)) = if k' = k then u else lookT k ks us
      rw [ih]
theorem qD {k n : List Nat} {t : T} : ∀ {ks : List (List Nat)} {us : List T},ks.length = us.length → k ∈ ks → lookT k (ks ++ [n]) (us ++ [t]) = lookT k ks us
  | [],_,_,h=>nomatch h
  | _ :: _,[],h,_=>by simp at h
  | k' :: ks,u :: us,hl,h=>by
    show (if k' = k then u else lookT k (ks ++ [n]) (us ++ [t])) = if k' = k then u else lookT k ks us
    by_cases e : k' = k
    · rw [if_pos e,if_pos e]
    · rw [if_neg e,if_neg e]
      rcases List.mem_cons.mp h with z | z
      · exact absurd z.symm e
      · exact qD (by simpa using hl) z
theorem vM {n : List Nat} {t : T} : ∀ {ks : List (List Nat)} {us : List T},ks.length = us.length → n ∉ ks → lookT n (ks ++ [n]) (us ++ [t]) = t
  | [],[],_,_=>if_pos rfl
  | [],_ :: _,h,_=>by simp at h
  | _ :: _,[],h,_=>by simp at h
  | k' :: ks,u :: us,hl,h=>by
    show (if k' = n then u else lookT n (ks ++ [n]) (us ++ [t])) = t
    rw [if_neg (fun e=>h (by rw [e]; exact List.mem_cons_self))]
    exact vM (by simpa using hl) fun z=>h (List.mem_cons_of_mem _ z)
theorem vN {n k : List Nat} {t : T} : ∀ {ks : List (List Nat)} {us : List T},ks.length = us.length → n ∈ ks → lookT k ks (putTs n t ks us) = if k = n then t else lookT k ks us
  | [],_,_,h=>nomatch h
  | _ :: _,[],h,_=>by simp at h
  | k' :: ks,u :: us,hl,h=>by
    show (if k' = k then (if k' = n then t else u) else lookT k ks (putTs n t ks us)) = if k = n then t else if k' = k then u else lookT k ks us
    by_cases e : k' = k
    · rw [if_pos e,if_pos e,e]
    · rw [if_neg e,if_neg e]
      by_cases hm : n ∈ ks
      · exact vN (by simpa using hl) hm
      · have e2 : k' = n:=by
          rcases List.mem_cons.mp h with z | z
          · exact z.symm
          · exact absurd z hm
        rw [if_neg (by rw [← e2]; exact Ne.symm e)]
        have : ∀ (ks : List (List Nat)) (us : List T),n ∉ ks → putTs n t ks us = us:=by
          intro ks
          induction ks with
          | nil=>intro us _; unfold putTs; rfl
          | cons a ks ih =>
            intro us hn
            cases us with
            | nil=>rfl
            | cons b us =>
              show (if a = n then t else b) :: putTs n t ks us = b :: us
              rw [if_neg (fun z=>hn (by rw [z]; exact List.mem_cons_self)),ih us fun z=>hn (List.mem_cons_of_mem _ z)]
        rw [this ks us hm]
theorem zGo {n k : List Nat} {t : T} {ks : List (List Nat)} {us : List T} (hl : ks.length = us.length) (hk : k ∈ ks ∨ k = n) : k ∈ (putT (ks,us) n t).1 ∧ lookT k (putT (ks,us) n t).1 (putT (ks,us) n t).2 = if k = n then t else lookT k ks us:=by
  by_cases hm : n ∈ ks
  · have e : putT (ks,us) n t = (ks,putTs n t ks us):=if_pos hm
    rw [e]
    refine ⟨?_,vN hl hm⟩
    rcases hk with z | z
    · exact z
    · rw [z]; exact hm
  · have e : putT (ks,us) n t = (ks ++ [n],us ++ [t]):=if_neg hm
    rw [e]
    by_cases hkn : k = n
    · rw [if_pos hkn,hkn]
      exact ⟨by simp,vM hl hm⟩
    · rw [if_neg hkn]
      have hkk : k ∈ ks:=hk.resolve_right hkn
      exact ⟨List.mem_append_left _ hkk,qD hl hkk⟩
theorem uX {n : List Nat} {t : T} : ∀ {ks : List (List Nat)} {us : List T},ks.Nodup → ks.length = us.length → n ∈ ks → T.szs (putTs n t ks us) = T.szs (dropT n ks us) + T.sz t
  | [],_,_,_,h=>nomatch h
  | _ :: _,[],_,h,_=>by simp at h
  | k :: ks,u :: us,nd,hl,h=>by
    rw [List.nodup_cons] at nd
    by_cases e : k = n
    · have h2 : ∀ (ks : List (List Nat)) (us : List T),ks.length = us.length → n ∉ ks → putTs n t ks us = us ∧ dropT n ks us = us:=by
        intro ks
        induction ks with
        | nil=>intro us hl _; cases us with
          | nil=>exact ⟨rfl,rfl⟩
          | cons _ _=>simp at hl
        | cons a ks ih =>
          intro us hl hn
          cases us with
          | nil=>simp at hl
          | cons b us =>
            obtain ⟨i1,i2⟩:=ih us (by simpa using hl) fun z=>hn (List.mem_cons_of_mem _ z)
            have ne : ¬ a = n:=fun z=>hn (by rw [z]; exact List.mem_cons_self)
            refine ⟨?_, ?_⟩
            · show (if a = n then t else b) :: putTs n t ks us = b :: us
              rw [if_neg ne,i1]
            · show (if a = n then dropT n ks us else b :: dropT n ks us) = b :: us
              rw [if_neg ne,i2]
      obtain ⟨i1,i2⟩:=h2 ks us (by simpa using hl) (by rw [← e]; exact nd.1)
      show T.szs ((if k = n then t else u) :: putTs n t ks us) = T.szs (if k = n then dropT n ks us else u :: dropT n ks us) + T.sz t
      rw [if_pos e,if_pos e,i1,i2]
      show T.sz t + T.szs us = _
      omega
    · have hm : n ∈ ks:=by
        rcases List.mem_cons.mp h with z | z
        · exact absurd z.symm e
        · exact z
      have ih:=uX (t:=t) nd.2 (by simpa using hl) hm (us:=us)
      show T.szs ((if k = n then t else u) :: putTs n t ks us) = T.szs (if k = n then dropT n ks us else u :: dropT n ks us) + T.sz t
      rw [if_neg e,if_neg e]
      show T.sz u + T.szs (putTs n t ks us) = T.sz u + T.szs (dropT n ks us) + T.sz t
      omega
theorem qK {n : List Nat} : ∀ {ks : List (List Nat)} {us : List T},T.szs (dropT n ks us) ≤ T.szs us
  | [],us=>by
    have e : dropT n [] us = []:=by cases us <;> rfl
    rw [e]; exact Nat.zero_le _
  | _ :: _,[]=>Nat.le_refl _
  | k :: ks,u :: us=>by
    have ih:=qK (n:=n) (ks:=ks) (us:=us)
    show T.szs (if k = n then dropT n ks us else u :: dropT n ks us) ≤ T.sz u + T.szs us
    split
    · omega
    · show T.sz u + _ ≤ _; omega
theorem qN {n : List Nat} : ∀ {ks : List (List Nat)} {us : List T},ks.length = us.length → n ∉ ks → dropT n ks us = us ∧ dropN n ks = ks
  | [],[],_,_=>⟨rfl,rfl⟩
  | [],_ :: _,h,_=>by simp at h
  | _ :: _,[],h,_=>by simp at h
  | k :: ks,u :: us,hl,hn=>by
    obtain ⟨i1,i2⟩:=qN (n:=n) (ks:=ks) (us:=us) (by simpa using hl) fun z=>hn (List.mem_cons_of_mem _ z)
    have ne : ¬ k = n:=fun z=>hn (by rw [z]; exact List.mem_cons_self)
    refine ⟨?_, ?_⟩
    · show (if k = n then dropT n ks us else u :: dropT n ks us) = _
      rw [if_neg ne,i1]
    · show (if k = n then dropN n ks else k :: dropN n ks) = _
      rw [if_neg ne,i2]
theorem uC {n : List Nat} {t : T} {ks : List (List Nat)} {us : List T} (nd : ks.Nodup) (hl : ks.length = us.length) : T.szs (putT (ks,us) n t).2 = T.szs (dropT n ks us) + T.sz t:=by
  by_cases hm : n ∈ ks
  · have e : putT (ks,us) n t = (ks,putTs n t ks us):=if_pos hm
    rw [e]; exact uX nd hl hm
  · have e : putT (ks,us) n t = (ks ++ [n],us ++ [t]):=if_neg hm
    rw [e,(qN hl hm).1]
    show T.szs (us ++ [t]) = _
    rw [T.szs_append]; rfl
end K37
namespace K37
open PySem L2
theorem zOc {us : List T} : us.length ≤ T.szs us:=T.szs_len us
theorem zHb {m : Nat} {a b : List T} (h : T.fewms m b) (s : ∀ t ∈ a,t ∈ b) : T.fewms m a:=T.fewms_of fun t ht=>T.fewms_mem h (s t ht)
theorem zFt {us : List T} {i j : Nat} (h : i ≤ j) : T.szs (us.take i) + T.szs (us.drop j) ≤ T.szs us:=by
  have e : us = us.take i ++ us.drop i:=(List.take_append_drop i us).symm
  have e2 : T.szs us = T.szs (us.take i) + T.szs (us.drop i):=by conv=>lhs; rw [e,T.szs_append]
  have e3 : us.drop i = (us.drop i).take (j - i) ++ us.drop j:=by
    have:=(List.take_append_drop (j - i) (us.drop i)).symm
    rw [List.drop_drop,show i + (j - i) = j by omega] at this
    exact this
  have e4 : T.szs (us.drop i) = T.szs ((us.drop i).take (j - i)) + T.szs (us.drop j):=by conv=>lhs; rw [e3,T.szs_append]
  omega
theorem zDb {a b : List T} {d : Nat} (h : T.deps b ≤ d) (s : ∀ t ∈ a,t ∈ b) : T.deps a ≤ d:=T.deps_of fun t ht=>Nat.le_trans (T.deps_le (s t ht)) h
theorem zNk {m : Nat} {us : List T} {n : T} {i j : Nat} (hij : i ≤ j) (hf : T.fewm m (.lst us)) (hn : T.fewm m n) (hz : T.sz (.lst us) ≤ 50000) :
    T.fewm m (.lst (us.take i ++ n :: us.drop j)) ∧ T.dep (.lst (us.take i ++ n :: us.drop j)) ≤ max (T.dep (.lst us)) (T.dep n + 1) ∧ T.sz (.lst (us.take i ++ n :: us.drop j)) ≤ T.sz (.lst us) + T.sz n:=by
  have hz' : T.szs us + 1 ≤ 50000:=hz
  have hl:=zOc (us:=us)
  have hc:=zFt (us:=us) hij
  have hs : ∀ t ∈ us.take i ++ n :: us.drop j,t ∈ us ∨ t = n:=fun t ht=>by
    rcases List.mem_append.mp ht with z | z
    · exact .inl (List.mem_of_mem_take z)
    · rcases List.mem_cons.mp z with z | z
      · exact .inr z
      · exact .inl (List.mem_of_mem_drop z)
  refine ⟨⟨?_,T.fewms_of fun t ht=>?_⟩, ?_, ?_⟩
  · rw [List.length_append,List.length_cons,List.length_take,List.length_drop]; omega
  · rcases hs t ht with z | z
    · exact T.fewms_mem hf.2 z
    · rw [z]; exact hn
  · show T.deps (us.take i ++ n :: us.drop j) + 1 ≤ max (T.deps us + 1) (T.dep n + 1)
    have : T.deps (us.take i ++ n :: us.drop j) ≤ max (T.deps us) (T.dep n):=T.deps_of fun t ht=>by
      rcases hs t ht with z | z
      · have:=T.deps_le z; omega
      · rw [z]; omega
    omega
  · show T.szs (us.take i ++ n :: us.drop j) + 1 ≤ T.szs us + 1 + T.sz n
    rw [T.szs_append]
    show T.szs (us.take i) + (T.sz n + T.szs (us.drop j)) + 1 ≤ _
    omega
theorem zEa {m : Nat} {ks ls : List (List Nat)} {us vs : List T} {n : T} (hf : T.fewm m (.dic ks us)) (hn : T.fewm m n) (nd : ls.Nodup) (hl : ls.length = vs.length) (hlen : vs.length ≤ us.length + 1) (hs : ∀ t ∈ vs,t ∈ us ∨ t = n) (hz : T.szs vs ≤ T.szs us + T.sz n) :
    T.fewm (m + 1) (.dic ls vs) ∧ T.dep (.dic ls vs) ≤ max (T.dep (.dic ks us)) (T.dep n + 1) ∧ T.sz (.dic ls vs) ≤ T.sz (.dic ks us) + T.sz n:=by
  obtain ⟨nk,hm,hku,hu⟩:=hf
  refine ⟨⟨nd,by omega,hl,T.fewms_of fun t ht=>?_⟩, ?_, ?_⟩
  · rcases hs t ht with z | z
    · exact T.fewm_mono (Nat.le_succ m) _ (T.fewms_mem hu z)
    · rw [z]; exact T.fewm_mono (Nat.le_succ m) _ hn
  · show T.deps vs + 1 ≤ max (T.deps us + 1) (T.dep n + 1)
    have : T.deps vs ≤ max (T.deps us) (T.dep n):=T.deps_of fun t ht=>by
      rcases hs t ht with z | z
      · have:=T.deps_le z; omega
      · rw [z]; omega
    omega
  · show T.szs vs + 1 ≤ T.szs us + 1 + T.sz n
    omega
theorem vO {m : Nat} {t n : T} (hf : T.fewm m t) : T.fewm (m + 1) t ∧ T.dep t ≤ max (T.dep t) (T.dep n + 1) ∧ T.sz t ≤ T.sz t + T.sz n:=⟨T.fewm_mono (Nat.le_succ m) _ hf,Nat.le_max_left _ _,Nat.le_add_right _ _⟩
theorem zEs {m : Nat} {us : List T} {n : T} {i j : Nat} (hij : i ≤ j) (hf : T.fewm m (.lst us)) (hn : T.fewm m n) (hz : T.sz (.lst us) ≤ 50000) :
    T.fewm (m + 1) (.lst (us.take i ++ n :: us.drop j)) ∧ T.dep (.lst (us.take i ++ n :: us.drop j)) ≤ max (T.dep (.lst us)) (T.dep n + 1) ∧ T.sz (.lst (us.take i ++ n :: us.drop j)) ≤ T.sz (.lst us) + T.sz n:=by
  obtain ⟨h1,h2,h3⟩:=zNk hij hf hn hz
  exact ⟨T.fewm_mono (Nat.le_succ m) _ h1,h2,h3⟩
theorem zKi {m : Nat} {us : List T} {n : T} {i : Nat} (hf : T.fewm m (.lst us)) :
    T.fewm (m + 1) (.lst (us.take i ++ us.drop (i + 1))) ∧ T.dep (.lst (us.take i ++ us.drop (i + 1))) ≤ max (T.dep (.lst us)) (T.dep n + 1) ∧ T.sz (.lst (us.take i ++ us.drop (i + 1))) ≤ T.sz (.lst us) + T.sz n:=by
  have hc:=zFt (us:=us) (i:=i) (j:=i + 1) (by omega)
  have hs : ∀ t ∈ us.take i ++ us.drop (i + 1),t ∈ us:=fun t ht=>(List.mem_append.mp ht).elim List.mem_of_mem_take List.mem_of_mem_drop
  refine ⟨⟨?_,T.fewms_mono (Nat.le_succ m) _ (zHb hf.2 hs)⟩, ?_, ?_⟩
  · have:=hf.1
    rw [List.length_append,List.length_take,List.length_drop]; omega
  · show T.deps (us.take i ++ us.drop (i + 1)) + 1 ≤ max (T.deps us + 1) (T.dep n + 1)
    have:=zDb (Nat.le_refl (T.deps us)) hs
    omega
  · show T.szs (us.take i ++ us.drop (i + 1)) + 1 ≤ T.szs us + 1 + T.sz n
    rw [T.szs_append]; omega
theorem zKc {m : Nat} {ks : List (List Nat)} {us : List T} {n : T} {x : List Nat} (hf : T.fewm m (.dic ks us)) (hn : T.fewm m n) :
    T.fewm (m + 1) (.dic (dropN x ks) (dropT x ks us)) ∧ T.dep (.dic (dropN x ks) (dropT x ks us)) ≤ max (T.dep (.dic ks us)) (T.dep n + 1) ∧ T.sz (.dic (dropN x ks) (dropT x ks us)) ≤ T.sz (.dic ks us) + T.sz n:=by
  obtain ⟨l1,l2⟩:=vZ (n:=x) hf.2.2.1
  have:=qK (n:=x) (ks:=ks) (us:=us)
  exact zEa hf hn (xQ hf.1) l1 (by omega) (fun t ht=>.inl (qP ht)) (by omega)
theorem uE {m : Nat} {w : Wd} {t n : T} {k : Key} (hf : T.fewm m t) (hn : T.fewm m n) (hz : T.sz t ≤ 50000) : T.fewm (m + 1) (partT w t k n) ∧ T.dep (partT w t k n) ≤ max (T.dep t) (T.dep n + 1) ∧ T.sz (partT w t k n) ≤ T.sz t + T.sz n:=by
  cases t with
  | dic ks us =>
    cases k with
    | inr x =>
      cases w with
      | put =>
        obtain ⟨l1,l2⟩:=kQ (ks:=ks) (us:=us) (n:=ts x) (t:=n) hf.2.2.1
        have:=qK (n:=ts x) (ks:=ks) (us:=us)
        have hz2:=uC (n:=ts x) (t:=n) hf.1 hf.2.2.1
        exact zEa hf hn (jA hf.1) l1 l2 (fun t ht=>zDa ht) (by omega)
      | ins=>exact vO hf
      | tak=>exact zKc hf hn
    | inl i=>cases w <;> exact vO hf
  | lst us =>
    cases k with
    | inl i =>
      cases w with
      | put=>exact zEs (Nat.le_succ _) hf hn hz
      | ins=>exact zEs (Nat.le_refl _) hf hn hz
      | tak=>exact zKi hf
    | inr x=>cases w <;> exact vO hf
  | tup us=>exact hf.elim
  | non=>cases w <;> exact vO hf
  | bl b=>cases w <;> exact vO hf
  | int b=>cases w <;> exact vO hf
  | str b=>cases w <;> exact vO hf
theorem zCc {w : Wd} {t n : T} {k : Key} (h : ¬ ∃ ks us x,w = .put ∧ t = .dic ks us ∧ k = .inr x) : partL w t k n = partT w t k n:=by
  cases w <;> cases t <;> cases k <;> first | rfl | exact absurd ⟨_,_,_,rfl,rfl,rfl⟩ h
theorem zJt {m : Nat} {w : Wd} {t n : T} {k : Key} (hf : T.fewm m t) (hn : T.fewm m n) (hz : T.sz t ≤ 50000) : T.fewm (m + 1) (partL w t k n) ∧ T.dep (partL w t k n) ≤ max (T.dep t) (T.dep n + 1) ∧ T.sz (partL w t k n) ≤ T.sz t + T.sz n:=by
  by_cases h : ∃ ks us x,w = Wd.put ∧ t = .dic ks us ∧ k = .inr x
  · obtain ⟨ks,us,x,rfl,rfl,rfl⟩:=h
    obtain ⟨l1,l2⟩:=vZ (n:=ts x) hf.2.2.1
    have:=qK (n:=ts x) (ks:=ks) (us:=us)
    refine zEa (ls:=dropN (ts x) ks ++ [ts x]) (vs:=dropT (ts x) ks us ++ [n]) hf hn ?_ ?_ ?_ (fun t ht=>?_) ?_
    · rw [List.nodup_append]
      refine ⟨xQ hf.1,by simp,fun a ha b hb z=>?_⟩
      rw [List.mem_singleton.mp hb] at z
      exact (dropN_mem.mp ha).2 z
    · rw [List.length_append,List.length_append,l1]; rfl
    · rw [List.length_append,List.length_singleton]; omega
    · rcases List.mem_append.mp ht with z | z
      · exact .inl (qP z)
      · exact .inr (List.mem_singleton.mp z)
    · rw [T.szs_append]
      show _ + (T.sz n + 0) ≤ _
      omega
  · rw [zCc h]; exact uE hf hn hz
theorem zKu {m d : Nat} {w : Wd} {t n : T} {k : Key} (hm : m < 63) (hf : T.fewm m t) (hn : T.fewm m n) (hz : T.sz t ≤ 50000) (hd : T.dep t < d) (hdn : T.dep n + 1 < d) : Sm d (partT w t k n) (partL w t k n):=by
  by_cases h : ∃ ks us x,w = Wd.put ∧ t = .dic ks us ∧ k = .inr x
  · obtain ⟨ks,us,x,rfl,rfl,rfl⟩:=h
    obtain ⟨e,rfl⟩ : ∃ e,d = e + 1:=⟨d - 1,by omega⟩
    have hd' : T.deps us + 1 < e + 1:=hd
    obtain ⟨p1,p2⟩:=kQ (ks:=ks) (us:=us) (n:=ts x) (t:=n) hf.2.2.1
    obtain ⟨l1,l2⟩:=vZ (n:=ts x) hf.2.2.1
    have hz2:=uC (n:=ts x) (t:=n) hf.1 hf.2.2.1
    have hku:=hf.2.1
    have hul:=hf.2.2.1
    refine ⟨?_,⟨jA hf.1, ?_,p1, ?_, ?_, ?_⟩,fun k hk=>?_⟩
    · show T.szs (putT (ks,us) (ts x) n).2 + 1 ≤ T.szs (dropT (ts x) ks us ++ [n]) + 1
      rw [T.szs_append,hz2]
      exact Nat.le_refl _
    · rw [List.nodup_append]
      refine ⟨xQ hf.1,by simp,fun a ha b hb z=>?_⟩
      rw [List.mem_singleton.mp hb] at z
      exact (dropN_mem.mp ha).2 z
    · rw [List.length_append,List.length_append,l1]; rfl
    · rw [List.length_append,List.length_singleton]
      by_cases hx : ts x ∈ ks
      · have e1 : putT (ks,us) (ts x) n = (ks,putTs (ts x) n ks us):=if_pos hx
        rw [e1]
        show (putTs (ts x) n ks us).length = _
        rw [yX]
        have : ∀ (ks : List (List Nat)) (us : List T),ks.Nodup → ks.length = us.length → ts x ∈ ks → us.length = (dropT (ts x) ks us).length + 1:=by
          intro ks
          induction ks with
          | nil=>intro us _ _ h; exact nomatch h
          | cons a ks ih =>
            intro us nd hl hm
            cases us with
            | nil=>simp at hl
            | cons b us =>
              rw [List.nodup_cons] at nd
              show us.length + 1 = (if a = ts x then dropT (ts x) ks us else b :: dropT (ts x) ks us).length + 1
              by_cases ea : a = ts x
              · rw [if_pos ea,(qN (by simpa using hl) (by rw [← ea]; exact nd.1)).1]
              · rw [if_neg ea,List.length_cons]
                rcases List.mem_cons.mp hm with z | z
                · exact absurd z.symm ea
                · rw [ih us nd.2 (by simpa using hl) z]
        exact this ks us hf.1 hul hx
      · have e1 : putT (ks,us) (ts x) n = (ks ++ [ts x],us ++ [n]):=if_neg hx
        rw [e1,(qN hul hx).1]
        show (us ++ [n]).length = _
        rw [List.length_append]; rfl
    · rw [List.length_append,List.length_singleton]; omega
    · have hk' : k ∈ ks ∨ k = ts x:=by
        rcases List.mem_append.mp hk with z | z
        · exact .inl (dropN_mem.mp z).1
        · exact .inr (List.mem_singleton.mp z)
      obtain ⟨q1,q2⟩:=zGo (n:=ts x) (t:=n) hul hk'
      refine ⟨q1, ?_⟩
      rw [q2]
      by_cases e1 : k = ts x
      · rw [if_pos e1,e1,vM l1 fun z=>(dropN_mem.mp z).2 rfl]
        exact Sm.refl e n (T.few_okq _ (T.fewm_few (by omega) _ hn)) (by omega)
      · have hkk:=hk'.resolve_right e1
        rw [if_neg e1,qD l1 (dropN_mem.mpr ⟨hkk,e1⟩),zAc e1 hul]
        have hmm:=wB hkk hul
        have:=T.deps_le hmm
        exact Sm.refl e _ (T.few_okq _ (T.fewm_few (by omega) _ (T.fewms_mem hf.2.2.2 hmm))) (by omega)
  · rw [zCc h]
    obtain ⟨h1,h2,h3⟩:=uE (w:=w) (k:=k) hf hn hz
    exact Sm.refl d _ (T.few_okq _ (T.fewm_few (by omega) _ h1)) (by omega)
end K37
namespace K37
open PySem L2
theorem zFs {r : T} : ∀ {us : List T} {i : Nat} {u : T},us[i]? = some u → T.szs (us.set i r) + T.sz u = T.szs us + T.sz r
  | [],_,_,h=>by simp at h
  | v :: us,0,u,h=>by
    have e : v = u:=by simpa using h
    subst e
    show T.sz r + T.szs us + T.sz v = T.sz v + T.szs us + T.sz r
    omega
  | v :: us,i + 1,u,h=>by
    have ih:=zFs (r:=r) (us:=us) (i:=i) (u:=u) (by simpa using h)
    show T.sz v + T.szs (us.set i r) + T.sz u = T.sz v + T.szs us + T.sz r
    omega
theorem zCw {n : List Nat} {r : T} : ∀ {ks : List (List Nat)} {us : List T},ks.Nodup → ks.length = us.length → n ∈ ks → T.szs (putTs n r ks us) + T.sz (lookT n ks us) = T.szs us + T.sz r
  | [],_,_,_,h=>nomatch h
  | _ :: _,[],_,h,_=>by simp at h
  | k :: ks,u :: us,nd,hl,h=>by
    rw [List.nodup_cons] at nd
    show T.szs ((if k = n then r else u) :: putTs n r ks us) + T.sz (if k = n then u else lookT n ks us) = T.sz u + T.szs us + T.sz r
    by_cases e : k = n
    · rw [if_pos e,if_pos e]
      have h2 : putTs n r ks us = us:=by
        have z:=uC (n:=n) (t:=r) nd.2 (by simpa using hl) (us:=us)
        have hn : n ∉ ks:=by rw [← e]; exact nd.1
        have : ∀ (ks : List (List Nat)) (us : List T),n ∉ ks → putTs n r ks us = us:=by
          intro ks
          induction ks with
          | nil=>intro us _; unfold putTs; rfl
          | cons a ks ih =>
            intro us hn
            cases us with
            | nil=>rfl
            | cons b us =>
              show (if a = n then r else b) :: putTs n r ks us = b :: us
              rw [if_neg (fun z=>hn (by rw [z]; exact List.mem_cons_self)),ih us fun z=>hn (List.mem_cons_of_mem _ z)]
        exact this ks us hn
      rw [h2]
      show T.sz r + T.szs us + T.sz u = _
      omega
    · rw [if_neg e,if_neg e]
      have hm : n ∈ ks:=by
        rcases List.mem_cons.mp h with z | z
        · exact absurd z.symm e
        · exact z
      have ih:=zCw (r:=r) nd.2 (by simpa using hl) hm (us:=us)
      show T.sz u + T.szs (putTs n r ks us) + T.sz (lookT n ks us) = _
      omega
theorem wM {t u : T} {k : Key} (hs : stepT t k = some u) : (∃ us i,t = .lst us ∧ k = .inl i ∧ us[i.toNat]? = some u ∧ ∀ r,partT .put t k r = .lst (us.set i.toNat r)) ∨ (∃ ks us x,t = .dic ks us ∧ k = .inr x ∧ ts x ∈ ks ∧ u = lookT (ts x) ks us ∧ ∀ r,partT .put t k r = .dic ks (putTs (ts x) r ks us)):=by
  cases t with
  | lst us =>
    cases k with
    | inl i =>
      have h : us[i.toNat]? = some u:=hs
      refine .inl ⟨us,i,rfl,rfl,h,fun r=>?_⟩
      show T.lst (us.take i.toNat ++ r :: us.drop (i.toNat + 1)) = _
      have hi:=(List.getElem?_eq_some_iff.mp h).1
      rw [List.set_eq_take_append_cons_drop,if_pos hi]
    | inr x=>cases hs
  | dic ks us =>
    cases k with
    | inl i=>cases hs
    | inr x =>
      have h' : (if ts x ∈ ks then some (lookT (ts x) ks us) else none) = some u:=hs
      by_cases hm : ts x ∈ ks
      · rw [if_pos hm] at h'
        refine .inr ⟨ks,us,x,rfl,rfl,hm,(Option.some.inj h').symm,fun r=>?_⟩
        have e : putT (ks,us) (ts x) r = (ks,putTs (ts x) r ks us):=if_pos hm
        show T.dic (putT (ks,us) (ts x) r).1 (putT (ks,us) (ts x) r).2 = _
        rw [e]
      · rw [if_neg hm] at h'; cases h'
  | non=>cases hs
  | bl b=>cases hs
  | int b=>cases hs
  | str b=>cases hs
  | tup us=>cases hs
theorem zEf {m : Nat} {t u r : T} {k : Key} (hf : T.fewm m t) (hs : stepT t k = some u) : T.sz (partT .put t k r) + T.sz u = T.sz t + T.sz r:=by
  rcases wM hs with ⟨us,i,rfl,rfl,h,e⟩ | ⟨ks,us,x,rfl,rfl,hm,rfl,e⟩
  · rw [e]
    have:=zFs (r:=r) h
    show T.szs _ + 1 + _ = T.szs us + 1 + _
    omega
  · rw [e]
    have:=zCw (r:=r) hf.1 hf.2.2.1 hm
    show T.szs _ + 1 + _ = T.szs us + 1 + _
    omega
theorem zMy {m : Nat} {t u r : T} {k : Key} (hf : T.fewm m t) (hs : stepT t k = some u) (hr : T.fewm m r) : T.fewm m (partT .put t k r) ∧ T.dep (partT .put t k r) ≤ max (T.dep t) (T.dep r + 1):=by
  rcases wM hs with ⟨us,i,rfl,rfl,h,e⟩ | ⟨ks,us,x,rfl,rfl,hm,rfl,e⟩
  · rw [e]
    have hsub : ∀ t ∈ us.set i.toNat r,t ∈ us ∨ t = r:=fun t ht=>List.mem_or_eq_of_mem_set ht
    refine ⟨⟨by rw [List.length_set]; exact hf.1,T.fewms_of fun t ht=>?_⟩, ?_⟩
    · rcases hsub t ht with z | z
      · exact T.fewms_mem hf.2 z
      · rw [z]; exact hr
    · show T.deps _ + 1 ≤ max (T.deps us + 1) (T.dep r + 1)
      have : T.deps (us.set i.toNat r) ≤ max (T.deps us) (T.dep r):=T.deps_of fun t ht=>by
        rcases hsub t ht with z | z
        · have:=T.deps_le z; omega
        · rw [z]; omega
      omega
  · rw [e]
    refine ⟨⟨hf.1,hf.2.1,by rw [yX]; exact hf.2.2.1,T.fewms_of fun t ht=>?_⟩, ?_⟩
    · rcases vJ _ _ _ _ _ ht with z | z
      · exact T.fewms_mem hf.2.2.2 z
      · rw [z]; exact hr
    · show T.deps _ + 1 ≤ max (T.deps us + 1) (T.dep r + 1)
      have : T.deps (putTs (ts x) r ks us) ≤ max (T.deps us) (T.dep r):=T.deps_of fun t ht=>by
        rcases vJ _ _ _ _ _ ht with z | z
        · have:=T.deps_le z; omega
        · rw [z]; omega
      omega
theorem zNz {d m : Nat} {t u r r' : T} {k : Key} (hm : m ≤ 63) (hf : T.fewm m t) (hs : stepT t k = some u) (hd : T.dep t < d + 1) (h : Sm d r r') : Sm (d + 1) (partT .put t k r) (partT .put t k r'):=by
  have hsz : T.sz (partT .put t k r) ≤ T.sz (partT .put t k r'):=by
    have h1:=zEf (r:=r) hf hs
    have h2:=zEf (r:=r') hf hs
    have:=h.sz
    omega
  have hok:=T.few_okq _ (T.fewm_few hm _ hf)
  refine ⟨hsz, ?_⟩
  rcases wM hs with ⟨us,i,rfl,rfl,hi,e⟩ | ⟨ks,us,x,rfl,rfl,hmx,rfl,e⟩
  · rw [e,e]
    have hd' : T.deps us + 1 < d + 1:=hd
    have hil:=(List.getElem?_eq_some_iff.mp hi).1
    refine ⟨by rw [List.length_set,List.length_set],by rw [List.length_set]; exact hok.1,fun j a b h1 h2=>?_⟩
    by_cases hj : i.toNat = j
    · subst hj
      rw [List.getElem?_set_self hil] at h1 h2
      rw [← Option.some.inj h1,← Option.some.inj h2]; exact h
    · rw [List.getElem?_set_ne hj] at h1 h2
      rw [h1] at h2; cases h2
      have hmm:=List.mem_of_getElem? h1
      have:=T.deps_le hmm
      exact Sm.refl d a (T.okqs_mem hok.2 hmm) (by omega)
  · rw [e,e]
    have hd' : T.deps us + 1 < d + 1:=hd
    refine ⟨⟨hf.1,hf.1,by rw [yX]; exact hf.2.2.1,by rw [yX]; exact hf.2.2.1,by rw [yX,yX],by rw [yX]; exact hok.2.2.1⟩,fun k hk=>⟨hk, ?_⟩⟩
    rw [vN hf.2.2.1 hmx,vN hf.2.2.1 hmx]
    by_cases ek : k = ts x
    · rw [if_pos ek,if_pos ek]; exact h
    · rw [if_neg ek,if_neg ek]
      have hmm:=wB hk hf.2.2.1
      have:=T.deps_le hmm
      exact Sm.refl d _ (T.okqs_mem hok.2.2.2 hmm) (by omega)
theorem zGe {m : Nat} {t u : T} {k : Key} (hf : T.fewm m t) (hs : stepT t k = some u) : T.fewm m u ∧ T.dep u + 1 ≤ T.dep t ∧ T.sz u ≤ T.sz t:=by
  rcases wM hs with ⟨us,i,rfl,rfl,h,e⟩ | ⟨ks,us,x,rfl,rfl,hm,rfl,e⟩
  · have hmm:=List.mem_of_getElem? h
    have:=T.deps_le hmm
    have:=T.szs_le hmm
    exact ⟨T.fewms_mem hf.2 hmm,(show _ ≤ T.deps us + 1 by omega),(show _ ≤ T.szs us + 1 by omega)⟩
  · have hmm:=wB hm hf.2.2.1
    have:=T.deps_le hmm
    have:=T.szs_le hmm
    exact ⟨T.fewms_mem hf.2.2.2 hmm,(show _ ≤ T.deps us + 1 by omega),(show _ ≤ T.szs us + 1 by omega)⟩
theorem jG : ∀ (ks : List Key) (t : T) (i : Nat),i + 1 < (goT t ks).length → ∃ k u v,ks[i]? = some k ∧ (goT t ks)[i]? = some u ∧ (goT t ks)[i + 1]? = some v ∧ stepT u k = some v
  | [],t,i,h=>by
    have h' : i + 1 < 1:=h
    omega
  | k :: ks,t,i,h=>by
    have e : goT t (k :: ks) = (match stepT t k with | none=>[t] | some u=>t :: goT u ks):=rfl
    cases hs : stepT t k with
    | none =>
      rw [hs] at e
      rw [e] at h
      have h' : i + 1 < 1:=h
      omega
    | some u =>
      rw [hs] at e
      have e' : goT t (k :: ks) = t :: goT u ks:=e
      rw [e'] at h ⊢
      cases i with
      | zero =>
        have hl:=(wY u ks).1
        obtain ⟨v,hv⟩ : ∃ v,(goT u ks)[0]? = some v:=⟨(goT u ks)[0],by simp⟩
        have hv' : v = u:=by
          cases ks with
          | nil=>have : (goT u [])[0]? = some u:=rfl; rw [this] at hv; exact (Option.some.inj hv).symm
          | cons k2 ks =>
            have : goT u (k2 :: ks) = (match stepT u k2 with | none=>[u] | some u'=>u :: goT u' ks):=rfl
            rw [this] at hv
            cases hs2 : stepT u k2 with
            | none=>rw [hs2] at hv; exact (Option.some.inj hv).symm
            | some _=>rw [hs2] at hv; exact (Option.some.inj hv).symm
        refine ⟨k,t,u,rfl,rfl, ?_,hs⟩
        show (goT u ks)[0]? = some u
        rw [hv,hv']
      | succ i =>
        obtain ⟨k',u',v',h1,h2,h3,h4⟩:=jG ks u i (by simpa using h)
        exact ⟨k',u',v',by simpa using h1,by simpa using h2,by simpa using h3,h4⟩
theorem wS {m : Nat} : ∀ (ks : List Key) (t : T) (i : Nat) (u : T),T.fewm m t → (goT t ks)[i]? = some u → T.fewm m u ∧ T.dep u + i ≤ T.dep t ∧ T.sz u ≤ T.sz t
  | [],t,i,u,hf,h=>by
    have h' : [t][i]? = some u:=h
    cases i with
    | zero=>rw [← Option.some.inj h']; exact ⟨hf,Nat.le_refl _,Nat.le_refl _⟩
    | succ i=>cases h'
  | k :: ks,t,i,u,hf,h=>by
    have e : goT t (k :: ks) = (match stepT t k with | none=>[t] | some u=>t :: goT u ks):=rfl
    cases hs : stepT t k with
    | none =>
      rw [hs] at e
      have e' : goT t (k :: ks) = [t]:=e
      rw [e'] at h
      cases i with
      | zero=>rw [← Option.some.inj h]; exact ⟨hf,Nat.le_refl _,Nat.le_refl _⟩
      | succ i=>cases h
    | some v =>
      rw [hs] at e
      have e' : goT t (k :: ks) = t :: goT v ks:=e
      rw [e'] at h
      cases i with
      | zero=>rw [← Option.some.inj h]; exact ⟨hf,Nat.le_refl _,Nat.le_refl _⟩
      | succ i =>
        obtain ⟨a1,a2,a3⟩:=zGe hf hs
        obtain ⟨b1,b2,b3⟩:=wS ks v i u a1 (by simpa using h)
        exact ⟨b1,by omega,by omega⟩
theorem zJk {m0 : Nat} {st : List T} {ks : List Key} (hm : m0 ≤ 63) : ∀ (m d : Nat) (r r' : T),(∀ i,i < m → ∃ u,stepT (st.getD i .non) (ks.getD i (.inl 0)) = some u ∧ T.fewm m0 (st.getD i .non) ∧ T.dep (st.getD i .non) + i < d + m) → Sm d r r' → Sm (d + m) (bld st ks m r) (bld st ks m r')
  | 0,d,r,r',_,h=>h
  | m + 1,d,r,r',hc,h=>by
    obtain ⟨u,h1,h2,h3⟩:=hc m (Nat.lt_succ_self m)
    have:=zJk hm m (d + 1) _ _ (fun i hi=>by
      obtain ⟨u,q1,q2,q3⟩:=hc i (Nat.lt_succ_of_lt hi)
      exact ⟨u,q1,q2,by omega⟩) (zNz hm h2 h1 (by omega) h)
    rw [show d + (m + 1) = d + 1 + m by omega]
    exact this
theorem zDp {m0 B Z : Nat} {st : List T} {ks : List Key} : ∀ (m : Nat) (r : T),(∀ i,i < m → stepT (st.getD i .non) (ks.getD i (.inl 0)) = some (st.getD (i + 1) .non) ∧ T.fewm m0 (st.getD i .non) ∧ T.dep (st.getD i .non) + i ≤ B) → T.fewm m0 r → T.dep r + m ≤ B → T.sz r ≤ T.sz (st.getD m .non) + Z → T.fewm m0 (bld st ks m r) ∧ T.dep (bld st ks m r) ≤ B ∧ T.sz (bld st ks m r) ≤ T.sz (st.getD 0 .non) + Z
  | 0,r,_,h1,h2,h3=>⟨h1,h2,h3⟩
  | m + 1,r,hc,h1,h2,h3=>by
    obtain ⟨q1,q2,q3⟩:=hc m (Nat.lt_succ_self m)
    obtain ⟨p1,p2⟩:=zMy q2 q1 h1
    have p3:=zEf (r:=r) q2 q1
    exact zDp m _ (fun i hi=>hc i (Nat.lt_succ_of_lt hi)) p1 (by omega) (by omega)
theorem zKe {m0 : Nat} {w : Wd} {t n : T} {ks : List Key} (hm : m0 < 62) (hf : T.fewm m0 t) (hn : T.fewm m0 n) (hz : T.sz t ≤ 50000) (hd : T.dep t ≤ 16) (hdn : T.dep n ≤ 8) (h8 : ks.length ≤ 8) :
    (∃ j,chG w (fun s k=>partT w s k n) t ks n = .inl j ∧ chG w (fun s k=>partL w s k n) t ks n = .inl j) ∨
    ∃ r r',chG w (fun s k=>partT w s k n) t ks n = .inr r ∧ chG w (fun s k=>partL w s k n) t ks n = .inr r' ∧ Sm 20 r r' ∧ (T.fewm (m0 + 1) r ∧ T.dep r ≤ 16 ∧ T.sz r ≤ T.sz t + T.sz n) ∧ T.fewm (m0 + 1) r' ∧ T.dep r' ≤ 16 ∧ T.sz r' ≤ T.sz t + T.sz n:=by
  unfold chG
  cases hk : ks.getLast? with
  | none =>
    cases w with
    | put =>
      have hn':=T.fewm_mono (Nat.le_succ m0) _ hn
      have hh : T.fewm (m0 + 1) n ∧ T.dep n ≤ 16 ∧ T.sz n ≤ T.sz t + T.sz n:=⟨hn',by omega,by omega⟩
      exact .inr ⟨n,n,rfl,rfl,Sm.refl 20 n (T.few_okq _ (T.fewm_few (by omega) _ hn)) (by omega),hh,hh⟩
    | ins=>exact .inl ⟨0,rfl,rfl⟩
    | tak=>exact .inl ⟨0,rfl,rfl⟩
  | some k =>
    have hne : ks ≠ []:=fun z=>by rw [z] at hk; cases hk
    have hpos : 0 < ks.length:=List.length_pos_iff.mpr hne
    have hdl : ks.dropLast.length = ks.length - 1:=List.length_dropLast
    have hgl:=wY t ks.dropLast
    dsimp only
    by_cases hlt : (goT t ks.dropLast).length < ks.length
    · rw [if_pos hlt,if_pos hlt]; exact .inl ⟨_,rfl,rfl⟩
    · rw [if_neg hlt,if_neg hlt]
      have hlen : (goT t ks.dropLast).length = ks.length:=by omega
      cases hs : (goT t ks.dropLast).getLast? with
      | none=>exact .inl ⟨_,rfl,rfl⟩
      | some s =>
        dsimp only
        by_cases hc : canT w s k = true
        · rw [if_pos hc,if_pos hc]
          refine .inr ⟨_,_,rfl,rfl, ?_⟩
          have hsi : (goT t ks.dropLast)[ks.length - 1]? = some s:=by rw [List.getLast?_eq_getElem?,hlen] at hs; exact hs
          obtain ⟨s1,s2,s3⟩:=wS ks.dropLast t _ s hf hsi
          have gd : ∀ i u,(goT t ks.dropLast)[i]? = some u → (goT t ks.dropLast).getD i .non = u:=fun i u h=>by rw [List.getD_eq_getElem?_getD,h]; rfl
          have cond : ∀ i,i < ks.length - 1 → stepT ((goT t ks.dropLast).getD i .non) (ks.getD i (.inl 0)) = some ((goT t ks.dropLast).getD (i + 1) .non) ∧ T.fewm m0 ((goT t ks.dropLast).getD i .non) ∧ T.dep ((goT t ks.dropLast).getD i .non) + i ≤ 16:=fun i hi=>by
            obtain ⟨k',u,v,h1,h2,h3,h4⟩:=jG ks.dropLast t i (by omega)
            obtain ⟨a1,a2,a3⟩:=wS ks.dropLast t i u hf h2
            have hki : ks.getD i (.inl 0) = k':=by
              have : ks[i]? = some k':=by
                rw [List.getElem?_dropLast,if_pos hi] at h1
                exact h1
              rw [List.getD_eq_getElem?_getD,this]; rfl
            rw [gd i u h2,gd (i + 1) v h3,hki]
            exact ⟨h4,a1,by omega⟩
          have st0 : (goT t ks.dropLast).getD 0 .non = t:=by
            refine gd 0 t ?_
            cases hq : ks.dropLast with
            | nil=>rfl
            | cons k2 l =>
              have : goT t (k2 :: l) = (match stepT t k2 with | none=>[t] | some u'=>t :: goT u' l):=rfl
              rw [this]
              cases stepT t k2 <;> rfl
          have stl : (goT t ks.dropLast).getD (ks.length - 1) .non = s:=gd _ s hsi
          obtain ⟨pT1,pT2,pT3⟩:=uE (w:=w) (k:=k) s1 hn (Nat.le_trans s3 hz)
          obtain ⟨pL1,pL2,pL3⟩:=zJt (w:=w) (k:=k) s1 hn (Nat.le_trans s3 hz)
          have cond' : ∀ i,i < ks.length - 1 → stepT ((goT t ks.dropLast).getD i .non) (ks.getD i (.inl 0)) = some ((goT t ks.dropLast).getD (i + 1) .non) ∧ T.fewm (m0 + 1) ((goT t ks.dropLast).getD i .non) ∧ T.dep ((goT t ks.dropLast).getD i .non) + i ≤ 16:=fun i hi=>by
            obtain ⟨q1,q2,q3⟩:=cond i hi
            exact ⟨q1,T.fewm_mono (Nat.le_succ m0) _ q2,q3⟩
          have bT:=zDp (B:=16) (Z:=T.sz n) (ks.length - 1) (partT w s k n) cond' pT1 (by omega) (by rw [stl]; exact pT3)
          have bL:=zDp (B:=16) (Z:=T.sz n) (ks.length - 1) (partL w s k n) cond' pL1 (by omega) (by rw [stl]; exact pL3)
          rw [st0] at bT bL
          refine ⟨?_,bT,bL⟩
          have:=zJk (m0:=m0) (by omega) (ks.length - 1) (20 - (ks.length - 1)) _ _ (fun i hi=>by
            obtain ⟨q1,q2,q3⟩:=cond i hi
            exact ⟨_,q1,q2,by omega⟩) (zKu (m:=m0) (d:=20 - (ks.length - 1)) (w:=w) (t:=s) (n:=n) (k:=k) (by omega) s1 hn (Nat.le_trans s3 hz) (by omega) (by omega))
          rw [show 20 - (ks.length - 1) + (ks.length - 1) = 20 by omega] at this
          exact this
        · rw [if_neg hc,if_neg hc]; exact .inl ⟨_,rfl,rfl⟩
end K37
namespace K37
open PySem L2
seal L2.PSs L2.PS L2.PE L2.PT L2.PW L2.PA L2.PI L2.PG L2.PGs L2.PPs L2.PTs
structure Ms (mg : Str → Option Value) : Prop where
  MOST_IN_ROW : ∃ t,mg "MOST_IN_ROW" = some (.int 60 t)
abbrev sKindOf : Stmt:=top 2
abbrev sPlace : Stmt:=top 25
def kindV (t : String) : V:=if t = "NoneType" then .str "nothing" else if t = "bool" then .str "truth" else if t = "int" then .str "number" else if t = "str" then .str "text" else if t = "list" then .str "row" else if t = "dict" then .str "record" else .non
section
variable {P : Program} {w : World} {K : PySem.W.Frag} {mg : Str → Option Value} {base : Heap} {f : Addr} {fd : FuncData}
def tyM : List String:=["NoneType","bool","int","str","list","tuple","dict"]
theorem zLl (t : T) : tyT t ∈ tyM:=by cases t <;> simp [tyT,tyM]
def spKind : Sp:=fun vs H Q _=>∃ (v : V) (t : T),vs = [v] ∧ Rep H v t ∧ ∀ H',Same H H' → Q (kindV (tyT t)) H'
theorem zLz {H : Hp} {v : V} {t : T} (h : Rep H v t) : v = .non ↔ tyT t = "NoneType":=by
  constructor
  · intro e
    subst e
    have:=h.ty
    exact (Option.some.inj this).symm
  · intro e
    cases t with
    | non=>exact h
    | _=>exact absurd e (by simp [tyT])
theorem scKindOf : FnScope ["thing"] ["thing"] (defScope sKindOf):=⟨rfl,rfl,rfl,by decide +kernel,rfl,by decide +kernel,by decide +kernel⟩
theorem zEg (F : Fun K "kind_of" "kind_of" sKindOf f fd) (B : Bl mg) : FnOk P w K mg base CX0 1 f fd ["thing"] spKind:=by
  refine F.ok scKindOf (fun vs H Q E h=>?_) (fun cdv A outer s H vs Q E hr h=>?_)
  · obtain ⟨v,t,rfl,_⟩:=h
    rfl
  obtain ⟨v,t,rfl,hv,q⟩:=h
  have nd:=scKindOf.nd
  refine ⟨_,(zF (zW (zBn (zDl (pv 0))) (zG (zL zX)) zK)
    (zF (zW (zZ (zJ (zQ (T:="bool") (by decide)) rfl B.isinstance zI (zA (pv 0) (zA (zR (v:=.ty "bool") rfl B.bool jF rfl) zB)))) (zG (zL zX)) zK)
    (zF (zW (zZ (zJ (zQ (T:="int") (by decide)) rfl B.isinstance zI (zA (pv 0) (zA (zR (v:=.ty "int") rfl B.int qE rfl) zB)))) (zG (zL zX)) zK)
    (zF (zW (zZ (zJ (zQ (T:="str") (by decide)) rfl B.isinstance zI (zA (pv 0) (zA (zR (v:=.ty "str") rfl B.str vL rfl) zB)))) (zG (zL zX)) zK)
    (zF (zW (zZ (zJ (zQ (T:="list") (by decide)) rfl B.isinstance zI (zA (pv 0) (zA (zR (v:=.ty "list") rfl B.list yO rfl) zB)))) (zG (zL zX)) zK)
    (zF (zW (zZ (zJ (zQ (T:="dict") (by decide)) rfl B.isinstance zI (zA (pv 0) (zA (zR (v:=.ty "dict") rfl B.dict yN rfl) zB)))) (zG (zL zX)) zK)
    (zG (zL qV)))))))), ?_⟩
  rw [show start ["thing"] [v] = [some v] from rfl]
  walk_at "rd3"
  have q:=q H (Same.refl H)
  have ht:=hv.ty
  have hm:=zLl t
  have hn:=zLz hv
  simp only [ht,Option.some.injEq,exists_eq_left']
  generalize tyT t = y at hm hn q
  simp only [tyM,List.mem_cons,List.not_mem_nil,or_false] at hm
  by_cases hv : v = .non
  · rw [if_pos hv]; rw [hn.mp hv] at q; exact q
  · rw [if_neg hv]
    rcases hm with rfl | rfl | rfl | rfl | rfl | rfl | rfl
    · exact absurd (hn.mpr rfl) hv
    all_goals (simpa [isSub,kindV] using q)
def placeT : T → Bool
  | .int i=>decide (0 ≤ i ∧ i < 60)
  | _=>false
def spPlace : Sp:=fun vs H Q _=>∃ (v : V) (t : T),vs = [v] ∧ Rep H v t ∧ ∀ H',Same H H' → Q (.bl (placeT t)) H'
theorem scPlace : FnScope ["thing"] ["thing"] (defScope sPlace):=⟨rfl,rfl,rfl,by decide +kernel,rfl,by decide +kernel,by decide +kernel⟩
theorem zJz (F : Fun K "is_place" "is_place" sPlace f fd) (B : Bl mg) (M : Ms mg) (Gkind_of : Dn P w K mg base 1 "kind_of" ["thing"] spKind) : FnOk P w K mg base CX0 2 f fd ["thing"] spPlace:=by
  refine F.ok scPlace (fun vs H Q E h=>?_) (fun cdv A outer s H vs Q E hr h=>?_)
  · obtain ⟨v,t,rfl,_⟩:=h
    rfl
  obtain ⟨v,t,rfl,hv,q⟩:=h
  have nd:=scPlace.nd
  refine ⟨_,(zG (zL (xU (xE yK (zV Gkind_of hr (by omega) rfl (zA (pv 0) zB)) zX (zT _)) (xY (zId zMc kC zE (pv 0) (pe_gi rfl M.MOST_IN_ROW)))))), ?_⟩
  rw [show start ["thing"] [v] = [some v] from rfl]
  walk_at "rd3"
  refine ⟨v,t,rfl,hv,fun H1 g1=>?_⟩
  have q:=q H1 g1
  cases t with
  | int i =>
    cases (show v = _ from hv)
    refine ⟨rfl,iP (show kindV "int" = V.str (Str.ofString "number") by decide +kernel) ⟨i,rfl, ?_⟩⟩
    by_cases c0 : 0 ≤ i
    · refine iP c0 ⟨i,rfl, ?_⟩
      have e : placeT (.int i) = decide (i < 60):=by simp [placeT,c0]
      rw [← e]; exact q
    · refine iN c0 ?_
      have e : placeT (.int i) = false:=by simp [placeT,c0]
      rw [← e]; exact q
  | non=>exact ⟨rfl,iN (show ¬ kindV "NoneType" = V.str (Str.ofString "number") by decide +kernel) q⟩
  | bl b=>exact ⟨rfl,iN (show ¬ kindV "bool" = V.str (Str.ofString "number") by decide +kernel) q⟩
  | str b=>exact ⟨rfl,iN (show ¬ kindV "str" = V.str (Str.ofString "number") by decide +kernel) q⟩
  | lst b=>exact ⟨rfl,iN (show ¬ kindV "list" = V.str (Str.ofString "number") by decide +kernel) q⟩
  | dic b c=>exact ⟨rfl,iN (show ¬ kindV "dict" = V.str (Str.ofString "number") by decide +kernel) q⟩
  | tup b=>exact ⟨rfl,iN (show ¬ kindV "tuple" = V.str (Str.ofString "number") by decide +kernel) q⟩
end
abbrev sLw : Stmt:=top 33
abbrev sCc : Stmt:=top 34
abbrev sRec : Stmt:=top 36
abbrev sRow : Stmt:=top 37
abbrev sPart : Stmt:=top 35
theorem zCp {k : Key} (h : okK k) (i : Int) (e : k = .inl i) : placeT (.int i) = true:=by
  subst e
  have h' : 0 ≤ i ∧ i ≤ 59:=h
  simp only [placeT,decide_eq_true_eq]
  omega
theorem zAu (xs : List V) {i : Int} (h : 0 ≤ i) : cutV xs none (some i) = xs.take i.toNat:=by
  obtain ⟨n,rfl⟩:=Int.eq_ofNat_of_zero_le h
  unfold cutV
  rw [HT.sIx_nat,HT.sIx_none,List.drop_zero,Nat.sub_zero,Int.toNat_natCast]
  by_cases c : n ≤ xs.length
  · rw [Nat.min_eq_left c]
  · rw [Nat.min_eq_right (by omega),List.take_of_length_le (Nat.le_refl _),List.take_of_length_le (by omega)]
theorem qG (xs : List V) {i : Int} (h : 0 ≤ i) : cutV xs (some i) none = xs.drop i.toNat:=by
  obtain ⟨n,rfl⟩:=Int.eq_ofNat_of_zero_le h
  unfold cutV
  rw [HT.sIx_nat,HT.sIx_none,Int.toNat_natCast]
  by_cases c : n ≤ xs.length
  · rw [Nat.min_eq_left c,List.take_of_length_le (by rw [List.length_drop]; exact Nat.le_refl _)]
  · rw [Nat.min_eq_right (by omega),List.drop_of_length_le (Nat.le_refl _),List.drop_of_length_le (by omega),List.take_nil]
theorem Reps.dropK {H : Hp} {n : List Nat} : ∀ {ps : List (Key × V)} {ks : List (List Nat)} {us : List T},ps.map (·.1) = ks.map nK → Reps H (ps.map (·.2)) us → (L2.dropK ps (nK n)).map (·.1) = (dropN n ks).map nK ∧ Reps H ((L2.dropK ps (nK n)).map (·.2)) (dropT n ks us)
  | [],[],us,_,h=>by
    have e : us = []:=by
      cases us with
      | nil=>rfl
      | cons _ _=>obtain ⟨v,r,e,_⟩:=h; cases e
    subst e
    exact ⟨rfl,rfl⟩
  | [],_ :: _,_,e,_=>by simp at e
  | _ :: _,[],_,e,_=>by simp at e
  | p :: ps,k :: ks,[],_,h=>by
    have h' : (p :: ps).map (·.2) = []:=h
    cases h'
  | p :: ps,k :: ks,u :: us,e,⟨v',r,e0,h1,h2⟩=>by
    have e' : p.2 :: ps.map (·.2) = v' :: r:=e0
    injection e' with e1 e2
    subst e1 e2
    have e3 : p.1 :: ps.map (·.1) = nK k :: ks.map nK:=e
    injection e3 with e4 e5
    obtain ⟨i1,i2⟩:=Reps.dropK (n:=n) e5 h2
    unfold L2.dropK at i1 i2 ⊢
    rw [List.filter_cons]
    unfold dropN dropT
    by_cases hk : k = n
    · rw [if_neg (by simp [e4,hk]),if_pos hk,if_pos hk]
      exact ⟨i1,i2⟩
    · rw [if_pos (by rw [e4]; exact decide_eq_true fun z=>hk (qW z)),if_neg hk,if_neg hk]
      exact ⟨by rw [List.map_cons,List.map_cons,e4,i1],_,_,rfl,h1,i2⟩
section
variable {P : Program} {w : World} {K : PySem.W.Frag} {mg : Str → Option Value} {base : Heap} {f : Addr} {fd : FuncData}
theorem scLw : FnScope ["thing","step"] ["thing","step"] (defScope sLw):=⟨rfl,rfl,rfl,by decide +kernel,rfl,by decide +kernel,by decide +kernel⟩
theorem ok_lw (F : Fun K "leads_within" "leads_within" sLw f fd) (B : Bl mg) (Gleads_on : Dn P w K mg base 1 "leads_on" ["thing","step"] spLo) (Gis_place : Dn P w K mg base 2 "is_place" ["thing"] spPlace) : FnOk P w K mg base CX0 3 f fd ["thing","step"] spLo:=by
  refine F.ok scLw (fun vs H Q E h=>?_) (fun cdv A outer s H vs Q E hr h=>?_)
  · obtain ⟨v,t,k,rfl,_⟩:=h
    rfl
  obtain ⟨v,t,k,rfl,hv,hp,hz,hk,q⟩:=h
  have nd:=scLw.nd
  refine ⟨_,(zG (zL (xU (zV Gleads_on hr (by omega) rfl (zA (pv 0) (zA (pv 1) zB))) (xY (pe_or (zJ (zQ (T:="str") (by decide)) rfl B.isinstance zI (zA (pv 1) (zA (zR (v:=.ty "str") rfl B.str vL rfl) zB))) (xY (zV Gis_place hr (by omega) rfl (zA (pv 1) zB)))))))), ?_⟩
  rw [show start ["thing","step"] [v,kV k] = [some v,some (kV k)] from rfl]
  walk_at "rd3"
  refine ⟨v,t,k,rfl,hv,hp,hz,hk,fun H1 g1=>⟨_,rfl, ?_⟩⟩
  have q1:=q H1 g1
  cases hb : (stepT t k).isSome with
  | false=>rw [hb] at q1; exact iN (by decide) q1
  | true =>
    refine iP rfl ?_
    cases k with
    | inr x=>rw [hb] at q1; exact ⟨"str",rfl,iP (by decide) q1⟩
    | inl i =>
      refine ⟨"int",rfl,iN (by decide) ⟨_, .int i,rfl,rfl,fun H2 g2=>?_⟩⟩
      rw [zCp hk i rfl]
      have q2:=q H2 (g1.trans g2)
      rw [hb] at q2; exact q2
def spCc : Sp:=fun vs H Q _=>∃ (v : V) (t : T) (w : Wd) (k : Key),vs = [v, .str w.s,kV k] ∧ Rep H v t ∧ T.pure t ∧ T.sz t ≤ 100000 ∧ okK k ∧ ∀ H',Same H H' → Q (.bl (canT w t k)) H'
theorem scCc : FnScope ["holder","word","step"] ["holder","word","step"] (defScope sCc):=⟨rfl,rfl,rfl,by decide +kernel,rfl,by decide +kernel,by decide +kernel⟩
theorem ok_cc (F : Fun K "can_change" "can_change" sCc f fd) (B : Bl mg) (Gleads_within : Dn P w K mg base 3 "leads_within" ["thing","step"] spLo) (Gis_place : Dn P w K mg base 2 "is_place" ["thing"] spPlace) : FnOk P w K mg base CX0 4 f fd ["holder","word","step"] spCc:=by
  refine F.ok scCc (fun vs H Q E h=>?_) (fun cdv A outer s H vs Q E hr h=>?_)
  · obtain ⟨v,t,wd,k,rfl,_⟩:=h
    rfl
  obtain ⟨v,t,wd,k,rfl,hv,hp,hz,hk,q⟩:=h
  have nd:=scCc.nd
  refine ⟨_,(zF (zW (zS yK (pv 1) zX (zT _)) (zG (zL (zV Gleads_within hr (by omega) rfl (zA (pv 0) (zA (pv 2) zB))))) zK)
    (zF (zW (zZ (zJ (zQ (T:="str") (by decide)) rfl B.isinstance zI (zA (pv 2) (zA (zR (v:=.ty "str") rfl B.str vL rfl) zB)))) (zG (zL (xU (xE yK (pv 1) zX (zT _)) (xY (zJ (zQ (T:="dict") (by decide)) rfl B.isinstance zI (zA (pv 0) (zA (zR (v:=.ty "dict") rfl B.dict yN rfl) zB))))))) zK)
    (zG (zL (xU (zJ (zQ (T:="list") (by decide)) rfl B.isinstance zI (zA (pv 0) (zA (zR (v:=.ty "list") rfl B.list yO rfl) zB))) (xU (zV Gis_place hr (by omega) rfl (zA (pv 2) zB)) (xY (xE zMc (pv 2) (zJ yF rfl B.len yS (zA (pv 0) zB)) (zT _))))))))), ?_⟩
  rw [show start ["holder","word","step"] [v, .str wd.s,kV k] = [some v,some (.str wd.s),some (kV k)] from rfl]
  walk_at "rd3"
  have q0:=q H (Same.refl H)
  have tPut : ¬ Wd.put.s = Str.ofString "take":=by decide +kernel
  have tIns : ¬ Wd.ins.s = Str.ofString "take":=by decide +kernel
  have pIns : ¬ Wd.ins.s = Str.ofString "put":=by decide +kernel
  have row : ∀ (wd : Wd) (i : Int),k = .inl i → (∀ us,t = .lst us → canT wd t k = decide (i ≤ (us.length : Int))) → ((∀ us,t ≠ .lst us) → canT wd t k = false) → (∀ H',Same H H' → Q (.bl (canT wd t k)) H') → ∃ x,tyS H v = some x ∧ if isSub x "list" = true then spPlace [kV k] H (fun x H1=>∃ c,x = V.bl c ∧ if c = true then ∃ p,v = V.ref p ∧ ∃ ys,SqL K H1 p ys ∧ ∃ i,kV k = V.int i ∧ Q (V.bl (decide (i ≤ (ys.length : Int)))) H1 else Q (V.bl false) H1) E0 else Q (V.bl false) H:=by
    intro wd i ek h1 h2 q
    subst ek
    have no : (∀ us,t ≠ .lst us) → Q (.bl false) H:=fun hne=>by have:=q H (Same.refl H); rw [h2 hne] at this; exact this
    cases t with
    | lst us =>
      obtain ⟨b,xs,rfl,hb,hx⟩:=hv
      refine ⟨"list",xM hb,iP (by decide) ⟨_, .int i,rfl,rfl,fun H2 g2=>⟨_,rfl, ?_⟩⟩⟩
      rw [zCp hk i rfl]
      refine iP rfl ⟨b,rfl,xs,SqL.of (g2 _ _ hb),i,rfl, ?_⟩
      have q2:=q H2 g2
      rw [h1 us rfl] at q2
      rw [hx.length]; exact q2
    | dic ks us=>exact ⟨_,hv.ty,iN (by simp [tyT,isSub]) (no (by intro us z; cases z))⟩
    | tup us=>exact hp.elim
    | non=>exact ⟨_,hv.ty,iN (by simp [tyT,isSub]) (no (by intro us z; cases z))⟩
    | bl b=>exact ⟨_,hv.ty,iN (by simp [tyT,isSub]) (no (by intro us z; cases z))⟩
    | int b=>exact ⟨_,hv.ty,iN (by simp [tyT,isSub]) (no (by intro us z; cases z))⟩
    | str b=>exact ⟨_,hv.ty,iN (by simp [tyT,isSub]) (no (by intro us z; cases z))⟩
  cases wd with
  | tak=>exact iP rfl ⟨v,t,k,rfl,hv,hp,hz,hk,q⟩
  | put =>
    refine iN tPut ?_
    cases k with
    | inr x =>
      refine ⟨"str",rfl,iP (by decide) (iP rfl ⟨_,hv.ty, ?_⟩)⟩
      have e : isSub (tyT t) "dict" = canT .put t (.inr x):=by cases t <;> first | rfl | (simp [tyT,isSub,canT])
      rw [e]; exact q0
    | inl i=>exact ⟨"int",rfl,iN (by decide) (row .put i rfl (fun us e=>by subst e; rfl) (fun h=>by cases t <;> first | rfl | exact absurd rfl (h _)) q)⟩
  | ins =>
    refine iN tIns ?_
    cases k with
    | inr x =>
      refine ⟨"str",rfl,iP (by decide) (iN pIns ?_)⟩
      have e : canT .ins t (.inr x) = false:=by cases t <;> rfl
      rw [e] at q0; exact q0
    | inl i=>exact ⟨"int",rfl,iN (by decide) (row .ins i rfl (fun us e=>by subst e; rfl) (fun h=>by cases t <;> first | rfl | exact absurd rfl (h _)) q)⟩
def spRec : Sp:=fun vs H Q _=>∃ (a : Addr) (ps : List (Key × V)) (ks : List (List Nat)) (us : List T) (w : Wd) (x : Str) (vn : V) (n : T),vs = [.ref a, .str w.s, .str x,vn] ∧ H a = some (.dK ps) ∧ ps.map (·.1) = ks.map nK ∧ Reps H (ps.map (·.2)) us ∧ ks.Nodup ∧ ks.length = us.length ∧ us.length ≤ 1000 ∧ (w = .put ∨ w = .tak ∧ ts x ∈ ks) ∧ Rep H vn n ∧ ∀ p H',Same H H' → Rep H' (.ref p) (partT w (.dic ks us) (.inr x) n) → Q (.ref p) H'
theorem scRec : FnScope ["record","word","name","new","changed"] ["record","word","name","new"] (defScope sRec):=⟨rfl,rfl,rfl,by decide +kernel,rfl,by decide +kernel,by decide +kernel⟩
theorem zOb (F : Fun K "record_changed" "record_changed" sRec f fd) (B : Bl mg) : FnOk P w K mg base CX0 1 f fd ["record","word","name","new"] spRec:=by
  refine F.ok scRec (fun vs H Q E h=>?_) (fun cdv A outer s H vs Q E hr h=>?_)
  · obtain ⟨a,ps,ks,us,wd,x,vn,n,rfl,_⟩:=h
    rfl
  obtain ⟨a,ps,ks,us,wd,x,vn,n,rfl,ha,hkk,hs,nk,hku,hul,hw,hn,q⟩:=h
  have nd:=scRec.nd
  have hu:=wK hr
  refine ⟨_,(zF (zO (i:=4) nd rfl (Or.inl rfl) (yE zDd rfl B.dict yN (zA (pv 0) zB)))
    (zF (zW (zS yK (pv 1) zX (zT _)) (zG (wF (zJw (pv 4) (pv 2) ⟨rfl,rfl,rfl,rfl⟩))) (zG (vQ hu (pv 4) (pv 2) (pv 3) rfl)))
    (zG (zL (pv 4))))), ?_⟩
  rw [show start ["record","word","name","new","changed"] [.ref a, .str wd.s, .str x,vn] = [some (.ref a),some (.str wd.s),some (.str x),some vn,none] from rfl]
  walk_at "rd3"
  refine ⟨ps,ha,fun l hl=>?_⟩
  have s1:=zD hl (.dK ps)
  have hl1:=zC (H:=H) (a:=l) (o:=.dK ps)
  have hla : ∀ o,Same H (upd (upd H l (.dK ps)) l o):=fun o=>by rw [zEz]; exact zD hl o
  have hpl : ps.length = us.length:=by have:=hs.length; rwa [List.length_map] at this
  have ex : (Sum.inr x : Key) = nK (ts x):=by show (Sum.inr x : Key) = Sum.inr (tx (ts x)); rw [wV]
  rcases hw with rfl | ⟨rfl,hx⟩
  · refine iN (by decide +kernel) ⟨_,DPut.k (k:=Sum.inr x) hl1 (by rw [sizeLine_eq]; omega), ?_⟩
    refine q l _ (hla _) ?_
    rw [ex]
    obtain ⟨p1,p2⟩:=jD (p:=(ks,us)) (n:=ts x) (t:=n) hkk hs hn
    exact ⟨l,_,rfl,zC,p1,Reps.same (hla _) _ _ p2⟩
  · refine iP rfl ?_
    obtain ⟨xv,hv1,_⟩:=Rep.at_name nk hkk hs hx
    refine ⟨_,rfl,l,rfl, .inl ⟨ps, .inl hl1⟩,_,rfl,ps,nK (ts x),xv,hl1,by rw [← ex]; rfl,hv1, ?_⟩
    obtain ⟨p1,p2⟩:=Reps.dropK (n:=ts x) hkk hs
    refine q l _ (hla _) ⟨l,_,rfl,zC,p1,Reps.same (hla _) _ _ p2⟩
def spRow : Sp:=fun vs H Q _=>∃ (a : Addr) (xs : List V) (us : List T) (w : Wd) (i : Int) (vn : V) (n : T),vs = [.ref a, .str w.s, .int i,vn] ∧ H a = some (.lst xs) ∧ Reps H xs us ∧ us.length ≤ 100000 ∧ 0 ≤ i ∧ Rep H vn n ∧ ∀ p H',Same H H' → Rep H' (.ref p) (partT w (.lst us) (.inl i) n) → Q (.ref p) H'
theorem scRow : FnScope ["row","word","place","new","ahead","behind"] ["row","word","place","new"] (defScope sRow):=⟨rfl,rfl,rfl,by decide +kernel,rfl,by decide +kernel,by decide +kernel⟩
theorem zNy (F : Fun K "row_changed" "row_changed" sRow f fd) (B : Bl mg) : FnOk P w K mg base CX0 1 f fd ["row","word","place","new"] spRow:=by
  refine F.ok scRow (fun vs H Q E h=>?_) (fun cdv A outer s H vs Q E hr h=>?_)
  · obtain ⟨a,xs,us,wd,i,vn,n,rfl,_⟩:=h
    rfl
  obtain ⟨a,xs,us,wd,i,vn,n,rfl,ha,hs,hul,hi,hn,q⟩:=h
  have nd:=scRow.nd
  refine ⟨_,(zF (zO (i:=4) nd rfl (Or.inl rfl) (yZ xV (pv 0) xL (xJ (pv 2))))
    (zF (zO (i:=5) nd rfl (Or.inl rfl) (zKd (zS yK (pv 1) zX (zT _)) (yZ xV (pv 0) (xJ (pv 2)) xL) (yZ xV (pv 0) (xJ (zH yA (pv 2) zE)) xL)))
    (zF (zW (zS yK (pv 1) zX (zT _)) (zG (zL (zH vD (pv 4) (pv 5)))) zK)
    (zG (zL (zH vD (zH vD (pv 4) (yB (zA (pv 3) zB))) (pv 5))))))), ?_⟩
  rw [show start ["row","word","place","new","ahead","behind"] [.ref a, .str wd.s, .int i,vn] = [some (.ref a),some (.str wd.s),some (.int i),some vn,none,none] from rfl]
  walk_at "rd3"
  have hxl:=hs.length
  refine ⟨a,xs,rfl,SqL.of ha,fun p1 hp1=>?_⟩
  rw [zAu xs hi]
  have s1:=zD hp1 (.lst (xs.take i.toNat))
  have e1:=zC (H:=H) (a:=p1) (o:=.lst (xs.take i.toNat))
  generalize upd H p1 (.lst (xs.take i.toNat)) = H1 at s1 e1 ⊢
  have hT : Reps H (xs.take i.toNat) (us.take i.toNat):=Reps.take _ hs
  have fin : ∀ (j : Nat) (p2 : Addr),H1 p2 = none → (∀ p H',Same H H' → Rep H' (.ref p) (.lst (us.take i.toNat ++ n :: us.drop j)) → Q (.ref p) H') → ∀ (p : Addr),upd H1 p2 (.lst (xs.drop j)) p = none → rCat (V.ref p1) (V.ref p) (upd (upd H1 p2 (.lst (xs.drop j))) p (HO.lst [vn])) fun x H1=>rCat x (V.ref p2) H1 Q:=fun j p2 hp2 q p3 hp3=>by
    have s2:=zD hp2 (.lst (xs.drop j))
    have e2:=zC (H:=H1) (a:=p2) (o:=.lst (xs.drop j))
    generalize upd H1 p2 (.lst (xs.drop j)) = H2 at s2 e2 hp3 ⊢
    have s3:=zD hp3 (.lst [vn])
    have e3:=zC (H:=H2) (a:=p3) (o:=.lst [vn])
    generalize upd H2 p3 (.lst [vn]) = H3 at s3 e3 ⊢
    refine ⟨p1,p3,_,_,rfl,rfl,s3 _ _ (s2 _ _ e1),e3,by rw [sizeLine_eq,List.length_take,List.length_singleton]; omega,fun p4 hp4=>?_⟩
    have s4:=zD hp4 (.lst (xs.take i.toNat ++ [vn]))
    have e4:=zC (H:=H3) (a:=p4) (o:=.lst (xs.take i.toNat ++ [vn]))
    generalize upd H3 p4 (.lst (xs.take i.toNat ++ [vn])) = H4 at s4 e4 ⊢
    refine ⟨p4,p2,_,_,rfl,rfl,e4,s4 _ _ (s3 _ _ e2),by rw [sizeLine_eq,List.length_append,List.length_take,List.length_drop,List.length_singleton]; omega,fun p5 hp5=>?_⟩
    have G:=s1.trans (s2.trans (s3.trans (s4.trans (zD hp5 (.lst (xs.take i.toNat ++ [vn] ++ xs.drop j))))))
    refine q p5 _ G ⟨p5,_,rfl,zC,Reps.same G _ _ ?_⟩
    rw [List.append_assoc]
    exact Reps.append (show Reps H ([vn] ++ xs.drop j) (n :: us.drop j) from ⟨vn,_,rfl,hn,Reps.drop _ hs⟩) hT
  have i1 : (i + 1).toNat = i.toNat + 1:=by omega
  cases wd with
  | put =>
    refine iN (by decide +kernel) ⟨a,xs,rfl,SqL.of (s1 _ _ ha),fun p2 hp2=>iN (by decide +kernel) ?_⟩
    rw [qG xs (by omega),i1] at *
    exact fin _ p2 hp2 q
  | ins =>
    refine iP rfl ⟨a,xs,rfl,SqL.of (s1 _ _ ha),fun p2 hp2=>iN (by decide +kernel) ?_⟩
    rw [qG xs hi] at *
    exact fin _ p2 hp2 q
  | tak =>
    refine iN (by decide +kernel) ⟨a,xs,rfl,SqL.of (s1 _ _ ha),fun p2 hp2=>iP rfl ?_⟩
    rw [qG xs (by omega),i1] at *
    have s2:=zD hp2 (.lst (xs.drop (i.toNat + 1)))
    have e2:=zC (H:=H1) (a:=p2) (o:=.lst (xs.drop (i.toNat + 1)))
    generalize upd H1 p2 (.lst (xs.drop (i.toNat + 1))) = H2 at s2 e2 ⊢
    refine ⟨p1,p2,_,_,rfl,rfl,s2 _ _ e1,e2,by rw [sizeLine_eq,List.length_take,List.length_drop]; omega,fun p3 hp3=>?_⟩
    have G:=s1.trans (s2.trans (zD hp3 (.lst (xs.take i.toNat ++ xs.drop (i.toNat + 1)))))
    exact q p3 _ G ⟨p3,_,rfl,zC,Reps.same G _ _ (Reps.append (Reps.drop _ hs) hT)⟩
def spPart : Sp:=fun vs H Q _=>∃ (v : V) (t : T) (w : Wd) (k : Key) (vn : V) (n : T) (m : Nat),vs = [v, .str w.s,kV k,vn] ∧ Rep H v t ∧ T.fewm m t ∧ m ≤ 63 ∧ T.sz t ≤ 50000 ∧ okK k ∧ canT w t k = true ∧ Rep H vn n ∧ ∀ v' H',Same H H' → Rep H' v' (partT w t k n) → Q v' H'
theorem scPart : FnScope ["holder","word","step","new"] ["holder","word","step","new"] (defScope sPart):=⟨rfl,rfl,rfl,by decide +kernel,rfl,by decide +kernel,by decide +kernel⟩
theorem zKz (F : Fun K "part_changed" "part_changed" sPart f fd) (B : Bl mg) (Grecord_changed : Dn P w K mg base 1 "record_changed" ["record","word","name","new"] spRec) (Grow_changed : Dn P w K mg base 1 "row_changed" ["row","word","place","new"] spRow) : FnOk P w K mg base CX0 2 f fd ["holder","word","step","new"] spPart:=by
  refine F.ok scPart (fun vs H Q E h=>?_) (fun cdv A outer s H vs Q E hr h=>?_)
  · obtain ⟨v,t,wd,k,vn,n,m,rfl,_⟩:=h
    rfl
  obtain ⟨v,t,wd,k,vn,n,m,rfl,hv,hf,hm,hz,hk,hc,hn,q⟩:=h
  have nd:=scPart.nd
  refine ⟨_,(zF (zW (zZ (zJ (zQ (T:="dict") (by decide)) rfl B.isinstance zI (zA (pv 0) (zA (zR (v:=.ty "dict") rfl B.dict yN rfl) zB)))) (zG (zL (zV Grecord_changed hr (by omega) rfl (zA (pv 0) (zA (pv 1) (zA (pv 2) (zA (pv 3) zB))))))) zK)
    (zG (zL (zV Grow_changed hr (by omega) rfl (zA (pv 0) (zA (pv 1) (zA (pv 2) (zA (pv 3) zB)))))))), ?_⟩
  rw [show start ["holder","word","step","new"] [v, .str wd.s,kV k,vn] = [some v,some (.str wd.s),some (kV k),some vn] from rfl]
  walk_at "rd3"
  cases t with
  | dic ks us =>
    obtain ⟨a,ps,rfl,ha,hkk,hs⟩:=hv
    have hku:=hf.2.2.1
    have hkm:=hf.2.1
    refine ⟨"dict",xR ha,iP (by decide) ?_⟩
    cases k with
    | inl i=>cases wd <;> cases hc
    | inr x =>
      refine ⟨a,ps,ks,us,wd,x,vn,n,rfl,ha,hkk,hs,hf.1,hku,by omega, ?_,hn,fun p H' g h=>q _ H' g h⟩
      cases wd with
      | put=>exact .inl rfl
      | ins=>cases hc
      | tak =>
        refine .inr ⟨rfl, ?_⟩
        have hc' : (if ts x ∈ ks then some (lookT (ts x) ks us) else none).isSome = true:=hc
        by_cases h : ts x ∈ ks
        · exact h
        · rw [if_neg h] at hc'; cases hc'
  | lst us =>
    obtain ⟨a,xs,rfl,ha,hs⟩:=hv
    refine ⟨"list",xM ha,iN (by decide) ?_⟩
    cases k with
    | inl i=>exact ⟨a,xs,us,wd,i,vn,n,rfl,ha,hs,hf.1,hk.1,hn,fun p H' g h=>q _ H' g h⟩
    | inr x=>cases wd <;> cases hc
  | tup us=>exact hf.elim
  | non=>cases wd <;> cases k <;> cases hc
  | bl b=>cases wd <;> cases k <;> cases hc
  | int b=>cases wd <;> cases k <;> cases hc
  | str b=>cases wd <;> cases k <;> cases hc
end
end K37
namespace K37
open PySem L2 PySem.W
seal L2.PSs L2.PS L2.PE L2.PT L2.PW L2.PA L2.PI L2.PG L2.PGs L2.PPs L2.PTs
def clsFn (s : Stmt) : Stmt:=match s with
  | .ClassDef _ _ _ (f :: _) _ _ _ _ _ _ _=>f
  | _=>s
abbrev sNInit : Stmt:=clsFn (top 9)
theorem zKt : FnScope ["self","text","at"] ["self","text","at"] (defScope sNInit):=⟨rfl,rfl,rfl,by decide +kernel,rfl,by decide +kernel,by decide +kernel⟩
section
variable {P : Program} {w : World} {K : PySem.W.Frag} {mg : Str → Option Value} {base : Heap} {C B fI dT : Addr} {nm : Str} {oc kV doc pm cdv ct : Value} {od an : Option Addr} {osl : Array (Option Value)}
theorem zJj (lk : K.lookup fI = some ⟨oc,od, .func (fnOf "__init__" "NoPlace.__init__" (defArgs sNInit) (defBody sNInit) (defScope sNInit) (.ref dT) kV doc pm an cdv ct),osl⟩) (hcd : codeIn K cdv "NoPlace.__init__" = true) (c : XCls K nm C B fI) (b : XBase K B) (hmB : mg "CabinetError" = some (.ref B)) :
    FnOk P w K mg base CX0 1 fI (fnOf "__init__" "NoPlace.__init__" (defArgs sNInit) (defBody sNInit) (defScope sNInit) (.ref dT) kV doc pm an cdv ct) ["self","text","at"] (spXInit C):=by
  refine zEy (k:=0) lk hcd zKt (fun vs H Q E h=>?_) fun A outer s H vs Q E hr h=>?_
  · obtain ⟨x,v0,v,rfl,_⟩:=h
    rfl
  obtain ⟨x,v0,v,rfl,hx,q⟩:=h
  refine ⟨_,(zF (wF (zHq c b rfl hmB (zA (pv 0) (zA (pv 1) zB)))) (zG (zLo c (pv 2) (pv 0)))), ?_⟩
  refine ⟨.ref x,rfl,v0,rfl,x,v0,rfl,hx,v,rfl, .ref x,rfl,x,rfl,hx,fun d hd=>q d hd⟩
theorem zCs {o : Obj} {items : Array Value} {n : Nat} (hd : K.lookup dT = some o) (hs : o.data = .seq items n) (h1 : items.size = 1) : Binds K (fnOf "__init__" "NoPlace.__init__" (defArgs sNInit) (defBody sNInit) (defScope sNInit) (.ref dT) kV doc pm an cdv ct) ["self","text","at"] []:=fun s us hK hl=>by
  rw [List.append_nil] at hl ⊢
  obtain ⟨l⟩:=items
  match l,h1 with
  | [i0],_ =>
    match us,hl with
    | [a,b,c],_=>exact binds_K hK rfl hd hs rfl rfl
end
def XAt (C : Addr) (n : Int) (H : Hp) (E : XK) : Prop:=∀ d H',Same H H' → H' d = some (.xd [("at", .int n)]) → E (.ref C) (some d) H'
theorem XAt.of {C : Addr} {n : Int} {H H1 : Hp} {E : XK} {d : Addr} (h : XAt C n H E) (g : Same H H1) (hd : H1 d = none) : E (.ref C) (some d) (upd H1 d (.xd [("at", .int n)])):=h d _ (g.trans (zD hd _)) zC
theorem zKf (t : T) (ks : List Key) : ∃ u,(goT t ks).getLast? = some u ∧ u ∈ goT t ks:=by
  have h:=(wY t ks).1
  cases e : (goT t ks).getLast? with
  | none=>rw [List.getLast?_eq_none_iff.mp e] at h; exact absurd h (by decide)
  | some u=>exact ⟨u,rfl,List.mem_of_getLast? e⟩
theorem kI {α : Type} {xs : List α} {v : α} (h : xs.getLast? = some v) : atI xs (-1) = some v:=by
  rcases List.eq_nil_or_concat xs with e | ⟨ys,y,e⟩
  · rw [e] at h; cases h
  · rw [List.concat_eq_append] at e
    subst e
    rw [List.getLast?_concat] at h
    cases h
    exact jH _ _
theorem Reps.last {H : Hp} {vs : List V} {us : List T} {u : T} (h : Reps H vs us) (hu : us.getLast? = some u) : ∃ v,vs.getLast? = some v ∧ Rep H v u:=by
  have hl:=h.length
  rw [List.getLast?_eq_getElem?] at hu
  have hi:=(List.getElem?_eq_some_iff.mp hu).1
  have hi' : us.length - 1 < vs.length:=by omega
  obtain ⟨t,h1,h2⟩:=h.get (List.getElem?_eq_getElem hi')
  rw [hu] at h1
  cases h1
  refine ⟨_, ?_,h2⟩
  rw [List.getLast?_eq_getElem?,hl]
  exact List.getElem?_eq_getElem hi'
abbrev sWc : Stmt:=top 31
abbrev sSl : Stmt:=top 32
abbrev sCs : Stmt:=top 30
abbrev sCa : Stmt:=top 29
theorem kP (ks : List Key) : cutV (ks.map kV) none (some (-1)) = ks.dropLast.map kV:=by
  have e : HT.sIx (ks.map kV).length (ks.map kV).length (some (-1)) = ks.length - 1:=by
    show (if (-1 : Int) < 0 then ((-1 : Int) + ((ks.map kV).length : Int)).toNat else min (-1 : Int).toNat (ks.map kV).length) = _
    rw [if_pos (by decide),List.length_map]
    omega
  unfold cutV
  rw [e,HT.sIx_none,List.drop_zero,Nat.sub_zero,List.dropLast_eq_take,List.map_take]
structure Tq (m : Nat) (H : Hp) (v : V) (t : T) (pa : Addr) (ks : List Key) : Prop where
  v : Rep H v t
  few : T.fewm m t
  m : m < 62
  sz : T.sz t ≤ 50000
  pa : H pa = some (.lst (ks.map kV))
  ok : ∀ k ∈ ks,okK k
  l8 : ks.length ≤ 8
theorem Tq.same {m : Nat} {H H' : Hp} {v : V} {t : T} {pa : Addr} {ks : List Key} (h : Tq m H v t pa ks) (g : Same H H') : Tq m H' v t pa ks:=⟨Rep.same g _ _ h.v,h.few,h.m,h.sz,g _ _ h.pa,h.ok,h.l8⟩
theorem Tq.pure {m : Nat} {H : Hp} {v : V} {t : T} {pa : Addr} {ks : List Key} (h : Tq m H v t pa ks) : T.pure t:=jL _ t (Nat.le_refl _) (T.fewm_few (by have:=h.m; omega) _ h.few)
section
variable {P : Program} {w : World} {K : PySem.W.Frag} {mg : Str → Option Value} {base : Heap} {f : Addr} {fd : FuncData} {C : Addr}
def spWc (C : Addr) : Sp:=fun vs H Q E=>∃ (wd : Wd) (vn : V),vs = [.str wd.s,vn] ∧ (wd = .put → ∀ H',Same H H' → Q vn H') ∧ (wd ≠ .put → XAt C 0 H E)
theorem scWc : FnScope ["word","new"] ["word","new"] (defScope sWc):=⟨rfl,rfl,rfl,by decide +kernel,rfl,by decide +kernel,by decide +kernel⟩
theorem ok_wc (F : Fun K "whole_changed" "whole_changed" sWc f fd) (B : Bl mg) (RNoPlace : Xr P w K mg base 1 "NoPlace" C) : FnOk P w K mg base (CXE P w) 3 f fd ["word","new"] (spWc C):=by
  refine F.okx scWc (fun vs H Q E h=>?_) (fun cdv A outer s H vs Q E hr h=>?_)
  · obtain ⟨wd,vn,rfl,_⟩:=h
    rfl
  obtain ⟨wd,vn,rfl,q,qx⟩:=h
  have nd:=scWc.nd
  refine ⟨_,(zF (zW (zS jP (pv 0) zX (zT _)) (zG (jU RNoPlace hr (by omega) rfl rfl lvs (zA zX (zA zE zB)))) zK)
    (zG (zL (pv 1)))), ?_⟩
  rw [show start ["word","new"] [.str wd.s,vn] = [some (.str wd.s),some vn] from rfl]
  unfold tXRaise
  walk_at "rd3"
  have raise : wd ≠ .put → ∀ d,H d = none → E (Value.ref C) (some d) (upd H d (HO.xd [(Str.ofString "at",V.int 0)])):=fun h d hd=>(qx h).of (Same.refl _) hd
  cases wd with
  | put=>exact ⟨false,by decide +kernel,iN (by decide) (q rfl H (Same.refl _))⟩
  | ins=>exact ⟨true,by decide +kernel,iP rfl ⟨_,_,⟨rfl,rfl⟩,raise (by intro z; cases z)⟩⟩
  | tak=>exact ⟨true,by decide +kernel,iP rfl ⟨_,_,⟨rfl,rfl⟩,raise (by intro z; cases z)⟩⟩
def spSl (C : Addr) : Sp:=fun vs H Q E=>∃ (v : V) (t : T) (pa : Addr) (ks : List Key) (m : Nat),vs = [v, .ref pa] ∧ Tq m H v t pa ks ∧ (ks.length ≤ (goT t ks.dropLast).length → ∀ p xs H',Same H H' → H' p = some (.lst xs) → Reps H' xs (goT t ks.dropLast) → Q (.ref p) H') ∧ ((goT t ks.dropLast).length < ks.length → XAt C (((goT t ks.dropLast).length : Int) - 1) H E)
theorem scSl : FnScope ["thing","path","stops","step"] ["thing","path"] (defScope sSl):=⟨rfl,rfl,rfl,by decide +kernel,rfl,by decide +kernel,by decide +kernel⟩
theorem ok_sl (F : Fun K "stops_to_last" "stops_to_last" sSl f fd) (B : Bl mg) (Gleads_within : Dn P w K mg base 3 "leads_within" ["thing","step"] spLo) (RNoPlace : Xr P w K mg base 1 "NoPlace" C) : FnOk P w K mg base (CXE P w) 4 f fd ["thing","path"] (spSl C):=by
  refine F.okx scSl (fun vs H Q E h=>?_) (fun cdv A outer s H vs Q E hr h=>?_)
  · obtain ⟨v,t,pa,ks,m,rfl,_⟩:=h
    rfl
  obtain ⟨v,t,pa,ks,m,rfl,hT,q,qx⟩:=h
  have nd:=scSl.nd
  have hu:=wK hr
  refine ⟨_,(zF (zO (i:=2) nd rfl (Or.inl rfl) (yB (zA (pv 0) zB)))
    (zF (wH PassesOwn.leaving rfl (qH (yZ xV (pv 1) xL (xJ (wJ xH zE)))) (yC (i:=3) nd rfl (Or.inl rfl)) (zF (zW (wC (zZ (zV Gleads_within hr (by omega) rfl (zA (yH ix_list (pv 2) (wJ xH zE) (fun _ _=>rfl)) (zA (pv 3) zB))))) (zG (jU RNoPlace hr (by omega) rfl rfl lvs (zA zX (zA (zH xO (zJ yF rfl B.len yS (zA (pv 2) zB)) zE) zB)))) zK)
    (zG (wF (jR PySem.F.plainAttrs_list PySem.F.slot_list_append PySem.F.type_list_append vG (pv 2) (zA (jV (yH ix_list (yH ix_list (pv 2) (wJ xH zE) (fun _ _=>rfl)) (pv 3) (fun _ _=>rfl)) (wW hu (yH ix_list (pv 2) (wJ xH zE) (fun _ _=>rfl)) (pv 3) (fun _ _=>rfl))) zB))))))
    (zG (zL (pv 2))))), ?_⟩
  rw [show start ["thing","path","stops","step"] [v, .ref pa] = [some v,some (.ref pa),none,none] from rfl]
  unfold tXRaise
  walk_at "rd3"
  intro ps hps
  have s1:=zD hps (.lst [v])
  have e1:=zC (H:=H) (a:=ps) (o:=.lst [v])
  have hz:=hT.sz
  have h8:=hT.l8
  generalize hH1 : upd H ps (.lst [v]) = H1 at s1 e1 ⊢
  refine ⟨pa,_,rfl,SqL.of (s1 _ _ hT.pa),fun pl hpl=>⟨pl,rfl,⟨_,SqL.of zC⟩, ?_⟩⟩
  rw [kP]
  have s2:=zD hpl (.lst (ks.dropLast.map kV))
  have e2:=zC (H:=H1) (a:=pl) (o:=.lst (ks.dropLast.map kV))
  generalize upd H1 pl (.lst (ks.dropLast.map kV)) = H2 at s2 e2 ⊢
  have hdl : ks.dropLast.length = ks.length - 1:=List.length_dropLast
  have hks : ∀ k ∈ ks.dropLast,okK k:=fun k hk=>hT.ok k (List.dropLast_subset ks hk)
  have hplps : pl ≠ ps:=fun z=>by rw [z,e1] at hpl; cases hpl
  generalize ks.dropLast = ds at hdl hks e2 q qx ⊢
  have hgl:=wY t ds
  refine vI (K:=K) (a:=pl) (xs:=ds.map kV) (fun i σ' H'=>∃ o us u ys c,σ' = [some v,some (.ref pa),some (.ref ps),o] ∧ Same H H' ∧ H' pl = some (.lst (ds.map kV)) ∧ H' ps = some (.lst (ys ++ [c])) ∧ Reps H ys us ∧ Rep H c u ∧ us.length = i ∧ goT t ds = us ++ goT u (ds.drop i) ∧ T.pure u ∧ T.sz u ≤ 100000)
    ⟨none,[],t,[],v,rfl,s1.trans s2,e2,s2 _ _ e1,rfl,hT.v,rfl,rfl,hT.pure,by omega⟩ (fun i σ' H' _ h=>by
      obtain ⟨o,us,u,ys,c,_,g,h,_⟩:=h
      exact SqL.of h) ?_ ?_
  · rintro i x σ' H' hx ⟨o,us,u,ys,c,rfl,g,hpl',hS,hR,hc,hl,hg,hpu,hzu⟩
    walk_at "rd3"
    have hyl:=hR.length
    rw [List.getElem?_map] at hx
    cases hki : ds[i]? with
    | none=>rw [hki] at hx; cases hx
    | some k =>
      rw [hki] at hx
      have ex : kV k = x:=Option.some.inj hx
      subst ex
      have hik:=(List.getElem?_eq_some_iff.mp hki).1
      have hdr : ds.drop i = k :: ds.drop (i + 1):=by
        rw [List.drop_eq_getElem_cons hik,(List.getElem?_eq_some_iff.mp hki).2]
      rw [hdr] at hg
      refine yG (SqL.of hS) (jH _ _) ⟨c,u,k,rfl,Rep.same g _ _ hc,hpu,hzu,hks _ (List.mem_of_getElem? hki),fun H2 g2=>⟨_,rfl, ?_⟩⟩
      have hS2:=g2 _ _ hS
      have gg:=g.trans g2
      cases hs : stepT u k with
      | none =>
        have e : goT u (k :: ds.drop (i + 1)) = [u]:=by show (match stepT u k with | none=>[u] | some u'=>u :: goT u' (ds.drop (i + 1))) = _; rw [hs]
        rw [e] at hg
        have hlen : (goT t ds).length = i + 1:=by rw [hg,List.length_append,hl]; rfl
        refine iP rfl ⟨_,SqL.of hS2,_,_,⟨rfl,rfl⟩,fun d hd=>?_⟩
        have qq:=(qx (by omega)).of gg hd
        rw [hlen] at qq
        rw [List.length_append,hyl,hl,List.length_singleton]
        exact qq
      | some u' =>
        have e : goT u (k :: ds.drop (i + 1)) = u :: goT u' (ds.drop (i + 1)):=by show (match stepT u k with | none=>[u] | some u'=>u :: goT u' (ds.drop (i + 1))) = _; rw [hs]
        rw [e] at hg
        refine iN (by simp) ⟨Or.inl ⟨rfl,_,SqL.of hS2⟩, ?_⟩
        have hend : ∀ c',Rep H c' u' → T.pure u' → T.sz u' ≤ 100000 → rAppend (V.ref ps) [c'] H2 (fun _ H1=>Same H H1 ∧ H1 pl = some (.lst (ds.map kV)) ∧ ∃ us' u1 ys' c1,H1 ps = some (.lst (ys' ++ [c1])) ∧ Reps H ys' us' ∧ Rep H c1 u1 ∧ us'.length = i + 1 ∧ goT t ds = us' ++ goT u1 (ds.drop (i + 1)) ∧ T.pure u1 ∧ T.sz u1 ≤ 100000):=fun c' h1 h2 h3 =>
          ⟨ps,ys ++ [c],c',rfl,rfl,hS2,by rw [sizeLine_eq,List.length_append]; show ys.length + 1 < _; omega,gg.put hps _,by rw [zM hplps]; exact g2 _ _ hpl',us ++ [u],u',ys ++ [c],c',zC,Reps.snoc hc hR,h1,by rw [List.length_append,hl]; rfl,by rw [hg,List.append_assoc]; rfl,h2,h3⟩
        obtain ⟨c',h1,h2,h3,⟨b,zs,j,rfl,hb,ej,hat⟩ | ⟨b,qs,rfl,hb,hvq⟩⟩:=zBp hc hpu hzu (hks _ (List.mem_of_getElem? hki)) hs
        · refine .inl ?_
          walk_at "rd3"
          refine yG (SqL.of hS2) (jH _ _) ?_
          rw [ej]
          exact yG (SqL.of (gg _ _ hb)) hat (hend _ h1 h2 h3)
        · refine .inr ?_
          walk_at "rd3"
          exact yG (SqL.of hS2) (jH _ _) ⟨b,rfl,c', .inl ⟨qs,k, .inl (gg _ _ hb),rfl,hvq.symm⟩,hend _ h1 h2 h3⟩
  · rintro σ' H' ⟨o,us,u,ys,c,rfl,g,hpl',hS,hR,hc,hl,hg,hpu,hzu⟩
    walk_at "rd3"
    rw [List.length_map,List.drop_length] at hg
    rw [List.length_map] at hl
    have hlen : (goT t ds).length = ds.length + 1:=by rw [hg,List.length_append,hl]; rfl
    refine q (by omega) ps _ _ g hS ?_
    rw [hg]
    exact Reps.snoc (Rep.same g _ _ hc) (Reps.same g _ _ hR)
end
end K37
namespace K37
open PySem L2 PySem.W
seal L2.PSs L2.PS L2.PE L2.PT L2.PW L2.PA L2.PI L2.PG L2.PGs L2.PPs L2.PTs
theorem zLq {t u : T} {k : Key} (hk : okK k) (hs : stepT t k = some u) : canT .put t k = true:=by
  rcases wM hs with ⟨us,i,rfl,rfl,h,_⟩ | ⟨ks,us,x,rfl,rfl,hm,rfl,_⟩
  · have hi:=(List.getElem?_eq_some_iff.mp h).1
    have h0 : 0 ≤ i ∧ i ≤ 59:=hk
    exact decide_eq_true (by omega)
  · rfl
section
variable {P : Program} {w : World} {K : PySem.W.Frag} {mg : Str → Option Value} {base : Heap} {f : Addr} {fd : FuncData} {C : Addr}
def spCs (C : Addr) : Sp:=fun vs H Q E=>∃ (v : V) (t : T) (wd : Wd) (pa : Addr) (ks : List Key) (vn : V) (n : T) (m : Nat),vs = [v, .str wd.s, .ref pa,vn] ∧ Tq m H v t pa ks ∧ Rep H vn n ∧ (∀ r,chG wd (fun s k=>partT wd s k n) t ks n = .inr r → ∀ v' H',Same H H' → Rep H' v' r → Q v' H') ∧ (∀ j : Nat,chG wd (fun s k=>partT wd s k n) t ks n = .inl j → XAt C (j : Int) H E)
theorem scCs : FnScope ["thing","word","path","new","stops","changed","place"] ["thing","word","path","new"] (defScope sCs):=⟨rfl,rfl,rfl,by decide +kernel,rfl,by decide +kernel,by decide +kernel⟩
theorem ok_cs (F : FunD K "change_shared" "change_shared" sCs f fd) (B : Bl mg) (Gwhole_changedx : Dx P w K mg base 3 "whole_changed" ["word","new"] (spWc C)) (Gstops_to_lastx : Dx P w K mg base 4 "stops_to_last" ["thing","path"] (spSl C)) (Gcan_change : Dn P w K mg base 4 "can_change" ["holder","word","step"] spCc) (Gpart_changed : Dn P w K mg base 2 "part_changed" ["holder","word","step","new"] spPart) (RNoPlace : Xr P w K mg base 1 "NoPlace" C) : FnOk P w K mg base (CXE P w) 5 f fd ["thing","word","path","new"] (spCs C):=by
  refine F.okx scCs (fun vs H Q E h=>?_) (fun cdv A outer s H vs Q E hr h=>?_)
  · obtain ⟨v,t,wd,pa,ks,vn,n,m,rfl,_⟩:=h
    rfl
  obtain ⟨v,t,wd,pa,ks,vn,n,m,rfl,hT,hn,q,qx⟩:=h
  have nd:=scCs.nd
  refine ⟨_,(zF (zW (wC (zHx (pv 2) (fun _=>rfl))) (zG (zL (zIc Gwhole_changedx hr (by omega) rfl lvs (zA (pv 1) (zA (pv 3) zB))))) zK)
    (zF (zO (i:=4) nd rfl (Or.inl rfl) (zIc Gstops_to_lastx hr (by omega) rfl lvs (zA (pv 0) (zA (pv 2) zB))))
    (zF (zW (wC (zZ (zV Gcan_change hr (by omega) rfl (zA (yH ix_list (pv 4) (wJ xH zE) (fun _ _=>rfl)) (zA (pv 1) (zA (yH ix_list (pv 2) (wJ xH zE) (fun _ _=>rfl)) zB)))))) (zG (jU RNoPlace hr (by omega) rfl rfl lvs (zA zX (zA (zH xO (zJ yF rfl B.len yS (zA (pv 2) zB)) zE) zB)))) zK)
    (zF (zO (i:=5) nd rfl (Or.inl rfl) (zV Gpart_changed hr (by omega) rfl (zA (yH ix_list (pv 4) (wJ xH zE) (fun _ _=>rfl)) (zA (pv 1) (zA (yH ix_list (pv 2) (wJ xH zE) (fun _ _=>rfl)) (zA (pv 3) zB))))))
    (zF (wH PassesOwn.leaving rfl (zFg rfl B.range (zA (zH xO (zJ yF rfl B.len yS (zA (pv 2) zB)) zE) (zA (wJ xH zE) (zA (wJ xH zE) zB)))) (yC (i:=6) nd rfl (Or.inl rfl)) (zG (zO (i:=5) nd rfl (Or.inl rfl) (zV Gpart_changed hr (by omega) rfl (zA (yH ix_list (pv 4) (pv 6) (fun _ _=>rfl)) (zA zX (zA (yH ix_list (pv 2) (pv 6) (fun _ _=>rfl)) (zA (pv 5) zB))))))))
    (zG (zL (pv 5)))))))), ?_⟩
  rw [show start ["thing","word","path","new","stops","changed","place"] [v, .str wd.s, .ref pa,vn] = [some v,some (.str wd.s),some (.ref pa),some vn,none,none,none] from rfl]
  unfold tXRaise iDown
  walk_at "rd3"
  refine ⟨_, .inl ⟨_,SqL.of hT.pa,rfl⟩, ?_⟩
  have hz:=hT.sz
  have h8:=hT.l8
  have hm:=hT.m
  cases hk : ks.getLast? with
  | none =>
    have e0 : ks = []:=List.getLast?_eq_none_iff.mp hk
    subst e0
    refine iP rfl ⟨wd,vn,rfl,fun e H' g=>?_,fun e=>?_⟩
    · subst e
      exact q n rfl vn H' g (Rep.same g _ _ hn)
    · refine qx 0 ?_
      cases wd with
      | put=>exact absurd rfl e
      | ins=>rfl
      | tak=>rfl
  | some k =>
    have hne : ks ≠ []:=fun z=>by rw [z] at hk; cases hk
    have hpos : 0 < ks.length:=List.length_pos_iff.mpr hne
    have hie : (ks.map kV).isEmpty = false:=by cases ks with | nil=>exact absurd rfl hne | cons _ _=>rfl
    have hch : ∀ pt : T → Key → T,chG wd pt t ks n = if (goT t ks.dropLast).length < ks.length then .inl ((goT t ks.dropLast).length - 1) else
        match (goT t ks.dropLast).getLast? with
        | none=>.inl 0
        | some s=>if canT wd s k = true then .inr (bld (goT t ks.dropLast) ks (ks.length - 1) (pt s k)) else .inl (ks.length - 1):=fun pt=>by unfold chG; rw [hk] <;> rfl
    rw [hch] at q qx
    have hgl:=wY t ks.dropLast
    have hdl : ks.dropLast.length = ks.length - 1:=List.length_dropLast
    refine iN (by rw [hie]; decide) ⟨v,t,pa,ks,m,rfl,hT,fun hle p xs H1 g1 hp1 hR=>?_,fun hlt=>?_⟩
    · have hnlt : ¬ (goT t ks.dropLast).length < ks.length:=by omega
      rw [if_neg hnlt] at q qx
      have hlen : (goT t ks.dropLast).length = ks.length:=by omega
      obtain ⟨s,hs,hsm⟩:=zKf t ks.dropLast
      rw [hs] at q qx
      obtain ⟨xv,hxv,hxr⟩:=Reps.last hR hs
      have hsi : (goT t ks.dropLast)[ks.length - 1]? = some s:=by rw [List.getLast?_eq_getElem?,hlen] at hs; exact hs
      obtain ⟨s1,s2,s3⟩:=wS ks.dropLast t _ s hT.few hsi
      have hkm : k ∈ ks:=List.mem_of_getLast? hk
      have hkl : atI (ks.map kV) (-1) = some (kV k):=kI (by rw [List.getLast?_map,hk]; rfl)
      have sp : T.pure s:=jL _ s (Nat.le_refl _) (T.fewm_few (by omega) _ s1)
      refine yG (SqL.of hp1) (kI hxv) (yG (SqL.of (g1 _ _ hT.pa)) hkl ⟨xv,s,wd,k,rfl,hxr,sp,by omega,hT.ok k hkm,fun H2 g2=>⟨_,rfl, ?_⟩⟩)
      have g12:=g1.trans g2
      by_cases hc : canT wd s k = true
      · have q:=q _ (if_pos hc)
        refine iN (by rw [hc]; decide) (yG (SqL.of (g2 _ _ hp1)) (kI hxv) (yG (SqL.of (g12 _ _ hT.pa)) hkl ⟨xv,s,wd,k,vn,n,m,rfl,Rep.same g2 _ _ hxr,s1,by omega,by omega,hT.ok k hkm,hc,Rep.same g12 _ _ hn,fun v' H3 g3 hv3=>?_⟩))
        have g13:=g12.trans g3
        have hp3:=g3 _ _ (g2 _ _ hp1)
        have hpa3:=g13 _ _ hT.pa
        have hR3:=Reps.same (g2.trans g3) _ _ hR
        have hxl:=hR.length
        refine ⟨_,SqL.of hpa3, ?_⟩
        rw [List.length_map]
        refine ⟨by omega,by omega, ?_⟩
        rw [show ((ks.length : Int) - 2 + 1).toNat = ks.length - 1 by omega]
        refine uJ (fun i σ' H'=>∃ o c r,σ' = [some v,some (.str wd.s),some (.ref pa),some vn,some (.ref p),some c,o] ∧ Same H3 H' ∧ Rep H' c r ∧ i ≤ ks.length - 1 ∧ bld (goT t ks.dropLast) ks (ks.length - 1 - i) r = bld (goT t ks.dropLast) ks (ks.length - 1) (partT wd s k n)) ⟨_,v',_,rfl,Same.refl _,hv3,Nat.zero_le _,rfl⟩ ?_ ?_
        · rintro i σ' H' hi ⟨o,c,r,rfl,g,hc',hil,hb⟩
          walk_at "rd3"
          obtain ⟨M,hM⟩ : ∃ M,ks.length - 1 - i = M + 1:=⟨ks.length - 2 - i,by omega⟩
          have hpl : (ks.length : Int) - 2 - (i : Int) = (M : Int):=by omega
          rw [hpl]
          obtain ⟨k',u',u2,h1,h2,h3,h4⟩:=jG ks.dropLast t M (by omega)
          have hki : ks[M]? = some k':=by
            rw [List.getElem?_dropLast,if_pos (by omega)] at h1
            exact h1
          obtain ⟨a1,a2,a3⟩:=wS ks.dropLast t M u' hT.few h2
          have hMx : M < xs.length:=by omega
          obtain ⟨u1,hu1,hr1⟩:=hR3.get (i:=M) (v:=xs[M]) (List.getElem?_eq_getElem hMx)
          rw [h2] at hu1
          cases hu1
          have hok:=hT.ok k' (List.mem_of_getElem? hki)
          refine yG (SqL.of (g _ _ hp3)) (yU (List.getElem?_eq_getElem hMx)) (yG (SqL.of (g _ _ hpa3)) (yU (j:=M) (by rw [List.getElem?_map,hki]; rfl)) ⟨_,u', .put,k',c,r,m,rfl,Rep.same g _ _ hr1,a1,by omega,by omega,hok,zLq hok h4,hc',fun v4 H4 g4 hv4=>⟨_,v4,⟨rfl,rfl⟩,g.trans g4,_,hv4,by omega, ?_⟩⟩)
          have e1 : (goT t ks.dropLast).getD M .non = u':=by rw [List.getD_eq_getElem?_getD,h2]; rfl
          have e2 : ks.getD M (.inl 0) = k':=by rw [List.getD_eq_getElem?_getD,hki]; rfl
          rw [hM] at hb
          have hb' : bld (goT t ks.dropLast) ks M (partT .put ((goT t ks.dropLast).getD M .non) (ks.getD M (.inl 0)) r) = _:=hb
          rw [e1,e2] at hb'
          rw [show ks.length - 1 - (i + 1) = M by omega]
          exact hb'
        · rintro σ' H' ⟨o,c,r,rfl,g,hc',hil,hb⟩
          walk_at "rd3"
          rw [show ks.length - 1 - (ks.length - 1) = 0 by omega] at hb
          have hb' : r = _:=hb
          rw [hb'] at hc'
          exact q c H' (g13.trans g) hc'
      · have hcf : canT wd s k = false:=by cases hq : canT wd s k with | true=>exact absurd hq hc | false=>rfl
        have qx:=qx _ (if_neg hc)
        refine iP hcf ⟨_,SqL.of (g12 _ _ hT.pa),_,_,⟨rfl,rfl⟩,fun d hd=>?_⟩
        have qq:=qx.of g12 hd
        rw [show (((ks.length - 1 : Nat)) : Int) = ((ks.map kV).length : Int) - 1 by rw [List.length_map]; omega] at qq
        exact qq
    · have qx:=qx _ (if_pos hlt)
      rw [show ((((goT t ks.dropLast).length - 1 : Nat)) : Int) = ((goT t ks.dropLast).length : Int) - 1 by omega] at qx
      exact qx
structure Nq (m : Nat) (t n : T) : Prop where
  few : T.fewm m n
  dep : T.dep t ≤ 16
  depn : T.dep n ≤ 8
  sz : T.sz n ≤ 40000
def spCa (C : Addr) : Sp:=fun vs H Q E=>∃ (v : V) (t : T) (wd : Wd) (pa : Addr) (ks : List Key) (vn : V) (n : T) (m : Nat),vs = [v, .str wd.s, .ref pa,vn] ∧ Tq m H v t pa ks ∧ Rep H vn n ∧ Nq m t n ∧ (∀ r,chG wd (fun s k=>partT wd s k n) t ks n = .inr r → ∀ v' H' D,Same H H' → Sp1 H' v' r D → (∀ b ∈ D,H b = none) → Q v' H') ∧ (∀ j : Nat,chG wd (fun s k=>partT wd s k n) t ks n = .inl j → XAt C (j : Int) H E)
theorem scCa : FnScope ["thing","word","path","new"] ["thing","word","path","new"] (defScope sCa):=⟨rfl,rfl,rfl,by decide +kernel,rfl,by decide +kernel,by decide +kernel⟩
theorem zMd (F : FunD K "changed_at" "changed_at" sCa f fd) (Gchange_sharedx : Dx P w K mg base 5 "change_shared" ["thing","word","path","new"] (spCs C)) (Gcopied : Dn P w K mg base (1 + 20) "copied" ["thing"] (spCp 20)) : FnOk P w K mg base (CXE P w) 22 f fd ["thing","word","path","new"] (spCa C):=by
  refine F.okx scCa (fun vs H Q E h=>?_) (fun cdv A outer s H vs Q E hr h=>?_)
  · obtain ⟨v,t,wd,pa,ks,vn,n,m,rfl,_⟩:=h
    rfl
  obtain ⟨v,t,wd,pa,ks,vn,n,m,rfl,hT,hn,hN,q,qx⟩:=h
  have nd:=scCa.nd
  refine ⟨_,(zG (zL (zV Gcopied hr (by omega) rfl (zA (zIc Gchange_sharedx hr (by omega) rfl lvs (zA (pv 0) (zA (pv 1) (zA (pv 2) (zA (pv 3) zB))))) zB)))), ?_⟩
  rw [show start ["thing","word","path","new"] [v, .str wd.s, .ref pa,vn] = [some v,some (.str wd.s),some (.ref pa),some vn] from rfl]
  walk_at "rd3"
  refine ⟨v,t,wd,pa,ks,vn,n,m,rfl,hT,hn,fun r hr' v1 H1 g1 hv1=>?_,qx⟩
  have hz:=hT.sz
  have hm:=hT.m
  have hnz:=hN.sz
  rcases zKe (w:=wd) hT.m hT.few hN.few hT.sz hN.dep hN.depn hT.l8 with ⟨j,h1,_⟩ | ⟨r0,r',h1,_,_,⟨a1,a2,a3⟩,_⟩
  · rw [h1] at hr'; cases hr'
  · rw [h1] at hr'
    have e:=Sum.inr.inj hr'
    subst e
    exact ⟨v1,r0,rfl,hv1,jL _ r0 (Nat.le_refl _) (T.fewm_few (by omega) _ a1),by omega,by omega,fun v2 H2 D g2 hv2 hD=>q r0 h1 v2 H2 D (g1.trans g2) hv2 fun b hb=>zN g1 (hD b hb)⟩
end
end K37
namespace K37
open PySem L2
seal L2.PSs L2.PS L2.PE L2.PT L2.PW L2.PA L2.PI L2.PG L2.PGs L2.PPs L2.PTs
abbrev sRb : Stmt:=top 59
def tyK : Key → String
  | .inl _=>"int"
  | .inr _=>"str"
def byK : Key → Bool
  | .inl _=>false
  | .inr _=>true
theorem zMs (k : Key) : isSub (tyK k) "str" = byK k:=by cases k <;> rfl
def plc (j : Int) : HO:=.tup [.str (Str.ofString "place"), .int j]
theorem uO {n : List Nat} : ∀ (a b : List (List Nat)),dropN n (a ++ b) = dropN n a ++ dropN n b
  | [],b=>rfl
  | k :: a,b=>by
    show (if k = n then dropN n (a ++ b) else k :: dropN n (a ++ b)) = (if k = n then dropN n a else k :: dropN n a) ++ dropN n b
    rw [uO a b]
    split <;> rfl
theorem zAa {n : List Nat} {b : List (List Nat)} {d : List T} : ∀ (a : List (List Nat)) (c : List T),a.length = c.length → dropT n (a ++ b) (c ++ d) = dropT n a c ++ dropT n b d
  | [],[],_=>rfl
  | [],_ :: _,h=>by simp at h
  | _ :: _,[],h=>by simp at h
  | k :: a,u :: c,h=>by
    show (if k = n then dropT n (a ++ b) (c ++ d) else u :: dropT n (a ++ b) (c ++ d)) = (if k = n then dropT n a c else u :: dropT n a c) ++ dropT n b d
    rw [zAa a c (by simpa using h)]
    split <;> rfl
theorem zDc : ∀ (ks : List Key) (t : T) (M : Nat),M < (goT t ks).length → (goT t (ks.take M)).getLast? = (goT t ks)[M]?
  | [],t,M,h=>by
    have h' : M < 1:=h
    have e : M = 0:=by omega
    subst e
    rfl
  | k :: ks,t,0,h=>by
    have e : goT t (k :: ks) = (match stepT t k with | none=>[t] | some u=>t :: goT u ks):=rfl
    rw [e]
    cases stepT t k <;> rfl
  | k :: ks,t,M + 1,h=>by
    have e : goT t (k :: ks) = (match stepT t k with | none=>[t] | some u=>t :: goT u ks):=rfl
    have e2 : goT t ((k :: ks).take (M + 1)) = (match stepT t k with | none=>[t] | some u=>t :: goT u (ks.take M)):=rfl
    rw [e] at h ⊢
    rw [e2]
    cases hs : stepT t k with
    | none =>
      rw [hs] at h
      have h' : M + 1 < 1:=h
      omega
    | some u =>
      rw [hs] at h
      have h' : M + 1 < (goT u ks).length + 1:=by simpa using h
      have ih:=zDc ks u M (by omega)
      show (t :: goT u (ks.take M)).getLast? = (t :: goT u ks)[M + 1]?
      rw [List.getElem?_cons_succ,← ih]
      have hl:=(wY u (ks.take M)).1
      cases hq : goT u (ks.take M) with
      | nil=>rw [hq] at hl; exact absurd hl (by decide)
      | cons a b=>rfl
section
variable {P : Program} {w : World} {K : PySem.W.Frag} {mg : Str → Option Value} {base : Heap} {f : Addr} {fd : FuncData}
def spRb : Sp:=fun vs H Q _=>∃ (v : V) (t : T) (wd : Wd) (pa : Addr) (ks : List Key) (vn : V) (n : T) (m : Nat),vs = [v, .str wd.s, .ref pa,vn] ∧ Tq m H v t pa ks ∧ Rep H vn n ∧ Nq m t n ∧ (∀ r,chG wd (fun s k=>partL wd s k n) t ks n = .inr r → ∀ v' H',Same H H' → Rep (newH H H') v' r → Q v' H') ∧ (∀ j : Nat,chG wd (fun s k=>partL wd s k n) t ks n = .inl j → ∀ p H',Same H H' → H p = none → H' p = some (plc j) → Q (.ref p) H')
theorem scRb : FnScope ["_law_thing","_law_word_here","_law_path_here","_law_new","_law_many","_law_here","_law_last","_law_by_name","_law_made","_law_k","_law_above"] ["_law_thing","_law_word_here","_law_path_here","_law_new"] (defScope sRb):=⟨rfl,rfl,rfl,by decide +kernel,rfl,by decide +kernel,by decide +kernel⟩
theorem ok_rb (F : Fun K "_law_rebuilt" "_law_rebuilt" sRb f fd) (B : Bl mg) (G_law_copy : Dn P w K mg base (1 + 20) "_law_copy" ["_law_thing"] (spCo 20)) (G_law_gone : Dn P w K mg base 2 "_law_gone" ["_law_thing","_law_path_here"] spGn) : FnOk P w K mg base CX0 22 f fd ["_law_thing","_law_word_here","_law_path_here","_law_new"] spRb:=by
  refine F.ok scRb (fun vs H Q E h=>?_) (fun cdv A outer s H vs Q E hr h=>?_)
  · obtain ⟨v,t,wd,pa,ks,vn,n,m,rfl,_⟩:=h
    rfl
  obtain ⟨v,t,wd,pa,ks,vn,n,m,rfl,hT,hn,hN,q,qx⟩:=h
  have nd:=scRb.nd
  have hu:=wK hr
  have hu0:=hr.units0
  refine ⟨_,(zF (zW (zS (zLg hu0) (pv 2) (yB zB) (zT _)) (zF (zW (zS yK (pv 1) zX (zT _)) (zG (zL (zV G_law_copy hr (by omega) rfl (zA (pv 3) zB)))) zK)
    (zG (zL (yT (zA zX (zA zE zB)))))) zK)
    (zF (zJo (zV G_law_gone hr (by omega) rfl (zA (pv 0) (zA (yZ xV (pv 2) xL (xJ (wJ xH zE))) zB))) (zIa (n:=2) rfl (jK (yC (i:=4) nd rfl (Or.inl rfl)) (jK (yC (i:=5) nd rfl (Or.inr rfl)) zFo))))
    (zF (zO (i:=6) nd rfl (Or.inr rfl) (yH ix_list (pv 2) (wJ xH zE) (fun _ _=>rfl)))
    (zF (zW (zS kC (pv 4) (zH xO (zJ yF rfl B.len yS (zA (pv 2) zB)) zE) (zT _)) (zG (zL (yT (zA zX (zA (pv 4) zB))))) zK)
    (zF (zO (i:=7) nd rfl (Or.inl rfl) (zJ (zQ (T:="str") (by decide)) rfl B.isinstance zI (zA (pv 6) (zA (zR (v:=.ty "str") rfl B.str vL rfl) zB))))
    (zF (wA (zW (PW.pt (qS (zS jP (zJ (zQ (T:="dict") (by decide)) rfl B.isinstance zI (zA (pv 5) (zA (zR (v:=.ty "dict") rfl B.dict yN rfl) zB))) (pv 7) (zT _)) (vS (wC (zZ (zJ (qL (T:="list") (U:="dict") (by decide) (by decide)) rfl B.isinstance zI (zA (pv 5) (zA (yT (zA (zR (v:=.ty "list") rfl B.list yO rfl) (zA (zR (v:=.ty "dict") rfl B.dict yN rfl) zB))) zB)))))))) (zG (zL (yT (zA zX (zA (pv 4) zB))))) zK))
    (zF (wA (zW (PW.pt (uG (zZ (pv 7)) (jQ (PW.pt (qS (zS yK (pv 1) zX (zT _)) (vS (PW.pt (uG (zS yK (pv 1) zX (zT _)) (jQ (zBn (zFw hu (pv 6) (pv 5)))))))))))) (zG (zL (yT (zA zX (zA (pv 4) zB))))) zK))
    (zF (wA (zW (PW.pt (uG (wC (zZ (pv 7))) (jQ (zS zCj (pv 6) (zH xO (zJ yF rfl B.len yS (zA (pv 5) zB)) (yE vF rfl B.int qE (zA (xE yK (pv 1) zX (zT _)) zB))) (zT _))))) (zG (zL (yT (zA zX (zA (pv 4) zB))))) zK))
    (zF (wA (zW (zZ (pv 7)) (zF (zO (i:=8) nd rfl (Or.inl rfl) (yE (vC rfl) rfl B.dict yN (zA (kO (yW (own:=["_law_name"]) (F:=[("_law_here",5),("_law_last",6)]) ⟨rfl,by with_unfolding_all rfl,by with_unfolding_all rfl,by with_unfolding_all rfl,(.cons rfl rfl rfl (.cons rfl rfl rfl .nil))⟩ rfl (zBu (pv 5)) (fun _ _ _ _=>yC (i:=0) (by show (compN ["_law_name"] [("_law_here",5),("_law_last",6)]).Nodup; decide +kernel) rfl (Or.inl rfl)) (fun _ _ _ _=>(zLr (zS jP (pv 0) (pv 2) (zT _)))) (fun _ _ _ _=>(yT (zA (pv 0) (zA (zV G_law_copy hr (by omega) rfl (zA (wW hu (pv 1) (pv 0) (fun _ _=>rfl)) zB)) zB)))))) zB)))
    (zG (zW (zS yK (pv 1) zX (zT _)) (zG (vQ hu (pv 8) (pv 6) (zV G_law_copy hr (by omega) rfl (zA (pv 3) zB)) rfl)) zK))) (zF (zO (i:=8) nd rfl (Or.inl rfl) (zV G_law_copy hr (by omega) rfl (zA (yZ xV (pv 5) xL (xJ (pv 6))) zB)))
    (zF (zW (zS jP (pv 1) zX (zT _)) (zG (wF (jR PySem.F.plainAttrs_list PySem.F.slot_list_append PySem.F.type_list_append vG (pv 8) (zA (zV G_law_copy hr (by omega) rfl (zA (pv 3) zB)) zB)))) zK)
    (zG (zO (i:=8) nd rfl (Or.inl rfl) (zH vD (pv 8) (zV G_law_copy hr (by omega) rfl (zA (yZ xV (pv 5) (xJ (zH yA (pv 6) (yE vF rfl B.int qE (zA (xE jP (pv 1) zX (zT _)) zB)))) xL) zB)))))))))
    (zF (wH PassesOwn.never rfl (zFg rfl B.range (zA (zH xO (zJ yF rfl B.len yS (zA (pv 2) zB)) zE) (zA (wJ xH zE) (zA (wJ xH zE) zB)))) (yC (i:=9) nd rfl (Or.inl rfl)) (zF (zO (i:=10) nd rfl (Or.inl rfl) (zV G_law_copy hr (by omega) rfl (zA (yH ix_tup (zV G_law_gone hr (by omega) rfl (zA (pv 0) (zA (yZ xV (pv 2) xL (xJ (pv 9))) zB))) zE (fun _ _=>rfl)) zB)))
    (zF (zGd (zJo (pv 8) (zMo (pv 10) (yH ix_list (pv 2) (pv 9) (fun _ _=>rfl)) zIh)) (vQ hu (pv 10) (yH ix_list (pv 2) (pv 9) (fun _ _=>rfl)) (pv 8) rfl))
    (zG (zO (i:=8) nd rfl (Or.inl rfl) (pv 10))))))
    (zG (zL (pv 8))))))))))))), ?_⟩
  unfold iDown
  rw [show start ["_law_thing","_law_word_here","_law_path_here","_law_new","_law_many","_law_here","_law_last","_law_by_name","_law_made","_law_k","_law_above"] [v, .str wd.s, .ref pa,vn] = [some v,some (.str wd.s),some (.ref pa),some vn,none,none,none,none,none,none,none] from rfl]
  walk_at "rd3"
  have hz:=hT.sz
  have h8:=hT.l8
  have hm:=hT.m
  have okn : T.okq n:=T.few_okq _ (T.fewm_few (by omega) _ hN.few)
  have hdn:=hN.depn
  intro pe hpe
  have s1:=zD hpe (.lst [])
  have e1:=zC (H:=H) (a:=pe) (o:=.lst [])
  generalize upd H pe (.lst []) = H1 at s1 e1 ⊢
  refine ⟨pa,pe,_,rfl,rfl,SqL.of (s1 _ _ hT.pa),SqL.of e1,_,rfl, ?_⟩
  cases hk : ks.getLast? with
  | none =>
    have e0 : ks = []:=List.getLast?_eq_none_iff.mp hk
    subst e0
    refine iP rfl ?_
    cases wd with
    | put=>exact iP rfl ⟨vn,n,rfl,Rep.same s1 _ _ hn,okn,by omega,fun v' H2 D g2 hv2 hD=>q n rfl v' H2 (s1.trans g2) (hv2.new fun b hb=>zN s1 (hD b hb))⟩
    | ins=>exact iN (by decide +kernel) fun p hp=>qx 0 rfl p _ (s1.trans (zD hp _)) (zN s1 hp) zC
    | tak=>exact iN (by decide +kernel) fun p hp=>qx 0 rfl p _ (s1.trans (zD hp _)) (zN s1 hp) zC
  | some k =>
    have hne : ks ≠ []:=fun z=>by rw [z] at hk; cases hk
    have hpos : 0 < ks.length:=List.length_pos_iff.mpr hne
    have hie : (ks.map kV).isEmpty = false:=by cases ks with | nil=>exact absurd rfl hne | cons _ _=>rfl
    have hch : ∀ pt : T → Key → T,chG wd pt t ks n = if (goT t ks.dropLast).length < ks.length then .inl ((goT t ks.dropLast).length - 1) else
        match (goT t ks.dropLast).getLast? with
        | none=>.inl 0
        | some s=>if canT wd s k = true then .inr (bld (goT t ks.dropLast) ks (ks.length - 1) (pt s k)) else .inl (ks.length - 1):=fun pt=>by unfold chG; rw [hk] <;> rfl
    rw [hch] at q qx
    have hgl:=wY t ks.dropLast
    have hdl : ks.dropLast.length = ks.length - 1:=List.length_dropLast
    have hkm : k ∈ ks:=List.mem_of_getLast? hk
    have hkl : atI (ks.map kV) (-1) = some (kV k):=kI (by rw [List.getLast?_map,hk]; rfl)
    have hok:=hT.ok k hkm
    refine iN (by rw [hie]; decide) ?_
    refine ⟨pa,_,rfl,SqL.of (s1 _ _ hT.pa),fun pl hpl=>?_⟩
    rw [kP]
    have s2:=zD hpl (.lst (ks.dropLast.map kV))
    have e2:=zC (H:=H1) (a:=pl) (o:=.lst (ks.dropLast.map kV))
    generalize upd H1 pl (.lst (ks.dropLast.map kV)) = H2 at s2 e2 ⊢
    have g2:=s1.trans s2
    refine ⟨v,t,pl,ks.dropLast,rfl,Rep.same g2 _ _ hT.v,hT.pure,by omega,e2,fun k hk=>hT.ok k (List.dropLast_subset ks hk),by omega,fun o c s H3 g3 hs hc ho=>?_⟩
    have gg:=g2.trans g3
    have hc3:=Rep.same g3 _ _ hc
    rw [hs] at q qx
    refine ⟨o,rfl,_,SqT.of ho,rfl,_,_,rfl,_,_,rfl,rfl,yG (SqL.of (gg _ _ hT.pa)) hkl ⟨_,SqL.of (gg _ _ hT.pa), ?_⟩⟩
    refine ⟨_,rfl, ?_⟩
    by_cases hlt : (goT t ks.dropLast).length < ks.length
    · rw [if_pos hlt] at qx
      refine iP (by rw [List.length_map]; omega) fun p hp=>qx _ rfl p _ (gg.trans (zD hp _)) (zN gg hp) ?_
      rw [zC]
      unfold plc
      rw [show ((((goT t ks.dropLast).length - 1 : Nat)) : Int) = ((goT t ks.dropLast).length : Int) - 1 by omega]
    rw [if_neg hlt] at q qx
    have hlen : (goT t ks.dropLast).length = ks.length:=by omega
    have hsi : (goT t ks.dropLast)[ks.length - 1]? = some s:=by rw [List.getLast?_eq_getElem?,hlen] at hs; exact hs
    obtain ⟨s1f,s2d,s3z⟩:=wS ks.dropLast t _ s hT.few hsi
    have hmany : ((goT t ks.dropLast).length : Int) - 1 = ((ks.length - 1 : Nat) : Int):=by omega
    rw [hmany]
    have bad : canT wd s k ≠ true → ∀ Hx,Same H Hx → ∀ p,Hx p = none → Q (V.ref p) (upd Hx p (HO.tup [V.str (Str.ofString "place"),V.int ((ks.length - 1 : Nat) : Int)])):=fun hc Hx gx p hp=>qx (ks.length - 1) (if_neg hc) p _ (gx.trans (zD hp _)) (zN gx hp) zC
    have good : canT wd s k = true → ∀ v' H',Same H H' → Rep (newH H H') v' (bld (goT t ks.dropLast) ks (ks.length - 1) (partL wd s k n)) → Q v' H':=fun hc=>q _ (if_pos hc)
    clear q qx
    have tk : tyS H3 (kV k) = some (tyK k):=by cases k <;> rfl
    refine iN (by rw [List.length_map]; omega) ⟨_,tk, ?_⟩
    rw [zMs]
    unfold tMid
    walk_at "rd3"
    refine ⟨fun σ' H'=>σ' = [some v,some (V.str wd.s),some (V.ref pa),some vn,some (V.int ((ks.length - 1 : Nat) : Int)),some c,some (kV k),some (V.bl (byK k)),none,none,none] ∧ Same H3 H' ∧ ((∃ ls us x,s = .dic ls us ∧ k = .inr x) ∨ ∃ us i,s = .lst us ∧ k = .inl i), ?_, ?_⟩
    · refine ⟨_,hc3.ty, ?_⟩
      have M : ∀ p,H3 p = none → ((∃ ls us x,s = .dic ls us ∧ k = .inr x) ∨ ∃ us i,s = .lst us ∧ k = .inl i) → (isSub (tyT s) "list" || isSub (tyT s) "dict") = true → decide (isSub (tyT s) "dict" = byK k) = true → ∃ k_1,decide (isSub (tyT s) "dict" = byK k) = !k_1 ∧ k_1 = false:=fun p hp h1 h2 h3=>⟨false,by rw [h3]; rfl,rfl⟩
      have yes : ((∃ ls us x,s = .dic ls us ∧ k = .inr x) ∨ ∃ us i,s = .lst us ∧ k = .inl i) → ∀ p,H3 p = none → ∃ x t_1 p_1,(c = x ∧ p = p_1) ∧ upd H3 p (HO.tup [V.ty "list",V.ty "dict"]) p_1 = some (HO.tup [V.ty "list",V.ty "dict"]) ∧ tyS (upd H3 p (HO.tup [V.ty "list",V.ty "dict"])) x = some t_1 ∧ (isSub t_1 "list" || isSub t_1 "dict") = true ∧ Same H3 (upd H3 p (HO.tup [V.ty "list",V.ty "dict"])):=fun h p hp=>⟨c,_,p,⟨rfl,rfl⟩,zC,wG (zD hp _) hc3.ty,by rcases h with ⟨_,_,_,rfl,_⟩ | ⟨_,_,rfl,_⟩ <;> rfl,zD hp _⟩
      by_cases hsk : (∃ ls us x,s = .dic ls us ∧ k = .inr x) ∨ ∃ us i,s = .lst us ∧ k = .inl i
      · refine ⟨false,by rcases hsk with ⟨_,_,_,rfl,rfl⟩ | ⟨_,_,rfl,rfl⟩ <;> rfl,iN (by decide) fun p hp=>?_⟩
        obtain ⟨x1,t1,p1,h1,h2,h3,h4,h5⟩:=yes hsk p hp
        exact ⟨x1,t1,p1,h1,h2,h3,iN (by rw [h4]; decide) ⟨rfl,h5,hsk⟩⟩
      · have hbad : canT wd s k ≠ true:=by
          cases s with
          | dic ls us =>
            cases k with
            | inr x=>exact absurd (.inl ⟨_,_,_,rfl,rfl⟩) hsk
            | inl i=>cases wd <;> exact fun z=>nomatch z
          | lst us =>
            cases k with
            | inr x=>cases wd <;> exact fun z=>nomatch z
            | inl i=>exact absurd (.inr ⟨_,_,rfl,rfl⟩) hsk
          | tup us=>exact s1f.elim
          | non=>cases wd <;> cases k <;> exact fun z=>nomatch z
          | bl b=>cases wd <;> cases k <;> exact fun z=>nomatch z
          | int b=>cases wd <;> cases k <;> exact fun z=>nomatch z
          | str b=>cases wd <;> cases k <;> exact fun z=>nomatch z
        cases hd : decide (isSub (tyT s) "dict" = byK k) with
        | false=>exact ⟨true,rfl,iP rfl (bad hbad H3 gg)⟩
        | true =>
          refine ⟨false,rfl,iN (by decide) fun p hp=>⟨c,_,p,⟨rfl,rfl⟩,zC,wG (zD hp _) hc3.ty,iP ?_ (bad hbad _ (gg.trans (zD hp _)))⟩⟩
          cases s with
          | dic ls us =>
            cases k with
            | inr x=>exact absurd (.inl ⟨_,_,_,rfl,rfl⟩) hsk
            | inl i=>cases hd
          | lst us =>
            cases k with
            | inr x=>cases hd
            | inl i=>exact absurd (.inr ⟨_,_,rfl,rfl⟩) hsk
          | tup us=>exact s1f.elim
          | non=>rfl
          | bl b=>rfl
          | int b=>rfl
          | str b=>rfl
    rintro σ5 H5 ⟨rfl,g5,hsk⟩
    have gH5:=gg.trans g5
    have hc5:=Rep.same g5 _ _ hc3
    walk_at "rd3"
    refine ⟨fun σ' H'=>σ' = [some v,some (V.str wd.s),some (V.ref pa),some vn,some (V.int ((ks.length - 1 : Nat) : Int)),some c,some (kV k),some (V.bl (byK k)),none,none,none] ∧ Same H5 H' ∧ (∀ x,k = .inr x → canT wd s k = true), ?_, ?_⟩
    · cases k with
      | inl i=>exact iN (by intro z; cases z) ⟨rfl,Same.refl _,fun x e=>by cases e⟩
      | inr x =>
        refine iP rfl ?_
        rcases hsk with ⟨ls,us,x',rfl,_⟩ | ⟨_,_,_,e⟩
        · obtain ⟨a,ps,rfl,ha,hkk,hrs⟩:=hc5
          cases wd with
          | ins=>exact iP rfl (bad (fun z=>nomatch z) H5 gH5)
          | put=>exact iN (by decide +kernel) (iN (by decide +kernel) ⟨rfl,Same.refl _,fun _ _=>rfl⟩)
          | tak =>
            refine iN (by decide +kernel) (iP rfl ⟨kV (.inr x),rfl, .ref a,rfl,a,_,rfl, .inl ⟨ps, .inr x, .inl ha,rfl,rfl⟩,_,rfl, ?_⟩)
            have hvn:=zCf s1f.1 hkk hrs x
            have hcan : canT .tak (.dic ls us) (.inr x) = decide (ts x ∈ ls):=by
              show (if ts x ∈ ls then some (lookT (ts x) ls us) else none).isSome = _
              by_cases h : ts x ∈ ls
              · rw [if_pos h,decide_eq_true h]; rfl
              · rw [if_neg h,decide_eq_false h]; rfl
            rw [hvn]
            by_cases h : ts x ∈ ls
            · rw [decide_eq_true h]
              exact iN (by decide) ⟨rfl,Same.refl _,fun _ _=>by rw [hcan]; exact decide_eq_true h⟩
            · rw [decide_eq_false h]
              exact iP rfl (bad (by rw [hcan,decide_eq_false h]; decide) H5 gH5)
        · cases e
    rintro σ6 H6 ⟨rfl,g6,hcan6⟩
    have gH6:=gH5.trans g6
    have hc6:=Rep.same g6 _ _ hc5
    walk_at "rd3"
    refine ⟨fun σ' H'=>σ' = [some v,some (V.str wd.s),some (V.ref pa),some vn,some (V.int ((ks.length - 1 : Nat) : Int)),some c,some (kV k),some (V.bl (byK k)),none,none,none] ∧ Same H6 H' ∧ canT wd s k = true, ?_, ?_⟩
    · cases k with
      | inr x=>exact iN (by intro z; cases z) ⟨rfl,Same.refl _,hcan6 x rfl⟩
      | inl i =>
        rcases hsk with ⟨_,_,_,_,e⟩ | ⟨us,i',rfl,_⟩
        · cases e
        obtain ⟨a,xs,rfl,ha,hrs⟩:=hc6
        have hxl:=hrs.length
        have h0 : 0 ≤ i:=hok.1
        refine iP rfl ⟨a,rfl,xs,SqL.of ha,i,rfl, ?_⟩
        have key : (((xs.length : Int) - if wd.s = Str.ofString "take" then 1 else 0) < i) ↔ canT wd (.lst us) (.inl i) ≠ true:=by
          cases wd with
          | put =>
            rw [if_neg (by decide +kernel)]
            show _ ↔ decide (i ≤ (us.length : Int)) ≠ true
            rw [ne_eq,decide_eq_true_eq]; omega
          | ins =>
            rw [if_neg (by decide +kernel)]
            show _ ↔ decide (i ≤ (us.length : Int)) ≠ true
            rw [ne_eq,decide_eq_true_eq]; omega
          | tak =>
            rw [if_pos (show Wd.tak.s = Str.ofString "take" from rfl)]
            show _ ↔ (us[i.toNat]?).isSome ≠ true
            by_cases hlt' : i.toNat < us.length
            · rw [List.getElem?_eq_getElem hlt']
              simp only [Option.isSome_some,ne_eq,not_true_eq_false,iff_false]; omega
            · rw [List.getElem?_eq_none (by omega)]
              simp only [Option.isSome_none,ne_eq,Bool.false_eq_true,not_false_eq_true,iff_true]; omega
        by_cases hcn : canT wd (.lst us) (.inl i) = true
        · exact iN (fun z=>key.mp z hcn) ⟨rfl,Same.refl _,hcn⟩
        · exact iP (key.mpr hcn) (bad hcn H6 gH6)
    rintro σ7 H7 ⟨rfl,g7,hcan⟩
    have gH7:=gH6.trans g7
    have hc7:=Rep.same g7 _ _ hc6
    have good:=good hcan
    walk_at "rd3"
    refine ⟨fun σ' H'=>∃ vm,σ' = [some v,some (V.str wd.s),some (V.ref pa),some vn,some (V.int ((ks.length - 1 : Nat) : Int)),some c,some (kV k),some (V.bl (byK k)),some vm,none,none] ∧ Same H H' ∧ Rep (newH H H') vm (partL wd s k n), ?_, ?_⟩
    · rcases hsk with ⟨ls,us,x,rfl,rfl⟩ | ⟨us,i,rfl,rfl⟩
      · obtain ⟨a,ps,rfl,ha,hkk,hrs⟩:=hc7
        obtain ⟨nk,hkm',hku,hfu⟩:=s1f
        have hpl' : ps.length = us.length:=by have:=hrs.length; rwa [List.length_map] at this
        have nkp : (ps.map (·.1)).Nodup:=by rw [hkk]; exact xS nk
        have hds : T.deps us + 1 ≤ 16:=by have:=hN.dep; have h2 : T.deps us + 1 = T.dep (.dic ls us):=rfl; omega
        have ex : (Sum.inr x : Key) = nK (ts x):=by show (Sum.inr x : Key) = Sum.inr (tx (ts x)); rw [wV]
        refine iP rfl ⟨a,rfl,ps, .inl ⟨ha,fun o=>?_⟩⟩
        have gH : ∀ b,upd H7 a (.frz o (.dK ps)) b = none → H7 b = none:=fun b e=>by
          by_cases hb : b = a
          · subst hb; rw [zC] at e; cases e
          · rw [zM hb] at e
            exact e
        have hsf : Reps (upd H7 a (.frz o (.dK ps))) (ps.map (·.2)) us:=Reps.dic_away ha hkk hrs
        have hdf : upd H7 a (.frz o (.dK ps)) a = some (.frz o (.dK ps)):=zC
        generalize hHf : upd H7 a (.frz o (.dK ps)) = Hf at gH hsf hdf ⊢
        refine kB (fun i ys H'=>Same Hf H' ∧ ∃ (kvs : List (Key × V)) (D : List Addr),kvs.length = ys.length ∧ kvs.map (·.1) = (dropN (ts x) (ls.take i)).map nK ∧ Sps H' (kvs.map (·.2)) (dropT (ts x) (ls.take i) (us.take i)) D ∧ (∀ b ∈ D,H7 b = none) ∧ ∀ (j : Nat) kv,kvs[j]? = some kv → ∃ a,ys[j]? = some (.ref a) ∧ H' a = some (.tup [kV kv.1,kv.2])) ?_ ⟨Same.refl _,[],[],rfl,rfl,⟨rfl,rfl⟩,fun _ h=>(nomatch h),by intro j kv h; simp at h⟩ (fun i ys H' h=>h.1 _ _ hdf) ?_ ?_
        · rw [sizeLine_eq]; omega
        · rintro i kv ys H' hkv _ ⟨g,kvs,D,l1,l2,hR,hD,ht⟩
          obtain ⟨l,hl,hkl1⟩ : ∃ l,ls[i]? = some l ∧ kv.1 = nK l:=by
            have h1 : (ps.map (·.1))[i]? = some kv.1:=by rw [List.getElem?_map,hkv]; rfl
            rw [hkk,List.getElem?_map] at h1
            cases hr : ls[i]? with
            | none=>rw [hr] at h1; cases h1
            | some l=>rw [hr] at h1; exact ⟨l,rfl,(Option.some.inj h1).symm⟩
          obtain ⟨t',ht',hr'⟩:=hsf.get (i:=i) (v:=kv.2) (by rw [List.getElem?_map,hkv]; rfl)
          have hil:=(List.getElem?_eq_some_iff.mp hl).1
          have eN : dropN (ts x) (ls.take (i + 1)) = dropN (ts x) (ls.take i) ++ (if l = ts x then [] else [l]):=by
            rw [yL hl,uO]
            congr 1
          have eT : dropT (ts x) (ls.take (i + 1)) (us.take (i + 1)) = dropT (ts x) (ls.take i) (us.take i) ++ (if l = ts x then [] else [t']):=by
            rw [yL hl,yL ht',zAa _ _ (by rw [List.length_take,List.length_take]; omega)]
            congr 1
          walk_at "rd3"
          rw [hkl1]
          refine ⟨rfl,decide (l ≠ ts x), ?_, ?_⟩
          · show decide (V.str (tx l) = V.str x) = !decide (l ≠ ts x)
            have : (V.str (tx l) = V.str x) ↔ l = ts x:=⟨fun z=>by rw [← V.str.inj z,wT],fun z=>by rw [z,wV]⟩
            by_cases h : l = ts x
            · rw [decide_eq_true (this.mpr h),decide_eq_false (not_not_intro h)]; rfl
            · rw [decide_eq_false (fun z=>h (this.mp z)),decide_eq_true h]; rfl
          by_cases hlx : l = ts x
          · refine iN (by rw [decide_eq_true_eq]; exact fun z=>z hlx) ⟨g,kvs,l1, ?_,D, ?_,hD,ht⟩
            · rw [eN,if_pos hlx,List.append_nil]; exact l2
            · rw [eT,if_pos hlx,List.append_nil]; exact hR
          · have hm':=List.mem_of_getElem? ht'
            have d1:=T.deps_le hm'
            refine iP (decide_eq_true hlx) ⟨kv.2, .inl ⟨ps,kv.1, .inr ⟨o,g _ _ hdf⟩,by rw [hkl1],(qI nkp hkv).symm⟩,kv.2,t',rfl,Rep.same g _ t' hr',T.few_okq _ (T.fewm_few (by omega) _ (T.fewms_mem hfu hm')),by omega,fun v' H1 D1 g1 hv' hD1 p hp1=>⟨(g.trans g1).trans (zD hp1 _),kvs ++ [(kv.1,v')],by simp [l1], ?_,D ++ D1, ?_,fun b hb=>?_, ?_⟩⟩
            · rw [eN,if_neg hlx,List.map_append,List.map_append,l2,hkl1]; rfl
            · rw [eT,if_neg hlx,List.map_append]
              refine Sps.snoc (hv'.same (zD hp1 _)) (hR.same (g1.trans (zD hp1 _))) fun b hb z=>?_
              obtain ⟨ob,ho⟩:=Sps.there _ _ _ hR hb
              rw [hD1 b z] at ho; cases ho
            · rcases List.mem_append.mp hb with z | z
              · exact hD b z
              · exact gH b (zN g (hD1 b z))
            · intro j kv1 hj
              by_cases hlt : j < kvs.length
              · rw [List.getElem?_append_left hlt] at hj
                obtain ⟨a,e1,e2⟩:=ht j kv1 hj
                exact ⟨a,by rw [List.getElem?_append_left (by omega)]; exact e1,zD hp1 _ _ _ (g1 _ _ e2)⟩
              · rw [List.getElem?_append_right (by omega)] at hj
                have hj0 : j - kvs.length = 0:=by
                  have:=(List.getElem?_eq_some_iff.mp hj).1
                  simpa using this
                rw [hj0] at hj
                simp only [List.getElem?_cons_zero,Option.some.injEq] at hj
                subst hj
                exact ⟨p,by rw [List.getElem?_append_right (by omega),← l1,hj0]; rfl,by rw [zC,hkl1]⟩
        · rintro ys H' _ ⟨g,kvs,D,l1,l2,hR,hD,ht⟩ p hp'
          rw [hpl',List.take_of_length_le (by omega),List.take_of_length_le (Nat.le_refl _)] at hR
          rw [hpl',List.take_of_length_le (by omega)] at l2
          have gs : Same H7 (thaw H7 (upd H' p (.lst ys))):=qJ (o:=o) ha (by rw [hHf]; exact g.trans (zD hp' _))
          have hR2 : Sps (thaw H7 (upd H' p (.lst ys))) (kvs.map (·.2)) (dropT (ts x) ls us) D:=(hR.same (zD hp' _)).thaw
          refine ⟨p,rfl,ys,xK zC (by intro o v z; cases z),kvs,l1,fun j kv hj=>?_,fun l hl=>?_⟩
          · obtain ⟨a,e1,e2⟩:=ht j kv hj
            exact ⟨a,e1,xK (zD hp' _ _ _ e2) (by intro o v z; cases z)⟩
          have ndk : (kvs.map (·.1)).Nodup:=by rw [l2]; exact xS (xQ nk)
          have em : mergeK [] kvs = kvs:=xT kvs [] (by rw [List.nil_append]; exact ndk)
          rw [em]
          generalize hHB : thaw H7 (upd H' p (.lst ys)) = HB at gs hR2 hl ⊢
          have gHB:=gH7.trans gs
          have hDH : ∀ b ∈ D,H b = none:=fun b hb=>zN gH7 (hD b hb)
          have hlH : H l = none:=zN gHB hl
          have hlD : l ∉ D:=fun z=>by
            obtain ⟨ob,ho⟩:=Sps.there _ _ _ hR2 z
            rw [hl] at ho; cases ho
          have s9:=zD hl (.dK kvs)
          have e9:=zC (H:=HB) (a:=l) (o:=.dK kvs)
          have hklen : kvs.length ≤ 1000:=by
            have h1:=congrArg List.length l2
            rw [List.length_map,List.length_map] at h1
            obtain ⟨d1,d2⟩:=vZ (n:=ts x) hku
            omega
          cases wd with
          | ins=>cases hcan
          | tak =>
            refine iN (by decide +kernel) ⟨.ref l,rfl,gHB.trans s9,l,kvs,rfl,by rw [xC hlH]; exact e9,l2, ?_⟩
            exact (hR2.same s9).new hDH
          | put =>
            refine iP rfl ⟨vn,n,rfl,Rep.same (gHB.trans s9) _ _ hn,okn,by omega,fun vc HC DC gC hvc hDC=>?_⟩
            have eC:=gC _ _ e9
            have hnk : (kvs.any fun kv=>decide (kv.1 = nK (ts x))) = false:=by
              cases hq : (kvs.any fun kv=>decide (kv.1 = nK (ts x))) with
              | false=>rfl
              | true=>exact absurd ((zDo l2).mp hq) fun z=>(dropN_mem.mp z).2 rfl
            have eput : putK kvs (nK (ts x)) vc = kvs ++ [(nK (ts x),vc)]:=by
              unfold putK
              rw [if_neg (by rw [hnk]; decide)]
            refine ⟨_,DPut.k (k:=Sum.inr x) eC (by rw [sizeLine_eq]; omega), .ref l,rfl, ?_,l,_,rfl,by rw [xC hlH]; exact zC, ?_, ?_⟩
            · exact ((gHB.trans s9).trans gC).put hlH _
            · rw [ex,eput,List.map_append,List.map_append,l2]; rfl
            · rw [ex,eput,List.map_append]
              have hlC : l ∉ DC:=fun z=>by
                have:=hDC l z
                rw [e9] at this; cases this
              have k1 : Sps (upd HC l (.dK (kvs ++ [(nK (ts x),vc)]))) (kvs.map (·.2)) (dropT (ts x) ls us) D:=Sps.keep _ _ _ (fun b hb o _ e=>by rw [zM (show b ≠ l from fun z=>hlD (z ▸ hb))]; exact gC _ _ (s9 _ _ e)) hR2
              have k2 : Sp1 (upd HC l (.dK (kvs ++ [(nK (ts x),vc)]))) vc n DC:=Sp1.keep _ _ _ (fun b hb o _ e=>by rw [zM (show b ≠ l from fun z=>hlC (z ▸ hb))]; exact e) hvc
              exact Reps.snoc (k2.new fun b hb=>zN (gHB.trans s9) (hDC b hb)) (k1.new hDH)
      · obtain ⟨a,xs,rfl,ha,hrs⟩:=hc7
        obtain ⟨hul,hfu⟩:=s1f
        have hxl:=hrs.length
        have h0 : 0 ≤ i:=hok.1
        have hds : T.deps us + 1 ≤ 16:=by have:=hN.dep; have h2 : T.deps us + 1 = T.dep (.lst us):=rfl; omega
        have oks : ∀ vs : List T,(∀ t ∈ vs,t ∈ us) → vs.length ≤ us.length → T.okq (.lst vs) ∧ T.dep (.lst vs) < 20:=fun vs hsub hlen=>by
          refine ⟨⟨by omega,T.okqs_of fun t ht=>T.few_okq _ (T.fewm_few (by omega) _ (T.fewms_mem hfu (hsub t ht)))⟩, ?_⟩
          have:=zDb (Nat.le_refl (T.deps us)) hsub
          show T.deps vs + 1 < 20
          omega
        have fin : ∀ (aA : Addr) (zs : List V) (vs : List T) (HX : Hp) (j : Nat),Same H7 HX → HX aA = some (.lst zs) → H aA = none → Reps (newH H HX) zs vs → zs.length ≤ 100001 → partL wd (.lst us) (.inl i) n = .lst (vs ++ us.drop j) → rSlL K (V.ref a) (some (j : Int)) none HX fun x_1 H1=>spCo 20 [x_1] H1 (fun y H2=>rCat (V.ref aA) y H2 fun x H1=>∃ vm,[some v,some (V.str wd.s),some (V.ref pa),some vn,some (V.int ((ks.length - 1 : Nat) : Int)),some (V.ref a),some (kV (.inl i)),some (V.bl (byK (.inl i))),some x,none,none] = [some v,some (V.str wd.s),some (V.ref pa),some vn,some (V.int ((ks.length - 1 : Nat) : Int)),some (V.ref a),some (kV (.inl i)),some (V.bl (byK (.inl i))),some vm,none,none] ∧ Same H H1 ∧ Rep (newH H H1) vm (partL wd (.lst us) (.inl i) n)) E0:=by
          intro aA zs vs HX j gX hA hAn hRz hlen hp
          refine ⟨a,xs,rfl,SqL.of (gX _ _ ha),fun p2 hp2=>?_⟩
          rw [qG xs (by omega),Int.toNat_natCast]
          have s2:=zD hp2 (.lst (xs.drop j))
          have e2:=zC (H:=HX) (a:=p2) (o:=.lst (xs.drop j))
          generalize upd HX p2 (.lst (xs.drop j)) = HY at s2 e2 ⊢
          have gY:=gX.trans s2
          have gHY:=gH7.trans gY
          obtain ⟨o1,o2⟩:=oks (us.drop j) (fun t ht=>List.mem_of_mem_drop ht) (by rw [List.length_drop]; omega)
          refine ⟨.ref p2, .lst (us.drop j),rfl,⟨p2,_,rfl,e2,Reps.same gY _ _ (Reps.drop j hrs)⟩,o1,o2,fun vB HB DB gB hB hDB=>?_⟩
          obtain ⟨aB,ysB,DB',rfl,haB,rfl,haDB,hSB⟩:=hB
          have hBl:=hSB.length
          refine ⟨aA,aB,zs,ysB,rfl,rfl,gB _ _ (s2 _ _ hA),haB,by rw [sizeLine_eq,hBl,List.length_drop]; omega,fun p3 hp3=>⟨.ref p3,rfl, ?_⟩⟩
          have s3:=zD hp3 (.lst (zs ++ ysB))
          have gHB:=gHY.trans gB
          refine ⟨gHB.trans s3, ?_⟩
          rw [hp]
          refine ⟨p3,_,rfl,by rw [xC (zN gHB hp3)]; exact zC,Reps.append ((hSB.same s3).new fun b hb=>zN gHY (hDB b (List.mem_cons_of_mem _ hb))) (Reps.same (wD (s2.trans (gB.trans s3))) _ _ hRz)⟩
        refine iN (by intro z; cases z) ⟨i,rfl,a,xs,rfl,SqL.of ha,fun p1 hp1=>?_⟩
        rw [zAu xs h0]
        have s1':=zD hp1 (.lst (xs.take i.toNat))
        have e1':=zC (H:=H7) (a:=p1) (o:=.lst (xs.take i.toNat))
        generalize upd H7 p1 (.lst (xs.take i.toNat)) = HZ at s1' e1' ⊢
        have gHZ:=gH7.trans s1'
        obtain ⟨o1,o2⟩:=oks (us.take i.toNat) (fun t ht=>List.mem_of_mem_take ht) (by rw [List.length_take]; omega)
        refine ⟨.ref p1, .lst (us.take i.toNat),rfl,⟨p1,_,rfl,e1',Reps.same s1' _ _ (Reps.take _ hrs)⟩,o1,o2,fun vA HA DA gA hA hDA=>?_⟩
        obtain ⟨aA,ysA,DA',rfl,haA,rfl,haDA,hSA⟩:=hA
        have hAl:=hSA.length
        rw [List.length_take] at hAl
        have hAn : H aA = none:=zN gHZ (hDA aA List.mem_cons_self)
        have hDA' : ∀ b ∈ DA',H b = none:=fun b hb=>zN gHZ (hDA b (List.mem_cons_of_mem _ hb))
        have g7A:=s1'.trans gA
        have app : ∀ Q' : V → Hp → Prop,(∀ zs HX,Same H7 HX → HX aA = some (.lst zs) → Reps (newH H HX) zs (us.take i.toNat ++ [n]) → zs.length ≤ 100001 → Q' .non HX) → spCo 20 [vn] HA (fun x_1 H1=>rAppend (V.ref aA) [x_1] H1 Q') E0:=by
          intro Q' hQ
          refine ⟨vn,n,rfl,Rep.same (gH7.trans g7A) _ _ hn,okn,by omega,fun vc HC DC gC hvc hDC=>?_⟩
          have hAC:=gC _ _ haA
          refine ⟨aA,ysA,vc,rfl,rfl,hAC,by rw [sizeLine_eq]; omega, ?_⟩
          have hAc : aA ∉ DC:=fun z=>by
            have:=hDC aA z
            rw [haA] at this; cases this
          have h7n : H7 aA = none:=zN s1' (hDA aA List.mem_cons_self)
          refine hQ (ysA ++ [vc]) _ ((g7A.trans gC).put h7n _) zC ?_ (by rw [List.length_append,List.length_singleton]; omega)
          have k1 : Sps (upd HC aA (.lst (ysA ++ [vc]))) ysA (us.take i.toNat) DA':=Sps.keep _ _ _ (fun b hb o _ e=>by rw [zM (show b ≠ aA from fun z=>haDA (z ▸ hb))]; exact gC _ _ e) hSA
          have k2 : Sp1 (upd HC aA (.lst (ysA ++ [vc]))) vc n DC:=Sp1.keep _ _ _ (fun b hb o _ e=>by rw [zM (show b ≠ aA from fun z=>hAc (z ▸ hb))]; exact e) hvc
          exact Reps.snoc (k2.new fun b hb=>zN (gH7.trans g7A) (hDC b hb)) (k1.new hDA')
        cases wd with
        | tak =>
          refine ⟨false,by decide +kernel,iN (by decide) ⟨true,by decide +kernel,i,rfl, ?_⟩⟩
          rw [if_pos rfl,show i + 1 = ((i.toNat + 1 : Nat) : Int) by omega]
          exact fin aA ysA (us.take i.toNat) HA _ g7A haA hAn (hSA.new hDA') (by omega) rfl
        | put =>
          refine ⟨true,by decide +kernel,iP rfl ⟨.inl ⟨rfl,_,SqL.of haA⟩,app _ fun zs HX gX hX hRX hlX=>⟨true,by decide +kernel,i,rfl, ?_⟩⟩⟩
          rw [if_pos rfl,show i + 1 = ((i.toNat + 1 : Nat) : Int) by omega]
          exact fin aA zs _ HX _ gX hX hAn hRX hlX (by show T.lst _ = T.lst _; rw [List.append_assoc]; rfl)
        | ins =>
          refine ⟨true,by decide +kernel,iP rfl ⟨.inl ⟨rfl,_,SqL.of haA⟩,app _ fun zs HX gX hX hRX hlX=>⟨false,by decide +kernel,i,rfl, ?_⟩⟩⟩
          rw [if_neg (by decide),show i + 0 = ((i.toNat : Nat) : Int) by omega]
          exact fin aA zs _ HX _ gX hX hAn hRX hlX (by show T.lst _ = T.lst _; rw [List.append_assoc]; rfl)
    rintro σ8 H8 ⟨vm,rfl,gH8,hm8⟩
    refine ⟨.ref pa,rfl,pa,rfl,_,SqL.of (gH8 _ _ hT.pa), ?_⟩
    rw [List.length_map]
    refine ⟨by omega,by omega, ?_⟩
    rw [show ((ks.length : Int) - 2 + 1).toNat = ks.length - 1 by omega]
    refine uJ (fun i σ' H'=>∃ o9 o10 c' r,σ' = [some v,some (V.str wd.s),some (V.ref pa),some vn,some (V.int ((ks.length - 1 : Nat) : Int)),some c,some (kV k),some (V.bl (byK k)),some c',o9,o10] ∧ Same H H' ∧ Rep (newH H H') c' r ∧ i ≤ ks.length - 1 ∧ bld (goT t ks.dropLast) ks (ks.length - 1 - i) r = bld (goT t ks.dropLast) ks (ks.length - 1) (partL wd s k n)) ⟨_,_,vm,_,rfl,gH8,hm8,Nat.zero_le _,rfl⟩ ?_ ?_
    · rintro i σ' H' hi ⟨o9,o10,c',r,rfl,g,hc',hil,hb⟩
      walk_at "rd3"
      obtain ⟨M,hM⟩ : ∃ M,ks.length - 1 - i = M + 1:=⟨ks.length - 2 - i,by omega⟩
      have hpl : (ks.length : Int) - 2 - (i : Int) = (M : Int):=by omega
      rw [hpl]
      obtain ⟨k',u',u2,h1,h2,h3,h4⟩:=jG ks.dropLast t M (by omega)
      have hki : ks[M]? = some k':=by
        rw [List.getElem?_dropLast,if_pos (by omega)] at h1
        exact h1
      obtain ⟨a1,a2,a3⟩:=wS ks.dropLast t M u' hT.few h2
      have hok':=hT.ok k' (List.mem_of_getElem? hki)
      have hpaH:=g _ _ hT.pa
      refine ⟨pa,_,rfl,SqL.of hpaH,fun p1 hp1=>?_⟩
      rw [zAu _ (by omega),Int.toNat_natCast,← List.map_take]
      have t1:=zD hp1 (.lst ((ks.take M).map kV))
      have f1:=zC (H:=H') (a:=p1) (o:=.lst ((ks.take M).map kV))
      generalize upd H' p1 (.lst ((ks.take M).map kV)) = HA at t1 f1 ⊢
      have gA:=g.trans t1
      refine ⟨v,t,p1,ks.take M,rfl,Rep.same gA _ _ hT.v,hT.pure,by omega,f1,fun k hk=>hT.ok k (List.mem_of_mem_take hk),by rw [List.length_take]; omega,fun o2 c2 w2 HB gB hw2 hc2 ho2=>?_⟩
      have hww : w2 = u':=by
        have e1 : ks.take M = ks.dropLast.take M:=by rw [List.dropLast_eq_take,List.take_take,Nat.min_eq_left (by omega)]
        rw [e1,zDc ks.dropLast t M (by omega),h2] at hw2
        exact (Option.some.inj hw2).symm
      subst hww
      have gHB:=gA.trans gB
      have hdt:=hN.dep
      refine zBh (SqT.of ho2) (yU (j:=1) rfl) ⟨c2,w2,rfl,Rep.same gB _ _ hc2,T.few_okq _ (T.fewm_few (by omega) _ a1),by omega,fun vA HC DA gC hA hDA=>?_⟩
      have gHC:=gHB.trans gC
      have hpaC:=gHC _ _ hT.pa
      have hix : atI (ks.map kV) (M : Int) = some (kV k'):=yU (j:=M) (by rw [List.getElem?_map,hki]; rfl)
      have eM : bld (goT t ks.dropLast) ks (ks.length - 1 - (i + 1)) (partT .put w2 k' r) = bld (goT t ks.dropLast) ks (ks.length - 1) (partL wd s k n):=by
        have e1 : (goT t ks.dropLast).getD M .non = w2:=by rw [List.getD_eq_getElem?_getD,h2]; rfl
        have e2 : ks.getD M (.inl 0) = k':=by rw [List.getD_eq_getElem?_getD,hki]; rfl
        rw [hM] at hb
        have hb' : bld (goT t ks.dropLast) ks M (partT .put ((goT t ks.dropLast).getD M .non) (ks.getD M (.inl 0)) r) = _:=hb
        rw [e1,e2] at hb'
        rw [show ks.length - 1 - (i + 1) = M by omega]
        exact hb'
      rcases wM h4 with ⟨us,i0,rfl,rfl,hi0,ef⟩ | ⟨ls,us,x,rfl,rfl,hmx,rfl,ef⟩
      · obtain ⟨aA,ysA,DA',rfl,haA,rfl,haDA,hSA⟩:=hA
        have hAl:=hSA.length
        have hil':=(List.getElem?_eq_some_iff.mp hi0).1
        have hi00 : 0 ≤ i0:=hok'.1
        have hBn : HB aA = none:=hDA aA List.mem_cons_self
        have hAn : H aA = none:=zN gHB hBn
        have hH'n : H' aA = none:=zN (t1.trans gB) hBn
        refine .inl ?_
        unfold gSub
        walk_at "rd3"
        refine yG (SqL.of hpaC) hix ⟨aA,ysA,i0,i0.toNat,rfl,rfl,haA, ?_, ?_⟩
        · unfold ixN
          rw [if_pos hi00,if_pos (by omega)]
        · have gX : Same H' (upd HC aA (.lst (ysA.set i0.toNat c'))):=((t1.trans gB).trans gC).put hH'n _
          refine ⟨_,_,_,⟨rfl,rfl,rfl⟩,g.trans gX, .lst (us.set i0.toNat r),⟨aA,_,rfl,by rw [xC hAn]; exact zC, ?_⟩,by omega,by rw [← ef]; exact eM⟩
          have k1 : Sps (upd HC aA (.lst (ysA.set i0.toNat c'))) ysA us DA':=Sps.keep _ _ _ (fun b hb o _ e=>by rw [zM (show b ≠ aA from fun z=>haDA (z ▸ hb))]; exact e) hSA
          exact Reps.set (Rep.same (wD gX) _ _ hc') _ (k1.new fun b hb=>zN gHB (hDA b (List.mem_cons_of_mem _ hb)))
      · obtain ⟨aA,psA,DA',rfl,haA,hkA,rfl,haDA,hSA⟩:=hA
        have hAl:=hSA.length
        rw [List.length_map] at hAl
        have hkm2:=a1.2.1
        have hku2:=a1.2.2.1
        have hBn : HB aA = none:=hDA aA List.mem_cons_self
        have hAn : H aA = none:=zN gHB hBn
        have hH'n : H' aA = none:=zN (t1.trans gB) hBn
        have ex : (Sum.inr x : Key) = nK (ts x):=by show (Sum.inr x : Key) = Sum.inr (tx (ts x)); rw [wV]
        refine .inr (yG (SqL.of hpaC) hix ⟨aA,rfl,_,DPut.k (k:=Sum.inr x) haA (by rw [sizeLine_eq]; omega), ?_⟩)
        rw [ex]
        have gX : Same H' (upd HC aA (.dK (putK psA (nK (ts x)) c'))):=((t1.trans gB).trans gC).put hH'n _
        have k1 : Sps (upd HC aA (.dK (putK psA (nK (ts x)) c'))) (psA.map (·.2)) us DA':=Sps.keep _ _ _ (fun b hb o _ e=>by rw [zM (show b ≠ aA from fun z=>haDA (z ▸ hb))]; exact e) hSA
        obtain ⟨p1',p2'⟩:=jD (p:=(ls,us)) (n:=ts x) (t:=r) hkA (k1.new fun b hb=>zN gHB (hDA b (List.mem_cons_of_mem _ hb))) (Rep.same (wD gX) _ _ hc')
        have ep : putT (ls,us) (ts x) r = (ls,putTs (ts x) r ls us):=if_pos hmx
        rw [ep] at p1' p2'
        exact ⟨_,_,_,⟨rfl,rfl,rfl⟩,g.trans gX, .dic ls (putTs (ts x) r ls us),⟨aA,_,rfl,by rw [xC hAn]; exact zC,p1',p2'⟩,by omega,by rw [← ef]; exact eM⟩
    · rintro σ' H' ⟨o9,o10,c',r,rfl,g,hc',hil,hb⟩
      walk_at "rd3"
      rw [show ks.length - 1 - (ks.length - 1) = 0 by omega] at hb
      have hb' : r = _:=hb
      rw [hb'] at hc'
      exact good c' H' g hc'
end
end K37
namespace K37
open PySem L2
seal L2.PSs L2.PS L2.PE L2.PT L2.PW L2.PA L2.PI L2.PG L2.PGs L2.PPs L2.PTs
abbrev sBe : Stmt:=top 60
def nmJ (j : Nat) : List Nat:=(j % 26 + 97) :: List.replicate (j / 26) 120
theorem zKl {i j : Nat} (h : nmJ i = nmJ j) : i = j:=by
  unfold nmJ at h
  injection h with h1 h2
  have h3:=congrArg List.length h2
  rw [List.length_replicate,List.length_replicate] at h3
  omega
theorem zAf (n : Nat) : ((List.range n).map nmJ).Nodup:=by
  unfold List.Nodup
  rw [List.pairwise_map]
  exact List.Pairwise.imp (fun h z=>h (zKl z)) List.nodup_range
theorem rp1 {α : Type} (x : α) (n : Nat) : (List.replicate n [x]).flatten = List.replicate n x:=by
  induction n with
  | zero=>rfl
  | succ n ih=>rw [List.replicate_succ,List.flatten_cons,ih,List.replicate_succ]; rfl
theorem jJ {H : Hp} {x : V} {t : T} (h : Rep H x t) : ∀ n : Nat,Reps H (List.replicate n x) (List.replicate n t)
  | 0=>rfl
  | n + 1=>⟨x,List.replicate n x,List.replicate_succ,h,jJ h n⟩
theorem zCz {m : Nat} {t : T} (h : T.fewm m t) (hd : T.dep t = 0) (hs : T.sz t = 1) : ∀ n : Nat,T.fewms m (List.replicate n t) ∧ T.deps (List.replicate n t) = 0 ∧ T.szs (List.replicate n t) = n
  | 0=>⟨True.intro,rfl,rfl⟩
  | n + 1=>by
    obtain ⟨a,b,c⟩:=zCz h hd hs n
    rw [List.replicate_succ]
    refine ⟨⟨h,a⟩, ?_, ?_⟩
    · show max (T.dep t) (T.deps (List.replicate n t)) = 0
      omega
    · show T.sz t + T.szs (List.replicate n t) = n + 1
      omega
theorem zFb {H : Hp} {x : V} {n : Int} {Q : VK} (h0 : 0 ≤ n) (h1 : n ≤ 1000) (q : ∀ p' HX,Same H HX → HX p' = some (.lst (List.replicate n.toNat x)) → Q (.ref p') HX) : ∀ p,H p = none → rRep (.ref p) (.int n) (upd H p (.lst [x])) Q:=fun p hp=>⟨p,n,[x],rfl,rfl,zC,by omega,by omega,by rw [List.length_singleton,sizeLine_eq]; omega,fun p' hp'=>by
  rw [rp1]
  exact q p' _ ((zD hp _).trans (zD hp' _)) zC⟩
theorem zOe : Str.ofString "abcdefghijklmnopqrstuvwxyz" = tx letL:=by decide +kernel
theorem zNt {j : Nat} (h : j < 26) : letL[j]? = some (j + 97):=by
  unfold letL
  rw [List.getElem?_map,List.getElem?_range h]; rfl
theorem x_ts : ts (Str.ofString "x") = [120]:=by decide +kernel
section
variable {P : Program} {w : World} {K : PySem.W.Frag} {mg : Str → Option Value} {base : Heap} {f : Addr} {fd : FuncData}
def spBe (K : PySem.W.Frag) : Sp:=fun vs H Q _=>∃ (a : Addr) (ns : List Int) (v : V) (t : T),vs = [.ref a,v] ∧ SqL K H a (ns.map V.int) ∧ ns.length ≤ 63 ∧ Rep H v t ∧ T.fewm 31 t ∧ T.dep t ≤ 8 ∧ T.sz t ≤ 1000 ∧ ∀ v' H' t',Same H H' → Rep H' v' t' → T.fewm 45 t' → T.dep t' ≤ 16 → T.sz t' ≤ 2300 → Q v' H'
theorem scBe : FnScope ["_law_script","_law_thing","_law_more","_law_k","_law_names"] ["_law_script","_law_thing"] (defScope sBe):=⟨rfl,rfl,rfl,by decide +kernel,rfl,by decide +kernel,by decide +kernel⟩
theorem ok_be (F : Fun K "_law_beyond" "_law_beyond" sBe f fd) (B : Bl mg) (G_law_cell : Dn P w K mg base 1 "_law_cell" ["_law_script","_law_k"] (spCell K)) : FnOk P w K mg base CX0 2 f fd ["_law_script","_law_thing"] (spBe K):=by
  refine F.ok scBe (fun vs H Q E h=>?_) (fun cdv A outer s H vs Q E hr h=>?_)
  · obtain ⟨a,ns,v,t,rfl,_⟩:=h
    rfl
  obtain ⟨a,ns,v,t,rfl,hS,h63,hv,hf,hd,hz,q⟩:=h
  have nd:=scBe.nd
  refine ⟨_,(zF (zO (i:=2) nd rfl (Or.inl rfl) (zV G_law_cell hr (by omega) rfl (zA (pv 0) (zA zE zB))))
    (zF (zW (zS yK (zH zP (pv 2) zE) zE (zT _)) (zG (zL (zH vD (yB (zA (pv 1) zB)) (yW (own:=["_law_k"]) (F:=[]) ⟨rfl,by with_unfolding_all rfl,by with_unfolding_all rfl,by with_unfolding_all rfl, .nil⟩ rfl (yJ rfl B.range (zA (zH yA zE (zH zP (zH zU (pv 2) zE) zE)) zB)) (fun _ _ _ _=>yC (i:=0) (by show (compN ["_law_k"] []).Nodup; decide +kernel) rfl (Or.inl rfl)) (fun _ _ _ _=>yR) (fun _ _ _ _=>(zH zP (pv 0) zE)))))) zK)
    (zF (wA (zW (zS yK (zH zP (pv 2) zE) zE (zT _)) (zG (wH PassesOwn.never rfl (yJ rfl B.range (zA (zH yA zE (zH zP (zH zU (pv 2) zE) zE)) zB)) (yC (i:=3) nd rfl (Or.inl rfl)) (zG (zO (i:=1) nd rfl (Or.inr rfl) (yB (zA (pv 3) (zA (pv 1) zB))))))) zK))
    (zF (zW (zS yK (zH zP (pv 2) zE) zE (zT _)) (zF (zO (i:=4) nd rfl (Or.inr rfl) zX)
    (zG (zL (yE (vC rfl) rfl B.dict yN (zA (yW (own:=["_law_j"]) (F:=[("_law_names",4),("_law_thing",1)]) ⟨rfl,by with_unfolding_all rfl,by with_unfolding_all rfl,by with_unfolding_all rfl,(.cons rfl rfl rfl (.cons rfl rfl rfl .nil))⟩ rfl (yJ rfl B.range (zA (zH yA zE (zH zP (zH zU (pv 2) zE) zE)) zB)) (fun _ _ _ _=>yC (i:=0) (by show (compN ["_law_j"] [("_law_names",4),("_law_thing",1)]).Nodup; decide +kernel) rfl (Or.inl rfl)) (fun _ _ _ _=>yR) (fun _ _ _ _=>(yT (zA (zH xP (yH qX (pv 1) (zH zP (pv 0) zE) (fun _ _=>rfl)) (zH wN zX (zH zU (pv 0) zE))) (zA (yH (zCd (K:=K) rfl) (yB (zA (pv 2) (zA (pv 0) zB))) (yE vF rfl B.int qE (zA (xE zCj (pv 0) zE (zT _)) zB)) (fun _ _=>rfl)) zB))))) zB))))) zK)
    (zF (zW (zS yK (zH zP (pv 2) zE) zE (zT _)) (zG (zL (yB (zA (zH kY (yB (zA qV zB)) zE) (zA (pv 1) (zA (yB (zA (zH kY (yB (zA zE zB)) zE) (zA (zH kY (yB (zA zE zB)) (zH yA zE (zH zP (zH zU (pv 2) zE) zE))) zB))) (zA (yB (zA (pv 1) (zA (zH kY (yB (zA zX zB)) zE) zB))) zB))))))) zK)
    (zG (zL (pv 1)))))))), ?_⟩
  rw [show start ["_law_script","_law_thing","_law_more","_law_k","_law_names"] [.ref a,v] = [some (.ref a),some v,none,none,none] from rfl]
  walk_at "rd3"
  refine yM hS h63 (by omega) (by omega) fun H1 g1=>?_
  have c0:=xW ns 90
  generalize cellF ns 90 = m at c0 ⊢
  have hv1:=Rep.same g1 _ _ hv
  refine ⟨m,rfl, ?_⟩
  by_cases m1 : m % 5 = 1
  · refine iP m1 fun p1 hp1=>⟨m,rfl,by omega,by omega, ?_⟩
    have s1:=zD hp1 (.lst [v])
    have e1:=zC (H:=H1) (a:=p1) (o:=.lst [v])
    generalize upd H1 p1 (.lst [v]) = HA at s1 e1 ⊢
    have hcn : (60 + m / 5 % 10).toNat ≤ 69:=by omega
    generalize (60 + m / 5 % 10).toNat = cn at hcn ⊢
    refine xG (fun i ys H'=>Same HA H' ∧ ∃ is : List Int,ys = is.map V.int ∧ is.length = i) (by rw [sizeLine_eq]; omega) ⟨Same.refl _,[],rfl,rfl⟩ ?_ ?_
    · rintro i ys H' hi _ ⟨g,is,rfl,hl⟩
      walk_at "rd3"
      exact ⟨g,is ++ [(0 + (i : Int)) % 9],by rw [List.map_append]; rfl,by rw [List.length_append,hl]; rfl⟩
    · rintro ys H' _ ⟨g,is,rfl,hl⟩ p2 hp2
      have s2:=zD hp2 (.lst (is.map V.int))
      have e2:=zC (H:=H') (a:=p2) (o:=.lst (is.map V.int))
      generalize upd H' p2 (.lst (is.map V.int)) = HB at s2 e2 ⊢
      refine ⟨p1,p2,_,_,rfl,rfl,s2 _ _ (g _ _ e1),e2,by rw [sizeLine_eq,List.length_map,List.length_singleton]; omega,fun p3 hp3=>?_⟩
      have G:=g1.trans (s1.trans (g.trans (s2.trans (zD hp3 (.lst ([v] ++ is.map V.int))))))
      have ri : ∀ (H : Hp) (is : List Int),Reps H (is.map V.int) (is.map T.int):=by
        intro H is
        induction is with
        | nil=>exact rfl
        | cons a is ih=>exact ⟨_,_,rfl,rfl,ih⟩
      have e3:=gW is
      refine q (.ref p3) _ (.lst ([t] ++ is.map T.int)) G ⟨p3,_,rfl,zC,Reps.same G _ _ (show Reps H ([v] ++ is.map V.int) ([t] ++ is.map T.int) from ⟨v,_,rfl,hv,ri H is⟩)⟩ ⟨?_, ?_⟩ ?_ ?_
      · rw [List.length_append,List.length_map,List.length_singleton]; omega
      · exact ⟨T.fewm_mono (by decide) _ hf,T.fewms_mono (by decide) _ (jY is)⟩
      · have : T.deps (is.map T.int) ≤ 0:=T.deps_of fun t ht=>by
          obtain ⟨i,_,rfl⟩:=List.mem_map.mp ht
          exact Nat.le_refl _
        show max (T.dep t) (T.deps (is.map T.int)) + 1 ≤ 16
        omega
      · show T.sz t + T.szs (is.map T.int) + 1 ≤ 2300
        omega
  refine iN m1 ?_
  unfold tMid
  walk_at "rd3"
  refine ⟨fun σ' H'=>∃ o3 v2 t2,σ' = [some (.ref a),some v2,some (.int m),o3,none] ∧ Same H H' ∧ Rep H' v2 t2 ∧ T.fewm 31 t2 ∧ T.dep t2 ≤ 15 ∧ T.sz t2 ≤ 1014 ∧ (m % 5 ≠ 2 → T.dep t2 ≤ 8 ∧ T.sz t2 ≤ 1000), ?_, ?_⟩
  · by_cases m2 : m % 5 = 2
    · refine iP m2 ⟨by omega,by omega, ?_⟩
      refine vH (fun i σ' H'=>∃ o3 v2 t2,σ' = [some (.ref a),some v2,some (.int m),o3,none] ∧ Same H H' ∧ Rep H' v2 t2 ∧ T.fewm 31 t2 ∧ T.dep t2 ≤ 8 + i ∧ T.sz t2 ≤ 1000 + 2 * i) ⟨_,v,t,rfl,g1,hv1,hf,by omega,by omega⟩ ?_ ?_
      · rintro i σ' H' hi ⟨o3,v2,t2,rfl,g,h1,h2,h3,h4⟩
        walk_at "rd3"
        intro p hp
        have G:=zD hp (.lst [V.int (0 + (i : Int)),v2])
        refine ⟨_, .ref p,⟨rfl,rfl⟩,g.trans G, .lst [.int (0 + (i : Int)),t2],⟨p,_,rfl,zC,_,_,rfl,rfl,_,_,rfl,Rep.same G _ _ h1,rfl⟩,⟨(show 2 ≤ 100000 by decide),True.intro,h2,True.intro⟩, ?_, ?_⟩
        · show max 0 (max (T.dep t2) 0) + 1 ≤ _
          omega
        · show 1 + (T.sz t2 + 0) + 1 ≤ _
          omega
      · rintro σ' H' ⟨o3,v2,t2,rfl,g,h1,h2,h3,h4⟩
        exact ⟨o3,v2,t2,rfl,g,h1,h2,by omega,by omega,fun z=>absurd m2 z⟩
    · exact iN m2 ⟨_,v,t,rfl,g1,hv1,hf,by omega,by omega,fun _=>⟨hd,hz⟩⟩
  rintro σ2 H2 ⟨o3,v2,t2,rfl,g2,hv2,hf2,hd2,hz2,hno⟩
  walk_at "rd3"
  by_cases m3 : m % 5 = 3
  · refine iP m3 ⟨by omega,by omega, ?_⟩
    obtain ⟨hd2,hz2⟩:=hno (by omega)
    rw [zOe]
    have hcn : (29 + m / 5 % 12).toNat ≤ 40:=by omega
    generalize (29 + m / 5 % 12).toNat = cn at hcn ⊢
    let pr : Nat → Key × V:=fun j=>(nK (nmJ j),if j = 0 then v2 else .int j)
    let tr : Nat → T:=fun j=>if j = 0 then t2 else .int j
    refine xG (fun i ys H'=>Same H2 H' ∧ ys.length = i ∧ ∀ (j : Nat) kv,((List.range i).map pr)[j]? = some kv → ∃ a,ys[j]? = some (.ref a) ∧ H' a = some (.tup [kV kv.1,kv.2])) (by rw [sizeLine_eq]; omega) ⟨Same.refl _,rfl,by intro j kv h; simp at h⟩ ?_ ?_
    · rintro i ys H' hi _ ⟨g,hl,hys⟩
      walk_at "rd3"
      refine jT (c:=i % 26 + 97) (by rw [xX,sizeLine_eq]; decide +kernel) ?_ ?_
      · rw [wT,show (0 + (i : Int)) % 26 = ((i % 26 : Nat) : Int) by omega]
        exact yU (j:=i % 26) (zNt (Nat.mod_lt _ (by decide)))
      have e26 : ((0 + (i : Int)) / 26).toNat = i / 26:=by omega
      have en : tx [i % 26 + 97] ++ tx (List.replicate ((0 + (i : Int)) / 26).toNat (ts (Str.ofString "x"))).flatten = tx (nmJ i):=by
        rw [e26,x_ts,rp1,jX]; rfl
      refine ⟨by decide +kernel,by omega,by omega,_,rfl, ?_,fun p hp=>?_⟩
      · rw [e26,x_ts,rp1,xX,xX,List.length_replicate,List.length_singleton]; omega
      rw [en]
      have sp:=zD hp (.lst [v2,V.int (0 + (i : Int))])
      have ep:=zC (H:=H') (a:=p) (o:=.lst [v2,V.int (0 + (i : Int))])
      generalize upd H' p (.lst [v2,V.int (0 + (i : Int))]) = HQ at sp ep ⊢
      refine yG (SqL.of ep) (v:=(pr i).2) ?_ fun p2 hp2=>?_
      · show _ = some (if i = 0 then v2 else V.int i)
        by_cases h : i = 0
        · subst h; rfl
        · rw [if_pos (by omega),if_neg h,Int.zero_add]; rfl
      refine ⟨g.trans (sp.trans (zD hp2 _)),by rw [List.length_append,hl]; rfl,fun j kv hj=>?_⟩
      rw [List.range_succ,List.map_append] at hj
      by_cases hlt : j < i
      · rw [List.getElem?_append_left (by rw [List.length_map,List.length_range]; exact hlt)] at hj
        obtain ⟨b,e1,e2⟩:=hys j kv hj
        exact ⟨b,by rw [List.getElem?_append_left (by omega)]; exact e1,zD hp2 _ _ _ (sp _ _ e2)⟩
      · rw [List.getElem?_append_right (by rw [List.length_map,List.length_range]; omega),List.length_map,List.length_range] at hj
        have hj0 : j - i = 0:=by
          have:=(List.getElem?_eq_some_iff.mp hj).1
          simpa using this
        rw [hj0] at hj
        have e : pr i = kv:=Option.some.inj hj
        subst e
        exact ⟨p2,by rw [List.getElem?_append_right (by omega),hl,hj0]; rfl,zC⟩
    · rintro ys H' _ ⟨g,hl,hys⟩ p hp
      have s1:=zD hp (.lst ys)
      refine ⟨p,rfl,ys,zC,(List.range cn).map pr,by rw [List.length_map,List.length_range,hl],fun j kv hj=>?_,fun l hl'=>?_⟩
      · obtain ⟨b,e1,e2⟩:=hys j kv hj
        exact ⟨b,e1,s1 _ _ e2⟩
      have G:=g2.trans (g.trans (s1.trans (zD hl' (.dK ((List.range cn).map pr)))))
      have ek : ((List.range cn).map pr).map (·.1) = ((List.range cn).map nmJ).map nK:=by rw [List.map_map,List.map_map]; rfl
      have em : mergeK [] ((List.range cn).map pr) = (List.range cn).map pr:=xT _ [] (by rw [List.nil_append,ek]; exact xS (zAf cn))
      rw [em]
      have hmem : ∀ u ∈ (List.range cn).map tr,u = t2 ∨ ∃ j : Nat,u = .int j:=fun u hu=>by
        obtain ⟨j,_,rfl⟩:=List.mem_map.mp hu
        show (if j = 0 then t2 else T.int j) = t2 ∨ _
        by_cases h : j = 0
        · exact .inl (if_pos h)
        · exact .inr ⟨j,if_neg h⟩
      have rr : ∀ n : Nat,Reps H2 ((List.range n).map fun j=>(pr j).2) ((List.range n).map tr):=fun n=>by
        induction n with
        | zero=>exact rfl
        | succ n ih =>
          rw [List.range_succ,List.map_append,List.map_append]
          refine Reps.snoc ?_ ih
          show Rep H2 (if n = 0 then v2 else .int n) (if n = 0 then t2 else .int n)
          split
          · exact hv2
          · exact rfl
      have zz : ∀ n : Nat,T.szs ((List.range n).map tr) ≤ 1000 + n:=fun n=>by
        induction n with
        | zero=>exact Nat.zero_le _
        | succ n ih =>
          rw [List.range_succ,List.map_append,T.szs_append]
          cases n with
          | zero=>show 0 + (T.sz t2 + 0) ≤ _; omega
          | succ n=>show T.szs ((List.range (n + 1)).map tr) + (1 + 0) ≤ _; omega
      have hzz:=zz cn
      refine q (.ref l) _ (.dic ((List.range cn).map nmJ) ((List.range cn).map tr)) G ⟨l,_,rfl,zC,ek, ?_⟩ ⟨zAf cn,by rw [List.length_map,List.length_range]; omega,by rw [List.length_map,List.length_map],T.fewms_of fun u hu=>?_⟩ ?_ ?_
      · rw [List.map_map]
        exact Reps.same (g.trans (s1.trans (zD hl' (.dK ((List.range cn).map pr))))) _ _ (rr cn)
      · rcases hmem u hu with z | ⟨j,z⟩
        · rw [z]; exact T.fewm_mono (by decide) _ hf2
        · rw [z]; exact True.intro
      · have : T.deps ((List.range cn).map tr) ≤ 8:=T.deps_of fun u hu=>by
          rcases hmem u hu with z | ⟨j,z⟩
          · rw [z]; exact hd2
          · rw [z]; exact Nat.zero_le _
        show T.deps _ + 1 ≤ 16
        omega
      · show T.szs _ + 1 ≤ 2300
        omega
  refine iN m3 ?_
  by_cases m4 : m % 5 = 4
  · refine iP m4 ?_
    obtain ⟨hd2,hz2⟩:=hno (by omega)
    have hck : (60 + m / 5 % 20).toNat ≤ 79:=by omega
    refine zFb (by decide) (by decide) fun pA HA gA eA=>zFb (by decide) (by decide) fun pB HB gB eB=>zFb (by omega) (by omega) fun pC HC gC eC pD hpD=>?_
    generalize (60 + m / 5 % 20).toNat = ck at hck eC ⊢
    have sD:=zD hpD (.lst [.ref pB, .ref pC])
    have eD:=zC (H:=HC) (a:=pD) (o:=.lst [.ref pB, .ref pC])
    generalize upd HC pD (.lst [.ref pB, .ref pC]) = HD at sD eD ⊢
    refine zFb (by decide) (by decide) fun pE HE gE eE pF hpF pG hpG=>?_
    have sF:=zD hpF (.lst [v2, .ref pE])
    have eF:=zC (H:=HE) (a:=pF) (o:=.lst [v2, .ref pE])
    generalize upd HE pF (.lst [v2, .ref pE]) = HF at sF eF hpG ⊢
    have sG:=zD hpG (.lst [.ref pA,v2, .ref pD, .ref pF])
    have eG:=zC (H:=HF) (a:=pG) (o:=.lst [.ref pA,v2, .ref pD, .ref pF])
    generalize upd HF pG (.lst [.ref pA,v2, .ref pD, .ref pF]) = HG at sG eG ⊢
    have gFG:=sF.trans sG
    have gEG:=gE.trans gFG
    have gDG:=sD.trans gEG
    have gCG:=gC.trans gDG
    have gBG:=gB.trans gCG
    have gAG:=gA.trans gBG
    obtain ⟨n1,n2,n3⟩:=zCz (m:=45) (t:=.non) True.intro rfl rfl 60
    obtain ⟨z1,z2,z3⟩:=zCz (m:=45) (t:=.int 0) True.intro rfl rfl 60
    obtain ⟨o1,o2,o3'⟩:=zCz (m:=45) (t:=.int 1) True.intro rfl rfl ck
    obtain ⟨y1,y2,y3⟩:=zCz (m:=45) (t:=.str (ts (Str.ofString ""))) True.intro rfl rfl 30
    have rs : Rep HG (.str (Str.ofString "")) (.str (ts (Str.ofString ""))):=by show V.str _ = V.str (tx (ts _)); rw [wV]
    have hv9:=Rep.same gAG _ _ hv2
    have hf9:=T.fewm_mono (m':=45) (by decide) _ hf2
    refine q (.ref pG) HG (.lst [.lst (List.replicate 60 .non),t2, .lst [.lst (List.replicate 60 (.int 0)), .lst (List.replicate ck (.int 1))], .lst [t2, .lst (List.replicate 30 (.str (ts (Str.ofString ""))))]]) (g2.trans gAG) ⟨pG,_,rfl,eG,_,_,rfl,⟨pA,_,rfl,gBG _ _ eA,jJ (show Rep HG V.non T.non from rfl) 60⟩,_,_,rfl,hv9,_,_,rfl,⟨pD,_,rfl,gEG _ _ eD,_,_,rfl,⟨pB,_,rfl,gCG _ _ eB,jJ (show Rep HG (V.int 0) (T.int 0) from rfl) 60⟩,_,_,rfl,⟨pC,_,rfl,gDG _ _ eC,jJ (show Rep HG (V.int 1) (T.int 1) from rfl) ck⟩,rfl⟩,_,_,rfl,⟨pF,_,rfl,sG _ _ eF,_,_,rfl,hv9,_,_,rfl,⟨pE,_,rfl,gFG _ _ eE,jJ rs 30⟩,rfl⟩,rfl⟩ ?_ ?_ ?_
    · exact ⟨(show 4 ≤ 100000 by decide),⟨by rw [List.length_replicate]; decide,n1⟩,hf9,⟨(show 2 ≤ 100000 by decide),⟨by rw [List.length_replicate]; decide,z1⟩,⟨by rw [List.length_replicate]; omega,o1⟩,True.intro⟩,⟨(show 2 ≤ 100000 by decide),hf9,⟨by rw [List.length_replicate]; decide,y1⟩,True.intro⟩,True.intro⟩
    · show max (T.deps (List.replicate 60 .non) + 1) (max (T.dep t2) (max (max (T.deps (List.replicate 60 (.int 0)) + 1) (max (T.deps (List.replicate ck (.int 1)) + 1) 0) + 1) (max (max (T.dep t2) (max (T.deps (List.replicate 30 (.str (ts (Str.ofString "")))) + 1) 0) + 1) 0))) + 1 ≤ 16
      omega
    · show (T.szs (List.replicate 60 .non) + 1) + (T.sz t2 + (((T.szs (List.replicate 60 (.int 0)) + 1) + ((T.szs (List.replicate ck (.int 1)) + 1) + 0) + 1) + ((T.sz t2 + ((T.szs (List.replicate 30 (.str (ts (Str.ofString "")))) + 1) + 0) + 1) + 0))) + 1 ≤ 2300
      omega
  exact iN m4 (q v2 H2 t2 g2 hv2 (T.fewm_mono (by decide) _ hf2) (by omega) (by omega))
end
end K37
namespace K37
open PySem L2 PySem.W
seal L2.PSs L2.PS L2.PE L2.PT L2.PW L2.PA L2.PI L2.PG L2.PGs L2.PPs L2.PTs
abbrev sWord : Stmt:=top 58
abbrev sTo : Stmt:=top 61
structure Wf (mg : Str → Option Value) (d : Nat → Addr) : Prop where
  m0 : mg "BadPath" = some (.ref (d 0))
  m1 : mg "NoPlace" = some (.ref (d 1))
  m2 : mg "TooGreat" = some (.ref (d 2))
  m3 : mg "NoneFits" = some (.ref (d 3))
  m4 : mg "BadText" = some (.ref (d 4))
  m5 : mg "NoDeed" = some (.ref (d 5))
  m6 : mg "CantMove" = some (.ref (d 6))
  m7 : mg "NoBack" = some (.ref (d 7))
  m8 : mg "NoVersion" = some (.ref (d 8))
  m9 : mg "NoFit" = some (.ref (d 9))
  m10 : mg "Stuck" = some (.ref (d 10))
  m11 : mg "BadQuestion" = some (.ref (d 11))
  m12 : mg "NoKey" = some (.ref (d 12))
  m13 : mg "IsKept" = some (.ref (d 13))
  m14 : mg "NotKept" = some (.ref (d 14))
  m15 : mg "NoWayBack" = some (.ref (d 15))
  m16 : mg "NoStore" = some (.ref (d 16))
  m17 : mg "BadRow" = some (.ref (d 17))
structure Wk (K : Frag) (d : Nat → Addr) : Prop where
  G : XGet K (d 1)
  at_ : findIn K (.ref (d 1)) "at" = some none
  k0 : kitOne K (.ref (d 1)) (.ref (d 0)) = some false
  k1 : kitOne K (.ref (d 1)) (.ref (d 1)) = some true
  k2 : kitOne K (.ref (d 1)) (.ref (d 2)) = some false
  k3 : kitOne K (.ref (d 1)) (.ref (d 3)) = some false
  a9 : kitAny K (.ref (d 1)) ([d 4,d 5,d 6,d 7,d 8,d 9,d 10,d 11,d 12].map Value.ref) = some false
  a5 : kitAny K (.ref (d 1)) ([d 13,d 14,d 15,d 16,d 17].map Value.ref) = some false
section
variable {P : Program} {w : World} {K : PySem.W.Frag} {mg : Str → Option Value} {base : Heap} {f : Addr} {fd : FuncData} {d : Nat → Addr} {Bs : Addr}
def spWord (d : Nat → Addr) : Sp:=fun vs H Q _=>∃ (x dd : Addr) (n : Int),vs = [.ref x] ∧ H x = some (exF x (d 1) (some dd)) ∧ H dd = some (.xd [("at", .int n)]) ∧ ∀ p H',Same H H' → H p = none → H' p = some (.tup [.str (Str.ofString "place"), .int n]) → Q (.ref p) H'
theorem scWord : FnScope ["_law_e","_law_some","_law_others"] ["_law_e"] (defScope sWord):=⟨rfl,rfl,rfl,by decide +kernel,rfl,by decide +kernel,by decide +kernel⟩
theorem zKg (F : Fun K "_law_word" "_law_word" sWord f fd) (B : Bl mg) (W : Wf mg d) (Y : Wk K d) : FnOkH P w K mg base 1 f fd ["_law_e"] (spWord d):=by
  refine F.okh scWord (fun vs H Q E h=>?_) (fun cdv A outer s H vs Q E hr h=>?_)
  · obtain ⟨x,dd,n,rfl,_⟩:=h
    rfl
  obtain ⟨x,dd,n,rfl,hx,hdd,q⟩:=h
  have hc : Caught H x (d 1):=.inr ⟨dd,_,hx,hdd⟩
  have nd:=scWord.nd
  refine ⟨_,(zF (zO (i:=1) nd rfl (Or.inl rfl) (yB (zA (zJ jM rfl B.isinstance zI (zA (pv 0) (zA (yP (v:=.ref (d 0)) rfl W.m0 rfl) zB))) (zA (zJ jM rfl B.isinstance zI (zA (pv 0) (zA (yP (v:=.ref (d 1)) rfl W.m1 rfl) zB))) (zA (zJ jM rfl B.isinstance zI (zA (pv 0) (zA (yP (v:=.ref (d 2)) rfl W.m2 rfl) zB))) (zA (zJ jM rfl B.isinstance zI (zA (pv 0) (zA (yP (v:=.ref (d 3)) rfl W.m3 rfl) zB))) zB))))))
    (zF (zO (i:=2) nd rfl (Or.inl rfl) (zJ zAs rfl B.isinstance zI (zA (pv 0) (zA (yT (zA (yP (v:=.ref (d 4)) rfl W.m4 rfl) (zA (yP (v:=.ref (d 5)) rfl W.m5 rfl) (zA (yP (v:=.ref (d 6)) rfl W.m6 rfl) (zA (yP (v:=.ref (d 7)) rfl W.m7 rfl) (zA (yP (v:=.ref (d 8)) rfl W.m8 rfl) (zA (yP (v:=.ref (d 9)) rfl W.m9 rfl) (zA (yP (v:=.ref (d 10)) rfl W.m10 rfl) (zA (yP (v:=.ref (d 11)) rfl W.m11 rfl) (zA (yP (v:=.ref (d 12)) rfl W.m12 rfl) zB)))))))))) zB))))
    (zF (zW (PW.pt (qS (zZ (pv 2)) (qS (zZ (zJ zAs rfl B.isinstance zI (zA (pv 0) (zA (yT (zA (yP (v:=.ref (d 13)) rfl W.m13 rfl) (zA (yP (v:=.ref (d 14)) rfl W.m14 rfl) (zA (yP (v:=.ref (d 15)) rfl W.m15 rfl) (zA (yP (v:=.ref (d 16)) rfl W.m16 rfl) (zA (yP (v:=.ref (d 17)) rfl W.m17 rfl) zB)))))) zB)))) (vS (zS jP (jR PySem.F.plainAttrs_list PySem.F.slot_list_count PySem.F.type_list_count zEm (pv 1) (zA vU zB)) zE (zT _)))))) (zG (zL (yT (zA zX zB)))) zK)
    (zF (zW (zZ (yH ix_list (pv 1) zE (fun _ _=>rfl))) (zG (zL (yT (zA zX (zA (zNa Y.G Y.at_ (pv 0)) zB))))) zK)
    (zG (zL (yT (zA (yH ix_list (yB (zA zX (zA zX (zA zX (zA zX zB))))) (jR PySem.F.plainAttrs_list PySem.F.slot_list_index PySem.F.type_list_index zDm (pv 1) (zA vU zB)) (fun _ _=>rfl)) zB)))))))), ?_⟩
  rw [show start ["_law_e","_law_some","_law_others"] [.ref x] = [some (.ref x),none,none] from rfl]
  walk_at "rd3"
  refine ⟨x,_,_,⟨rfl,rfl⟩,hc,Y.G,false,Y.k0,x,_,_,⟨rfl,rfl⟩,hc,Y.G,true,Y.k1,x,_,_,⟨rfl,rfl⟩,hc,Y.G,false,Y.k2,x,_,_,⟨rfl,rfl⟩,hc,Y.G,false,Y.k3,fun p1 hp1 p2 hp2=>?_⟩
  have s1:=zD hp1 (.lst [V.bl false,V.bl true,V.bl false,V.bl false])
  have e1:=zC (H:=H) (a:=p1) (o:=.lst [V.bl false,V.bl true,V.bl false,V.bl false])
  generalize upd H p1 (.lst [V.bl false,V.bl true,V.bl false,V.bl false]) = H1 at s1 e1 hp2 ⊢
  have s2:=zD hp2 (.tup [V.ref (d 4),V.ref (d 5),V.ref (d 6),V.ref (d 7),V.ref (d 8),V.ref (d 9),V.ref (d 10),V.ref (d 11),V.ref (d 12)])
  have e2:=zC (H:=H1) (a:=p2) (o:=.tup [V.ref (d 4),V.ref (d 5),V.ref (d 6),V.ref (d 7),V.ref (d 8),V.ref (d 9),V.ref (d 10),V.ref (d 11),V.ref (d 12)])
  generalize upd H1 p2 _ = H2 at s2 e2 ⊢
  refine ⟨x,_,_,⟨rfl,rfl⟩,[d 4,d 5,d 6,d 7,d 8,d 9,d 10,d 11,d 12],e2,hc.same (s1.trans s2),Y.G,false,Y.a9,iN (by decide) fun p3 hp3=>?_⟩
  have s3:=zD hp3 (.tup [V.ref (d 13),V.ref (d 14),V.ref (d 15),V.ref (d 16),V.ref (d 17)])
  have e3:=zC (H:=H2) (a:=p3) (o:=.tup [V.ref (d 13),V.ref (d 14),V.ref (d 15),V.ref (d 16),V.ref (d 17)])
  generalize upd H2 p3 _ = H3 at s3 e3 ⊢
  have g3:=s1.trans (s2.trans s3)
  have e1':=s3 _ _ (s2 _ _ e1)
  refine ⟨x,_,_,⟨rfl,rfl⟩,[d 13,d 14,d 15,d 16,d 17],e3,hc.same g3,Y.G,false,Y.a5,iN (by decide) ⟨.inl ⟨rfl,_,SqL.of e1'⟩,p1,[false,true,false,false],true,rfl,rfl,SqL.of e1',rfl,false,by decide,iN (by decide) (yG (SqL.of e1') (yU (j:=1) rfl) ⟨true,rfl,iP rfl ?_⟩)⟩⟩
  refine ⟨_,rfl,x,dd,_,n,rfl,g3 _ _ hx,g3 _ _ hdd,rfl,fun p4 hp4=>q p4 _ (g3.trans (zD hp4 _)) (zN g3 hp4) zC⟩
theorem tak_any {t n n' : T} {ks : List Key} : chG .tak (fun s k=>partT .tak s k n) t ks n = chG .tak (fun s k=>partT .tak s k n') t ks n':=by
  have e : (fun s k=>partT .tak s k n) = fun s k=>partT .tak s k n':=by
    funext s k
    cases s <;> cases k <;> rfl
  rw [e]
  unfold chG
  cases ks.getLast? <;> rfl
def spTo (d : Nat → Addr) : Sp:=fun vs H Q _=>∃ (v : V) (t : T) (wd : Wd) (pa : Addr) (ks : List Key) (vn : V) (n : T) (m : Nat),vs = [.str wd.s,v, .ref pa,vn] ∧ Tq m H v t pa ks ∧ Rep H vn n ∧ Nq m t n ∧ (∀ r,chG wd (fun s k=>partT wd s k n) t ks n = .inr r → ∀ v' H' D,Same H H' → Sp1 H' v' r D → (∀ b ∈ D,H b = none) → Q v' H') ∧ (∀ j : Nat,chG wd (fun s k=>partT wd s k n) t ks n = .inl j → ∀ p H',Same H H' → H p = none → H' p = some (plc j) → Q (.ref p) H')
theorem scTo : FnScope ["_law_word_here","_law_thing","_law_path_here","_law_new","_law_e"] ["_law_word_here","_law_thing","_law_path_here","_law_new"] (defScope sTo):=⟨rfl,rfl,rfl,by decide +kernel,rfl,by decide +kernel,by decide +kernel⟩
theorem ok_to (F : Fun K "_law_told" "_law_told" sTo f fd) (mB : mg "CabinetError" = some (.ref Bs)) (ex : exmOne K (.ref (d 1)) (.ref Bs) = some true) (Gcax : Dx P w K mg base 22 "changed_at" ["thing","word","path","new"] (spCa (d 1))) (Gcad : Ddx P w K mg base 22 "changed_at" ["thing","word","path","new"] [.non] (spCa (d 1))) (Gw : Dh P w K mg base 1 "_law_word" ["_law_e"] (spWord d)) : FnOk P w K mg base CX0 23 f fd ["_law_word_here","_law_thing","_law_path_here","_law_new"] (spTo d):=by
  refine F.ok scTo (fun vs H Q E h=>?_) (fun cdv A outer s H vs Q E hr h=>?_)
  · obtain ⟨v,t,wd,pa,ks,vn,n,m,rfl,_⟩:=h
    rfl
  obtain ⟨v,t,wd,pa,ks,vn,n,m,rfl,hT,hn,hN,q,qn⟩:=h
  have nd:=scTo.nd
  refine ⟨_,(zG (zMx (tb:=fun E=>_) rfl rfl mB nd (i:=4) rfl rfl rfl rfl rfl (fun pins W E hp=>(zF (zW (PW.pt (qS (zS yK (pv 0) zX (zT _)) (vS (zBn (zDl (pv 3)))))) (zG (zL (zNg Gcad hr (by omega) rfl hp (zA (pv 1) (zA (pv 0) (zA (pv 2) zB)))))) zK) (zG (zL (pe_cp Gcax hr (by omega) rfl hp (zA (pv 1) (zA (pv 0) (zA (pv 2) (zA (pv 3) zB)))))))))
    (fun v=>zG (zL (pe_ch Gw hr.h (by omega) rfl (zA (pv 4) zB)))))), ?_⟩
  rw [show start ["_law_word_here","_law_thing","_law_path_here","_law_new","_law_e"] [.str wd.s,v, .ref pa,vn] = [some (.str wd.s),some v,some (.ref pa),some vn,none] from rfl]
  unfold tTry
  walk_at "rd3"
  have hx : ∀ j : Nat,(∀ p H',Same H H' → H p = none → H' p = some (plc j) → Q (.ref p) H') → XAt (d 1) (j : Int) H (xTry K Bs 4 5 (tRet (tCall (spWord d) [] E0 (tCons (tVar 4) tNil))) { nx:=fun x H'=>Q V.non H',rt:=Q }):=fun j qj dd H1 g1 hdd=>by
    refine ⟨d 1,rfl,ex,fun x hx=>?_⟩
    have hne : dd ≠ x:=fun z=>by rw [z,hx] at hdd; cases hdd
    have g2:=g1.trans (zD hx (exF x (d 1) (some dd)))
    have hx2 : upd H1 x (exF x (d 1) (some dd)) x = some (exF x (d 1) (some dd)):=zC
    have hd2 : upd H1 x (exF x (d 1) (some dd)) dd = some (.xd [("at", .int (j : Int))]):=by rw [zM hne]; exact hdd
    generalize upd H1 x (exF x (d 1) (some dd)) = H2 at g2 hx2 hd2 ⊢
    exact ⟨.ref x,rfl,x,dd,_,rfl,hx2,hd2,fun o H3 g3 ho0 ho=>qj o H3 (g2.trans g3) (zN g2 ho0) ho⟩
  have hNn : Nq m t .non:=⟨True.intro,hN.dep,Nat.zero_le _,(show 1 ≤ 40000 by decide)⟩
  have direct : ∀ vn',Rep H vn' n → spCa (d 1) [v,V.str wd.s,V.ref pa,vn'] H Q (xTry K Bs 4 5 (tRet (tCall (spWord d) [] E0 (tCons (tVar 4) tNil))) { nx:=fun x H'=>Q V.non H',rt:=Q }):=fun vn' hn'=>⟨v,t,wd,pa,ks,vn',n,m,rfl,hT,hn',hN,q,fun j hj=>hx j (qn j hj)⟩
  by_cases hw : wd.s = Str.ofString "take"
  · refine iP hw ?_
    have ew : wd = .tak:=by
      cases wd with
      | tak=>rfl
      | put=>exact absurd hw (by decide +kernel)
      | ins=>exact absurd hw (by decide +kernel)
    subst ew
    exact ⟨v,t, .tak,pa,ks, .non, .non,m,rfl,hT,rfl,hNn,fun r hr=>q r (tak_any.trans hr),fun j hj=>hx j (qn j (tak_any.trans hj))⟩
  · refine iN hw ?_
    by_cases hvn : vn = V.non
    · refine iP hvn ?_
      rw [hvn] at hn
      exact direct .non hn
    · exact iN hvn (direct vn hn)
end
end K37
namespace K37
open PySem L2
seal L2.PSs L2.PS L2.PE L2.PT L2.PW L2.PA L2.PI L2.PG L2.PGs L2.PPs L2.PTs
abbrev sLaw : Stmt:=top 62
def kT : Key → T
  | .inl i=>.int i
  | .inr s=>.str (ts s)
theorem zOa {H : Hp} : ∀ k : Key,Rep H (kV k) (kT k)
  | .inl i=>rfl
  | .inr s=>by
    show V.str s = V.str (tx (ts s))
    rw [wV]
theorem zAt {H : Hp} : ∀ ks : List Key,Reps H (ks.map kV) (ks.map kT)
  | []=>rfl
  | k :: ks=>⟨kV k,_,rfl,zOa k,zAt ks⟩
theorem zIw : ∀ k : Key,T.okq (kT k) ∧ T.dep (kT k) = 0
  | .inl _=>⟨True.intro,rfl⟩
  | .inr _=>⟨True.intro,rfl⟩
theorem zLd {ks : List Key} (h : ks.length ≤ 8) : T.okq (.lst (ks.map kT)) ∧ T.dep (.lst (ks.map kT)) ≤ 1:=by
  refine ⟨⟨by rw [List.length_map]; omega,T.okqs_of fun t ht=>?_⟩, ?_⟩
  · obtain ⟨k,_,rfl⟩:=List.mem_map.mp ht
    exact (zIw k).1
  · have : T.deps (ks.map kT) ≤ 0:=T.deps_of fun t ht=>by
      obtain ⟨k,_,rfl⟩:=List.mem_map.mp ht
      rw [(zIw k).2]; exact Nat.le_refl _
    show T.deps (ks.map kT) + 1 ≤ 1
    omega
def plT : T:=.str (ts (Str.ofString "place"))
theorem zFj {H : Hp} : Rep H (.str (Str.ofString "place")) plT:=by
  show V.str _ = V.str (tx (ts _))
  rw [wV]
def dueOf : Sum Nat T → T
  | .inl j=>.tup [plT, .int (j : Int)]
  | .inr r=>r
theorem zLs {H : Hp} {p : Addr} {j : Nat} (h : H p = some (plc j)) : Rep H (.ref p) (dueOf (.inl j)):=⟨p,_,rfl,h,_,_,rfl,zFj,_,_,rfl,rfl,rfl⟩
theorem zOi {H : Hp} {p : Addr} {j : Nat} (h : H p = some (plc j)) : Sp1 H (.ref p) (dueOf (.inl j)) [p]:=⟨p,_,[],rfl,h,rfl,(fun z=>nomatch z),_,_,[],[],rfl,rfl,⟨rfl,zFj (H:=H)⟩,⟨_,_,[],[],rfl,rfl,⟨rfl,rfl⟩,⟨rfl,rfl⟩,fun _ z=>nomatch z⟩,fun _ z=>nomatch z⟩
theorem zMi (j : Nat) : T.okq (dueOf (.inl j)) ∧ T.fewq (dueOf (.inl j)) ∧ T.dep (dueOf (.inl j)) ≤ 16:=⟨⟨(show 2 ≤ 200000 by decide),True.intro,True.intro,True.intro⟩,⟨(show 2 ≤ 100000 by decide),True.intro,True.intro,True.intro⟩,(show max 0 (max 0 0) + 1 ≤ 16 by decide)⟩
def FzS (K : PySem.W.Frag) (H : Hp) (a : Addr) (xs : List V) : Prop:=(∃ o,H a = some (.frz o (.lst xs))) ∨ ∀ H',SqL K H' a xs
theorem FzS.of {K : PySem.W.Frag} {H : Hp} {a : Addr} {xs : List V} (hO : Only H) (h : SqL K H a xs) : FzS K H a xs:=by
  rcases h with (h | ⟨o,h⟩) | h
  · rcases hO a with z | ⟨o,ys,z⟩
    · rw [z] at h; cases h
    · rw [z] at h; cases h
  · exact .inl ⟨o,h⟩
  · exact .inr fun H'=>.inr h
theorem FzS.sq {K : PySem.W.Frag} {H : Hp} {a : Addr} {xs : List V} (h : FzS K H a xs) : SqL K H a xs:=by
  rcases h with ⟨o,h⟩ | h
  · exact .inl (.inr ⟨o,h⟩)
  · exact h H
theorem FzS.same {K : PySem.W.Frag} {H H' : Hp} {a : Addr} {xs : List V} (h : FzS K H a xs) (g : Same H H') : FzS K H' a xs:=by
  rcases h with ⟨o,h⟩ | h
  · exact .inl ⟨o,g _ _ h⟩
  · exact .inr h
theorem FzS.mx {K : PySem.W.Frag} {HD H' : Hp} {k : Nat} {a : Addr} {xs : List V} (h : FzS K HD a xs) (m : Mx HD k H') : FzS K H' a xs:=by
  rcases h with ⟨o,h⟩ | h
  · obtain ⟨o',h1,h2⟩:=m a _ h
    rw [h2.frz'] at h1
    exact .inl ⟨o,h1⟩
  · exact .inr h
section
variable {P : Program} {w : World} {K : PySem.W.Frag} {mg : Str → Option Value} {base : Heap} {f : Addr} {fd : FuncData} {d : Nat → Addr}
def spLaw (K : PySem.W.Frag) : Sp:=fun vs H Q _=>∃ (a : Addr) (ns : List Int),vs = [.ref a] ∧ SqL K H a (ns.map V.int) ∧ ns.length ≤ 63 ∧ Only H ∧ ∀ H',Q (.bl true) H'
theorem scLaw : FnScope ["_law_script","_law_thing","_law_turn","_law_path_here","_law_word_here","_law_new","_law_kept","_law_due","_law_found"] ["_law_script"] (defScope sLaw):=⟨rfl,rfl,rfl,by decide +kernel,rfl,by decide +kernel,by decide +kernel⟩
theorem zNx {H : Hp} {v u : V} {t t' : T} {Q : VK} (h1 : Rep H v t) (h2 : Rep H u t') (h3 : Sm 20 t t') (q : ∀ H',Same H H' → Q (.bl true) H') : spAlike 20 [v,u] H Q E0:=⟨v,u,t,t',rfl,h1,h2,h3,q⟩
theorem zNn (F : Fun K "law" "law" sLaw f fd) (B : Bl mg) (G_law_cell : Dn P w K mg base 1 "_law_cell" ["_law_script","_law_k"] (spCell K)) (G_law_any : Dn P w K mg base 8 "_law_any" ["_law_script","_law_k"] (spAny K)) (G_law_beyond : Dn P w K mg base 2 "_law_beyond" ["_law_script","_law_thing"] (spBe K)) (G_law_path : Dn P w K mg base 3 "_law_path" ["_law_script","_law_k","_law_thing"] (spPa K)) (G_law_thing_by : Dn P w K mg base (3 + 3) "_law_thing_by" ["_law_script","_law_k","_law_deep_here"] (spThingAny K 3)) (G_law_deep : Dn P w K mg base 7 "_law_deep" ["_law_script","_law_k"] (spDeep K))
    (G_law_copy : Dn P w K mg base (1 + 20) "_law_copy" ["_law_thing"] (spCo 20)) (G_law_rebuilt : Dn P w K mg base 22 "_law_rebuilt" ["_law_thing","_law_word_here","_law_path_here","_law_new"] spRb) (G_law_told : Dn P w K mg base 23 "_law_told" ["_law_word_here","_law_thing","_law_path_here","_law_new"] (spTo d)) (G_law_own : Dn P w K mg base 23 "_law_own" ["_law_found"] spOwn) (G_law_spoil : Dn P w K mg base 1 "_law_spoil" ["_law_thing"] spSpo) (G_law_alike : Dn P w K mg base (2 + 20) "_law_alike" ["_law_found","_law_due"] (spAlike 20)) :
    FnOk P w K mg base CX0 24 f fd ["_law_script"] (spLaw K):=by
  refine F.ok scLaw (fun vs H Q E h=>?_) (fun cdv A outer s H vs Q E hr h=>?_)
  · obtain ⟨a,ns,rfl,_⟩:=h
    rfl
  obtain ⟨a,ns,rfl,hS,h63,hO,q⟩:=h
  have nd:=scLaw.nd
  have hF:=FzS.of hO hS
  refine ⟨_,(zF (zO (i:=1) nd rfl (Or.inl rfl) (zV G_law_beyond hr (by omega) rfl (zA (pv 0) (zA (zV G_law_any hr (by omega) rfl (zA (pv 0) (zA zE zB))) zB))))
    (zF (wH PassesOwn.never rfl (yJ rfl B.range (zA (zH yA zE (zH zP (zV G_law_cell hr (by omega) rfl (zA (pv 0) (zA zE zB))) zE)) zB)) (yC (i:=2) nd rfl (Or.inl rfl)) (zF (zO (i:=3) nd rfl (Or.inl rfl) (zV G_law_path hr (by omega) rfl (zA (pv 0) (zA (zH yA zE (zH xZ zE (pv 2))) (zA (pv 1) zB)))))
    (zF (zO (i:=4) nd rfl (Or.inl rfl) (yH ix_list (yB (zA zX (zA zX (zA zX zB)))) (zH zP (zV G_law_cell hr (by omega) rfl (zA (pv 0) (zA (zH yA zE (pv 2)) zB))) zE) (fun _ _=>rfl)))
    (zF (zO (i:=5) nd rfl (Or.inl rfl) (zV G_law_thing_by hr (by omega) rfl (zA (pv 0) (zA (zH yA zE (pv 2)) (zA zE zB)))))
    (zF (wA (zW (zS yK (zH zP (zH zU (zV G_law_cell hr (by omega) rfl (zA (pv 0) (zA (zH yA zE (pv 2)) zB))) zE) zE) zE (zT _)) (zG (zO (i:=5) nd rfl (Or.inl rfl) (zV G_law_deep hr (by omega) rfl (zA (pv 0) (zA (zH yA zE (zH xZ zE (pv 2))) zB))))) zK))
    (zF (wA (zW (zS yK (zH zP (zV G_law_cell hr (by omega) rfl (zA (pv 0) (zA (zH yA zE (pv 2)) zB))) zE) zE (zT _)) (zG (zO (i:=5) nd rfl (Or.inl rfl) qV)) zK))
    (zF (zO (i:=6) nd rfl (Or.inl rfl) (yB (zA (zV G_law_copy hr (by omega) rfl (zA (pv 1) zB)) (zA (yE vR rfl B.list yO (zA (pv 3) zB)) (zA (zV G_law_copy hr (by omega) rfl (zA (pv 5) zB)) zB)))))
    (zF (wA (zO (i:=7) nd rfl (Or.inl rfl) (zV G_law_rebuilt hr (by omega) rfl (zA (pv 1) (zA (pv 4) (zA (pv 3) (zA (pv 5) zB)))))))
    (zF (wA (zO (i:=8) nd rfl (Or.inl rfl) (zV G_law_told hr (by omega) rfl (zA (pv 4) (zA (pv 1) (zA (pv 3) (zA (pv 5) zB)))))))
    (zF (zW (PW.pt (qS (wC (zZ (zV G_law_alike hr (by omega) rfl (zA (pv 8) (zA (pv 7) zB))))) (vS (wC (zZ (zV G_law_alike hr (by omega) rfl (zA (yB (zA (pv 1) (zA (pv 3) (zA (pv 5) zB)))) (zA (pv 6) zB)))))))) (zG (zL vU)) zK)
    (zF (wF (zV G_law_spoil hr (by omega) rfl (zA (yB (zA (pv 1) (zA (pv 5) zB))) zB)))
    (zF (zW (PW.pt (qS (wC (zZ (zV G_law_alike hr (by omega) rfl (zA (pv 8) (zA (pv 7) zB))))) (vS (wC (zZ (zV G_law_own hr (by omega) rfl (zA (yB (zA (pv 8) zB)) zB))))))) (zG (zL vU)) zK)
    (zF (zO (i:=1) nd rfl (Or.inl rfl) (yH ix_list (pv 6) zE (fun _ _=>rfl)))
    (zG (zW (wC (zZ (zJ (zQ (T:="tuple") (by decide)) rfl B.isinstance zI (zA (pv 7) (zA (zR (v:=.ty "tuple") rfl B.tuple xI rfl) zB))))) (zG (zO (i:=1) nd rfl (Or.inl rfl) (pv 7))) zK)))))))))))))))
    (zG (zL vU)))), ?_⟩
  rw [show start ["_law_script","_law_thing","_law_turn","_law_path_here","_law_word_here","_law_new","_law_kept","_law_due","_law_found"] [.ref a] = [some (.ref a),none,none,none,none,none,none,none,none] from rfl]
  unfold tMid
  walk_at "rd3"
  refine ⟨a,ns,0,rfl,hS,h63,by decide,by decide,fun v1 H1 t1 g1 hv1 hf1 hd1 hz1=>⟨a,ns,v1,t1,rfl,g1.seq hS,h63,hv1,hf1,hd1,hz1,fun v2 H2 t2 g2 hv2 hf2 hd2 hz2=>?_⟩⟩
  have g12:=g1.trans g2
  refine yM (g12.seq hS) h63 (by decide) (by decide) fun H3 g3=>⟨_,rfl,by omega,by omega, ?_⟩
  have hcn : (1 + cellF ns 91 % 6).toNat ≤ 6:=by omega
  generalize (1 + cellF ns 91 % 6).toNat = cn at hcn ⊢
  refine vH (fun i σ' H'=>∃ v t o2 o3 o4 o5 o6 o7 o8,σ' = [some (.ref a),some v,o2,o3,o4,o5,o6,o7,o8] ∧ FzS K H' a (ns.map V.int) ∧ Rep H' v t ∧ T.fewm (45 + i) t ∧ T.dep t ≤ 16 ∧ T.sz t ≤ 2300 + 31 * i) ⟨v2,t2,_,_,_,_,_,_,_,rfl,hF.same (g12.trans g3),Rep.same g3 _ _ hv2,hf2,hd2,hz2⟩ ?_ ?_
  · rintro i σ' HS hi ⟨v,t,o2,o3,o4,o5,o6,o7,o8,rfl,hFS,hv,hf,hd,hz⟩
    walk_at "rd3"
    have hfew : T.few t:=T.fewm_few (by omega) _ hf
    refine ⟨a,ns,_,v,t,rfl,hFS.sq,h63,by omega,by omega,hv,jL _ t (Nat.le_refl _) hfew,hfew,by omega,fun p2 ks HA gA hp2 hks h8 p4 hp4=>?_⟩
    have s4:=zD hp4 (.lst [V.str (Str.ofString "put"),V.str (Str.ofString "insert"),V.str (Str.ofString "take")])
    have e4:=zC (H:=HA) (a:=p4) (o:=.lst [V.str (Str.ofString "put"),V.str (Str.ofString "insert"),V.str (Str.ofString "take")])
    generalize upd HA p4 (.lst [V.str (Str.ofString "put"),V.str (Str.ofString "insert"),V.str (Str.ofString "take")]) = HB at s4 e4 ⊢
    have hFB:=hFS.same (gA.trans s4)
    refine yM hFB.sq h63 (by omega) (by omega) fun HC gC=>⟨_,rfl, ?_⟩
    refine kU (gC _ _ e4) (by omega) (by simp only [List.length_cons,List.length_nil]; omega) fun x hx=>?_
    obtain ⟨wd,rfl⟩ : ∃ wd : Wd,x = .str wd.s:=by
      simp only [List.mem_cons,List.not_mem_nil,or_false] at hx
      rcases hx with rfl | rfl | rfl
      · exact ⟨.put,rfl⟩
      · exact ⟨.ins,rfl⟩
      · exact ⟨.tak,rfl⟩
    have hFC:=hFB.same gC
    refine ⟨2,by decide,a,ns,_,rfl,hFC.sq,h63,by omega,by omega,fun v5 HD gD hv5=>?_⟩
    have hni:=vW ns 2 (9 + (0 + (i : Int)))
    generalize thT ns 2 (9 + (0 + (i : Int))) = n5 at hni hv5
    have hn5 : T.fewm 31 n5 ∧ T.dep n5 ≤ 8 ∧ T.sz n5 ≤ 30:=⟨Nice.few _ hni,by have:=Nice.dep _ hni; omega,by have:=Nice.sz _ hni; omega⟩
    have hFD:=hFC.same gD
    have gSD:=gA.trans (s4.trans (gC.trans gD))
    have gAD:=s4.trans (gC.trans gD)
    refine ⟨fun σ' H'=>∃ vn n,σ' = [some (.ref a),some v,some (.int (0 + (i : Int))),some (.ref p2),some (.str wd.s),some vn,o6,o7,o8] ∧ Same HD H' ∧ Rep H' vn n ∧ T.fewm 31 n ∧ T.dep n ≤ 8 ∧ T.sz n ≤ 30, ?_, ?_⟩
    · refine yM hFD.sq h63 (by omega) (by omega) fun HE gE=>⟨_,rfl, ?_⟩
      split
      · exact ⟨a,ns,_,rfl,(hFD.same gE).sq,h63,by omega,by omega,fun v' HF n' gF hv' hf' hd' hz'=>⟨v',n',rfl,gE.trans gF,hv',hf',hd',hz'⟩⟩
      · exact ⟨v5,n5,rfl,gE,Rep.same gE _ _ hv5,hn5⟩
    clear hn5 hv5 hni
    rintro σ6 H6 ⟨vn6,n6,rfl,g6,hvn6,hn6⟩
    refine ⟨fun σ' H'=>∃ vn n,σ' = [some (.ref a),some v,some (.int (0 + (i : Int))),some (.ref p2),some (.str wd.s),some vn,o6,o7,o8] ∧ Same HD H' ∧ Rep H' vn n ∧ T.fewm 31 n ∧ T.dep n ≤ 8 ∧ T.sz n ≤ 30, ?_, ?_⟩
    · refine ⟨_,rfl,_,rfl,_,rfl, ?_⟩
      refine yM (hFD.same g6).sq h63 (by omega) (by omega) fun HE gE=>⟨_,rfl, ?_⟩
      split
      · exact ⟨.non, .non,rfl,g6.trans gE,rfl,True.intro,Nat.zero_le _,(show 1 ≤ 30 by decide)⟩
      · exact ⟨vn6,n6,rfl,g6.trans gE,Rep.same gE _ _ hvn6,hn6⟩
    clear hvn6 hn6 g6
    rintro σ7 HN ⟨vn,n,rfl,gN,hvn,hfn,hdn,hzn⟩
    have gSN:=gSD.trans gN
    have hFN:=hFD.same gN
    have hvN:=Rep.same gSN _ _ hv
    have hpN:=gN _ _ (gAD _ _ hp2)
    have okt : T.okq t:=T.few_okq _ hfew
    have okn : T.okq n:=T.few_okq _ (T.fewm_few (by decide) _ hfn)
    have hTN : Tq (45 + i) HN v t p2 ks:=⟨hvN,hf,by omega,by omega,hpN,hks,h8⟩
    have hNq : Nq (45 + i) t n:=⟨T.fewm_mono (by omega) _ hfn,hd,hdn,by omega⟩
    walk_at "rd3"
    refine ⟨v,t,rfl,hvN,okt,by omega,fun v6 HE D6 gE hv6 hD6=>⟨_, .inl (SqL.of (gE _ _ hpN)),fun l hl=>?_⟩⟩
    have sl:=zD hl (.lst (ks.map kV))
    have el:=zC (H:=HE) (a:=l) (o:=.lst (ks.map kV))
    generalize upd HE l (.lst (ks.map kV)) = HG at sl el ⊢
    have gNG:=gE.trans sl
    refine ⟨vn,n,rfl,Rep.same gNG _ _ hvn,okn,by omega,fun v6b HI D6b gI hv6b hD6b p6 hp6=>?_⟩
    have s6:=zD hp6 (.lst [v6, .ref l,v6b])
    have e6:=zC (H:=HI) (a:=p6) (o:=.lst [v6, .ref l,v6b])
    generalize upd HI p6 (.lst [v6, .ref l,v6b]) = HK at s6 e6 ⊢
    have gNI:=gNG.trans gI
    have gNK:=gNI.trans s6
    have hv6K : Rep (newH HN HK) v6 t:=Rep.same (wD (sl.trans (gI.trans s6))) _ _ (hv6.new hD6)
    have hkept : Rep (newH HN HK) (.ref p6) (.lst [t, .lst (ks.map kT),n]):=⟨p6,_,rfl,by rw [xC (zN gNI hp6)]; exact e6,v6,_,rfl,hv6K, .ref l,_,rfl,⟨l,_,rfl,by rw [xC (zN gE hl)]; exact s6 _ _ (gI _ _ el),zAt ks⟩,v6b,_,rfl,(hv6b.same s6).new fun b hb=>zN gNG (hD6b b hb),rfl⟩
    have e6N : newH HN HK p6 = some (.lst [v6, .ref l,v6b]):=by rw [xC (zN gNI hp6)]; exact e6
    have facts : Sm 20 (dueOf (chG wd (fun s k=>partT wd s k n) t ks n)) (dueOf (chG wd (fun s k=>partL wd s k n) t ks n)) ∧ (T.okq (dueOf (chG wd (fun s k=>partT wd s k n) t ks n)) ∧ T.fewq (dueOf (chG wd (fun s k=>partT wd s k n) t ks n)) ∧ T.dep (dueOf (chG wd (fun s k=>partT wd s k n) t ks n)) ≤ 16) ∧ (isSub (tyT (dueOf (chG wd (fun s k=>partL wd s k n) t ks n))) "tuple" = true ∨ isSub (tyT (dueOf (chG wd (fun s k=>partL wd s k n) t ks n))) "tuple" = false ∧ T.fewm (45 + i + 1) (dueOf (chG wd (fun s k=>partL wd s k n) t ks n)) ∧ T.dep (dueOf (chG wd (fun s k=>partL wd s k n) t ks n)) ≤ 16 ∧ T.sz (dueOf (chG wd (fun s k=>partL wd s k n) t ks n)) ≤ T.sz t + T.sz n):=by
      rcases zKe (w:=wd) (ks:=ks) hTN.m hf hNq.few hTN.sz hd hdn h8 with ⟨j,h1,h2⟩ | ⟨r,r',h1,h2,h3,⟨a1,a2,a3⟩,b1,b2,b3⟩
      · rw [h1,h2]
        obtain ⟨t1,t2,t3⟩:=zMi j
        exact ⟨Sm.refl 20 _ t1 (by omega),⟨t1,t2,t3⟩, .inl rfl⟩
      · rw [h1,h2]
        have f1 : T.few r:=T.fewm_few (by omega) _ a1
        refine ⟨h3,⟨T.few_okq _ f1,T.few_fewq _ f1,a2⟩, .inr ⟨?_,b1,b2,b3⟩⟩
        show isSub (tyT r') "tuple" = false
        cases r' with
        | tup us=>exact b1.elim
        | _=>rfl
    have hP : ∀ x,chG wd (fun s k=>partT wd s k n) t ks n = x → dueOf (chG wd (fun s k=>partT wd s k n) t ks n) = dueOf x:=fun x e=>by rw [e]
    have hL : ∀ x,chG wd (fun s k=>partL wd s k n) t ks n = x → dueOf (chG wd (fun s k=>partL wd s k n) t ks n) = dueOf x:=fun x e=>by rw [e]
    obtain ⟨hSm,⟨okF,fqF,dpF⟩,hDue⟩:=facts
    have hTK:=hTN.same gNK
    have hvnK:=Rep.same gNK _ _ hvn
    refine ⟨fun σ' H'=>∃ vd,σ' = [some (.ref a),some v,some (.int (0 + (i : Int))),some (.ref p2),some (.str wd.s),some vn,some (.ref p6),some vd,o8] ∧ Same HK H' ∧ Rep (newH HN H') vd (dueOf (chG wd (fun s k=>partL wd s k n) t ks n)), ?_, ?_⟩
    · refine ⟨v,t,wd,p2,ks,vn,n,45 + i,rfl,hTK,hvnK,hNq,fun r hr v' H' g' hv'=>⟨v',rfl,g', ?_⟩,fun j hj p H' g' hp0 hp'=>⟨.ref p,rfl,g', ?_⟩⟩
      · rw [hL _ hr]; exact Rep.same (zGs gNK) _ _ hv'
      · rw [hL _ hj]
        exact zLs (by rw [xC (zN gNK hp0)]; exact hp')
    rintro σ8 HU ⟨vd,rfl,gU,hdueU⟩
    have gNU:=gNK.trans gU
    have hTU:=hTN.same gNU
    generalize hdT : dueOf (chG wd (fun s k=>partL wd s k n) t ks n) = dT at hSm hDue hdueU
    walk_at "rd3"
    refine ⟨fun σ' H'=>∃ vf D8,σ' = [some (.ref a),some v,some (.int (0 + (i : Int))),some (.ref p2),some (.str wd.s),some vn,some (.ref p6),some vd,some vf] ∧ Same HU H' ∧ Sp1 H' vf (dueOf (chG wd (fun s k=>partT wd s k n) t ks n)) D8 ∧ ∀ b ∈ D8,HU b = none, ?_, ?_⟩
    · refine ⟨v,t,wd,p2,ks,vn,n,45 + i,rfl,hTU,Rep.same gNU _ _ hvn,hNq,fun r hr v' H' D g' hv' hD=>⟨v',D,rfl,g', ?_,hD⟩,fun j hj p H' g' hp0 hp'=>⟨.ref p,[p],rfl,g', ?_,fun b hb=>by rw [List.mem_singleton.mp hb]; exact hp0⟩⟩
      · rw [hP _ hr]; exact hv'
      · rw [hP _ hj]; exact zOi hp'
    rintro σ9 HX ⟨vf,D8,rfl,gX,hfnd,hD8⟩
    generalize dueOf (chG wd (fun s k=>partT wd s k n) t ks n) = fT at hSm okF fqF dpF hfnd
    have gNX:=gNU.trans gX
    walk_at "rd3"
    have dueX : ∀ {H'},Same (newH HN HU) H' → Rep H' vd dT:=fun g=>Rep.same g _ _ hdueU
    have keptX : ∀ {H'},Same (newH HN HU) H' → Rep H' (.ref p6) (.lst [t, .lst (ks.map kT),n]):=fun g=>Rep.same ((wD gU).trans g) _ _ hkept
    have v6X : ∀ {H'},Same (newH HN HU) H' → Rep H' v6 t:=fun g=>Rep.same ((wD gU).trans g) _ _ hv6K
    refine zNx (Sp1.rep _ _ _ hfnd) (dueX ((qC _ _).trans gX)) hSm fun HY gY=>⟨true,rfl,iN (by decide) fun pO hpO=>?_⟩
    have gXY:=gX.trans gY
    have sO:=zD hpO (.lst [v, .ref p2,vn])
    have eO:=zC (H:=HY) (a:=pO) (o:=.lst [v, .ref p2,vn])
    generalize upd HY pO (.lst [v, .ref p2,vn]) = HZ at sO eO ⊢
    have gUZ:=gXY.trans sO
    have gNZ:=gNU.trans gUZ
    obtain ⟨kq1,kq2⟩:=zLd h8
    have okK3 : T.okq (.lst [t, .lst (ks.map kT),n]) ∧ T.dep (.lst [t, .lst (ks.map kT),n]) < 20:=by
      refine ⟨⟨(show 3 ≤ 200000 by decide),okt,kq1,okn,True.intro⟩, ?_⟩
      show max (T.dep t) (max (T.dep (.lst (ks.map kT))) (max (T.dep n) 0)) + 1 < 20
      omega
    refine zNx (t:=.lst [t, .lst (ks.map kT),n]) (t':=.lst [t, .lst (ks.map kT),n]) ⟨pO,_,rfl,eO,v,_,rfl,Rep.same gNZ _ _ hvN, .ref p2,_,rfl,⟨p2,_,rfl,gNZ _ _ hpN,zAt ks⟩,vn,_,rfl,Rep.same gNZ _ _ hvn,rfl⟩ (keptX ((qC _ _).trans gUZ)) (Sm.refl 20 _ okK3.1 okK3.2) fun HO' gO=>⟨true,rfl,iN (by decide) fun pS hpS=>?_⟩
    have gUO:=gUZ.trans gO
    have gNO:=gNU.trans gUO
    have gXO:=gY.trans (sO.trans gO)
    have hpSN:=zN gNO hpS
    have sS:=zD hpS (.lst [v,vn])
    have eS:=zC (H:=HO') (a:=pS) (o:=.lst [v,vn])
    generalize upd HO' pS (.lst [v,vn]) = HW at sS eS ⊢
    have sD:=zD hpSN (.lst [v,vn])
    have eD:=zC (H:=HN) (a:=pS) (o:=.lst [v,vn])
    have hDn : ∀ b,HN b = none → b ≠ pS → upd HN pS (.lst [v,vn]) b = none:=fun b h1 h2=>by rw [zM h2]; exact h1
    have gDW : Same (upd HN pS (.lst [v,vn])) HW:=fun b o e=>by
      by_cases hb : b = pS
      · subst hb; rw [zC] at e; rw [eS]; exact e
      · rw [zM hb] at e; exact sS _ _ (gNO _ _ e)
    have hFD':=hFN.same sD
    have hRD : Rep (upd HN pS (.lst [v,vn])) (.ref pS) (.lst [t,n]):=⟨pS,_,rfl,eD,v,_,rfl,Rep.same sD _ _ hvN,vn,_,rfl,Rep.same sD _ _ hvn,rfl⟩
    generalize upd HN pS (.lst [v,vn]) = HD' at sD eD hDn gDW hFD' hRD
    have few2 : T.few (.lst [t,n]):=⟨(show 2 ≤ 100000 by decide),hfew,T.fewm_few (by decide) _ hfn,True.intro⟩
    have sz2 : T.sz (.lst [t,n]) ≤ 2700:=by
      show T.sz t + (T.sz n + 0) + 1 ≤ 2700
      omega
    have cn2:=T.cn_sz (.lst [t,n])
    refine ⟨.ref pS, .lst [t,n],HD',0,rfl,hRD,Mx.of gDW,few2,sz2,by omega,fun HV mV yV=>?_⟩
    have hUW:=gUO.trans sS
    have out : Same (newH HN HU) HV:=yV.out (fun b o e=>hUW _ _ (qC _ _ _ _ e)) fun b o e=>hDn b (gM e) fun z=>by
      have:=gUO _ _ (qC _ _ _ _ e)
      rw [z,hpS] at this; cases this
    have hFV:=hFD'.mx mV
    have hfV : Sp1 HV vf fT D8:=Sp1.keep _ _ _ (fun b hb o _ e=>yV.keep b o (hDn b (zN gNU (hD8 b hb)) fun z=>by
      obtain ⟨o',ho'⟩:=Sp1.there _ _ _ hfnd hb
      have:=gXO _ _ ho'
      rw [z,hpS] at this; cases this) (sS _ _ (gXO _ _ e))) hfnd
    refine zNx (Sp1.rep _ _ _ hfV) (dueX out) hSm fun H10 g10=>⟨true,rfl,iN (by decide) fun pW hpW=>?_⟩
    have sW:=zD hpW (.lst [vf])
    have hpWD : pW ∉ D8:=fun z=>by
      obtain ⟨o,ho⟩:=Sp1.there _ _ _ (hfV.same g10) z
      rw [hpW] at ho; cases ho
    have hFW:=(hFV.same g10).same sW
    have outW:=out.trans (g10.trans sW)
    refine ⟨.ref pW, .lst [fT],pW :: D8,rfl,⟨pW,[vf],D8,rfl,zC,rfl,hpWD,vf,[],D8,[],rfl,(List.append_nil _).symm,hfV.same (g10.trans sW),⟨rfl,rfl⟩,fun _ _ z=>nomatch z⟩,⟨(show 1 ≤ 100000 by decide),fqF,True.intro⟩,⟨(show 1 ≤ 200000 by decide),okF,True.intro⟩,(show max (T.dep fT) 0 + 1 < 20 by omega),fun H11 k11=>⟨true,rfl,iN (by decide) ?_⟩⟩
    have fin : Same (newH HN HU) H11:=fun b o e=>k11 b o (fun z=>by
      rcases List.mem_cons.mp z with z | z
      · have:=(out.trans g10) _ _ e
        rw [z,hpW] at this; cases this
      · have:=qC _ _ _ _ e
        rw [hD8 b z] at this; cases this) (outW _ _ e)
    have hF11 : FzS K H11 a (ns.map V.int):=by
      have hFU:=hFN.same gNU
      rcases hFW with ⟨o,h⟩ | h
      · rcases hFU with ⟨oU,hU⟩ | hU
        · refine .inl ⟨o,k11 a _ (fun z=>?_) h⟩
          rcases List.mem_cons.mp z with z | z
          · rcases (hFV.same g10) with ⟨o',h'⟩ | h'
            · rw [z,hpW] at h'; cases h'
            · rcases hFV.same g10 with ⟨o',h''⟩ | _
              · rw [z,hpW] at h''; cases h''
              · rw [← z] at hpW
                exact absurd hU (by
                  intro hU
                  have hm:=hFD'
                  rcases hm with ⟨o2,h2⟩ | _
                  · obtain ⟨o3,h3,_⟩:=mV a _ h2
                    have:=g10 _ _ h3
                    rw [hpW] at this; cases this
                  · exact absurd hU (fun _=>by
                      have h4 : HW a = some (.frz oU (.lst (ns.map V.int))):=hUW _ _ hU
                      have h5:=yV.keep a _ (by
                        cases hq : HD' a with
                        | none=>rfl
                        | some o6 =>
                          obtain ⟨o7,h7,_⟩:=mV a _ hq
                          have:=g10 _ _ h7
                          rw [hpW] at this; cases this) h4
                      have:=g10 _ _ h5
                      rw [hpW] at this; cases this))
          · rw [hD8 a z] at hU; cases hU
        · exact .inr hU
      · exact .inr h
    refine yG (SqL.of (((wD gU).trans fin) _ _ e6N)) (yU (j:=0) rfl) ⟨_,(dueX fin).ty, ?_⟩
    rcases hDue with h | ⟨h,b1,b2,b3⟩
    · exact iN (by rw [h]; decide) ⟨v6,⟨rfl,_,rfl⟩,hF11,t,v6X fin,T.fewm_mono (by omega) _ hf,hd,by omega⟩
    · exact iP h ⟨vd,⟨rfl,_,rfl⟩,hF11,dT,dueX fin,b1,b2,by omega⟩
  · rintro σ' H' ⟨v,t,o2,o3,o4,o5,o6,o7,o8,rfl,_⟩
    walk_at "rd3"
    exact q _
end
end K37
namespace K37
open PySem L2 PySem.W
section
variable {K : Frag} {dT : Addr} {kV doc pm cdv ct : Value} {an : Option Addr}
theorem biCa {o : Obj} {i0 : Value} {n : Nat} (hd : K.lookup dT = some o) (hs : o.data = .seq #[i0] n) : Binds K (fnOf "changed_at" "changed_at" (defArgs sCa) (defBody sCa) (defScope sCa) (.ref dT) kV doc pm an cdv ct) ["thing","word","path","new"] [] ∧ Binds K (fnOf "changed_at" "changed_at" (defArgs sCa) (defBody sCa) (defScope sCa) (.ref dT) kV doc pm an cdv ct) ["thing","word","path","new"] [i0]:=by
  refine ⟨fun s us hK hl=>?_,fun s us hK hl=>?_⟩
  · rw [List.append_nil] at hl ⊢
    match us,(show us.length = 4 from hl) with
    | [a,b,c,d],_=>exact binds_K hK rfl hd hs rfl rfl
  · match us,(show us.length = 3 by simpa using hl) with
    | [a,b,c],_=>exact binds_K hK rfl hd hs rfl rfl
theorem biCs {o : Obj} {i0 : Value} {n : Nat} (hd : K.lookup dT = some o) (hs : o.data = .seq #[i0] n) : Binds K (fnOf "change_shared" "change_shared" (defArgs sCs) (defBody sCs) (defScope sCs) (.ref dT) kV doc pm an cdv ct) ["thing","word","path","new"] []:=by
  refine fun s us hK hl=>?_
  rw [List.append_nil] at hl ⊢
  match us,(show us.length = 4 from hl) with
  | [a,b,c,d],_=>exact binds_K hK rfl hd hs rfl rfl
end
end K37
namespace K37
open PySem L2 PySem.W
theorem jW {α : Type} {us : List α} (h : us.length = 1) : ∃ a,us = [a] :=
  match us,h with
  | [a],_=>⟨a,rfl⟩
theorem jZ {α : Type} {us : List α} (h : us.length = 2) : ∃ a b,us = [a,b] :=
  match us,h with
  | [a,b],_=>⟨a,b,rfl⟩
theorem zNc {α : Type} {us : List α} (h : us.length = 3) : ∃ a b c,us = [a,b,c] :=
  match us,h with
  | [a,b,c],_=>⟨a,b,c,rfl⟩
theorem zJu {α : Type} {us : List α} (h : us.length = 4) : ∃ a b c d,us = [a,b,c,d] :=
  match us,h with
  | [a,b,c,d],_=>⟨a,b,c,d,rfl⟩
theorem all_mk {l : OpenLaw} {w : World} {K : Frag} {h : Heap} {mg : Str → Option Value} {fa f0 f1 f2 f3 f4 f5 f6 f7 f8 f9 f10 f11 f12 f13 f14 f15 f16 f17 f18 f19 f20 f21 f22 f23 f24 f25 f26 f27 f28 f29 f30 f31 f32 f33 f34 : Addr} (X : K.In h) (G : h.Ns mainGlobals mg) (hfa : mg "law" = some (.ref fa))
    {od0 an0 : Option Addr} {sl0 : Array (Option Value)} {oc0 kV0 dc0 pm0 cd0 ct0 : Value}
    {od1 an1 : Option Addr} {sl1 : Array (Option Value)} {oc1 kV1 dc1 pm1 cd1 ct1 : Value}
    {od2 an2 : Option Addr} {sl2 : Array (Option Value)} {oc2 kV2 dc2 pm2 cd2 ct2 : Value}
    {od3 an3 : Option Addr} {sl3 : Array (Option Value)} {oc3 kV3 dc3 pm3 cd3 ct3 : Value}
    {od4 an4 : Option Addr} {sl4 : Array (Option Value)} {oc4 kV4 dc4 pm4 cd4 ct4 : Value}
    {od5 an5 : Option Addr} {sl5 : Array (Option Value)} {oc5 kV5 dc5 pm5 cd5 ct5 : Value}
    {od6 an6 : Option Addr} {sl6 : Array (Option Value)} {oc6 kV6 dc6 pm6 cd6 ct6 : Value}
    {od7 an7 : Option Addr} {sl7 : Array (Option Value)} {oc7 kV7 dc7 pm7 cd7 ct7 : Value}
    {od8 an8 : Option Addr} {sl8 : Array (Option Value)} {oc8 kV8 dc8 pm8 cd8 ct8 : Value}
    {od9 an9 : Option Addr} {sl9 : Array (Option Value)} {oc9 kV9 dc9 pm9 cd9 ct9 : Value}
    {od10 an10 : Option Addr} {sl10 : Array (Option Value)} {oc10 kV10 dc10 pm10 cd10 ct10 : Value}
    {od11 an11 : Option Addr} {sl11 : Array (Option Value)} {oc11 kV11 dc11 pm11 cd11 ct11 : Value}
    {od12 an12 : Option Addr} {sl12 : Array (Option Value)} {oc12 kV12 dc12 pm12 cd12 ct12 : Value}
    {od13 an13 : Option Addr} {sl13 : Array (Option Value)} {oc13 kV13 dc13 pm13 cd13 ct13 : Value}
    {od14 an14 : Option Addr} {sl14 : Array (Option Value)} {oc14 kV14 dc14 pm14 cd14 ct14 : Value}
    {od15 an15 : Option Addr} {sl15 : Array (Option Value)} {oc15 kV15 dc15 pm15 cd15 ct15 : Value}
    {od16 an16 : Option Addr} {sl16 : Array (Option Value)} {oc16 kV16 dc16 pm16 cd16 ct16 : Value}
    {od17 an17 : Option Addr} {sl17 : Array (Option Value)} {oc17 kV17 dc17 pm17 cd17 ct17 : Value}
    {od18 an18 : Option Addr} {sl18 : Array (Option Value)} {oc18 kV18 dc18 pm18 cd18 ct18 : Value}
    {od19 an19 : Option Addr} {sl19 : Array (Option Value)} {oc19 kV19 dc19 pm19 cd19 ct19 : Value}
    {od20 an20 : Option Addr} {sl20 : Array (Option Value)} {oc20 kV20 dc20 pm20 cd20 ct20 : Value}
    {od21 an21 : Option Addr} {sl21 : Array (Option Value)} {oc21 kV21 dc21 pm21 cd21 ct21 : Value}
    {od22 an22 : Option Addr} {sl22 : Array (Option Value)} {oc22 kV22 dc22 pm22 cd22 ct22 : Value}
    {od23 an23 : Option Addr} {sl23 : Array (Option Value)} {oc23 kV23 dc23 pm23 cd23 ct23 : Value}
    {od24 an24 : Option Addr} {sl24 : Array (Option Value)} {oc24 kV24 dc24 pm24 cd24 ct24 : Value}
    {od25 an25 : Option Addr} {sl25 : Array (Option Value)} {oc25 kV25 dc25 pm25 cd25 ct25 : Value}
    {od26 an26 : Option Addr} {sl26 : Array (Option Value)} {oc26 kV26 dc26 pm26 cd26 ct26 : Value}
    {od27 an27 : Option Addr} {sl27 : Array (Option Value)} {oc27 kV27 dc27 pm27 cd27 ct27 : Value}
    {od28 an28 : Option Addr} {sl28 : Array (Option Value)} {oc28 kV28 dc28 pm28 cd28 ct28 : Value}
    {od29 an29 : Option Addr} {sl29 : Array (Option Value)} {oc29 kV29 dc29 pm29 cd29 ct29 : Value}
    {od30 an30 : Option Addr} {sl30 : Array (Option Value)} {oc30 kV30 dc30 pm30 cd30 ct30 : Value}
    {od31 an31 : Option Addr} {sl31 : Array (Option Value)} {oc31 kV31 dc31 pm31 cd31 ct31 : Value}
    {od32 an32 : Option Addr} {sl32 : Array (Option Value)} {oc32 kV32 dc32 pm32 cd32 ct32 : Value}
    {od33 an33 : Option Addr} {sl33 : Array (Option Value)} {oc33 kV33 dc33 pm33 cd33 ct33 : Value}
    {od34 an34 : Option Addr} {sl34 : Array (Option Value)} {oc34 kV34 dc34 pm34 cd34 ct34 : Value}
    {v0 : Tok}
    {x0c x1c x2c x3c x4c x5c x6c x7c x8c x9c x10c x11c x12c x13c x14c x15c x16c x17c xB xN xF xD : Addr} {xq : Str} {xbs : List Value} {xsn : List Str} {xsub : List Value} {xab : Bool} {xcol : Option Bool} {xdd : Option Addr} {xk0 xk1 xk2 xk3 xk5 : Option Value} {xod xan : Option Addr} {xsl : Array (Option Value)} {xoc xkV xdc xpm xcd xct : Value} {xdo : Option Addr} {xdc' xdv : Value} {xdn : Nat} {xds : Array (Option Value)} {gF gD : Addr} {goc gkV gdc gpm gcd gct gtc : Value} {god gan gto : Option Addr} {gsl gts : Array (Option Value)} {gtn : Nat} {hF hD : Addr} {hoc hkV hdc hpm hcd hct htc : Value} {hod han hto : Option Addr} {hsl hts : Array (Option Value)} {htn : Nat}
    (a0 : nsIn K mainGlobals "kind_of" = some (some (.ref f0)))
    (l0 : K.lookup f0 = some ⟨oc0,od0, .func (fnOf "kind_of" "kind_of" (defArgs sKindOf) (defBody sKindOf) (defScope sKindOf) .none kV0 dc0 pm0 an0 cd0 ct0),sl0⟩)
    (c0 : codeIn K cd0 "kind_of" = true)
    (k0 : keepIn K (.ref f0) = true)
    (a1 : nsIn K mainGlobals "copied" = some (some (.ref f1)))
    (l1 : K.lookup f1 = some ⟨oc1,od1, .func (fnOf "copied" "copied" (defArgs sCp) (defBody sCp) (defScope sCp) .none kV1 dc1 pm1 an1 cd1 ct1),sl1⟩)
    (c1 : codeIn K cd1 "copied" = true)
    (k1 : keepIn K (.ref f1) = true)
    (a2 : nsIn K mainGlobals "is_place" = some (some (.ref f2)))
    (l2 : K.lookup f2 = some ⟨oc2,od2, .func (fnOf "is_place" "is_place" (defArgs sPlace) (defBody sPlace) (defScope sPlace) .none kV2 dc2 pm2 an2 cd2 ct2),sl2⟩)
    (c2 : codeIn K cd2 "is_place" = true)
    (k2 : keepIn K (.ref f2) = true)
    (a3 : nsIn K mainGlobals "leads_on" = some (some (.ref f3)))
    (l3 : K.lookup f3 = some ⟨oc3,od3, .func (fnOf "leads_on" "leads_on" (defArgs sLo) (defBody sLo) (defScope sLo) .none kV3 dc3 pm3 an3 cd3 ct3),sl3⟩)
    (c3 : codeIn K cd3 "leads_on" = true)
    (k3 : keepIn K (.ref f3) = true)
    (a4 : nsIn K mainGlobals "whole_changed" = some (some (.ref f4)))
    (l4 : K.lookup f4 = some ⟨oc4,od4, .func (fnOf "whole_changed" "whole_changed" (defArgs sWc) (defBody sWc) (defScope sWc) .none kV4 dc4 pm4 an4 cd4 ct4),sl4⟩)
    (c4 : codeIn K cd4 "whole_changed" = true)
    (k4 : keepIn K (.ref f4) = true)
    (a5 : nsIn K mainGlobals "stops_to_last" = some (some (.ref f5)))
    (l5 : K.lookup f5 = some ⟨oc5,od5, .func (fnOf "stops_to_last" "stops_to_last" (defArgs sSl) (defBody sSl) (defScope sSl) .none kV5 dc5 pm5 an5 cd5 ct5),sl5⟩)
    (c5 : codeIn K cd5 "stops_to_last" = true)
    (k5 : keepIn K (.ref f5) = true)
    (a6 : nsIn K mainGlobals "leads_within" = some (some (.ref f6)))
    (l6 : K.lookup f6 = some ⟨oc6,od6, .func (fnOf "leads_within" "leads_within" (defArgs sLw) (defBody sLw) (defScope sLw) .none kV6 dc6 pm6 an6 cd6 ct6),sl6⟩)
    (c6 : codeIn K cd6 "leads_within" = true)
    (k6 : keepIn K (.ref f6) = true)
    (a7 : nsIn K mainGlobals "can_change" = some (some (.ref f7)))
    (l7 : K.lookup f7 = some ⟨oc7,od7, .func (fnOf "can_change" "can_change" (defArgs sCc) (defBody sCc) (defScope sCc) .none kV7 dc7 pm7 an7 cd7 ct7),sl7⟩)
    (c7 : codeIn K cd7 "can_change" = true)
    (k7 : keepIn K (.ref f7) = true)
    (a8 : nsIn K mainGlobals "part_changed" = some (some (.ref f8)))
    (l8 : K.lookup f8 = some ⟨oc8,od8, .func (fnOf "part_changed" "part_changed" (defArgs sPart) (defBody sPart) (defScope sPart) .none kV8 dc8 pm8 an8 cd8 ct8),sl8⟩)
    (c8 : codeIn K cd8 "part_changed" = true)
    (k8 : keepIn K (.ref f8) = true)
    (a9 : nsIn K mainGlobals "record_changed" = some (some (.ref f9)))
    (l9 : K.lookup f9 = some ⟨oc9,od9, .func (fnOf "record_changed" "record_changed" (defArgs sRec) (defBody sRec) (defScope sRec) .none kV9 dc9 pm9 an9 cd9 ct9),sl9⟩)
    (c9 : codeIn K cd9 "record_changed" = true)
    (k9 : keepIn K (.ref f9) = true)
    (a10 : nsIn K mainGlobals "row_changed" = some (some (.ref f10)))
    (l10 : K.lookup f10 = some ⟨oc10,od10, .func (fnOf "row_changed" "row_changed" (defArgs sRow) (defBody sRow) (defScope sRow) .none kV10 dc10 pm10 an10 cd10 ct10),sl10⟩)
    (c10 : codeIn K cd10 "row_changed" = true)
    (k10 : keepIn K (.ref f10) = true)
    (a11 : nsIn K mainGlobals "_law_cell" = some (some (.ref f11)))
    (l11 : K.lookup f11 = some ⟨oc11,od11, .func (fnOf "_law_cell" "_law_cell" (defArgs sCell) (defBody sCell) (defScope sCell) .none kV11 dc11 pm11 an11 cd11 ct11),sl11⟩)
    (c11 : codeIn K cd11 "_law_cell" = true)
    (k11 : keepIn K (.ref f11) = true)
    (a12 : nsIn K mainGlobals "_law_name_by" = some (some (.ref f12)))
    (l12 : K.lookup f12 = some ⟨oc12,od12, .func (fnOf "_law_name_by" "_law_name_by" (defArgs sName) (defBody sName) (defScope sName) .none kV12 dc12 pm12 an12 cd12 ct12),sl12⟩)
    (c12 : codeIn K cd12 "_law_name_by" = true)
    (k12 : keepIn K (.ref f12) = true)
    (a13 : nsIn K mainGlobals "_law_signs" = some (some (.ref f13)))
    (l13 : K.lookup f13 = some ⟨oc13,od13, .func (fnOf "_law_signs" "_law_signs" (defArgs sSigns) (defBody sSigns) (defScope sSigns) .none kV13 dc13 pm13 an13 cd13 ct13),sl13⟩)
    (c13 : codeIn K cd13 "_law_signs" = true)
    (k13 : keepIn K (.ref f13) = true)
    (a14 : nsIn K mainGlobals "_law_text_by" = some (some (.ref f14)))
    (l14 : K.lookup f14 = some ⟨oc14,od14, .func (fnOf "_law_text_by" "_law_text_by" (defArgs sText) (defBody sText) (defScope sText) .none kV14 dc14 pm14 an14 cd14 ct14),sl14⟩)
    (c14 : codeIn K cd14 "_law_text_by" = true)
    (k14 : keepIn K (.ref f14) = true)
    (a15 : nsIn K mainGlobals "_law_number_by" = some (some (.ref f15)))
    (l15 : K.lookup f15 = some ⟨oc15,od15, .func (fnOf "_law_number_by" "_law_number_by" (defArgs sNum) (defBody sNum) (defScope sNum) .none kV15 dc15 pm15 an15 cd15 ct15),sl15⟩)
    (c15 : codeIn K cd15 "_law_number_by" = true)
    (k15 : keepIn K (.ref f15) = true)
    (a16 : nsIn K mainGlobals "_law_thing_by" = some (some (.ref f16)))
    (l16 : K.lookup f16 = some ⟨oc16,od16, .func (fnOf "_law_thing_by" "_law_thing_by" (defArgs sThing) (defBody sThing) (defScope sThing) .none kV16 dc16 pm16 an16 cd16 ct16),sl16⟩)
    (c16 : codeIn K cd16 "_law_thing_by" = true)
    (k16 : keepIn K (.ref f16) = true)
    (a17 : nsIn K mainGlobals "_law_deep" = some (some (.ref f17)))
    (l17 : K.lookup f17 = some ⟨oc17,od17, .func (fnOf "_law_deep" "_law_deep" (defArgs sDeep) (defBody sDeep) (defScope sDeep) .none kV17 dc17 pm17 an17 cd17 ct17),sl17⟩)
    (c17 : codeIn K cd17 "_law_deep" = true)
    (k17 : keepIn K (.ref f17) = true)
    (a18 : nsIn K mainGlobals "_law_wide" = some (some (.ref f18)))
    (l18 : K.lookup f18 = some ⟨oc18,od18, .func (fnOf "_law_wide" "_law_wide" (defArgs sWide) (defBody sWide) (defScope sWide) .none kV18 dc18 pm18 an18 cd18 ct18),sl18⟩)
    (c18 : codeIn K cd18 "_law_wide" = true)
    (k18 : keepIn K (.ref f18) = true)
    (a19 : nsIn K mainGlobals "_law_any" = some (some (.ref f19)))
    (l19 : K.lookup f19 = some ⟨oc19,od19, .func (fnOf "_law_any" "_law_any" (defArgs sAny) (defBody sAny) (defScope sAny) .none kV19 dc19 pm19 an19 cd19 ct19),sl19⟩)
    (c19 : codeIn K cd19 "_law_any" = true)
    (k19 : keepIn K (.ref f19) = true)
    (a20 : nsIn K mainGlobals "_law_steps" = some (some (.ref f20)))
    (l20 : K.lookup f20 = some ⟨oc20,od20, .func (fnOf "_law_steps" "_law_steps" (defArgs sSs) (defBody sSs) (defScope sSs) .none kV20 dc20 pm20 an20 cd20 ct20),sl20⟩)
    (c20 : codeIn K cd20 "_law_steps" = true)
    (k20 : keepIn K (.ref f20) = true)
    (a21 : nsIn K mainGlobals "_law_step_by" = some (some (.ref f21)))
    (l21 : K.lookup f21 = some ⟨oc21,od21, .func (fnOf "_law_step_by" "_law_step_by" (defArgs sSb) (defBody sSb) (defScope sSb) .none kV21 dc21 pm21 an21 cd21 ct21),sl21⟩)
    (c21 : codeIn K cd21 "_law_step_by" = true)
    (k21 : keepIn K (.ref f21) = true)
    (a22 : nsIn K mainGlobals "_law_path" = some (some (.ref f22)))
    (l22 : K.lookup f22 = some ⟨oc22,od22, .func (fnOf "_law_path" "_law_path" (defArgs sPa) (defBody sPa) (defScope sPa) .none kV22 dc22 pm22 an22 cd22 ct22),sl22⟩)
    (c22 : codeIn K cd22 "_law_path" = true)
    (k22 : keepIn K (.ref f22) = true)
    (a23 : nsIn K mainGlobals "_law_leads" = some (some (.ref f23)))
    (l23 : K.lookup f23 = some ⟨oc23,od23, .func (fnOf "_law_leads" "_law_leads" (defArgs sLl) (defBody sLl) (defScope sLl) .none kV23 dc23 pm23 an23 cd23 ct23),sl23⟩)
    (c23 : codeIn K cd23 "_law_leads" = true)
    (k23 : keepIn K (.ref f23) = true)
    (a24 : nsIn K mainGlobals "_law_gone" = some (some (.ref f24)))
    (l24 : K.lookup f24 = some ⟨oc24,od24, .func (fnOf "_law_gone" "_law_gone" (defArgs sGn) (defBody sGn) (defScope sGn) .none kV24 dc24 pm24 an24 cd24 ct24),sl24⟩)
    (c24 : codeIn K cd24 "_law_gone" = true)
    (k24 : keepIn K (.ref f24) = true)
    (a25 : nsIn K mainGlobals "_law_alike" = some (some (.ref f25)))
    (l25 : K.lookup f25 = some ⟨oc25,od25, .func (fnOf "_law_alike" "_law_alike" (defArgs sAlike) (defBody sAlike) (defScope sAlike) .none kV25 dc25 pm25 an25 cd25 ct25),sl25⟩)
    (c25 : codeIn K cd25 "_law_alike" = true)
    (k25 : keepIn K (.ref f25) = true)
    (a26 : nsIn K mainGlobals "_law_copy" = some (some (.ref f26)))
    (l26 : K.lookup f26 = some ⟨oc26,od26, .func (fnOf "_law_copy" "_law_copy" (defArgs sCo) (defBody sCo) (defScope sCo) .none kV26 dc26 pm26 an26 cd26 ct26),sl26⟩)
    (c26 : codeIn K cd26 "_law_copy" = true)
    (k26 : keepIn K (.ref f26) = true)
    (a27 : nsIn K mainGlobals "_law_spoil" = some (some (.ref f27)))
    (l27 : K.lookup f27 = some ⟨oc27,od27, .func (fnOf "_law_spoil" "_law_spoil" (defArgs sSpo) (defBody sSpo) (defScope sSpo) .none kV27 dc27 pm27 an27 cd27 ct27),sl27⟩)
    (c27 : codeIn K cd27 "_law_spoil" = true)
    (k27 : keepIn K (.ref f27) = true)
    (a28 : nsIn K mainGlobals "_law_marked" = some (some (.ref f28)))
    (l28 : K.lookup f28 = some ⟨oc28,od28, .func (fnOf "_law_marked" "_law_marked" (defArgs sMk) (defBody sMk) (defScope sMk) .none kV28 dc28 pm28 an28 cd28 ct28),sl28⟩)
    (c28 : codeIn K cd28 "_law_marked" = true)
    (k28 : keepIn K (.ref f28) = true)
    (a29 : nsIn K mainGlobals "_law_own" = some (some (.ref f29)))
    (l29 : K.lookup f29 = some ⟨oc29,od29, .func (fnOf "_law_own" "_law_own" (defArgs sOwn) (defBody sOwn) (defScope sOwn) .none kV29 dc29 pm29 an29 cd29 ct29),sl29⟩)
    (c29 : codeIn K cd29 "_law_own" = true)
    (k29 : keepIn K (.ref f29) = true)
    (a30 : nsIn K mainGlobals "_law_word" = some (some (.ref f30)))
    (l30 : K.lookup f30 = some ⟨oc30,od30, .func (fnOf "_law_word" "_law_word" (defArgs sWord) (defBody sWord) (defScope sWord) .none kV30 dc30 pm30 an30 cd30 ct30),sl30⟩)
    (c30 : codeIn K cd30 "_law_word" = true)
    (k30 : keepIn K (.ref f30) = true)
    (a31 : nsIn K mainGlobals "_law_rebuilt" = some (some (.ref f31)))
    (l31 : K.lookup f31 = some ⟨oc31,od31, .func (fnOf "_law_rebuilt" "_law_rebuilt" (defArgs sRb) (defBody sRb) (defScope sRb) .none kV31 dc31 pm31 an31 cd31 ct31),sl31⟩)
    (c31 : codeIn K cd31 "_law_rebuilt" = true)
    (k31 : keepIn K (.ref f31) = true)
    (a32 : nsIn K mainGlobals "_law_beyond" = some (some (.ref f32)))
    (l32 : K.lookup f32 = some ⟨oc32,od32, .func (fnOf "_law_beyond" "_law_beyond" (defArgs sBe) (defBody sBe) (defScope sBe) .none kV32 dc32 pm32 an32 cd32 ct32),sl32⟩)
    (c32 : codeIn K cd32 "_law_beyond" = true)
    (k32 : keepIn K (.ref f32) = true)
    (a33 : nsIn K mainGlobals "_law_told" = some (some (.ref f33)))
    (l33 : K.lookup f33 = some ⟨oc33,od33, .func (fnOf "_law_told" "_law_told" (defArgs sTo) (defBody sTo) (defScope sTo) .none kV33 dc33 pm33 an33 cd33 ct33),sl33⟩)
    (c33 : codeIn K cd33 "_law_told" = true)
    (k33 : keepIn K (.ref f33) = true)
    (a34 : nsIn K mainGlobals "law" = some (some (.ref f34)))
    (l34 : K.lookup f34 = some ⟨oc34,od34, .func (fnOf "law" "law" (defArgs sLaw) (defBody sLaw) (defScope sLaw) .none kV34 dc34 pm34 an34 cd34 ct34),sl34⟩)
    (c34 : codeIn K cd34 "law" = true)
    (k34 : keepIn K (.ref f34) = true)
    (z0 : nsIn K mainGlobals "len" = some none)
    (z1 : nsIn K mainGlobals "range" = some none)
    (z2 : nsIn K mainGlobals "isinstance" = some none)
    (z3 : nsIn K mainGlobals "all" = some none)
    (z4 : nsIn K mainGlobals "sum" = some none)
    (z5 : nsIn K mainGlobals "int" = some none)
    (z6 : nsIn K mainGlobals "str" = some none)
    (z7 : nsIn K mainGlobals "bool" = some none)
    (z8 : nsIn K mainGlobals "list" = some none)
    (z9 : nsIn K mainGlobals "dict" = some none)
    (z10 : nsIn K mainGlobals "tuple" = some none)
    (y0 : nsIn K mainGlobals "max" = some none)
    (y1 : nsIn K mainGlobals "min" = some none)
    (y2 : nsIn K mainGlobals "sorted" = some none)
    (n0 : nsIn K mainGlobals "MOST_IN_ROW" = some (some (.int 60 v0)))
    (xa0 : nsIn K mainGlobals "BadPath" = some (some (.ref x0c)))
    (xa1 : nsIn K mainGlobals "NoPlace" = some (some (.ref x1c)))
    (xa2 : nsIn K mainGlobals "TooGreat" = some (some (.ref x2c)))
    (xa3 : nsIn K mainGlobals "NoneFits" = some (some (.ref x3c)))
    (xa4 : nsIn K mainGlobals "BadText" = some (some (.ref x4c)))
    (xa5 : nsIn K mainGlobals "NoDeed" = some (some (.ref x5c)))
    (xa6 : nsIn K mainGlobals "CantMove" = some (some (.ref x6c)))
    (xa7 : nsIn K mainGlobals "NoBack" = some (some (.ref x7c)))
    (xa8 : nsIn K mainGlobals "NoVersion" = some (some (.ref x8c)))
    (xa9 : nsIn K mainGlobals "NoFit" = some (some (.ref x9c)))
    (xa10 : nsIn K mainGlobals "Stuck" = some (some (.ref x10c)))
    (xa11 : nsIn K mainGlobals "BadQuestion" = some (some (.ref x11c)))
    (xa12 : nsIn K mainGlobals "NoKey" = some (some (.ref x12c)))
    (xa13 : nsIn K mainGlobals "IsKept" = some (some (.ref x13c)))
    (xa14 : nsIn K mainGlobals "NotKept" = some (some (.ref x14c)))
    (xa15 : nsIn K mainGlobals "NoWayBack" = some (some (.ref x15c)))
    (xa16 : nsIn K mainGlobals "NoStore" = some (some (.ref x16c)))
    (xa17 : nsIn K mainGlobals "BadRow" = some (some (.ref x17c)))
    (xaB : nsIn K mainGlobals "CabinetError" = some (some (.ref xB)))
    (xb0 : K.lookup x1c = some (excClassObj "NoPlace" xq x1c xN xbs (.ref xB :: veMro) true xsn xsub xab xcol xdd xk0 xk1 xk2 xk3 xk5 "ValueError.__new__"))
    (xb1 : tailIn K veMro (.ref xB :: veMro) = true)
    (xb2 : findIn K (.ref x1c) "__init__" = some (some (.ref xF)))
    (xb3 : typeIn K (.ref xF) = some (.type "function"))
    (xb4 : findIn K (.ref x1c) "__setattr__" = some (some (.builtin "object.__setattr__")))
    (xb5 : findIn K (.ref x1c) "at" = some none)
    (xb6 : keepIn K (.ref x1c) = true)
    (xc0 : specialIn K (.ref xB) "__getattribute__" = some (some (.builtin "type.__getattribute__")))
    (xc1 : readsIn K xB (.type "type") = true)
    (xc2 : findCls K (.ref xB) (.type "type") "__init__" = some (.val (.builtin "ValueError.__init__")))
    (xd0 : K.lookup xF = some ⟨xoc,xod, .func (fnOf "__init__" "NoPlace.__init__" (defArgs sNInit) (defBody sNInit) (defScope sNInit) (.ref xD) xkV xdc xpm xan xcd xct),xsl⟩)
    (xd1 : codeIn K xcd "NoPlace.__init__" = true)
    (xd2 : K.lookup xD = some ⟨xdc',xdo, .seq #[xdv] xdn,xds⟩)
    (xe0 : findIn K (.ref x1c) "__getattribute__" = some (some (.builtin "BaseException.__getattribute__")))
    (xe1 : findIn K (.ref x1c) "__getattr__" = some none)
    (xe2 : mroIn K x1c (.type "BaseException") = some true)
    (xe3 : mroIn K x1c (.type "object") = some true)
    (xe4 : hasDictIn K x1c = true)
    (xe5 : findIn K (.ref x1c) "__class__" = some (some (.builtin "object.__class__")))
    (xe6 : specialIn K (.builtin "object.__class__") "__get__" = some (some (.builtin "getset_descriptor.__get__")))
    (xe7 : takesIn K (.builtin "object.__class__") = some true)
    (xf0 : exmOne K (.ref x1c) (.ref xB) = some true)
    (xg0 : kitOne K (.ref x1c) (.ref x0c) = some false)
    (xg1 : kitOne K (.ref x1c) (.ref x1c) = some true)
    (xg2 : kitOne K (.ref x1c) (.ref x2c) = some false)
    (xg3 : kitOne K (.ref x1c) (.ref x3c) = some false)
    (xh0 : kitAny K (.ref x1c) ([x4c,x5c,x6c,x7c,x8c,x9c,x10c,x11c,x12c].map Value.ref) = some false)
    (xh1 : kitAny K (.ref x1c) ([x13c,x14c,x15c,x16c,x17c].map Value.ref) = some false)
    (ga : nsIn K mainGlobals "changed_at" = some (some (.ref gF)))
    (gs : K.lookup gF = some ⟨goc,god, .func (fnOf "changed_at" "changed_at" (defArgs sCa) (defBody sCa) (defScope sCa) (.ref gD) gkV gdc gpm gan gcd gct),gsl⟩)
    (gt : codeIn K gcd "changed_at" = true)
    (gk : keepIn K (.ref gF) = true)
    (gu : K.lookup gD = some ⟨gtc,gto, .seq #[.none] gtn,gts⟩)
    (ha : nsIn K mainGlobals "change_shared" = some (some (.ref hF)))
    (hs : K.lookup hF = some ⟨hoc,hod, .func (fnOf "change_shared" "change_shared" (defArgs sCs) (defBody sCs) (defScope sCs) (.ref hD) hkV hdc hpm han hcd hct),hsl⟩)
    (ht : codeIn K hcd "change_shared" = true)
    (hk : keepIn K (.ref hF) = true)
    (hu : K.lookup hD = some ⟨htc,hto, .seq #[.none] htn,hts⟩) :
    ∃ fd : FuncData,(∀ (s : Shared) (v : Value),BindsTo s fd ⟨[v],[]⟩ [("_law_script",v)]) ∧ ∀ base : Heap,K.In base → base.Ns mainGlobals mg → FnOk l.prog w K mg base CX0 24 fa fd ["_law_script"] (spLaw K):=by
  have e:=hfa.symm.trans (mg_of X G a34)
  cases e
  have Fkind_of:=yD (st:=sKindOf) l0 c0 k0
  have bkind_of:=Fkind_of.binds (ps:=["thing"]) fun _ _ _ _ _ _ us hl=>by obtain ⟨_,rfl⟩:=jW hl; rfl
  have mkind_of:=mg_of X G a0
  have pkind_of:=k0
  have Fcopied:=yD (st:=sCp) l1 c1 k1
  have bcopied:=Fcopied.binds (ps:=["thing"]) fun _ _ _ _ _ _ us hl=>by obtain ⟨_,rfl⟩:=jW hl; rfl
  have mcopied:=mg_of X G a1
  have pcopied:=k1
  have Fis_place:=yD (st:=sPlace) l2 c2 k2
  have bis_place:=Fis_place.binds (ps:=["thing"]) fun _ _ _ _ _ _ us hl=>by obtain ⟨_,rfl⟩:=jW hl; rfl
  have mis_place:=mg_of X G a2
  have pis_place:=k2
  have Fleads_on:=yD (st:=sLo) l3 c3 k3
  have bleads_on:=Fleads_on.binds (ps:=["thing","step"]) fun _ _ _ _ _ _ us hl=>by obtain ⟨_,_,rfl⟩:=jZ hl; rfl
  have mleads_on:=mg_of X G a3
  have pleads_on:=k3
  have Fwhole_changed:=yD (st:=sWc) l4 c4 k4
  have bwhole_changed:=Fwhole_changed.binds (ps:=["word","new"]) fun _ _ _ _ _ _ us hl=>by obtain ⟨_,_,rfl⟩:=jZ hl; rfl
  have mwhole_changed:=mg_of X G a4
  have pwhole_changed:=k4
  have Fstops_to_last:=yD (st:=sSl) l5 c5 k5
  have bstops_to_last:=Fstops_to_last.binds (ps:=["thing","path"]) fun _ _ _ _ _ _ us hl=>by obtain ⟨_,_,rfl⟩:=jZ hl; rfl
  have mstops_to_last:=mg_of X G a5
  have pstops_to_last:=k5
  have Fleads_within:=yD (st:=sLw) l6 c6 k6
  have bleads_within:=Fleads_within.binds (ps:=["thing","step"]) fun _ _ _ _ _ _ us hl=>by obtain ⟨_,_,rfl⟩:=jZ hl; rfl
  have mleads_within:=mg_of X G a6
  have pleads_within:=k6
  have Fcan_change:=yD (st:=sCc) l7 c7 k7
  have bcan_change:=Fcan_change.binds (ps:=["holder","word","step"]) fun _ _ _ _ _ _ us hl=>by obtain ⟨_,_,_,rfl⟩:=zNc hl; rfl
  have mcan_change:=mg_of X G a7
  have pcan_change:=k7
  have Fpart_changed:=yD (st:=sPart) l8 c8 k8
  have bpart_changed:=Fpart_changed.binds (ps:=["holder","word","step","new"]) fun _ _ _ _ _ _ us hl=>by obtain ⟨_,_,_,_,rfl⟩:=zJu hl; rfl
  have mpart_changed:=mg_of X G a8
  have ppart_changed:=k8
  have Frecord_changed:=yD (st:=sRec) l9 c9 k9
  have brecord_changed:=Frecord_changed.binds (ps:=["record","word","name","new"]) fun _ _ _ _ _ _ us hl=>by obtain ⟨_,_,_,_,rfl⟩:=zJu hl; rfl
  have mrecord_changed:=mg_of X G a9
  have precord_changed:=k9
  have Frow_changed:=yD (st:=sRow) l10 c10 k10
  have brow_changed:=Frow_changed.binds (ps:=["row","word","place","new"]) fun _ _ _ _ _ _ us hl=>by obtain ⟨_,_,_,_,rfl⟩:=zJu hl; rfl
  have mrow_changed:=mg_of X G a10
  have prow_changed:=k10
  have F_law_cell:=yD (st:=sCell) l11 c11 k11
  have b_law_cell:=F_law_cell.binds (ps:=["_law_script","_law_k"]) fun _ _ _ _ _ _ us hl=>by obtain ⟨_,_,rfl⟩:=jZ hl; rfl
  have m_law_cell:=mg_of X G a11
  have p_law_cell:=k11
  have F_law_name_by:=yD (st:=sName) l12 c12 k12
  have b_law_name_by:=F_law_name_by.binds (ps:=["_law_more"]) fun _ _ _ _ _ _ us hl=>by obtain ⟨_,rfl⟩:=jW hl; rfl
  have m_law_name_by:=mg_of X G a12
  have p_law_name_by:=k12
  have F_law_signs:=yD (st:=sSigns) l13 c13 k13
  have b_law_signs:=F_law_signs.binds (ps:=[]) fun _ _ _ _ _ _ us hl=>by cases List.eq_nil_of_length_eq_zero hl; rfl
  have m_law_signs:=mg_of X G a13
  have p_law_signs:=k13
  have F_law_text_by:=yD (st:=sText) l14 c14 k14
  have b_law_text_by:=F_law_text_by.binds (ps:=["_law_more"]) fun _ _ _ _ _ _ us hl=>by obtain ⟨_,rfl⟩:=jW hl; rfl
  have m_law_text_by:=mg_of X G a14
  have p_law_text_by:=k14
  have F_law_number_by:=yD (st:=sNum) l15 c15 k15
  have b_law_number_by:=F_law_number_by.binds (ps:=["_law_more"]) fun _ _ _ _ _ _ us hl=>by obtain ⟨_,rfl⟩:=jW hl; rfl
  have m_law_number_by:=mg_of X G a15
  have p_law_number_by:=k15
  have F_law_thing_by:=yD (st:=sThing) l16 c16 k16
  have b_law_thing_by:=F_law_thing_by.binds (ps:=["_law_script","_law_k","_law_deep_here"]) fun _ _ _ _ _ _ us hl=>by obtain ⟨_,_,_,rfl⟩:=zNc hl; rfl
  have m_law_thing_by:=mg_of X G a16
  have p_law_thing_by:=k16
  have F_law_deep:=yD (st:=sDeep) l17 c17 k17
  have b_law_deep:=F_law_deep.binds (ps:=["_law_script","_law_k"]) fun _ _ _ _ _ _ us hl=>by obtain ⟨_,_,rfl⟩:=jZ hl; rfl
  have m_law_deep:=mg_of X G a17
  have p_law_deep:=k17
  have F_law_wide:=yD (st:=sWide) l18 c18 k18
  have b_law_wide:=F_law_wide.binds (ps:=["_law_script","_law_k"]) fun _ _ _ _ _ _ us hl=>by obtain ⟨_,_,rfl⟩:=jZ hl; rfl
  have m_law_wide:=mg_of X G a18
  have p_law_wide:=k18
  have F_law_any:=yD (st:=sAny) l19 c19 k19
  have b_law_any:=F_law_any.binds (ps:=["_law_script","_law_k"]) fun _ _ _ _ _ _ us hl=>by obtain ⟨_,_,rfl⟩:=jZ hl; rfl
  have m_law_any:=mg_of X G a19
  have p_law_any:=k19
  have F_law_steps:=yD (st:=sSs) l20 c20 k20
  have b_law_steps:=F_law_steps.binds (ps:=["_law_thing"]) fun _ _ _ _ _ _ us hl=>by obtain ⟨_,rfl⟩:=jW hl; rfl
  have m_law_steps:=mg_of X G a20
  have p_law_steps:=k20
  have F_law_step_by:=yD (st:=sSb) l21 c21 k21
  have b_law_step_by:=F_law_step_by.binds (ps:=["_law_more"]) fun _ _ _ _ _ _ us hl=>by obtain ⟨_,rfl⟩:=jW hl; rfl
  have m_law_step_by:=mg_of X G a21
  have p_law_step_by:=k21
  have F_law_path:=yD (st:=sPa) l22 c22 k22
  have b_law_path:=F_law_path.binds (ps:=["_law_script","_law_k","_law_thing"]) fun _ _ _ _ _ _ us hl=>by obtain ⟨_,_,_,rfl⟩:=zNc hl; rfl
  have m_law_path:=mg_of X G a22
  have p_law_path:=k22
  have F_law_leads:=yD (st:=sLl) l23 c23 k23
  have b_law_leads:=F_law_leads.binds (ps:=["_law_thing","_law_step"]) fun _ _ _ _ _ _ us hl=>by obtain ⟨_,_,rfl⟩:=jZ hl; rfl
  have m_law_leads:=mg_of X G a23
  have p_law_leads:=k23
  have F_law_gone:=yD (st:=sGn) l24 c24 k24
  have b_law_gone:=F_law_gone.binds (ps:=["_law_thing","_law_path_here"]) fun _ _ _ _ _ _ us hl=>by obtain ⟨_,_,rfl⟩:=jZ hl; rfl
  have m_law_gone:=mg_of X G a24
  have p_law_gone:=k24
  have F_law_alike:=yD (st:=sAlike) l25 c25 k25
  have b_law_alike:=F_law_alike.binds (ps:=["_law_found","_law_due"]) fun _ _ _ _ _ _ us hl=>by obtain ⟨_,_,rfl⟩:=jZ hl; rfl
  have m_law_alike:=mg_of X G a25
  have p_law_alike:=k25
  have F_law_copy:=yD (st:=sCo) l26 c26 k26
  have b_law_copy:=F_law_copy.binds (ps:=["_law_thing"]) fun _ _ _ _ _ _ us hl=>by obtain ⟨_,rfl⟩:=jW hl; rfl
  have m_law_copy:=mg_of X G a26
  have p_law_copy:=k26
  have F_law_spoil:=yD (st:=sSpo) l27 c27 k27
  have b_law_spoil:=F_law_spoil.binds (ps:=["_law_thing"]) fun _ _ _ _ _ _ us hl=>by obtain ⟨_,rfl⟩:=jW hl; rfl
  have m_law_spoil:=mg_of X G a27
  have p_law_spoil:=k27
  have F_law_marked:=yD (st:=sMk) l28 c28 k28
  have b_law_marked:=F_law_marked.binds (ps:=["_law_thing","_law_count"]) fun _ _ _ _ _ _ us hl=>by obtain ⟨_,_,rfl⟩:=jZ hl; rfl
  have m_law_marked:=mg_of X G a28
  have p_law_marked:=k28
  have F_law_own:=yD (st:=sOwn) l29 c29 k29
  have b_law_own:=F_law_own.binds (ps:=["_law_found"]) fun _ _ _ _ _ _ us hl=>by obtain ⟨_,rfl⟩:=jW hl; rfl
  have m_law_own:=mg_of X G a29
  have p_law_own:=k29
  have F_law_word:=yD (st:=sWord) l30 c30 k30
  have b_law_word:=F_law_word.binds (ps:=["_law_e"]) fun _ _ _ _ _ _ us hl=>by obtain ⟨_,rfl⟩:=jW hl; rfl
  have m_law_word:=mg_of X G a30
  have p_law_word:=k30
  have F_law_rebuilt:=yD (st:=sRb) l31 c31 k31
  have b_law_rebuilt:=F_law_rebuilt.binds (ps:=["_law_thing","_law_word_here","_law_path_here","_law_new"]) fun _ _ _ _ _ _ us hl=>by obtain ⟨_,_,_,_,rfl⟩:=zJu hl; rfl
  have m_law_rebuilt:=mg_of X G a31
  have p_law_rebuilt:=k31
  have F_law_beyond:=yD (st:=sBe) l32 c32 k32
  have b_law_beyond:=F_law_beyond.binds (ps:=["_law_script","_law_thing"]) fun _ _ _ _ _ _ us hl=>by obtain ⟨_,_,rfl⟩:=jZ hl; rfl
  have m_law_beyond:=mg_of X G a32
  have p_law_beyond:=k32
  have F_law_told:=yD (st:=sTo) l33 c33 k33
  have b_law_told:=F_law_told.binds (ps:=["_law_word_here","_law_thing","_law_path_here","_law_new"]) fun _ _ _ _ _ _ us hl=>by obtain ⟨_,_,_,_,rfl⟩:=zJu hl; rfl
  have m_law_told:=mg_of X G a33
  have p_law_told:=k33
  have Flaw:=yD (st:=sLaw) l34 c34 k34
  have blaw:=Flaw.binds (ps:=["_law_script"]) fun _ _ _ _ _ _ us hl=>by obtain ⟨_,rfl⟩:=jW hl; rfl
  have mlaw:=mg_of X G a34
  have plaw:=k34
  have B : Bl mg:=⟨mg_none_of X G z0,mg_none_of X G z1,mg_none_of X G z2,mg_none_of X G z3,mg_none_of X G z4,mg_none_of X G z5,mg_none_of X G z6,mg_none_of X G z7,mg_none_of X G z8,mg_none_of X G z9,mg_none_of X G z10⟩
  have B2 : Bl2 mg:=⟨B,mg_none_of X G y0,mg_none_of X G y1,mg_none_of X G y2⟩
  have M : Ms mg:=⟨⟨_,mg_of X G n0⟩⟩
  refine ⟨fnOf "law" "law" (defArgs sLaw) (defBody sLaw) (defScope sLaw) .none kV34 dc34 pm34 an34 cd34 ct34,fun s v=>.of_eq rfl,fun base _ _=>?_⟩
  have Gcell : Dn l.prog w K mg base 1 "_law_cell" ["_law_script","_law_k"] (spCell K):=⟨_,_,zLi F_law_cell B,b_law_cell,p_law_cell,m_law_cell⟩
  have Gnum : Dn l.prog w K mg base 1 "_law_number_by" ["_law_more"] spNum:=⟨_,_,zMv F_law_number_by,b_law_number_by,p_law_number_by,m_law_number_by⟩
  have Gname : Dn l.prog w K mg base 1 "_law_name_by" ["_law_more"] spName:=⟨_,_,zMa F_law_name_by B,b_law_name_by,p_law_name_by,m_law_name_by⟩
  have Gsigns : Dn l.prog w K mg base 1 "_law_signs" [] spSigns:=⟨_,_,zJv F_law_signs,b_law_signs,p_law_signs,m_law_signs⟩
  have Gtext : Dn l.prog w K mg base 2 "_law_text_by" ["_law_more"] spText:=⟨_,_,zLf F_law_text_by B Gsigns,b_law_text_by,p_law_text_by,m_law_text_by⟩
  have Gthing : Dn l.prog w K mg base (3 + 3) "_law_thing_by" ["_law_script","_law_k","_law_deep_here"] (spThingAny K 3):=⟨_,_,zGi (uY F_law_thing_by B Gcell Gnum Gtext Gname b_law_thing_by p_law_thing_by m_law_thing_by),b_law_thing_by,p_law_thing_by,m_law_thing_by⟩
  have Gdeep : Dn l.prog w K mg base 7 "_law_deep" ["_law_script","_law_k"] (spDeep K):=⟨_,_,zKw F_law_deep B Gcell Gthing Gname,b_law_deep,p_law_deep,m_law_deep⟩
  have Gwide : Dn l.prog w K mg base 7 "_law_wide" ["_law_script","_law_k"] (spAny K):=⟨_,_,zKp F_law_wide B Gcell Gthing Gname,b_law_wide,p_law_wide,m_law_wide⟩
  have Gany : Dn l.prog w K mg base 8 "_law_any" ["_law_script","_law_k"] (spAny K):=⟨_,_,zOj F_law_any B Gcell Gthing Gdeep Gwide,b_law_any,p_law_any,m_law_any⟩
  have Gcopy : Dn l.prog w K mg base (1 + 20) "_law_copy" ["_law_thing"] (spCo 20):=⟨_,_,zJf F_law_copy B b_law_copy p_law_copy m_law_copy 20,b_law_copy,p_law_copy,m_law_copy⟩
  have Gcp : Dn l.prog w K mg base (1 + 20) "copied" ["thing"] (spCp 20):=⟨_,_,zHt Fcopied B bcopied pcopied mcopied 20,bcopied,pcopied,mcopied⟩
  have Gal : Dn l.prog w K mg base (2 + 20) "_law_alike" ["_law_found","_law_due"] (spAlike 20):=⟨_,_,zAn F_law_alike B2 b_law_alike p_law_alike m_law_alike 20,b_law_alike,p_law_alike,m_law_alike⟩
  have Gmk : Dn l.prog w K mg base (1 + 20) "_law_marked" ["_law_thing","_law_count"] (spMk 20):=⟨_,_,zJi F_law_marked B2 b_law_marked p_law_marked m_law_marked 20,b_law_marked,p_law_marked,m_law_marked⟩
  have Gown : Dn l.prog w K mg base 23 "_law_own" ["_law_found"] spOwn:=⟨_,_,zMm F_law_own Gcopy Gmk Gal,b_law_own,p_law_own,m_law_own⟩
  have Gko : Dn l.prog w K mg base 1 "kind_of" ["thing"] spKind:=⟨_,_,zEg Fkind_of B,bkind_of,pkind_of,mkind_of⟩
  have Gpl : Dn l.prog w K mg base 2 "is_place" ["thing"] spPlace:=⟨_,_,zJz Fis_place B M Gko,bis_place,pis_place,mis_place⟩
  have Gspo : Dn l.prog w K mg base 1 "_law_spoil" ["_law_thing"] spSpo:=⟨_,_,zOg F_law_spoil B,b_law_spoil,p_law_spoil,m_law_spoil⟩
  have Glo : Dn l.prog w K mg base 1 "leads_on" ["thing","step"] spLo:=⟨_,_,ok_lo Fleads_on B,bleads_on,pleads_on,mleads_on⟩
  have Gll : Dn l.prog w K mg base 1 "_law_leads" ["_law_thing","_law_step"] spLo:=⟨_,_,ok_ll F_law_leads B,b_law_leads,p_law_leads,m_law_leads⟩
  have Glw : Dn l.prog w K mg base 3 "leads_within" ["thing","step"] spLo:=⟨_,_,ok_lw Fleads_within B Glo Gpl,bleads_within,pleads_within,mleads_within⟩
  have Gcc : Dn l.prog w K mg base 4 "can_change" ["holder","word","step"] spCc:=⟨_,_,ok_cc Fcan_change B Glw Gpl,bcan_change,pcan_change,mcan_change⟩
  have Grec : Dn l.prog w K mg base 1 "record_changed" ["record","word","name","new"] spRec:=⟨_,_,zOb Frecord_changed B,brecord_changed,precord_changed,mrecord_changed⟩
  have Grow : Dn l.prog w K mg base 1 "row_changed" ["row","word","place","new"] spRow:=⟨_,_,zNy Frow_changed B,brow_changed,prow_changed,mrow_changed⟩
  have Gpart : Dn l.prog w K mg base 2 "part_changed" ["holder","word","step","new"] spPart:=⟨_,_,zKz Fpart_changed B Grec Grow,bpart_changed,ppart_changed,mpart_changed⟩
  have Ggn : Dn l.prog w K mg base 2 "_law_gone" ["_law_thing","_law_path_here"] spGn:=⟨_,_,ok_gn F_law_gone B Gll,b_law_gone,p_law_gone,m_law_gone⟩
  have Gss : Dn l.prog w K mg base 1 "_law_steps" ["_law_thing"] spSs:=⟨_,_,ok_ss F_law_steps B2,b_law_steps,p_law_steps,m_law_steps⟩
  have Gsb : Dn l.prog w K mg base 2 "_law_step_by" ["_law_more"] spSb:=⟨_,_,ok_sb F_law_step_by Gname,b_law_step_by,p_law_step_by,m_law_step_by⟩
  have Gpa : Dn l.prog w K mg base 3 "_law_path" ["_law_script","_law_k","_law_thing"] (spPa K):=⟨_,_,ok_pa F_law_path B2 Gcell Gss Gsb,b_law_path,p_law_path,m_law_path⟩
  have mB:=mg_of X G xaB
  have mC:=mg_of X G xa1
  have XC : XCls K "NoPlace" x1c xB xF:=⟨⟨xN,_,xb0,_,_,_,_,_,_,_,_,_,_,_,_,_,rfl⟩,⟨_,by unfold clsIn; rw [xb0],rfl,rfl⟩,xb1,xb2,xb3,xb4,xb5,xb6⟩
  have XB : XBase K xB:=⟨xc0,xc1,xc2⟩
  have XG : XGet K x1c:=⟨xe0,xe1,xe2,xe3,xe4,xe5,xe6,xe7⟩
  have RN : Xr l.prog w K mg base 1 "NoPlace" x1c:=⟨_,_,_,_,_,XC,zJj xd0 xd1 XC XB mB,zCs xd2 rfl rfl,mC⟩
  have W : Wf mg (fun i=>[x0c,x1c,x2c,x3c,x4c,x5c,x6c,x7c,x8c,x9c,x10c,x11c,x12c,x13c,x14c,x15c,x16c,x17c].getD i 0):=⟨mg_of X G xa0,mg_of X G xa1,mg_of X G xa2,mg_of X G xa3,mg_of X G xa4,mg_of X G xa5,mg_of X G xa6,mg_of X G xa7,mg_of X G xa8,mg_of X G xa9,mg_of X G xa10,mg_of X G xa11,mg_of X G xa12,mg_of X G xa13,mg_of X G xa14,mg_of X G xa15,mg_of X G xa16,mg_of X G xa17⟩
  have Y : Wk K (fun i=>[x0c,x1c,x2c,x3c,x4c,x5c,x6c,x7c,x8c,x9c,x10c,x11c,x12c,x13c,x14c,x15c,x16c,x17c].getD i 0):=⟨XG,xb5,xg0,xg1,xg2,xg3,xh0,xh1⟩
  have Gwc : Dx l.prog w K mg base 3 "whole_changed" ["word","new"] (spWc x1c):=⟨_,_,ok_wc Fwhole_changed B RN,bwhole_changed,pwhole_changed,mwhole_changed⟩
  have Gsl : Dx l.prog w K mg base 4 "stops_to_last" ["thing","path"] (spSl x1c):=⟨_,_,ok_sl Fstops_to_last B Glw RN,bstops_to_last,pstops_to_last,mstops_to_last⟩
  have FCs : FunD K "change_shared" "change_shared" sCs hF (fnOf "change_shared" "change_shared" (defArgs sCs) (defBody sCs) (defScope sCs) (.ref hD) hkV hdc hpm han hcd hct):=⟨⟨hoc,hod, .ref hD,hkV,hdc,hpm,han,hcd,hct,hsl,rfl,hs,ht⟩⟩
  have FCa : FunD K "changed_at" "changed_at" sCa gF (fnOf "changed_at" "changed_at" (defArgs sCa) (defBody sCa) (defScope sCa) (.ref gD) gkV gdc gpm gan gcd gct):=⟨⟨goc,god, .ref gD,gkV,gdc,gpm,gan,gcd,gct,gsl,rfl,gs,gt⟩⟩
  have mCs:=mg_of X G ha
  have mCa:=mg_of X G ga
  have Gcs : Dx l.prog w K mg base 5 "change_shared" ["thing","word","path","new"] (spCs x1c):=⟨_,_,ok_cs FCs B Gwc Gsl Gcc Gpart RN,biCs hu rfl,hk,mCs⟩
  have Gcax : Dx l.prog w K mg base 22 "changed_at" ["thing","word","path","new"] (spCa x1c):=⟨_,_,zMd FCa Gcs Gcp,(biCa gu rfl).1,gk,mCa⟩
  have Gcad : Ddx l.prog w K mg base 22 "changed_at" ["thing","word","path","new"] [.non] (spCa x1c):=⟨_,_,[.none],zMd FCa Gcs Gcp,(biCa gu rfl).2, .cons rfl .nil,gk,mCa⟩
  have Gw : Dh l.prog w K mg base 1 "_law_word" ["_law_e"] (spWord (fun i=>[x0c,x1c,x2c,x3c,x4c,x5c,x6c,x7c,x8c,x9c,x10c,x11c,x12c,x13c,x14c,x15c,x16c,x17c].getD i 0)):=⟨_,_,zKg F_law_word B W Y,b_law_word,p_law_word,m_law_word⟩
  have Gbe : Dn l.prog w K mg base 2 "_law_beyond" ["_law_script","_law_thing"] (spBe K):=⟨_,_,ok_be F_law_beyond B Gcell,b_law_beyond,p_law_beyond,m_law_beyond⟩
  have Grb : Dn l.prog w K mg base 22 "_law_rebuilt" ["_law_thing","_law_word_here","_law_path_here","_law_new"] spRb:=⟨_,_,ok_rb F_law_rebuilt B Gcopy Ggn,b_law_rebuilt,p_law_rebuilt,m_law_rebuilt⟩
  have Gto : Dn l.prog w K mg base 23 "_law_told" ["_law_word_here","_law_thing","_law_path_here","_law_new"] (spTo (fun i=>[x0c,x1c,x2c,x3c,x4c,x5c,x6c,x7c,x8c,x9c,x10c,x11c,x12c,x13c,x14c,x15c,x16c,x17c].getD i 0)):=⟨_,_,ok_to F_law_told mB xf0 Gcax Gcad Gw,b_law_told,p_law_told,m_law_told⟩
  exact zNn Flaw B Gcell Gany Gbe Gpa Gthing Gdeep Gcopy Grb Gto Gown Gspo Gal
theorem walk {l : OpenLaw} {q : Program} {loose : List Str} {XP : (Str → Option Value) → Heap → Prop} {YP : World → Heap → Prop} {d : DefRec} {K : Params → Frag} (hn : l.most = some 63) (hdf : d.params.defaults = [])
    (hY : ∀ (w : World) (h : Heap),YP w h → (K w.params).In h)
    (F : ∀ (w : World) (mg : Str → Option Value) (fa : Addr) (h : Heap),(K w.params).In h → h.Ns mainGlobals mg → mg d.name = some (.ref fa) →
      ∃ fd : FuncData,(∀ (s : Shared) (u : Value),BindsTo s fd ⟨[u],[]⟩ [("_law_script",u)]) ∧ ∀ base : Heap,(K w.params).In base → base.Ns mainGlobals mg → FnOk l.prog w (K w.params) mg base CX0 24 fa fd ["_law_script"] (spLaw (K w.params))) :
    WalkO q loose XP YP l.row.toRowW d [] (fun f vs=>PySem.call f vs) :=
  L2.zFq (n:=63) (k:=24) (x:="_law_script") (CX:=fun _=>CX0) (sp:=fun w=>spLaw (K w.params)) hn (by decide) hdf ⟨rfl,by decide,by decide⟩ hY F (fun _ _ a ns hl hO hS=>⟨a,ns,rfl,hS,hl,hO,fun _=>rfl⟩) fun _ _ _ _ _ z=>z
end K37
end
namespace PySem.W.Fast
def tw10005677552699730855:=()
def tw10047492717955190718:=()
def tw10249221993504154409:=()
def tw10331060183136496933:=()
def tw10428010553974524864:=()
def tw10476296516166293528:=()
def tw10506105067130425407:=()
def tw10518249102867805500:=()
def tw10602288460466422837:=()
def tw10692922715832310379:=()
def tw10766903036625047601:=()
def tw10812584869482339537:=()
def tw11010490702432222140:=()
def tw1102930087745680812:=()
def tw11117692145951980514:=()
def tw11124833592539638625:=()
def tw11202040196767850956:=()
def tw11208726444466955709:=()
def tw11215759484571215193:=()
def tw11219205846212841070:=()
def tw11231408009724468235:=()
def tw11257571773575866917:=()
def tw11276626050477453408:=()
def tw1147600242799536612:=()
def tw11500052645835179184:=()
def tw11613155471799789475:=()
def tw1163343931902459050:=()
def tw1168182086786916470:=()
def tw11692329157644851161:=()
def tw11755661089837906164:=()
def tw11779811146387207450:=()
def tw11936802943656639734:=()
def tw12077564203369536811:=()
def tw12136779144066321501:=()
def tw12140932411246456395:=()
def tw12249756128990574837:=()
def tw12273813284830402528:=()
def tw12329961448215232402:=()
def tw12386352723745517689:=()
def tw12392209254648588362:=()
def tw12420252018188552391:=()
def tw12443379800317280743:=()
def tw12444709658367951681:=()
def tw12492454922975685520:=()
def tw12543330199881131730:=()
def tw1255478614380623155:=()
def tw12643810193295367979:=()
def tw12660641881403608272:=()
def tw12662225514556939951:=()
def tw12688565836430952432:=()
def tw13016701790337122205:=()
def tw13042337330045666185:=()
def tw13110100139486701827:=()
def tw13154324471651636417:=()
def tw13198636772880412506:=()
def tw13266805481699922047:=()
def tw13272872042722304246:=()
def tw13421646491616078525:=()
def tw1346659355259422798:=()
def tw13502070448411947423:=()
def tw13525144204883665480:=()
def tw13627920267473664651:=()
def tw13634558794369793641:=()
def tw13676653307492972339:=()
def tw13716066142530992432:=()
def tw13786147260689501345:=()
def tw13843229303679678348:=()
def tw1401060702380430732:=()
def tw14022791643512241967:=()
def tw14043503023559949871:=()
def tw14093217125011408197:=()
def tw14114096039831172022:=()
def tw14174151339442352885:=()
def tw14179138578531306434:=()
def tw14193421407488601390:=()
def tw1419790757752771131:=()
def tw14593600285568635180:=()
def tw14645257028213332680:=()
def tw14693604321798902666:=()
def tw14792538854800012960:=()
def tw1482976610797000350:=()
def tw15088035242791669418:=()
def tw15095790632082888133:=()
def tw15122571746856912928:=()
def tw15181055122154554996:=()
def tw15203126308292737570:=()
def tw15278913414351064275:=()
def tw15361642701468270055:=()
def tw15373895772192681657:=()
def tw15442625033139479490:=()
def tw15487167542632374904:=()
def tw15572541255454763817:=()
def tw15673997405524959052:=()
def tw15729224152535608996:=()
def tw15899759108465502698:=()
def tw15973528330904513861:=()
def tw16027405803805802118:=()
def tw1603066694872086737:=()
def tw1604630722966059391:=()
def tw1607593439801782988:=()
def tw16077117438572820129:=()
def tw16149550473425229368:=()
def tw16154972520066743631:=()
def tw16163285808876324550:=()
def tw16173793494855387889:=()
def tw16245820430793473237:=()
def tw16382750385719322643:=()
def tw1638712287194416561:=()
def tw16442374631970533778:=()
def tw16518674231257066805:=()
def tw16527481922354539930:=()
def tw16535644235408483143:=()
def tw1654282585065160482:=()
def tw16563389213931335872:=()
def tw16579892800930278820:=()
def tw16623849893050293285:=()
def tw16645609638129156609:=()
def tw16649417265946024707:=()
def tw16689481277969866904:=()
def tw166963964573932475:=()
def tw16730498500779975008:=()
def tw16777013660030083359:=()
def tw1678298066406960788:=()
def tw16804577736398842069:=()
def tw16864897089133599420:=()
def tw1688060004898629469:=()
def tw16887326963598095485:=()
def tw16998620104989225938:=()
def tw17022214389041105148:=()
def tw17053777493828197986:=()
def tw17057345872604961843:=()
def tw17104676412196324210:=()
def tw17155967088372089678:=()
def tw17194994339219908421:=()
def tw17259529602899193180:=()
def tw17276047676649127219:=()
def tw17407183128750742724:=()
def tw17411295373854264015:=()
def tw17455471666273765511:=()
def tw17531780223105355732:=()
def tw17555849821781716216:=()
def tw17558922579814765493:=()
def tw17584648043102143956:=()
def tw17605063837694124928:=()
def tw17796971734027119715:=()
def tw18001742602408182510:=()
def tw18136775864047303727:=()
def tw18185905947680977409:=()
def tw18238555086862423251:=()
def tw18246040748291018363:=()
def tw18276666239116749265:=()
def tw18283623590173506989:=()
def tw1950438864698004704:=()
def tw2030210940942452733:=()
def tw2064544300919858893:=()
def tw206857549885102256:=()
def tw2148062698994331326:=()
def tw2197568520641132124:=()
def tw2208699009842185510:=()
def tw2237294208715311355:=()
def tw2242152565598191417:=()
def tw2250937815795530934:=()
def tw2291516631298765117:=()
def tw2359413257801640534:=()
def tw2374805130281809441:=()
def tw2394069867914115380:=()
def tw2399137656206029068:=()
def tw2627247676374478798:=()
def tw2658687939553788471:=()
def tw2751508279892399646:=()
def tw2759321434906890539:=()
def tw284351845908664759:=()
def tw2942885940176466999:=()
def tw2950339648821695614:=()
def tw2992121052519337787:=()
def tw3036892433376628843:=()
def tw3096310608720830714:=()
def tw3218965488750123330:=()
def tw331457522363543569:=()
def tw3321836333106611131:=()
def tw3380699036733387191:=()
def tw343536313370593058:=()
def tw3484698944307338456:=()
def tw3501565624021357447:=()
def tw360995092635152033:=()
def tw3618919889927657087:=()
def tw402681382553799712:=()
def tw4102678826880905127:=()
def tw4169712796279458981:=()
def tw4176012403123861563:=()
def tw4186539171349189990:=()
def tw420418057142448987:=()
def tw421302836986085941:=()
def tw4293562680772382304:=()
def tw4300189521814862765:=()
def tw4345836478948430545:=()
def tw445054957692762033:=()
def tw4464619488006719199:=()
def tw4493922391246945696:=()
def tw4551926738640589080:=()
def tw4565477304426253914:=()
def tw4610741891535123684:=()
def tw4650332661221798879:=()
def tw4668489141303848427:=()
def tw4768726068881941448:=()
def tw4899771609889062092:=()
def tw4908636619889925192:=()
def tw4911045344897808675:=()
def tw493774553233891476:=()
def tw4986681122133430848:=()
def tw5042251133881738684:=()
def tw5094098526743517904:=()
def tw5145088372171980962:=()
def tw5166824449462002401:=()
def tw5169061468553798782:=()
def tw5191039511562969704:=()
def tw5207279771178950306:=()
def tw5258962441621294872:=()
def tw5321736376433977507:=()
def tw5438636178960749245:=()
def tw5595214599444978335:=()
def tw5617118637225208068:=()
def tw5696150541492999406:=()
def tw5814587462942296342:=()
def tw6069061344535068047:=()
def tw6107003636116348405:=()
def tw6124657764743445314:=()
def tw6148655997742429103:=()
def tw6175353206670977460:=()
def tw6290770131906977202:=()
def tw637809243484436934:=()
def tw6394703791223645390:=()
def tw6460179844295492421:=()
def tw6516659425666544407:=()
def tw6561779224175233698:=()
def tw6576884981164874997:=()
def tw6623191352324773591:=()
def tw6683675182744304522:=()
def tw6741184485252063664:=()
def tw6774285446426677249:=()
def tw6782248545776453682:=()
def tw6792610334452245457:=()
def tw6825167706415883326:=()
def tw6906388473033956601:=()
def tw6931500459496238609:=()
def tw6985249347252182008:=()
def tw6994760933027953190:=()
def tw7024031350027952613:=()
def tw7168963245570300784:=()
def tw7174989415796271881:=()
def tw7176341728212136154:=()
def tw719798755011973206:=()
def tw7231831895494772138:=()
def tw7288885567560751437:=()
def tw7462500402876180721:=()
def tw7468017457291814557:=()
def tw7468045576753778807:=()
def tw7503262980789496547:=()
def tw753440932952960241:=()
def tw7563750318401003907:=()
def tw7656341502763696577:=()
def tw7789346174755305863:=()
def tw7800769122402201210:=()
def tw7852181482952263631:=()
def tw7865965861666730530:=()
def tw80712808138081122:=()
def tw8207445568122597274:=()
def tw8214789014007948863:=()
def tw8276148026262079617:=()
def tw8291479609653164295:=()
def tw8373255127755828481:=()
def tw8410645444044275735:=()
def tw8419631375309145144:=()
def tw8518719351032283476:=()
def tw8536758531290018530:=()
def tw8564092088988859475:=()
def tw8706051678404243864:=()
def tw8754846706056750226:=()
def tw8814677266024275125:=()
def tw8894084015658243446:=()
def tw8896205919693887325:=()
def tw8938417576565241340:=()
def tw8950677272425993842:=()
def tw9139151518631500059:=()
def tw924038612102423915:=()
def tw9360227446688663719:=()
def tw9409495248462336828:=()
def tw9438199322745235909:=()
def tw9487726039764605747:=()
def tw9509186274202635655:=()
def tw9515291749450010475:=()
def tw9549239684519738430:=()
def tw9662013038808338003:=()
def tw9692838353193077508:=()
def tw9795486340882752073:=()
def tw9865717013021265270:=()
def tw9870610800620707804:=()
def tw9877190888506210883:=()
def tw9880950795772718101:=()
def tw9911632995392538916:=()
def tw9943923280009421765:=()
def tw9945039608696243008:=()
def tw9993589118360770034:=()
end PySem.W.Fast
open PySem PySem.W PyProof.Rows
set_option maxRecDepth 100000 in
set_option maxHeartbeats 0 in
theorem PySem.Challenge.cw_cabinet_k37_changes_beyond_holds : PySem.Challenge.rw_cabinet_k37_changes_beyond.Holds := by
  w_on; o_law; k_head; (case hw=>w_witness2)
  k_fill
  refine K37.walk (l:=PySem.Challenge.rw_cabinet_k37_changes_beyond) rfl rfl (fun w h Y=>PySem.W.kIn_of Y) ?F
  case F =>
    intro w mg fa h KX G hmg
    refine' K37.all_mk KX G hmg ?a0 ?l0 ?c0 ?k0 ?a1 ?l1 ?c1 ?k1 ?a2 ?l2 ?c2 ?k2 ?a3 ?l3 ?c3 ?k3 ?a4 ?l4 ?c4 ?k4 ?a5 ?l5 ?c5 ?k5 ?a6 ?l6 ?c6 ?k6 ?a7 ?l7 ?c7 ?k7 ?a8 ?l8 ?c8 ?k8 ?a9 ?l9 ?c9 ?k9 ?a10 ?l10 ?c10 ?k10 ?a11 ?l11 ?c11 ?k11 ?a12 ?l12 ?c12 ?k12 ?a13 ?l13 ?c13 ?k13 ?a14 ?l14 ?c14 ?k14 ?a15 ?l15 ?c15 ?k15 ?a16 ?l16 ?c16 ?k16 ?a17 ?l17 ?c17 ?k17 ?a18 ?l18 ?c18 ?k18 ?a19 ?l19 ?c19 ?k19 ?a20 ?l20 ?c20 ?k20 ?a21 ?l21 ?c21 ?k21 ?a22 ?l22 ?c22 ?k22 ?a23 ?l23 ?c23 ?k23 ?a24 ?l24 ?c24 ?k24 ?a25 ?l25 ?c25 ?k25 ?a26 ?l26 ?c26 ?k26 ?a27 ?l27 ?c27 ?k27 ?a28 ?l28 ?c28 ?k28 ?a29 ?l29 ?c29 ?k29 ?a30 ?l30 ?c30 ?k30 ?a31 ?l31 ?c31 ?k31 ?a32 ?l32 ?c32 ?k32 ?a33 ?l33 ?c33 ?k33 ?a34 ?l34 ?c34 ?k34 ?z0 ?z1 ?z2 ?z3 ?z4 ?z5 ?z6 ?z7 ?z8 ?z9 ?z10 ?y0 ?y1 ?y2 ?n0 ?xa0 ?xa1 ?xa2 ?xa3 ?xa4 ?xa5 ?xa6 ?xa7 ?xa8 ?xa9 ?xa10 ?xa11 ?xa12 ?xa13 ?xa14 ?xa15 ?xa16 ?xa17 ?xaB ?xb0 ?xb1 ?xb2 ?xb3 ?xb4 ?xb5 ?xb6 ?xc0 ?xc1 ?xc2 ?xd0 ?xd1 ?xd2 ?xe0 ?xe1 ?xe2 ?xe3 ?xe4 ?xe5 ?xe6 ?xe7 ?xf0 ?xg0 ?xg1 ?xg2 ?xg3 ?xh0 ?xh1 ?ga ?gs ?gt ?gk ?gu ?ha ?hs ?ht ?hk ?hu
    case a0 | l0 | c0 | k0 | a1 | l1 | c1 | k1 | a2 | l2 | c2 | k2 | a3 | l3 | c3 | k3 | a4 | l4 | c4 | k4 | a5 | l5 | c5 | k5 | a6 | l6 | c6 | k6 | a7 | l7 | c7 | k7 | a8 | l8 | c8 | k8 | a9 | l9 | c9 | k9 | a10 | l10 | c10 | k10 | a11 | l11 | c11 | k11 | a12 | l12 | c12 | k12 | a13 | l13 | c13 | k13 | a14 | l14 | c14 | k14 | a15 | l15 | c15 | k15 | a16 | l16 | c16 | k16 | a17 | l17 | c17 | k17 | a18 | l18 | c18 | k18 | a19 | l19 | c19 | k19 | a20 | l20 | c20 | k20 | a21 | l21 | c21 | k21 | a22 | l22 | c22 | k22 | a23 | l23 | c23 | k23 | a24 | l24 | c24 | k24 | a25 | l25 | c25 | k25 | a26 | l26 | c26 | k26 | a27 | l27 | c27 | k27 | a28 | l28 | c28 | k28 | a29 | l29 | c29 | k29 | a30 | l30 | c30 | k30 | a31 | l31 | c31 | k31 | a32 | l32 | c32 | k32 | a33 | l33 | c33 | k33 | a34 | l34 | c34 | k34 | z0 | z1 | z2 | z3 | z4 | z5 | z6 | z7 | z8 | z9 | z10 | y0 | y1 | y2 | n0 | xa0 | xa1 | xa2 | xa3 | xa4 | xa5 | xa6 | xa7 | xa8 | xa9 | xa10 | xa11 | xa12 | xa13 | xa14 | xa15 | xa16 | xa17 | xaB | xb0=>k_is
    case xb1=>first | rfl | kernel_rfl
    case xb2 | xb3 | xb4 | xb5 | xb6 | xc0 | xc1 | xc2 | xd0 | xd1 | xd2 | xe0 | xe1 | xe2 | xe3 | xe4 | xe5 | xe6 | xe7=>k_is
    case xf0 | xg0 | xg1 | xg2 | xg3 | xh0 | xh1=>first | rfl | kernel_rfl
    case ga | gs | gt | gk | gu | ha | hs | ht | hk | hu=>k_is
