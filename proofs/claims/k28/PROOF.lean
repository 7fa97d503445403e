import PyProof.Rows.All
import Wide.All
import OpenK.AllK
import Wide.FinOn
import Lean
import PyProof.EqAt
import PyProof.EqKinds
import PyProof.TupleCall
import PyProof.StrReplace2
import PyProof.DictItems
import PyProof.EnumStmt
import PyProof.EnumFor
import PyProof.DictItemsLoops
import PyProof.ZipIter
import PyProof.IsRules
import PyProof.Rows.SortRev
import KE.KIntText
import OpenK.KRaise
import KE.TryInHelper
import PyProof.RulesRaise
import PyProof.Rows.RaiseClass
import PyProof.RaisesMany
import PyProof.ExcClass3
import PyProof.ExcBaseAll.ValueError
import KE.KTryMore
import PyProof.InstStoreFacts
import OpenK.KMake
import PyProof.ExcAttrAll.ValueError
import KE.KIsAll
import OpenK.KWalk
import OpenK.KDescr
import PyProof.PureStr
import PyProof.ExcStr
import PyProof.CallStr
import KE.KCallOwn
import KE.KSortTup
import PyProof.Rows.StrCut
import PyProof.StrBlock
import KE.IntTextLaws
import PyProof.DictValues
import PyProof.DictWalks
import PySem.Challenge.RW_cabinet_k28_whole_there_and_back
set_option Elab.async false
set_option linter.all false
set_option maxRecDepth 100000
set_option maxHeartbeats 4000000
namespace L2
open PySem PySem.Spec PyProof.Rows
abbrev Key := Sum Int Str
def keyIs : Key → Value → Bool
  | .inl k, v => Value.isInt k v
  | .inr x, v => Value.isStrOf x v
def keyH (w : World) : Key → Int
  | .inl k => hashInt k
  | .inr x => hashStr w x
theorem keyIs_shape : ∀ {k : Key} {v : Value}, keyIs k v = true → (∃ i t, k = Sum.inl i ∧ v = Value.int i t) ∨ (∃ x t, k = Sum.inr x ∧ v = Value.str x t)
  | .inl i, v, h => by
    obtain ⟨t, e⟩ := Value.isInt_shape (k := i) (v := v) h
    exact .inl ⟨i, t, rfl, e⟩
  | .inr x, v, h => by
    obtain ⟨t, e⟩ := Value.isStrOf_shape (x := x) (v := v) h
    exact .inr ⟨x, t, rfl, e⟩
theorem keyIs_int (i : Int) (t : Tok) : keyIs (.inl i) (.int i t) = true := by simp [keyIs, Value.isInt]
theorem keyIs_str (x : Str) (t : Tok) : keyIs (.inr x) (.str x t) = true := by simp [keyIs, Value.isStrOf]
theorem key_ll (a b : Int) : decide ((Sum.inl a : Key) = Sum.inl b) = (a == b) := by
  by_cases e : a = b
  · subst e; simp
  · have h : ¬ (Sum.inl a : Key) = Sum.inl b := fun q => e (Sum.inl.inj q)
    rw [decide_eq_false h]
    exact (beq_eq_false_iff_ne.mpr e).symm
theorem key_rr (a b : Str) : decide ((Sum.inr a : Key) = Sum.inr b) = decide (a = b) := by
  by_cases e : a = b
  · subst e; simp
  · have h : ¬ (Sum.inr a : Key) = Sum.inr b := fun q => e (Sum.inr.inj q)
    rw [decide_eq_false h, decide_eq_false e]
theorem key_lr (a : Int) (b : Str) : decide ((Sum.inl a : Key) = Sum.inr b) = false := decide_eq_false (fun q => nomatch q)
theorem key_rl (a : Str) (b : Int) : decide ((Sum.inr a : Key) = Sum.inl b) = false := decide_eq_false (fun q => nomatch q)
def mixKind (prog : Program) (w : World) : PySem.KeyKind prog w Key where
  is := keyIs
  hash := keyH w
  inj := fun v a b ha hb => by
    rcases keyIs_shape ha with ⟨i, t, rfl, rfl⟩ | ⟨x, t, rfl, rfl⟩
    · rcases keyIs_shape hb with ⟨j, u, rfl, e⟩ | ⟨y, u, rfl, e⟩
      · injection e with e1 _; rw [e1]
      · exact nomatch e
    · rcases keyIs_shape hb with ⟨j, u, rfl, e⟩ | ⟨y, u, rfl, e⟩
      · exact nomatch e
      · injection e with e1 _; rw [e1]
  byValue := fun k v h => by
    rcases keyIs_shape h with ⟨i, t, rfl, rfl⟩ | ⟨x, t, rfl, rfl⟩ <;> rfl
  pyHash := fun hv h => by
    rcases keyIs_shape hv with ⟨i, t, rfl, rfl⟩ | ⟨x, t, rfl, rfl⟩
    · exact wpAny_pyHash_int h
    · exact wpAny_pyHash_str h
  eqBool := fun hu hv h => by
    rcases keyIs_shape hu with ⟨i, t, rfl, rfl⟩ | ⟨x, t, rfl, rfl⟩
    · rcases keyIs_shape hv with ⟨j, u, rfl, rfl⟩ | ⟨y, u, rfl, rfl⟩
      · rw [key_ll] at h; exact wpAny_eqBool_int h
      · rw [key_lr] at h; exact SeqAt.EqAt.int_str i t y u _ _ _ _ h
    · rcases keyIs_shape hv with ⟨j, u, rfl, rfl⟩ | ⟨y, u, rfl, rfl⟩
      · rw [key_rl] at h; exact SeqAt.EqAt.str_int x t j u _ _ _ _ h
      · rw [key_rr] at h; exact wpAny_eqBool_str h
  «strs» := fun k x t v h => by
    rcases keyIs_shape h with ⟨i, u, rfl, e⟩ | ⟨y, u, rfl, e⟩
    · exact nomatch e
    · injection e with e1 _
      subst e1
      cases v <;> rfl
theorem mixKind_int (prog : Program) (w : World) (i : Int) (t : Tok) : (mixKind prog w).is (.inl i) (.int i t) = true := keyIs_int i t
theorem mixKind_str (prog : Program) (w : World) (x : Str) (t : Tok) : (mixKind prog w).is (.inr x) (.str x t) = true := keyIs_str x t
end L2
namespace L2
open PySem PySem.Spec PyProof.Rows
inductive V where
  | non | bl (b : Bool) | int (i : Int) | str (x : Str) | byt (b : Array UInt8) | flt (b : UInt64) | ref (a : Addr) | ty (n : String)
  deriving DecidableEq
def RelV : V → Value → Prop
  | .non, u => u = Value.none
  | .bl b, u => u = Value.bool b
  | .int i, u => ∃ t, u = Value.int i t
  | .str x, u => ∃ t, u = Value.str x t
  | .byt b, u => ∃ t, u = Value.bytes b t
  | .flt b, u => ∃ t, u = Value.float b t
  | .ref a, u => u = Value.ref a
  | .ty n, u => u = Value.type n
abbrev Vals : List V → List Value → Prop := Paired RelV
theorem Vals.length {xs : List V} {us : List Value} (r : Vals xs us) : xs.length = us.length := Paired.length r
theorem Vals.get : ∀ {xs : List V} {us : List Value} {i : Nat} {x : V}, Vals xs us → xs[i]? = some x → ∃ u, us[i]? = some u ∧ RelV x u
  | _, _, _, _, .nil, e => by simp at e
  | _, _, 0, _, .cons r _, e => by simp at e; subst e; exact ⟨_, rfl, r⟩
  | _, _, i + 1, x, .cons _ t, e => by
    obtain ⟨u, h1, h2⟩ := Vals.get (i := i) (x := x) t (by simpa using e)
    exact ⟨u, by simpa using h1, h2⟩
theorem Vals.append : ∀ {xs ys : List V} {us ws : List Value}, Vals xs us → Vals ys ws → Vals (xs ++ ys) (us ++ ws)
  | _, _, _, _, .nil, s => s
  | _, _, _, _, .cons r t, s => .cons r (Vals.append t s)
theorem Vals.take : ∀ {xs : List V} {us : List Value} (n : Nat), Vals xs us → Vals (xs.take n) (us.take n)
  | _, _, 0, _ => .nil
  | _, _, _ + 1, .nil => .nil
  | _, _, n + 1, .cons r t => .cons r (Vals.take n t)
theorem Vals.drop : ∀ {xs : List V} {us : List Value} (n : Nat), Vals xs us → Vals (xs.drop n) (us.drop n)
  | _, _, 0, r => r
  | _, _, _ + 1, .nil => .nil
  | _, _, n + 1, .cons _ t => Vals.drop n t
def RelO : Option V → Option Value → Prop
  | some v, some u => RelV v u
  | none, none => True
  | _, _ => False
def KV {κ : Type} : List (κ × V) → List (κ × Value) → Prop := Paired fun (p : κ × V) (q : κ × Value) => p.1 = q.1 ∧ RelV p.2 q.2
def kV : Key → V
  | .inl i => .int i
  | .inr x => .str x
inductive HO where
  /-- a list -/
  | lst (xs : List V)
  /-- a tuple (never changes) -/
  | tup (xs : List V)
  /-- a dict whose keys are ints and texts; one whose keys are tuples of ints and texts (the empty one is both) -/
  | dK (kvs : List (Key × V)) | dT (kvs : List (List Key × V))
  /-- a set of ints: its members, its size -/
  | set (S : Int → Bool) (n : Nat)
  /-- an instance of the class at C, its dict at dx, its attributes -/
  | ins (C dx : Addr) (fs : List (Str × V))
  /-- the dict of the instance at x -/
  | own (x : Addr)
  /-- the dict of an exception -/
  | xd (fs : List (Str × V))
  /-- a bound method, f of x -/
  | met (f x : Addr)
  /-- a range object lo, lo + 1, .. below hi -/
  | rng (lo hi : Int)
  /-- a thing that is known to the object (the script; a dict while a loop walks it): read, never written while it is so -/
  | frz (o : Obj) (u : HO)
  /-- a code object's table -/
  | tbl (ps : Array Value)
  /-- any other thing, by what is true of its one object (a def of one's own: SetO a S n := HO.ext fun h => ..) -/
  | ext (φ : Heap → Prop)
abbrev Hp := Addr → Option HO
def upd (H : Hp) (a : Addr) (o : HO) : Hp := fun b => if b = a then some o else H b
theorem upd_same {H : Hp} {a : Addr} {o : HO} : upd H a o a = some o := by unfold upd; rw [if_pos rfl]
theorem upd_ne {H : Hp} {a b : Addr} {o : HO} (h : b ≠ a) : upd H a o b = H b := by unfold upd; rw [if_neg h]
theorem ne_of {H : Hp} {a b : Addr} {o u : HO} (h : H a = some o) (h' : H b = some u) (d : o ≠ u) : a ≠ b := by
  intro e; subst e; rw [h] at h'; exact d (Option.some.inj h')
theorem ne_of_none {H : Hp} {a b : Addr} {o : HO} (h : H a = some o) (h' : H b = none) : a ≠ b := by
  intro e; subst e; rw [h] at h'; cases h'
section
variable (P : Program) (w : World)
def ObjOk (H : Hp) (h : Heap) (a : Addr) : HO → Prop
  | .lst xs => xs.length ≤ sizeLine ∧ ∃ (its : List Value) (n : Nat), Vals xs its ∧ h.get? a = some { cls := .type "list", data := .seq its.toArray n }
  | .tup xs => xs.length ≤ sizeLine ∧ ∃ its : List Value, Vals xs its ∧ IsTup h a its.toArray
  | .dK kvs => kvs.length ≤ sizeLine ∧ (a == sysModules) = false ∧ ∃ vs, KV kvs vs ∧ h.DictOf (mixKind P w) a vs
  | .dT kvs => kvs.length ≤ sizeLine ∧ (a == sysModules) = false ∧ ∃ xs : List (List Key × Addr × Value),
      Paired (fun (p : List Key × V) (q : List Key × Addr × Value) => p.1 = q.1 ∧ H q.2.1 = some (.tup (p.1.map kV)) ∧ RelV p.2 q.2.2) kvs xs ∧
      ∃ o es ep, h.get? a = some o ∧ o.ExactDict ∧ o.data = .dict es ep ∧ es.toList = xs.map (entryOfKey (tupleKind (mixKind P w))) ∧ (xs.map (·.1)).Nodup
  | .set S n => h.SetOf (intKind P w) a S n
  | .ins C dx fs => H dx = some (.own a) ∧ fs.length ≤ 1000 ∧ dx ≠ a ∧ h.get? a = some (PySem.W.instObj C dx) ∧
      ∃ mA, h.Ns1 dx mA ∧ (∀ f, RelO (fs.lookup f) (mA f)) ∧ PySem.Within mA (fs.map (·.1))
  | .own _ => ∃ o, h.get? a = some o
  | .xd fs => ∃ mA, h.Ns1 a mA ∧ ∀ f, RelO (fs.lookup f) (mA f)
  | .rng lo hi => ∃ t u v, h.get? a = some { cls := .type "range", data := .fields #[.int lo t, .int hi u, .int 1 v] }
  | .frz o u => h.get? a = some o ∧ ObjOk H h a u
  | .tbl ps => h.get? a = some { cls := .none, data := .fields ps }
  | .met f x => h.get? a = some (PySem.W.methodObj (.ref f) (.ref x))
  | .ext φ => φ h ∧ (∃ o, h.get? a = some o) ∧ ∀ h1 h2 : Heap, φ h1 → (∀ o, h1.get? a = some o → h2.get? a = some o) → φ h2
def HOk (H : Hp) (h : Heap) : Prop := ∀ a o, H a = some o → ObjOk P w H h a o
end
section
variable {P : Program} {w : World} {H H' : Hp} {h h' : Heap} {a : Addr} {o : HO}
theorem ObjOk.lt (x : ObjOk P w H h a o) : a < h.objs.size := by
  cases o with
  | lst xs => obtain ⟨_, _, _, _, e⟩ := x; exact Heap.lt_size e
  | tup xs => obtain ⟨_, _, _, p⟩ := x; exact p.lt
  | dK kvs => obtain ⟨_, _, _, _, o, _, _, e, _⟩ := x; exact Heap.lt_size e
  | dT kvs => obtain ⟨_, _, _, _, o, _, _, e, _⟩ := x; exact Heap.lt_size e
  | set S n => obtain ⟨o, _, _, _, e, _⟩ := x; exact Heap.lt_size e
  | ins C dx fs => obtain ⟨_, _, _, e, _⟩ := x; exact Heap.lt_size e
  | own y => obtain ⟨_, e⟩ := x; exact Heap.lt_size e
  | xd fs => obtain ⟨_, ⟨_, _, _, e, _⟩, _⟩ := x; exact Heap.lt_size e
  | rng lo hi => obtain ⟨_, _, _, e⟩ := x; exact Heap.lt_size e
  | frz ob u => obtain ⟨e, _⟩ := x; exact Heap.lt_size e
  | tbl ps => exact Heap.lt_size (show h.get? a = some _ from x)
  | met f y => exact Heap.lt_size (show h.get? a = some _ from x)
  | ext φ => obtain ⟨_, ⟨_, e⟩, _⟩ := x; exact Heap.lt_size e
theorem Paired.mapP {α β : Type} {F G : α → β → Prop} : ∀ {l₁ : List α} {l₂ : List β}, Paired F l₁ l₂ → (∀ a b, F a b → G a b) → Paired G l₁ l₂
  | _, _, .nil, _ => .nil
  | _, _, .cons r t, f => .cons (f _ _ r) (Paired.mapP t f)
theorem ObjOk.stay (x : ObjOk P w H h a o) (k : ∀ b u, (b = a ∨ H b = some (.own a)) → h.get? b = some u → h'.get? b = some u)
    (ho : ∀ b, H b = some (.own a) → H' b = some (.own a)) (ht : ∀ b xs, H b = some (.tup xs) → H' b = some (.tup xs)) : ObjOk P w H' h' a o := by
  induction o with
  | lst xs => obtain ⟨z, its, n, r, e⟩ := x; exact ⟨z, its, n, r, k _ _ (.inl rfl) e⟩
  | tup xs => obtain ⟨z, its, r, ob, e, c⟩ := x; exact ⟨z, its, r, ob, k _ _ (.inl rfl) e, c⟩
  | dK kvs => obtain ⟨z, y, vs, r, ob, es, ep, e, c⟩ := x; exact ⟨z, y, vs, r, ob, es, ep, k _ _ (.inl rfl) e, c⟩
  | dT kvs =>
    obtain ⟨z, y, xs, r, ob, es, ep, e, c⟩ := x
    exact ⟨z, y, xs, Paired.mapP r fun p q z => ⟨z.1, ht _ _ z.2.1, z.2.2⟩, ob, es, ep, k _ _ (.inl rfl) e, c⟩
  | set S n => obtain ⟨ob, es, ep, t, e, c⟩ := x; exact ⟨ob, es, ep, t, k _ _ (.inl rfl) e, c⟩
  | ins C dx fs =>
    obtain ⟨d, z, ne, e, mA, ⟨od, es, ep, e2, c⟩, r⟩ := x
    exact ⟨ho _ d, z, ne, k _ _ (.inl rfl) e, mA, ⟨od, es, ep, k _ _ (.inr d) e2, c⟩, r⟩
  | own y => obtain ⟨ob, e⟩ := x; exact ⟨ob, k _ _ (.inl rfl) e⟩
  | xd fs => obtain ⟨mA, ⟨od, es, ep, e, c⟩, r⟩ := x; exact ⟨mA, ⟨od, es, ep, k _ _ (.inl rfl) e, c⟩, r⟩
  | rng lo hi => obtain ⟨t, u, v, e⟩ := x; exact ⟨t, u, v, k _ _ (.inl rfl) e⟩
  | frz ob u ih => obtain ⟨e, q⟩ := x; exact ⟨k _ _ (.inl rfl) e, ih q⟩
  | tbl ps =>
    have e : h.get? a = some { cls := .none, data := .fields ps } := x
    show h'.get? a = some { cls := .none, data := .fields ps }
    exact k a _ (.inl rfl) e
  | met f y =>
    have e : h.get? a = some (PySem.W.methodObj (.ref f) (.ref y)) := x
    show h'.get? a = some (PySem.W.methodObj (.ref f) (.ref y))
    exact k a _ (.inl rfl) e
  | ext φ => obtain ⟨p, ⟨o, e⟩, st⟩ := x; exact ⟨st _ _ p fun o q => k _ _ (.inl rfl) q, ⟨o, k _ _ (.inl rfl) e⟩, st⟩
theorem HOk.lt (x : HOk P w H h) (e : H a = some o) : a < h.objs.size := (x a o e).lt
theorem HOk.fresh (x : HOk P w H h) (e : h.objs.size ≤ a) : H a = none := by
  cases q : H a with
  | none => rfl
  | some u => exact absurd (Nat.lt_of_lt_of_le (x.lt q) e) (Nat.lt_irrefl _)
theorem HOk.kept (x : HOk P w H h) (k : ∀ b u, h.get? b = some u → h'.get? b = some u) : HOk P w H h' := fun a o e =>
  (x a o e).stay (fun b u _ q => k b u q) (fun _ q => q) fun _ _ q => q
theorem HOk.laid (x : HOk P w H h) (k : ∀ b u, h.get? b = some u → h'.get? b = some u) (hp : h.objs.size ≤ a) (new : ObjOk P w (upd H a o) h' a o) : HOk P w (upd H a o) h' := fun b u e => by
  have hn := x.fresh hp
  by_cases hb : b = a
  · subst hb; rw [upd_same] at e; cases e; exact new
  · rw [upd_ne hb] at e
    exact (x b u e).stay (fun c v _ q => k c v q) (fun c q => by rw [upd_ne (ne_of_none q hn)]; exact q) fun c xs q => by rw [upd_ne (ne_of_none q hn)]; exact q
end
def Rd (H : Hp) (a : Addr) (u : HO) : Prop := H a = some u ∨ ∃ o, H a = some (.frz o u)
theorem Rd.ok {P : Program} {w : World} {H : Hp} {h : Heap} {a : Addr} {u : HO} (r : Rd H a u) (x : HOk P w H h) : ObjOk P w H h a u := by
  rcases r with r | ⟨o, r⟩
  · exact x a u r
  · obtain ⟨_, q⟩ := x a _ r
    exact q
def Mut : Option HO → Prop
  | some (.lst _) => True
  | some (.dK _) => True
  | some (.dT _) => True
  | some (.set _ _) => True
  | some (.ins _ _ _) => True
  | some (.ext _) => True
  | _ => False
section
variable {P : Program} {w : World} {H : Hp} {h h' : Heap} {x e : Addr} {o' : HO}
theorem HOk.write (ok : HOk P w H h) (mu : Mut (H x)) (he : e = x ∨ H e = some (.own x)) (k : ∀ b u, b ≠ e → h.get? b = some u → h'.get? b = some u) (heo : ∃ u, h'.get? e = some u)
    (new : ObjOk P w (upd H x o') h' x o') : HOk P w (upd H x o') h' := fun b u q => by
  have nown : ∀ c y, H c = some (.own y) → c ≠ x := fun c y r z => by subst z; rw [r] at mu; exact mu
  have ntup : ∀ c xs, H c = some (.tup xs) → c ≠ x := fun c xs r z => by subst z; rw [r] at mu; exact mu
  by_cases hb : b = x
  · subst hb; rw [upd_same] at q; cases q; exact new
  · rw [upd_ne hb] at q
    by_cases hbe : b = e
    · have q' : H b = some (.own x) := by
        rcases he with z | z
        · exact absurd (hbe.trans z) hb
        · rw [hbe]; exact z
      rw [q] at q'; cases q'
      obtain ⟨v, hv⟩ := heo
      exact ⟨v, by rw [hbe]; exact hv⟩
    · refine (ok b u q).stay (fun c v hc r => k c v ?_ r) (fun c r => by rw [upd_ne (nown c b r)]; exact r) fun c xs r => by rw [upd_ne (ntup c xs r)]; exact r
      rcases hc with rfl | hc
      · exact hbe
      · rintro rfl
        rcases he with z | z
        · exact nown c b hc z
        · rw [hc] at z; cases z; exact hb rfl
end
structure Un (fs ex : List Addr) (H H' : Hp) (h h' : Heap) : Prop where
  keep : ∀ b o, h.get? b = some o → H b = none → b ∉ fs → b ∉ ex → h'.get? b = some o
  slot : ∀ b o, h.get? b = some o → H b = none → b ∈ fs → b ∉ ex → ∃ sl, h'.get? b = some { o with slots := sl }
  free : ∀ b o, h.get? b = some o → H b = none → b ∉ ex → H' b = none
  there : ∀ b o, h.get? b = some o → b ∉ ex → ∃ o', h'.get? b = some o'
  tups : ∀ b xs, H b = some (.tup xs) → H' b = some (.tup xs)
  frzs : ∀ b o u, H b = some (.frz o u) → H' b = some (.frz o u)
  tbls : ∀ b ps, H b = some (.tbl ps) → ∃ more, H' b = some (.tbl (ps ++ more))
section
variable {fs fs' ex ex' : List Addr} {H H1 H2 : Hp} {h h1 h2 h' : Heap} {a x e : Addr} {o : HO}
theorem Un.any (u : Un fs ex H H1 h h1) {b : Addr} {ob : Obj} (q : h.get? b = some ob) (n : H b = none) (hx : b ∉ ex) : ∃ sl, h1.get? b = some { ob with slots := sl } := by
  by_cases hb : b ∈ fs
  · exact u.slot b ob q n hb hx
  · exact ⟨ob.slots, u.keep b ob q n hb hx⟩
theorem Un.kept (k : ∀ b u, h.get? b = some u → h'.get? b = some u) : Un fs ex H H h h' :=
  ⟨fun b ob q _ _ _ => k b ob q, fun b ob q _ _ _ => ⟨ob.slots, k b ob q⟩, fun _ _ _ n _ => n, fun b ob q _ => ⟨ob, k b ob q⟩, fun _ _ q => q, fun _ _ _ q => q, fun _ ps q => ⟨#[], by rw [q]; simp⟩⟩
theorem Un.refl : Un fs ex H H h h := Un.kept fun _ _ q => q
theorem Un.laid (k : ∀ b u, h.get? b = some u → h'.get? b = some u) (hp : h.objs.size ≤ a) (hn : H a = none) : Un fs ex H (upd H a o) h h' where
  keep := fun b u q _ _ _ => k b u q
  slot := fun b u q _ _ _ => ⟨u.slots, k b u q⟩
  free := fun b u q n _ => by rw [upd_ne (Nat.ne_of_lt (Nat.lt_of_lt_of_le (Heap.lt_size q) hp))]; exact n
  there := fun b u q _ => ⟨u, k b u q⟩
  tups := fun b xs q => by rw [upd_ne (ne_of_none q hn)]; exact q
  frzs := fun b u xs q => by rw [upd_ne (ne_of_none q hn)]; exact q
  tbls := fun b ps q => ⟨#[], by rw [upd_ne (ne_of_none q hn), q]; simp⟩
theorem Un.write (mu : Mut (H x)) (he : e = x ∨ H e = some (.own x)) (k : ∀ b u, b ≠ e → h.get? b = some u → h'.get? b = some u) (heo : ∃ u, h'.get? e = some u) : Un fs ex H (upd H x o) h h' := by
  have hx : ∀ b, H b = none → b ≠ x := fun b n z => by subst z; rw [n] at mu; exact mu
  have hb : ∀ b, H b = none → b ≠ e := fun b n z => by
    subst z
    rcases he with r | r
    · exact hx b n r
    · rw [n] at r; cases r
  have hm : ∀ b u, H b = some u → ¬ Mut (some u) → b ≠ x := fun b u q nm z => by subst z; rw [q] at mu; exact nm mu
  refine ⟨fun b u q n _ _ => k b u (hb b n) q, fun b u q n _ _ => ⟨u.slots, k b u (hb b n) q⟩, fun b u q n _ => by rw [upd_ne (hx b n)]; exact n, fun b u q _ => ?_,
    fun b xs q => by rw [upd_ne (hm b _ q fun z => z)]; exact q, fun b u xs q => by rw [upd_ne (hm b _ q fun z => z)]; exact q, fun b ps q => ⟨#[], by rw [upd_ne (hm b _ q fun z => z), q]; simp⟩⟩
  by_cases hbe : b = e
  · subst hbe; exact heo
  · exact ⟨u, k b u hbe q⟩
end
def trk (h : Heap) (H : Hp) : List Addr := (List.range h.objs.size).filter fun a => (H a).isSome
def hidT (h : Heap) (H : Hp) : Heap := PySem.W.hideAll h (trk h H)
theorem hidT_size (h : Heap) (H : Hp) : (hidT h H).objs.size = h.objs.size := PySem.W.hideAll_size _ _
theorem hidT_get {h : Heap} {H : Hp} {b : Addr} {o : Obj} (e : h.get? b = some o) (n : H b = none) : (hidT h H).get? b = some o :=
  PySem.W.hideAll_get _ e fun hm => by
    have q : (H b).isSome = true := (List.mem_filter.mp hm).2
    rw [n] at q; simp at q
theorem of_hidT {h : Heap} {H : Hp} {b : Addr} {o : Obj} (e : (hidT h H).get? b = some o) : h.get? b = some o ∧ H b = none := by
  have e' : h.get? b = some o := PySem.W.of_hideAll (trk h H) e
  refine ⟨e', ?_⟩
  cases q : H b with
  | none => rfl
  | some x =>
    have hm : b ∈ trk h H := List.mem_filter.mpr ⟨List.mem_range.mpr (Heap.lt_size e'), by simp [q]⟩
    have z : (hidT h H).get? b = none := PySem.W.hideAll_none (trk h H) hm
    rw [z] at e; cases e
def allNews (g h : Heap) (L : Addr) : List (Addr × Obj) := (List.range h.objs.size).filterMap fun a => if a = L ∨ (g.get? a).isSome = true then none else (h.get? a).map fun o => (a, o)
def rest (g h : Heap) (L d : Addr) : List (Addr × Obj) := (allNews g h L).filter fun p => decide (p.1 ≠ d)
end L2
namespace L2
open PySem PySem.Spec PyProof.Rows
structure Mod (K : PySem.W.Frag) (mg : Str → Option Value) (base : Heap) : Prop where
  kin : K.In base
  glob : base.Ns mainGlobals mg
  blt : ∃ mb, base.Ns builtinsNs mb ∧ ∀ x : Str, x ≠ "__name__" → mb x = bootBuiltins x
  nolimit : base.NoLimit
structure Cx where
  prog : Program
  w : World
  K : PySem.W.Frag
  mg : Str → Option Value
  base : Heap
  A : Around
  N : List Str
  s₀ : Shared
  H₀ : Hp
  env : Env
  outer : List Env
  stack : List Env
  ex : List Addr
  fn : Str → Bool
  calm : Bool
  pn : List (Addr × Obj)
  xe : Value → Shared → Prop
def frs (l : List Env) : List Addr := l.filterMap (·.frame)
abbrev Cx.fs (X : Cx) : List Addr := frs X.outer
def Vis (sc : Scope) (x : Str) : Prop := sc.names.lookup x = some .local ∨ sc.names.lookup x = some .cell ∨ sc.names.lookup x = some .free
def Loc (sc : Scope) (x : Str) : Prop := sc.names.lookup x = some .local ∨ sc.names.lookup x = some .cell
def Look (env : Env) (h : Heap) (m : Str → Option Value) (x : Str) (u : Value) : Prop :=
  (env.kindOf x = some .local ∧ m x = some u) ∨ ((env.kindOf x = some .cell ∨ env.kindOf x = some .free) ∧ ∃ c, env.cells.lookup x = some c ∧ h.IsCell c (some u))
structure Cx.Ok (X : Cx) : Prop where
  mod : Mod X.K X.mg X.base
  kind : X.env.scope.kind = .function
  glob : X.env.globals = mainGlobals
  blt : X.env.builtins = builtinsNs
  above : X.s₀.heap.objs.size ≤ X.env.locals
  inj : ∀ x y c, X.env.cells.lookup x = some c → X.env.cells.lookup y = some c → x = y
  has : ∀ x, (X.env.kindOf x = some .cell ∨ X.env.kindOf x = some .free) → ∃ c, X.env.cells.lookup x = some c
  cab : ∀ x c, X.fn x = true → X.env.cells.lookup x = some c → X.s₀.heap.objs.size ≤ c
  hd : X.calm = true → X.A.handled = none
  frames : X.A.frames = some X.stack
  stk : X.stack = X.outer ∨ (X.stack = X.env :: X.outer ∧ X.env.frame = some X.env.locals)
  exf : ∀ b ∈ X.ex, b ≠ X.env.locals ∧ ∀ x c, X.env.cells.lookup x = some c → c ≠ b
  bs : ∀ b o, X.base.get? b = some o → X.s₀.heap.get? b = some o ∧ X.H₀ b = none
  bsz : X.base.objs.size ≤ X.s₀.heap.objs.size
  noex : ∀ b o, X.base.get? b = some o → b ∉ X.ex
  exfs : ∀ b ∈ X.ex, b ∉ X.fs
  funs : X.s₀.heap.FunFrames X.base X.outer
  frf : ∀ b ∈ X.fs, X.H₀ b = none
structure Inv (X : Cx) (pins : List (Addr × Obj)) (σ : List (Option V)) (H : Hp) (s : Shared) : Prop where
  ok : X.Ok
  os : s.os = X.s₀.os
  bare : AllBare s.gens
  base : Un X.fs X.ex X.H₀ H X.s₀.heap s.heap
  loc : ∃ m, s.heap.Ns X.env.locals m ∧ ∀ (i : Nat) (x : Str) (v : V), X.N[i]? = some x → σ[i]? = some (some v) → Vis X.env.scope x → ∃ u, RelV v u ∧ Look X.env s.heap m x u
  cell : ∀ x c, X.env.cells.lookup x = some c → ∃ v, s.heap.IsCell c v
  free : H X.env.locals = none
  freeC : ∀ x c, X.env.cells.lookup x = some c → H c = none
  pin : ∀ p ∈ X.pn ++ pins, s.heap.get? p.1 = some p.2 ∧ H p.1 = none ∧ p.1 ≠ X.env.locals ∧ p.1 ∉ X.fs ∧ ∀ v, p.2.data ≠ .cell v
  hok : HOk X.prog X.w H s.heap
  len : σ.length = X.N.length
section
variable {X : Cx} {pins : List (Addr × Obj)} {σ : List (Option V)} {H H' : Hp} {s : Shared} {h' : Heap}
theorem Cx.Ok.nofr (ok : X.Ok) {b : Addr} {o : Obj} (e : X.base.get? b = some o) : b ∉ X.fs := fun hb => by
  have := (ok.funs.mem hb).1
  rw [e] at this; cases this
theorem Inv.bs (I : Inv X pins σ H s) : ∀ b o, X.base.get? b = some o → s.heap.get? b = some o ∧ H b = none := fun b o e =>
  ⟨I.base.keep b o (I.ok.bs b o e).1 (I.ok.bs b o e).2 (I.ok.nofr e) (I.ok.noex b o e), I.base.free b o (I.ok.bs b o e).1 (I.ok.bs b o e).2 (I.ok.noex b o e)⟩
theorem Inv.bk (I : Inv X pins σ H s) : ∀ b o, X.base.get? b = some o → s.heap.get? b = some o := fun b o e => (I.bs b o e).1
theorem Inv.mod (I : Inv X pins σ H s) : Mod X.K X.mg X.base := I.ok.mod
theorem Inv.kIn (I : Inv X pins σ H s) : X.K.In s.heap := I.ok.mod.kin.keeps I.bk
theorem Inv.lt (I : Inv X pins σ H s) : X.env.locals < s.heap.objs.size := let ⟨_, hn, _⟩ := I.loc; hn.lt
theorem Inv.sz (I : Inv X pins σ H s) : X.s₀.heap.objs.size ≤ s.heap.objs.size := Nat.le_trans I.ok.above (Nat.le_of_lt I.lt)
theorem Inv.nofs (I : Inv X pins σ H s) {a : Addr} (h : s.heap.objs.size ≤ a) : a ∉ X.fs := fun hb => by
  obtain ⟨_, o, ho, _⟩ := I.ok.funs.mem hb
  exact absurd (Nat.lt_of_lt_of_le (Heap.lt_size ho) (Nat.le_trans I.sz h)) (Nat.lt_irrefl _)
theorem Inv.cne (I : Inv X pins σ H s) : ∀ x c, X.env.cells.lookup x = some c → c ≠ X.env.locals := fun x c e z => by
  obtain ⟨v, o, ho, hd⟩ := I.cell x c e
  obtain ⟨m, ⟨o', es, ep, ho', hd', _⟩, _⟩ := I.loc
  rw [z, ho'] at ho; cases ho; rw [hd'] at hd; cases hd
theorem Inv.funs (I : Inv X pins σ H s) : s.heap.FunFrames X.base X.outer := by
  have all : ∀ (l : List Env), (∀ b ∈ frs l, b ∈ X.fs) → X.s₀.heap.FunFrames X.base l → s.heap.FunFrames X.base l := by
    intro l
    induction l with
    | nil => intro _ _; trivial
    | cons env r ih =>
      intro hs hl
      obtain ⟨hk, ⟨L, o, hf, hn, ho, hd⟩, hr⟩ := hl
      have hL : L ∈ X.fs := hs L (by unfold frs; rw [List.filterMap_cons, hf]; exact List.mem_cons_self)
      obtain ⟨sl, e⟩ := I.base.slot L o ho (I.ok.frf L hL) hL fun z => I.ok.exfs L z hL
      exact ⟨hk, ⟨L, _, hf, hn, e, hd⟩, ih (fun b hb => hs b (by unfold frs; rw [List.filterMap_cons, hf]; exact List.mem_cons_of_mem _ hb)) hr⟩
  exact all X.outer (fun _ hb => hb) I.ok.funs
theorem Inv.stack (I : Inv X pins σ H s) : s.heap.FunFrames X.base X.stack := by
  rcases I.ok.stk with e | ⟨e, hf⟩
  · rw [e]; exact I.funs
  · rw [e]
    obtain ⟨m, hn, _⟩ := I.loc
    refine .cons (by rw [I.ok.kind]; decide) hf hn ?_ I.funs
    exact Heap.get?_none_of_le (Nat.le_trans I.ok.bsz I.ok.above)
theorem Inv.stkSub (I : Inv X pins σ H s) : ∀ b ∈ frs X.stack, b ∈ X.env.locals :: X.fs := fun b hb => by
  rcases I.ok.stk with e | ⟨e, hf⟩
  · rw [e] at hb; exact List.mem_cons_of_mem _ hb
  · rw [e] at hb
    unfold frs at hb
    rw [List.filterMap_cons, hf] at hb
    exact hb
theorem Inv.stkFree (I : Inv X pins σ H s) : ∀ b ∈ frs X.stack, H b = none := fun b hb => by
  rcases List.mem_cons.mp (I.stkSub b hb) with e | hb
  · rw [e]; exact I.free
  · obtain ⟨_, o, ho, _⟩ := I.ok.funs.mem hb
    exact I.base.free b o ho (I.ok.frf b hb) fun z => I.ok.exfs b z hb
theorem Inv.step {g' : Array GenState} {t' : Nat} {d' : Drawn} {ch : List Addr} (I : Inv X pins σ H s)
    (hch : ∀ b ∈ ch, (b ∈ X.ex ∨ X.s₀.heap.objs.size ≤ b) ∧ b ≠ X.env.locals ∧ (∀ x c, X.env.cells.lookup x = some c → c ≠ b) ∧ ∀ p ∈ X.pn ++ pins, p.1 ≠ b)
    (keep : ∀ b o, b ≠ X.env.locals → b ∉ X.fs → b ∉ ch → s.heap.get? b = some o → H b = none → h'.get? b = some o)
    (slot : ∀ b o, b ≠ X.env.locals → b ∈ X.fs → b ∉ ch → s.heap.get? b = some o → H b = none → ∃ sl, h'.get? b = some { o with slots := sl }) (free : ∀ b o, b ∉ ch → s.heap.get? b = some o → H b = none → H' b = none)
    (there : ∀ b o, b ∉ ch → s.heap.get? b = some o → ∃ o', h'.get? b = some o')
    (tups : ∀ b xs, H b = some (.tup xs) → H' b = some (.tup xs)) (frzs : ∀ b o u, H b = some (.frz o u) → H' b = some (.frz o u)) (tbls : ∀ b ps, H b = some (.tbl ps) → ∃ more, H' b = some (.tbl (ps ++ more)))
    (ns : ∀ m, s.heap.Ns X.env.locals m → h'.Ns X.env.locals m) (hok : HOk X.prog X.w H' h') (hg : AllBare g') :
    Inv X pins σ H' { s with heap := h', gens := g', drawn := d', toks := t' } := by
  have neL : ∀ b o, X.s₀.heap.get? b = some o → b ≠ X.env.locals := fun b o e => Nat.ne_of_lt (Nat.lt_of_lt_of_le (Heap.lt_size e) I.ok.above)
  have neC : ∀ b o, X.s₀.heap.get? b = some o → b ∉ X.ex → b ∉ ch := fun b o e hx hb => by
    rcases (hch b hb).1 with z | z
    · exact hx z
    · exact absurd (Nat.lt_of_lt_of_le (Heap.lt_size e) z) (Nat.lt_irrefl _)
  have cellK : ∀ x c, X.env.cells.lookup x = some c → ∀ v, s.heap.IsCell c v → h'.IsCell c v := fun x c e v ⟨o, ho, hd⟩ => by
    have nch : c ∉ ch := fun z => (hch c z).2.2.1 x c e rfl
    by_cases hc : c ∈ X.fs
    · obtain ⟨sl, q⟩ := slot c o (I.cne x c e) hc nch ho (I.freeC x c e)
      exact ⟨_, q, hd⟩
    · exact ⟨o, keep c o (I.cne x c e) hc nch ho (I.freeC x c e), hd⟩
  refine ⟨I.ok, I.os, hg, ⟨fun b o e n hb hx => ?_, fun b o e n hb hx => ?_, fun b o e n hx => ?_, fun b o e hx => ?_, fun b xs e => tups b xs (I.base.tups b xs e), fun b o xs e => frzs b o xs (I.base.frzs b o xs e), fun b ps e => ?_⟩, ?_, fun x c e => ?_, ?_, fun x c e => ?_, fun p hp => ?_, hok, I.len⟩
  · exact keep b o (neL b o e) hb (neC b o e hx) (I.base.keep b o e n hb hx) (I.base.free b o e n hx)
  · obtain ⟨sl, e1⟩ := I.base.slot b o e n hb hx
    obtain ⟨sl', e2⟩ := slot b _ (neL b o e) hb (neC b o e hx) e1 (I.base.free b o e n hx)
    exact ⟨sl', e2⟩
  · obtain ⟨o', e1⟩ := I.base.there b o e hx
    exact free b o' (neC b o e hx) e1 (I.base.free b o e n hx)
  · obtain ⟨o', e1⟩ := I.base.there b o e hx
    exact there b o' (neC b o e hx) e1
  · obtain ⟨m1, e1⟩ := I.base.tbls b ps e
    obtain ⟨m2, e2⟩ := tbls b _ e1
    exact ⟨m1 ++ m2, by rw [e2, Array.append_assoc]⟩
  · obtain ⟨m, hn, hl⟩ := I.loc
    refine ⟨m, ns m hn, fun i x v e1 e2 e3 => ?_⟩
    obtain ⟨u, r, l⟩ := hl i x v e1 e2 e3
    refine ⟨u, r, ?_⟩
    rcases l with l | ⟨k, c, e, z⟩
    · exact .inl l
    · exact .inr ⟨k, c, e, cellK x c e _ z⟩
  · obtain ⟨v, z⟩ := I.cell x c e
    exact ⟨v, cellK x c e v z⟩
  · obtain ⟨m, ⟨o, _, _, ho, _⟩, _⟩ := I.loc
    exact free _ o (fun z => (hch _ z).2.1 rfl) ho I.free
  · obtain ⟨v, o, ho, hd⟩ := I.cell x c e
    exact free c o (fun z => (hch c z).2.2.1 x c e rfl) ho (I.freeC x c e)
  · obtain ⟨e, n, ne, nf, d⟩ := I.pin p hp
    have nch : p.1 ∉ ch := fun z => (hch p.1 z).2.2.2 p hp rfl
    exact ⟨keep p.1 p.2 ne nf nch e n, free p.1 p.2 nch e n, ne, nf, d⟩
theorem Inv.un {t' : Nat} (I : Inv X pins σ H s) (u : Un X.fs [] H H' s.heap h') (hok : HOk X.prog X.w H' h') : Inv X pins σ H' { s with heap := h', toks := t' } := by
  obtain ⟨m, ⟨o, es, ep, ho, r⟩, _⟩ := id I.loc
  obtain ⟨sl, hL⟩ := u.any ho I.free (by simp)
  exact I.step (g' := s.gens) (d' := s.drawn) (ch := []) (fun _ z => nomatch z) (fun b o _ hb _ e n => u.keep b o e n hb (by simp)) (fun b o _ hb _ e n => u.slot b o e n hb (by simp)) (fun b o _ e n => u.free b o e n (by simp)) (fun b o _ e => u.there b o e (by simp)) u.tups u.frzs u.tbls (fun m' hm => by
    obtain ⟨o', es', ep', ho', r'⟩ := hm
    rw [ho] at ho'; cases ho'
    exact ⟨_, es', ep', hL, r'⟩) hok I.bare
theorem Inv.call {g' : Array GenState} {t' : Nat} {d' : Drawn} {ch : List Addr} (I : Inv X pins σ H s) (u : Un (frs X.stack) ch H H' s.heap h') (hok : HOk X.prog X.w H' h') (hg : AllBare g')
    (hch : ∀ b ∈ ch, (b ∈ X.ex ∨ X.s₀.heap.objs.size ≤ b) ∧ b ≠ X.env.locals ∧ (∀ x c, X.env.cells.lookup x = some c → c ≠ b) ∧ ∀ p ∈ X.pn ++ pins, p.1 ≠ b) :
    Inv X pins σ H' { s with heap := h', gens := g', drawn := d', toks := t' } := by
  obtain ⟨m, ⟨o, es, ep, ho, r⟩, _⟩ := id I.loc
  obtain ⟨sl, hL⟩ := u.any ho I.free fun z => (hch _ z).2.1 rfl
  exact I.step (ch := ch) hch (fun b o hL hb hc e n => u.keep b o e n (fun z => (List.mem_cons.mp (I.stkSub b z)).elim hL hb) hc) (fun b o _ _ hc e n => u.any e n hc) (fun b o hc e n => u.free b o e n hc) (fun b o hc e => u.there b o e hc) u.tups u.frzs u.tbls (fun m' hm => by
    obtain ⟨o', es', ep', ho', r'⟩ := hm
    rw [ho] at ho'; cases ho'
    exact ⟨_, es', ep', hL, r'⟩) hok hg
theorem Inv.turned {t' : Nat} {it : Addr} (I : Inv X pins σ H s) (k : ∀ b o, b ≠ it → s.heap.get? b = some o → h'.get? b = some o) (hn : H it = none) (hL : it ≠ X.env.locals)
    (h1 : it ∈ X.ex ∨ X.s₀.heap.objs.size ≤ it) (h2 : ∀ x c, X.env.cells.lookup x = some c → c ≠ it) (h3 : ∀ p ∈ X.pn ++ pins, p.1 ≠ it) : Inv X pins σ H { s with heap := h', toks := t' } := by
  have nit : ∀ b u, H b = some u → b ≠ it := fun b u e z => by rw [z, hn] at e; cases e
  refine I.step (g' := s.gens) (d' := s.drawn) (ch := [it]) (fun b hb => ?_) (fun b o _ _ hc e _ => k b o (fun z => hc (by simp [z])) e) (fun b o _ _ hc e _ => ⟨o.slots, k b o (fun z => hc (by simp [z])) e⟩) (fun _ _ _ _ n => n)
    (fun b o hc e => ⟨o, k b o (fun z => hc (by simp [z])) e⟩) (fun _ _ e => e) (fun _ _ _ e => e) (fun b ps e => ⟨#[], by rw [e]; simp⟩) (fun m hm => ?_) (fun b u e => ?_) I.bare
  · have e : b = it := by simpa using hb
    subst e
    exact ⟨h1, hL, h2, h3⟩
  · obtain ⟨o, es, ep, ho, r⟩ := hm
    exact ⟨o, es, ep, k _ o (Ne.symm hL) ho, r⟩
  · refine (I.hok b u e).stay (fun c v hc q => k c v ?_ q) (fun _ q => q) fun _ _ q => q
    rcases hc with z | z
    · rw [z]; exact nit b u e
    · exact nit c _ z
theorem Inv.tok (I : Inv X pins σ H s) (t : Nat) : Inv X pins σ H { s with toks := t } := I.un (h' := s.heap) (t' := t) Un.refl I.hok
theorem Inv.kept {t' : Nat} (I : Inv X pins σ H s) (k : ∀ b u, s.heap.get? b = some u → h'.get? b = some u) : Inv X pins σ H { s with heap := h', toks := t' } := I.un (Un.kept k) (I.hok.kept k)
theorem Inv.laid {a : Addr} {o : HO} {t' : Nat} (I : Inv X pins σ H s) (k : ∀ b u, s.heap.get? b = some u → h'.get? b = some u) (hp : s.heap.objs.size ≤ a) (new : ObjOk X.prog X.w (upd H a o) h' a o) :
    Inv X pins σ (upd H a o) { s with heap := h', toks := t' } := I.un (Un.laid k hp (I.hok.fresh hp)) (I.hok.laid k hp new)
theorem Inv.write {x e : Addr} {o : HO} {t' : Nat} (I : Inv X pins σ H s) (mu : Mut (H x)) (he : e = x ∨ H e = some (.own x)) (k : ∀ b u, b ≠ e → s.heap.get? b = some u → h'.get? b = some u) (heo : ∃ u, h'.get? e = some u)
    (new : ObjOk X.prog X.w (upd H x o) h' x o) : Inv X pins σ (upd H x o) { s with heap := h', toks := t' } := I.un (Un.write mu he k heo) (I.hok.write mu he k heo new)
theorem Inv.weak {σ' : List (Option V)} (I : Inv X pins σ H s) (hl : σ'.length = σ.length) (w : ∀ (i : Nat) v, σ'[i]? = some (some v) → σ[i]? = some (some v)) : Inv X pins σ' H s :=
  ⟨I.ok, I.os, I.bare, I.base, let ⟨m, hn, hl'⟩ := I.loc; ⟨m, hn, fun i x v e1 e2 e3 => hl' i x v e1 (w i v e2) e3⟩, I.cell, I.free, I.freeC, I.pin, I.hok, hl.trans I.len⟩
theorem Inv.pins_of {pins' : List (Addr × Obj)} (I : Inv X pins σ H s) (h : ∀ p ∈ pins', s.heap.get? p.1 = some p.2 ∧ H p.1 = none ∧ p.1 ≠ X.env.locals ∧ p.1 ∉ X.fs ∧ ∀ v, p.2.data ≠ .cell v) : Inv X pins' σ H s :=
  ⟨I.ok, I.os, I.bare, I.base, I.loc, I.cell, I.free, I.freeC, fun p hp => (List.mem_append.mp hp).elim (fun z => I.pin p (List.mem_append_left _ z)) (h p), I.hok, I.len⟩
theorem nodup_ix {N : List Str} (hN : N.Nodup) {i j : Nat} {x : Str} (a : N[i]? = some x) (b : N[j]? = some x) : i = j := by
  obtain ⟨h1, e1⟩ := List.getElem?_eq_some_iff.mp a
  obtain ⟨h2, e2⟩ := List.getElem?_eq_some_iff.mp b
  exact (List.getElem_inj hN).mp (e1.trans e2.symm)
theorem store_ok2 {M : Model} {A : Around} {E : Value → Shared → Prop} {i : Nat} {x : Str} {v : V} {u : Value} {Q : Unit → Shared → Prop} (I : Inv X pins σ H s) (hN : X.N.Nodup) (hi : X.N[i]? = some x) (hx : Loc X.env.scope x) (r : RelV v u)
    (h : ∀ s', Inv X pins (σ.set i (some v)) H s' → (∃ a, Heap.SameBut a s.heap s'.heap ∧ (a = X.env.locals ∨ X.env.cells.lookup x = some a)) → Q () s') (hf : X.fn x = true ∨ X.env.scope.names.lookup x = some .local := by first | exact .inl rfl | exact .inr rfl | assumption) : wpAny M A (storeName X.env x u) Q E s := by
  obtain ⟨m, hn, hl⟩ := id I.loc
  have hcls : (X.env.scope.kind == .class || (X.env.scope.kind == .module && X.env.locals != X.env.globals)) = false := by rw [I.ok.kind]; rfl
  have hiσ : i < σ.length := by rw [I.len]; exact (List.getElem?_eq_some_iff.mp hi).1
  have cne := I.cne
  have tracked : ∀ {a : Addr} {h' : Heap}, (∃ o, s.heap.get? a = some o ∧ H a = none) → Heap.SameBut a s.heap h' → HOk X.prog X.w H h' := fun {a h'} ha hs b ob e => by
    obtain ⟨_, _, hfree⟩ := ha
    refine (I.hok b ob e).stay (fun c w' hc q => (hs.2 c ?_).trans q) (fun _ q => q) fun _ _ q => q
    rintro rfl
    rcases hc with rfl | hc
    · rw [hfree] at e; cases e
    · rw [hfree] at hc; cases hc
  rcases hx with hk | hk
  · refine wpAny_storeName_local hk hn (fun h' hn' hs => ?_) hcls
    obtain ⟨oL, _, _, hoL, _⟩ := id hn
    refine h _ ⟨I.ok, I.os, I.bare, ⟨fun b o e n hb hx => ?_, fun b o e n hb hx => ?_, I.base.free, fun b o e hx => ?_, I.base.tups, I.base.frzs, I.base.tbls⟩, ⟨_, hn', fun j y v' e1 e2 e3 => ?_⟩, fun y c e => ?_, I.free, I.freeC, fun p hp => ?_, tracked ⟨oL, hoL, I.free⟩ hs, by simpa using I.len⟩ ⟨_, hs, .inl rfl⟩
    · exact (hs.2 b (Nat.ne_of_lt (Nat.lt_of_lt_of_le (Heap.lt_size e) I.ok.above))).trans (I.base.keep b o e n hb hx)
    · obtain ⟨sl, e1⟩ := I.base.slot b o e n hb hx
      exact ⟨sl, (hs.2 b (Nat.ne_of_lt (Nat.lt_of_lt_of_le (Heap.lt_size e) I.ok.above))).trans e1⟩
    · obtain ⟨o', e1⟩ := I.base.there b o e hx
      exact ⟨o', (hs.2 b (Nat.ne_of_lt (Nat.lt_of_lt_of_le (Heap.lt_size e) I.ok.above))).trans e1⟩
    · by_cases hj : j = i
      · subst hj
        rw [hi] at e1; cases e1
        rw [List.getElem?_set_self hiσ] at e2
        cases e2
        exact ⟨u, r, .inl ⟨hk, by simp⟩⟩
      · rw [List.getElem?_set_ne (Ne.symm hj)] at e2
        obtain ⟨u', r', q⟩ := hl j y v' e1 e2 e3
        refine ⟨u', r', ?_⟩
        rcases q with ⟨k, e⟩ | ⟨k, c, e, z⟩
        · refine .inl ⟨k, ?_⟩
          have : y ≠ x := fun e => hj (nodup_ix hN e1 (e ▸ hi))
          simp [this, e]
        · exact .inr ⟨k, c, e, z.sameBut hs (cne y c e)⟩
    · obtain ⟨w', z⟩ := I.cell y c e
      exact ⟨w', z.sameBut hs (cne y c e)⟩
    · obtain ⟨e, n, ne, nf, d⟩ := I.pin p hp
      exact ⟨(hs.2 p.1 ne).trans e, n, ne, nf, d⟩
  · have hfn : X.fn x = true := by
      rcases hf with z | z
      · exact z
      · rw [z] at hk; cases hk
    obtain ⟨c, hc⟩ := I.ok.has x (.inl hk)
    obtain ⟨w', z⟩ := I.cell x c hc
    refine wpAny_storeName_cell I.ok.kind hk hc z (fun h' hc' hs => ?_)
    obtain ⟨oc, hoc, hocd⟩ := id z
    refine h { s with heap := h' } ⟨I.ok, I.os, I.bare, ⟨fun b o e n hb hx => ?_, fun b o e n hb hx => ?_, I.base.free, fun b o e hx => ?_, I.base.tups, I.base.frzs, I.base.tbls⟩, ⟨m, hn.sameBut hs (Ne.symm (cne x c hc)), fun j y v' e1 e2 e3 => ?_⟩, fun y c' e => ?_, I.free, I.freeC, fun p hp => ?_, tracked ⟨oc, hoc, I.freeC x c hc⟩ hs, by simpa using I.len⟩ ⟨c, hs, .inr hc⟩
    · exact (hs.2 b (Nat.ne_of_lt (Nat.lt_of_lt_of_le (Heap.lt_size e) (I.ok.cab x c hfn hc)))).trans (I.base.keep b o e n hb hx)
    · obtain ⟨sl, e1⟩ := I.base.slot b o e n hb hx
      exact ⟨sl, (hs.2 b (Nat.ne_of_lt (Nat.lt_of_lt_of_le (Heap.lt_size e) (I.ok.cab x c hfn hc)))).trans e1⟩
    · obtain ⟨o', e1⟩ := I.base.there b o e hx
      exact ⟨o', (hs.2 b (Nat.ne_of_lt (Nat.lt_of_lt_of_le (Heap.lt_size e) (I.ok.cab x c hfn hc)))).trans e1⟩
    · by_cases hj : j = i
      · subst hj
        rw [hi] at e1; cases e1
        rw [List.getElem?_set_self hiσ] at e2
        cases e2
        exact ⟨u, r, .inr ⟨.inl hk, c, hc, hc'⟩⟩
      · rw [List.getElem?_set_ne (Ne.symm hj)] at e2
        obtain ⟨u', r', q⟩ := hl j y v' e1 e2 e3
        refine ⟨u', r', ?_⟩
        rcases q with q | ⟨k, c', e, z'⟩
        · exact .inl q
        · refine .inr ⟨k, c', e, z'.sameBut hs ?_⟩
          rintro rfl
          exact hj (nodup_ix hN e1 (I.ok.inj _ _ _ e hc ▸ hi))
    · by_cases hcc : c' = c
      · subst hcc; exact ⟨_, hc'⟩
      · obtain ⟨w2, z2⟩ := I.cell y c' e
        exact ⟨w2, z2.sameBut hs hcc⟩
    · obtain ⟨e, n, ne, nf, d⟩ := I.pin p hp
      refine ⟨(hs.2 p.1 ?_).trans e, n, ne, nf, d⟩
      intro q
      rw [q, hoc] at e
      have q' : oc = p.2 := Option.some.inj e
      exact d w' (by rw [← q']; exact hocd)
theorem store_ok {M : Model} {A : Around} {E : Value → Shared → Prop} {i : Nat} {x : Str} {v : V} {u : Value} {Q : Unit → Shared → Prop} (I : Inv X pins σ H s) (hN : X.N.Nodup) (hi : X.N[i]? = some x) (hx : Loc X.env.scope x) (r : RelV v u)
    (h : ∀ s', Inv X pins (σ.set i (some v)) H s' → Q () s') (hf : X.fn x = true ∨ X.env.scope.names.lookup x = some .local := by first | exact .inl rfl | exact .inr rfl | assumption) : wpAny M A (storeName X.env x u) Q E s :=
  store_ok2 I hN hi hx r (fun s' I' _ => h s' I') hf
theorem Inv.call' {s' : Shared} {ch : List Addr} (I : Inv X pins σ H s) (ho : s'.os = s.os) (u : Un (frs X.stack) ch H H' s.heap s'.heap) (hok : HOk X.prog X.w H' s'.heap) (hg : AllBare s'.gens)
    (hch : ∀ b ∈ ch, (b ∈ X.ex ∨ X.s₀.heap.objs.size ≤ b) ∧ b ≠ X.env.locals ∧ (∀ x c, X.env.cells.lookup x = some c → c ≠ b) ∧ ∀ p ∈ X.pn ++ pins, p.1 ≠ b) : Inv X pins σ H' s' := by
  obtain ⟨h', g', d', t', o'⟩ := s'
  have e : o' = s.os := ho
  subst e
  exact I.call (g' := g') (t' := t') (d' := d') u hok hg hch
end
abbrev XK := Value → Option Addr → Hp → Prop
abbrev St := List (Option V)
abbrev VK := V → Hp → Prop
abbrev TE := St → Hp → VK → Prop
abbrev TT := St → Hp → (Bool → Hp → Prop) → Prop
abbrev TA := St → Hp → (List V → Hp → Prop) → Prop
structure Ends where
  nx : St → Hp → Prop
  rt : VK
  bk : St → Hp → Prop := fun _ _ => False
  ct : St → Hp → Prop := fun _ _ => False
abbrev TS := Ends → St → Hp → Prop
def EP (X : Cx) (pins : List (Addr × Obj)) (σ : St) (Q : VK) (u : Value) (s' : Shared) : Prop := ∃ v H', Inv X pins σ H' s' ∧ RelV v u ∧ Q v H'
def TP (X : Cx) (pins : List (Addr × Obj)) (σ : St) (Q : Bool → Hp → Prop) (b : Bool) (s' : Shared) : Prop := ∃ H', Inv X pins σ H' s' ∧ Q b H'
def AP (X : Cx) (pins : List (Addr × Obj)) (σ : St) (Q : List V → Hp → Prop) (us : List Value) (s' : Shared) : Prop := ∃ vs H', Inv X pins σ H' s' ∧ Vals vs us ∧ Q vs H'
def SP (X : Cx) (pins : List (Addr × Obj)) (D : Ends) (f : Flow) (s' : Shared) : Prop :=
  match f with
  | .next => ∃ σ' H', Inv X pins σ' H' s' ∧ D.nx σ' H'
  | .brk => ∃ σ' H', Inv X pins σ' H' s' ∧ D.bk σ' H'
  | .cont => ∃ σ' H', Inv X pins σ' H' s' ∧ D.ct σ' H'
  | .ret u => ∃ v σ' H', Inv X pins σ' H' s' ∧ RelV v u ∧ D.rt v H'
def PE (X : Cx) (e : Expr) (t : TE) : Prop :=
  ∀ (pins : List (Addr × Obj)) (s : Shared) (σ : St) (H : Hp) (Q : VK), Inv X pins σ H s → t σ H Q → wpAny (model X.prog X.w) X.A (eval e X.env) (EP X pins σ Q) X.xe s
def PT (X : Cx) (e : Expr) (t : TT) : Prop :=
  ∀ (pins : List (Addr × Obj)) (s : Shared) (σ : St) (H : Hp) (Q : Bool → Hp → Prop), Inv X pins σ H s → t σ H Q → wpAny (model X.prog X.w) X.A (isTrue e X.env (eval e X.env)) (TP X pins σ Q) X.xe s
def PW (X : Cx) (e : Expr) (t : TT) : Prop :=
  ∀ (whole : Sem Value) (pins : List (Addr × Obj)) (s : Shared) (σ : St) (H : Hp) (Q : Bool → Hp → Prop), Inv X pins σ H s → t σ H Q → wpAny (model X.prog X.w) X.A (isTrue e X.env whole) (TP X pins σ Q) X.xe s
theorem PW.pt {X : Cx} {e : Expr} {t : TT} (h : PW X e t) : PT X e t := h _
def PA (X : Cx) (es : List Expr) (t : TA) : Prop :=
  ∀ (pos : Pos) (pins : List (Addr × Obj)) (s : Shared) (σ : St) (H : Hp) (Q : List V → Hp → Prop), Inv X pins σ H s → t σ H Q → wpAny (model X.prog X.w) X.A (spliced (backTo pos (starEach es X.env))) (AP X pins σ Q) X.xe s
def PS (X : Cx) (st : Stmt) (t : TS) : Prop :=
  ∀ (pins : List (Addr × Obj)) (s : Shared) (σ : St) (H : Hp) (D : Ends), Inv X pins σ H s → t D σ H → wpAny (model X.prog X.w) X.A (exec st X.env) (SP X pins D) X.xe s
def PSs (X : Cx) (st : List Stmt) (t : TS) : Prop :=
  ∀ (pins : List (Addr × Obj)) (s : Shared) (σ : St) (H : Hp) (D : Ends), Inv X pins σ H s → t D σ H → wpAny (model X.prog X.w) X.A (execs st X.env) (SP X pins D) X.xe s
theorem thn {α : Type} {t : Sem α} {Q Q' : α → Shared → Prop} {M : Model} {A : Around} {E : Value → Shared → Prop} {s : Shared} (h : wpAny M A t Q E s) (hQ : ∀ a s, Q a s → Q' a s) : wpAny M A t Q' E s := wpAny_mono h hQ fun _ _ x => x
end L2
namespace L2
open PySem PySem.Spec PyProof.Rows
section
variable {X : Cx}
def tVar (i : Nat) : TE := fun σ H Q => ∃ v, σ[i]? = some (some v) ∧ Q v H
def tC (v : V) : TE := fun _ H Q => Q v H
theorem pe_var {i : Nat} {x : Str} {pos : Pos} (hN : X.N[i]? = some x) (hv : Vis X.env.scope x) (hd : (x == ("__debug__" : Str)) = false := by decide) (hcd : (x == ("__classdict__" : Str)) = false := by decide) : PE X (.Name x pos) (tVar i) := by
  intro pins s σ H Q I h
  obtain ⟨v, e, h⟩ := h
  obtain ⟨m, hn, hl⟩ := I.loc
  obtain ⟨u, r, l⟩ := hl i x v hN e hv
  have fin : EP X pins σ Q u s := ⟨v, H, I, r, h⟩
  rcases l with ⟨hk, hm⟩ | ⟨hk, c, hc, hcell⟩
  · exact wpAny_Name (wpAny_loadName_local I.ok.kind hk hn hm fin) hd
  · rcases hk with hk | hk
    · exact wpAny_Name (wpAny_loadName_cell I.ok.kind hk hc hcell fin) hd
    · exact wpAny_Name (wpAny_loadName_free I.ok.kind hk hc hcell fin hcd) hd
theorem pe_int {i j pos} : PE X (.Constant (.int i) j pos) (tC (.int i)) := fun _ _ _ H _ I h => wpAny_Constant_int ⟨.int i, H, I.tok _, ⟨_, rfl⟩, h⟩
theorem pe_bl {b j pos} : PE X (.Constant (.bool b) j pos) (tC (.bl b)) := fun _ _ _ H _ I h => Constant_bool ⟨.bl b, H, I, rfl, h⟩
theorem pe_non {j pos} : PE X (.Constant .none j pos) (tC .non) := fun _ _ _ H _ I h => Constant_none ⟨.non, H, I, rfl, h⟩
theorem pe_str {x j pos} : PE X (.Constant (.str x) j pos) (tC (.str x)) := fun _ _ _ H _ I h => Calls.Constant_str ⟨.str x, H, I.tok _, ⟨_, rfl⟩, h⟩
def Gl (X : Cx) (x : Str) : Prop := X.env.kindOf x = some .globalImplicit
theorem ld_glob {E : Value → Shared → Prop} {pins : List (Addr × Obj)} {s : Shared} {σ : St} {H : Hp} {x : Str} {u : Value} {pos : Pos} {Q : Value → Shared → Prop} (I : Inv X pins σ H s) (hg : Gl X x) (hm : X.mg x = some u) (h : Q u s)
    (hd : (x == ("__debug__" : Str)) = false := by decide) : wpAny (model X.prog X.w) X.A (eval (.Name x pos) X.env) Q E s :=
  Calls.Name_function_global I.ok.kind hg (Calls.loadGlobal_global (by rw [I.ok.glob]; exact I.mod.glob.keeps I.bk) hm h) hd
theorem ld_blt {E : Value → Shared → Prop} {pins : List (Addr × Obj)} {s : Shared} {σ : St} {H : Hp} {x : Str} {u : Value} {pos : Pos} {Q : Value → Shared → Prop} (I : Inv X pins σ H s) (hg : Gl X x) (hm : X.mg x = none) (hv : bootBuiltins x = some u) (h : Q u s)
    (hn : x ≠ "__name__" := by decide) (hd : (x == ("__debug__" : Str)) = false := by decide) : wpAny (model X.prog X.w) X.A (eval (.Name x pos) X.env) Q E s := by
  obtain ⟨mb, h1, h2⟩ := I.mod.blt
  exact Calls.Name_function_global I.ok.kind hg (Calls.loadGlobal_builtin (by rw [I.ok.glob]; exact I.mod.glob.keeps I.bk) hm (by rw [I.ok.blt]; exact h1.keeps I.bk) ((h2 x hn).trans hv) h) hd
theorem pe_glob {x : Str} {v : V} {u : Value} {pos : Pos} (hg : Gl X x) (hm : X.mg x = some u) (r : RelV v u) (hd : (x == ("__debug__" : Str)) = false := by decide) : PE X (.Name x pos) (tC v) :=
  fun _ _ _ H _ I h => ld_glob I hg hm ⟨v, H, I, r, h⟩ hd
theorem pe_bltn {x : Str} {v : V} {u : Value} {pos : Pos} (hg : Gl X x) (hm : X.mg x = none) (hv : bootBuiltins x = some u) (r : RelV v u) (hn : x ≠ "__name__" := by decide) (hd : (x == ("__debug__" : Str)) = false := by decide) : PE X (.Name x pos) (tC v) :=
  fun _ _ _ H _ I h => ld_blt I hg hm hv ⟨v, H, I, r, h⟩ hn hd
variable {a b : Expr} {ta tb : TE} {pos : Pos}
def PC (X : Cx) (op : CmpOp) (a b : Expr) (t : TE) : Prop :=
  ∀ (pins : List (Addr × Obj)) (s : Shared) (σ : St) (H : Hp) (Q : VK), Inv X pins σ H s → t σ H Q →
    wpAny (model X.prog X.w) X.A (eval a X.env) (fun v s₁ => wpAny (model X.prog X.w) X.A (eval b X.env) (fun u s₂ => wpAny (model X.prog X.w) X.A (compareOp op v u) (EP X pins σ Q) X.xe s₂) X.xe s₁) X.xe s
theorem nobehind (b : Expr) {op : CmpOp} (h : op ≠ .In) (h2 : op ≠ .NotIn) : behindInMarks op b = false := by
  have e1 : (op == CmpOp.In) = false := by cases op <;> first | rfl | exact absurd rfl h
  have e2 : (op == CmpOp.NotIn) = false := by cases op <;> first | rfl | exact absurd rfl h2
  cases b <;> simp [behindInMarks, e1, e2]
def tIsN (ta : TE) : TE := fun σ H Q => ta σ H fun x H1 => Q (.bl (decide (x = .non))) H1
def tNotN (ta : TE) : TE := fun σ H Q => ta σ H fun x H1 => Q (.bl (!decide (x = .non))) H1
theorem RelV.none_iff {x : V} {v : Value} (r : RelV x v) : (v == Value.none) = decide (x = .non) := by
  cases x with
  | non => cases r; rfl
  | bl _ => cases r; rfl
  | int _ => obtain ⟨t, rfl⟩ := r; rfl
  | str _ => obtain ⟨t, rfl⟩ := r; rfl
  | byt _ => obtain ⟨t, rfl⟩ := r; rfl
  | flt _ => obtain ⟨t, rfl⟩ := r; rfl
  | ref _ => cases r; rfl
  | ty _ => cases r; rfl
theorem pc_isN {j pos'} (ha : PE X a ta) : PC X .Is a (.Constant .none j pos') (tIsN ta) := by
  intro pins s σ H Q I h
  refine thn (ha pins s σ H _ I h) fun v s1 ⟨x, H1, I1, r1, q1⟩ => ?_
  exact Constant_none (is_none_gen ⟨.bl _, H1, I1, by rw [r1.none_iff]; rfl, q1⟩)
theorem pc_notN {j pos'} (ha : PE X a ta) : PC X .IsNot a (.Constant .none j pos') (tNotN ta) := by
  intro pins s σ H Q I h
  refine thn (ha pins s σ H _ I h) fun v s1 ⟨x, H1, I1, r1, q1⟩ => ?_
  exact Constant_none (isnot_none_gen ⟨.bl _, H1, I1, by rw [r1.none_iff]; rfl, q1⟩)
def tB (t : TE) : TT := fun σ H Q => t σ H fun x H1 => ∃ c, x = .bl c ∧ Q c H1
theorem pe_cmp {op : CmpOp} {t : TE} (h : PC X op a b t) (h1 : behindInMarks op b = false := by first | exact nobehind _ (by decide) (by decide) | rfl) : PE X (.Compare a [op] [b] pos) t := fun pins s σ H Q I hw => wpAny_Compare1 (h pins s σ H Q I hw) h1
theorem pt_cmp {op : CmpOp} {t : TE} (h : PC X op a b t) (h1 : behindInMarks op b = false := by first | exact nobehind _ (by decide) (by decide) | rfl) : PT X (.Compare a [op] [b] pos) (tB t) := by
  intro pins s σ H Q I hw
  refine wpAny_isTrue_Compare1 (thn (h pins s σ H _ I hw) fun v s1 h1 => thn h1 fun u s2 h2 => thn h2 fun c s3 ⟨x, H1, I1, r1, q1⟩ => ?_) h1
  obtain ⟨d, rfl, q⟩ := q1
  cases r1
  exact wpAny_truthy_bool ⟨H1, I1, q⟩
theorem pt_val {e : Expr} {t : TE} (h : PE X e t) (he : ∀ whole, isTrue e X.env whole = (do let v ← whole; standAt e.pos; holding [v] (truthy v)) := by intro _; rfl) : PT X e (tB t) := by
  intro pins s σ H Q I hw
  refine isTrue_plain (thn (h pins s σ H _ I hw) fun v s1 ⟨x, H1, I1, r1, q1⟩ => ?_) (he _)
  obtain ⟨d, rfl, q⟩ := q1
  cases r1
  exact wpAny_truthy_bool ⟨H1, I1, q⟩
variable {tA tB' : TT} {rest : List Expr}
def tAnd (t u : TT) : TT := fun σ H Q => t σ H fun c H1 => if c = true then u σ H1 Q else Q false H1
def tOr (t u : TT) : TT := fun σ H Q => t σ H fun c H1 => if c = true then Q true H1 else u σ H1 Q
def tNot (t : TT) : TT := fun σ H Q => t σ H fun c H1 => Q (!c) H1
theorem pw_and1 (ha : PT X a tA) : PW X (.BoolOp .And [a] pos) tA := by
  intro wh pins s σ H Q I h
  refine isTrue_and (thn (ha pins s σ H Q I h) fun c s1 e => ?_)
  cases c with
  | true => exact isTrue_and_nil e
  | false => exact e
theorem pw_or1 (ha : PT X a tA) : PW X (.BoolOp .Or [a] pos) tA := by
  intro wh pins s σ H Q I h
  refine isTrue_or (thn (ha pins s σ H Q I h) fun c s1 e => ?_)
  cases c with
  | false => exact isTrue_or_nil e
  | true => exact e
theorem pw_and (ha : PT X a tA) (hb : PW X (.BoolOp .And (b :: rest) pos) tB') : PW X (.BoolOp .And (a :: b :: rest) pos) (tAnd tA tB') := by
  intro wh pins s σ H Q I h
  refine isTrue_and (thn (ha pins s σ H _ I h) fun c s1 ⟨H1, I1, q1⟩ => ?_)
  cases c with
  | true => exact hb wh pins s1 σ H1 Q I1 q1
  | false => exact ⟨H1, I1, q1⟩
theorem pw_or (ha : PT X a tA) (hb : PW X (.BoolOp .Or (b :: rest) pos) tB') : PW X (.BoolOp .Or (a :: b :: rest) pos) (tOr tA tB') := by
  intro wh pins s σ H Q I h
  refine isTrue_or (thn (ha pins s σ H _ I h) fun c s1 ⟨H1, I1, q1⟩ => ?_)
  cases c with
  | true => exact ⟨H1, I1, q1⟩
  | false => exact hb wh pins s1 σ H1 Q I1 q1
theorem pt_not (ha : PT X a tA) : PT X (.UnaryOp .Not a pos) (tNot tA) := by
  intro pins s σ H Q I h
  exact isTrue_not (ha pins s σ H (fun c H1 => Q (!c) H1) I h)
def tAndV (ta tb : TE) : TE := fun σ H Q => ta σ H fun x H1 => ∃ c, x = .bl c ∧ if c = true then tb σ H1 Q else Q (.bl false) H1
def tOrV (ta tb : TE) : TE := fun σ H Q => ta σ H fun x H1 => ∃ c, x = .bl c ∧ if c = true then Q (.bl true) H1 else tb σ H1 Q
def tNotV (ta : TE) : TE := fun σ H Q => ta σ H fun x H1 => ∃ c, x = .bl c ∧ Q (.bl (!c)) H1
theorem pe_one {op} {t : TE} (h : PE X a t) : PE X (.BoolOp op [a] pos) t := fun pins s σ H Q I hw => BoolOp_one (h pins s σ H Q I hw)
theorem pe_and (ha : PE X a ta) (hb : PE X (.BoolOp .And (b :: rest) pos) tb) : PE X (.BoolOp .And (a :: b :: rest) pos) (tAndV ta tb) := by
  intro pins s σ H Q I h
  refine BoolOp_and (thn (ha pins s σ H _ I h) fun v s1 ⟨x, H1, I1, r1, q1⟩ => ?_)
  obtain ⟨c, rfl, q1⟩ := q1
  cases r1
  refine wpAny_truthy_bool ?_
  cases c with
  | true => exact hb pins s1 σ H1 Q I1 q1
  | false => exact ⟨.bl false, H1, I1, rfl, q1⟩
theorem pe_or (ha : PE X a ta) (hb : PE X (.BoolOp .Or (b :: rest) pos) tb) : PE X (.BoolOp .Or (a :: b :: rest) pos) (tOrV ta tb) := by
  intro pins s σ H Q I h
  refine BoolOp_or (thn (ha pins s σ H _ I h) fun v s1 ⟨x, H1, I1, r1, q1⟩ => ?_)
  obtain ⟨c, rfl, q1⟩ := q1
  cases r1
  refine wpAny_truthy_bool ?_
  cases c with
  | false => exact hb pins s1 σ H1 Q I1 q1
  | true => exact ⟨.bl true, H1, I1, rfl, q1⟩
def tIf (t : TT) (ta tb : TE) : TE := fun σ H Q => t σ H fun c H1 => if c = true then ta σ H1 Q else tb σ H1 Q
theorem pe_ifExp {c : Expr} (hc : PT X c tA) (ha : PE X a ta) (hb : PE X b tb) : PE X (.IfExp c a b pos) (tIf tA ta tb) := by
  intro pins s σ H Q I h
  refine wpAny_IfExp (thn (hc pins s σ H _ I h) fun d s1 ⟨H1, I1, q1⟩ => ?_)
  cases d with
  | true => exact ha pins s1 σ H1 Q I1 q1
  | false => exact hb pins s1 σ H1 Q I1 q1
end
end L2
namespace L2
open PySem PySem.Spec PyProof.Rows
def SqL (K : PySem.W.Frag) (H : Hp) (a : Addr) (xs : List V) : Prop :=
  Rd H a (.lst xs) ∨
    ∃ (o : Obj) (its : Array Value) (n : Nat), K.lookup a = some o ∧ o.cls = .type "list" ∧ o.dict = none ∧ o.data = .seq its n ∧ its.size ≤ sizeLine ∧ Vals xs its.toList
def SqT (K : PySem.W.Frag) (H : Hp) (a : Addr) (xs : List V) : Prop :=
  Rd H a (.tup xs) ∨
    ∃ (o : Obj) (its : Array Value) (n : Nat), K.lookup a = some o ∧ o.cls = .type "tuple" ∧ o.data = .seq its n ∧ its.size ≤ sizeLine ∧ Vals xs its.toList
def absV : Value → Option V
  | .none => some .non
  | .bool b => some (.bl b)
  | .int i _ => some (.int i)
  | .str x _ => some (.str x)
  | .bytes b _ => some (.byt b)
  | .float b _ => some (.flt b)
  | .ref a => some (.ref a)
  | .type n => some (.ty n)
  | _ => none
theorem RelV.abs {x : V} {u : Value} (r : RelV x u) : absV u = some x := by
  cases x with
  | non => cases r; rfl
  | bl _ => cases r; rfl
  | int _ => obtain ⟨t, rfl⟩ := r; rfl
  | str _ => obtain ⟨t, rfl⟩ := r; rfl
  | byt _ => obtain ⟨t, rfl⟩ := r; rfl
  | flt _ => obtain ⟨t, rfl⟩ := r; rfl
  | ref _ => cases r; rfl
  | ty _ => cases r; rfl
theorem RelV.inj {x y : V} {u : Value} (r : RelV x u) (q : RelV y u) : x = y := Option.some.inj (r.abs.symm.trans q.abs)
theorem Vals.inj : ∀ {xs ys : List V} {us : List Value}, Vals xs us → Vals ys us → xs = ys
  | _, _, _, .nil, .nil => rfl
  | _, _, _, .cons r t, .cons r' t' => by rw [r.inj r', Vals.inj t t']
section
variable {X : Cx} {pins : List (Addr × Obj)} {σ : St} {H : Hp} {s : Shared} {a : Addr} {xs ys : List V}
theorem SqL.of {K : PySem.W.Frag} (h : H a = some (.lst xs)) : SqL K H a xs := .inl (.inl h)
theorem SqT.of {K : PySem.W.Frag} (h : H a = some (.tup xs)) : SqT K H a xs := .inl (.inl h)
theorem Inv.list (I : Inv X pins σ H s) (h : SqL X.K H a xs) : ∃ its : List Value, Vals xs its ∧ PlainL s.heap a its.toArray ∧ xs.length ≤ sizeLine := by
  rcases h with h | ⟨o, its, n, hk, hc, hd, hs, hz, r⟩
  · obtain ⟨z, its, n, r, e⟩ := h.ok I.hok
    exact ⟨its, r, ⟨_, n, e, rfl, rfl, rfl⟩, z⟩
  · refine ⟨its.toList, r, ⟨o, n, I.kIn a o hk, hc, hd, by simpa using hs⟩, ?_⟩
    have e := r.length
    simp only [Array.length_toList] at e
    omega
theorem Inv.tuple (I : Inv X pins σ H s) (h : SqT X.K H a xs) : ∃ its : List Value, Vals xs its ∧ IsTup s.heap a its.toArray ∧ xs.length ≤ sizeLine := by
  rcases h with h | ⟨o, its, n, hk, hc, hs, hz, r⟩
  · obtain ⟨z, its, r, p⟩ := h.ok I.hok
    exact ⟨its, r, p, z⟩
  · refine ⟨its.toList, r, ⟨o, I.kIn a o hk, hc, n, by simpa using hs⟩, ?_⟩
    have e := r.length
    simp only [Array.length_toList] at e
    omega
theorem Inv.list_inj (I : Inv X pins σ H s) (h : SqL X.K H a xs) (h' : SqL X.K H a ys) : xs = ys := by
  obtain ⟨its, r, ⟨o, n, e, _, _, d⟩, _⟩ := I.list h
  obtain ⟨its', r', ⟨o', n', e', _, _, d'⟩, _⟩ := I.list h'
  rw [e] at e'; cases e'
  rw [d] at d'
  injection d' with d1 _
  have : its = its' := by simpa using congrArg Array.toList d1
  subst this
  exact r.inj r'
end
abbrev Cx.wish (X : Cx) (E : Value → Shared → Prop) : Cx := { X with xe := E }
abbrev Cx.nox (X : Cx) : Cx := X.wish fun _ _ => False
theorem Cx.Ok.wish {X : Cx} (ok : X.Ok) (E : Value → Shared → Prop) : (X.wish E).Ok :=
  ⟨ok.mod, ok.kind, ok.glob, ok.blt, ok.above, ok.inj, ok.has, ok.cab, ok.hd, ok.frames, ok.stk, ok.exf, ok.bs, ok.bsz, ok.noex, ok.exfs, ok.funs, ok.frf⟩
theorem Cx.Ok.unwish {X : Cx} {E : Value → Shared → Prop} (ok : (X.wish E).Ok) : X.Ok :=
  ⟨ok.mod, ok.kind, ok.glob, ok.blt, ok.above, ok.inj, ok.has, ok.cab, ok.hd, ok.frames, ok.stk, ok.exf, ok.bs, ok.bsz, ok.noex, ok.exfs, ok.funs, ok.frf⟩
section
variable {X : Cx} {pins : List (Addr × Obj)} {σ : St} {H : Hp} {s : Shared} {E : Value → Shared → Prop}
theorem Inv.wish (I : Inv X pins σ H s) (E : Value → Shared → Prop) : Inv (X.wish E) pins σ H s := ⟨I.ok.wish E, I.os, I.bare, I.base, I.loc, I.cell, I.free, I.freeC, I.pin, I.hok, I.len⟩
theorem Inv.unwish (I : Inv (X.wish E) pins σ H s) : Inv X pins σ H s := ⟨I.ok.unwish, I.os, I.bare, I.base, I.loc, I.cell, I.free, I.freeC, I.pin, I.hok, I.len⟩
theorem SP.unwish {D : Ends} {f : Flow} {s' : Shared} (h : SP (X.wish E) pins D f s') : SP X pins D f s' := by
  cases f with
  | next => obtain ⟨σ', H', I, q⟩ := h; exact ⟨σ', H', I.unwish, q⟩
  | brk => obtain ⟨σ', H', I, q⟩ := h; exact ⟨σ', H', I.unwish, q⟩
  | cont => obtain ⟨σ', H', I, q⟩ := h; exact ⟨σ', H', I.unwish, q⟩
  | ret u => obtain ⟨v, σ', H', I, r, q⟩ := h; exact ⟨v, σ', H', I.unwish, r, q⟩
theorem PSs.nox {st : List Stmt} {t : TS} (h : PSs X.nox st t) : PSs X st t := fun pins s σ H D I hw =>
  wpAny_mono (h pins s σ H D (I.wish _) hw) (fun _ _ q => q.unwish) fun _ _ z => False.elim z
end
section
variable {X : Cx} {st : Stmt} {rest : List Stmt} {t u : TS} {e : Expr} {te : TE} {pos : Pos}
def tNext : TS := fun D σ H => D.nx σ H
def tSeq (t u : TS) : TS := fun D σ H => t { D with nx := u D } σ H
theorem pss_nil : PSs X [] tNext := fun _ _ σ H _ I h => wpAny_execs_nil ⟨σ, H, I, h⟩
theorem pss_cons (h1 : PS X st t) (h2 : PSs X rest u) : PSs X (st :: rest) (tSeq t u) := by
  intro pins s σ H D I h
  refine wpAny_execs_cons (thn (h1 pins s σ H { D with nx := u D } I h) fun f s1 q => ?_)
  cases f with
  | next =>
    obtain ⟨σ', H', I', q⟩ := q
    exact h2 pins s1 σ' H' D I' q
  | ret v => exact q
  | brk => exact q
  | cont => exact q
theorem pss_one (h1 : PS X st t) : PSs X [st] t := by
  intro pins s σ H D I h
  refine wpAny_execs_cons (thn (h1 pins s σ H D I h) fun f s1 q => ?_)
  cases f with
  | next => exact wpAny_execs_nil q
  | ret v => exact q
  | brk => exact q
  | cont => exact q
theorem Inv.quiet {pins : List (Addr × Obj)} {σ : St} {H : Hp} {s : Shared} (I : Inv X pins σ H s) : interactive X.env = false := by simp [interactive, I.ok.kind]
def tDrop (te : TE) : TS := fun D σ H => te σ H fun _ H1 => D.nx σ H1
theorem ps_expr (he : PE X e te) (hs : swapsWith e none pos.line X.env = pure false := by rfl) : PS X (.Expr e pos) (tDrop te) := by
  intro pins s σ H D I h
  exact wpAny_Expr_any (thn (he pins s σ H _ I h) fun v s1 ⟨x, H1, I1, r1, q1⟩ => ⟨σ, H1, I1, q1⟩) I.quiet hs
def tRet (te : TE) : TS := fun D σ H => te σ H D.rt
theorem ps_ret (he : PE X e te) : PS X (.Return (some e) pos) (tRet te) := by
  intro pins s σ H D I h
  exact wpAny_Return_some (thn (he pins s σ H _ I h) fun v s1 ⟨x, H1, I1, r1, q1⟩ => ⟨x, σ, H1, I1, r1, q1⟩)
def tRetN : TS := fun D _ H => D.rt .non H
def tIfS (c : TT) (t u : TS) : TS := fun D σ H => c σ H fun b H1 => if b = true then t D σ H1 else u D σ H1
theorem ps_if {c : Expr} {a b : List Stmt} {tc : TT} (hc : PT X c tc) (ha : PSs X a t) (hb : PSs X b u) : PS X (.If c a b pos) (tIfS tc t u) := by
  intro pins s σ H D I h
  refine wpAny_If (thn (hc pins s σ H _ I h) fun d s1 ⟨H1, I1, q1⟩ => ?_)
  cases d with
  | true => exact ha pins s1 σ H1 D I1 q1
  | false => exact hb pins s1 σ H1 D I1 q1
def tNever : TS := fun _ _ _ => False
theorem pss_never {sts : List Stmt} : PSs X sts tNever := fun _ _ _ _ _ _ h => h.elim
end
abbrev TG := V → St → Hp → (St → Hp → Prop) → Prop
abbrev TGs := List V → St → Hp → (St → Hp → Prop) → Prop
def PG (X : Cx) (target : Expr) (t : TG) : Prop :=
  ∀ (pins : List (Addr × Obj)) (s : Shared) (σ : St) (H : Hp) (v : V) (u : Value) (Q : St → Hp → Prop), Inv X pins σ H s → RelV v u → t v σ H Q →
    wpAny (model X.prog X.w) X.A (assign target X.env u) (fun _ s' => ∃ σ' H', Inv X pins σ' H' s' ∧ Q σ' H') X.xe s
def PGs (X : Cx) (ts : List Expr) (t : TGs) : Prop :=
  ∀ (pins : List (Addr × Obj)) (s : Shared) (σ : St) (H : Hp) (vs : List V) (us : List Value) (Q : St → Hp → Prop), Inv X pins σ H s → Vals vs us → t vs σ H Q →
    wpAny (model X.prog X.w) X.A (assignInOrder ((assignEach ts X.env).map (·.2)) us) (fun _ s' => ∃ σ' H', Inv X pins σ' H' s' ∧ Q σ' H') X.xe s
abbrev TIp := V → V → Hp → VK → Prop
def PIp (X : Cx) (op : Operator) (t : TIp) : Prop :=
  ∀ (pins : List (Addr × Obj)) (s : Shared) (σ : St) (H : Hp) (x y : V) (v u : Value) (Q : VK), Inv X pins σ H s → RelV x v → RelV y u → t x y H Q →
    wpAny (model X.prog X.w) X.A (inplaceOp op v u) (EP X pins σ Q) X.xe s
section
variable {X : Cx} {pos : Pos}
def gName (i : Nat) : TG := fun v σ H Q => Q (σ.set i (some v)) H
theorem pg_name {i : Nat} {x : Str} (hN : X.N.Nodup) (hi : X.N[i]? = some x) (hx : Loc X.env.scope x) (hf : X.fn x = true ∨ X.env.scope.names.lookup x = some .local := by first | exact .inl rfl | exact .inr rfl | assumption) : PG X (.Name x pos) (gName i) := by
  intro pins s σ H v u Q I r h
  exact wpAny_assign_Name (store_ok I hN hi hx r (fun s' I' => ⟨_, H, I', h⟩) hf)
def gNil : TGs := fun vs σ H Q => vs = [] ∧ Q σ H
def gCons (t : TG) (u : TGs) : TGs := fun vs σ H Q => ∃ v r, vs = v :: r ∧ t v σ H fun σ' H' => u r σ' H' Q
theorem pgs_nil : PGs X [] gNil := by
  intro pins s σ H vs us Q I r h
  obtain ⟨e, h⟩ := h
  subst e
  cases r
  exact assignInOrder_nil ⟨σ, H, I, h⟩
theorem pgs_cons {e : Expr} {es : List Expr} {t : TG} {u : TGs} (h1 : PG X e t) (h2 : PGs X es u)
    (hs : (assignEach (e :: es) X.env).map (·.2) = assign e X.env :: (assignEach es X.env).map (·.2) := by rfl) : PGs X (e :: es) (gCons t u) := by
  intro pins s σ H vs us Q I r h
  obtain ⟨v, vr, e1, h⟩ := h
  subst e1
  cases r with
  | cons r rr =>
    rw [hs]
    refine assignInOrder_cons (thn (h1 pins s σ H _ _ _ I r h) fun _ s1 ⟨σ1, H1, I1, q1⟩ => ?_)
    exact h2 pins s1 σ1 H1 _ _ Q I1 rr q1
def gTup (K : PySem.W.Frag) (n : Nat) (t : TGs) : TG := fun v σ H Q => ∃ a xs, v = .ref a ∧ SqT K H a xs ∧ xs.length = n ∧ t xs σ H Q
theorem pg_tup {es : List Expr} {k : Nat} {t : TGs} {n : Nat} (hc : X.calm = true) (h : PGs X es t)
    (hn : (assignEach es X.env).length = n := by rfl) (hst : (assignEach es X.env).findIdx? (·.1) = none := by rfl) : PG X (.Tuple es k pos) (gTup X.K n t) := by
  intro pins s σ H v u Q I r hw
  obtain ⟨a, xs, e1, hq, hl, hw⟩ := hw
  subst e1
  cases r
  obtain ⟨its, rv, ht, hz⟩ := I.tuple hq
  refine assign_Tuple_tuple (I.ok.hd hc) ht (by simp [hn, ← hl, rv.length]) hst fun h' hx => ?_
  have I1 : Inv X pins σ H { s with heap := h' } := I.kept (t' := s.toks) fun b o e => hx b o (Nat.ne_of_lt (Heap.lt_size e)) e
  exact h pins _ σ H xs _ Q I1 (by simpa using rv) hw
def tAsg (te : TE) (g : TG) : TS := fun D σ H => te σ H fun x H1 => g x σ H1 D.nx
theorem ps_set {i : Nat} {x : Str} {e : Expr} {te : TE} {pos' : Pos} (hN : X.N.Nodup) (hi : X.N[i]? = some x) (hx : Loc X.env.scope x) (he : PE X e te) (hs : swapsWith e (some (.Name x pos')) pos.line X.env = pure false := by rfl) (hf : X.fn x = true ∨ X.env.scope.names.lookup x = some .local := by first | exact .inl rfl | exact .inr rfl | assumption) :
    PS X (.Assign [.Name x pos'] e pos) (tAsg te (gName i)) := by
  intro pins s σ H D I h
  refine wpAny_Assign_Name (thn (he pins s σ H _ I h) fun v s1 ⟨y, H1, I1, r1, q1⟩ => ?_) hs
  exact store_ok I1 hN hi hx r1 (fun s2 I2 => ⟨_, H1, I2, q1⟩) hf
def tAug (i : Nat) (te : TE) (ti : TIp) : TS := fun D σ H => ∃ x, σ[i]? = some (some x) ∧ te σ H fun y H1 => ti x y H1 fun z H2 => D.nx (σ.set i (some z)) H2
theorem ps_aug {i : Nat} {x : Str} {e : Expr} {te : TE} {op : Operator} {ti : TIp} {pos' : Pos} (hN : X.N.Nodup) (hi : X.N[i]? = some x) (hx : Loc X.env.scope x) (he : PE X e te) (ho : PIp X op ti) (hf : X.fn x = true ∨ X.env.scope.names.lookup x = some .local := by first | exact .inl rfl | exact .inr rfl | assumption) :
    PS X (.AugAssign (.Name x pos') op e pos) (tAug i te ti) := by
  intro pins s σ H D I h
  obtain ⟨v, e1, h⟩ := h
  obtain ⟨m, hn, hl⟩ := I.loc
  have vis : Vis X.env.scope x := by rcases hx with k | k; exact .inl k; exact .inr (.inl k)
  obtain ⟨u, r, l⟩ := hl i x v hi e1 vis
  refine wpAny_AugAssign_Name ?_
  have go : wpAny (model X.prog X.w) X.A (eval e X.env) (fun w s₂ => wpAny (model X.prog X.w) X.A (inplaceOp op u w) (fun r s₃ => wpAny (model X.prog X.w) X.A (storeName X.env x r) (fun _ => SP X pins D .next) X.xe s₃) X.xe s₂) X.xe s := by
    refine thn (he pins s σ H _ I h) fun w s1 ⟨y, H1, I1, r1, q1⟩ => ?_
    refine thn (ho pins s1 σ H1 v y u w _ I1 r r1 q1) fun z s2 ⟨zv, H2, I2, r2, q2⟩ => ?_
    exact store_ok I2 hN hi hx r2 (fun s3 I3 => ⟨_, H2, I3, q2⟩) hf
  rcases l with ⟨hk, hm⟩ | ⟨hk, c, hc, hcell⟩
  · exact wpAny_loadName_local I.ok.kind hk hn hm go
  · rcases hk with hk | hk
    · exact wpAny_loadName_cell I.ok.kind hk hc hcell go
    · rcases hx with k | k
      · have : X.env.scope.names.lookup x = some .free := hk
        rw [k] at this; cases this
      · have : X.env.scope.names.lookup x = some .free := hk
        rw [k] at this; cases this
def ipI (f : Int → Int → Int) : TIp := fun x y H Q => ∃ i j, x = .int i ∧ y = .int j ∧ Q (.int (f i j)) H
theorem ip_add : PIp X .Add (ipI fun i j => i + j) := by
  intro pins s σ H x y v u Q I r1 r2 h
  obtain ⟨i, j, e1, e2, q⟩ := h
  subst e1; subst e2
  obtain ⟨t, rfl⟩ := r1
  obtain ⟨t', rfl⟩ := r2
  exact iadd_int ⟨.int _, H, I.tok _, ⟨_, rfl⟩, q⟩
end
section
variable {X : Cx} {pos : Pos}
def tWhile (c : TT) (tb : TS) : TS := fun D σ H => ∃ W : Nat → St → Hp → Prop, (∃ m, W m σ H) ∧ ∀ m σ H, W m σ H →
  c σ H fun b H1 => if b = true then ∃ N : St → Hp → Prop, (∀ σ' H', N σ' H' → ∃ m', m' < m ∧ W m' σ' H') ∧ tb { D with nx := N, ct := N, bk := D.nx } σ H1 else D.nx σ H1
theorem ps_while {c : Expr} {body : List Stmt} {tc : TT} {tb : TS} (hp : PassesOwn (model X.prog X.w) X.A X.env X.xe) (hc : PT X c tc) (hb : PSs X body tb) : PS X (.While c body [] pos) (tWhile tc tb) := by
  intro pins s σ H D I h
  obtain ⟨W, ⟨m0, w0⟩, turn⟩ := h
  refine wpAny_While (codeAny_whileLoop (fun n s' => ∃ σ' H', Inv X pins σ' H' s' ∧ W n σ' H') ?_ m0 ⟨σ, H, I, w0⟩)
  rintro n s1 ⟨σ1, H1, I1, w1⟩
  refine wpAny_passesOwn hp (thn (hc pins s1 σ1 H1 _ I1 (turn n σ1 H1 w1)) fun b s2 ⟨H2, I2, q2⟩ => ?_)
  cases b with
  | true =>
    obtain ⟨N, hN, q2⟩ := q2
    rw [if_pos rfl]
    refine wpAny_passesOwn hp (thn (hb pins s2 σ1 H2 _ I2 q2) fun f s3 q3 => ?_)
    cases f with
    | next =>
      obtain ⟨σ3, H3, I3, n3⟩ := q3
      obtain ⟨m', hm, w3⟩ := hN σ3 H3 n3
      exact ⟨m', hm, σ3, H3, I3, w3⟩
    | cont =>
      obtain ⟨σ3, H3, I3, n3⟩ := q3
      obtain ⟨m', hm, w3⟩ := hN σ3 H3 n3
      exact ⟨m', hm, σ3, H3, I3, w3⟩
    | brk => exact q3
    | ret v => exact q3
  | false =>
    rw [if_neg Bool.false_ne_true]
    exact wpAny_execs_nil ⟨σ1, H2, I2, q2⟩
end
structure It where
  go : Nat → Hp → Prop
  yld : Nat → Hp → V → Hp → Prop
  stop : Nat → Hp → Prop
def FpOk (X : Cx) (pins : List (Addr × Obj)) (H : Hp) (b : Addr) : Prop :=
  H b = none ∧ b ≠ X.env.locals ∧ b ∉ X.fs ∧ (b ∈ X.ex ∨ X.s₀.heap.objs.size ≤ b) ∧ (∀ x c, X.env.cells.lookup x = some c → c ≠ b) ∧ ∀ p ∈ X.pn ++ pins, p.1 ≠ b
theorem Inv.fpOk {X : Cx} {pins : List (Addr × Obj)} {σ : St} {H H' : Hp} {s : Shared} {b : Addr} (I : Inv X pins σ H s) (hb : s.heap.objs.size ≤ b) (hn : H' b = none) : FpOk X pins H' b := by
  refine ⟨hn, Nat.ne_of_gt (Nat.lt_of_lt_of_le I.lt hb), I.nofs hb, .inr (Nat.le_trans I.sz hb), fun x c e z => ?_, fun p hp z => ?_⟩
  · obtain ⟨v, q⟩ := I.cell x c e
    exact absurd (Nat.lt_of_lt_of_le q.lt (by rw [z]; exact hb)) (Nat.lt_irrefl _)
  · exact absurd (Nat.lt_of_lt_of_le (Heap.lt_size (I.pin p hp).1) (by rw [z]; exact hb)) (Nat.lt_irrefl _)
structure Turn (P : Program) (w : World) (K : PySem.W.Frag) (tg : Expr) (J : It) (fp : List Addr) (it : Addr) (tn : Nat → Heap → Prop) : Prop where
  mem : it ∈ fp
  obj : ∀ i h, tn i h → ∀ b ∈ fp, ∃ o, h.get? b = some o ∧ ∀ v, o.data ≠ .cell v
  keep : ∀ i h h', tn i h → (∀ b ∈ fp, ∀ o, h.get? b = some o → h'.get? b = some o) → tn i h'
  item : ∀ (X : Cx), X.prog = P → X.w = w → X.K = K → X.calm = true → ∀ (i : Nat) (pins : List (Addr × Obj)) (s : Shared) (σ : St) (H : Hp) (E : Value → Shared → Prop), Inv X pins σ H s → (∀ b ∈ fp, FpOk X pins H b) → tn i s.heap → J.go i H →
    wpAny (model P w) X.A (pyNext (.ref it)) (fun r s1 => ∃ u, r = some u ∧
      wpAny (model P w) X.A (letOwnedTupleGo tg (.ref it) u) (fun _ s2 => ∃ x H', Inv X pins σ H' s2 ∧ RelV x u ∧ J.yld i H x H' ∧ tn (i + 1) s2.heap ∧ ∀ b ∈ fp, H' b = none) E s1) E s
  done : ∀ (X : Cx), X.prog = P → X.w = w → X.K = K → X.calm = true → ∀ (i : Nat) (pins : List (Addr × Obj)) (s : Shared) (σ : St) (H : Hp) (E : Value → Shared → Prop), Inv X pins σ H s → (∀ b ∈ fp, FpOk X pins H b) → tn i s.heap → J.stop i H →
    wpAny (model P w) X.A (pyNext (.ref it)) (fun r s1 => r = none ∧ Inv X pins σ H s1) E s
  self : ∀ (A : Around) (i : Nat) (s : Shared) (Q : Value → Shared → Prop) (E : Value → Shared → Prop), tn i s.heap → Q (.ref it) s → wpAny (model P w) A (pyIter (.ref it)) Q E s
abbrev TI := St → Hp → (It → Hp → Prop) → Prop
def PIE (X : Cx) (pins : List (Addr × Obj)) (σ : St) (tg : Expr) (R : It → Hp → Prop) (itv : Value) (s2 : Shared) : Prop :=
  ∃ (it : Addr) (fp : List Addr) (tn : Nat → Heap → Prop) (J : It) (H' : Hp), itv = .ref it ∧ Inv X pins σ H' s2 ∧ Turn X.prog X.w X.K tg J fp it tn ∧ tn 0 s2.heap ∧ (∀ b ∈ fp, FpOk X pins H' b) ∧ R J H'
def PI (X : Cx) (tg iter : Expr) (wi : TI) : Prop :=
  ∀ (pins : List (Addr × Obj)) (s : Shared) (σ : St) (H : Hp) (R : It → Hp → Prop), Inv X pins σ H s → wi σ H R →
    wpAny (model X.prog X.w) X.A (eval iter X.env) (fun v s1 => wpAny (model X.prog X.w) X.A (pyIter v) (PIE X pins σ tg R) X.xe s1) X.xe s
theorem go_of {M : Model} {A : Around} {E : Value → Shared → Prop} {s : Shared} {tg : Expr} {it : Addr} {u : Value} {o : Obj} {n : String} {vs : Array Value} {Q : Unit → Shared → Prop} (ho : s.heap.get? it = some o) (hc : o.cls = .type n) (hd : o.data = .fields vs)
    (hn : ["enumerate", "zip", "dict_itemiterator", "dict_reverseitemiterator", "odict_iterator", "itertools.zip_longest", "itertools.pairwise"].contains n = false) (hQ : Q () s) : wpAny M A (letOwnedTupleGo tg (.ref it) u) Q E s := by
  unfold letOwnedTupleGo
  cases tg <;> first
    | exact wpAny_pure hQ
    | (cases u <;> first
        | exact wpAny_pure hQ
        | (refine wpAny_bind (wpAny_load ho ?_)
           rw [hc, hd]
           show wpAny M A (if (["enumerate", "zip", "dict_itemiterator", "dict_reverseitemiterator", "odict_iterator", "itertools.zip_longest", "itertools.pairwise"].contains n && vs[0]? == some (rawInt _)) = true then _ else _) Q E s
           rw [if_neg (by intro h; rw [hn, Bool.false_and] at h; cases h)]
           exact wpAny_pure hQ))
def Itl (K : PySem.W.Frag) (a : Addr) : It :=
  ⟨fun i H => ∃ xs x, SqL K H a xs ∧ xs[i]? = some x, fun i H x H' => H' = H ∧ ∀ xs, SqL K H a xs → xs[i]? = some x, fun i H => ∃ xs, SqL K H a xs ∧ xs.length ≤ i⟩
def Itr (lo : Int) (n : Nat) : It := ⟨fun i _ => i < n, fun i H x H' => H' = H ∧ x = .int (lo + i), fun i _ => n ≤ i⟩
theorem turn_list {P : Program} {w : World} {K : PySem.W.Frag} {tg : Expr} (a it : Addr) : Turn P w K tg (Itl K a) [it] it (fun i h => h.IsListIter it a i) where
  mem := by simp
  obj := fun i h st b hb => by
    have e : b = it := by simpa using hb
    subst e
    obtain ⟨o, e, c, d⟩ := st
    exact ⟨o, e, fun v z => by rw [d] at z; cases z⟩
  keep := fun i h h' st k => st.at fun o e => k it (by simp) o e
  item := by
    intro X hP hw hK hc i pins s σ H E I hf st hg
    subst hP hw hK
    obtain ⟨xs, x, hq, hx⟩ := hg
    obtain ⟨its, rv, p, hz⟩ := I.list hq
    obtain ⟨u, hu, ru⟩ := rv.get hx
    obtain ⟨f0, f1, f2, f3, f4, f5⟩ := hf it (by simp)
    refine wpAny_pyNext_list_item st p.isList (x := u) (by simpa using hu) fun h' st' sb => ?_
    have I1 : Inv X pins σ H { s with heap := h' } := I.turned (t' := s.toks) (fun b o hb e => (sb.2 b hb).trans e) f0 f1 f3 f4 f5
    obtain ⟨o, e, c, d⟩ := id st'
    exact ⟨u, rfl, go_of (s := { s with heap := h' }) e c d (by decide) ⟨x, H, I1, ru, ⟨rfl, fun ys hy => by rw [I.list_inj hy hq]; exact hx⟩, st', fun b hb => (hf b hb).1⟩⟩
  done := by
    intro X hP hw hK hc i pins s σ H E I hf st hg
    subst hP hw hK
    obtain ⟨xs, hq, hx⟩ := hg
    obtain ⟨its, rv, p, hz⟩ := I.list hq
    obtain ⟨f0, f1, f2, f3, f4, f5⟩ := hf it (by simp)
    have hl := rv.length
    exact wpAny_pyNext_list_end (I.ok.hd hc) st p.isList (by simp; omega) fun h' eb => ⟨rfl, I.turned (t' := s.toks) (fun b o hb e => eb b o hb e) f0 f1 f3 f4 f5⟩
  self := fun _ _ _ _ _ st h => wpAny_pyIter_listiter st h
theorem turn_range {P : Program} {w : World} {K : PySem.W.Frag} {tg : Expr} (it : Addr) (lo : Int) (n : Nat) : Turn P w K tg (Itr lo n) [it] it (fun i h => IsRangeIter h it (lo + (i : Nat) * 1) ((n : Int) - (i : Nat)) 1) where
  mem := by simp
  obj := fun i h st b hb => by
    have e : b = it := by simpa using hb
    subst e
    exact ⟨_, st, fun v z => by
      have z' : Data.fields _ = Data.cell v := z
      cases z'⟩
  keep := fun i h h' st k => k it (by simp) _ st
  item := by
    intro X hP hw hK hc i pins s σ H E I hf st hg
    subst hP hw hK
    obtain ⟨f0, f1, f2, f3, f4, f5⟩ := hf it (by simp)
    have W := Walks.range (prog := X.prog) (w := X.w) (I.ok.hd hc) it lo 1 n
    refine W.item i s _ _ hg st fun v h' tk hv st' kk => ?_
    obtain ⟨t, rfl⟩ := hv
    have I1 : Inv X pins σ H { s with heap := h', toks := tk } := I.turned (fun b o hb e => kk b o (by simpa using hb) e) f0 f1 f3 f4 f5
    refine ⟨_, rfl, go_of (s := { s with heap := h', toks := tk }) (n := "range_iterator") st' rfl rfl (by decide) ⟨.int (lo + i), H, I1, ⟨t, ?_⟩, ⟨rfl, rfl⟩, st', fun b hb => (hf b hb).1⟩⟩
    rw [Int.mul_one]
  done := by
    intro X hP hw hK hc i pins s σ H E I hf st hg
    subst hP hw hK
    obtain ⟨f0, f1, f2, f3, f4, f5⟩ := hf it (by simp)
    exact wpAny_pyNext_range_end (I.ok.hd hc) st (by have : n ≤ i := hg; omega) fun h' eb => ⟨rfl, I.turned (t' := s.toks) (fun b o hb e => eb b o hb e) f0 f1 f3 f4 f5⟩
  self := fun _ _ _ _ _ st h => wpAny_pyIter_rangeiter st h
end L2
namespace L2
open PySem PySem.Spec PyProof.Rows
section
variable {X : Cx} {tg : Expr}
def iList (K : PySem.W.Frag) (tl : TE) : TI := fun σ H R => tl σ H fun x H1 => ∃ a, x = .ref a ∧ (∃ xs, SqL K H1 a xs) ∧ R (Itl K a) H1
theorem pi_list {l : Expr} {tl : TE} (hl : PE X l tl) : PI X tg l (iList X.K tl) := by
  intro pins s σ H R I h
  refine thn (hl pins s σ H _ I h) fun v s1 ⟨x, H1, I1, r1, q1⟩ => ?_
  obtain ⟨a, e, ⟨xs, hq⟩, q⟩ := q1
  subst e
  cases r1
  obtain ⟨its, rv, p, hz⟩ := I1.list hq
  refine wpAny_pyIter_list p.isList ?_
  refine ⟨s1.heap.objs.size, [s1.heap.objs.size], _, _, H1, rfl, I1.kept (t' := s1.toks) fun b o e => Heap.get?_push_of_some _ e, turn_list a _, ⟨_, Heap.get?_push_size _ rfl, rfl, rfl⟩, fun b hb => ?_, q⟩
  have e : b = s1.heap.objs.size := by simpa using hb
  subst e
  exact I1.fpOk (Nat.le_refl _) (I1.hok.fresh (Nat.le_refl _))
theorem range_it {pins : List (Addr × Obj)} {σ : St} {H : Hp} {s : Shared} {R : It → Hp → Prop} {E : Value → Shared → Prop} {lo hi : Int} {t u v : Tok} {tk : Nat} (I : Inv X pins σ H s) (h1 : -(2 ^ 62) ≤ lo) (h2 : lo < 2 ^ 62) (h3 : -(2 ^ 62) ≤ hi) (h4 : hi < 2 ^ 62)
    (q : R (Itr lo (hi - lo).toNat) H) : wpAny (model X.prog X.w) X.A (pyIter (.ref s.heap.objs.size)) (PIE X pins σ tg R) E { s with heap := s.heap.push { cls := .type "range", data := .fields #[.int lo t, .int hi u, .int 1 v] }, toks := tk } := by
  refine wpAny_pyIter_range (IsRange.new ..) (small_one h1 h2 h3 h4) ?_
  have I1 : Inv X pins σ H { s with heap := s.heap.push { cls := .type "range", data := .fields #[.int lo t, .int hi u, .int 1 v] }, toks := tk } := I.kept fun b o e => Heap.get?_push_of_some _ e
  refine ⟨(s.heap.push { cls := .type "range", data := .fields #[.int lo t, .int hi u, .int 1 v] }).objs.size, [(s.heap.push { cls := .type "range", data := .fields #[.int lo t, .int hi u, .int 1 v] }).objs.size], _, _, H, rfl,
    I1.kept (t' := tk) fun b o e => Heap.get?_push_of_some _ e, turn_range _ lo (hi - lo).toNat, ?_, fun b hb => ?_, q⟩
  · have e1 : lo + ((0 : Nat) : Int) * 1 = lo := by simp
    have e2 : (((hi - lo).toNat : Nat) : Int) - ((0 : Nat) : Int) = Builtin.Range.rangeSize lo hi 1 := by rw [rangeSize_one]; split <;> omega
    show IsRangeIter _ _ (lo + ((0 : Nat) : Int) * 1) ((((hi - lo).toNat : Nat) : Int) - ((0 : Nat) : Int)) 1
    rw [e1, e2]
    exact Heap.get?_push_size _ rfl
  · have e : b = (s.heap.push { cls := .type "range", data := .fields #[.int lo t, .int hi u, .int 1 v] }).objs.size := by simpa using hb
    subst e
    exact I1.fpOk (Nat.le_refl _) (I1.hok.fresh (Nat.le_refl _))
def iRng1 (ta : TA) : TI := fun σ H R => ta σ H fun vs H1 => ∃ j : Int, vs = [.int j] ∧ -(2 ^ 62) ≤ j ∧ j < 2 ^ 62 ∧ R (Itr 0 j.toNat) H1
theorem pi_range1 {a : Expr} {ta : TA} {p pos : Pos} (hg : Gl X "range") (hm : X.mg "range" = none) (ha : PA X [a] ta) (hs : starEach [a] X.env = [(false, eval a X.env)] := by rfl) : PI X tg (.Call (.Name "range" p) [a] [] pos) (iRng1 ta) := by
  intro pins s σ H R I h
  refine Call_ (ld_blt I hg hm boot_range (PyProof.Rows.callWith_type1 (thn (ha pos pins s σ H _ I h) fun us s1 ⟨vs, H1, I1, r1, q1⟩ => ?_) hs rfl))
  obtain ⟨j, e, q1, q2, q⟩ := q1
  subst e
  cases r1 with
  | cons r rr =>
    cases rr
    obtain ⟨t, rfl⟩ := r
    exact call_range_1 (range_it I1 (by omega) (by omega) q1 q2 (by simpa using q))
def tFor (wi : TI) (g : TG) (tb : TS) : TS := fun D σ H => wi σ H fun J H1 => ∃ W : Nat → Nat → St → Hp → Prop, (∃ m, W 0 m σ H1) ∧ ∀ i m σ H, W i m σ H →
  (J.stop i H ∧ D.nx σ H) ∨ (J.go i H ∧ ∃ N : St → Hp → Prop, (∀ σ' H', N σ' H' → ∃ m', m' < m ∧ W (i + 1) m' σ' H') ∧ ∀ x H', J.yld i H x H' → g x σ H' fun σ2 H2 => tb { D with nx := N, ct := N, bk := D.nx } σ2 H2)
def pinsAt (fp : List Addr) (h : Heap) : List (Addr × Obj) := fp.filterMap fun b => (h.get? b).map fun o => (b, o)
theorem mem_pinsAt {fp : List Addr} {h : Heap} {b : Addr} {o : Obj} (hb : b ∈ fp) (e : h.get? b = some o) : (b, o) ∈ pinsAt fp h := List.mem_filterMap.mpr ⟨b, hb, by rw [e]; rfl⟩
theorem of_pinsAt {fp : List Addr} {h : Heap} {p : Addr × Obj} (hp : p ∈ pinsAt fp h) : p.1 ∈ fp ∧ h.get? p.1 = some p.2 := by
  obtain ⟨b, hb, e⟩ := List.mem_filterMap.mp hp
  cases q : h.get? b with
  | none => rw [q] at e; cases e
  | some o =>
    rw [q] at e
    have e' : (b, o) = p := Option.some.inj e
    subst e'
    exact ⟨hb, q⟩
theorem Inv.pinned {pins : List (Addr × Obj)} {σ : St} {H : Hp} {s : Shared} {fp : List Addr} (I : Inv X pins σ H s) (hf : ∀ b ∈ fp, FpOk X pins H b) (ho : ∀ b ∈ fp, ∃ o, s.heap.get? b = some o ∧ ∀ v, o.data ≠ .cell v) : Inv X (pins ++ pinsAt fp s.heap) σ H s :=
  I.pins_of fun p hp => (List.mem_append.mp hp).elim (fun z => I.pin p (List.mem_append_right _ z)) fun z => by
    obtain ⟨hb, e⟩ := of_pinsAt z
    obtain ⟨f0, f1, f2, _⟩ := hf p.1 hb
    obtain ⟨o, e', d⟩ := ho p.1 hb
    rw [e] at e'; cases e'
    exact ⟨e, f0, f1, f2, d⟩
theorem Inv.unpinned {pins pl : List (Addr × Obj)} {σ : St} {H : Hp} {s : Shared} (I : Inv X (pins ++ pl) σ H s) : Inv X pins σ H s := I.pins_of fun p hp => I.pin p (List.mem_append_right _ (List.mem_append_left _ hp))
theorem ps_for {iter : Expr} {body : List Stmt} {wi : TI} {g : TG} {tb : TS} {pos : Pos} (hp : PassesOwn (model X.prog X.w) X.A X.env X.xe) (hc : X.calm = true) (hi : PI X tg iter wi) (hg : PG X tg g) (hb : PSs X body tb)
    (hs : ∀ x, foldedSetIterable iter X.env x = pure x := by intro _; rfl) : PS X (.For tg iter body [] pos) (tFor wi g tb) := by
  intro pins s σ H D I h
  refine wpAny_For (thn (hi pins s σ H _ I h) fun v s1 h1 => thn h1 fun itv s2 h2 => ?_) hs
  obtain ⟨it, fp, tn, J, H2, e, I2, T, st2, f2, W, ⟨m0, w0⟩, turn⟩ := h2
  subst e
  -- what stays true of the iterator's objects through the loop
  have stat : ∀ {H' : Hp}, (∀ b ∈ fp, H' b = none) → ∀ b ∈ fp, FpOk X pins H' b := fun hn b hb => ⟨hn b hb, (f2 b hb).2⟩
  refine codeAny_forLoop_any (fun n s' => ∃ i σ' H', Inv X pins σ' H' s' ∧ tn i s'.heap ∧ (∀ b ∈ fp, H' b = none) ∧ W i n σ' H') ?_ m0 ⟨0, σ, H2, I2, st2, fun b hb => (f2 b hb).1, w0⟩
  rintro n s3 ⟨i, σ3, H3, I3, st3, fr3, w3⟩
  rcases turn i n σ3 H3 w3 with ⟨stop, qn⟩ | ⟨go, N, hN, step⟩
  · refine wpAny_passesOwn hp (thn (T.done X rfl rfl rfl hc i pins s3 σ3 H3 X.xe I3 (stat fr3) st3 stop) fun r s4 ⟨hr, I4⟩ => ?_)
    subst hr
    exact wpAny_execs_nil ⟨σ3, H3, I4, qn⟩
  · refine wpAny_passesOwn hp (thn (T.item X rfl rfl rfl hc i pins s3 σ3 H3 X.xe I3 (stat fr3) st3 go) fun r s4 ⟨u, hr, h4⟩ => ?_)
    subst hr
    refine wpAny_passesOwn hp (thn h4 fun _ s5 ⟨x, H5, I5, r5, y5, st5, fr5⟩ => ?_)
    have I5' := I5.pinned (stat fr5) (T.obj _ _ st5)
    refine wpAny_passesOwn hp (thn (hg _ s5 σ3 H5 x u _ I5' r5 (step x H5 y5)) fun _ s6 ⟨σ6, H6, I6, q6⟩ => ?_)
    refine wpAny_passesOwn hp (thn (hb _ s6 σ6 H6 _ I6 q6) fun f s7 q7 => ?_)
    have again : ∀ {σ7 : St} {H7 : Hp}, Inv X (pins ++ pinsAt fp s5.heap) σ7 H7 s7 → N σ7 H7 → ∃ m, m < n ∧ ∃ i σ' H', Inv X pins σ' H' s7 ∧ tn i s7.heap ∧ (∀ b ∈ fp, H' b = none) ∧ W i m σ' H' := fun {σ7 H7} I7 n7 => by
      obtain ⟨m', hm, w7⟩ := hN σ7 H7 n7
      refine ⟨m', hm, i + 1, σ7, H7, I7.unpinned, T.keep _ _ _ st5 fun b hb o e => (I7.pin (b, o) (List.mem_append_right _ (List.mem_append_right _ (mem_pinsAt hb e)))).1, fun b hb => ?_, w7⟩
      obtain ⟨o, e, d⟩ := T.obj _ _ st5 b hb
      exact (I7.pin (b, o) (List.mem_append_right _ (List.mem_append_right _ (mem_pinsAt hb e)))).2.1
    cases f with
    | next => obtain ⟨σ7, H7, I7, n7⟩ := q7; exact again I7 n7
    | cont => obtain ⟨σ7, H7, I7, n7⟩ := q7; exact again I7 n7
    | brk => obtain ⟨σ7, H7, I7, q7⟩ := q7; exact ⟨σ7, H7, I7.unpinned, q7⟩
    | ret v => obtain ⟨x7, σ7, H7, I7, r7, q7⟩ := q7; exact ⟨x7, σ7, H7, I7.unpinned, r7, q7⟩
end
theorem for_list {K : PySem.W.Frag} {a : Addr} {xs : List V} {g : TG} {tb : TS} {D : Ends} {σ : St} {H : Hp} (Pv : Nat → St → Hp → Prop) (h0 : Pv 0 σ H) (hl : ∀ i σ H, i ≤ xs.length → Pv i σ H → SqL K H a xs)
    (hs : ∀ i x σ H, xs[i]? = some x → Pv i σ H → g x σ H fun σ2 H2 => tb { D with nx := Pv (i + 1), ct := Pv (i + 1), bk := D.nx } σ2 H2) (hd : ∀ σ H, Pv xs.length σ H → D.nx σ H) :
    ∃ W : Nat → Nat → St → Hp → Prop, (∃ m, W 0 m σ H) ∧ ∀ i m σ H, W i m σ H →
      ((Itl K a).stop i H ∧ D.nx σ H) ∨ ((Itl K a).go i H ∧ ∃ N : St → Hp → Prop, (∀ σ' H', N σ' H' → ∃ m', m' < m ∧ W (i + 1) m' σ' H') ∧ ∀ x H', (Itl K a).yld i H x H' → g x σ H' fun σ2 H2 => tb { D with nx := N, ct := N, bk := D.nx } σ2 H2) := by
  refine ⟨fun i m σ H => m = xs.length - i ∧ i ≤ xs.length ∧ Pv i σ H, ⟨xs.length, by simp, Nat.zero_le _, h0⟩, ?_⟩
  rintro i m σ H ⟨rfl, hi, p⟩
  have q := hl i σ H hi p
  by_cases hlt : i < xs.length
  · refine .inr ⟨⟨xs, xs[i], q, by simp [hlt]⟩, Pv (i + 1), fun σ' H' p' => ⟨xs.length - (i + 1), by omega, rfl, hlt, p'⟩, fun x H' y => ?_⟩
    obtain ⟨e, y⟩ := y
    subst e
    exact hs i x σ _ (y xs q) p
  · have e : i = xs.length := by omega
    subst e
    exact .inl ⟨⟨xs, q, Nat.le_refl _⟩, hd σ H p⟩
theorem for_range {lo : Int} {n : Nat} {g : TG} {tb : TS} {D : Ends} {σ : St} {H : Hp} (Pv : Nat → St → Hp → Prop) (h0 : Pv 0 σ H)
    (hs : ∀ i σ H, i < n → Pv i σ H → g (.int (lo + i)) σ H fun σ2 H2 => tb { D with nx := Pv (i + 1), ct := Pv (i + 1), bk := D.nx } σ2 H2) (hd : ∀ σ H, Pv n σ H → D.nx σ H) :
    ∃ W : Nat → Nat → St → Hp → Prop, (∃ m, W 0 m σ H) ∧ ∀ i m σ H, W i m σ H →
      ((Itr lo n).stop i H ∧ D.nx σ H) ∨ ((Itr lo n).go i H ∧ ∃ N : St → Hp → Prop, (∀ σ' H', N σ' H' → ∃ m', m' < m ∧ W (i + 1) m' σ' H') ∧ ∀ x H', (Itr lo n).yld i H x H' → g x σ H' fun σ2 H2 => tb { D with nx := N, ct := N, bk := D.nx } σ2 H2) := by
  refine ⟨fun i m σ H => m = n - i ∧ i ≤ n ∧ Pv i σ H, ⟨n, by simp, Nat.zero_le _, h0⟩, ?_⟩
  rintro i m σ H ⟨rfl, hi, p⟩
  by_cases hlt : i < n
  · refine .inr ⟨hlt, Pv (i + 1), fun σ' H' p' => ⟨n - (i + 1), by omega, rfl, hlt, p'⟩, fun x H' y => ?_⟩
    obtain ⟨e, y⟩ := y
    subst e y
    exact hs i σ _ hlt p
  · have e : i = n := by omega
    subst e
    exact .inl ⟨Nat.le_refl _, hd σ H p⟩
end L2
namespace L2
open PySem PySem.Spec PyProof.Rows
abbrev R2 := V → V → Hp → VK → Prop
def OpR (X : Cx) (f : Value → Value → Sem Value) (r : R2) : Prop :=
  ∀ (pins : List (Addr × Obj)) (s : Shared) (σ : St) (H : Hp) (x y : V) (v u : Value) (Q : VK), Inv X pins σ H s → RelV x v → RelV y u → r x y H Q →
    wpAny (model X.prog X.w) X.A (f v u) (EP X pins σ Q) X.xe s
def UnR (X : Cx) (f : Value → Sem Value) (r : V → Hp → VK → Prop) : Prop :=
  ∀ (pins : List (Addr × Obj)) (s : Shared) (σ : St) (H : Hp) (x : V) (v : Value) (Q : VK), Inv X pins σ H s → RelV x v → r x H Q →
    wpAny (model X.prog X.w) X.A (f v) (EP X pins σ Q) X.xe s
def CallR (X : Cx) (f : Value) (r : List V → Hp → VK → Prop) : Prop :=
  ∀ (pins : List (Addr × Obj)) (s : Shared) (σ : St) (H : Hp) (xs : List V) (us : List Value) (Q : VK), Inv X pins σ H s → Vals xs us → r xs H Q →
    wpAny (model X.prog X.w) X.A (call f us) (EP X pins σ Q) X.xe s
def TruR (X : Cx) (r : V → Hp → (Bool → Hp → Prop) → Prop) : Prop :=
  ∀ (pins : List (Addr × Obj)) (s : Shared) (σ : St) (H : Hp) (x : V) (v : Value) (Q : Bool → Hp → Prop), Inv X pins σ H s → RelV x v → r x H Q →
    wpAny (model X.prog X.w) X.A (truthy v) (TP X pins σ Q) X.xe s
def tOp (r : R2) (ta tb : TE) : TE := fun σ H Q => ta σ H fun x H1 => tb σ H1 fun y H2 => r x y H2 Q
def tUn (r : V → Hp → VK → Prop) (ta : TE) : TE := fun σ H Q => ta σ H fun x H1 => r x H1 Q
def rI (C : Int → Int → Prop) (g : Int → Int → V) : R2 := fun x y H Q => ∃ i j, x = .int i ∧ y = .int j ∧ C i j ∧ Q (g i j) H
def rI0 (g : Int → Int → V) : R2 := fun x y H Q => ∃ i j, x = .int i ∧ y = .int j ∧ Q (g i j) H
def rU (g : Int → V) : V → Hp → VK → Prop := fun x H Q => ∃ i, x = .int i ∧ Q (g i) H
section
variable {X : Cx} {a b c : Expr} {ta tb tc : TE} {pos : Pos}
theorem binT (ha : PE X a ta) (hb : PE X b tb) {pins : List (Addr × Obj)} {s : Shared} {σ : St} {H : Hp} {R : V → V → Hp → Prop} (I : Inv X pins σ H s)
    (h : ta σ H fun x H1 => tb σ H1 fun y H2 => R x y H2) {Q : Value → Shared → Prop} {f : Value → Value → Sem Value}
    (hf : ∀ v u s2 x y H2, Inv X pins σ H2 s2 → RelV x v → RelV y u → R x y H2 → wpAny (model X.prog X.w) X.A (f v u) Q X.xe s2) :
    wpAny (model X.prog X.w) X.A (eval a X.env) (fun v s₁ => wpAny (model X.prog X.w) X.A (eval b X.env) (fun u s₂ => wpAny (model X.prog X.w) X.A (f v u) Q X.xe s₂) X.xe s₁) X.xe s := by
  refine thn (ha pins s σ H _ I h) fun v s1 ⟨x, H1, I1, r1, q1⟩ => ?_
  refine thn (hb pins s1 σ H1 _ I1 q1) fun u s2 ⟨y, H2, I2, r2, q2⟩ => ?_
  exact hf v u s2 x y H2 I2 r1 r2 q2
theorem pe_op {op : Operator} {r : R2} (ho : OpR X (binaryOp op) r) (ha : PE X a ta) (hb : PE X b tb) : PE X (.BinOp a op b pos) (tOp r ta tb) := by
  intro pins s σ H Q I h
  exact wpAny_BinOp (binT ha hb I h fun v u s2 x y H2 I2 rx ry q => ho pins s2 σ H2 x y v u Q I2 rx ry q)
theorem pe_un {op : UnaryOp} {r : V → Hp → VK → Prop} (ho : UnR X (unaryOp op) r) (ha : PE X a ta) : PE X (.UnaryOp op a pos) (tUn r ta) := by
  intro pins s σ H Q I h
  exact UnaryOp_ (thn (ha pins s σ H _ I h) fun v s1 ⟨x, H1, I1, r1, q1⟩ => ho pins s1 σ H1 x v Q I1 r1 q1)
theorem opI {f : Value → Value → Sem Value} {C : Int → Int → Prop} {g : Int → Int → Int}
    (rule : ∀ (i j : Int) (t u : Tok) (s : Shared) (Q : Value → Shared → Prop) (E : Value → Shared → Prop), C i j → Q (.int (g i j) s.toks) { s with toks := s.toks + 1 } → wpAny (model X.prog X.w) X.A (f (.int i t) (.int j u)) Q E s) :
    OpR X f (rI C fun i j => .int (g i j)) := by
  intro pins s σ H x y v u Q I rx ry h
  obtain ⟨i, j, rfl, rfl, hc, q⟩ := h
  obtain ⟨t, rfl⟩ := rx
  obtain ⟨t', rfl⟩ := ry
  exact rule i j t t' s _ _ hc ⟨.int (g i j), H, I.tok _, ⟨_, rfl⟩, q⟩
theorem opI0 {f : Value → Value → Sem Value} {g : Int → Int → Int}
    (rule : ∀ (i j : Int) (t u : Tok) (s : Shared) (Q : Value → Shared → Prop) (E : Value → Shared → Prop), Q (.int (g i j) s.toks) { s with toks := s.toks + 1 } → wpAny (model X.prog X.w) X.A (f (.int i t) (.int j u)) Q E s) :
    OpR X f (rI0 fun i j => .int (g i j)) := by
  intro pins s σ H x y v u Q I rx ry h
  obtain ⟨i, j, rfl, rfl, q⟩ := h
  obtain ⟨t, rfl⟩ := rx
  obtain ⟨t', rfl⟩ := ry
  exact rule i j t t' s _ _ ⟨.int (g i j), H, I.tok _, ⟨_, rfl⟩, q⟩
theorem opB0 {f : Value → Value → Sem Value} {g : Int → Int → Bool}
    (rule : ∀ (i j : Int) (t u : Tok) (s : Shared) (Q : Value → Shared → Prop) (E : Value → Shared → Prop), Q (.bool (g i j)) s → wpAny (model X.prog X.w) X.A (f (.int i t) (.int j u)) Q E s) :
    OpR X f (rI0 fun i j => .bl (g i j)) := by
  intro pins s σ H x y v u Q I rx ry h
  obtain ⟨i, j, rfl, rfl, q⟩ := h
  obtain ⟨t, rfl⟩ := rx
  obtain ⟨t', rfl⟩ := ry
  exact rule i j t t' s _ _ ⟨.bl (g i j), H, I, rfl, q⟩
def CDiv (i j : Int) : Prop := 0 < j ∧ j < 1073741824
def CPow (i j : Int) : Prop := 0 ≤ j ∧ j ≤ 1000000 ∧ i.natAbs < 2 ^ 64
def CMul (i j : Int) : Prop := (-(2 ^ 64) < i ∧ i < 2 ^ 64) ∨ (-(2 ^ 64) < j ∧ j < 2 ^ 64)
theorem CMul.ok {i j : Int} (h : CMul i j) : IntMulOk i j := by
  rcases h with ⟨h1, h2⟩ | ⟨h1, h2⟩
  · exact .of_left (intBits_le_64 h1 h2)
  · exact .of_right (intBits_le_64 h1 h2)
theorem op_add : OpR X (binaryOp .Add) (rI0 fun i j => .int (i + j)) := opI0 fun _ _ _ _ _ _ _ q => add_int q
theorem op_sub : OpR X (binaryOp .Sub) (rI0 fun i j => .int (i - j)) := opI0 fun _ _ _ _ _ _ _ q => sub_int q
theorem op_mul : OpR X (binaryOp .Mult) (rI CMul fun i j => .int (i * j)) := opI fun _ _ _ _ _ _ _ hc q => mul_int q hc.ok
theorem op_fdiv : OpR X (binaryOp .FloorDiv) (rI CDiv fun i j => .int (i / j)) := opI fun i j _ _ _ _ _ hc q => by
  have h1 : (0 : Int) < j := hc.1
  have h2 : j < 1073741824 := hc.2
  exact floordiv_int (by omega) (by rw [Int.fdiv_eq_ediv_of_nonneg i (by omega)]; exact q) (.inl (PyProof.noPylong_small (by omega)))
theorem op_mod : OpR X (binaryOp .Mod) (rI (fun _ j => 0 < j) fun i j => .int (i % j)) := opI fun i j _ _ _ _ _ hc q => by
  have h1 : (0 : Int) < j := hc
  exact mod_int' (by omega) (by rw [Int.fmod_eq_emod_of_nonneg i (by omega)]; exact q)
theorem op_pow : OpR X (binaryOp .Pow) (rI CPow fun i j => .int (i ^ j.toNat)) := opI fun _ _ _ _ _ _ _ hc q => pow_int_small hc.1 hc.2.1 hc.2.2 q
theorem unI {f : Value → Sem Value} {g : Int → Int}
    (rule : ∀ (i : Int) (t : Tok) (s : Shared) (Q : Value → Shared → Prop) (E : Value → Shared → Prop), Q (.int (g i) s.toks) { s with toks := s.toks + 1 } → wpAny (model X.prog X.w) X.A (f (.int i t)) Q E s) :
    UnR X f (rU fun i => .int (g i)) := by
  intro pins s σ H x v Q I rx h
  obtain ⟨i, rfl, q⟩ := h
  obtain ⟨t, rfl⟩ := rx
  exact rule i t s _ _ ⟨.int (g i), H, I.tok _, ⟨_, rfl⟩, q⟩
theorem un_neg : UnR X (unaryOp .USub) (rU fun i => .int (-i)) := unI fun _ _ _ _ _ q => neg_int q
end
def scal : V → V → Bool
  | .non, .non => true | .non, .int _ => true | .int _, .non => true | .non, .bl _ => true | .bl _, .non => true | .non, .str _ => true | .str _, .non => true
  | .int _, .int _ => true | .bl _, .bl _ => true | .str _, .str _ => true | .byt _, .byt _ => true
  | .int _, .str _ => true | .str _, .int _ => true | .bl _, .str _ => true | .str _, .bl _ => true
  | _, _ => false
def rEq : R2 := fun x y H Q => scal x y = true ∧ Q (.bl (decide (x = y))) H
def rNe : R2 := fun x y H Q => scal x y = true ∧ Q (.bl (!decide (x = y))) H
theorem dec_int {i j : Int} : decide (V.int i = V.int j) = (i == j) := by
  rw [Bool.eq_iff_iff]
  simp
theorem dec_bl {i j : Bool} : decide (V.bl i = V.bl j) = (i == j) := by
  rw [Bool.eq_iff_iff]
  simp
theorem dec_str {i j : Str} : decide (V.str i = V.str j) = (i == j) := by
  rw [Bool.eq_iff_iff]
  simp
theorem dec_byt {i j : Array UInt8} : decide (V.byt i = V.byt j) = (i.toList == j.toList) := by
  rw [Bool.eq_iff_iff]
  cases i
  cases j
  simp
section
variable {X : Cx} {a b c : Expr} {ta tb tc : TE} {pos : Pos}
theorem fin_bl {pins : List (Addr × Obj)} {σ : St} {H : Hp} {s : Shared} {Q : VK} {k k' : Bool} (I : Inv X pins σ H s) (q : Q (.bl k) H) (e : k = k') : EP X pins σ Q (.bool k') s := by
  subst e
  exact ⟨.bl k, H, I, rfl, q⟩
theorem op_eq : OpR X (compareOp .Eq) rEq := by
  intro pins s σ H x y v u Q I rx ry h
  obtain ⟨hs, q⟩ := h
  cases x with
  | non =>
    cases rx
    cases y with
    | non => cases ry; exact PySem.EqNone.eq_none_none (fin_bl I q (by simp))
    | bl j => cases ry; exact PySem.EqNone.eq_none_bool (fin_bl I q (by simp))
    | int j => obtain ⟨t', rfl⟩ := ry; exact PySem.EqNone.eq_none_int (fin_bl I q (by simp))
    | str j => obtain ⟨t', rfl⟩ := ry; exact PySem.EqNone.eq_none_str (fin_bl I q (by simp))
    | _ => exact absurd (show false = true from hs) Bool.false_ne_true
  | bl i =>
    cases rx
    cases y with
    | non => cases ry; exact PySem.EqNone.eq_bool_none (fin_bl I q (by simp))
    | bl j => cases ry; exact eq_bool (fin_bl I q dec_bl)
    | str j => obtain ⟨t', rfl⟩ := ry; exact PySem.EqMixed.eq_bool_str (fin_bl I q (by simp))
    | _ => exact absurd (show false = true from hs) Bool.false_ne_true
  | int i =>
    obtain ⟨t, rfl⟩ := rx
    cases y with
    | non => cases ry; exact PySem.EqNone.eq_int_none (fin_bl I q (by simp))
    | int j => obtain ⟨t', rfl⟩ := ry; exact eq_int (fin_bl I q dec_int)
    | str j => obtain ⟨t', rfl⟩ := ry; exact PySem.EqMixed.eq_int_str (fin_bl I q (by simp))
    | _ => exact absurd (show false = true from hs) Bool.false_ne_true
  | str i =>
    obtain ⟨t, rfl⟩ := rx
    cases y with
    | non => cases ry; exact PySem.EqNone.eq_str_none (fin_bl I q (by simp))
    | bl j => cases ry; exact PySem.EqMixed.eq_str_bool (fin_bl I q (by simp))
    | int j => obtain ⟨t', rfl⟩ := ry; exact PySem.EqMixed.eq_str_int (fin_bl I q (by simp))
    | str j => obtain ⟨t', rfl⟩ := ry; exact eq_str (fin_bl I q dec_str)
    | _ => exact absurd (show false = true from hs) Bool.false_ne_true
  | byt i =>
    obtain ⟨t, rfl⟩ := rx
    cases y with
    | byt j => obtain ⟨t', rfl⟩ := ry; exact PySem.W.eq_bytes (fin_bl I q dec_byt)
    | _ => exact absurd (show false = true from hs) Bool.false_ne_true
  | _ => cases y <;> exact absurd (show false = true from hs) Bool.false_ne_true
theorem op_ne : OpR X (compareOp .NotEq) rNe := by
  intro pins s σ H x y v u Q I rx ry h
  obtain ⟨hs, q⟩ := h
  cases x with
  | non =>
    cases rx
    cases y with
    | non => cases ry; exact PySem.EqNone.ne_none_none (fin_bl I q (by simp))
    | bl j => cases ry; exact PySem.EqNone.ne_none_bool (fin_bl I q (by simp))
    | int j => obtain ⟨t', rfl⟩ := ry; exact PySem.EqNone.ne_none_int (fin_bl I q (by simp))
    | str j => obtain ⟨t', rfl⟩ := ry; exact PySem.EqNone.ne_none_str (fin_bl I q (by simp))
    | _ => exact absurd (show false = true from hs) Bool.false_ne_true
  | bl i =>
    cases rx
    cases y with
    | non => cases ry; exact PySem.EqNone.ne_bool_none (fin_bl I q (by simp))
    | bl j => cases ry; exact ne_bool (fin_bl I q (congrArg not dec_bl))
    | str j => obtain ⟨t', rfl⟩ := ry; exact PySem.EqMixed.ne_bool_str (fin_bl I q (by simp))
    | _ => exact absurd (show false = true from hs) Bool.false_ne_true
  | int i =>
    obtain ⟨t, rfl⟩ := rx
    cases y with
    | non => cases ry; exact PySem.EqNone.ne_int_none (fin_bl I q (by simp))
    | int j => obtain ⟨t', rfl⟩ := ry; exact ne_int (fin_bl I q (congrArg not dec_int))
    | str j => obtain ⟨t', rfl⟩ := ry; exact PySem.EqMixed.ne_int_str (fin_bl I q (by simp))
    | _ => exact absurd (show false = true from hs) Bool.false_ne_true
  | str i =>
    obtain ⟨t, rfl⟩ := rx
    cases y with
    | non => cases ry; exact PySem.EqNone.ne_str_none (fin_bl I q (by simp))
    | bl j => cases ry; exact PySem.EqMixed.ne_str_bool (fin_bl I q (by simp))
    | int j => obtain ⟨t', rfl⟩ := ry; exact PySem.EqMixed.ne_str_int (fin_bl I q (by simp))
    | str j => obtain ⟨t', rfl⟩ := ry; exact ne_str (fin_bl I q (congrArg not dec_str))
    | _ => exact absurd (show false = true from hs) Bool.false_ne_true
  | byt i =>
    obtain ⟨t, rfl⟩ := rx
    cases y with
    | byt j => obtain ⟨t', rfl⟩ := ry; exact PySem.W.ne_bytes (fin_bl I q (congrArg not dec_byt))
    | _ => exact absurd (show false = true from hs) Bool.false_ne_true
  | _ => cases y <;> exact absurd (show false = true from hs) Bool.false_ne_true
theorem op_lt : OpR X (compareOp .Lt) (rI0 fun i j => .bl (decide (i < j))) := opB0 fun _ _ _ _ _ _ _ q => lt_int q
theorem op_le : OpR X (compareOp .LtE) (rI0 fun i j => .bl (decide (i ≤ j))) := opB0 fun _ _ _ _ _ _ _ q => le_int q
theorem op_gt : OpR X (compareOp .Gt) (rI0 fun i j => .bl (decide (j < i))) := opB0 fun _ _ _ _ _ _ _ q => gt_int q
theorem op_ge : OpR X (compareOp .GtE) (rI0 fun i j => .bl (decide (j ≤ i))) := opB0 fun _ _ _ _ _ _ _ q => ge_int q
theorem op_in_str : OpR X (compareOp .In) (fun x y H Q => ∃ i j, x = .str i ∧ y = .str j ∧ Q (.bl (!(Builtin.Str.occurrences j i 0 j.length 1).isEmpty)) H) := by
  intro pins s σ H x y v u Q I rx ry h
  obtain ⟨i, j, rfl, rfl, q⟩ := h
  obtain ⟨t, rfl⟩ := rx
  obtain ⟨t', rfl⟩ := ry
  exact in_str (fin_bl I q rfl)
theorem nomark (b : Expr) {op : CmpOp} (h : op ≠ .In := by decide) (h2 : op ≠ .NotIn := by decide) : behindInMarks op b = false := by
  have e1 : (op == CmpOp.In) = false := by cases op <;> first | rfl | exact absurd rfl h
  have e2 : (op == CmpOp.NotIn) = false := by cases op <;> first | rfl | exact absurd rfl h2
  cases b <;> simp [behindInMarks, e1, e2]
theorem pe_cmpR {op : CmpOp} {r : R2} (ho : OpR X (compareOp op) r) (ha : PE X a ta) (hb : PE X b tb) (hm : behindInMarks op b = false) : PE X (.Compare a [op] [b] pos) (tOp r ta tb) := by
  intro pins s σ H Q I h
  exact wpAny_Compare1 (binT ha hb I h fun v u s2 x y H2 I2 rx ry q => ho pins s2 σ H2 x y v u Q I2 rx ry q) hm
def tTest (t : TE) : TT := fun σ H Q => t σ H fun x H' => ∃ k, x = .bl k ∧ Q k H'
theorem pt_cmpR {op : CmpOp} {r : R2} (ho : OpR X (compareOp op) r) (ha : PE X a ta) (hb : PE X b tb) (hm : behindInMarks op b = false) : PT X (.Compare a [op] [b] pos) (tTest (tOp r ta tb)) := by
  intro pins s σ H Q I h
  refine wpAny_isTrue_Compare1 (thn (ha pins s σ H _ I h) fun v s1 ⟨x, H1, I1, r1, q1⟩ => thn (hb pins s1 σ H1 _ I1 q1) fun u s2 ⟨y, H2, I2, r2, q2⟩ =>
    thn (ho pins s2 σ H2 x y v u _ I2 r1 r2 q2) fun c s3 ⟨z, H3, I3, r3, k, e, q3⟩ => ?_) hm
  subst e
  cases r3
  exact wpAny_truthy_bool ⟨H3, I3, q3⟩
def tChain (r r' : R2) (ta tb tc : TE) : TE := fun σ H Q => ta σ H fun x H1 => tb σ H1 fun y H2 => r x y H2 fun z H3 => ∃ k, z = .bl k ∧
  (if k = true then tc σ H3 fun w' H4 => r' y w' H4 Q else Q (.bl false) H3)
theorem pe_chain {op op' : CmpOp} {r r' : R2} (ho : OpR X (compareOp op) r) (ho' : OpR X (compareOp op') r') (ha : PE X a ta) (hb : PE X b tb) (hc : PE X c tc)
    (hm : lastMarks [op, op'] [b, c] = false := by with_unfolding_all rfl) : PE X (.Compare a [op, op'] [b, c] pos) (tChain r r' ta tb tc) := by
  intro pins s σ H Q I h
  refine Compare_chain (thn (ha pins s σ H _ I h) fun v s1 ⟨x, H1, I1, r1, q1⟩ => chain_link (thn (hb pins s1 σ H1 _ I1 q1) fun u s2 ⟨y, H2, I2, r2, q2⟩ =>
    thn (ho pins s2 σ H2 x y v u _ I2 r1 r2 q2) fun d s3 ⟨z, H3, I3, r3, k, e, q3⟩ => ?_)) hm
  subst e
  cases r3
  refine wpAny_truthy_bool ?_
  cases k with
  | false => exact ite_ff ⟨.bl false, H3, I3, rfl, q3⟩
  | true => exact ite_tt (chain_last (thn (hc pins s3 σ H3 _ I3 q3) fun w' s4 ⟨z', H4, I4, r4, q4⟩ => ho' pins s4 σ H4 y z' u w' Q I4 r2 r4 q4))
def TruV (K : PySem.W.Frag) (x : V) (H : Hp) (k : Bool) : Prop :=
  match x with
  | .non => k = false
  | .bl b => k = b
  | .int i => k = (i != 0)
  | .str y => y.length ≤ sizeLine ∧ k = ((y.length : Int) != 0)
  | .byt y => y.size ≤ sizeLine ∧ k = ((y.size : Int) != 0)
  | .ref p => (∃ xs, SqL K H p xs ∧ k = !xs.isEmpty) ∨ (∃ xs, SqT K H p xs ∧ k = !xs.isEmpty) ∨ ∃ kvs, H p = some (.dK kvs) ∧ k = !kvs.isEmpty
  | _ => False
theorem isEmpty_kv {κ : Type} {kvs : List (κ × V)} {vs : List (κ × Value)} (r : KV kvs vs) : (!vs.isEmpty) = !kvs.isEmpty := by
  cases r <;> rfl
theorem isEmpty_of {xs : List V} {its : List Value} (r : Vals xs its) : (!its.toArray.isEmpty) = !xs.isEmpty := by
  cases r <;> simp
theorem line63 : (sizeLine : Nat) < 2 ^ 63 := by rw [sizeLine_eq]; decide
theorem tru_ok : TruR X (fun x H Q => ∃ k, TruV X.K x H k ∧ Q k H) := by
  intro pins s σ H x v Q I rx h
  obtain ⟨k, e, q⟩ := h
  have hl := line63
  have hs : sizeLine = 16777216 := sizeLine_eq
  cases x with
  | non =>
    cases rx
    have e' : k = false := e
    subst e'
    exact truthy_none ⟨H, I, q⟩
  | bl b =>
    cases rx
    have e' : k = b := e
    subst e'
    exact wpAny_truthy_bool ⟨H, I, q⟩
  | int i =>
    obtain ⟨t, rfl⟩ := rx
    have e' : k = (i != 0) := e
    subst e'
    exact PySem.P.truthy_int ⟨H, I, q⟩
  | str y =>
    obtain ⟨t, rfl⟩ := rx
    obtain ⟨hy, e'⟩ : y.length ≤ sizeLine ∧ k = ((y.length : Int) != 0) := e
    subst e'
    exact PySem.P.truthy_str (by omega) ⟨H, I.tok _, q⟩
  | byt y =>
    obtain ⟨t, rfl⟩ := rx
    obtain ⟨hy, e'⟩ : y.size ≤ sizeLine ∧ k = ((y.size : Int) != 0) := e
    subst e'
    exact PySem.W.truthy_bytes (by omega) ⟨H, I.tok _, q⟩
  | ref p =>
    cases rx
    have e' : (∃ xs, SqL X.K H p xs ∧ k = !xs.isEmpty) ∨ (∃ xs, SqT X.K H p xs ∧ k = !xs.isEmpty) ∨ ∃ kvs, H p = some (.dK kvs) ∧ k = !kvs.isEmpty := e
    rcases e' with ⟨xs, hx, e'⟩ | ⟨xs, hx, e'⟩ | ⟨kvs, hx, e'⟩
    · subst e'
      obtain ⟨its, r, pl, hz⟩ := I.list hx
      have hlen := r.length
      exact wpAny_truthy_list pl.isList (by simp only [List.size_toArray]; omega) ⟨H, I.tok _, by rw [isEmpty_of r]; exact q⟩
    · subst e'
      obtain ⟨its, r, pl, hz⟩ := I.tuple hx
      have hlen := r.length
      exact truthy_tuple pl (by simp only [List.size_toArray]; omega) ⟨H, I.tok _, by rw [isEmpty_of r]; exact q⟩
    · subst e'
      obtain ⟨hz, hS, vs, r, m⟩ : kvs.length ≤ sizeLine ∧ (p == sysModules) = false ∧ ∃ vs, KV kvs vs ∧ s.heap.DictOf (mixKind X.prog X.w) p vs := I.hok p _ hx
      have hlen : kvs.length = vs.length := Paired.length r
      exact wpAny_truthy_dict hS m (by omega) ⟨H, I.tok _, by rw [isEmpty_kv r]; exact q⟩
  | _ => exact (show False from e).elim
theorem pt_truth (ha : PE X a ta) (he : ∀ whole, isTrue a X.env whole = (do let v ← whole; standAt a.pos; holding [v] (truthy v))) :
    PT X a (fun σ H Q => ta σ H fun x H' => ∃ k, TruV X.K x H' k ∧ Q k H') := by
  intro pins s σ H Q I h
  exact isTrue_plain (thn (ha pins s σ H _ I h) fun v s1 ⟨x, H1, I1, r1, q1⟩ => tru_ok pins s1 σ H1 x v Q I1 r1 q1) (he _)
theorem op_add_str : OpR X (binaryOp .Add) (fun x y H Q => ∃ i j, x = .str i ∧ y = .str j ∧ i.length + j.length ≤ sizeLine ∧ Q (.str (i ++ j)) H) := by
  intro pins s σ H x y v u Q I rx ry h
  obtain ⟨i, j, rfl, rfl, hz, q⟩ := h
  obtain ⟨t, rfl⟩ := rx
  obtain ⟨t', rfl⟩ := ry
  exact add_str (fun t' tk => ⟨.str (i ++ j), H, I.tok _, ⟨_, rfl⟩, q⟩) hz
theorem vals1 {x : V} {us : List Value} (r : Vals [x] us) : ∃ u, us = [u] ∧ RelV x u := by
  cases r with
  | cons r1 r2 => cases r2; exact ⟨_, rfl, r1⟩
theorem vals2 {x y : V} {us : List Value} (r : Vals [x, y] us) : ∃ u w', us = [u, w'] ∧ RelV x u ∧ RelV y w' := by
  cases r with
  | cons r1 r2 =>
    cases r2 with
    | cons r3 r4 => cases r4; exact ⟨_, _, rfl, r1, r3⟩
theorem call_abs : CallR X (.builtin "abs") (fun xs H Q => ∃ i, xs = [.int i] ∧ Q (.int (if i < 0 then -i else i)) H) := by
  intro pins s σ H xs us Q I r h
  obtain ⟨i, rfl, q⟩ := h
  obtain ⟨u, rfl, t, rfl⟩ := vals1 r
  exact call_abs_int fun u tk => ⟨.int (if i < 0 then -i else i), H, I.tok _, ⟨_, rfl⟩, q⟩
theorem call_max2 (hc : X.calm = true) : CallR X (.builtin "max") (fun xs H Q => ∃ i j, xs = [.int i, .int j] ∧ Q (.int (if j > i then j else i)) H) := by
  intro pins s σ H xs us Q I r h
  obtain ⟨i, j, rfl, q⟩ := h
  obtain ⟨u, w', rfl, ⟨t, rfl⟩, ⟨t', rfl⟩⟩ := vals2 r
  refine max_two_ints (I.ok.hd hc) fun h' tk k => ⟨_, H, I.kept k, ?_, q⟩
  by_cases hj : j > i
  · rw [if_pos hj, if_pos hj]; exact ⟨_, rfl⟩
  · rw [if_neg hj, if_neg hj]; exact ⟨_, rfl⟩
theorem call_int1 : CallR X (.type "int") (fun xs H Q => (∃ i, xs = [.int i] ∧ Q (.int i) H) ∨ ∃ k, xs = [.bl k] ∧ Q (.int (if k then 1 else 0)) H) := by
  intro pins s σ H xs us Q I r h
  rcases h with ⟨i, rfl, q⟩ | ⟨k, rfl, q⟩
  · obtain ⟨u, rfl, t, rfl⟩ := vals1 r
    exact call_int_int ⟨.int i, H, I, ⟨_, rfl⟩, q⟩
  · obtain ⟨u, rfl, r1⟩ := vals1 r
    cases r1
    exact call_int_bool ⟨.int (if k then 1 else 0), H, I.tok _, ⟨_, rfl⟩, q⟩
theorem call_str_int : CallR X (.type "str") (fun xs H Q => ∃ i, xs = [.int i] ∧ i.natAbs.log2 < 1920 ∧ Q (.str (toString i)) H) := by
  intro pins s σ H xs us Q I r h
  obtain ⟨i, rfl, hz, q⟩ := h
  obtain ⟨u, rfl, t, rfl⟩ := vals1 r
  exact PySem.P.str_of_int hz ⟨.str _, H, I.tok _, ⟨_, rfl⟩, q⟩
theorem call_ord : CallR X (.builtin "ord") (fun xs H Q => ∃ x, xs = [.str x] ∧ x.length = 1 ∧ Q (.int (x.cps.getD 0 0 : Nat)) H) := by
  intro pins s σ H xs us Q I r h
  obtain ⟨x, rfl, hz, q⟩ := h
  obtain ⟨u, rfl, t, rfl⟩ := vals1 r
  exact ord_of_one hz ⟨.int _, H, I.tok _, ⟨_, rfl⟩, q⟩
end
end L2
namespace L2
open PySem PySem.Spec PyProof.Rows
structure ObjM (h : Heap) (x dx C : Addr) (mA : Str → Option Value) : Prop where
  obj : h.get? x = some (PySem.W.instObj C dx)
  ns : h.Ns1 dx mA
  ne : dx ≠ x
theorem lookIn_ns {h : Heap} {dx : Addr} {mA : Str → Option Value} (n : h.Ns1 dx mA) : ∃ od, h.get? dx = some od ∧ ∀ name, PySem.W.lookIn name od = some (mA name) := by
  obtain ⟨o, es, ep, ho, hd, hk, _, hm⟩ := n
  refine ⟨o, ho, fun name => ?_⟩
  have e := hm name
  unfold nsFind findBy at e
  rw [← Array.find?_toList] at e
  unfold PySem.W.lookIn
  rw [hd]
  dsimp only
  split
  · rename_i y q
    rw [q] at e
    exact congrArg some e
  · rename_i q
    rw [q] at e
    have a : es.toList.any (·.refKey) = false := by
      rw [List.any_eq_false]
      intro y hy
      obtain ⟨z, t, hkey⟩ := hk y (Array.mem_toList_iff.mp hy)
      simp [DictEntry.refKey, hkey]
    have a' : ¬ es.toList.any (·.refKey) = true := by rw [a]; exact Bool.false_ne_true
    rw [if_neg a']
    exact congrArg some e
theorem ObjM.look {h : Heap} {x dx C : Addr} {mA : Str → Option Value} (I : ObjM h x dx C mA) : ∃ od, PySem.W.InstAt h x (PySem.W.instObj C dx) C (some od) ∧ ∀ name, PySem.W.lookIn name od = some (mA name) :=
  let ⟨od, ho, hl⟩ := lookIn_ns I.ns
  ⟨od, ⟨I.obj, rfl, rfl, ho⟩, hl⟩
section
variable {prog : Program} {w : World} {A : Around} {E : Value → Shared → Prop} {s : Shared} {K : PySem.W.Frag} {x dx C f : Addr} {mA : Str → Option Value} {name : Str} {v : Value}
theorem get_map {expr : Bool} {Q : Value → Shared → Prop} (X : K.In s.heap) (I : ObjM s.heap x dx C mA) (hg : PySem.W.plainGet K C name = true) (hh : PySem.W.hasDictIn K C = true)
    (ha : PySem.W.findIn K (.ref C) name = some none) (hv : mA name = some v) (hv' : PySem.W.handedIn v = true) (h : Q v { s with toks := s.toks + 1 }) :
    wpAny (model prog w) A (getAttr (.ref x) name expr) Q E s := by
  obtain ⟨od, J, hl⟩ := I.look
  exact PySem.W.get_value X J (PySem.W.plainGet_of hg).1 (PySem.W.findObj_own hh ha rfl (by rw [hl, hv])) hv' h
theorem get_meth {pl : Sem Bool} {Q : Value × List Value → Shared → Prop} (X : K.In s.heap) (I : ObjM s.heap x dx C mA) (hg : PySem.W.plainGet K C name = true)
    (hf : PySem.W.findIn K (.ref C) name = some (some (.ref f))) (ht : PySem.W.isFn K (.ref f) = true) (hv : mA name = none) (h : Q (.ref f, [.ref x]) s) :
    wpAny (model prog w) A (getMethod (.ref x) name pl) Q E s := by
  obtain ⟨od, J, hl⟩ := I.look
  exact PySem.W.method_fn X J (PySem.W.plainGet_of hg).1 (PySem.W.plainGet_of hg).2 hf (beq_iff_eq.mp ht) (by show (PySem.W.lookIn name od).map (·.isSome) = some false; rw [hl, hv]; rfl) h
theorem set_map {ns : List Str} {Q : Unit → Shared → Prop} (X : K.In s.heap) (I : ObjM s.heap x dx C mA)
    (hs : PySem.W.findIn K (.ref C) "__setattr__" = some (some (.builtin "object.__setattr__"))) (hp : PySem.W.plainOver K C = true) (ht : PySem.W.takerIn K C name = some none) (hh : PySem.W.hasDictIn K C = true)
    (hw : PySem.Within mA ns) (hsz : ns.length ≤ sizeLine)
    (h : ∀ h', ObjM h' x dx C (fun y => if y = name then some v else mA y) → Heap.SameBut dx s.heap h' → Q () { s with heap := h', toks := s.toks + 2 }) :
    wpAny (model prog w) A (setAttr (.ref x) name v) Q E s := by
  obtain ⟨od, J, hl⟩ := I.look
  refine PySem.W.set_plain X J hs (PySem.W.osa_open (s := { s with toks := s.toks + 1 }) (r := none) X J hp ht fun b => ?_)
  obtain ⟨cd, hc, hd'⟩ := PySem.W.any_some hh
  have hx : s.heap.get? x = some ⟨.ref C, some dx, .plain, #[]⟩ := I.obj
  refine wpAny_bind (wpAny_pure (wpAny_bind (wpAny_bind (wpAny_loadPart hx (wpAny_bind (PySem.W.Looks.here (s := { s with toks := s.toks + 1 }) (PySem.W.looks_clsIn X hc) ?_))))))
  rw [hd']
  refine wpAny_pure (a := some dx) (wpAny_bind (wpAny_pure (wpAny_bind ?_)))
  refine wpAny_nsSet1 (s := { s with toks := s.toks + 1 }) I.ns fun h' hn2 hs2 => ?_
  obtain ⟨oD, esD, epD, hoD, hdD, hcD⟩ := hn2.count (PySem.Within.cons name v hw)
  refine wpAny_bind (wpAny_lookBehind hoD (by rw [hdD]; exact pastItsLine_dict (Nat.le_trans hcD (by rw [List.length_cons]; omega))) ?_)
  exact wpAny_pure (h _ ⟨(hs2.2 _ (Ne.symm I.ne)).trans I.obj, hn2, I.ne⟩ hs2)
theorem make_map {R : Result → Shared → Prop} {vs : List Value} {kw : List (Str × Value)} (X : K.In s.heap) (hm : PySem.W.makesIn K C = true)
    (hi : PySem.W.findIn K (.ref C) "__init__" = some (some (.ref f))) (hf : PySem.W.typeIn K (.ref f) = some (.type "function"))
    (h : codeAny (model prog w) (A.under (.builtin "type.__call__" ⟨.ref C :: vs, kw⟩)) (.call (.ref f) ⟨.ref (s.heap.objs.size + 1) :: vs, kw⟩) (PySem.W.InitBack (s.heap.objs.size + 1) R)
      { s with heap := (s.heap.push PySem.W.emptyDict).push (PySem.W.instObj C s.heap.objs.size) }) :
    codeAny (model prog w) A (.call (.ref C) ⟨vs, kw⟩) R s := by
  obtain ⟨hh, g, d, t, os⟩ := s
  exact PySem.W.make_core (PySem.W.makes_of X hm) (PySem.W.looks_findIn X hi) (fun self => PySem.W.bind_fn X self hf) (.inl rfl) h
end
def putF (f : Str) (v : V) : List (Str × V) → List (Str × V)
  | [] => [(f, v)]
  | (g, x) :: r => if g = f then (g, v) :: r else (g, x) :: putF f v r
theorem lookup_putF (f g : Str) (v : V) : ∀ fs : List (Str × V), (putF f v fs).lookup g = if g = f then some v else fs.lookup g
  | [] => by
    show List.lookup g [(f, v)] = _
    by_cases h : g = f
    · have hb : (g == f) = true := beq_iff_eq.mpr h
      simp only [List.lookup, hb, if_pos h]
    · have hb : (g == f) = false := beq_eq_false_iff_ne.mpr h
      simp only [List.lookup, hb, if_neg h]
  | (k, x) :: r => by
    have ih := lookup_putF f g v r
    rw [show putF f v ((k, x) :: r) = (if k = f then (k, v) :: r else (k, x) :: putF f v r) from rfl]
    by_cases hk : k = f
    · rw [if_pos hk]
      by_cases h : g = k
      · have hb : (g == k) = true := beq_iff_eq.mpr h
        simp only [List.lookup, hb, if_pos (h.trans hk)]
      · have hb : (g == k) = false := beq_eq_false_iff_ne.mpr h
        simp only [List.lookup, hb, if_neg (fun e : g = f => h (e.trans hk.symm))]
    · rw [if_neg hk]
      by_cases h : g = k
      · have hb : (g == k) = true := beq_iff_eq.mpr h
        simp only [List.lookup, hb, if_neg (fun e : g = f => hk (h.symm.trans e))]
      · have hb : (g == k) = false := beq_eq_false_iff_ne.mpr h
        simp only [List.lookup, hb]
        exact ih
theorem keys_putF (f : Str) (v : V) : ∀ fs : List (Str × V), f ∈ (putF f v fs).map (·.1) ∧ ∀ g, g ∈ fs.map (·.1) → g ∈ (putF f v fs).map (·.1)
  | [] => ⟨by simp [putF], fun g h => by simp at h⟩
  | (k, x) :: r => by
    obtain ⟨i1, i2⟩ := keys_putF f v r
    rw [show putF f v ((k, x) :: r) = (if k = f then (k, v) :: r else (k, x) :: putF f v r) from rfl]
    by_cases hk : k = f
    · rw [if_pos hk]
      subst hk
      exact ⟨by simp, fun g h => by simpa using h⟩
    · rw [if_neg hk]
      refine ⟨?_, fun g h => ?_⟩
      · rw [List.map_cons]
        exact List.mem_cons_of_mem _ i1
      · rw [List.map_cons] at h ⊢
        rcases List.mem_cons.mp h with e | e
        · exact List.mem_cons.mpr (.inl e)
        · exact List.mem_cons_of_mem _ (i2 g e)
theorem length_putF (f : Str) (v : V) : ∀ fs : List (Str × V), (putF f v fs).length ≤ fs.length + 1
  | [] => by simp [putF]
  | (k, x) :: r => by
    have ih := length_putF f v r
    rw [show putF f v ((k, x) :: r) = (if k = f then (k, v) :: r else (k, x) :: putF f v r) from rfl]
    by_cases hk : k = f
    · rw [if_pos hk, List.length_cons, List.length_cons]; omega
    · rw [if_neg hk, List.length_cons, List.length_cons]; omega
theorem RelO.some_of {v : V} {o : Option Value} (r : RelO (some v) o) : ∃ u, o = some u ∧ RelV v u := by
  cases o with
  | none => exact (show False from r).elim
  | some u => exact ⟨u, rfl, r⟩
theorem RelO.none_of {o : Option Value} (r : RelO none o) : o = none := by
  cases o with
  | none => rfl
  | some u => exact (show False from r).elim
theorem handed_of {v : V} {u : Value} (r : RelV v u) : PySem.W.handedIn u = true := by
  cases v with
  | non => cases (show u = Value.none from r); rfl
  | bl b => cases (show u = Value.bool b from r); rfl
  | int i => obtain ⟨t, e⟩ := (show ∃ t, u = Value.int i t from r); cases e; rfl
  | str x => obtain ⟨t, e⟩ := (show ∃ t, u = Value.str x t from r); cases e; rfl
  | byt b => obtain ⟨t, e⟩ := (show ∃ t, u = Value.bytes b t from r); cases e; rfl
  | flt b => obtain ⟨t, e⟩ := (show ∃ t, u = Value.float b t from r); cases e; rfl
  | ref a => cases (show u = Value.ref a from r); rfl
  | ty n => cases (show u = Value.type n from r); rfl
section
variable {P : Program} {w : World} {H H' : Hp} {h h' : Heap} {a C dx : Addr} {fs fs' : List (Str × V)}
theorem ins_get (hok : HOk P w H h) (e : H a = some (.ins C dx fs)) : ∃ mA, ObjM h a dx C mA ∧ (∀ f, RelO (fs.lookup f) (mA f)) ∧ PySem.Within mA (fs.map (·.1)) ∧ fs.length ≤ 1000 ∧ H dx = some (.own a) := by
  obtain ⟨d, z, ne, ob, mA, n, r, q⟩ := (show ObjOk P w H h a (.ins C dx fs) from hok a _ e)
  exact ⟨mA, ⟨ob, n, ne⟩, r, q, z, d⟩
end
structure Cls (K : PySem.W.Frag) (C : Addr) : Prop where
  pg : PySem.W.plainGet K C Str.empty = true
  hd : PySem.W.hasDictIn K C = true
  po : PySem.W.plainOver K C = true
  sa : PySem.W.findIn K (.ref C) "__setattr__" = some (some (.builtin "object.__setattr__"))
theorem Cls.get {K : PySem.W.Frag} {C : Addr} (c : Cls K C) (f : Str) : PySem.W.plainGet K C f = true := c.pg
def NoAttr (K : PySem.W.Frag) (C : Addr) (f : Str) : Prop := PySem.W.findIn K (.ref C) f = some none
theorem NoAttr.taker {K : PySem.W.Frag} {C : Addr} {f : Str} (n : NoAttr K C f) : PySem.W.takerIn K C f = some none := by
  unfold PySem.W.takerIn
  rw [show PySem.W.findIn K (.ref C) f = some none from n]
  rfl
structure Con (K : PySem.W.Frag) (C : Addr) (f : Str) (v : V) (u : Value) : Prop where
  at_ : PySem.W.findIn K (.ref C) f = some (some u)
  rel : RelV v u
  get : PySem.W.specialIn K u "__get__" = some none
  cp : PySem.W.copiedNames.contains f = false
structure Meth (K : PySem.W.Frag) (C : Addr) (m : Str) (f : Addr) : Prop where
  at_ : PySem.W.findIn K (.ref C) m = some (some (.ref f))
  fn : PySem.W.isFn K (.ref f) = true
  kp : PySem.W.keepIn K (.ref f) = true
section
variable {X : Cx} {pins : List (Addr × Obj)} {σ : St} {H : Hp} {s : Shared} {a C dx : Addr} {fs : List (Str × V)} {f : Str} {v : V} {A : Around} {E : Value → Shared → Prop}
theorem getattr_ok {b : Bool} {Q : Value → Shared → Prop} (I : Inv X pins σ H s) (e : H a = some (.ins C dx fs)) (c : Cls X.K C) (n : NoAttr X.K C f) (l : fs.lookup f = some v)
    (h : ∀ u s', Inv X pins σ H s' → RelV v u → Q u s') : wpAny (model X.prog X.w) A (getAttr (.ref a) f b) Q E s := by
  obtain ⟨mA, O, r, _, _, _⟩ := ins_get I.hok e
  obtain ⟨u, hu, ru⟩ := RelO.some_of (v := v) (o := mA f) (by rw [← l]; exact r f)
  exact get_map I.kIn O (c.get f) c.hd n hu (handed_of ru) (h u _ (I.tok _) ru)
theorem getmeth_ok {m : Str} {g : Addr} {pl : Sem Bool} {Q : Value × List Value → Shared → Prop} (I : Inv X pins σ H s) (e : H a = some (.ins C dx fs)) (c : Cls X.K C) (k : Meth X.K C m g) (l : fs.lookup m = none)
    (h : Q (.ref g, [.ref a]) s) : wpAny (model X.prog X.w) A (getMethod (.ref a) m pl) Q E s := by
  obtain ⟨mA, O, r, _, _, _⟩ := ins_get I.hok e
  have hn : mA m = none := RelO.none_of (by rw [← l]; exact r m)
  exact get_meth I.kIn O (c.get m) k.at_ k.fn hn h
theorem setattr_ok {y : V} {u : Value} {Q : Unit → Shared → Prop} (I : Inv X pins σ H s) (e : H a = some (.ins C dx fs)) (c : Cls X.K C) (n : NoAttr X.K C f) (hl : fs.length < 1000) (ry : RelV y u)
    (h : ∀ s', Inv X pins σ (upd H a (.ins C dx (putF f y fs))) s' → Q () s') : wpAny (model X.prog X.w) A (setAttr (.ref a) f u) Q E s := by
  obtain ⟨mA, O, r, wi, _, ho⟩ := ins_get I.hok e
  have hz : (fs.map (·.1)).length ≤ sizeLine := by rw [List.length_map, sizeLine_eq]; omega
  refine set_map I.kIn O c.sa c.po n.taker c.hd wi hz fun h' O' sb => h _ ?_
  have hd : ∃ o, h'.get? dx = some o := let ⟨o, _, _, e', _⟩ := O'.ns; ⟨o, e'⟩
  refine I.write (x := a) (e := dx) (by rw [e]; exact True.intro) (.inr ho) (fun b q hb z => (sb.2 b hb).trans z) hd ?_
  refine ⟨by rw [upd_ne O.ne]; exact ho, ?_, O.ne, O'.obj, _, O'.ns, fun g => ?_, fun g hg => ?_⟩
  · have := length_putF f y fs; omega
  · show RelO ((putF f y fs).lookup g) (if g = f then some u else mA g)
    rw [lookup_putF]
    by_cases q : g = f
    · rw [if_pos q, if_pos q]; exact ry
    · rw [if_neg q, if_neg q]; exact r g
  · by_cases q : g = f
    · rw [q]; exact (keys_putF f y fs).1
    · refine (keys_putF f y fs).2 g (wi g fun z => hg ?_)
      show (if g = f then some u else mA g) = none
      rw [if_neg q]; exact z
theorem Inv.made (I : Inv X pins σ H s) : Inv X pins σ (upd (upd H s.heap.objs.size (.own (s.heap.objs.size + 1))) (s.heap.objs.size + 1) (.ins C s.heap.objs.size []))
    { s with heap := (s.heap.push PySem.W.emptyDict).push (PySem.W.instObj C s.heap.objs.size) } := by
  have e1 : (s.heap.push PySem.W.emptyDict).get? s.heap.objs.size = some PySem.W.emptyDict := Heap.get?_push_size s.heap rfl
  have e2 : ((s.heap.push PySem.W.emptyDict).push (PySem.W.instObj C s.heap.objs.size)).get? (s.heap.objs.size + 1) = some (PySem.W.instObj C s.heap.objs.size) := by
    have := Heap.get?_push_size (s.heap.push PySem.W.emptyDict) (o := PySem.W.instObj C s.heap.objs.size) rfl
    rwa [Heap.size_push] at this
  have e3 : (s.heap.push PySem.W.emptyDict).Ns s.heap.objs.size (fun _ => none) := ⟨PySem.W.emptyDict, #[], _, e1, rfl, (fun e he => absurd he (by simp)), fun _ => rfl⟩
  have I1 := I.laid (a := s.heap.objs.size) (o := .own (s.heap.objs.size + 1)) (h' := s.heap.push PySem.W.emptyDict) (t' := s.toks) (fun b u q => Heap.get?_push_of_some _ q) (Nat.le_refl _) ⟨_, e1⟩
  refine I1.laid (a := s.heap.objs.size + 1) (o := .ins C s.heap.objs.size []) (t' := s.toks) (fun b u q => Heap.get?_push_of_some _ q) (Nat.le_of_eq (Heap.size_push _ _)) ?_
  have ne : s.heap.objs.size ≠ s.heap.objs.size + 1 := Nat.ne_of_lt (Nat.lt_succ_self _)
  refine ⟨by rw [upd_ne ne, upd_same], Nat.zero_le _, ne, e2, fun _ => none, (Heap.Ns1.of_empty e3).at fun o q => Heap.get?_push_of_some _ q, fun _ => True.intro, fun y hy => absurd rfl hy⟩
theorem attr_of {prog : Program} {w : World} {env : Env} {e : Expr} {f : Str} {pos : Pos} {s : Shared} {Q : Value → Shared → Prop} (hb : attributeBase e f env (eval e env) = eval e env)
    (h : wpAny (model prog w) A (eval e env) (fun o s₁ => wpAny (model prog w) A (getAttr o f true) Q E s₁) E s) : wpAny (model prog w) A (eval (.Attribute e f pos) env) Q E s :=
  Attribute_any_ h (by rw [arm_eval_Attribute, hb])
end
def tFld (K : PySem.W.Frag) (ta : TE) (f : Str) : TE := fun σ H Q => ta σ H fun x H1 => ∃ a C dx fs v, x = .ref a ∧ H1 a = some (.ins C dx fs) ∧ Cls K C ∧ NoAttr K C f ∧ fs.lookup f = some v ∧ Q v H1
def sFld (K : PySem.W.Frag) (ta tv : TE) (f : Str) : TS := fun D σ H => tv σ H fun y H1 => ta σ H1 fun x H2 => ∃ a C dx fs, x = .ref a ∧ H2 a = some (.ins C dx fs) ∧ Cls K C ∧ NoAttr K C f ∧ fs.length < 1000 ∧
  D.nx σ (upd H2 a (.ins C dx (putF f y fs)))
def InOp (X : Cx) (op : Operator) (rd : V → V → Hp → VK → Prop) : Prop :=
  ∀ (pins : List (Addr × Obj)) (s : Shared) (σ : St) (H : Hp) (x y : V) (u v : Value) (Q : VK), Inv X pins σ H s → RelV x u → RelV y v → rd x y H Q → wpAny (model X.prog X.w) X.A (inplaceOp op u v) (EP X pins σ Q) X.xe s
def sFldAug (K : PySem.W.Frag) (ta tv : TE) (rd : V → V → Hp → VK → Prop) (f : Str) : TS := fun D σ H => ta σ H fun x H1 => ∃ a C dx fs v, x = .ref a ∧ H1 a = some (.ins C dx fs) ∧ Cls K C ∧ NoAttr K C f ∧ fs.lookup f = some v ∧
  tv σ H1 fun y H2 => rd v y H2 fun z H3 => ∃ dx' fs', H3 a = some (.ins C dx' fs') ∧ fs'.length < 1000 ∧ D.nx σ (upd H3 a (.ins C dx' (putF f z fs')))
section
variable {X : Cx} {o e value : Expr} {f : Str} {pos pos' tpos : Pos} {ta tv : TE}
theorem pe_fld (he : PE X e ta) (hb : attributeBase e f X.env (eval e X.env) = eval e X.env) : PE X (.Attribute e f pos) (tFld X.K ta f) := by
  intro pins s σ H Q I h
  refine attr_of hb (thn (he pins s σ H _ I h) fun u s1 ⟨x, H1, I1, rx, a, C, dx, fs, v, ex, ea, c, n, l, q⟩ => ?_)
  subst ex
  obtain rfl : u = Value.ref a := rx
  exact getattr_ok I1 ea c n l fun u' s2 I2 ru => ⟨v, H1, I2, ru, q⟩
theorem ps_fld (ha : PE X o ta) (hv : PE X value tv) (hs : swapsWith value (some (.Attribute o f pos')) pos.line X.env = pure false) : PS X (.Assign [.Attribute o f pos'] value pos) (sFld X.K ta tv f) := by
  intro pins s σ H D I h
  refine plainObj_wpAny_Assign_Attribute (thn (hv pins s σ H _ I h) fun u s1 ⟨y, H1, I1, ry, q⟩ => thn (ha pins s1 σ H1 _ I1 q) fun ov s2 ⟨x, H2, I2, rx, a, C, dx, fs, ex, ea, c, n, l, q2⟩ => ?_) hs
  subst ex
  obtain rfl : ov = Value.ref a := rx
  exact setattr_ok I2 ea c n l ry fun s3 I3 => ⟨σ, _, I3, q2⟩
theorem ps_fldaug {op : Operator} {rd : V → V → Hp → VK → Prop} (ha : PE X o ta) (hv : PE X value tv) (hop : InOp X op rd) : PS X (.AugAssign (.Attribute o f tpos) op value pos) (sFldAug X.K ta tv rd f) := by
  intro pins s σ H D I h
  refine wpAny_AugAssign_AttributeAny (thn (ha pins s σ H _ I h) fun ov s1 ⟨x, H1, I1, rx, a, C, dx, fs, v, ex, ea, c, n, l, q⟩ => ?_)
  subst ex
  obtain rfl : ov = Value.ref a := rx
  refine getattr_ok I1 ea c n l fun u s2 I2 ru => thn (hv pins s2 σ H1 _ I2 q) fun w3 s3 ⟨y, H2, I3, ry, q3⟩ => thn (hop pins s3 σ H2 v y u w3 _ I3 ru ry q3) fun w4 s4 ⟨z, H3, I4, rz, dx', fs', ea', l', q4⟩ => ?_
  exact setattr_ok I4 ea' c n l' rz fun s5 I5 => ⟨σ, _, I5, q4⟩
def rAdd : V → V → Hp → VK → Prop := fun x y H Q => ∃ i j, x = .int i ∧ y = .int j ∧ Q (.int (i + j)) H
theorem in_add : InOp X .Add rAdd := by
  rintro pins s σ H x y u v Q I rx ry ⟨i, j, rfl, rfl, q⟩
  obtain ⟨t, rfl⟩ := (show ∃ t, u = Value.int i t from rx)
  obtain ⟨t', rfl⟩ := (show ∃ t', v = Value.int j t' from ry)
  exact PyProof.Rows.iadd_int ⟨.int (i + j), H, I.tok _, ⟨_, rfl⟩, q⟩
end
section
variable {X : Cx} {pins : List (Addr × Obj)} {σ : St} {H : Hp} {s : Shared} {A : Around} {E : Value → Shared → Prop} {Q : Value → Shared → Prop} {c : Value} {b : Bool}
inductive TyOf (K : PySem.W.Frag) (H : Hp) : V → Value → Prop where
  | non : TyOf K H .non (.type "NoneType")
  | bl (x : Bool) : TyOf K H (.bl x) (.type "bool")
  | int (i : Int) : TyOf K H (.int i) (.type "int")
  | str (x : Str) : TyOf K H (.str x) (.type "str")
  | flt (x : UInt64) : TyOf K H (.flt x) (.type "float")
  | lst {a : Addr} {xs : List V} (e : H a = some (.lst xs)) : TyOf K H (.ref a) (.type "list")
  | frz {a : Addr} {o : Obj} {xs : List V} (e : H a = some (.frz o (.lst xs))) : TyOf K H (.ref a) (.type "list")
  | tup {a : Addr} {xs : List V} (e : H a = some (.tup xs)) : TyOf K H (.ref a) (.type "tuple")
  | dK {a : Addr} {kvs : List (Key × V)} (e : H a = some (.dK kvs)) : TyOf K H (.ref a) (.type "dict")
  | dT {a : Addr} {kvs : List (List Key × V)} (e : H a = some (.dT kvs)) : TyOf K H (.ref a) (.type "dict")
  | ins {a C dx : Addr} {fs : List (Str × V)} (e : H a = some (.ins C dx fs)) (cl : Cls K C) (ha : PySem.W.findIn K (.ref C) "__class__" = some (some (.builtin "object.__class__")))
      (hn : PySem.W.specialIn K (.builtin "object.__class__") "__get__" = some (some (.builtin "getset_descriptor.__get__"))) (htk : PySem.W.takesIn K (.builtin "object.__class__") = some true)
      (hm : PySem.W.mroIn K C (.type "object") = some true) : TyOf K H (.ref a) (.ref C)
theorem isinst_ok {x : V} {u t : Value} (I : Inv X pins σ H s) (rx : RelV x u) (ty : TyOf X.K H x t) (e : PySem.W.kitOne X.K t c = some b) (h : ∀ tk, Q (.bool b) { s with toks := tk }) :
    wpAny (model X.prog X.w) A (call (.builtin "isinstance") [u, c]) Q E s := by
  cases ty with
  | non => cases (show u = Value.none from rx); exact PySem.W.kia_one PySem.W.kitx_none I.kIn True.intro e (fun z => nomatch z) h
  | bl y => cases (show u = Value.bool y from rx); exact PySem.W.kia_one PySem.W.kitx_bool I.kIn True.intro e (fun z => nomatch z) h
  | int i => obtain ⟨t, q⟩ := (show ∃ t, u = Value.int i t from rx); cases q; exact PySem.W.kia_one PySem.W.kitx_int I.kIn True.intro e (fun z => nomatch z) h
  | str y => obtain ⟨t, q⟩ := (show ∃ t, u = Value.str y t from rx); cases q; exact PySem.W.kia_one PySem.W.kitx_str I.kIn True.intro e (fun z => nomatch z) h
  | flt y => obtain ⟨t, q⟩ := (show ∃ t, u = Value.float y t from rx); cases q; exact PySem.W.kia_one PySem.W.kitx_float I.kIn True.intro e (fun z => nomatch z) h
  | @lst a xs ea =>
    cases (show u = Value.ref a from rx)
    obtain ⟨_, _, n, _, h1⟩ := (show ObjOk X.prog X.w H s.heap a (.lst xs) from I.hok a _ ea)
    exact PySem.W.kia_one PySem.W.kitx_list I.kIn ⟨_, h1, rfl⟩ e (fun z => nomatch z) h
  | @frz a ob xs ea =>
    cases (show u = Value.ref a from rx)
    obtain ⟨_, _, _, n, _, h1⟩ := (show ObjOk X.prog X.w H s.heap a (.frz ob (.lst xs)) from I.hok a _ ea)
    exact PySem.W.kia_one PySem.W.kitx_list I.kIn ⟨_, h1, rfl⟩ e (fun z => nomatch z) h
  | @tup a xs ea =>
    cases (show u = Value.ref a from rx)
    obtain ⟨_, _, _, p⟩ := (show ObjOk X.prog X.w H s.heap a (.tup xs) from I.hok a _ ea)
    obtain ⟨o, h1, h2, _⟩ := p
    exact PySem.W.kia_one PySem.W.kitx_tuple I.kIn ⟨o, h1, h2⟩ e (fun z => nomatch z) h
  | @dK a kvs ea =>
    cases (show u = Value.ref a from rx)
    obtain ⟨_, _, vs, _, p⟩ := (show ObjOk X.prog X.w H s.heap a (.dK kvs) from I.hok a _ ea)
    obtain ⟨o, es, ep, h1, h2, _⟩ := p
    exact PySem.W.kia_one PySem.W.kitx_dict I.kIn ⟨o, h1, h2.1⟩ e (fun z => nomatch z) h
  | @dT a kvs ea =>
    cases (show u = Value.ref a from rx)
    obtain ⟨_, _, xs, _, o, es, ep, h1, h2, _⟩ := (show ObjOk X.prog X.w H s.heap a (.dT kvs) from I.hok a _ ea)
    exact PySem.W.kia_one PySem.W.kitx_dict I.kIn ⟨o, h1, h2.1⟩ e (fun z => nomatch z) h
  | @ins a C dx fs ea cl ha hn htk hm =>
    cases (show u = Value.ref a from rx)
    obtain ⟨mA, O, _⟩ := ins_get I.hok ea
    obtain ⟨od, J, _⟩ := O.look
    exact PySem.W.kia_one (PySem.W.kitx_own (cl.get _) cl.hd ha hn htk hm) I.kIn J e (fun z => nomatch z) h
end
end L2
namespace L2
open PySem PySem.Spec PyProof.Rows
structure Room (k : Nat) (A : Around) : Prop where
  hd : A.handled = none
  dp : A.depth + 3 * k + 5 < recursionLimit
  un : A.units + 16 * k + 200 < cLine
theorem Room.mono {j k : Nat} {A : Around} (r : Room k A) (h : j ≤ k) : Room j A := ⟨r.hd, by have := r.dp; omega, by have := r.un; omega⟩
theorem Room.deeper {k : Nat} {A : Around} (r : Room (k + 1) A) (env : Env) : Room k (A.deeper env) :=
  ⟨r.hd, by have := r.dp; show A.depth + 1 + 3 * k + 5 < _; omega, by have := r.un; show A.units + 3 + 16 * k + 200 < _; omega⟩
theorem make_depth {A : Around} {C : Addr} {us : List Value} {kw : List (Str × Value)} : (A.under (.builtin "type.__call__" ⟨.ref C :: us, kw⟩)).depth = A.depth + 1 := by
  first | rfl | simp [Around.under, Code.weight, Code.isCreation, Code.isGuard, Code.isCaller, Code.frames, Code.isFrame, guardIds]
theorem make_units {A : Around} {C : Addr} {us : List Value} {kw : List (Str × Value)} : (A.under (.builtin "type.__call__" ⟨.ref C :: us, kw⟩)).units = A.units + 1 := by
  first | rfl | simp [Around.under, Code.cUnits, Code.frames, Code.isFrame]
theorem Room.make {k : Nat} {A : Around} (r : Room (k + 1) A) (C : Addr) (us : List Value) (kw : List (Str × Value)) : Room k (A.under (.builtin "type.__call__" ⟨.ref C :: us, kw⟩)) :=
  ⟨r.hd, by have := r.dp; rw [make_depth]; omega, by have := r.un; rw [make_units]; omega⟩
theorem Room.depth {k : Nat} {A : Around} (r : Room k A) : A.depth < recursionLimit := by have := r.dp; omega
theorem Room.units {k : Nat} {A : Around} (r : Room k A) : A.units + 64 < cLine := by have := r.un; omega
theorem Room.units0 {k : Nat} {A : Around} (r : Room k A) : A.units < cLine := by have := r.un; omega
def tNil : TA := fun _ H Q => Q [] H
def tCons (ta : TE) (tr : TA) : TA := fun σ H Q => ta σ H fun x H1 => tr σ H1 fun xs H2 => Q (x :: xs) H2
section
variable {X : Cx} {e : Expr} {es : List Expr} {te : TE} {t : TA} {pos : Pos}
theorem pa_nil : PA X [] tNil := fun _ _ _ _ H Q I h => Calls.spliced_nil ⟨[], H, I, .nil, h⟩
theorem pa_cons (ha : PE X e te) (hr : PA X es t) (hs : starEach (e :: es) X.env = (false, eval e X.env) :: starEach es X.env := by rfl) : PA X (e :: es) (tCons te t) := by
  intro pos pins s σ H Q I h
  rw [hs]
  show wpAny _ _ (spliced ((false, eval e X.env) :: backTo pos (starEach es X.env))) _ _ s
  refine Calls.spliced_cons (thn (ha pins s σ H _ I h) fun u s1 ⟨x, H1, I1, r1, q1⟩ => ?_)
  exact thn (hr pos pins s1 σ H1 _ I1 q1) fun us s2 ⟨xs, H2, I2, r2, q2⟩ => ⟨x :: xs, H2, I2, .cons r1 r2, q2⟩
def tTup (t : TA) : TE := fun σ H Q => t σ H fun xs H1 => xs.length ≤ sizeLine ∧ ∀ p, H1 p = none → Q (.ref p) (upd H1 p (.tup xs))
def tLst (t : TA) : TE := fun σ H Q => t σ H fun xs H1 => xs.length ≤ sizeLine ∧ ∀ p, H1 p = none → Q (.ref p) (upd H1 p (.lst xs))
theorem pe_tup {x1} (h : PA X es t) : PE X (.Tuple es x1 pos) (tTup t) := by
  intro pins s σ H Q I hq
  refine wpAny_Tuple_spliced (thn (h pos pins s σ H _ I hq) fun us s1 ⟨xs, H1, I1, r, z, q⟩ => ⟨by rw [← r.length]; exact z, ?_⟩)
  have hf : H1 s1.heap.objs.size = none := I1.hok.fresh (Nat.le_refl _)
  refine ⟨.ref s1.heap.objs.size, upd H1 s1.heap.objs.size (.tup xs), I1.laid (t' := s1.toks) (fun b u e => Heap.get?_push_of_some _ e) (Nat.le_refl _) ?_, rfl, q _ hf⟩
  exact ⟨z, us, r, ⟨_, Heap.get?_push_size _ rfl, rfl, _, rfl⟩⟩
theorem pe_lst (h : PA X es t) : PE X (.List es pos) (tLst t) := by
  intro pins s σ H Q I hq
  refine wpAny_List_spliced (thn (h pos pins s σ H _ I hq) fun us s1 ⟨xs, H1, I1, r, z, q⟩ => ⟨by rw [← r.length]; exact z, ?_⟩)
  have hf : H1 s1.heap.objs.size = none := I1.hok.fresh (Nat.le_refl _)
  refine ⟨.ref s1.heap.objs.size, upd H1 s1.heap.objs.size (.lst xs), I1.laid (t' := s1.toks) (fun b u e => Heap.get?_push_of_some _ e) (Nat.le_refl _) ?_, rfl, q _ hf⟩
  exact ⟨z, us, 0, r, Heap.get?_push_size _ rfl⟩
end
abbrev Sp := List V → Hp → VK → XK → Prop
abbrev CXT := List Env → Hp → Shared → XK → Value → Shared → Prop
structure Env0 (P : Program) (w : World) (K : PySem.W.Frag) (mg : Str → Option Value) (base : Heap) (A : Around) (outer : List Env) (s : Shared) (H : Hp) : Prop where
  frames : A.frames = some outer
  mod : Mod K mg base
  bs : ∀ b o, base.get? b = some o → s.heap.get? b = some o ∧ H b = none
  bsz : base.objs.size ≤ s.heap.objs.size
  funs : s.heap.FunFrames base outer
  frf : ∀ b ∈ frs outer, H b = none
  hok : HOk P w H s.heap
  bare : AllBare s.gens
def CE (outer : List Env) (P : Program) (w : World) (H : Hp) (s : Shared) (Q : VK) (u : Value) (s' : Shared) : Prop :=
  ∃ v H', s'.os = s.os ∧ AllBare s'.gens ∧ Un (frs outer) [] H H' s.heap s'.heap ∧ HOk P w H' s'.heap ∧ RelV v u ∧ Q v H'
def CR (CX : CXT) (outer : List Env) (P : Program) (w : World) (H : Hp) (s : Shared) (Q : VK) (E : XK) (r : Result) (s' : Shared) : Prop :=
  match r with
  | .ok (.ret u) => CE outer P w H s Q u s'
  | .ok _ => False
  | .error e => CX outer H s E e s'
structure FnOk (P : Program) (w : World) (K : PySem.W.Frag) (mg : Str → Option Value) (base : Heap) (CX : CXT) (k : Nat) (f : Addr) (fd : FuncData) (ps : List Str) (sp : Sp) : Prop where
  len : ∀ vs H Q E, sp vs H Q E → vs.length = ps.length
  run : ∀ (A : Around) (outer : List Env) (s : Shared) (H : Hp) (args : Args) (us : List Value) (vs : List V) (Q : VK) (E : XK), Room k A → Env0 P w K mg base A outer s H → BindsTo s fd args (ps.zip us) → Vals vs us → sp vs H Q E →
    codeAny (model P w) A (.call (.ref f) args) (CR CX outer P w H s Q E) s
theorem Env0.make {P : Program} {w : World} {K : PySem.W.Frag} {mg : Str → Option Value} {base : Heap} {A : Around} {outer : List Env} {s : Shared} {H : Hp} (e : Env0 P w K mg base A outer s H) (C : Addr) (us : List Value) (kw : List (Str × Value)) :
    Env0 P w K mg base (A.under (.builtin "type.__call__" ⟨.ref C :: us, kw⟩)) outer s H := ⟨by first | exact e.frames | (simpa [Around.under, Code.envs, Code.isFrame, pushEnvs] using e.frames), e.mod, e.bs, e.bsz, e.funs, e.frf, e.hok, e.bare⟩
section
variable {X : Cx} {pins : List (Addr × Obj)} {σ : St} {H : Hp} {s s' : Shared}
theorem Inv.env0 (I : Inv X pins σ H s) : Env0 X.prog X.w X.K X.mg X.base X.A X.stack s H :=
  ⟨I.ok.frames, I.ok.mod, I.bs, Nat.le_trans I.ok.bsz I.sz, I.stack, I.stkFree, I.hok, I.bare⟩
theorem Inv.after {Q : VK} {u : Value} (I : Inv X pins σ H s) (h : CE X.stack X.prog X.w H s Q u s') : EP X pins σ Q u s' := by
  obtain ⟨v, H', os, bare, un, hok, r, q⟩ := h
  obtain ⟨hh, g, d, t, os'⟩ := s'
  obtain rfl : os' = s.os := os
  exact ⟨v, H', I.call (h' := hh) (g' := g) (d' := d) (t' := t) (ch := []) un hok bare (fun b z => absurd z (by simp)), r, q⟩
end
def tCall (sp : Sp) (dvs : List V) (E : XK) (t : TA) : TE := fun σ H Q => t σ H fun vs H1 => sp (vs ++ dvs) H1 Q E
def tMeth (C : Addr) (m : Str) (sp : Sp) (dvs : List V) (E : XK) (ta : TE) (t : TA) : TE := fun σ H Q => ta σ H fun x H1 => ∃ a dx fs, x = .ref a ∧ H1 a = some (.ins C dx fs) ∧ fs.lookup m = none ∧
  t σ H1 fun vs H2 => sp (x :: (vs ++ dvs)) H2 Q E
def tMake (C : Addr) (sp : Sp) (dvs : List V) (E : XK) (t : TA) : TE := fun σ H Q => t σ H fun vs H1 => ∀ x dx, H1 x = none → H1 dx = none → dx ≠ x →
  sp (.ref x :: (vs ++ dvs)) (upd (upd H1 dx (.own x)) x (.ins C dx [])) (fun v H2 => v = .non ∧ Q (.ref x) H2) E
def Binds (K : PySem.W.Frag) (fd : FuncData) (ps : List Str) (ds : List Value) : Prop :=
  ∀ (s : Shared) (us : List Value), K.In s.heap → (us ++ ds).length = ps.length → BindsTo s fd ⟨us, []⟩ (ps.zip (us ++ ds))
theorem Binds.all {K : PySem.W.Frag} {fd : FuncData} {ps : List Str} (h : ∀ us : List Value, us.length = ps.length → bindArgs fd ⟨us, []⟩ = pure (ps.zip us)) : Binds K fd ps [] := fun s us _ hl => by
  rw [List.append_nil] at hl ⊢
  exact .of_eq (h us hl)
def Passes (CX : CXT) (X : Cx) (E : XK) : Prop := ∀ (pins : List (Addr × Obj)) (σ : St) (H : Hp) (s : Shared) (e : Value) (s' : Shared), Inv X pins σ H s → CX X.stack H s E e s' → X.xe e s'
section
variable {X : Cx} {CX : CXT} {k : Nat} {f C : Addr} {fd : FuncData} {ps : List Str} {sp : Sp} {dvs : List V} {ds : List Value} {E : XK} {x m : Str} {p pos apos : Pos} {e o : Expr} {es : List Expr} {ta : TE} {t : TA}
theorem run_fn {pins : List (Addr × Obj)} {σ : St} {H : Hp} {s : Shared} {Q : VK} {us : List Value} {vs : List V} (F : FnOk X.prog X.w X.K X.mg X.base CX k f fd ps sp) (hr : Room k X.A) (hb : Binds X.K fd ps ds) (hd : Vals dvs ds) (hx : Passes CX X E)
    (I : Inv X pins σ H s) (r : Vals vs us) (h : sp (vs ++ dvs) H Q E) : wpAny (model X.prog X.w) X.A (call (.ref f) us) (EP X pins σ Q) X.xe s := by
  have r2 : Vals (vs ++ dvs) (us ++ ds) := r.append hd
  have hl : (us ++ ds).length = ps.length := by rw [← r2.length]; exact F.len _ _ _ _ h
  refine wpAny_call (codeAny_mono (F.run X.A X.stack s H ⟨us, []⟩ (us ++ ds) (vs ++ dvs) Q E hr I.env0 (hb s us I.kIn hl) r2 h) fun r s' hq => ?_)
  cases r with
  | error e => exact hx pins σ H s e s' I hq
  | ok fl =>
    cases fl with
    | ret u => exact I.after hq
    | next => exact False.elim hq
    | brk => exact False.elim hq
    | cont => exact False.elim hq
theorem pe_call (F : FnOk X.prog X.w X.K X.mg X.base CX k f fd ps sp) (hr : Room k X.A) (hg : Gl X x) (hm : X.mg x = some (.ref f)) (hk : PySem.W.keepIn X.K (.ref f) = true) (hb : Binds X.K fd ps ds) (hd : Vals dvs ds) (hx : Passes CX X E)
    (ha : PA X (e :: es) t) (hdb : (x == ("__debug__" : Str)) = false := by decide) (he : starEach (e :: es) X.env = (false, eval e X.env) :: starEach es X.env := by rfl) (hpl : (backTo pos (starEach es X.env)).any (·.1) = false := by rfl) :
    PE X (.Call (.Name x p) (e :: es) [] pos) (tCall sp dvs E t) := by
  intro pins s σ H Q I h
  refine wpAny_Call_Name_kw (ld_glob I hg hm ?_ hdb)
  refine PySem.W.callWith_K (h₀ := X.base) I.ok.mod.kin hk (thn (ha pos pins s σ H _ I h) fun us s1 ⟨vs, H1, I1, r, q⟩ => ⟨I1.kIn, ?_⟩) he hpl
  exact run_fn F hr hb hd hx I1 r q
theorem pe_call0 (F : FnOk X.prog X.w X.K X.mg X.base CX k f fd ps sp) (hr : Room k X.A) (hg : Gl X x) (hm : X.mg x = some (.ref f)) (hk : PySem.W.keepIn X.K (.ref f) = true) (hb : Binds X.K fd ps ds) (hd : Vals dvs ds) (hx : Passes CX X E)
    (hdb : (x == ("__debug__" : Str)) = false := by decide) : PE X (.Call (.Name x p) [] [] pos) (tCall sp dvs E tNil) := by
  intro pins s σ H Q I h
  refine wpAny_Call_Name_kw (ld_glob I hg hm ?_ hdb)
  exact PySem.W.callWith_K0 I.kIn hk (run_fn (us := []) F hr hb hd hx I .nil h)
theorem pe_meth {pl : Sem Bool} (he : PE X o ta) (c : Cls X.K C) (hm : Meth X.K C m f) (F : FnOk X.prog X.w X.K X.mg X.base CX k f fd ps sp) (hr : Room k X.A) (hb : Binds X.K fd ps ds) (hd : Vals dvs ds) (hx : Passes CX X E) (ha : PA X (e :: es) t)
    (hst : starEach (e :: es) X.env = (false, eval e X.env) :: starEach es X.env := by rfl) (hpl : (backTo pos (starEach es X.env)).any (·.1) = false := by rfl)
    (ht : eval (.Call (.Attribute o m apos) (e :: es) [] pos) X.env = (do
      let ov ← eval o X.env
      standAt apos.atName
      let (f, first) ← holding [ov] (getMethod ov m pl)
      callWith pos f first (backTo pos (starEach (e :: es) X.env)) (backToKw pos (keywordEach [] X.env))) := by rfl) :
    PE X (.Call (.Attribute o m apos) (e :: es) [] pos) (tMeth C m sp dvs E ta t) := by
  intro pins s σ H Q I h
  refine PySem.W.methodCall_KW (pl := pl) (thn (he pins s σ H _ I h) fun u s1 ⟨x, H1, I1, rx, a, dx, fs, ex, ea, l, q⟩ => ?_) ht
  subst ex
  obtain rfl : u = Value.ref a := rx
  refine getmeth_ok I1 ea c hm l ?_
  refine PySem.W.callWith_K (first := [.ref a]) (h₀ := X.base) I.ok.mod.kin hm.kp (thn (ha pos pins s1 σ H1 _ I1 q) fun us s2 ⟨vs, H2, I2, r, q2⟩ => ⟨I2.kIn, ?_⟩) hst hpl
  exact run_fn (us := .ref a :: us) (vs := .ref a :: vs) F hr hb hd hx I2 (.cons rfl r) q2
structure Mk (K : PySem.W.Frag) (C f : Addr) : Prop where
  makes : PySem.W.makesIn K C = true
  init : PySem.W.findIn K (.ref C) "__init__" = some (some (.ref f))
  fn : PySem.W.isFn K (.ref f) = true
  kp : PySem.W.keepIn K (.ref C) = true
theorem run_make {pins : List (Addr × Obj)} {σ : St} {H : Hp} {s : Shared} {Q : VK} {us : List Value} {vs : List V} (M : Mk X.K C f) (F : FnOk X.prog X.w X.K X.mg X.base CX k f fd ps sp) (hr : Room (k + 1) X.A) (hb : Binds X.K fd ps ds) (hd : Vals dvs ds)
    (hx : Passes CX X E) (I : Inv X pins σ H s) (r : Vals vs us)
    (h : ∀ x dx, H x = none → H dx = none → dx ≠ x → sp (.ref x :: (vs ++ dvs)) (upd (upd H dx (.own x)) x (.ins C dx [])) (fun v H2 => v = .non ∧ Q (.ref x) H2) E) :
    wpAny (model X.prog X.w) X.A (call (.ref C) us) (EP X pins σ Q) X.xe s := by
  have hq := h (s.heap.objs.size + 1) s.heap.objs.size (I.hok.fresh (Nat.le_succ _)) (I.hok.fresh (Nat.le_refl _)) (Nat.ne_of_lt (Nat.lt_succ_self _))
  have I2 := Inv.made (C := C) I
  have r2 : Vals (V.ref (s.heap.objs.size + 1) :: (vs ++ dvs)) (Value.ref (s.heap.objs.size + 1) :: (us ++ ds)) := .cons rfl (r.append hd)
  have hl : (Value.ref (s.heap.objs.size + 1) :: us ++ ds).length = ps.length := by
    have e := r2.length
    rw [F.len _ _ _ _ hq] at e
    exact e.symm
  refine wpAny_call (make_map (f := f) I.kIn M.makes M.init (beq_iff_eq.mp M.fn) (codeAny_mono (F.run _ X.stack _ _ ⟨Value.ref (s.heap.objs.size + 1) :: us, []⟩ (Value.ref (s.heap.objs.size + 1) :: (us ++ ds)) _ _ E (hr.make C us [])
    (I2.env0.make C us []) (hb _ (Value.ref (s.heap.objs.size + 1) :: us) I2.kIn hl) r2 hq) fun r s' hq' => ?_))
  cases r with
  | error e => exact hx pins σ _ _ e s' I2 hq'
  | ok fl =>
    cases fl with
    | ret u =>
      obtain ⟨v, H', I3, rv, ev, q3⟩ := I2.after hq'
      subst ev
      exact ⟨rv, ⟨V.ref (s.heap.objs.size + 1), H', I3, rfl, q3⟩⟩
    | next => exact False.elim hq'
    | brk => exact False.elim hq'
    | cont => exact False.elim hq'
theorem pe_make (M : Mk X.K C f) (F : FnOk X.prog X.w X.K X.mg X.base CX k f fd ps sp) (hr : Room (k + 1) X.A) (hg : Gl X x) (hm : X.mg x = some (.ref C)) (hb : Binds X.K fd ps ds) (hd : Vals dvs ds) (hx : Passes CX X E)
    (ha : PA X (e :: es) t) (hdb : (x == ("__debug__" : Str)) = false := by decide) (he : starEach (e :: es) X.env = (false, eval e X.env) :: starEach es X.env := by rfl) (hpl : (backTo pos (starEach es X.env)).any (·.1) = false := by rfl) :
    PE X (.Call (.Name x p) (e :: es) [] pos) (tMake C sp dvs E t) := by
  intro pins s σ H Q I h
  refine wpAny_Call_Name_kw (ld_glob I hg hm ?_ hdb)
  refine PySem.W.callWith_K (h₀ := X.base) I.ok.mod.kin M.kp (thn (ha pos pins s σ H _ I h) fun us s1 ⟨vs, H1, I1, r, q⟩ => ⟨I1.kIn, ?_⟩) he hpl
  exact run_make M F hr hb hd hx I1 r q
end
section
variable {X : Cx} {CX : CXT} {k : Nat} {f C : Addr} {fd : FuncData} {ps ks : List Str} {sp : Sp} {E : XK} {x m : Str} {p pos apos kpos : Pos} {e o : Expr} {es : List Expr} {kws : List Keyword} {te ta : TE} {t tk : TA} {nm : Option Str}
structure KBinds (K : PySem.W.Frag) (fd : FuncData) (ps ks : List Str) (g : List Value → List Value → List Value) (gV : List V → List V → List V) : Prop where
  to : ∀ (s : Shared) (us ws : List Value), K.In s.heap → (g us ws).length = ps.length → BindsTo s fd ⟨us, ks.zip ws⟩ (ps.zip (g us ws))
  rel : ∀ {vs : List V} {us : List Value} {zs : List V} {ws : List Value}, Vals vs us → Vals zs ws → Vals (gV vs zs) (g us ws)
variable {g : List Value → List Value → List Value} {gV : List V → List V → List V}
end
structure FnScope (N P : List Str) (sc : Scope) : Prop where
  kind : sc.kind = .function
  co : sc.isCoroutine = false
  gen : sc.isGenerator = false
  nd : N.Nodup
  pre : N.take P.length = P
  par : ∀ x ∈ P, sc.names.lookup x = some .local ∨ sc.names.lookup x = some .cell
  nofree : ∀ y ∈ sc.names, y.2 ≠ .free
theorem bindL_out {kindOf : Str → Option NameKind} {x : Str} : ∀ {binds : List (Str × Value)} {m : Str → Option Value}, (∀ v, (x, v) ∉ binds) → bindL kindOf binds m x = m x
  | [], _, _ => rfl
  | (n, v) :: r, m, h => by
    unfold bindL
    rw [bindL_out fun w hw => h w (List.mem_cons_of_mem _ hw)]
    split
    · have : x ≠ n := by rintro rfl; exact h v List.mem_cons_self
      simp [this]
    · rfl
theorem bindC_out {kindOf : Str → Option NameKind} {x : Str} : ∀ {binds : List (Str × Value)} {m : Str → Option Value}, (∀ v, (x, v) ∉ binds) → bindC kindOf binds m x = m x
  | [], _, _ => rfl
  | (n, v) :: r, m, h => by
    unfold bindC
    rw [bindC_out fun w hw => h w (List.mem_cons_of_mem _ hw)]
    split
    · rfl
    · have : x ≠ n := by rintro rfl; exact h v List.mem_cons_self
      simp [this]
theorem bindL_get {kindOf : Str → Option NameKind} {x : Str} {v : Value} : ∀ {P : List Str} {vs : List Value} {i : Nat} {m : Str → Option Value}, P.Nodup → P[i]? = some x → vs[i]? = some v → kindOf x = some .local →
    bindL kindOf (P.zip vs) m x = some v
  | [], _, _, _, _, h, _, _ => by simp at h
  | _ :: _, [], _, _, _, _, h, _ => by simp at h
  | p :: P, w :: vs, 0, m, nd, h1, h2, hk => by
    simp at h1 h2; subst h1; subst h2
    show bindL kindOf ((p, w) :: P.zip vs) m p = _
    unfold bindL
    rw [bindL_out fun v hv => (List.nodup_cons.mp nd).1 (List.of_mem_zip hv).1, if_pos hk]
    simp
  | p :: P, w :: vs, i + 1, m, nd, h1, h2, hk => by
    show bindL kindOf ((p, w) :: P.zip vs) m x = _
    unfold bindL
    exact bindL_get (i := i) (List.nodup_cons.mp nd).2 (by simpa using h1) (by simpa using h2) hk
theorem bindC_get {kindOf : Str → Option NameKind} {x : Str} {v : Value} : ∀ {P : List Str} {vs : List Value} {i : Nat} {m : Str → Option Value}, P.Nodup → P[i]? = some x → vs[i]? = some v → kindOf x ≠ some .local →
    bindC kindOf (P.zip vs) m x = some v
  | [], _, _, _, _, h, _, _ => by simp at h
  | _ :: _, [], _, _, _, _, h, _ => by simp at h
  | p :: P, w :: vs, 0, m, nd, h1, h2, hk => by
    simp at h1 h2; subst h1; subst h2
    show bindC kindOf ((p, w) :: P.zip vs) m p = _
    unfold bindC
    rw [bindC_out fun v hv => (List.nodup_cons.mp nd).1 (List.of_mem_zip hv).1, if_neg hk]
    simp
  | p :: P, w :: vs, i + 1, m, nd, h1, h2, hk => by
    show bindC kindOf ((p, w) :: P.zip vs) m x = _
    unfold bindC
    exact bindC_get (i := i) (List.nodup_cons.mp nd).2 (by simpa using h1) (by simpa using h2) hk
def start (N : List Str) (vs : List V) : St := vs.map some ++ List.replicate (N.length - vs.length) none
def cxOf (CX : CXT) (P : Program) (w : World) (K : PySem.W.Frag) (mg : Str → Option Value) (base : Heap) (N : List Str) (qual : Str) (scope : Scope) (f : Addr) (cd : Value) (A : Around) (outer : List Env) (s : Shared) (H : Hp) (E : XK) : Cx where
  prog := P
  w := w
  K := K
  mg := mg
  base := base
  A := A.deeper (envOfC qual scope s.heap.objs.size f cd)
  N := N
  s₀ := s
  H₀ := H
  env := envOfC qual scope s.heap.objs.size f cd
  outer := outer
  stack := envOfC qual scope s.heap.objs.size f cd :: outer
  ex := []
  calm := true
  fn := fun _ => true
  pn := []
  xe := fun e s' => wpAny (model P w) (A.deeper (envOfC qual scope s.heap.objs.size f cd)) (leaving (envOfC qual scope s.heap.objs.size f cd) e) (fun _ s'' => CX outer H s E e s'') (fun e' s'' => CX outer H s E e' s'') s'
theorem cell_has {sc : Scope} {n : Nat} {x : Str} (h : sc.names.lookup x = some .cell) : ∃ c, (cellsFrom n sc.names []).lookup x = some c := by
  have q := PySem.W.cellsFrom_some sc.names n [] (.inl h)
  exact Option.isSome_iff_exists.mp q
theorem inv_start {CX : CXT} {P : Program} {w : World} {K : PySem.W.Frag} {mg : Str → Option Value} {base : Heap} {N ps : List Str} {qual : Str} {scope : Scope} {f : Addr} {cd : Value} {A : Around} {outer : List Env} {s s1 : Shared} {H : Hp} {E : XK} {us : List Value} {vs : List V}
    (S : FnScope N ps scope) (hd : A.handled = none) (e0 : Env0 P w K mg base A outer s H) (hl : vs.length = ps.length) (r : Vals vs us)
    (x : InCallC s s.heap.objs.size (bindL (envOfC qual scope s.heap.objs.size f cd).kindOf (ps.zip us) fun _ => none) (cellsFrom (s.heap.objs.size + 1) scope.names []) (bindC (envOfC qual scope s.heap.objs.size f cd).kindOf (ps.zip us) fun _ => none) s1) :
    Inv (cxOf CX P w K mg base N qual scope f cd A outer s H E) [] (start N vs) H s1 := by
  have hpl : ps.length ≤ N.length := by have := congrArg List.length S.pre; rw [List.length_take] at this; omega
  obtain ⟨h1, tk, rfl, hk⟩ := x.done
  have noA : ∀ b : Addr, b ∉ (cxOf CX P w K mg base N qual scope f cd A outer s H E).ex := fun b z => absurd (show b ∈ ([] : List Addr) from z) (by simp)
  refine ⟨⟨e0.mod, S.kind, rfl, rfl, Nat.le_refl _, fun y z c h1 h2 => ?_, fun y hy => ?_, fun y c _ h => ?_, fun _ => hd, Around.frames_deeper e0.frames, .inr ⟨rfl, rfl⟩, fun b z => absurd z (noA b), e0.bs, e0.bsz, fun b _ _ => noA b, fun b z => absurd z (noA b), e0.funs, e0.frf⟩,
    rfl, e0.bare, Un.kept hk, ⟨_, x.toInCall.ns, fun i y v h1 h2 h3 => ?_⟩, fun y c h => ⟨_, x.cell y c h⟩, e0.hok.fresh (Nat.le_refl _), fun y c h => ?_, fun p hp => absurd (show p ∈ ([] : List (Addr × Obj)) from hp) (by simp), e0.hok.kept hk, ?_⟩
  · exact name_of_addr x.apart (PySem.mem_of_lookup h1) (PySem.mem_of_lookup h2)
  · have hy : scope.names.lookup y = some .cell ∨ scope.names.lookup y = some .free := hy
    rcases hy with hy | hy
    · exact cell_has hy
    · exact absurd rfl (S.nofree _ (PySem.mem_of_lookup hy))
  · exact Nat.le_of_lt (x.above y c (PySem.mem_of_lookup h))
  · have hi : i < vs.length := by
      unfold start at h2
      by_cases hi : i < vs.length
      · exact hi
      · rw [List.getElem?_append_right (by simpa using hi)] at h2
        rw [List.getElem?_replicate] at h2
        split at h2 <;> cases h2
    have ha : vs[i]? = some v := by
      unfold start at h2
      rw [List.getElem?_append_left (by simpa using hi), List.getElem?_map] at h2
      cases e : vs[i]? with
      | none => rw [e] at h2; cases h2
      | some a => rw [e] at h2; cases h2; rfl
    obtain ⟨u, hu, rv⟩ := r.get ha
    have hp : ps[i]? = some y := by
      rw [← S.pre, List.getElem?_take_of_lt (by omega)]; exact h1
    have ndP : ps.Nodup := by rw [← S.pre]; exact S.nd.sublist (List.take_sublist _ _)
    refine ⟨u, rv, ?_⟩
    rcases S.par y (List.mem_of_getElem? hp) with k | k
    · exact .inl ⟨k, bindL_get ndP hp hu k⟩
    · obtain ⟨c, e⟩ := cell_has (n := s.heap.objs.size + 1) k
      refine .inr ⟨.inl k, c, e, ?_⟩
      have q := x.cell y c e
      rw [bindC_get ndP hp hu (by show scope.names.lookup y ≠ _; rw [k]; decide)] at q
      exact q
  · exact e0.hok.fresh (Nat.le_of_lt (x.above y c (PySem.mem_of_lookup h)))
  · unfold start
    show _ = N.length
    rw [List.length_append, List.length_map, List.length_replicate]
    omega
theorem fn_of {CX : CXT} {P : Program} {w : World} {K : PySem.W.Frag} {mg : Str → Option Value} {base : Heap} {k : Nat} {f : Addr} {name qual : Str} {params : Arguments} {body : List Stmt} {scope : Scope} {dV kV doc pm cdv ct oc : Value} {an od : Option Addr}
    {osl : Array (Option Value)} {N ps : List Str} {sp : Sp} (lk : K.lookup f = some ⟨oc, od, .func (PySem.W.fnOf name qual params body scope dV kV doc pm an cdv ct), osl⟩) (hcd : PySem.W.codeIn K cdv qual = true) (S : FnScope N ps scope)
    (len : ∀ vs H Q E, sp vs H Q E → vs.length = ps.length)
    (hbody : ∀ (A : Around) (outer : List Env) (s : Shared) (H : Hp) (vs : List V) (Q : VK) (E : XK), Room k (A.deeper (envOfC qual scope s.heap.objs.size f cdv)) → sp vs H Q E →
      ∃ t, PSs (cxOf CX P w K mg base N qual scope f cdv A outer s H E) body t ∧ t { nx := fun _ H' => Q .non H', rt := Q } (start N vs) H) :
    FnOk P w K mg base CX (k + 1) f (PySem.W.fnOf name qual params body scope dV kV doc pm an cdv ct) ps sp := by
  refine ⟨len, fun A outer s H args us vs Q E hr e0 hb r hsp => ?_⟩
  have hl := len _ _ _ _ hsp
  have KX : K.In s.heap := e0.mod.kin.keeps fun b o e => (e0.bs b o e).1
  have lim : s.heap.NoLimit := e0.mod.nolimit.keeps fun b o e => (e0.bs b o e).1
  have hkind : ∀ y ∈ ps.zip us, scope.names.lookup y.1 = some .local ∨ (scope.names.lookup y.1 = some .cell ∧ ((cellsFrom (s.heap.objs.size + 1) scope.names []).lookup y.1).isSome = true) := fun ⟨n, v⟩ hy => by
    rcases S.par n (List.of_mem_zip hy).1 with q | q
    · exact .inl q
    · exact .inr ⟨q, PySem.W.cellsFrom_some _ _ _ (.inl q)⟩
  refine codeAny_call_function hr.depth (KX _ _ lk) rfl S.co S.gen rfl (PySem.W.codeRec_of KX hcd) (hb _ _ _ _ ?_)
  refine wpAny_newFunctionEnv_cells S.kind hkind fun env he s1 x => ?_
  subst he
  refine ⟨lim.keeps x.toInCall.keep, codeAny_func ?_⟩
  obtain ⟨t, ht, hq⟩ := hbody A outer s H vs Q E (hr.deeper _) hsp
  have I : Inv (cxOf CX P w K mg base N qual scope f cdv A outer s H E) [] (start N vs) H s1 := inv_start S hr.hd e0 hl r x
  refine wpAny_mono (ht [] s1 (start N vs) H _ I hq) (fun fl s' hs => ?_) fun e s' hs => hs
  have fin : ∀ {σ' : St} {H' : Hp} {v : V} {u : Value}, Inv (cxOf CX P w K mg base N qual scope f cdv A outer s H E) [] σ' H' s' → RelV v u → Q v H' → CE outer P w H s Q u s' :=
    fun {σ' H' v u} J rv q => ⟨v, H', J.os, J.bare, J.base, J.hok, rv, q⟩
  cases fl with
  | ret u =>
    obtain ⟨v, σ', H', J, rv, q⟩ := hs
    exact fin J rv q
  | next =>
    obtain ⟨σ', H', J, q⟩ := hs
    exact fin (v := V.non) (u := Value.none) J rfl q
  | brk =>
    obtain ⟨_, _, _, q⟩ := hs
    exact False.elim q
  | cont =>
    obtain ⟨_, _, _, q⟩ := hs
    exact False.elim q
end L2
namespace L2
open PySem PySem.Spec PyProof.Rows
section
variable {X : Cx} {x : Str} {p pos : Pos} {e : Expr} {es : List Expr} {t : TA} {id T : String} {r : List V → Hp → VK → Prop}
def tCB (r : List V → Hp → VK → Prop) (t : TA) : TE := fun σ H Q => t σ H fun vs H1 => r vs H1 Q
theorem pe_callB (hc : CallR X (.builtin id) r) (hg : Gl X x) (hm : X.mg x = none) (hv : bootBuiltins x = some (.builtin id)) (ha : PA X (e :: es) t) (hn : x ≠ "__name__" := by decide) (hdb : (x == ("__debug__" : Str)) = false := by decide)
    (he : starEach (e :: es) X.env = (false, eval e X.env) :: starEach es X.env := by rfl) (hpl : (backTo pos (starEach es X.env)).any (·.1) = false := by rfl) : PE X (.Call (.Name x p) (e :: es) [] pos) (tCB r t) := by
  intro pins s σ H Q I h
  refine wpAny_Call_Name_kw (ld_blt I hg hm hv ?_ hn hdb)
  exact PyProof.Rows.callWith_builtin1 (thn (ha pos pins s σ H _ I h) fun us s1 ⟨vs, H1, I1, r1, q1⟩ => hc pins s1 σ H1 vs us Q I1 r1 q1) he hpl
theorem pe_callTy (hc : CallR X (.type T) r) (hg : Gl X x) (hm : X.mg x = none) (hv : bootBuiltins x = some (.type T)) (ha : PA X (e :: es) t) (hn : x ≠ "__name__" := by decide) (hdb : (x == ("__debug__" : Str)) = false := by decide)
    (he : starEach (e :: es) X.env = (false, eval e X.env) :: starEach es X.env := by rfl) (hpl : (backTo pos (starEach es X.env)).any (·.1) = false := by rfl) : PE X (.Call (.Name x p) (e :: es) [] pos) (tCB r t) := by
  intro pins s σ H Q I h
  refine wpAny_Call_Name_kw (ld_blt I hg hm hv ?_ hn hdb)
  exact PyProof.Rows.callWith_type1 (thn (ha pos pins s σ H _ I h) fun us s1 ⟨vs, H1, I1, r1, q1⟩ => hc pins s1 σ H1 vs us Q I1 r1 q1) he hpl
end
end L2
namespace HT
open PySem PyProof.Rows
section
open PySem.SeqAt
open PySem.AutoSeq1 (wpAny_loadPart')
open PySem.MeetsSeq PySem.MeetsSeq2 PySem.MeetsSeq3
end
section
variable {prog : Program} {w : World} {A : Around} {E : Value → Shared → Prop} {s : Shared}
def sIx (n d : Nat) : Option Int → Nat
  | none => d
  | some v => if v < 0 then (v + (n : Int)).toNat else min v.toNat n
theorem sIx_nat (n d k : Nat) : sIx n d (some (k : Int)) = min k n := by
  show (if (k : Int) < 0 then ((k : Int) + (n : Int)).toNat else min (k : Int).toNat n) = min k n
  rw [if_neg (by omega), Int.toNat_natCast]
end
end HT
namespace L2
open PySem PySem.Spec PyProof.Rows
abbrev TO := St → Hp → (Option Int → Hp → Prop) → Prop
def PO (X : Cx) (e : Option Expr) (t : TO) : Prop :=
  ∀ (pins : List (Addr × Obj)) (s : Shared) (σ : St) (H : Hp) (Q : Option Int → Hp → Prop), Inv X pins σ H s → t σ H Q →
    wpAny (model X.prog X.w) X.A (evalPart e X.env) (fun u s' => ∃ o H', Inv X pins σ H' s' ∧ IsPart u o ∧ Q o H') X.xe s
def tNoPart : TO := fun _ H Q => Q none H
def tPart (t : TE) : TO := fun σ H Q => t σ H fun x H1 => ∃ i, x = .int i ∧ Q (some i) H1
section
variable {X : Cx} {e : Expr} {te : TE} {lo hi : Option Expr} {tl th : TO} {pos p2 : Pos}
theorem po_none : PO X none tNoPart := by
  intro pins s σ H Q I h
  rw [evalPart_none]
  exact wpAny_pure ⟨none, H, I, .none, h⟩
theorem po_some (h : PE X e te) : PO X (some e) (tPart te) := by
  intro pins s σ H Q I hw
  rw [evalPart_some]
  refine thn (h pins s σ H _ I hw) fun u s1 ⟨x, H1, I1, r1, q1⟩ => ?_
  obtain ⟨i, rfl, q⟩ := q1
  obtain ⟨t, rfl⟩ := r1
  exact ⟨some i, H1, I1, .int i t, q⟩
def SlR (X : Cx) (r : V → Option Int → Option Int → Hp → VK → Prop) : Prop :=
  ∀ (pins : List (Addr × Obj)) (s : Shared) (σ : St) (H : Hp) (x : V) (v vl vu : Value) (lo hi : Option Int) (sl : Addr) (Q : VK), Inv X pins σ H s → RelV x v → s.heap.IsSliceOf sl vl vu .none → IsPart vl lo → IsPart vu hi → r x lo hi H Q →
    ∃ T id, typeLookup (.type T) "__getitem__" = pure (some (.builtin id)) ∧ s.TypeIs v T ∧ wpAny (model X.prog X.w) X.A (getItem v (.ref sl)) (EP X pins σ Q) X.xe s
def tSl (r : V → Option Int → Option Int → Hp → VK → Prop) (te : TE) (tl th : TO) : TE := fun σ H Q => te σ H fun x H1 => tl σ H1 fun l H2 => th σ H2 fun u H3 => r x l u H3 Q
theorem pe_slice {r : V → Option Int → Option Int → Hp → VK → Prop} (hr : SlR X r) (he : PE X e te) (hl : PO X lo tl) (hu : PO X hi th) : PE X (.Subscript e (.Slice lo hi none p2) pos) (tSl r te tl th) := by
  intro pins s σ H Q I h
  refine Subscript_ (thn (he pins s σ H _ I h) fun v s1 ⟨x, H1, I1, r1, q1⟩ => ?_)
  refine wpAny_Slice (thn (hl pins s1 σ H1 _ I1 q1) fun vl s2 ⟨l, H2, I2, pl, q2⟩ => thn (hu pins s2 σ H2 _ I2 q2) fun vu s3 ⟨u, H3, I3, pu, q3⟩ => ?_)
  rw [evalPart_none]
  refine wpAny_pure ?_
  have I4 : Inv X pins σ H3 { s3 with heap := s3.heap.push { cls := .type "slice", data := .fields #[vl, vu, .none] } } := I3.kept (t' := s3.toks) fun b ob q => Heap.get?_push_of_some _ q
  obtain ⟨T, id, hT, ht, hg⟩ := hr pins { s3 with heap := s3.heap.push { cls := .type "slice", data := .fields #[vl, vu, .none] } } σ H3 x v vl vu l u s3.heap.objs.size Q I4 r1 (Heap.IsSliceOf.new ..) pl pu q3
  show wpAny (model X.prog X.w) X.A (subscriptTail e (.Slice lo hi none p2) v (.ref s3.heap.objs.size)) (EP X pins σ Q) X.xe { s3 with heap := s3.heap.push { cls := .type "slice", data := .fields #[vl, vu, .none] } }
  exact tail_any (ops := [.ref s3.heap.objs.size, v]) ht hT hg (by with_unfolding_all rfl)
def cutV (xs : List V) (lo hi : Option Int) : List V := (xs.drop (HT.sIx xs.length 0 lo)).take (HT.sIx xs.length xs.length hi - HT.sIx xs.length 0 lo)
theorem cutV_length (xs : List V) (lo hi : Option Int) : (cutV xs lo hi).length ≤ xs.length := by
  unfold cutV
  rw [List.length_take, List.length_drop]
  omega
end
end L2
namespace L2
open PySem PySem.Spec PyProof.Rows
def ixN (n : Nat) (i : Int) : Option Nat := if 0 ≤ i then (if i < n then some i.toNat else none) else if -(n : Int) ≤ i then some (i + n).toNat else none
def atI {α : Type} (xs : List α) (i : Int) : Option α := (ixN xs.length i).bind fun j => xs[j]?
theorem ixN_seq {n : Nat} {i : Int} {j : Nat} (h : ixN n i = some j) : seqIndex? i n = some j ∧ j < n ∧ -(n : Int) ≤ i ∧ i < n := by
  unfold ixN at h
  by_cases h0 : 0 ≤ i
  · rw [if_pos h0] at h
    by_cases h1 : i < n
    · rw [if_pos h1] at h
      have e : i.toNat = j := Option.some.inj h
      exact ⟨by rw [seqIndex_of h0 h1, e], by omega, by omega, h1⟩
    · rw [if_neg h1] at h; cases h
  · rw [if_neg h0] at h
    by_cases h1 : -(n : Int) ≤ i
    · rw [if_pos h1] at h
      have e : (i + n).toNat = j := Option.some.inj h
      exact ⟨by rw [seqIndex_neg (by omega) h1, e], by omega, h1, by omega⟩
    · rw [if_neg h1] at h; cases h
theorem atI_get {α : Type} {xs : List α} {i : Int} {v : α} (h : atI xs i = some v) : ∃ j, seqIndex? i xs.length = some j ∧ xs[j]? = some v ∧ j < xs.length ∧ -(xs.length : Int) ≤ i ∧ i < xs.length := by
  unfold atI at h
  cases e : ixN xs.length i with
  | none => rw [e] at h; cases h
  | some j =>
    rw [e] at h
    obtain ⟨h1, h2, h3, h4⟩ := ixN_seq e
    exact ⟨j, h1, h, h2, h3, h4⟩
theorem atI_nat {α : Type} {xs : List α} {j : Nat} {v : α} (h : xs[j]? = some v) : atI xs (j : Int) = some v := by
  have hj : j < xs.length := (List.getElem?_eq_some_iff.mp h).1
  have e : ixN xs.length (j : Int) = some j := by
    unfold ixN
    rw [if_pos (by omega), if_pos (by omega)]; simp
  unfold atI; rw [e]; exact h
def PlainIx (b : Expr) : Prop := ∀ o i, subscripted b false o i = operate [o, i] (getItem o i)
def IxR (X : Cx) (r : R2) : Prop :=
  ∀ (value slice : Expr) (pins : List (Addr × Obj)) (s : Shared) (σ : St) (H : Hp) (x y : V) (v u : Value) (Q : VK), Inv X pins σ H s → RelV x v → RelV y u → r x y H Q →
    subscripted slice false v u = operate [v, u] (getItem v u) → wpAny (model X.prog X.w) X.A (subscriptTail value slice v u) (EP X pins σ Q) X.xe s
def MtR (X : Cx) (id : String) (r : V → List V → Hp → VK → Prop) : Prop :=
  ∀ (pins : List (Addr × Obj)) (s : Shared) (σ : St) (H : Hp) (x : V) (xs : List V) (v : Value) (us : List Value) (Q : VK), Inv X pins σ H s → RelV x v → Vals xs us → r x xs H Q →
    wpAny (model X.prog X.w) X.A (call (.builtin id) (v :: us)) (EP X pins σ Q) X.xe s
section
variable {X : Cx} {a b : Expr} {ta tb : TE} {pos : Pos}
theorem pe_ix {r : R2} (hr : IxR X r) (ha : PE X a ta) (hb : PE X b tb) (hs : PlainIx b) : PE X (.Subscript a b pos) (tOp r ta tb) := by
  intro pins s σ H Q I h
  exact Subscript_ (binT ha hb I h fun v u s2 x y H2 I2 rx ry q => hr a b pins s2 σ H2 x y v u Q I2 rx ry q (hs _ _))
def rIxL (K : PySem.W.Frag) : R2 := fun x y H Q => ∃ p xs i v, x = .ref p ∧ y = .int i ∧ SqL K H p xs ∧ atI xs i = some v ∧ Q v H
def rIxT (K : PySem.W.Frag) : R2 := fun x y H Q => ∃ p xs i v, x = .ref p ∧ y = .int i ∧ SqT K H p xs ∧ atI xs i = some v ∧ Q v H
def rIxS : R2 := fun x y H Q => ∃ z i c, x = .str z ∧ y = .int i ∧ z.length ≤ sizeLine ∧ atI z.cps.toList i = some c ∧ Q (.str ⟨#[c]⟩) H
theorem ix_list : IxR X (rIxL X.K) := by
  intro value slice pins s σ H x y v u Q I rx ry h hs
  obtain ⟨p, xs, i, z, rfl, rfl, hq, he, q⟩ := h
  cases rx
  obtain ⟨t, rfl⟩ := ry
  obtain ⟨its, r, pl, hz⟩ := I.list hq
  obtain ⟨j, h1, h2, h3, h4, h5⟩ := atI_get he
  obtain ⟨w, ew, rw'⟩ := r.get h2
  have hl := r.length
  have hn := line63
  have fin : EP X pins σ Q w s := ⟨z, H, I, rw', q⟩
  by_cases h0 : 0 ≤ i
  · have hj : i.toNat = j := by
      rw [seqIndex_of h0 h5] at h1
      exact Option.some.inj h1
    exact item_listR pl.isList h0 (by omega) (by rw [hj]; simpa using ew) fin hs
  · have hj : (i + (its.toArray.size : Int)).toNat = j := by
      rw [seqIndex_neg (by omega) h4] at h1
      rw [List.size_toArray, ← hl]
      exact Option.some.inj h1
    exact subscriptTail_builtinR (x := w) pl.isList.typeIs slot_list_getitem.lookup
      (wpAny_getItem_list_neg (Q := fun r s' => r = w ∧ EP X pins σ Q r s') pl.isList (by omega) (by rw [List.size_toArray] <;> omega) (by omega) (by rw [hj]; simpa using ew) ⟨rfl, fin⟩) hs
theorem ix_tup : IxR X (rIxT X.K) := by
  intro value slice pins s σ H x y v u Q I rx ry h hs
  obtain ⟨p, xs, i, z, rfl, rfl, hq, he, q⟩ := h
  cases rx
  obtain ⟨t, rfl⟩ := ry
  obtain ⟨its, r, pl, hz⟩ := I.tuple hq
  obtain ⟨j, h1, h2, h3, h4, h5⟩ := atI_get he
  obtain ⟨w, ew, rw'⟩ := r.get h2
  have hl := r.length
  have hn := line63
  have fin : EP X pins σ Q w s := ⟨z, H, I, rw', q⟩
  exact subscriptTail_builtinR (x := w) pl.typeIs slot_tuple_getitem.lookup
    (getItem_tuple (j := j) (Q := fun r s' => r = w ∧ EP X pins σ Q r s') pl (by omega) (by omega) (by rw [List.size_toArray, ← hl]; exact h1) (by simpa using ew) ⟨rfl, fin⟩) hs
theorem ix_str : IxR X rIxS := by
  intro value slice pins s σ H x y v u Q I rx ry h hs
  obtain ⟨z, i, c, rfl, rfl, hz, he, q⟩ := h
  obtain ⟨t, rfl⟩ := rx
  obtain ⟨t', rfl⟩ := ry
  obtain ⟨j, h1, h2, h3, h4, h5⟩ := atI_get he
  have hl : z.cps.toList.length = z.length := by simp [Str.length]
  rw [hl] at h1 h4 h5
  have hn := line63
  exact tail_any (typeIs_str s z t) slot_str_getitem.lookup (getItem_str (c := c) (by
    have e1 : decide (i < -(2 ^ 63 : Int)) = false := decide_eq_false (by omega)
    have e2 : decide (i ≥ 2 ^ 63) = false := decide_eq_false (by omega)
    rw [e1, e2, Bool.or_false]) (by rw [h1]; simpa using h2) ⟨.str ⟨#[c]⟩, H, I.tok _, ⟨_, rfl⟩, q⟩) hs
theorem slice_bounds (lo hi : Option Int) (n : Nat) : (sliceBounds lo hi none n).1 = ((HT.sIx n 0 lo : Nat) : Int) ∧ (sliceBounds lo hi none n).2.1 = ((HT.sIx n n hi : Nat) : Int) ∧ (sliceBounds lo hi none n).2.2 = 1 := by
  refine ⟨?_, ?_, rfl⟩
  · cases lo with
    | none => simp [sliceBounds, HT.sIx]
    | some i =>
      simp only [sliceBounds, HT.sIx, Option.getD_none, show (1 : Int) > 0 by decide, if_true]
      by_cases h : i < 0
      · simp only [h, if_true] <;> omega
      · simp only [h, if_false] <;> omega
  · cases hi with
    | none => simp [sliceBounds, HT.sIx]
    | some i =>
      simp only [sliceBounds, HT.sIx, Option.getD_none, show (1 : Int) > 0 by decide, if_true]
      by_cases h : i < 0
      · simp only [h, if_true] <;> omega
      · simp only [h, if_false] <;> omega
theorem slicePick_cut (its : List Value) (lo hi : Option Int) : slicePick its.toArray lo hi none = ((its.drop (HT.sIx its.length 0 lo)).take (HT.sIx its.length its.length hi - HT.sIx its.length 0 lo)).toArray := by
  obtain ⟨h1, h2, h3⟩ := slice_bounds lo hi its.toArray.size
  unfold slicePick
  rw [h1, h2, h3]
  simp only [sliceRange_one, pick_run, List.size_toArray] <;> rfl
def rSlL (K : PySem.W.Frag) : V → Option Int → Option Int → Hp → VK → Prop := fun x lo hi H Q => ∃ a xs, x = .ref a ∧ SqL K H a xs ∧ ∀ p, H p = none → Q (.ref p) (upd H p (.lst (cutV xs lo hi)))
theorem sl_list : SlR X (rSlL X.K) := by
  intro pins s σ H x v vl vu lo hi sl Q I rx hs pl pu h
  obtain ⟨a, xs, rfl, hx, q⟩ := h
  cases rx
  obtain ⟨its, r, ht, hz⟩ := I.list hx
  have hlen := r.length
  refine ⟨"list", _, slot_list_getitem.lookup, ht.isList.typeIs, ?_⟩
  refine wpAny_getItem_list_slice ht.isList hs pl pu .none (by simp) ?_ (by rw [List.size_toArray] <;> omega)
  rw [slicePick_cut, ← hlen]
  refine ⟨.ref s.heap.objs.size, _, I.laid (t' := s.toks) (o := .lst (cutV xs lo hi)) (fun b ob q => Heap.get?_push_of_some _ q) (Nat.le_refl _) ?_, rfl, q _ (I.hok.fresh (Nat.le_refl _))⟩
  exact ⟨Nat.le_trans (cutV_length xs lo hi) hz, _, 0, (r.drop (HT.sIx xs.length 0 lo)).take (HT.sIx xs.length xs.length hi - HT.sIx xs.length 0 lo), Heap.get?_push_size _ rfl⟩
def flatV : V → Bool
  | .non => true
  | .bl _ => true
  | .int _ => true
  | .str _ => true
  | _ => false
def eqV : V → V → Bool
  | .non, .non => true
  | .bl a, .bl b => a == b
  | .bl a, .int b => (if a then 1 else 0) == b
  | .int a, .bl b => a == (if b then 1 else 0)
  | .int a, .int b => a == b
  | .str a, .str b => a == b
  | _, _ => false
theorem eqAt_V {A : Around} {s : Shared} {y x : V} {u v : Value} (ry : RelV y u) (rx : RelV x v) (fy : flatV y = true) (fx : flatV x = true) : SeqAt.EqAt A s u v (eqV y x) := by
  cases y with
  | non =>
    cases ry
    cases x with
    | non => cases rx; exact SeqAt.EqAt.same _
    | bl b => cases rx; exact SeqAt.EqAt.none_bool b
    | int b => obtain ⟨t, rfl⟩ := rx; exact SeqAt.EqAt.none_int b t
    | str b => obtain ⟨t, rfl⟩ := rx; exact SeqAt.EqAt.none_str b t
    | _ => exact absurd (show false = true from fx) Bool.false_ne_true
  | bl a =>
    cases ry
    cases x with
    | non => cases rx; exact SeqAt.EqAt.bool_none a
    | bl b => cases rx; exact SeqAt.EqAt.bool_bool a b
    | int b => obtain ⟨t, rfl⟩ := rx; exact SeqAt.EqAt.bool_int a b t
    | str b => obtain ⟨t, rfl⟩ := rx; exact SeqAt.EqAt.bool_str a b t
    | _ => exact absurd (show false = true from fx) Bool.false_ne_true
  | int a =>
    obtain ⟨t', rfl⟩ := ry
    cases x with
    | non => cases rx; exact SeqAt.EqAt.int_none a t'
    | bl b => cases rx; exact SeqAt.EqAt.int_bool a t' b
    | int b => obtain ⟨t, rfl⟩ := rx; exact SeqAt.EqAt.int_int a t' b t
    | str b => obtain ⟨t, rfl⟩ := rx; exact SeqAt.EqAt.int_str a t' b t
    | _ => exact absurd (show false = true from fx) Bool.false_ne_true
  | str a =>
    obtain ⟨t', rfl⟩ := ry
    cases x with
    | non => cases rx; exact SeqAt.EqAt.str_none a t'
    | bl b => cases rx; exact SeqAt.EqAt.str_bool a t' b
    | int b => obtain ⟨t, rfl⟩ := rx; exact SeqAt.EqAt.str_int a t' b t
    | str b => obtain ⟨t, rfl⟩ := rx; exact SeqAt.EqAt.str_str a t' b t
    | _ => exact absurd (show false = true from fx) Bool.false_ne_true
  | _ => exact absurd (show false = true from fy) Bool.false_ne_true
theorem call_len_seq : CallR X (.builtin "len") (fun xs H Q => ∃ p ys, xs = [.ref p] ∧ (SqL X.K H p ys ∨ SqT X.K H p ys) ∧ Q (.int ys.length) H) := by
  intro pins s σ H xs us Q I r h
  obtain ⟨p, ys, rfl, hq, q⟩ := h
  obtain ⟨u, rfl, rx⟩ := vals1 r
  cases rx
  have hn := line63
  rcases hq with hq | hq
  · obtain ⟨its, r', pl, hz⟩ := I.list hq
    have hlen := r'.length
    exact Calls.call_len_list pl.isList (by simp only [List.size_toArray] <;> omega) ⟨.int ys.length, H, I.tok _, ⟨s.toks + 1, by rw [List.size_toArray, hlen]⟩, q⟩
  · obtain ⟨its, r', pl, hz⟩ := I.tuple hq
    have hlen := r'.length
    exact len_tuple pl (by simp only [List.size_toArray] <;> omega) ⟨.int ys.length, H, I.tok _, ⟨s.toks + 1, by rw [List.size_toArray, hlen]⟩, q⟩
theorem call_len_str : CallR X (.builtin "len") (fun xs H Q => ∃ z, xs = [.str z] ∧ z.length ≤ sizeLine ∧ Q (.int z.length) H) := by
  intro pins s σ H xs us Q I r h
  obtain ⟨z, rfl, hz, q⟩ := h
  obtain ⟨u, rfl, t, rfl⟩ := vals1 r
  have hn := line63
  exact len_str (by omega) ⟨.int z.length, H, I.tok _, ⟨_, rfl⟩, q⟩
def tyV (K : PySem.W.Frag) (T : String) (x : V) (H : Hp) : Prop := match x with
  | .str _ => T = "str"
  | .int _ => T = "int"
  | .ref p => (T = "list" ∧ ∃ xs, SqL K H p xs) ∨ (T = "tuple" ∧ ∃ o, K.lookup p = some o ∧ o.cls = .type "tuple" ∧ o.dict = none) ∨
      (T = "dict" ∧ ((∃ kvs, H p = some (.dK kvs)) ∨ ∃ kvs, H p = some (.dT kvs))) ∨ (T = "set" ∧ ∃ S n, H p = some (.set S n))
  | _ => False
theorem tyV_is {pins : List (Addr × Obj)} {σ : St} {H : Hp} {s : Shared} {T : String} {x : V} {v : Value} (I : Inv X pins σ H s) (r : RelV x v) (ty : tyV X.K T x H) :
    s.TypeIs v T ∧ ∀ a, v = .ref a → ∃ ob, s.heap.get? a = some ob ∧ ob.dict = none := by
  cases x with
  | str z =>
    obtain ⟨t, rfl⟩ := r
    cases (show T = "str" from ty)
    exact ⟨typeIs_str s z t, fun _ e => nomatch e⟩
  | int i =>
    obtain ⟨t, rfl⟩ := r
    cases (show T = "int" from ty)
    exact ⟨typeIs_int s i t, fun _ e => nomatch e⟩
  | ref p =>
    cases r
    rcases ty with ⟨rfl, xs, hq⟩ | ⟨rfl, o, hk, hc, hd⟩ | ⟨rfl, hk⟩ | ⟨rfl, S, n, hk⟩
    · obtain ⟨its, _, pl, _⟩ := I.list hq
      refine ⟨pl.isList.typeIs, fun a e => ?_⟩
      cases e
      obtain ⟨o, n, e, c, hd, _⟩ := pl
      exact ⟨o, e, hd⟩
    · refine ⟨⟨o, I.kIn p o hk, hc⟩, fun a e => ?_⟩
      cases e
      exact ⟨o, I.kIn _ o hk, hd⟩
    · have z : ∃ o, s.heap.get? p = some o ∧ o.ExactDict := by
        rcases hk with ⟨kvs, hk⟩ | ⟨kvs, hk⟩
        · obtain ⟨_, _, _, _, o, _, _, e, ex, _⟩ := I.hok p _ hk
          exact ⟨o, e, ex⟩
        · obtain ⟨_, _, _, _, o, _, _, e, ex, _⟩ := I.hok p _ hk
          exact ⟨o, e, ex⟩
      obtain ⟨o, e, ex⟩ := z
      refine ⟨⟨o, e, ex.1⟩, fun a e2 => ?_⟩
      cases e2
      exact ⟨o, e, ex.2.1⟩
    · obtain ⟨o, _, _, _, e, ex, _⟩ := I.hok p _ hk
      refine ⟨⟨o, e, ex.1⟩, fun a e2 => ?_⟩
      cases e2
      exact ⟨o, e, ex.2.1⟩
  | _ => exact False.elim ty
def tBM0 (K : PySem.W.Frag) (T : String) (r : V → List V → Hp → VK → Prop) (to : TE) : TE := fun σ H Q => to σ H fun x H1 => tyV K T x H1 ∧ r x [] H1 Q
def tBM (K : PySem.W.Frag) (T : String) (r : V → List V → Hp → VK → Prop) (to : TE) (t : TA) : TE := fun σ H Q => to σ H fun x H1 => tyV K T x H1 ∧ t σ H1 fun xs H2 => r x xs H2 Q
variable {o e : Expr} {es : List Expr} {to : TE} {t : TA} {name : Str} {apos cpos : Pos} {T id : String} {r : V → List V → Hp → VK → Prop}
theorem pe_bm (pa : PlainAttrs T) (slot : Slot T name id) (hty : typeOf (.builtin id) = pure (.type "method_descriptor")) (hm : MtR X id r) (ho : PE X o to) (ha : PA X (e :: es) t)
    (hbase : attributeBase o name X.env (eval o X.env) = eval o X.env := by rfl)
    (hfew : ((backTo cpos (starEach (e :: es) X.env)).all (fun x => !x.1) && (backToKw cpos (keywordEach [] X.env)).all (fun x => x.1.isSome)
      && decide ((e :: es).length + ([] : List Keyword).length + (if ([] : List Keyword).isEmpty then 0 else 1) < 30)) = true := by rfl)
    (hline : (apos.endLine == cpos.line) = true := by rfl) (hs : starEach (e :: es) X.env = (false, eval e X.env) :: starEach es X.env := by rfl) (hplain : (backTo cpos (starEach es X.env)).any (·.1) = false := by rfl) :
    PE X (.Call (.Attribute o name apos) (e :: es) [] cpos) (tBM X.K T r to t) := by
  intro pins s σ H Q I h
  refine wpAny_Call_method_late hbase hfew hline rfl (thn (ho pins s σ H _ I h) fun v s1 ⟨x, H1, I1, r1, ty, q1⟩ => ?_)
  obtain ⟨h1, h2⟩ := tyV_is I1 r1 ty
  refine ⟨T, id, pa, slot, hty, h1, h2, ?_⟩
  have hA := ha cpos pins s1 σ H1 _ I1 q1
  rw [hs] at hA ⊢
  refine Calls.callWith_builtin (by show (false || (backTo cpos (starEach es X.env)).any (·.1)) = false; rw [hplain] <;> rfl) (Calls.evalArgs_plain ?_)
  exact thn hA fun us s2 ⟨vs, H2, I2, r2, q2⟩ => hm pins s2 σ H2 x vs v us Q I2 r1 r2 q2
/- xs.append(e), list.index on a module's tuple .. are MtR facts of 06m -/
end
end L2
namespace L2
open PySem PySem.Spec PyProof.Rows
def MtM (X : Cx) (id : String) (r : V → List V → Hp → VK → Prop) : Prop :=
  ∀ (pins : List (Addr × Obj)) (s : Shared) (σ : St) (H : Hp) (x : V) (xs : List V) (v : Value) (us : List Value) (Q : VK), Inv X pins σ H s → RelV x v → Vals xs us → r x xs H Q →
    wpAny (model X.prog X.w) X.A (call (.builtin id) (v :: us)) (EP X pins σ Q) X.xe s
theorem Vals.one : ∀ {x : V} {us : List Value}, Vals [x] us → ∃ u, us = [u] ∧ RelV x u
  | _, _, .cons r .nil => ⟨_, rfl, r⟩
theorem Vals.two : ∀ {x y : V} {us : List Value}, Vals [x, y] us → ∃ u v, us = [u, v] ∧ RelV x u ∧ RelV y v
  | _, _, _, .cons r (.cons q .nil) => ⟨_, _, rfl, r, q⟩
theorem Vals.reverse {xs : List V} {us : List Value} (h : Vals xs us) : Vals xs.reverse us.reverse := by
  induction h with
  | nil => exact .nil
  | cons r t ih => rw [List.reverse_cons, List.reverse_cons]; exact Vals.append ih (.cons r .nil)
theorem Vals.rep {xs : List V} {us : List Value} (h : Vals xs us) : ∀ k : Nat, Vals (List.replicate k xs).flatten (List.replicate k us).flatten
  | 0 => .nil
  | k + 1 => by
    rw [List.replicate_succ, List.replicate_succ, List.flatten_cons, List.flatten_cons]
    exact Vals.append h (Vals.rep h k)
theorem foldl_rep (its : List Value) : ∀ (k : Nat) (acc : List Value),
    List.foldl (fun x1 x2 => x1 ++ x2) acc.toArray (List.replicate k its.toArray) = (acc ++ (List.replicate k its).flatten).toArray
  | 0, acc => by simp
  | k + 1, acc => by
    have e : acc.toArray ++ its.toArray = (acc ++ its).toArray := by simp
    have e2 : (acc ++ its) ++ (List.replicate k its).flatten = acc ++ (List.replicate (k + 1) its).flatten := by
      rw [List.replicate_succ, List.flatten_cons, List.append_assoc]
    rw [← e2, ← foldl_rep its k (acc ++ its), ← e, List.replicate_succ, List.foldl_cons]
section
variable {X : Cx} {pins : List (Addr × Obj)} {σ : St} {H : Hp} {s : Shared} {l b : Addr} {xs ys zs : List V}
theorem Inv.lset {its its' : List Value} {n : Nat} {f : Array Value → Array Value} {t' : Nat} (I : Inv X pins σ H s) (hH : H l = some (.lst xs))
    (e : s.heap.get? l = some { cls := .type "list", data := .seq its.toArray n }) (hf : f its.toArray = its'.toArray) (hv : Vals ys its') (hz : ys.length ≤ sizeLine) :
    Inv X pins σ (upd H l (.lst ys)) { s with heap := s.heap.update l (Obj.mapSeq f), toks := t' } := by
  have q := PySem.IsL.update e f
  rw [hf] at q
  refine I.write (x := l) (e := l) (by rw [hH]; exact trivial) (.inl rfl) (fun b' u hb hu => (Heap.get?_update_other s.heap (Obj.mapSeq f) (Ne.symm hb)).trans hu) ⟨_, q⟩ ?_
  exact ⟨hz, its', _, hv, q⟩
theorem Inv.lnew {its : List Value} {t' : Nat} (I : Inv X pins σ H s) (hv : Vals ys its) (hz : ys.length ≤ sizeLine) :
    Inv X pins σ (upd H s.heap.objs.size (.lst ys)) { s with heap := s.heap.push { cls := .type "list", data := .seq its.toArray }, toks := t' } :=
  I.laid (fun _ _ q => Heap.get?_push_of_some _ q) (Nat.le_refl _) ⟨hz, its, 0, hv, Heap.get?_push_size _ rfl⟩
theorem Inv.fresh (I : Inv X pins σ H s) : H s.heap.objs.size = none := I.hok.fresh (Nat.le_refl _)
theorem Inv.lstM (I : Inv X pins σ H s) (hH : H l = some (.lst xs)) : xs.length ≤ sizeLine ∧ ∃ (its : List Value) (n : Nat), Vals xs its ∧ xs.length = its.length ∧ s.heap.get? l = some { cls := .type "list", data := .seq its.toArray n } := by
  obtain ⟨z, its, n, r, e⟩ := I.hok l _ hH
  exact ⟨z, its, n, r, r.length, e⟩
theorem notLongL {n : Nat} (h : n ≤ sizeLine) : Builtin.List.listTooLong n = false := by
  unfold Builtin.List.listTooLong
  exact decide_eq_false (by omega)
end
section
variable {X : Cx}
def rAppend : V → List V → Hp → VK → Prop := fun x vs H Q => ∃ l xs y, x = .ref l ∧ vs = [y] ∧ H l = some (.lst xs) ∧ xs.length < sizeLine ∧ Q .non (upd H l (.lst (xs ++ [y])))
theorem mt_append : MtM X "list.append" rAppend := by
  intro pins s σ H x vs v us Q I rx rv h
  obtain ⟨l, xs, y, rfl, rfl, hH, hz, q⟩ := h
  cases rx
  obtain ⟨u, rfl, ru⟩ := rv.one
  obtain ⟨z, its, n, r, hl, e⟩ := I.lstM hH
  refine call_meets F.slot_list_append ⟨_, e, rfl⟩ F.entry_list_append (F.args_list_append_2 _ _) (PySem.list_append l its.toArray n u (by rw [List.size_toArray]; omega)) ⟨e, ?_⟩
  refine ⟨.non, _, I.lset (its' := its ++ [u]) hH e (by simp) (r.append (.cons ru .nil)) ?_, rfl, q⟩
  rw [List.length_append, List.length_singleton]
  omega
def rCat : R2 := fun x y H Q => ∃ l b xs zs, x = .ref l ∧ y = .ref b ∧ H l = some (.lst xs) ∧ H b = some (.lst zs) ∧ xs.length + zs.length ≤ sizeLine ∧ ∀ p, H p = none → Q (.ref p) (upd H p (.lst (xs ++ zs)))
theorem op_cat : OpR X (binaryOp .Add) rCat := by
  intro pins s σ H x y v u Q I rx ry h
  obtain ⟨l, b, xs, zs, rfl, rfl, hH, hB, hz, q⟩ := h
  cases rx
  cases ry
  obtain ⟨z, its, n, r, hl, e⟩ := I.lstM hH
  obtain ⟨z2, its2, n2, r2, hl2, e2⟩ := I.lstM hB
  refine PySem.P.add_list e e2 ?_ (by rw [List.size_toArray, List.size_toArray]; omega)
  have ea : its.toArray ++ its2.toArray = (its ++ its2).toArray := by simp
  rw [ea]
  exact ⟨.ref _, _, I.lnew (t' := s.toks) (r.append r2) (by rw [List.length_append]; omega), rfl, q _ I.fresh⟩
def rRep : R2 := fun x y H Q => ∃ l k xs, x = .ref l ∧ y = .int k ∧ H l = some (.lst xs) ∧ -(2 ^ 63) ≤ k ∧ k < 2 ^ 63 ∧ xs.length * k.toNat ≤ sizeLine ∧
  ∀ p, H p = none → Q (.ref p) (upd H p (.lst (List.replicate k.toNat xs).flatten))
theorem len_rep {α : Type} (xs : List α) (k : Nat) : (List.replicate k xs).flatten.length = k * xs.length := by
  induction k with
  | zero => simp
  | succ k ih => rw [List.replicate_succ, List.flatten_cons, List.length_append, ih, Nat.succ_mul, Nat.add_comm]
theorem op_rep : OpR X (binaryOp .Mult) rRep := by
  intro pins s σ H x y v u Q I rx ry h
  obtain ⟨l, k, xs, rfl, rfl, hH, h1, h2, hz, q⟩ := h
  cases rx
  obtain ⟨t, rfl⟩ := ry
  obtain ⟨z, its, n, r, hl, e⟩ := I.lstM hH
  have hlen : its.toArray.size * k.toNat ≤ sizeLine := by rw [List.size_toArray, ← hl]; exact hz
  have hcap : ¬ its.toArray.size * k.toNat > (2 ^ 63 - 1) / 8 := by
    have : (sizeLine : Nat) ≤ (2 ^ 63 - 1) / 8 := by decide
    omega
  have hfit : ¬ (!Builtin.List.listFitsIndex k) = true := by
    rw [fitsIndex_both h1 h2]
    exact Bool.false_ne_true
  have hlong : ¬ Builtin.List.listTooLong (its.toArray.size * k.toNat) = true := by
    rw [notLongL hlen]
    exact Bool.false_ne_true
  have hnew : List.foldl (fun x1 x2 => x1 ++ x2) #[] (List.replicate (if its.toArray.isEmpty = true then 0 else k.toNat) its.toArray) = (List.replicate k.toNat its).flatten.toArray := by
    have f0 : ∀ m : Nat, List.foldl (fun x1 x2 => x1 ++ x2) #[] (List.replicate m its.toArray) = (List.replicate m its).flatten.toArray := fun m => by
      have := foldl_rep its m []
      rw [List.nil_append] at this
      exact this
    rw [f0]
    cases its with
    | nil => simp
    | cons a r' => rw [if_neg (by simp)]
  refine wpAny_binaryOp_repeat_ref (T := "list") (U := "int") (by decide) ⟨_, e, rfl⟩ (fun s' => typeIs_int s' k t) noFill_list_mul F.fills_int_mul F.slot_int_rmul repeat_list F.slot_int_index.lookup
    (call_meets F.slot_int_rmul (typeIs_int s k t) F.entry_int_rmul (F.args_int_rmul_2 _ _) (int___rmul___int_list k t l its.toArray n)
      ⟨e, rfl, ⟨_, e, rfl⟩, call_meets F.slot_list_mul ⟨_, e, rfl⟩ F.entry_list_mul (F.args_list_mul_2 _ _) (AutoListH.list___mul___list_int_3 l its.toArray n k t hfit hcap hlong) ⟨e, ?_⟩⟩)
  rw [hnew]
  exact ⟨.ref _, _, I.lnew (t' := s.toks) (r.rep k.toNat) (by rw [len_rep, Nat.mul_comm]; exact hz), rfl, q _ I.fresh⟩
end
section
variable {prog : Program} {w : World} {A : Around} {E : Value → Shared → Prop} {s : Shared}
set_option maxRecDepth 100000 in
end
section
variable {X : Cx}
end
end L2
namespace L2
open PySem PySem.Spec PyProof.Rows
section
variable {κ : Type} [DecidableEq κ]
def valV (kvs : List (κ × V)) (k : κ) : Option V := (kvs.find? fun kv => decide (kv.1 = k)).map (·.2)
def putK (kvs : List (κ × V)) (k : κ) (v : V) : List (κ × V) :=
  if (kvs.any fun kv => decide (kv.1 = k)) = true then kvs.map (fun kv => if kv.1 = k then (kv.1, v) else kv) else kvs ++ [(k, v)]
theorem valV_pos {p : κ × V} {r : List (κ × V)} {k : κ} (e : p.1 = k) : valV (p :: r) k = some p.2 := by simp [valV, List.find?_cons, e]
theorem valV_neg {p : κ × V} {r : List (κ × V)} {k : κ} (e : ¬ p.1 = k) : valV (p :: r) k = valV r k := by simp [valV, List.find?_cons, e]
theorem valV_any (k : κ) : ∀ kvs : List (κ × V), (kvs.any fun kv => decide (kv.1 = k)) = (valV kvs k).isSome
  | [] => rfl
  | p :: r => by
    rw [List.any_cons]
    by_cases e : p.1 = k
    · simp only [valV_pos e, decide_eq_true e, Bool.true_or, Option.isSome_some]
    · rw [valV_neg e, decide_eq_false e, Bool.false_or]; exact valV_any k r
theorem length_putK (kvs : List (κ × V)) (k : κ) (v : V) : (putK kvs k v).length ≤ kvs.length + 1 := by
  unfold putK
  split
  · rw [List.length_map]; omega
  · rw [List.length_append, List.length_cons, List.length_nil]; omega
theorem putK_new {kvs : List (κ × V)} {k : κ} (v : V) (h : valV kvs k = none) : putK kvs k v = kvs ++ [(k, v)] := by
  unfold putK
  rw [valV_any, h]
  exact if_neg (by decide)
theorem RelO.isSome_eq {o : Option V} {u : Option Value} (r : RelO o u) : o.isSome = u.isSome := by
  cases o with
  | none => cases u with
    | none => rfl
    | some _ => exact (show False from r).elim
  | some _ => cases u with
    | none => exact (show False from r).elim
    | some _ => rfl
theorem KV.val {kvs : List (κ × V)} {vs : List (κ × Value)} (r : KV kvs vs) (k : κ) : RelO (valV kvs k) (valueAt vs k) := by
  unfold KV at r
  induction r with
  | nil => exact True.intro
  | @cons p q ps qs h t ih =>
    obtain ⟨h1, h2⟩ := h
    by_cases e : p.1 = k
    · have e' : q.1 = k := h1.symm.trans e
      have b : valueAt (q :: qs) k = some q.2 := by simp [valueAt, List.find?_cons, e']
      rw [valV_pos e, b]; exact h2
    · have e' : ¬ q.1 = k := fun z => e (h1.trans z)
      have b : valueAt (q :: qs) k = valueAt qs k := by simp [valueAt, List.find?_cons, e']
      rw [valV_neg e, b]; exact ih
theorem KV.any {kvs : List (κ × V)} {vs : List (κ × Value)} (r : KV kvs vs) (k : κ) : (kvs.any fun kv => decide (kv.1 = k)) = vs.any fun kv => decide (kv.1 = k) := by
  unfold KV at r
  induction r with
  | nil => rfl
  | cons h t ih => rw [List.any_cons, List.any_cons, ih, h.1]
theorem KV.repl {kvs : List (κ × V)} {vs : List (κ × Value)} (r : KV kvs vs) (k : κ) {y : V} {u : Value} (ry : RelV y u) :
    KV (kvs.map fun kv => if kv.1 = k then (kv.1, y) else kv) (vs.map fun kv => if kv.1 = k then (kv.1, u) else kv) := by
  unfold KV at r ⊢
  induction r with
  | nil => exact .nil
  | @cons p q ps qs h t ih =>
    rw [List.map_cons, List.map_cons]
    refine .cons ?_ ih
    obtain ⟨h1, h2⟩ := h
    by_cases e : p.1 = k
    · rw [if_pos e, if_pos (h1.symm.trans e)]; exact ⟨h1, ry⟩
    · rw [if_neg e, if_neg (fun z => e (h1.trans z))]; exact ⟨h1, h2⟩
theorem KV.put {kvs : List (κ × V)} {vs : List (κ × Value)} (r : KV kvs vs) (k : κ) {y : V} {u : Value} (ry : RelV y u) : KV (putK kvs k y) (stored vs k u) := by
  unfold putK stored
  rw [r.any k]
  by_cases e : (vs.any fun kv => decide (kv.1 = k)) = true
  · rw [if_pos e, if_pos e]; exact r.repl k ry
  · rw [if_neg e, if_neg e]; exact Paired.snoc r ⟨rfl, ry⟩
theorem KV.keys {kvs : List (κ × V)} {vs : List (κ × Value)} (r : KV kvs vs) : kvs.map (·.1) = vs.map (·.1) := by
  unfold KV at r
  induction r with
  | nil => rfl
  | cons h t ih => rw [List.map_cons, List.map_cons, ih, h.1]
theorem KV.length {kvs : List (κ × V)} {vs : List (κ × Value)} (r : KV kvs vs) : kvs.length = vs.length := Paired.length r
end
theorem kV_is {P : Program} {w : World} {k : Key} {u : Value} (r : RelV (kV k) u) : (mixKind P w).is k u = true := by
  cases k with
  | inl i => obtain ⟨t, e⟩ := (show ∃ t, u = Value.int i t from r); subst e; exact mixKind_int P w i t
  | inr x => obtain ⟨t, e⟩ := (show ∃ t, u = Value.str x t from r); subst e; exact mixKind_str P w x t
theorem items_are {P : Program} {w : World} : ∀ {ks : List Key} {us : List Value}, Vals (ks.map kV) us → ItemsAre (mixKind P w) ks us
  | [], _, r => by rw [List.map_nil] at r; cases r; exact .nil
  | k :: ks, _, r => by
    rw [List.map_cons] at r
    cases r with
    | cons h t => exact .cons (kV_is h) (items_are t)
abbrev KT (H : Hp) : List (List Key × V) → List (List Key × Addr × Value) → Prop := Paired fun p q => p.1 = q.1 ∧ H q.2.1 = some (.tup (p.1.map kV)) ∧ RelV p.2 q.2.2
theorem KT.val {H : Hp} {kvs : List (List Key × V)} {xs : List (List Key × Addr × Value)} (r : KT H kvs xs) (k : List Key) : RelO (valV kvs k) ((atKey xs k).map (·.2)) := by
  induction r with
  | nil => exact True.intro
  | @cons p q ps qs h t ih =>
    obtain ⟨h1, _, h2⟩ := h
    by_cases e : p.1 = k
    · have e' : q.1 = k := h1.symm.trans e
      have b : atKey (q :: qs) k = some q.2 := by simp [atKey, List.find?_cons, e']
      rw [valV_pos e, b]; exact h2
    · have e' : ¬ q.1 = k := fun z => e (h1.trans z)
      have b : atKey (q :: qs) k = atKey qs k := by simp [atKey, List.find?_cons, e']
      rw [valV_neg e, b]; exact ih
theorem KT.repl {H : Hp} {kvs : List (List Key × V)} {xs : List (List Key × Addr × Value)} (r : KT H kvs xs) (k : List Key) {y : V} {u : Value} (ry : RelV y u) :
    KT H (kvs.map fun kv => if kv.1 = k then (kv.1, y) else kv) (xs.map (putAt k u)) := by
  induction r with
  | nil => exact .nil
  | @cons p q ps qs h t ih =>
    rw [List.map_cons, List.map_cons]
    refine .cons ?_ ih
    obtain ⟨h1, h2, h3⟩ := h
    unfold putAt
    by_cases e : p.1 = k
    · rw [if_pos e, if_pos (h1.symm.trans e)]; exact ⟨h1, h2, ry⟩
    · rw [if_neg e, if_neg (fun z => e (h1.trans z))]; exact ⟨h1, h2, h3⟩
theorem KT.put {H : Hp} {kvs : List (List Key × V)} {xs : List (List Key × Addr × Value)} (r : KT H kvs xs) (k : List Key) {b : Addr} {y : V} {u : Value} (hb : H b = some (.tup (k.map kV))) (ry : RelV y u) :
    KT H (putK kvs k y) (storedH xs k b u) := by
  have e : (kvs.any fun kv => decide (kv.1 = k)) = (atKey xs k).isSome := by
    rw [valV_any, (r.val k).isSome_eq, Option.isSome_map]
  unfold putK storedH
  rw [e]
  by_cases q : (atKey xs k).isSome = true
  · rw [if_pos q, if_pos q]; exact r.repl k ry
  · rw [if_neg q, if_neg q]; exact Paired.snoc r ⟨rfl, hb, ry⟩
theorem KT.keeps {H H' : Hp} {kvs : List (List Key × V)} {xs : List (List Key × Addr × Value)} (r : KT H kvs xs) (ht : ∀ b ys, H b = some (.tup ys) → H' b = some (.tup ys)) : KT H' kvs xs :=
  Paired.mapP r fun _ _ z => ⟨z.1, ht _ _ z.2.1, z.2.2⟩
section
variable {P : Program} {w : World} {H : Hp} {h : Heap} {a : Addr}
theorem rd_of {u : HO} (ok : HOk P w H h) (e : Rd H a u) : ObjOk P w H h a u := e.ok ok
theorem dk_rd {kvs : List (Key × V)} (ok : HOk P w H h) (e : Rd H a (.dK kvs)) : kvs.length ≤ sizeLine ∧ (a == sysModules) = false ∧ ∃ vs, KV kvs vs ∧ h.DictOf (mixKind P w) a vs :=
  show ObjOk P w H h a (.dK kvs) from rd_of ok e
theorem dk_of {kvs : List (Key × V)} (ok : HOk P w H h) (e : H a = some (.dK kvs)) : kvs.length ≤ sizeLine ∧ (a == sysModules) = false ∧ ∃ vs, KV kvs vs ∧ h.DictOf (mixKind P w) a vs := dk_rd ok (.inl e)
theorem key_of {ks : List Key} (ok : HOk P w H h) (e : H a = some (.tup (ks.map kV))) : (tupleKind (mixKind P w)).is h ks a := by
  obtain ⟨_, its, r, o, h1, h2, n, h3⟩ := (show ObjOk P w H h a (.tup (ks.map kV)) from ok a _ e)
  exact ⟨o, its.toArray, n, h1, h2, h3, by simpa using items_are r⟩
theorem dt_rd {kvs : List (List Key × V)} (ok : HOk P w H h) (e : Rd H a (.dT kvs)) : kvs.length ≤ sizeLine ∧ (a == sysModules) = false ∧
    ∃ xs, KT H kvs xs ∧ h.DictOfH (tupleKind (mixKind P w)) a xs := by
  obtain ⟨z, y, xs, r, o, es, ep, h1, h2, h3, h4, h5⟩ := (show ObjOk P w H h a (.dT kvs) from rd_of ok e)
  refine ⟨z, y, xs, r, o, es, ep, h1, h2, h3, h4, fun x hx => ?_, h5⟩
  have all : ∀ {l : List (List Key × V)} {m : List (List Key × Addr × Value)}, KT H l m → ∀ x ∈ m, (tupleKind (mixKind P w)).is h x.1 x.2.1 := by
    intro l m q
    induction q with
    | nil => intro x hx; exact nomatch hx
    | @cons p q ps qs hq t ih =>
      intro x hx
      rcases List.mem_cons.mp hx with e | hx
      · subst e
        exact key_of ok (by rw [← hq.1]; exact hq.2.1)
      · exact ih x hx
  exact all r x hx
theorem dt_of {kvs : List (List Key × V)} (ok : HOk P w H h) (e : H a = some (.dT kvs)) : kvs.length ≤ sizeLine ∧ (a == sysModules) = false ∧
    ∃ xs, KT H kvs xs ∧ h.DictOfH (tupleKind (mixKind P w)) a xs := dt_rd ok (.inl e)
end
def DGet (H : Hp) (a : Addr) (y : V) (r : Option V) : Prop :=
  (∃ kvs k, Rd H a (.dK kvs) ∧ y = kV k ∧ r = valV kvs k) ∨ ∃ kvs k b, Rd H a (.dT kvs) ∧ y = .ref b ∧ H b = some (.tup (k.map kV)) ∧ r = valV kvs k
def DPut (H : Hp) (a : Addr) (y v : V) (H' : Hp) : Prop :=
  (∃ kvs k, H a = some (.dK kvs) ∧ y = kV k ∧ kvs.length < sizeLine ∧ H' = upd H a (.dK (putK kvs k v))) ∨
  ∃ kvs k b, H a = some (.dT kvs) ∧ y = .ref b ∧ H b = some (.tup (k.map kV)) ∧ kvs.length < sizeLine ∧ H' = upd H a (.dT (putK kvs k v))
theorem DPut.k {H : Hp} {a : Addr} {kvs : List (Key × V)} {k : Key} {v : V} (e : H a = some (.dK kvs)) (hl : kvs.length < sizeLine) : DPut H a (kV k) v (upd H a (.dK (putK kvs k v))) := .inl ⟨kvs, k, e, rfl, hl, rfl⟩
section
variable {X : Cx} {pins : List (Addr × Obj)} {σ : St} {H : Hp} {s : Shared} {a : Addr} {y v : V} {u r : Value} {o : Option V} {A : Around} {E : Value → Shared → Prop}
theorem Inv.big (I : Inv X pins σ H s) : sysModules < s.heap.objs.size := by
  have h : mainGlobals < s.heap.objs.size := (I.mod.glob.keeps I.bk).lt
  exact Nat.lt_trans (by decide) h
theorem d_getItem {Q : Value → Shared → Prop} (hu : A.units + 1 < cLine) (I : Inv X pins σ H s) (g : DGet H a y (some v)) (ry : RelV y u) (h : ∀ w' s', Inv X pins σ H s' → RelV v w' → Q w' s') :
    wpAny (model X.prog X.w) A (getItem (.ref a) u) Q E s := by
  rcases g with ⟨kvs, k, e, ey, l⟩ | ⟨kvs, k, b, e, ey, eb, l⟩
  · subst ey
    obtain ⟨z, hd, vs, rel, dd⟩ := dk_rd I.hok e
    obtain ⟨w', hw, rw'⟩ := RelO.some_of (v := v) (o := valueAt vs k) (by rw [l]; exact rel.val k)
    exact wpAny_getItem_of (kV_is ry) dd.mapOf hw (h w' _ (I.tok _) rw')
  · subst ey
    cases (show u = Value.ref b from ry)
    obtain ⟨z, hd, xs, rel, dd⟩ := dt_rd I.hok e
    obtain ⟨w', hw, rw'⟩ := RelO.some_of (v := v) (o := (atKey xs k).map (·.2)) (by rw [l]; exact rel.val k)
    obtain ⟨p, hp, hp2⟩ := Option.map_eq_some_iff.mp hw
    refine wpAny_getItem_heap (tupleKind_room_in1 hu) (key_of I.hok eb) dd hp ?_
    rw [hp2]
    exact h w' _ (I.tok _) rw'
theorem d_in {Q : Value → Shared → Prop} (hu : A.units + 1 < cLine) (I : Inv X pins σ H s) (g : DGet H a y o) (ry : RelV y u) (h : ∀ s', Inv X pins σ H s' → Q (.bool o.isSome) s') :
    wpAny (model X.prog X.w) A (compareOp .In u (.ref a)) Q E s := by
  rcases g with ⟨kvs, k, e, ey, l⟩ | ⟨kvs, k, b, e, ey, eb, l⟩
  · subst ey
    obtain ⟨z, hd, vs, rel, dd⟩ := dk_rd I.hok e
    refine wpAny_in_of (kV_is ry) hd dd.mapOf ?_
    rw [← (rel.val k).isSome_eq, ← l]
    exact h _ (I.tok _)
  · subst ey
    cases (show u = Value.ref b from ry)
    obtain ⟨z, hd, xs, rel, dd⟩ := dt_rd I.hok e
    refine wpAny_in_heap (tupleKind_room_in1 hu) (key_of I.hok eb) hd dd ?_
    have q := (rel.val k).isSome_eq
    rw [Option.isSome_map] at q
    rw [← q, ← l]
    exact h _ (I.tok _)
theorem d_write {h' : Heap} {t' : Nat} {ob : HO} (I : Inv X pins σ H s) (mu : Mut (H a)) (hs : Heap.SameBut a s.heap h') (he : ∃ q, h'.get? a = some q) (new : ObjOk X.prog X.w (upd H a ob) h' a ob) :
    Inv X pins σ (upd H a ob) { s with heap := h', toks := t' } :=
  I.write (x := a) (e := a) mu (.inl rfl) (fun b q hb z => (hs.2 b hb).trans z) he new
theorem dk_new {P : Program} {w : World} {H' : Hp} {h' : Heap} {kvs : List (Key × V)} {vs : List (Key × Value)} (z : kvs.length ≤ sizeLine) (hd : (a == sysModules) = false) (rel : KV kvs vs) (dd : h'.DictOf (mixKind P w) a vs) :
    ObjOk P w H' h' a (.dK kvs) := ⟨z, hd, vs, rel, dd⟩
theorem d_setItem {H' : Hp} {Q : Unit → Shared → Prop} (hu : A.units + 1 < cLine) (I : Inv X pins σ H s) (g : DPut H a y v H') (ry : RelV y u) (rv : RelV v r) (h : ∀ s', Inv X pins σ H' s' → Q () s') :
    wpAny (model X.prog X.w) A (setItem (.ref a) u r) Q E s := by
  rcases g with ⟨kvs, k, e, ey, l, eH⟩ | ⟨kvs, k, b, e, ey, eb, l, eH⟩
  · subst ey eH
    obtain ⟨z, hd, vs, rel, dd⟩ := dk_of I.hok e
    have hz : vs.length ≤ sizeLine := by rw [← rel.length]; exact z
    have hl : (putK kvs k v).length ≤ sizeLine := by have := length_putK kvs k v; omega
    refine wpAny_setItem_pairs (hsz := hz) (kV_is ry) dd fun h' dd' hs => h _ ?_
    have he : ∃ q, h'.get? a = some q := let ⟨q, _, _, hq, _⟩ := dd'; ⟨q, hq⟩
    exact d_write I (by rw [e]; exact True.intro) hs he (dk_new hl hd (rel.put k rv) dd')
  · subst ey eH
    cases (show u = Value.ref b from ry)
    obtain ⟨z, hd, xs, rel, dd⟩ := dt_of I.hok e
    have hz : xs.length ≤ sizeLine := by rw [← Paired.length rel]; exact z
    have hl : (putK kvs k v).length ≤ sizeLine := by have := length_putK kvs k v; omega
    refine wpAny_setItem_heap (hsz := hz) (tupleKind_room_in1 hu) (key_of I.hok eb) dd fun h' dd' hs => h _ ?_
    obtain ⟨q, es, ep, hq, h2, h3, h4, _, h5⟩ := dd'
    refine d_write I (by rw [e]; exact True.intro) hs ⟨q, hq⟩ ⟨hl, hd, _, (rel.put k eb rv).keeps fun c ys ec => ?_, q, es, ep, hq, h2, h3, h4, h5⟩
    rw [upd_ne (ne_of ec e (fun z => nomatch z))]
    exact ec
end
section
variable {X : Cx} {pins : List (Addr × Obj)} {σ : St} {H : Hp} {s : Shared} {a : Addr} {kvs : List (Key × V)} {k : Key} {u : Value} {A : Around} {E : Value → Shared → Prop}
theorem d_len {Q : Value → Shared → Prop} (I : Inv X pins σ H s) (e : Rd H a (.dK kvs)) (h : ∀ t s', Inv X pins σ H s' → Q (.int kvs.length t) s') : wpAny (model X.prog X.w) A (call (.builtin "len") [.ref a]) Q E s := by
  obtain ⟨z, hd, vs, rel, dd⟩ := dk_rd I.hok e
  refine call_len_dict hd dd (by rw [← rel.length]; rw [sizeLine_eq] at z; omega) ?_
  rw [← rel.length]
  exact h _ _ (I.tok _)
end
def NoSl (i : Expr) : Prop := ∀ ov iv, subscripted i false ov iv = operate [ov, iv] (getItem ov iv)
theorem subD_of {prog : Program} {w : World} {A : Around} {E : Value → Shared → Prop} {s : Shared} {env : Env} {value slice : Expr} {pos : Pos} {T id : String} {Q : Value → Shared → Prop}
    (hl : typeLookup (.type T) "__getitem__" = pure (some (.builtin id))) (hs : NoSl slice)
    (h : wpAny (model prog w) A (eval value env) (fun o s₁ => wpAny (model prog w) A (eval slice env) (fun i s₂ => s₂.TypeIs o T ∧ wpAny (model prog w) A (getItem o i) Q E s₂) E s₁) E s) :
    wpAny (model prog w) A (eval (.Subscript value slice pos) env) Q E s := by
  refine Subscript_ (wpAny_mono h (fun o s₁ h₁ => wpAny_mono h₁ (fun i s₂ h₂ => ?_) fun _ _ x => x) fun _ _ x => x)
  obtain ⟨hT, h₂⟩ := h₂
  unfold subscriptTail
  refine wpAny_bind ?_
  rw [getitemInPython_of_ne hT.not_modules]
  refine wpAny_bind (wpAny_specialOf hT hl ?_)
  have fin : wpAny (model prog w) A (subscripted slice false o i) (fun r s₃ => wpAny (model prog w) A (letTemporaryGo value o r >>= fun _ => pure r) Q E s₃) E s₂ := by
    rw [hs o i]
    exact wpAny_operating (wpAny_mono h₂ (fun r s₃ h₃ => wpAny_bind (wpAny_letTemporaryGo (wpAny_pure h₃))) fun _ _ x => x)
  first
    | exact wpAny_pure (wpAny_bind fin)
    | exact wpAny_bind (wpAny_pure (wpAny_bind fin))
    | exact wpAny_bind fin
theorem dict_typeIs {X : Cx} {pins : List (Addr × Obj)} {σ : St} {H : Hp} {s : Shared} {a : Addr} {y : V} {o : Option V} (I : Inv X pins σ H s) (g : DGet H a y o) : s.TypeIs (.ref a) "dict" := by
  rcases g with ⟨kvs, k, e, _, _⟩ | ⟨kvs, k, b, e, _, _, _⟩
  · obtain ⟨_, _, vs, _, dd⟩ := dk_rd I.hok e
    exact dd.typeIs
  · obtain ⟨_, _, xs, _, dd⟩ := dt_rd I.hok e
    exact dd.typeIs
def tDGet (td ty : TE) : TE := fun σ H Q => td σ H fun x H1 => ty σ H1 fun y H2 => ∃ a v, x = .ref a ∧ DGet H2 a y (some v) ∧ Q v H2
def tDIn (ty td : TE) : TE := fun σ H Q => ty σ H fun y H1 => td σ H1 fun x H2 => ∃ a o, x = .ref a ∧ DGet H2 a y o ∧ Q (.bl o.isSome) H2
def sDPut (td ty tv : TE) : TS := fun D σ H => tv σ H fun v H1 => td σ H1 fun x H2 => ty σ H2 fun y H3 => ∃ a H4, x = .ref a ∧ DPut H3 a y v H4 ∧ D.nx σ H4
section
variable {X : Cx} {o i e value : Expr} {pos pos' tpos : Pos} {td ty tv : TE}
theorem pe_dget (hu : X.A.units + 1 < cLine) (ho : PE X o td) (hi : PE X i ty) (hs : NoSl i) : PE X (.Subscript o i pos) (tDGet td ty) := by
  intro pins s σ H Q I h
  refine subD_of PySem.F.slot_dict_getitem.lookup hs (thn (ho pins s σ H _ I h) fun u s1 ⟨x, H1, I1, rx, q1⟩ => thn (hi pins s1 σ H1 _ I1 q1) fun iv s2 ⟨y, H2, I2, ry, a, v, ex, g, q2⟩ => ?_)
  subst ex
  obtain rfl : u = Value.ref a := rx
  exact ⟨dict_typeIs I2 g, d_getItem hu I2 g ry fun w' s3 I3 rw' => ⟨v, H2, I3, rw', q2⟩⟩
theorem pc_din (hu : X.A.units + 1 < cLine) (hi : PE X i ty) (ho : PE X o td) : PC X .In i o (tDIn ty td) := by
  intro pins s σ H Q I h
  refine thn (hi pins s σ H _ I h) fun iv s1 ⟨y, H1, I1, ry, q1⟩ => thn (ho pins s1 σ H1 _ I1 q1) fun u s2 ⟨x, H2, I2, rx, a, ov, ex, g, q2⟩ => ?_
  subst ex
  obtain rfl : u = Value.ref a := rx
  exact d_in hu I2 g ry fun s3 I3 => ⟨.bl ov.isSome, H2, I3, rfl, q2⟩
theorem ps_dput (hu : X.A.units + 1 < cLine) (ho : PE X o td) (hi : PE X i ty) (hv : PE X value tv) (hs : swapsWith value (some (.Subscript o i pos')) pos.line X.env = pure false) :
    PS X (.Assign [.Subscript o i pos'] value pos) (sDPut td ty tv) := by
  intro pins s σ H D I h
  refine wpAny_Assign_Subscript (thn (hv pins s σ H _ I h) fun r s1 ⟨v, H1, I1, rv, q1⟩ => thn (ho pins s1 σ H1 _ I1 q1) fun u s2 ⟨x, H2, I2, rx, q2⟩ => thn (hi pins s2 σ H2 _ I2 q2) fun iv s3 ⟨y, H3, I3, ry, a, H4, ex, g, q3⟩ => ?_) hs
  subst ex
  obtain rfl : u = Value.ref a := rx
  exact d_setItem hu I3 g ry rv fun s4 I4 => ⟨σ, H4, I4, q3⟩
end
theorem dk_empty {P : Program} {w : World} {H : Hp} (h : Heap) (hb : sysModules < h.objs.size) : ObjOk P w H (h.push { cls := .type "dict", data := .dict #[] }) h.objs.size (.dK []) :=
  ⟨Nat.zero_le _, beq_eq_false_iff_ne.mpr (Ne.symm (Nat.ne_of_lt hb)), [], .nil, Heap.DictOf.new h⟩
def tDNewK : TE := fun _ H Q => ∀ p, H p = none → Q (.ref p) (upd H p (.dK []))
section
variable {X : Cx} {pos : Pos}
theorem pe_dnewK : PE X (.Dict [] [] pos) tDNewK := fun pins s σ H Q I h =>
  wpAny_Dict_empty ⟨.ref s.heap.objs.size, _, I.laid (a := s.heap.objs.size) (o := .dK []) (t' := s.toks) (fun _ _ q => Heap.get?_push_of_some _ q) (Nat.le_refl _) (dk_empty s.heap I.big), rfl, h _ (I.hok.fresh (Nat.le_refl _))⟩
end
def tPairs : List (TE × TE) → St → Hp → (List (V × V) → Hp → Prop) → Prop
  | [], _, H, Q => Q [] H
  | (tk, tv) :: r, σ, H, Q => tk σ H fun x H1 => tv σ H1 fun y H2 => tPairs r σ H2 fun ps H3 => Q ((x, y) :: ps) H3
abbrev VV : List (V × V) → List (Value × Value) → Prop := Paired fun p q => RelV p.1 q.1 ∧ RelV p.2 q.2
def PPs (X : Cx) (pos : Pos) (keys : List (Option Expr)) (values : List Expr) (trs : List (TE × TE)) : Prop :=
  ∀ (pins : List (Addr × Obj)) (s : Shared) (σ : St) (H : Hp) (Q : List (V × V) → Hp → Prop), Inv X pins σ H s → tPairs trs σ H Q →
    wpAny (model X.prog X.w) X.A (evalPairs (pairTrees keys values X.env pos)) (fun vs s' => ∃ ps H', Inv X pins σ H' s' ∧ VV ps vs ∧ Q ps H') X.xe s
theorem pps_nil {X : Cx} {pos : Pos} : PPs X pos [] [] [] := fun pins s σ H Q I h => pairTrees_nil_walk ⟨[], H, I, .nil, h⟩
theorem pps_cons {X : Cx} {pos : Pos} {k v : Expr} {ks : List (Option Expr)} {vs : List Expr} {tk tv : TE} {trs : List (TE × TE)} (hk : PE X k tk) (hv : PE X v tv) (hr : PPs X pos ks vs trs) :
    PPs X pos (some k :: ks) (v :: vs) ((tk, tv) :: trs) := fun pins s σ H Q I h =>
  pairTrees_cons_walk (thn (hk pins s σ H _ I h) fun u s1 ⟨x, H1, I1, rx, q1⟩ => thn (hv pins s1 σ H1 _ I1 q1) fun w2 s2 ⟨y, H2, I2, ry, q2⟩ =>
    thn (hr pins s2 σ H2 _ I2 q2) fun ws s3 ⟨ps, H3, I3, rel, q3⟩ => ⟨(x, y) :: ps, H3, I3, .cons ⟨rx, ry⟩ rel, q3⟩)
def mergeK (kvs more : List (Key × V)) : List (Key × V) := more.foldl (fun acc kv => putK acc kv.1 kv.2) kvs
theorem KV.merge : ∀ {more : List (Key × V)} {rs : List (Key × Value)} {kvs : List (Key × V)} {vs : List (Key × Value)}, KV more rs → KV kvs vs → KV (mergeK kvs more) (merged vs rs) := by
  intro more rs kvs vs r
  unfold KV at r
  induction r generalizing kvs vs with
  | nil => intro q; exact q
  | @cons p q ps qs h t ih =>
    intro r0
    have e : KV (putK kvs p.1 p.2) (stored vs q.1 q.2) := by
      have := r0.put p.1 h.2
      rw [← h.1]; exact this
    exact ih e
theorem length_mergeK : ∀ (more kvs : List (Key × V)), (mergeK kvs more).length ≤ kvs.length + more.length
  | [], kvs => by show kvs.length ≤ kvs.length + 0; omega
  | p :: r, kvs => by
    have h1 := length_mergeK r (putK kvs p.1 p.2)
    have h2 := length_putK kvs p.1 p.2
    show (mergeK (putK kvs p.1 p.2) r).length ≤ _
    rw [List.length_cons]; omega
theorem carries_of {P : Program} {w : World} : ∀ {kvs : List (Key × V)} {ws : List (Value × Value)}, VV (kvs.map fun kv => (kV kv.1, kv.2)) ws → ∃ rs, Carries (mixKind P w) ws rs ∧ KV kvs rs
  | [], _, r => by rw [List.map_nil] at r; cases r; exact ⟨[], True.intro, .nil⟩
  | p :: kvs, _, r => by
    rw [List.map_cons] at r
    cases r with
    | @cons a b as bs h t =>
      obtain ⟨rs, c, q⟩ := carries_of (P := P) (w := w) t
      obtain ⟨b1, b2⟩ := b
      exact ⟨(p.1, b2) :: rs, ⟨kV_is h.1, rfl, c⟩, .cons ⟨rfl, h.2⟩ q⟩
def tDisp (trs : List (TE × TE)) : TE := fun σ H Q => ∀ p, H p = none → tPairs trs σ (upd H p (.dK [])) fun ps H2 => H2 p = some (.dK []) ∧ ∃ kvs : List (Key × V), ps = kvs.map (fun kv => (kV kv.1, kv.2)) ∧ kvs.length ≤ 15 ∧ Q (.ref p) (upd H2 p (.dK (mergeK [] kvs)))
theorem pe_disp {X : Cx} {pos : Pos} {keys : List (Option Expr)} {values : List Expr} {trs : List (TE × TE)} (h : PPs X pos keys values trs) (hall : keys.all (·.isSome) = true) (hl : keys.length = values.length) (h0 : keys ≠ [])
    (h15 : keys.length ≤ 15) : PE X (.Dict keys values pos) (tDisp trs) := by
  intro pins s σ H Q I q
  have hn := I.hok.fresh (Nat.le_refl s.heap.objs.size)
  have I1 := I.laid (a := s.heap.objs.size) (o := .dK []) (h' := s.heap.push { cls := .type "dict", data := .dict #[] }) (t' := s.toks) (fun _ _ q => Heap.get?_push_of_some _ q) (Nat.le_refl _) (dk_empty s.heap I.big)
  refine wpAny_Dict_walk (knd := mixKind X.prog X.w) hall hl h0 h15 (thn (h pins _ σ _ _ I1 (q _ hn)) fun ws s2 ⟨ps, H2, I2, rel, e, kvs, ep, lk, q2⟩ => ?_)
  subst ep
  obtain ⟨rs, c, rk⟩ := carries_of (P := X.prog) (w := X.w) rel
  obtain ⟨z, hd, vs0, r0, dd⟩ := dk_of I2.hok e
  cases r0
  refine ⟨rs, c, dd, fun h' dd' hs => ⟨.ref s.heap.objs.size, _, ?_, rfl, q2⟩⟩
  have hz : (mergeK [] kvs).length ≤ sizeLine := by
    have h1 := length_mergeK kvs []
    rw [List.length_nil] at h1
    rw [sizeLine_eq]; omega
  have he : ∃ q, h'.get? s.heap.objs.size = some q := let ⟨q, _, _, hq, _⟩ := dd'; ⟨q, hq⟩
  exact d_write I2 (by rw [e]; exact True.intro) hs he (dk_new hz hd (rk.merge .nil) dd')
structure M1 (X : Cx) (o : Expr) (m : Str) (apos : Pos) (e : Expr) (cpos : Pos) : Prop where
  base : attributeBase o m X.env (eval o X.env) = eval o X.env
  few : ((backTo cpos (starEach [e] X.env)).all (fun x => !x.1) && (backToKw cpos (keywordEach [] X.env)).all (fun x => x.1.isSome)
    && decide (([e] : List Expr).length + ([] : List Keyword).length + (if ([] : List Keyword).isEmpty then 0 else 1) < 30)) = true
  line : (apos.endLine == cpos.line) = true
  trees : backTo cpos (starEach [e] X.env) = [(false, eval e X.env)]
structure M2 (X : Cx) (o : Expr) (m : Str) (apos : Pos) (e f : Expr) (cpos : Pos) : Prop where
  base : attributeBase o m X.env (eval o X.env) = eval o X.env
  few : ((backTo cpos (starEach [e, f] X.env)).all (fun x => !x.1) && (backToKw cpos (keywordEach [] X.env)).all (fun x => x.1.isSome)
    && decide (([e, f] : List Expr).length + ([] : List Keyword).length + (if ([] : List Keyword).isEmpty then 0 else 1) < 30)) = true
  line : (apos.endLine == cpos.line) = true
  trees : backTo cpos (starEach [e, f] X.env) = [(false, eval e X.env), (false, eval f X.env)]
section
variable {X : Cx} {pins : List (Addr × Obj)} {σ : St} {H : Hp} {s : Shared} {a : Addr} {y d : V} {u r : Value} {o : Option V} {A : Around} {E : Value → Shared → Prop}
end
section
variable {X : Cx} {o e f : Expr} {apos cpos : Pos} {td ty tx : TE}
end
section
variable {X : Cx} {pins : List (Addr × Obj)} {σ : St} {H : Hp} {s : Shared} {a : Addr} {kvs : List (Key × V)} {A : Around} {E : Value → Shared → Prop}
end
section
variable {X : Cx} {pins : List (Addr × Obj)} {σ : St} {H : Hp} {s : Shared} {a : Addr} {y : V} {u : Value} {A : Around} {E : Value → Shared → Prop}
end
end L2
namespace Att
open PySem PySem.W PySem.Calls PyProof.Rows
theorem ints_of_wellAll {P : Params} {h : Heap} : ∀ (ns : List Int) (vs : List Value), WellAll P h vs (ns.map WData.int) → IntsAre vs ns := by
  intro ns
  induction ns with
  | nil =>
    intro vs w
    rw [List.map_nil] at w
    cases w
    exact .nil
  | cons n ns ih =>
    intro vs w
    rw [List.map_cons] at w
    cases w with
    | cons a b =>
      cases a
      exact .cons _ _ (ih _ b)
theorem script_of {l : OpenLaw} {n : Nat} (hn : l.most = some n) {P : Params} {h : Heap} {args : List WData} {vals : List Value}
    (hpre : l.row.toRowW.claim.pre args = true) (hwl : WellAll P h vals args) :
    ∃ a vs ns, vals = [Value.ref a] ∧ args = [WData.list (ns.map WData.int)] ∧ h.get? a = some { cls := .type "list", data := .seq vs.toArray } ∧ IntsAre vs ns ∧ ns.length ≤ n := by
  have hsh : WShape.hasAll [] args [.list .int] = true := (pre_splitW hpre).1
  have hc : l.pre.holds [] { args := args } = true := (pre_splitW hpre).2
  obtain ⟨d, r, rfl, h1, h2⟩ := hasAllW_cons hsh
  obtain rfl := hasAllW_nil h2
  obtain ⟨xs, rfl, h3⟩ := hasW_list h1
  obtain ⟨ns, rfl⟩ := items_int h3
  have hlen : ns.length ≤ n := by
    unfold OpenLaw.pre at hc
    have h4 : (WTm.not (.lt (.lit (.int (n : Int))) (.len (.arg 0)))).holds [] { args := [.list (ns.map .int)] } = true := by
      have h4 := (holds_andW hc).1
      rw [hn] at h4
      exact h4
    have h5 := condW_of h4 (w_not (w_lt w_lit (w_len_list (w_arg rfl))))
    rw [List.length_map] at h5
    refine Nat.le_of_not_lt fun q => ?_
    have q' : (n : Int) < ((ns.length : Nat) : Int) := by omega
    first
      | (rw [decide_eq_true q'] at h5; exact absurd h5 (by decide))
      | (simp at h5; omega)
  cases hwl with
  | cons w1 w2 =>
    cases w2
    cases w1 with
    | list ho hall => exact ⟨_, _, ns, rfl, rfl, ho, ints_of_wellAll ns _ hall, hlen⟩
theorem post_true (l : OpenLaw) (args : List WData) : l.row.toRowW.claim.post args (.bool true) args = true :=
  postW_of (r := l.row.toRowW) (X := (true == true))
    (show WShape.has [] (.bool true) .bool = true by first | rfl | decide | simp [WShape.has, WShape.arms, WShape.armsAll])
    (show (WTm.eq .res (.lit (.bool true))).value [] { args := args, res := some (.bool true), after := args } = some (.bool (true == true)) from w_eq_bool (w_res rfl) w_lit) rfl
theorem attach_call {l : OpenLaw} {n : Nat} {q : Program} {loose : List Str} {XP : (Str → Option Value) → Heap → Prop} {YP : World → Heap → Prop} {d : DefRec}
    (hn : l.most = some n) (hdf : d.params.defaults = [])
    (call : ∀ (w : World) (s₀ s₁ : Shared) (mg mb : Str → Option Value) (fa : Addr) (o : Obj) (pm cd doc : Value) (a : Addr) (vs : List Value) (ns : List Int),
      Ground q loose [] XP w s₀ mg mb s₁.heap → YP w s₁.heap →
      s₁.heap.get? fa = some o → o.data = .func (docDef d.name d.params d.body d.scope pm cd doc) → s₁.heap.CodeRec cd d.name → mg d.name = some (.ref fa) →
      s₁.heap.get? a = some { cls := .type "list", data := .seq vs.toArray } → IntsAre vs ns → ns.length ≤ n → s₁.gens = #[] →
      codeAny (model l.prog w) callerA (.call (.ref fa) ⟨[.ref a], []⟩) (fun r s' => r = .ok (.ret (.bool true)) ∧ OldK s₁.heap s'.heap ∧ s'.os = s₁.os ∧ AllBare s'.gens) s₁) :
    WalkO q loose XP YP l.row.toRowW d [] (fun f vs => PySem.call f vs) := by
  intro w s₀ s₁ mg mb G Y fa o pm cd doc dV kV ho hd hcd hD hmg hg args vals as hpre hlay hrd hwl hlo
  obtain rfl : dV = .none := Dflts.none hD hdf
  obtain rfl : kV = .none := Dflts.noKw hD
  obtain ⟨a, vs, ns, rfl, rfl, hobj, hints, hlen⟩ := script_of hn hpre hwl
  refine enter_call (codeAny_mono (call w s₀ s₁ mg mb fa o pm cd doc a vs ns G Y ho (fd_plain hd) hcd hmg hobj hints hlen hg) fun r s' hq => ?_)
  obtain ⟨rfl, h2, h3, h4⟩ := hq
  exact ⟨.inl ⟨.bool true, .bool true, [], rfl, fun _ => rfl, .bool true, post_true l _, fun _ => ⟨List.Pairwise.nil, fun _ hm => (nomatch hm)⟩⟩, h2, h3, h4⟩
section
variable {prog : Program} {w : World} {A : Around} {E : Value → Shared → Prop} {s : Shared} {K : Frag}
end
end Att
namespace L2
open PySem PySem.Spec PyProof.Rows
theorem vals_ints : ∀ {vs : List Value} {ns : List Int}, IntsAre vs ns → Vals (ns.map V.int) vs
  | _, _, .nil => .nil
  | _, _, .cons n t h => .cons ⟨t, rfl⟩ (vals_ints h)
def Only (H : Hp) : Prop := ∀ b, H b = none ∨ ∃ o xs, H b = some (.frz o (.lst xs))
theorem law_call {P : Program} {w : World} {K : PySem.W.Frag} {mg mb : Str → Option Value} {CX : CXT} {k : Nat} {fa a : Addr} {fd : FuncData} {x : Str} {sp : Sp} {s₁ : Shared} {vs : List Value} {ns : List Int}
    (KX : K.In s₁.heap) (hns : s₁.heap.Ns mainGlobals mg) (hb : s₁.heap.Ns builtinsNs mb) (hbb : ∀ x : Str, x ≠ "__name__" → mb x = bootBuiltins x) (hlim : s₁.heap.NoLimit) (hg : s₁.gens = #[])
    (ha : s₁.heap.get? a = some { cls := .type "list", data := .seq vs.toArray }) (hi : IntsAre vs ns) (hl : ns.length ≤ sizeLine) (hr : Room k callerA)
    (F : ∀ base : Heap, K.In base → base.Ns mainGlobals mg → FnOk P w K mg base CX k fa fd [x] sp) (hbind : ∀ (s : Shared) (u : Value), BindsTo s fd ⟨[u], []⟩ [(x, u)])
    (hsp : ∀ H : Hp, Only H → SqL K H a (ns.map V.int) → sp [.ref a] H (fun v _ => v = .bl true) fun _ _ _ => False)
    (hCX : ∀ H e s', CX [] H s₁ (fun _ _ _ => False) e s' → False) :
    codeAny (model P w) callerA (.call (.ref fa) ⟨[.ref a], []⟩) (fun r s' => r = .ok (.ret (.bool true)) ∧ OldK s₁.heap s'.heap ∧ s'.os = s₁.os ∧ AllBare s'.gens) s₁ := by
  have rv := vals_ints hi
  have lenV := hi.length
  -- from an abstract heap in which nothing but the script may be tracked
  have core : ∀ H : Hp, Only H → SqL K H a (ns.map V.int) → HOk P w H s₁.heap → (∀ b, H b ≠ none → b = a) → (H a ≠ none → K.lookup a = none) →
      codeAny (model P w) callerA (.call (.ref fa) ⟨[.ref a], []⟩) (fun r s' => r = .ok (.ret (.bool true)) ∧ OldK s₁.heap s'.heap ∧ s'.os = s₁.os ∧ AllBare s'.gens) s₁ := by
    intro H hO hS hok hA hK
    have base_of : ∀ {b : Addr} {o : Obj}, s₁.heap.get? b = some o → H b = none → (hidT s₁.heap H).get? b = some o := fun e n => hidT_get e n
    have noA : ∀ {b : Addr} {o : Obj} {es : Array DictEntry} {ep : Nat}, s₁.heap.get? b = some o → o.data = .dict es ep → H b = none := fun {b o es ep} e d => by
      cases q : H b with
      | none => rfl
      | some u =>
        have e' : b = a := hA b (by rw [q]; simp)
        subst e'
        rw [ha] at e; cases e
        have d' : Data.seq vs.toArray _ = Data.dict es ep := d
        cases d'
    have nsK : ∀ {b : Addr} {m : Str → Option Value}, s₁.heap.Ns b m → (hidT s₁.heap H).Ns b m := fun {b m} ⟨o, es, ep, e, d, r⟩ => ⟨o, es, ep, base_of e (noA e d), d, r⟩
    have hKb : K.In (hidT s₁.heap H) := fun b o e => base_of (KX b o e) (by
      cases q : H b with
      | none => rfl
      | some u =>
        have e' : b = a := hA b (by rw [q]; simp)
        subst e'
        rw [hK (by rw [q]; simp)] at e; cases e)
    have hM : Mod K mg (hidT s₁.heap H) := ⟨hKb, nsK hns, ⟨mb, nsK hb, hbb⟩, let ⟨mc, h1, h2⟩ := hlim; ⟨mc, nsK h1, h2⟩⟩
    have e0 : Env0 P w K mg (hidT s₁.heap H) callerA [] s₁ H := ⟨rfl, hM, fun b o e => of_hidT e, Nat.le_of_eq (hidT_size _ _), trivial, fun b hb => absurd (show b ∈ ([] : List Addr) from hb) (by simp), hok, .of_eq hg⟩
    refine codeAny_mono ((F _ hKb (nsK hns)).run callerA [] s₁ H ⟨[.ref a], []⟩ [.ref a] [.ref a] _ _ hr e0 (hbind s₁ (.ref a)) (.cons rfl .nil) (hsp H hO hS)) fun r s' h => ?_
    cases r with
    | error e => exact (hCX H e s' h).elim
    | ok fl =>
      cases fl with
      | next => exact False.elim h
      | brk => exact False.elim h
      | cont => exact False.elim h
      | ret u =>
        obtain ⟨v, H', os, bare, un, hok', r', q⟩ := h
        have q' : v = .bl true := q
        subst q'
        obtain rfl : u = Value.bool true := r'
        refine ⟨rfl, OldK.of_keep fun b o e => ?_, os, bare⟩
        cases q : H b with
        | none => exact un.keep b o e q (by intro z; exact absurd (show b ∈ ([] : List Addr) from z) (by simp)) (by simp)
        | some u =>
          rcases hO b with z | ⟨ob, xs, z⟩
          · rw [q] at z; cases z
          · have z2 := un.frzs b ob _ z
            obtain ⟨e1, _⟩ := hok b _ z
            obtain ⟨e2, _⟩ := hok' b _ z2
            rw [e] at e1; cases e1
            exact e2
  cases hk : K.lookup a with
  | some o =>
    -- the script is one of the module's own objects
    have e := KX a o hk
    rw [ha] at e
    cases e
    refine core (fun _ => none) (fun _ => .inl rfl) (.inr ⟨_, vs.toArray, _, hk, rfl, rfl, rfl, by rw [List.size_toArray, lenV]; exact hl, by simpa using rv⟩) (fun b u z => by have z' : (none : Option HO) = some u := z; cases z') (fun b z => absurd rfl z) fun z => absurd rfl z
  | none =>
    refine core (fun b => if b = a then some (.frz { cls := .type "list", data := .seq vs.toArray } (.lst (ns.map V.int))) else none) (fun b => ?_) (.inl (.inr ⟨{ cls := .type "list", data := .seq vs.toArray }, if_pos rfl⟩)) (fun b u z => ?_) (fun b z => ?_) fun _ => hk
    · by_cases hb : b = a
      · exact .inr ⟨_, _, if_pos hb⟩
      · exact .inl (if_neg hb)
    · by_cases hb : b = a
      · have z' := (if_pos hb).symm.trans z
        cases z'
        subst hb
        exact ⟨ha, by rw [List.length_map]; exact hl, vs, _, rv, ha⟩
      · have z' := (if_neg hb).symm.trans z
        cases z'
    · by_cases hb : b = a
      · exact hb
      · exact absurd (if_neg hb) z
end L2
namespace L2
open PySem PySem.Spec PyProof.Rows
abbrev KOf {K : PySem.W.Frag} {h : Heap} (_ : K.In h) : PySem.W.Frag := K
theorem walk_of {l : PySem.W.OpenLaw} {n k : Nat} {q : Program} {loose : List Str} {XP : (Str → Option Value) → Heap → Prop} {YP : World → Heap → Prop} {d : DefRec} {K : Params → PySem.W.Frag} {CX : World → CXT} {sp : World → Sp} {x : Str}
    (hn : l.most = some n) (hn2 : n ≤ sizeLine) (hdf : d.params.defaults = []) (hr : Room k callerA)
    (hY : ∀ (w : World) (h : Heap), YP w h → (K w.params).In h)
    (F : ∀ (w : World) (mg : Str → Option Value) (fa : Addr) (h : Heap), (K w.params).In h → h.Ns mainGlobals mg → mg d.name = some (.ref fa) →
      ∃ fd : FuncData, (∀ (s : Shared) (u : Value), BindsTo s fd ⟨[u], []⟩ [(x, u)]) ∧
        ∀ base : Heap, (K w.params).In base → base.Ns mainGlobals mg → FnOk l.prog w (K w.params) mg base (CX w) k fa fd [x] (sp w))
    (hsp : ∀ (w : World) (H : Hp) (a : Addr) (ns : List Int), ns.length ≤ n → Only H → SqL (K w.params) H a (ns.map V.int) → sp w [.ref a] H (fun v _ => v = .bl true) fun _ _ _ => False)
    (hCX : ∀ (w : World) (H : Hp) (s : Shared) (e : Value) (s' : Shared), CX w [] H s (fun _ _ _ => False) e s' → False) :
    PySem.W.WalkO q loose XP YP l.row.toRowW d [] (fun f vs => PySem.call f vs) := by
  refine Att.attach_call hn hdf fun w s₀ s₁ mg mb fa o pm cd doc a vs ns G Y ho hd hcd hmg hobj hints hlen hg => ?_
  have KX := hY w _ Y
  obtain ⟨fd, hb, hF⟩ := F w mg fa _ KX G.T.g hmg
  exact law_call KX G.T.g G.T.b G.T.builtins G.T.nolimit hg hobj hints (Nat.le_trans hlen hn2) hr hF hb (fun H hO hS => hsp w H a ns hlen hO hS) fun H e s' => hCX w H s₁ e s'
end L2
/- THE LAST THEOREM (shape; LID, My.* are yours):
   My.Adr: a structure of the addresses that your layer names (classes, functions); My.Txt K t: a structure (Prop) of the equations over K;
   My.txt_mk : {K} {implicit addresses ..} (e1 : nsIn K mainGlobals "law" = some (some (.ref f))) (e2 : K.lookup f = some ⟨oc, od, .func (fnOf "law" "law" params body scope dV kV doc pm an cdv ct), sl⟩) (e3 : codeIn K cdv "law" = true) .. : ∃ t, My.Txt K t
set_option maxRecDepth 100000 in
set_option maxHeartbeats 0 in
theorem PySem.Challenge.cw_LID_holds : PySem.Challenge.rw_LID.Holds := by
  w_on; o_law; k_head; (case hw => w_witness2)
  k_fill
  refine L2.walk_of (l := PySem.Challenge.rw_LID) (n := 63) (k := 40) (x := "script") (CX := fun w => ..) (sp := fun _ => My.sp_law) rfl (by decide) rfl ⟨rfl, by decide, by decide⟩ (fun w h Y => PySem.W.kIn_of Y) ?F ?S ?C
  case F =>
    intro w mg fa h KX G hmg
    have T : ∃ t, My.Txt (L2.KOf KX) t := by
      dsimp only [L2.KOf]                          -- K must stand as «<heap const> w.params» for k_is
      refine' My.txt_mk ?e1 ?e2 ?e3 ..
      (case e1 => PySem.W.k_is)                    -- in the order: a name -> its address -> its object -> its parts
      (case e2 => PySem.W.k_is)
      ..
    obtain ⟨t, T⟩ := T
    have e0 := hmg.symm.trans (PySem.W.mg_of KX G T.law)
    cases e0                                       -- fa is the law's own address
    exact ⟨_, fun s u => .of_eq rfl, fun base kb nb => My.law_fn T kb nb⟩     -- if «.of_eq rfl» comes too early: refine' ⟨_, ?b, fun base kb nb => My.law_fn T kb nb⟩; exact fun s u => .of_eq rfl
  case S => exact fun w H a ns hl hO hS => ..
  case C => exact ..
(the tactic k_is has no namespace: write k_is) -/
namespace L2
open PySem PySem.Spec PyProof.Rows
def defArgs (s : Stmt) : Arguments := match s with
  | .FunctionDef _ a _ _ _ _ _ _ _ _ => a
  | _ => { posonlyargs := [], args := [], vararg := none, kwonlyargs := [], kw_defaults := [], kwarg := none, defaults := [] }
def defBody (s : Stmt) : List Stmt := match s with
  | .FunctionDef _ _ b _ _ _ _ _ _ _ => b
  | _ => []
def defScope (s : Stmt) : Scope := match s with
  | .FunctionDef _ _ _ _ _ _ sc _ _ _ => sc
  | _ => { kind := .function, names := [], isGenerator := false, isCoroutine := false }
abbrev CX0 : CXT := fun _ _ _ _ _ _ => False
abbrev E0 : XK := fun _ _ _ => False
theorem pass0 {X : Cx} : Passes CX0 X E0 := fun _ _ _ _ _ _ _ h => h.elim
structure Fun (K : PySem.W.Frag) (x qual : Str) (st : Stmt) (f : Addr) (fd : FuncData) : Prop where
  ex : ∃ (oc : Value) (od : Option Addr) (kV doc pm : Value) (an : Option Addr) (cdv ct : Value) (osl : Array (Option Value)),
    fd = PySem.W.fnOf x qual (defArgs st) (defBody st) (defScope st) .none kV doc pm an cdv ct ∧ K.lookup f = some ⟨oc, od, .func fd, osl⟩ ∧ PySem.W.codeIn K cdv qual = true
  kp : PySem.W.keepIn K (.ref f) = true
section
variable {P : Program} {w : World} {K : PySem.W.Frag} {mg : Str → Option Value} {base : Heap}
theorem Fun.ok {x qual : Str} {st : Stmt} {f : Addr} {fd : FuncData} {N ps : List Str} {k : Nat} {sp : Sp} (F : Fun K x qual st f fd) (S : FnScope N ps (defScope st)) (len : ∀ vs H Q E, sp vs H Q E → vs.length = ps.length)
    (hbody : ∀ (cdv : Value) (A : Around) (outer : List Env) (s : Shared) (H : Hp) (vs : List V) (Q : VK) (E : XK), Room k (A.deeper (envOfC qual (defScope st) s.heap.objs.size f cdv)) → sp vs H Q E →
      ∃ t, PSs (cxOf CX0 P w K mg base N qual (defScope st) f cdv A outer s H E).nox (defBody st) t ∧ t { nx := fun _ H' => Q .non H', rt := Q } (start N vs) H) : FnOk P w K mg base CX0 (k + 1) f fd ps sp := by
  obtain ⟨oc, od, kV, doc, pm, an, cdv, ct, osl, rfl, lk, hcd⟩ := F.ex
  refine fn_of lk hcd S len fun A outer s H vs Q E hr hsp => ?_
  obtain ⟨t, h, q⟩ := hbody cdv A outer s H vs Q E hr hsp
  exact ⟨t, h.nox, q⟩
theorem Fun.binds {x qual : Str} {st : Stmt} {f : Addr} {fd : FuncData} {ps : List Str} (F : Fun K x qual st f fd)
    (h : ∀ (kV doc pm : Value) (an : Option Addr) (cdv ct : Value) (us : List Value), us.length = ps.length → bindArgs (PySem.W.fnOf x qual (defArgs st) (defBody st) (defScope st) .none kV doc pm an cdv ct) ⟨us, []⟩ = pure (ps.zip us)) : Binds K fd ps [] := by
  obtain ⟨oc, od, kV, doc, pm, an, cdv, ct, osl, rfl, lk, hcd⟩ := F.ex
  exact .all (h kV doc pm an cdv ct)
theorem fun_mk {x qual : Str} {st : Stmt} {f : Addr} {oc : Value} {od an : Option Addr} {osl : Array (Option Value)} {kV doc pm cdv ct : Value} (l : K.lookup f = some ⟨oc, od, .func (PySem.W.fnOf x qual (defArgs st) (defBody st) (defScope st) .none kV doc pm an cdv ct), osl⟩)
    (c : PySem.W.codeIn K cdv qual = true) (k : PySem.W.keepIn K (.ref f) = true) : Fun K x qual st f (PySem.W.fnOf x qual (defArgs st) (defBody st) (defScope st) .none kV doc pm an cdv ct) := ⟨⟨oc, od, kV, doc, pm, an, cdv, ct, osl, rfl, l, c⟩, k⟩
end
theorem hu_of {A : Around} {k : Nat} (hr : Room k A) : A.units + 1 < cLine := Nat.lt_of_le_of_lt (Nat.add_le_add_left (by decide : 1 ≤ 64) _) hr.units
section
variable {X : Cx}
theorem pv (i : Nat) {x : Str} {pos : Pos} (hN : X.N[i]? = some x := by rfl) (hv : Vis X.env.scope x := by first | exact Or.inl rfl | exact Or.inr (Or.inl rfl) | exact Or.inr (Or.inr rfl)) (hd : (x == ("__debug__" : Str)) = false := by decide)
    (hcd : (x == ("__classdict__" : Str)) = false := by decide) : PE X (.Name x pos) (tVar i) := pe_var hN hv hd hcd
end
theorem iteF {A B : Prop} (h : B) : if false = true then A else B := by
  rw [if_neg Bool.false_ne_true]
  exact h
theorem iteT {A B : Prop} (h : A) : if true = true then A else B := by
  rw [if_pos rfl]
  exact h
def Same (H H' : Hp) : Prop := ∀ b o, H b = some o → H' b = some o
theorem Same.refl (H : Hp) : Same H H := fun _ _ h => h
theorem Same.trans {H H1 H2 : Hp} (a : Same H H1) (b : Same H1 H2) : Same H H2 := fun c o h => b c o (a c o h)
theorem Same.seq {K : PySem.W.Frag} {H H' : Hp} {a : Addr} {xs : List V} (e : Same H H') (h : SqL K H a xs) : SqL K H' a xs := by
  rcases h with (h | ⟨o, h⟩) | h
  · exact .inl (.inl (e _ _ h))
  · exact .inl (.inr ⟨o, e _ _ h⟩)
  · exact .inr h
section
variable {X : Cx}
end
section
variable {κ : Type} [DecidableEq κ]
theorem nd_snoc : ∀ {l : List κ} {k : κ}, l.Nodup → ¬ k ∈ l → (l ++ [k]).Nodup
  | [], k, _, _ => by simp
  | a :: r, k, h, hk => by
    obtain ⟨h1, h2⟩ := List.nodup_cons.mp h
    show (a :: (r ++ [k])).Nodup
    refine List.nodup_cons.mpr ⟨fun m => ?_, nd_snoc h2 fun m => hk (List.mem_cons.mpr (Or.inr m))⟩
    rcases List.mem_append.mp m with q | q
    · exact h1 q
    · exact hk (List.mem_cons.mpr (Or.inl (List.mem_singleton.mp q).symm))
end
end L2
namespace L2
open PySem PySem.Spec PyProof.Rows
abbrev ts (x : Str) : List Nat := x.cps.toList
abbrev tx (l : List Nat) : Str := ⟨l.toArray⟩
theorem ts_tx (l : List Nat) : ts (tx l) = l := rfl
theorem tx_ts (x : Str) : tx (ts x) = x := by cases x; simp [tx, ts]
theorem ts_len (x : Str) : x.length = (ts x).length := by simp [Str.length, ts]
theorem tx_len (l : List Nat) : (tx l).length = l.length := by simp [Str.length, tx]
theorem str_ext {x y : Str} (h : ts x = ts y) : x = y := by rw [← tx_ts x, ← tx_ts y, h]
theorem app_tx (a b : List Nat) : tx a ++ tx b = tx (a ++ b) := by
  apply str_ext
  show (a.toArray ++ b.toArray).toList = a ++ b
  simp
theorem foldl_app (xs : Array Nat) : ∀ (k : Nat) (acc : Array Nat), ((List.replicate k xs).foldl (· ++ ·) acc).toList = acc.toList ++ (List.replicate k xs.toList).flatten
  | 0, acc => by simp
  | k + 1, acc => by
    rw [List.replicate_succ, List.foldl_cons, foldl_app xs k (acc ++ xs)]
    simp [List.replicate_succ]
theorem mul_tx (x : Str) (n : Int) : Txt.mul x n = tx (List.replicate n.toNat (ts x)).flatten := by
  apply str_ext
  rw [ts_tx]
  unfold Txt.mul
  by_cases h1 : n < 1
  · rw [if_pos h1]
    have e : n.toNat = 0 := by omega
    rw [e]; rfl
  · rw [if_neg h1]
    by_cases h2 : (n == 1 || x.length == 0) = true
    · rw [if_pos h2]
      rcases (Bool.or_eq_true _ _).mp h2 with h3 | h3
      · have e : n = 1 := by simpa using h3
        subst e; simp
      · have e : x.length = 0 := by simpa using h3
        rw [ts_len] at e
        have e2 : ts x = [] := List.eq_nil_of_length_eq_zero e
        show ts x = _
        rw [e2]; simp
    · rw [if_neg h2]
      show ((List.replicate n.toNat x.cps).foldl (· ++ ·) #[]).toList = _
      rw [foldl_app]; simp
section
variable {X : Cx}
def rMulS : R2 := fun x y H Q => ∃ z n, x = .str z ∧ y = .int n ∧ z.length ≤ 1000 ∧ -1000 ≤ n ∧ n ≤ 1000 ∧ Q (.str (tx (List.replicate n.toNat (ts z)).flatten)) H
theorem op_mul_str : OpR X (binaryOp .Mult) rMulS := by
  intro pins s σ H x y v u Q I rx ry h
  obtain ⟨z, n, rfl, rfl, hz, h0, h1, q⟩ := h
  obtain ⟨t, rfl⟩ := rx
  obtain ⟨t', rfl⟩ := ry
  refine SB.mul ⟨by rw [decide_eq_false (by omega), decide_eq_false (by omega)]; rfl, fun a _ b => ?_, fun a _ => ?_⟩ fun t' k => ⟨.str (Txt.mul z n), H, I.tok _, ⟨_, rfl⟩, by rw [mul_tx]; exact q⟩
  · have h2 : (9223372036854775 : Int) ≤ (2 ^ 63 - 1 : Int) / n := Int.le_ediv_of_mul_le (by omega) (by omega)
    omega
  · unfold PySem.Builtin.Str.tooLong
    have e : z.length * n.toNat ≤ 1000 * 1000 := Nat.mul_le_mul hz (by omega)
    exact decide_eq_false (by rw [sizeLine_eq]; omega)
theorem strsAre_of {ys : List Str} : ∀ {us : List Value}, Vals (ys.map V.str) us → StrsAre us ys := by
  induction ys with
  | nil => intro us r; rw [List.map_nil] at r; cases r; exact .nil
  | cons n ns ih =>
    intro us r
    rw [List.map_cons] at r
    cases r with
    | cons r1 r2 =>
      obtain ⟨t, e⟩ := r1
      subst e
      exact .cons n t (ih r2)
theorem glue_foldl (g : Str) : ∀ (ps : List Str) (acc : Array Nat), (ps.foldl (fun a p => a ++ g.cps ++ p.cps) acc).toList = acc.toList ++ (ps.map fun p => ts g ++ ts p).flatten
  | [], acc => by simp
  | p :: ps, acc => by
    rw [List.foldl_cons, glue_foldl g ps]
    simp
theorem join_nil (ys : List Str) : Txt.join (tx []) ys = tx (ys.map ts).flatten := by
  apply str_ext
  show ((ys.drop 1).foldl (fun acc p => acc ++ (tx []).cps ++ p.cps) (ys.headD Str.empty).cps).toList = _
  rw [glue_foldl]
  cases ys with
  | nil => rfl
  | cons y r =>
    show ts y ++ (List.map (fun p => ts (tx []) ++ ts p) r).flatten = ts y ++ (List.map ts r).flatten
    simp only [ts_tx, List.nil_append]
def rJoin (K : PySem.W.Frag) : V → List V → Hp → VK → Prop := fun x vs H Q => ∃ (p : Addr) (ys : List Str), x = .str (tx []) ∧ vs = [.ref p] ∧ SqL K H p (ys.map V.str) ∧ ((ys.map ts).flatten).length ≤ 100000 ∧ Q (.str (tx (ys.map ts).flatten)) H
theorem sum_len (ys : List Str) : (ys.map (·.length)).sum = ((ys.map ts).flatten).length := by
  induction ys with
  | nil => rfl
  | cons y r ih => rw [List.map_cons, List.sum_cons, ih, List.map_cons, List.flatten_cons, List.length_append, ts_len]
theorem mt_join : MtR X "str.join" (rJoin X.K) := by
  intro pins s σ H x vs v us Q I rx rv h
  obtain ⟨p, ys, rfl, rfl, hq, hz, q⟩ := h
  obtain ⟨t, rfl⟩ := rx
  obtain ⟨u, rfl, ru⟩ := rv.one
  cases ru
  obtain ⟨its, r, pl, _⟩ := I.list hq
  refine join_list (ys := ys) pl.isList (by simpa using strsAre_of r) ?_ fun t' k => ⟨.str (Txt.join (tx []) ys), H, I.tok _, ⟨_, rfl⟩, by rw [join_nil]; exact q⟩
  rw [sum_len, show (tx []).length = 0 from rfl, Nat.mul_zero]
  omega
theorem idx_clip (a b n : Nat) : PySem.Builtin.Str.strSliceIndices (some (a : Int)) (some (b : Int)) 1 n = PySem.Builtin.Str.strSliceIndices (some ((min a n : Nat) : Int)) (some ((min b n : Nat) : Int)) 1 n := by
  have h1 : ¬ ((a : Int) < 0) := by omega
  have h2 : ¬ ((b : Int) < 0) := by omega
  have h3 : ¬ (((min a n : Nat) : Int) < 0) := by omega
  have h4 : ¬ (((min b n : Nat) : Int) < 0) := by omega
  have e1 : max (0 : Int) (min (a : Int) (n : Int)) = max (0 : Int) (min ((min a n : Nat) : Int) (n : Int)) := by omega
  have e2 : max (0 : Int) (min (b : Int) (n : Int)) = max (0 : Int) (min ((min b n : Nat) : Int) (n : Int)) := by omega
  unfold PySem.Builtin.Str.strSliceIndices
  simp only [h1, h2, h3, h4, if_false, show ((1 : Int) > 0) = True from by simp, if_true]
  rw [e1, e2]
theorem idx_none {a b n : Nat} (h : b < a) (hb : a ≤ n) : PySem.Builtin.Str.strSliceIndices (some (a : Int)) (some (b : Int)) 1 n = [] := by
  have h1 : ¬ ((a : Int) < 0) := by omega
  have h2 : ¬ ((b : Int) < 0) := by omega
  have e1 : max (0 : Int) (min (a : Int) (n : Int)) = a := by omega
  have e2 : max (0 : Int) (min (b : Int) (n : Int)) = b := by omega
  have h3 : ¬ ((a : Int) < (b : Int)) := by omega
  simp only [PySem.Builtin.Str.strSliceIndices, PySem.sliceRange, h1, h2, if_false, e1, e2, show ((1 : Int) > 0) = True from by simp, if_true, h3]
  rfl
theorem cut_min {α : Type} (l : List α) (a b : Nat) : (l.drop (min a l.length)).take (min b l.length - min a l.length) = (l.take b).drop a := by
  rw [List.drop_take]
  by_cases ha : a ≤ l.length
  · rw [Nat.min_eq_left ha]
    by_cases hb : b ≤ l.length
    · rw [Nat.min_eq_left hb]
    · rw [Nat.min_eq_right (by omega), List.take_of_length_le (by rw [List.length_drop]; omega), List.take_of_length_le (by rw [List.length_drop]; omega)]
  · have e1 : min a l.length = l.length := Nat.min_eq_right (by omega)
    rw [e1, List.drop_eq_nil_of_le (Nat.le_refl _), List.drop_eq_nil_of_le (as := l) (i := a) (by omega), List.take_nil, List.take_nil]
theorem slice_nat (x : Str) (a b : Nat) : Txt.slice x (some (a : Int)) (some (b : Int)) = tx (((ts x).take b).drop a) := by
  have hl : x.length = (ts x).length := ts_len x
  by_cases h : min a x.length ≤ min b x.length
  · have e := StrLaws.sliceText_nat x h (Nat.min_le_right _ _)
    have e2 : Txt.slice x (some (a : Int)) (some (b : Int)) = StrLaws.sliceText x (some ((min a x.length : Nat) : Int)) (some ((min b x.length : Nat) : Int)) := by
      unfold Txt.slice StrLaws.sliceText
      rw [idx_clip a b]
    rw [e2, e, hl, cut_min]
  · have h1 : min b x.length = b := by omega
    have h2 : b < a := by omega
    have e : PySem.Builtin.Str.strSliceIndices (some (a : Int)) (some (b : Int)) 1 x.length = [] := by
      rw [idx_clip a b, h1]
      exact idx_none (by omega) (Nat.min_le_right _ _)
    unfold Txt.slice
    rw [e, if_neg (by simp; omega)]
    apply str_ext
    rw [ts_tx, List.drop_eq_nil_of_le (by rw [List.length_take]; omega)]
    rfl
theorem slice_to (x : Str) (j : Nat) : Txt.slice x none (some (j : Int)) = tx ((ts x).take j) := by
  have e : Txt.slice x none (some (j : Int)) = Txt.slice x (some ((0 : Nat) : Int)) (some (j : Int)) := by
    unfold Txt.slice
    rw [StrLaws.sliceIdx_none_lo]; rfl
  rw [e, slice_nat, List.drop_zero]
def rSlS : V → Option Int → Option Int → Hp → VK → Prop := fun x lo hi H Q => ∃ z, x = .str z ∧ z.length ≤ sizeLine ∧ Q (.str (Txt.slice z lo hi)) H
theorem sl_str : SlR X rSlS := by
  intro pins s σ H x v vl vu lo hi sl Q I rx hs pl pu h
  obtain ⟨z, rfl, hz, q⟩ := h
  obtain ⟨t, rfl⟩ := rx
  refine ⟨"str", _, F.slot_str_getitem.lookup, typeIs_str _ _ _, ?_⟩
  have fin : ∀ t' k, EP X pins σ Q (.str (Txt.slice z lo hi) t') { s with toks := k } := fun t' k => ⟨.str (Txt.slice z lo hi), H, I.tok _, ⟨_, rfl⟩, q⟩
  obtain ⟨o, ho, hc, hd⟩ := hs
  cases pl with
  | none =>
    cases pu with
    | none => exact wpAny_getItem_str_slice (l := none) (u := none) (st := none) ⟨o, ho, hc, hd⟩ rfl (post_val_or_str ⟨Nat.le_trans (Txt.slice_le z _ _) hz, fin⟩)
    | int j uj => exact wpAny_getItem_str_slice (l := none) (u := some (j, uj)) (st := none) ⟨o, ho, hc, hd⟩ rfl (post_val_or_str ⟨Nat.le_trans (Txt.slice_le z _ _) hz, fin⟩)
  | int i ui =>
    cases pu with
    | none => exact wpAny_getItem_str_slice (l := some (i, ui)) (u := none) (st := none) ⟨o, ho, hc, hd⟩ rfl (post_val_or_str ⟨Nat.le_trans (Txt.slice_le z _ _) hz, fin⟩)
    | int j uj => exact wpAny_getItem_str_slice (l := some (i, ui)) (u := some (j, uj)) (st := none) ⟨o, ho, hc, hd⟩ rfl (post_val_or_str ⟨Nat.le_trans (Txt.slice_le z _ _) hz, fin⟩)
def rInC (neg : Bool) : R2 := fun x y H Q => ∃ c j, x = .str (tx [c]) ∧ y = .str j ∧ Q (.bl (if neg then !decide (c ∈ ts j) else decide (c ∈ ts j))) H
theorem op_in_c : OpR X (compareOp .In) (rInC false) := by
  intro pins s σ H x y v u Q I rx ry h
  obtain ⟨c, j, rfl, rfl, q⟩ := h
  refine op_in_str pins s σ H _ _ v u Q I rx ry ⟨_, _, rfl, rfl, ?_⟩
  have e := StrLaws.found_one j c
  rw [show (tx [c] : Str) = ⟨#[c]⟩ from rfl, e]
  exact q
def Its (x : Str) : It := ⟨fun i _ => i < (ts x).length, fun i H y H' => H' = H ∧ ∃ c, (ts x)[i]? = some c ∧ y = .str (tx [c]), fun i _ => (ts x).length ≤ i⟩
theorem turn_str {P : Program} {w : World} {K : PySem.W.Frag} {tg : Expr} (x : Str) (t : Tok) (it : Addr) (ty : String) (hty : ty = "str_ascii_iterator" ∨ ty = "str_iterator") : Turn P w K tg (Its x) [it] it (fun i h => h.IsStrIter it ty x t i) where
  mem := by simp
  obj := fun i h st b hb => by
    have e : b = it := by simpa using hb
    subst e
    obtain ⟨o, e, c, d⟩ := st
    exact ⟨o, e, fun v z => by rw [d] at z; cases z⟩
  keep := fun i h h' st k => by
    obtain ⟨o, e, c, d⟩ := st
    exact ⟨o, k it (by simp) o e, c, d⟩
  item := by
    intro X hP hw hK hc i pins s σ H E I hf st hg
    subst hP hw hK
    obtain ⟨f0, f1, f2, f3, f4, f5⟩ := hf it (by simp)
    have hi : i < (ts x).length := hg
    have hx : x.cps[i]? = some (ts x)[i] := by
      rw [← Array.getElem?_toList]; simp [hi]
    have fin : ∀ h', h'.IsStrIter it ty x t (i + 1) → Heap.SameBut it s.heap h' → ∃ u, some (Value.str ⟨#[(ts x)[i]]⟩ s.toks) = some u ∧
        wpAny (model X.prog X.w) X.A (letOwnedTupleGo tg (.ref it) u) (fun _ s2 => ∃ x' H', Inv X pins σ H' s2 ∧ RelV x' u ∧ (Its x).yld i H x' H' ∧ s2.heap.IsStrIter it ty x t (i + 1) ∧ ∀ b ∈ [it], H' b = none) E { s with heap := h', toks := s.toks + 1 } := fun h' st' sb => by
      have I1 : Inv X pins σ H { s with heap := h', toks := s.toks + 1 } := I.turned (t' := s.toks + 1) (fun b o hb e => (sb.2 b hb).trans e) f0 f1 f3 f4 f5
      obtain ⟨o, e, c, d⟩ := id st'
      refine ⟨_, rfl, go_of (s := { s with heap := h', toks := s.toks + 1 }) e c d ?_ ⟨.str (tx [(ts x)[i]]), H, I1, ⟨_, rfl⟩, ⟨rfl, _, by simp [hi], rfl⟩, st', fun b hb => (hf b hb).1⟩⟩
      rcases hty with z | z <;> (rw [z]; decide)
    rcases hty with z | z
    · subst z; exact wpAny_pyNext_ascii_item st hx fun h' st' sb => fin h' st' sb
    · subst z; exact wpAny_pyNext_wide_item st hx fun h' st' sb => fin h' st' sb
  done := by
    intro X hP hw hK hc i pins s σ H E I hf st hg
    subst hP hw hK
    obtain ⟨f0, f1, f2, f3, f4, f5⟩ := hf it (by simp)
    have hi : (ts x).length ≤ i := hg
    have hx : x.cps[i]? = none := by
      rw [← Array.getElem?_toList]; exact List.getElem?_eq_none hi
    rcases hty with z | z
    · subst z; exact wpAny_pyNext_ascii_end (I.ok.hd hc) st hx fun h' eb => ⟨rfl, I.turned (t' := s.toks) (fun b o hb e => eb b o hb e) f0 f1 f3 f4 f5⟩
    · subst z; exact wpAny_pyNext_wide_end (I.ok.hd hc) st hx fun h' eb => ⟨rfl, I.turned (t' := s.toks) (fun b o hb e => eb b o hb e) f0 f1 f3 f4 f5⟩
  self := fun _ _ _ _ _ st h => by
    rcases hty with z | z
    · subst z; exact wpAny_pyIter_striter_ascii st h
    · subst z; exact wpAny_pyIter_striter_wide st h
def iStr (tl : TE) : TI := fun σ H R => tl σ H fun x H1 => ∃ z, x = .str z ∧ R (Its z) H1
theorem pi_str {tg l : Expr} {tl : TE} (hl : PE X l tl) : PI X tg l (iStr tl) := by
  intro pins s σ H R I h
  refine thn (hl pins s σ H _ I h) fun v s1 ⟨x, H1, I1, r1, q1⟩ => ?_
  obtain ⟨z, rfl, q⟩ := q1
  obtain ⟨t, rfl⟩ := r1
  have fin : ∀ ty, (ty = "str_ascii_iterator" ∨ ty = "str_iterator") → PIE X pins σ tg R (.ref s1.heap.objs.size) { s1 with heap := s1.heap.push { cls := .type ty, data := .fields #[.str z t, .int 0 0] } } := fun ty hty => by
    refine ⟨s1.heap.objs.size, [s1.heap.objs.size], _, _, H1, rfl, I1.kept (t' := s1.toks) fun b o e => Heap.get?_push_of_some _ e, turn_str z t _ ty hty, ⟨_, Heap.get?_push_size _ rfl, rfl, rfl⟩, fun b hb => ?_, q⟩
    have e : b = s1.heap.objs.size := by simpa using hb
    subst e
    exact I1.fpOk (Nat.le_refl _) (I1.hok.fresh (Nat.le_refl _))
  cases ha : z.cps.all (· < 128) with
  | true => exact wpAny_pyIter_ascii ha (fin _ (.inl rfl))
  | false => exact wpAny_pyIter_wide ha (fin _ (.inr rfl))
theorem boolsAre_of {bs : List Bool} : ∀ {us : List Value}, Vals (bs.map V.bl) us → PyProof.Rows.LSm.BoolsAre us bs := by
  induction bs with
  | nil => intro us r; rw [List.map_nil] at r; cases r; exact .nil
  | cons n ns ih =>
    intro us r
    rw [List.map_cons] at r
    cases r with
    | cons r1 r2 =>
      cases (show _ = Value.bool n from r1)
      exact .cons n (ih r2)
theorem call_all (hc : X.calm = true) : CallR X (.builtin "all") (fun xs H Q => ∃ (p : Addr) (bs : List Bool), xs = [.ref p] ∧ SqL X.K H p (bs.map V.bl) ∧ Q (.bl (bs.all id)) H) := by
  intro pins s σ H xs us Q I r h
  obtain ⟨p, bs, rfl, hq, q⟩ := h
  obtain ⟨u, rfl, rx⟩ := vals1 r
  cases rx
  obtain ⟨its, rv, pl, hz⟩ := I.list hq
  have hl := pl.isList
  have hb := boolsAre_of rv
  have hlt : p < s.heap.objs.size := by obtain ⟨_, e, _⟩ := hl; exact Heap.lt_size e
  refine call_all_walk (wpAny_pyIter_list hl ?_)
  refine ⟨s.heap.objs.size, [s.heap.objs.size, p], [s.heap.objs.size], its.toArray.size, _, _, fun i => (bs[i]?).getD true, rfl, Walks.list (A := X.A.in1) (I.ok.hd hc) _ p (Nat.ne_of_lt hlt) its.toArray,
    ⟨⟨_, Heap.get?_push_size _ rfl, rfl, rfl⟩, hl.push _⟩, fun i v s' Q' E' hP hQ => ?_, fun h' tk hk => ?_⟩
  · obtain ⟨b, e, rfl⟩ := hb.get i v (by simpa using hP)
    simp only [e, Option.getD_some] at hQ
    exact wpAny_truthy_bool hQ
  · have e : ((List.range its.toArray.size).all fun i => (bs[i]?).getD true) = bs.all id := by
      rw [List.size_toArray, hb.length]; exact PyProof.Rows.LSm.range_all bs
    rw [e]
    exact ⟨.bl _, H, I.kept (PyProof.Rows.LSm.kept_iter hk), rfl, q⟩
def eqLs : List V → List V → Bool
  | [], [] => true
  | x :: xs, y :: ys => eqV x y && eqLs xs ys
  | _, _ => false
theorem eqLs_range : ∀ (xs ys : List V), xs.length = ys.length → (List.range xs.length).all (fun j => match xs[j]?, ys[j]? with | some a, some b => eqV a b | _, _ => true) = eqLs xs ys
  | [], [], _ => rfl
  | x :: xs, y :: ys, h => by
    have ih := eqLs_range xs ys (by simpa using h)
    rw [List.length_cons, List.range_succ_eq_map, List.all_cons, List.all_map]
    show (eqV x y && _) = (eqV x y && eqLs xs ys)
    rw [← ih]
    congr 1
theorem eqLs_len : ∀ {xs ys : List V}, xs.length ≠ ys.length → eqLs xs ys = false
  | [], [], h => absurd rfl h
  | [], _ :: _, _ => rfl
  | _ :: _, [], _ => rfl
  | x :: xs, y :: ys, h => by
    have ih := eqLs_len (xs := xs) (ys := ys) (by simpa using h)
    show (eqV x y && eqLs xs ys) = false
    rw [ih, Bool.and_false]
def rEqL (K : PySem.W.Frag) (neg : Bool) : R2 := fun x y H Q => ∃ a b xs ys, x = .ref a ∧ y = .ref b ∧ SqL K H a xs ∧ SqL K H b ys ∧ xs.all flatV = true ∧ ys.all flatV = true ∧ Q (.bl (if neg then !eqLs xs ys else eqLs xs ys)) H
theorem Vals.some_at {xs : List V} {us : List Value} (r : Vals xs us) {j : Nat} (h : j < us.length) : ∃ x, xs[j]? = some x ∧ RelV x us[j] := by
  have hl := r.length
  obtain ⟨x, e⟩ : ∃ x, xs[j]? = some x := ⟨xs[j], by simp [hl, h]⟩
  obtain ⟨u, hu, ru⟩ := r.get e
  have e2 : us[j]? = some us[j] := by simp [h]
  rw [e2] at hu
  cases hu
  exact ⟨x, e, ru⟩
theorem lists_he {A : Around} {s : Shared} {xs ys : List V} {us ws : List Value} (r : Vals xs us) (q : Vals ys ws) (fx : xs.all flatV = true) (fy : ys.all flatV = true) :
    ∀ j (h1 : j < us.toArray.size) (h2 : j < ws.toArray.size), SeqAt.EqAt A s us.toArray[j] ws.toArray[j] ((fun j => match xs[j]?, ys[j]? with | some a, some b => eqV a b | _, _ => true) j) := fun j h1 h2 => by
  obtain ⟨x, e1, r1⟩ := r.some_at (j := j) (by simpa using h1)
  obtain ⟨y, e2, r2⟩ := q.some_at (j := j) (by simpa using h2)
  have f1 : flatV x = true := List.all_eq_true.mp fx x (List.mem_of_getElem? e1)
  have f2 : flatV y = true := List.all_eq_true.mp fy y (List.mem_of_getElem? e2)
  have z := eqAt_V (A := A) (s := s) r1 r2 f1 f2
  simp only [e1, e2]
  simpa using z
theorem op_ne_l (hu : X.A.units < cLine) : OpR X (compareOp .NotEq) (rEqL X.K true) := by
  intro pins s σ H x y v u Q I rx ry h
  obtain ⟨a, b, xs, ys, rfl, rfl, ha, hb, fx, fy, q⟩ := h
  cases rx
  cases ry
  obtain ⟨its, r1, pl1, _⟩ := I.list ha
  obtain ⟨its2, r2, pl2, _⟩ := I.list hb
  have l1 := r1.length
  have l2 := r2.length
  by_cases e : xs.length = ys.length
  · refine SeqAt.RcNeAt.lists pl1.isList pl2.isList (by simp only [List.size_toArray]; omega) hu (lists_he r1 r2 fx fy) X.prog X.w X.xe _ ⟨.bl _, H, I, rfl, ?_⟩
    rw [List.size_toArray, ← l1, eqLs_range xs ys e]
    exact q
  · refine SeqAt.RcNeAt.lists_lengths pl1.isList pl2.isList (by simp only [List.size_toArray]; simpa [← l1, ← l2] using e) hu X.prog X.w X.xe _ ⟨.bl _, H, I, rfl, ?_⟩
    have z := eqLs_len e
    simpa [z] using q
def tyS (H : Hp) : V → Option String
  | .non => some "NoneType"
  | .bl _ => some "bool"
  | .int _ => some "int"
  | .str _ => some "str"
  | .ref a => match H a with
    | some (.lst _) => some "list"
    | some (.tup _) => some "tuple"
    | some (.dK _) => some "dict"
    | _ => none
  | _ => none
def isSub (t T : String) : Bool := t == T || (t == "bool" && T == "int")
theorem tyS_of {K : PySem.W.Frag} {H : Hp} {x : V} {t : String} (h : tyS H x = some t) : TyOf K H x (.type t) := by
  cases x with
  | non => cases h; exact .non
  | bl b => cases h; exact .bl b
  | int i => cases h; exact .int i
  | str z => cases h; exact .str z
  | ref a =>
    have h' : (match H a with | some (.lst _) => some "list" | some (.tup _) => some "tuple" | some (.dK _) => some "dict" | _ => none) = some t := h
    cases e : H a with
    | none => rw [e] at h'; cases h'
    | some o =>
      rw [e] at h'
      cases o with
      | lst xs => cases h'; exact .lst e
      | tup xs => cases h'; exact .tup e
      | dK kvs => cases h'; exact .dK e
      | _ => cases h'
  | byt b => cases h
  | flt b => cases h
  | ty n => cases h
def tyL : List String := ["NoneType", "bool", "int", "str", "list", "tuple", "dict"]
def kitB (t T : String) : Option Bool := if (Value.type t == Value.type T) = true then some true else if PySem.W.kitMeta T = true then (fastBuiltinMro t).map (·.contains (.type T)) else none
theorem kitB_ok : (tyL.all fun t => tyL.all fun T => kitB t T == some (isSub t T)) = true := by decide +kernel
theorem kit_bi {K : PySem.W.Frag} {t T : String} (h1 : t ∈ tyL) (h2 : T ∈ tyL) : PySem.W.kitOne K (.type t) (.type T) = some (isSub t T) := by
  have a := List.all_eq_true.mp (List.all_eq_true.mp kitB_ok t h1) T h2
  have b : kitB t T = some (isSub t T) := by simpa using a
  exact b
theorem tyS_mem {H : Hp} {x : V} {t : String} (h : tyS H x = some t) : t ∈ tyL := by
  cases x <;> first | (cases h; simp [tyL]; done) | (cases h; done) | skip
  rename_i a
  have h' : (match H a with | some (.lst _) => some "list" | some (.tup _) => some "tuple" | some (.dK _) => some "dict" | _ => none) = some t := h
  split at h' <;> first | (cases h'; simp [tyL]; done) | (cases h'; done)
theorem call_isi {T : String} (hT : T ∈ tyL) : CallR X (.builtin "isinstance") (fun xs H Q => ∃ x t, xs = [x, .ty T] ∧ tyS H x = some t ∧ Q (.bl (isSub t T)) H) := by
  intro pins s σ H xs us Q I r h
  obtain ⟨x, t, rfl, ht, q⟩ := h
  obtain ⟨u, w', rfl, ru, rw'⟩ := vals2 r
  cases (show w' = Value.type T from rw')
  exact isinst_ok I ru (tyS_of ht) (kit_bi (tyS_mem ht) hT) fun tk => ⟨.bl _, H, I.tok _, rfl, q⟩
end
theorem bt_len : bootBuiltins "len" = some (.builtin "len") := by decide +kernel
theorem bt_isinstance : bootBuiltins "isinstance" = some (.builtin "isinstance") := by decide +kernel
theorem bt_all : bootBuiltins "all" = some (.builtin "all") := by decide +kernel
theorem bt_abs : bootBuiltins "abs" = some (.builtin "abs") := by decide +kernel
theorem bt_ord : bootBuiltins "ord" = some (.builtin "ord") := by decide +kernel
theorem bt_max : bootBuiltins "max" = some (.builtin "max") := by decide +kernel
theorem bt_sorted : bootBuiltins "sorted" = some (.builtin "sorted") := by decide +kernel
theorem bt_int : bootBuiltins "int" = some (.type "int") := by decide +kernel
theorem bt_str : bootBuiltins "str" = some (.type "str") := by decide +kernel
theorem bt_bool : bootBuiltins "bool" = some (.type "bool") := by decide +kernel
theorem bt_list : bootBuiltins "list" = some (.type "list") := by decide +kernel
theorem bt_dict : bootBuiltins "dict" = some (.type "dict") := by decide +kernel
structure Bl (mg : Str → Option Value) : Prop where
  len : mg "len" = none
  range : mg "range" = none
  isinstance : mg "isinstance" = none
  all : mg "all" = none
  sum : mg "sum" = none
  int : mg "int" = none
  str : mg "str" = none
  bool : mg "bool" = none
  list : mg "list" = none
  dict : mg "dict" = none
  tuple : mg "tuple" = none
structure Dn (P : Program) (w : World) (K : PySem.W.Frag) (mg : Str → Option Value) (base : Heap) (k : Nat) (x : Str) (ps : List Str) (sp : Sp) : Prop where
  ex : ∃ (f : Addr) (fd : FuncData), FnOk P w K mg base CX0 k f fd ps sp ∧ Binds K fd ps [] ∧ PySem.W.keepIn K (.ref f) = true ∧ mg x = some (.ref f)
section
variable {X : Cx} {k j : Nat} {x : Str} {ps : List Str} {sp : Sp} {e : Expr} {es : List Expr} {t : TA} {p pos : Pos}
theorem pe_cd (D : Dn X.prog X.w X.K X.mg X.base k x ps sp) (hr : Room j X.A) (hj : k ≤ j) (hg : Gl X x) (ha : PA X (e :: es) t) (hdb : (x == ("__debug__" : Str)) = false := by decide)
    (he : starEach (e :: es) X.env = (false, eval e X.env) :: starEach es X.env := by rfl) (hpl : (backTo pos (starEach es X.env)).any (·.1) = false := by rfl) : PE X (.Call (.Name x p) (e :: es) [] pos) (tCall sp [] E0 t) := by
  obtain ⟨f, fd, h1, h2, h3, h4⟩ := D.ex
  exact pe_call h1 (hr.mono hj) hg h4 h3 h2 .nil pass0 ha hdb he hpl
theorem pe_cd0 (D : Dn X.prog X.w X.K X.mg X.base k x ps sp) (hr : Room j X.A) (hj : k ≤ j) (hg : Gl X x) (hdb : (x == ("__debug__" : Str)) = false := by decide) : PE X (.Call (.Name x p) [] [] pos) (tCall sp [] E0 tNil) := by
  obtain ⟨f, fd, h1, h2, h3, h4⟩ := D.ex
  exact pe_call0 h1 (hr.mono hj) hg h4 h3 h2 .nil pass0 hdb
end
end L2
namespace L2
open PySem PySem.Spec PyProof.Rows
theorem forIn_fold {α β : Type} {l : List α} {f : α → β → Sem (ForInStep β)} (g : β → α → β) (h : ∀ x ∈ l, ∀ c, f x c = pure (.yield (g c x))) : ∀ b : β, forIn l b f = pure (l.foldl g b) := by
  induction l with
  | nil => intro b; rfl
  | cons a r ih =>
    intro b
    rw [List.forIn_cons, h a List.mem_cons_self]
    show forIn r (g b a) f = _
    rw [ih (fun x hx => h x (List.mem_cons_of_mem _ hx)) (g b a)]
    rfl
def cloStep (env : Env) (cs : List (Str × Addr)) (x : Str × NameKind) : List (Str × Addr) :=
  if (x.2 == NameKind.free) = true then (match env.cells.lookup x.1 with | some a => (x.1, a) :: cs | none => cs) else cs
def clo (env : Env) (names : List (Str × NameKind)) : List (Str × Addr) := names.foldl (cloStep env) []
theorem closureFor_clo {scope : Scope} {env : Env} (h : ∀ x ∈ scope.names, x.2 = .free → ∃ c, env.cells.lookup x.1 = some c) : closureFor scope env = pure (clo env scope.names) := by
  simp only [closureFor]
  rw [forIn_fold (cloStep env) (fun x hx c => by
    obtain ⟨n, k⟩ := x
    by_cases hk : k = .free
    · subst hk
      obtain ⟨a, e⟩ := h _ hx rfl
      have e' : env.cells.lookup n = some a := e
      simp [cloStep, cellOf, e']
    · have e : (k == NameKind.free) = false := by simpa using hk
      simp [cloStep, e])]
  rfl
theorem clo_mem {env : Env} : ∀ (names : List (Str × NameKind)) (cs : List (Str × Addr)), (∀ p ∈ cs, env.cells.lookup p.1 = some p.2) → ∀ p ∈ names.foldl (cloStep env) cs, env.cells.lookup p.1 = some p.2
  | [], _, h => h
  | x :: r, cs, h => by
    refine clo_mem r (cloStep env cs x) fun p hp => ?_
    unfold cloStep at hp
    split at hp
    · split at hp
      · rename_i a e
        rcases List.mem_cons.mp hp with z | z
        · rw [z]; exact e
        · exact h p z
      · exact h p hp
    · exact h p hp
theorem clo_keep {env : Env} {p : Str × Addr} : ∀ (names : List (Str × NameKind)) (cs : List (Str × Addr)), p ∈ cs → p ∈ names.foldl (cloStep env) cs
  | [], _, h => h
  | x :: r, cs, h => by
    refine clo_keep r (cloStep env cs x) ?_
    unfold cloStep
    split
    · split
      · exact List.mem_cons_of_mem _ h
      · exact h
    · exact h
theorem clo_has {env : Env} {n : Str} {c : Addr} (e : env.cells.lookup n = some c) : ∀ (names : List (Str × NameKind)) (cs : List (Str × Addr)), (n, NameKind.free) ∈ names → (n, c) ∈ names.foldl (cloStep env) cs
  | [], _, h => nomatch h
  | x :: r, cs, h => by
    rcases List.mem_cons.mp h with z | z
    · subst z
      refine clo_keep r _ ?_
      unfold cloStep
      rw [if_pos (by rfl)]
      show (n, c) ∈ (match env.cells.lookup n with | some a => (n, a) :: cs | none => cs)
      rw [e]
      exact List.mem_cons_self
    · exact clo_has e r _ z
theorem lookup_some_of_mem {α : Type} {n : Str} {c : α} : ∀ {l : List (Str × α)}, (n, c) ∈ l → ∃ c', l.lookup n = some c'
  | [], h => nomatch h
  | (m, d) :: r, h => by
    by_cases e : n = m
    · subst e; exact ⟨d, by simp [List.lookup_cons]⟩
    · rcases List.mem_cons.mp h with z | z
      · cases z; exact absurd rfl e
      · obtain ⟨c', q⟩ := lookup_some_of_mem z
        have e2 : (n == m) = false := by simpa using e
        exact ⟨c', by rw [List.lookup_cons, e2]; exact q⟩
theorem clo_of {env : Env} {names : List (Str × NameKind)} {n : Str} {c : Addr} (h : (clo env names).lookup n = some c) : env.cells.lookup n = some c :=
  clo_mem names [] (fun _ z => nomatch z) (n, c) (PySem.mem_of_lookup h)
theorem clo_lookup {env : Env} {names : List (Str × NameKind)} {n : Str} {c : Addr} (e : env.cells.lookup n = some c) (h : (n, NameKind.free) ∈ names) : (clo env names).lookup n = some c := by
  obtain ⟨c', q⟩ := lookup_some_of_mem (clo_has e names [] h)
  have q' : (clo env names).lookup n = some c' := q
  have z := clo_of q'
  rw [e] at z
  rw [q', ← z]
inductive FreeOk (X : Cx) (scope : Scope) : List (Str × Nat) → Prop where
  | nil : FreeOk X scope []
  | cons {x : Str} {i : Nat} {r : List (Str × Nat)} (h1 : X.N[i]? = some x) (h2 : X.env.kindOf x = some .cell) (h3 : scope.names.lookup x = some .free) (h : FreeOk X scope r) : FreeOk X scope ((x, i) :: r)
theorem FreeOk.mem {X : Cx} {scope : Scope} : ∀ {F : List (Str × Nat)}, FreeOk X scope F → ∀ p ∈ F, X.N[p.2]? = some p.1 ∧ X.env.kindOf p.1 = some .cell ∧ scope.names.lookup p.1 = some .free
  | _, .nil, _, h => nomatch h
  | _, .cons h1 h2 h3 h, p, hp => by
    rcases List.mem_cons.mp hp with z | z
    · subst z; exact ⟨h1, h2, h3⟩
    · exact h.mem p z
structure CompSc (X : Cx) (scope : Scope) (own : List Str) (F : List (Str × Nat)) : Prop where
  kind : scope.kind = .function
  nocell : (scope.names.all fun y => !(y.2 == NameKind.cell)) = true
  loc : (scope.names.all fun y => !(y.2 == NameKind.local) || (scope.names.lookup y.1 == some NameKind.local)) = true
  fr : (scope.names.all fun y => !(y.2 == NameKind.free) || (X.env.scope.names.lookup y.1 == some NameKind.cell)) = true
  free : FreeOk X scope F
def compN (own : List Str) (F : List (Str × Nat)) : List Str := own ++ F.map (·.1)
def compσ (own : List Str) (F : List (Str × Nat)) (σ : St) : St := own.map (fun _ => Option.none) ++ F.map (fun p => (σ[p.2]?).join)
def compCx (X : Cx) (own : List Str) (F : List (Str × Nat)) (scope : Scope) (C : Addr) (s₃ : Shared) (H₃ : Hp) (ex : List Addr) : Cx where
  prog := X.prog
  w := X.w
  K := X.K
  mg := X.mg
  base := X.base
  A := X.A
  N := compN own F
  s₀ := s₃
  H₀ := H₃
  env := compEnvC scope (clo X.env scope.names) C X.env
  outer := X.stack
  stack := X.stack
  ex := ex
  fn := fun _ => false
  calm := X.calm
  pn := []
  xe := fun _ _ => False
theorem CompSc.nc {X : Cx} {scope : Scope} {own : List Str} {F : List (Str × Nat)} (S : CompSc X scope own F) : ∀ y ∈ scope.names, y.2 ≠ .cell := fun y hy e => by
  have q := List.all_eq_true.mp S.nocell y hy
  rw [e] at q
  exact absurd q (by decide)
theorem CompSc.lc {X : Cx} {scope : Scope} {own : List Str} {F : List (Str × Nat)} (S : CompSc X scope own F) : ∀ y ∈ scope.names, y.2 = .local → scope.names.lookup y.1 = some .local := fun y hy e => by
  have q := List.all_eq_true.mp S.loc y hy
  rw [e] at q
  simpa using q
theorem CompSc.fc {X : Cx} {scope : Scope} {own : List Str} {F : List (Str × Nat)} (S : CompSc X scope own F) : ∀ y ∈ scope.names, y.2 = .free → X.env.kindOf y.1 = some .cell := fun y hy e => by
  have q := List.all_eq_true.mp S.fr y hy
  rw [e] at q
  have q' : X.env.scope.names.lookup y.1 = some NameKind.cell := by simpa using q
  exact q'
theorem relabel_free {scope : Scope} {env : Env} (hc : ∀ y ∈ scope.names, y.2 ≠ .cell) {x : Str} (h : (relabel scope env).names.lookup x = some .cell ∨ (relabel scope env).names.lookup x = some .free) : (x, NameKind.free) ∈ scope.names := by
  have go : ∀ k, (relabel scope env).names.lookup x = some k → k = .cell ∨ k = .free → (x, NameKind.free) ∈ scope.names := fun k e hk => by
    have m := PySem.mem_of_lookup e
    unfold relabel at m
    obtain ⟨⟨n, k0⟩, hm, e2⟩ := List.mem_map.mp m
    by_cases hf : k0 = .free
    · subst hf
      dsimp only at e2
      split at e2 <;> (cases e2; exact hm)
    · have e3 : (k0 == NameKind.free) = false := by simpa using hf
      simp only [e3, Bool.false_and, Bool.false_eq_true, if_false] at e2
      cases e2
      rcases hk with z | z
      · exact absurd z (hc _ hm)
      · exact absurd z hf
  rcases h with h | h
  · exact go _ h (.inl rfl)
  · exact go _ h (.inr rfl)
theorem lookup_relabel_free {env : Env} (hf : env.scope.kind = .function) : ∀ {names : List (Str × NameKind)} {x : Str}, names.lookup x = some .free → env.kindOf x = some .cell →
    (names.map fun (n, k) => if (k == NameKind.free && env.scope.kind == .function && env.kindOf n == some .cell) then (n, NameKind.cell) else (n, k)).lookup x = some .cell
  | [], _, h, _ => by simp at h
  | (n, k) :: r, x, h, hx => by
    have ih := @lookup_relabel_free env hf r x
    rw [List.map_cons]
    by_cases e : x = n
    · subst e
      have hk : k = .free := by simpa [List.lookup_cons] using h
      subst hk
      have c : (NameKind.free == NameKind.free && env.scope.kind == .function && env.kindOf x == some .cell) = true := by rw [hf, hx]; rfl
      show List.lookup x ((if (NameKind.free == NameKind.free && env.scope.kind == .function && env.kindOf x == some .cell) = true then (x, NameKind.cell) else (x, NameKind.free)) :: _) = _
      rw [if_pos c]
      simp [List.lookup_cons]
    · have e2 : (x == n) = false := by simpa using e
      have h' : r.lookup x = some .free := by rw [List.lookup_cons, e2] at h; exact h
      have q := ih h' hx
      dsimp only
      split
      · rw [List.lookup_cons, e2]; exact q
      · rw [List.lookup_cons, e2]; exact q
section
variable {X : Cx} {pins : List (Addr × Obj)} {σ : St} {H : Hp} {s : Shared}
theorem Inv.freeCells {scope : Scope} {own : List Str} {F : List (Str × Nat)} (I : Inv X pins σ H s) (S : CompSc X scope own F) : ∀ x ∈ scope.names, x.2 = .free → ∃ c, X.env.cells.lookup x.1 = some c := fun x hx e =>
  I.ok.has x.1 (.inl (S.fc x hx e))
theorem Inv.notStk (I : Inv X pins σ H s) {b : Addr} (h1 : b ≠ X.env.locals) (h2 : b ∉ X.fs) : b ∉ frs X.stack := fun z => (List.mem_cons.mp (I.stkSub b z)).elim h1 h2
theorem comp_start {scope : Scope} {own : List Str} {F : List (Str × Nat)} {fp : List Addr} {h1 : Heap} {tk : Nat} (I : Inv X pins σ H s) (S : CompSc X scope own F) (hf : ∀ b ∈ fp, FpOk X pins H b) (hlt : ∀ b ∈ fp, b < s.heap.objs.size) {s3 : Shared}
    (e3 : s3 = { s with heap := s.heap.push { cls := .type "list", data := .seq ([] : List Value).toArray } })
    (hns : h1.Ns s3.heap.objs.size (fun _ => none)) (hk : ∀ b o, s3.heap.get? b = some o → h1.get? b = some o) :
    Inv (compCx X own F scope s3.heap.objs.size s3 H (s.heap.objs.size :: fp)) [] (compσ own F σ) H { s3 with heap := h1, toks := tk } := by
  have sz3 : s3.heap.objs.size = s.heap.objs.size + 1 := by rw [e3]; exact Heap.size_push ..
  have k3 : ∀ b o, s.heap.get? b = some o → s3.heap.get? b = some o := fun b o e => by rw [e3]; exact Heap.get?_push_of_some _ e
  have I3 : Inv X pins σ H s3 := by rw [e3]; exact I.kept (t' := s.toks) fun b o e => Heap.get?_push_of_some _ e
  have lkup : ∀ x c, (clo X.env scope.names).lookup x = some c → X.env.cells.lookup x = some c := fun x c e => clo_of e
  have base_lt : ∀ b o, X.base.get? b = some o → b < X.s₀.heap.objs.size := fun b o e => Nat.lt_of_lt_of_le (Heap.lt_size e) I.ok.bsz
  have kf : X.env.scope.kind = .function := I.ok.kind
  refine ⟨⟨I.ok.mod, S.kind, I.ok.glob, I.ok.blt, Nat.le_refl _, fun x y c h1 h2 => I.ok.inj x y c (lkup x c h1) (lkup y c h2), fun x hx => ?_, fun x c hx _ => (nomatch hx), I.ok.hd, I.ok.frames, .inl rfl, fun b hb => ?_, fun b o e => ?_, ?_, fun b o e hb => ?_, fun b hb => ?_, I3.stack, fun b hb => I.stkFree b hb⟩,
    rfl, I3.bare, Un.kept hk, ⟨_, hns, fun i x v e1 e2 e3' => ?_⟩, fun x c e => ?_, ?_, fun x c e => I.freeC x c (lkup x c e), fun p hp => absurd (show p ∈ ([] : List (Addr × Obj)) from hp) (by simp), I3.hok.kept hk, ?_⟩
  · have hm := relabel_free S.nc hx
    obtain ⟨c, e⟩ := I.freeCells S _ hm rfl
    exact ⟨c, clo_lookup e hm⟩
  · rcases List.mem_cons.mp hb with z | z
    · subst z
      refine ⟨fun q => ?_, fun x c e q => ?_⟩
      · have q' : s.heap.objs.size = s3.heap.objs.size := q
        omega
      · obtain ⟨v, u⟩ := I.cell x c (lkup x c e)
        exact absurd u.lt (by rw [q]; exact Nat.lt_irrefl _)
    · refine ⟨fun q => ?_, fun x c e => (hf b z).2.2.2.2.1 x c (lkup x c e)⟩
      exact Nat.ne_of_lt (Nat.lt_of_lt_of_le (hlt b z) (show s.heap.objs.size ≤ s3.heap.objs.size by omega)) q
  · obtain ⟨a1, a2⟩ := I.bs b o e
    exact ⟨k3 b o a1, a2⟩
  · exact Nat.le_trans (Nat.le_trans I.ok.bsz I.sz) (by show s.heap.objs.size ≤ s3.heap.objs.size; omega)
  · have l1 := base_lt b o e
    rcases List.mem_cons.mp hb with z | z
    · exact absurd (Nat.lt_of_lt_of_le l1 I.sz) (by rw [z]; exact Nat.lt_irrefl _)
    · rcases (hf b z).2.2.2.1 with q | q
      · exact I.ok.noex b o e q
      · exact absurd l1 (Nat.not_lt.mpr q)
  · rcases List.mem_cons.mp hb with z | z
    · subst z
      exact I.notStk (Nat.ne_of_gt I.lt) (I.nofs (Nat.le_refl _))
    · exact I.notStk (hf b z).2.1 (hf b z).2.2.1
  · -- a name that is seen
    have hi : own.length ≤ i := by
      by_cases z : i < own.length
      · rw [compσ, List.getElem?_append_left (by simpa using z), List.getElem?_map] at e2
        cases q : own[i]? with
        | none => rw [q] at e2; cases e2
        | some y => rw [q] at e2; cases e2
      · omega
    rw [compσ, List.getElem?_append_right (by simpa using hi), List.getElem?_map] at e2
    have e1' : (own ++ F.map (·.1))[i]? = some x := e1
    rw [List.getElem?_append_right hi, List.getElem?_map] at e1'
    simp only [List.length_map] at e2
    cases q : F[i - own.length]? with
    | none => rw [q] at e2; cases e2
    | some p =>
      rw [q] at e1' e2
      simp only [Option.map_some, Option.some.injEq] at e1' e2
      obtain ⟨f1, f2, f3⟩ := S.free.mem p (List.mem_of_getElem? q)
      subst e1'
      obtain ⟨m, hn, hl⟩ := I.loc
      have e4 : σ[p.2]? = some (some v) := by
        cases r : σ[p.2]? with
        | none => rw [r] at e2; cases e2
        | some o => rw [r] at e2; exact congrArg some e2
      obtain ⟨u, ru, l⟩ := hl p.2 p.1 v f1 e4 (.inr (.inl f2))
      refine ⟨u, ru, .inr ⟨.inl (lookup_relabel_free kf f3 f2), ?_⟩⟩
      rcases l with ⟨l, _⟩ | ⟨_, c, ec, z⟩
      · rw [f2] at l; cases l
      · refine ⟨c, clo_lookup ec (PySem.mem_of_lookup f3), ?_⟩
        obtain ⟨oc, ho, hd⟩ := z
        exact ⟨oc, hk _ _ (k3 _ _ ho), hd⟩
  · obtain ⟨v, oc, ho, hd⟩ := I.cell x c (lkup x c e)
    exact ⟨v, oc, hk _ _ (k3 _ _ ho), hd⟩
  · exact I.hok.fresh (by show s.heap.objs.size ≤ s3.heap.objs.size; omega)
  · show (compσ own F σ).length = (compN own F).length
    simp [compσ, compN]
theorem comp_back {scope : Scope} {own : List Str} {F : List (Str × Nat)} {fp : List Addr} {s3 s4 : Shared} {σ' : St} {H' : Hp} {ys : List V} {its : List Value} {n : Nat} (I : Inv X pins σ H s) (hf : ∀ b ∈ fp, FpOk X pins H b)
    (e3 : s3 = { s with heap := s.heap.push { cls := .type "list", data := .seq ([] : List Value).toArray } })
    (J : Inv (compCx X own F scope s3.heap.objs.size s3 H (s.heap.objs.size :: fp)) [] σ' H' s4) (hz : ys.length ≤ sizeLine) (hv : Vals ys its)
    (ha : s4.heap.get? s.heap.objs.size = some { cls := .type "list", data := .seq its.toArray n }) (hn : H' s.heap.objs.size = none) : Inv X pins σ (upd H' s.heap.objs.size (.lst ys)) s4 := by
  have sz3 : s3.heap.objs.size = s.heap.objs.size + 1 := by rw [e3]; exact Heap.size_push ..
  have k3 : ∀ b o, s.heap.get? b = some o → s3.heap.get? b = some o := fun b o e => by rw [e3]; exact Heap.get?_push_of_some _ e
  have U : Un (frs X.stack) (s.heap.objs.size :: fp) H H' s3.heap s4.heap := J.base
  have ne : ∀ b o, s.heap.get? b = some o → b ≠ s.heap.objs.size := fun b o e => Nat.ne_of_lt (Heap.lt_size e)
  have nx : ∀ b o, s.heap.get? b = some o → b ∉ fp → b ∉ s.heap.objs.size :: fp := fun b o e h z => (List.mem_cons.mp z).elim (ne b o e) h
  have os4 : s4.os = s.os := by
    have q : s4.os = s3.os := J.os
    rw [q, e3]
  refine I.call' (ch := fp) os4 ⟨fun b o e z hb hx => U.keep b o (k3 b o e) z hb (nx b o e hx), fun b o e z hb hx => U.slot b o (k3 b o e) z hb (nx b o e hx), fun b o e z hx => ?_, fun b o e hx => U.there b o (k3 b o e) (nx b o e hx), fun b xs e => ?_, fun b o u e => ?_, fun b ps e => ?_⟩ (fun b u e => ?_) J.bare fun b hb => ?_
  · rw [upd_ne (ne b o e)]
    exact U.free b o (k3 b o e) z (nx b o e hx)
  · have q := U.tups b xs e
    rw [upd_ne (ne_of_none q hn)]; exact q
  · have q := U.frzs b o u e
    rw [upd_ne (ne_of_none q hn)]; exact q
  · obtain ⟨more, q⟩ := U.tbls b ps e
    exact ⟨more, by rw [upd_ne (ne_of_none q hn)]; exact q⟩
  · by_cases hb : b = s.heap.objs.size
    · subst hb
      rw [upd_same] at e
      cases e
      exact ⟨hz, its, n, hv, ha⟩
    · rw [upd_ne hb] at e
      exact (J.hok b u e).stay (fun _ _ _ q => q) (fun c q => by rw [upd_ne (ne_of_none q hn)]; exact q) fun c xs q => by rw [upd_ne (ne_of_none q hn)]; exact q
  · obtain ⟨_, f1, _, f3, f4, f5⟩ := hf b hb
    exact ⟨f3, f1, f4, f5⟩
theorem comp_letgo {H' : Hp} {s4 : Shared} {C : Addr} {h' : Heap} {σ4 : St} (I : Inv X pins σ H s) (hC : s.heap.objs.size ≤ C) (I4 : Inv X pins σ4 H' s4) (hn : H' C = none) (hs : Heap.SameBut C s4.heap h') : Inv X pins σ4 H' { s4 with heap := h' } := by
  have q := I4.turned (it := C) (t' := s4.toks) (h' := h') (fun b o hb e => (hs.2 b hb).trans e) hn (Nat.ne_of_gt (Nat.lt_of_lt_of_le I.lt hC)) (.inr (Nat.le_trans I.sz hC)) (fun x c e z => ?_) (fun p hp z => ?_)
  · exact q
  · obtain ⟨v, u⟩ := I.cell x c e
    exact absurd (Nat.lt_of_lt_of_le u.lt (by rw [z]; exact hC)) (Nat.lt_irrefl _)
  · exact absurd (Nat.lt_of_lt_of_le (Heap.lt_size (I.pin p hp).1) (by rw [z]; exact hC)) (Nat.lt_irrefl _)
end
def PTs (X : Cx) (ifs : List Expr) (t : TT) : Prop :=
  ∀ (pins : List (Addr × Obj)) (s : Shared) (σ : St) (H : Hp) (Q : Bool → Hp → Prop), Inv X pins σ H s → t σ H Q →
    wpAny (model X.prog X.w) X.A (forIn ifs true fun c r => if r = true then do let ok ← isTrue c X.env (eval c X.env); pure (ForInStep.yield ok) else pure (ForInStep.yield r)) (TP X pins σ Q) X.xe s
def tTrue : TT := fun _ H Q => Q true H
theorem pts_nil {X : Cx} : PTs X [] tTrue := fun _ _ _ H _ I h => wpAny_tests_nil ⟨H, I, h⟩
theorem compLoop_go {prog : Program} {w : World} {A : Around} {R : Result → Shared → Prop} {s : Shared} {elt target iter : Expr} {ifs : List Expr} {scope : Scope} {pos : Pos} {it acc : Value} {env : Env} (I : Nat → Shared → Prop)
    (turn : ∀ n s, I n s → wpAny (model prog w) A (pyNext it) (fun r s₁ => match r with
      | none => R (.ok .next) s₁
      | some v => wpAny (model prog w) A (letOwnedTupleGo target it v) (fun _ s₂ => wpAny (model prog w) A (assign target env v) (fun _ s₃ =>
          wpAny (model prog w) A (forIn ifs true fun c r => if r = true then do let ok ← isTrue c env (eval c env); pure (ForInStep.yield ok) else pure (ForInStep.yield r)) (fun ok s₄ =>
            if ok = true then wpAny (model prog w) A (eval elt env) (fun x s₅ =>
              wpAny (model prog w) A (call (.builtin "list.append") [acc, x]) (fun _ s₆ => ∃ m, m < n ∧ I m s₆) (fun _ _ => False) s₅) (fun _ _ => False) s₄
            else ∃ m, m < n ∧ I m s₄) (fun _ _ => False) s₃) (fun _ _ => False) s₂) (fun _ _ => False) s₁) (fun _ _ => False) s)
    (n : Nat) (h : I n s) : codeAny (model prog w) A (.compLoop (.ListComp elt [⟨target, iter, ifs, 0⟩] scope pos) 0 it acc env) R s := by
  refine codeAny_loop rfl I (fun n s hI => ?_) n h
  show wpAny _ A ((compTurn (.ListComp elt [⟨target, iter, ifs, 0⟩] scope pos) 0 it acc env).onRaise (fun x => do noteFrame x env; theTreesLotGoes x)) _ _ s
  refine wpAny_noted ?_
  rw [compTurn_list]
  refine wpAny_bind (wpAny_standAt (wpAny_bind (wpAny_mono (turn n s hI) (fun r s₁ h₁ => ?_) fun _ _ f => f.elim)))
  cases r with
  | none => exact wpAny_pure h₁
  | some v =>
    refine wpAny_bind (wpAny_mono h₁ (fun _ s₂ h₂ => wpAny_bind (wpAny_mono h₂ (fun _ s₃ h₃ => wpAny_bind (wpAny_mono h₃ (fun ok s₄ h₄ => ?_) fun _ _ f => f.elim)) fun _ _ f => f.elim)) fun _ _ f => f.elim)
    cases ok with
    | false => exact wpAny_pure ⟨rfl, h₄⟩
    | true => exact wpAny_bind (wpAny_bind (wpAny_mono h₄ (fun x s₅ h₅ => wpAny_bind (wpAny_mono h₅ (fun _ s₆ h₆ => wpAny_pure (wpAny_pure ⟨rfl, h₆⟩)) fun _ _ f => f.elim)) fun _ _ f => f.elim))
def Weak (σ σ' : St) : Prop := σ'.length = σ.length ∧ ∀ (i : Nat) v, σ'[i]? = some (some v) → σ[i]? = some (some v)
theorem weak_set {σ : St} {i : Nat} {v : Option V} (h : σ[i]? = some none) : Weak (σ.set i v) σ := by
  refine ⟨by simp, fun j u e => ?_⟩
  by_cases hj : i = j
  · subst hj; rw [h] at e; cases e
  · rw [List.getElem?_set_ne hj]; exact e
def CompBody (own : List Str) (F : List (Str × Nat)) (g : TG) (tt : TT) (te : TE) (σ : St) (Q : VK) (J : It) (H1 : Hp) : Prop := ∃ W : Nat → Nat → List V → Hp → Prop, (∃ m, W 0 m [] H1) ∧ ∀ i m ys H', W i m ys H' → ys.length ≤ i →
  (J.stop i H' ∧ i ≤ sizeLine ∧ ∀ p, H' p = none → Q (.ref p) (upd H' p (.lst ys))) ∨
  (J.go i H' ∧ i < sizeLine ∧ ∃ N : List V → Hp → Prop, (∀ ys' H'', N ys' H'' → ∃ m', m' < m ∧ W (i + 1) m' ys' H'') ∧
    ∀ x H2, J.yld i H' x H2 → g x (compσ own F σ) H2 fun σ3 H3 => Weak σ3 (compσ own F σ) ∧ tt σ3 H3 fun b H4 => if b = true then te σ3 H4 fun y H5 => N (ys ++ [y]) H5 else N ys H4)
def tComp (own : List Str) (F : List (Str × Nat)) (wi : TI) (g : TG) (tt : TT) (te : TE) : TE := fun σ H Q => wi σ H fun J H1 => CompBody own F g tt te σ Q J H1
section
variable {X : Cx} {scope : Scope} {own : List Str} {F : List (Str × Nat)} {elt tg iter : Expr} {ifs : List Expr} {pos : Pos} {wi : TI} {g : TG} {tt : TT} {te : TE}
abbrev pushed (s : Shared) : Shared := { s with heap := s.heap.push { cls := .type "list", data := .seq ([] : List Value).toArray } }
theorem comp_run {pins : List (Addr × Obj)} {σ : St} {H : Hp} {s : Shared} {Q : VK} {RR : Addr → Result → Shared → Prop} {it : Addr} {fp : List Addr} {tn : Nat → Heap → Prop} {J : It} (S : CompSc X scope own F) (hc : X.calm = true)
    (hg : ∀ C s₃ H₃ ex, PG (compCx X own F scope C s₃ H₃ ex) tg g) (ht : ∀ C s₃ H₃ ex, PTs (compCx X own F scope C s₃ H₃ ex) ifs tt) (he : ∀ C s₃ H₃ ex, PE (compCx X own F scope C s₃ H₃ ex) elt te)
    (I : Inv X pins σ H s) (T : Turn X.prog X.w X.K tg J fp it tn) (st : tn 0 s.heap) (hf : ∀ b ∈ fp, FpOk X pins H b)
    (h : CompBody own F g tt te σ Q J H)
    (hR : ∀ C s4 H4, s.heap.objs.size ≤ C → C ≠ s.heap.objs.size → Inv X pins σ H4 s4 → Q (.ref s.heap.objs.size) H4 → H4 C = none → (∃ m, s4.heap.Ns C m) → RR C (.ok .next) s4) :
    wpAny (model X.prog X.w) X.A (newList []) (fun acc s₃ => wpAny (model X.prog X.w) X.A (newFunctionEnv scope X.env.globals (clo X.env scope.names) [] X.env.qual none .none (some X.env)) (fun cenv s₄ =>
      codeAny (model X.prog X.w) X.A (.compStart (.ListComp elt [⟨tg, iter, ifs, 0⟩] scope pos) 0 (.ref it) acc { cenv with scope := relabel scope X.env }) (fun r s' => acc = .ref s.heap.objs.size ∧ RR cenv.locals r s') s₄) X.xe s₃) X.xe s := by
  obtain ⟨W, ⟨m0, w0⟩, turn⟩ := h
  have hlt : ∀ b ∈ fp, b < s.heap.objs.size := fun b hb => by
    obtain ⟨o, e, _⟩ := T.obj _ _ st b hb
    exact Heap.lt_size e
  refine wpAny_newObj_type (wpAny_newFunctionEnv S.nc (by intro y hy; simp at hy) (fun h₁ hns₁ hsb₁ => ?_) S.kind)
  dsimp only at hns₁ hsb₁ ⊢
  have e3' : pushed s = { s with heap := s.heap.push { cls := .type "list", data := .seq ([] : List Value).toArray } } := rfl
  have sz3 : (pushed s).heap.objs.size = s.heap.objs.size + 1 := Heap.size_push ..
  have k3 : ∀ b o, (pushed s).heap.get? b = some o → h₁.get? b = some o := fun b o e => hsb₁.extBut b o (Nat.ne_of_lt (Heap.lt_size e)) (Heap.get?_push_of_some _ e)
  have k2 : ∀ b o, s.heap.get? b = some o → (pushed s).heap.get? b = some o := fun b o e => Heap.get?_push_of_some _ e
  have hns : h₁.Ns (pushed s).heap.objs.size (fun _ => none) := by simpa using hns₁
  have I0 : Inv (compCx X own F scope (pushed s).heap.objs.size (pushed s) H (s.heap.objs.size :: fp)) [] (compσ own F σ) H { pushed s with heap := h₁, toks := (pushed s).toks + ([] : List (Str × Value)).length } := comp_start I S hf hlt e3' hns k3
  have acc0 : h₁.get? s.heap.objs.size = some { cls := .type "list", data := .seq ([] : List Value).toArray 0 } := k3 _ _ (Heap.get?_push_size _ rfl)
  have ht0 : tn 0 h₁ := T.keep _ _ _ st fun b _ o e => k3 b o (k2 b o e)
  have loop : codeAny (model X.prog X.w) X.A (.compLoop (.ListComp elt [⟨tg, iter, ifs, 0⟩] scope pos) 0 (.ref it) (.ref s.heap.objs.size) (compEnvC scope (clo X.env scope.names) (pushed s).heap.objs.size X.env)) (RR (pushed s).heap.objs.size) { pushed s with heap := h₁, toks := (pushed s).toks + ([] : List (Str × Value)).length } := by
    refine compLoop_go (fun n s' => ∃ i ys H' its k, Inv (compCx X own F scope (pushed s).heap.objs.size (pushed s) H (s.heap.objs.size :: fp)) [] (compσ own F σ) H' s' ∧ tn i s'.heap ∧ (∀ b ∈ fp, H' b = none) ∧ H' s.heap.objs.size = none ∧
      Vals ys its ∧ s'.heap.get? s.heap.objs.size = some { cls := .type "list", data := .seq its.toArray k } ∧ ys.length ≤ i ∧ W i n ys H') ?_ m0 ⟨0, [], H, [], 0, I0, ht0, fun b hb => (hf b hb).1, I.hok.fresh (Nat.le_refl _), .nil, acc0, Nat.le_refl _, w0⟩
    rintro n s5 ⟨i, ys, H5, its, k, I5, t5, fr5, ha5, v5, o5, l5, w5⟩
    have pn5 : Inv (compCx X own F scope (pushed s).heap.objs.size (pushed s) H (s.heap.objs.size :: fp)) [(s.heap.objs.size, { cls := .type "list", data := .seq its.toArray k })] (compσ own F σ) H5 s5 := I5.pins_of fun p hp => by
      have z : p = (s.heap.objs.size, { cls := .type "list", data := .seq its.toArray k }) := by simpa using hp
      subst z
      obtain ⟨x1, x2⟩ := I0.ok.exf s.heap.objs.size List.mem_cons_self
      exact ⟨o5, ha5, x1, I0.ok.exfs _ List.mem_cons_self, fun v z => by cases z⟩
    have fp5 : ∀ {H' : Hp}, (∀ b ∈ fp, H' b = none) → ∀ b ∈ fp, FpOk (compCx X own F scope (pushed s).heap.objs.size (pushed s) H (s.heap.objs.size :: fp)) [(s.heap.objs.size, { cls := .type "list", data := .seq its.toArray k })] H' b := fun {H'} hn b hb => by
      obtain ⟨x1, x2⟩ := I0.ok.exf b (List.mem_cons_of_mem _ hb)
      refine ⟨hn b hb, x1, I0.ok.exfs b (List.mem_cons_of_mem _ hb), .inl (List.mem_cons_of_mem _ hb), x2, fun p hp => ?_⟩
      have z : p = (s.heap.objs.size, { cls := .type "list", data := .seq its.toArray k }) := by
        have hp' : p ∈ ([] : List (Addr × Obj)) ++ [(s.heap.objs.size, { cls := .type "list", data := .seq its.toArray k })] := hp
        simpa using hp'
      subst z
      exact Nat.ne_of_gt (hlt b hb)
    rcases turn i n ys H5 w5 l5 with ⟨stop, hz, q⟩ | ⟨go, hz, N, hN, step⟩
    · refine thn (T.done (compCx X own F scope (pushed s).heap.objs.size (pushed s) H (s.heap.objs.size :: fp)) rfl rfl rfl hc i _ s5 _ H5 (fun _ _ => False) pn5 (fp5 fr5) t5 stop) fun r s6 ⟨hr, I6⟩ => ?_
      subst hr
      obtain ⟨a6, b6, _⟩ := I6.pin (s.heap.objs.size, { cls := .type "list", data := .seq its.toArray k }) (List.mem_append_right _ (List.mem_singleton.mpr rfl))
      have J6 := I6.pins_of (pins' := []) (fun p hp => nomatch hp)
      have I7 := comp_back I hf e3' J6 (Nat.le_trans l5 hz) v5 a6 b6
      have hC : H5 (pushed s).heap.objs.size = none := J6.free
      refine hR _ s6 _ (show s.heap.objs.size ≤ (pushed s).heap.objs.size by omega) (fun z => by have z' : (pushed s).heap.objs.size = s.heap.objs.size := z; omega) I7 (q _ b6) (by rw [upd_ne (fun z => by have z' : (pushed s).heap.objs.size = s.heap.objs.size := z; omega)]; exact hC) ?_
      obtain ⟨m, hn, _⟩ := J6.loc
      exact ⟨m, hn⟩
    · refine thn (T.item (compCx X own F scope (pushed s).heap.objs.size (pushed s) H (s.heap.objs.size :: fp)) rfl rfl rfl hc i _ s5 _ H5 (fun _ _ => False) pn5 (fp5 fr5) t5 go) fun r s6 ⟨u, hr, h6⟩ => ?_
      subst hr
      refine thn h6 fun _ s7 ⟨x, H7, I7, r7, y7, t7, fr7⟩ => ?_
      have J7 := I7.pinned (fp5 fr7) (T.obj _ _ t7)
      refine thn (hg _ _ _ _ _ s7 _ H7 x u _ J7 r7 (step x H7 y7)) fun _ s8 ⟨σ8, H8, I8, wk, q8⟩ => ?_
      refine thn (ht _ _ _ _ _ s8 σ8 H8 _ I8 q8) fun ok s9 ⟨H9, I9, q9⟩ => ?_
      have keep : ∀ {σ' : St} {H' : Hp} {s' : Shared}, Inv (compCx X own F scope (pushed s).heap.objs.size (pushed s) H (s.heap.objs.size :: fp)) ([(s.heap.objs.size, { cls := .type "list", data := .seq its.toArray k })] ++ pinsAt fp s7.heap) σ' H' s' →
          tn (i + 1) s'.heap ∧ (∀ b ∈ fp, H' b = none) ∧ H' s.heap.objs.size = none ∧ s'.heap.get? s.heap.objs.size = some { cls := .type "list", data := .seq its.toArray k } := fun {σ' H' s'} J => by
        have pa := J.pin (s.heap.objs.size, { cls := .type "list", data := .seq its.toArray k }) (List.mem_append_right _ (List.mem_append_left _ (List.mem_singleton.mpr rfl)))
        refine ⟨T.keep _ _ _ t7 fun b hb o e => (J.pin (b, o) (List.mem_append_right _ (List.mem_append_right _ (mem_pinsAt hb e)))).1, fun b hb => ?_, pa.2.1, pa.1⟩
        obtain ⟨o, e, d⟩ := T.obj _ _ t7 b hb
        exact (J.pin (b, o) (List.mem_append_right _ (List.mem_append_right _ (mem_pinsAt hb e)))).2.1
      cases ok with
      | false =>
        rw [if_neg Bool.false_ne_true] at q9 ⊢
        obtain ⟨m', hm, w9⟩ := hN _ _ q9
        obtain ⟨a1, a2, a3, a4⟩ := keep I9
        exact ⟨m', hm, i + 1, ys, H9, its, k, (I9.pins_of (pins' := []) (fun p hp => nomatch hp)).weak wk.1 wk.2, a1, a2, a3, v5, a4, Nat.le_succ_of_le l5, w9⟩
      | true =>
        rw [if_pos rfl] at q9 ⊢
        refine thn (he _ _ _ _ _ s9 σ8 H9 _ I9 q9) fun u' s10 ⟨y, H10, I10, r10, q10⟩ => ?_
        obtain ⟨m', hm, w10⟩ := hN _ _ q10
        obtain ⟨a1, a2, a3, a4⟩ := keep I10
        have hl := v5.length
        refine call_meets PySem.F.slot_list_append ⟨_, a4, rfl⟩ PySem.F.entry_list_append (PySem.F.args_list_append_2 _ _) (PySem.list_append s.heap.objs.size its.toArray k u' (by rw [List.size_toArray]; omega)) ⟨a4, ?_⟩
        have q := PySem.IsL.update a4 (fun xs : Array Value => xs.push u')
        have eq : its.toArray.push u' = (its ++ [u']).toArray := by simp
        rw [eq] at q
        obtain ⟨x1, x2⟩ := I0.ok.exf s.heap.objs.size List.mem_cons_self
        have I11 := (I10.pins_of (pins' := []) (fun p hp => nomatch hp)).turned (it := s.heap.objs.size) (t' := s10.toks) (h' := s10.heap.update s.heap.objs.size (Obj.mapSeq (fun xs : Array Value => xs.push u'))) (fun b o hb e => (Heap.get?_update_other s10.heap _ (Ne.symm hb)).trans e) a3 x1 (.inl List.mem_cons_self) x2 (fun p hp => absurd (show p ∈ ([] : List (Addr × Obj)) from hp) (by simp))
        refine ⟨m', hm, i + 1, ys ++ [y], H10, its ++ [u'], _, I11.weak wk.1 wk.2, ?_, a2, a3, v5.append (.cons r10 .nil), q, by rw [List.length_append, List.length_singleton]; omega, w10⟩
        exact T.keep _ _ _ a1 fun b hb o e => (Heap.get?_update_other s10.heap _ (Nat.ne_of_gt (hlt b hb))).trans e
  have loop' := codeAny_mono loop (R' := fun r s' => Value.ref s.heap.objs.size = .ref s.heap.objs.size ∧ RR (pushed s).heap.objs.size r s') fun r s' z => ⟨rfl, z⟩
  exact codeAny_compStart_list loop' (T.self X.A 0 _ _ _ ht0 loop')
theorem pe_comp (S : CompSc X scope own F) (hc : X.calm = true) (hi : PI X tg iter wi)
    (hg : ∀ C s₃ H₃ ex, PG (compCx X own F scope C s₃ H₃ ex) tg g) (ht : ∀ C s₃ H₃ ex, PTs (compCx X own F scope C s₃ H₃ ex) ifs tt) (he : ∀ C s₃ H₃ ex, PE (compCx X own F scope C s₃ H₃ ex) elt te)
    (hs : ∀ x, foldedSetIterable iter X.env x = pure x := by intro _; rfl) : PE X (.ListComp elt [⟨tg, iter, ifs, 0⟩] scope pos) (tComp own F wi g tt te) := by
  intro pins s σ H Q I h
  rw [eval_ListComp]
  refine wpAny_comprehension_free (use := none) rfl hs (closureFor_clo (I.freeCells S)) S.kind S.lc ?_
  refine thn (hi pins s σ H _ I h) fun v s1 h1 => thn h1 fun itv s2 ⟨it, fp, tn, J, H2, e, I2, T, st2, f2, q2⟩ => ?_
  subst e
  refine thn (comp_run (Q := Q) (RR := fun C r s' => compPost (model X.prog X.w) X.A X.xe none (EP X pins σ Q) (.ref s2.heap.objs.size) C r s') S hc hg ht he I2 T st2 f2 q2 fun C s4 H4 c1 c2 I4 q4 n4 hm => ?_) fun acc s3 h3 => thn h3 fun cenv s4 h4 => codeAny_mono h4 fun r s' ⟨ea, hr⟩ => ?_
  · obtain ⟨m, hn⟩ := hm
    exact ⟨m, hn, fun h' hs' => ⟨.ref s2.heap.objs.size, H4, comp_letgo I2 c1 I4 n4 hs', rfl, q4⟩⟩
  · rw [ea]; exact hr
theorem ps_comp {i : Nat} {x : Str} {pos' spos : Pos} (hN : X.N.Nodup) (hi' : X.N[i]? = some x) (hx : Loc X.env.scope x) (S : CompSc X scope own F) (hc : X.calm = true) (hi : PI X tg iter wi)
    (hg : ∀ C s₃ H₃ ex, PG (compCx X own F scope C s₃ H₃ ex) tg g) (ht : ∀ C s₃ H₃ ex, PTs (compCx X own F scope C s₃ H₃ ex) ifs tt) (he : ∀ C s₃ H₃ ex, PE (compCx X own F scope C s₃ H₃ ex) elt te)
    (hsw : swapsWith (.ListComp elt [⟨tg, iter, ifs, 0⟩] scope pos) (some (.Name x pos')) spos.line X.env = pure true := by rfl)
    (hs : ∀ x, foldedSetIterable iter X.env x = pure x := by intro _; rfl) (hf : X.fn x = true ∨ X.env.scope.names.lookup x = some .local := by first | exact .inl rfl | exact .inr rfl | assumption) :
    PS X (.Assign [.Name x pos'] (.ListComp elt [⟨tg, iter, ifs, 0⟩] scope pos) spos) (tAsg (tComp own F wi g tt te) (gName i)) := by
  intro pins s σ H D I h
  rw [exec_Assign_Name_used x pos' _ _ hsw]
  refine wpAny_bind (wpAny_standAt (wpAny_bind ?_))
  refine wpAny_bind ?_
  refine wpAny_mono (Q := fun _ s' => SP X pins D .next s') ?_ (fun _ s' q => wpAny_pure (wpAny_pure q)) fun _ _ z => z
  refine wpAny_comprehension_free (use := some (assign (.Name x pos') X.env)) rfl hs (closureFor_clo (I.freeCells S)) S.kind S.lc ?_
  refine thn (hi pins s σ H _ I h) fun v s1 h1 => thn h1 fun itv s2 ⟨it, fp, tn, J, H2, e, I2, T, st2, f2, q2⟩ => ?_
  subst e
  refine thn (comp_run (Q := fun x H1 => gName i x σ H1 D.nx) (RR := fun C r s' => compPost (model X.prog X.w) X.A X.xe (some (assign (.Name x pos') X.env)) (fun _ s' => SP X pins D .next s') (.ref s2.heap.objs.size) C r s') S hc hg ht he I2 T st2 f2 q2 fun C s4 H4 c1 c2 I4 q4 n4 hm => ?_) fun acc s3 h3 => thn h3 fun cenv s4 h4 => codeAny_mono h4 fun r s' ⟨ea, hr⟩ => ?_
  · obtain ⟨m, hn⟩ := hm
    refine wpAny_assign_Name (store_ok2 I4 hN hi' hx (v := .ref s2.heap.objs.size) rfl (fun s5 I5 ⟨a, sb, ha⟩ => ?_) hf)
    have aC : a ≠ C := by
      rcases ha with z | z
      · rw [z]; exact Nat.ne_of_lt (Nat.lt_of_lt_of_le I2.lt c1)
      · obtain ⟨v, u⟩ := I2.cell _ _ z
        exact Nat.ne_of_lt (Nat.lt_of_lt_of_le u.lt c1)
    exact ⟨m, hn.sameBut sb (Ne.symm aC), fun h' hs' => ⟨_, H4, comp_letgo I2 c1 I5 n4 hs', q4⟩⟩
  · rw [ea]; exact hr
end
end L2
namespace L2
open PySem PySem.Spec PyProof.Rows
inductive T where
  | non | bl (b : Bool) | int (i : Int) | str (x : List Nat) | lst (ts : List T) | dic (ks : List (List Nat)) (ts : List T) | tup (ts : List T)
mutual
def Rep (H : Hp) : V → T → Prop
  | v, .non => v = .non
  | v, .bl b => v = .bl b
  | v, .int i => v = .int i
  | v, .str x => v = .str (tx x)
  | v, .lst ts => ∃ a vs, v = .ref a ∧ H a = some (.lst vs) ∧ Reps H vs ts
  | v, .dic ks ts => ∃ a ps, v = .ref a ∧ H a = some (.dK ps) ∧ ps.map (·.1) = ks.map (fun k => (Sum.inr (tx k) : Key)) ∧ Reps H (ps.map (·.2)) ts
  | v, .tup ts => ∃ a vs, v = .ref a ∧ H a = some (.tup vs) ∧ Reps H vs ts
def Reps (H : Hp) : List V → List T → Prop
  | vs, [] => vs = []
  | vs, t :: ts => ∃ v r, vs = v :: r ∧ Rep H v t ∧ Reps H r ts
end
mutual
theorem Rep.same {H H' : Hp} (e : Same H H') : ∀ (v : V) (t : T), Rep H v t → Rep H' v t
  | _, .non, h => h
  | _, .bl _, h => h
  | _, .int _, h => h
  | _, .str _, h => h
  | _, .lst ts, ⟨a, vs, h1, h2, h3⟩ => ⟨a, vs, h1, e _ _ h2, Reps.same e vs ts h3⟩
  | _, .dic ks ts, ⟨a, ps, h1, h2, h3, h4⟩ => ⟨a, ps, h1, e _ _ h2, h3, Reps.same e _ ts h4⟩
  | _, .tup ts, ⟨a, vs, h1, h2, h3⟩ => ⟨a, vs, h1, e _ _ h2, Reps.same e vs ts h3⟩
theorem Reps.same {H H' : Hp} (e : Same H H') : ∀ (vs : List V) (ts : List T), Reps H vs ts → Reps H' vs ts
  | _, [], h => h
  | _, t :: ts, ⟨v, r, h1, h2, h3⟩ => ⟨v, r, h1, Rep.same e v t h2, Reps.same e r ts h3⟩
end
theorem Reps.snoc {H : Hp} {v : V} {t : T} (h : Rep H v t) : ∀ {vs : List V} {ts : List T}, Reps H vs ts → Reps H (vs ++ [v]) (ts ++ [t])
  | _, [], e => by
    have e' : _ = [] := e
    subst e'
    exact ⟨v, [], rfl, h, rfl⟩
  | _, t' :: ts, ⟨v', r, h1, h2, h3⟩ => by
    subst h1
    exact ⟨v', r ++ [v], rfl, h2, Reps.snoc h h3⟩
theorem Reps.length {H : Hp} : ∀ {vs : List V} {ts : List T}, Reps H vs ts → vs.length = ts.length
  | _, [], e => by
    have e' : _ = [] := e
    subst e'; rfl
  | _, t' :: ts, ⟨v', r, h1, h2, h3⟩ => by
    subst h1
    simp [Reps.length h3]
theorem Reps.get {H : Hp} : ∀ {vs : List V} {ts : List T} {i : Nat} {v : V}, Reps H vs ts → vs[i]? = some v → ∃ t, ts[i]? = some t ∧ Rep H v t
  | _, [], i, v, e, h => by
    have e' : _ = [] := e
    subst e'; simp at h
  | _, t' :: ts, 0, v, ⟨v', r, h1, h2, h3⟩, h => by
    subst h1
    simp at h; subst h
    exact ⟨t', rfl, h2⟩
  | _, t' :: ts, i + 1, v, ⟨v', r, h1, h2, h3⟩, h => by
    subst h1
    obtain ⟨t, e, q⟩ := Reps.get (i := i) (v := v) h3 (by simpa using h)
    exact ⟨t, by simpa using e, q⟩
def tyT : T → String
  | .non => "NoneType"
  | .bl _ => "bool"
  | .int _ => "int"
  | .str _ => "str"
  | .lst _ => "list"
  | .dic _ _ => "dict"
  | .tup _ => "tuple"
theorem Rep.ty {H : Hp} {v : V} : ∀ {t : T}, Rep H v t → tyS H v = some (tyT t)
  | .non, h => by cases (show v = .non from h); rfl
  | .bl b, h => by cases (show v = .bl b from h); rfl
  | .int i, h => by cases (show v = .int i from h); rfl
  | .str x, h => by cases (show v = .str (tx x) from h); rfl
  | .lst ts, h => by obtain ⟨a, vs, e, h2, _⟩ := h; subst e; show (match H a with | some (.lst _) => some "list" | some (.tup _) => some "tuple" | some (.dK _) => some "dict" | _ => none) = _; rw [h2]; rfl
  | .dic ks ts, h => by obtain ⟨a, vs, e, h2, _⟩ := h; subst e; show (match H a with | some (.lst _) => some "list" | some (.tup _) => some "tuple" | some (.dK _) => some "dict" | _ => none) = _; rw [h2]; rfl
  | .tup ts, h => by obtain ⟨a, vs, e, h2, _⟩ := h; subst e; show (match H a with | some (.lst _) => some "list" | some (.tup _) => some "tuple" | some (.dK _) => some "dict" | _ => none) = _; rw [h2]; rfl
def letL : List Nat := (List.range 26).map (· + 97)
def figL : List Nat := (List.range 10).map (· + 48)
def sgnL : List Nat := ((List.range 95).map (· + 32)).filter (· != 37)
def okName (w : List Nat) : Bool := decide (1 ≤ w.length) && decide (w.length ≤ 12) && (match w with | [] => false | c :: _ => decide (c ∈ letL)) && w.all (fun c => decide (c ∈ letL ++ figL))
def okText (w : List Nat) : Bool := decide (w.length ≤ 30) && w.all (fun c => decide (c ∈ sgnL))
mutual
def Nice : Nat → T → Prop
  | _, .non => True
  | _, .bl _ => True
  | _, .int i => -(10 ^ 12) ≤ i ∧ i ≤ 10 ^ 12
  | _, .str x => okText x = true
  | d, .lst ts => 1 ≤ d ∧ ts.length ≤ 4 ∧ NiceL (d - 1) ts
  | d, .dic ks ts => 1 ≤ d ∧ ts.length ≤ 4 ∧ ks.length = ts.length ∧ ks.Nodup ∧ (∀ k ∈ ks, okName k = true) ∧ NiceL (d - 1) ts
  | _, .tup _ => False
def NiceL : Nat → List T → Prop
  | _, [] => True
  | d, t :: ts => Nice d t ∧ NiceL d ts
end
end L2
namespace L2
open PySem PySem.Spec PyProof.Rows
theorem same_new {H : Hp} {p : Addr} (h : H p = none) (o : HO) : Same H (upd H p o) := fun b u q => by rw [upd_ne (ne_of_none q h)]; exact q
section
variable {K : PySem.W.Frag} {H : Hp} {Q : VK} {a b : Addr} {xs ys : List V}
theorem rEqL_i {neg : Bool} (h1 : SqL K H a xs) (h2 : SqL K H b ys) (f1 : xs.all flatV = true) (f2 : ys.all flatV = true) (q : Q (.bl (if neg then !eqLs xs ys else eqLs xs ys)) H) : rEqL K neg (.ref a) (.ref b) H Q :=
  ⟨a, b, xs, ys, rfl, rfl, h1, h2, f1, f2, q⟩
theorem rIxL_i {i : Int} {v : V} (h1 : SqL K H a xs) (h2 : atI xs i = some v) (q : Q v H) : rIxL K (.ref a) (.int i) H Q := ⟨a, xs, i, v, rfl, rfl, h1, h2, q⟩
theorem rIxT_i {i : Int} {v : V} (h1 : SqT K H a xs) (h2 : atI xs i = some v) (q : Q v H) : rIxT K (.ref a) (.int i) H Q := ⟨a, xs, i, v, rfl, rfl, h1, h2, q⟩
theorem rIxS_i {z : Str} {i : Int} {c : Nat} (h1 : z.length ≤ sizeLine) (h2 : atI (ts z) i = some c) (q : Q (.str (tx [c])) H) : rIxS (.str z) (.int i) H Q := ⟨z, i, c, rfl, rfl, h1, h2, q⟩
end
theorem atI_of {α : Type} {xs : List α} {i : Int} (h0 : 0 ≤ i) (h1 : i < xs.length) : ∃ v, atI xs i = some v ∧ v ∈ xs := by
  obtain ⟨j, rfl⟩ := Int.eq_ofNat_of_zero_le h0
  have hj : j < xs.length := by omega
  exact ⟨xs[j], atI_nat (by simp [hj]), List.getElem_mem hj⟩
theorem atI_getD {α : Type} {xs : List α} {i : Int} {d : α} (h0 : 0 ≤ i) (h1 : i < xs.length) : atI xs i = some (xs.getD i.toNat d) := by
  obtain ⟨j, rfl⟩ := Int.eq_ofNat_of_zero_le h0
  have hj : j < xs.length := by omega
  refine atI_nat ?_
  simp [List.getD, hj]
theorem comp_by {x : Str} {F : List (Str × Nat)} {J : It} {n : Nat} {tt : TT} {te : TE} {σ : St} {Q : VK} {H1 : Hp} (Pv : Nat → List V → Hp → Prop) (hn : n ≤ sizeLine) (h0 : Pv 0 [] H1) (hgo : ∀ i ys H, i < n → Pv i ys H → J.go i H)
    (hst : ∀ ys H, Pv n ys H → J.stop n H)
    (hs : ∀ i ys H y H2, i < n → ys.length ≤ i → Pv i ys H → J.yld i H y H2 → tt (some y :: F.map (fun p => (σ[p.2]?).join)) H2 fun b H3 => if b = true then te (some y :: F.map (fun p => (σ[p.2]?).join)) H3 fun z H4 => Pv (i + 1) (ys ++ [z]) H4 else Pv (i + 1) ys H3)
    (hd : ∀ ys H, ys.length ≤ n → Pv n ys H → ∀ p, H p = none → Q (.ref p) (upd H p (.lst ys))) : CompBody [x] F (gName 0) tt te σ Q J H1 := by
  refine ⟨fun i m ys H => m = n - i ∧ i ≤ n ∧ Pv i ys H, ⟨n, by simp, Nat.zero_le _, h0⟩, ?_⟩
  rintro i m ys H ⟨rfl, hi, p⟩ hl
  by_cases hlt : i < n
  · refine .inr ⟨hgo i ys H hlt p, by omega, Pv (i + 1), fun ys' H'' q => ⟨n - (i + 1), by omega, rfl, hlt, q⟩, fun y H2 hy => ?_⟩
    exact ⟨weak_set (i := 0) rfl, hs i ys H y H2 hlt hl p hy⟩
  · have e : i = n := by omega
    subst e
    exact .inl ⟨hst ys H p, hn, hd ys H hl p⟩
theorem comp_rng {x : Str} {F : List (Str × Nat)} {lo : Int} {n : Nat} {te : TE} {σ : St} {Q : VK} {H1 : Hp} (Pv : Nat → List V → Hp → Prop) (hn : n ≤ sizeLine) (h0 : Pv 0 [] H1)
    (hs : ∀ (i : Nat) ys H, i < n → ys.length ≤ i → Pv i ys H → te (some (.int (lo + i)) :: F.map (fun p => (σ[p.2]?).join)) H fun z H4 => Pv (i + 1) (ys ++ [z]) H4)
    (hd : ∀ ys H, ys.length ≤ n → Pv n ys H → ∀ p, H p = none → Q (.ref p) (upd H p (.lst ys))) : CompBody [x] F (gName 0) tTrue te σ Q (Itr lo n) H1 :=
  comp_by Pv hn h0 (fun i _ _ h _ => h) (fun _ _ _ => Nat.le_refl _) (fun i ys H y H2 h1 h2 h3 h4 => by
    obtain ⟨rfl, rfl⟩ := h4
    exact hs i ys _ h1 h2 h3) hd
theorem comp_str {x : Str} {F : List (Str × Nat)} {w : Str} {tt : TT} {te : TE} {σ : St} {Q : VK} {H1 : Hp} (Pv : Nat → List V → Hp → Prop) (hn : (ts w).length ≤ sizeLine) (h0 : Pv 0 [] H1)
    (hs : ∀ i c ys H, (ts w)[i]? = some c → ys.length ≤ i → Pv i ys H → tt (some (.str (tx [c])) :: F.map (fun p => (σ[p.2]?).join)) H fun b H3 => if b = true then te (some (.str (tx [c])) :: F.map (fun p => (σ[p.2]?).join)) H3 fun z H4 => Pv (i + 1) (ys ++ [z]) H4 else Pv (i + 1) ys H3)
    (hd : ∀ ys H, ys.length ≤ (ts w).length → Pv (ts w).length ys H → ∀ p, H p = none → Q (.ref p) (upd H p (.lst ys))) : CompBody [x] F (gName 0) tt te σ Q (Its w) H1 :=
  comp_by Pv hn h0 (fun i _ _ h _ => h) (fun _ _ _ => Nat.le_refl _) (fun i ys H y H2 h1 h2 h3 h4 => by
    obtain ⟨rfl, c, hc, rfl⟩ := h4
    exact hs i c ys _ hc h2 h3) hd
end L2
namespace L2
open PySem PySem.Spec PyProof.Rows
section
variable {X : Cx} {x : Str} {pos : Pos}
theorem pe_gs {z : Str} (hg : Gl X x) (h : ∃ t, X.mg x = some (.str z t)) (hd : (x == ("__debug__" : Str)) = false := by decide) : PE X (.Name x pos) (tC (.str z)) := by
  obtain ⟨t, h⟩ := h
  exact pe_glob hg h ⟨t, rfl⟩ hd
theorem pe_gi {z : Int} (hg : Gl X x) (h : ∃ t, X.mg x = some (.int z t)) (hd : (x == ("__debug__" : Str)) = false := by decide) : PE X (.Name x pos) (tC (.int z)) := by
  obtain ⟨t, h⟩ := h
  exact pe_glob hg h ⟨t, rfl⟩ hd
end
end L2
namespace L2
open PySem PySem.Spec PyProof.Rows
theorem cxOf_K {CX : CXT} {P : Program} {w : World} {K : PySem.W.Frag} {mg : Str → Option Value} {base : Heap} {N : List Str} {qual : Str} {scope : Scope} {f : Addr} {cd : Value} {A : Around} {outer : List Env} {s : Shared} {H : Hp} {E : XK} : (cxOf CX P w K mg base N qual scope f cd A outer s H E).K = K := rfl
theorem nox_K {X : Cx} : X.nox.K = X.K := rfl
theorem compCx_K {X : Cx} {own : List Str} {F : List (Str × Nat)} {scope : Scope} {C : Addr} {s₃ : Shared} {H₃ : Hp} {ex : List Addr} : (compCx X own F scope C s₃ H₃ ex).K = X.K := rfl
theorem flat_ints (ns : List Int) : (ns.map V.int).all flatV = true := by
  rw [List.all_map]; exact List.all_eq_true.mpr fun _ _ => rfl
theorem flat_strs (ns : List Str) : (ns.map V.str).all flatV = true := by
  rw [List.all_map]; exact List.all_eq_true.mpr fun _ _ => rfl
theorem eqLs_nil (xs : List V) : eqLs xs [] = xs.isEmpty := by cases xs <;> rfl
end L2
namespace L2
theorem natAbs10 : Int.natAbs 10 = 10 := rfl
end L2
namespace L2
open PySem PySem.Spec PyProof.Rows
def ForB (g : TG) (tb : TS) (D : Ends) (σ : St) (J : It) (H1 : Hp) : Prop := ∃ W : Nat → Nat → St → Hp → Prop, (∃ m, W 0 m σ H1) ∧ ∀ i m σ H, W i m σ H →
  (J.stop i H ∧ D.nx σ H) ∨ (J.go i H ∧ ∃ N : St → Hp → Prop, (∀ σ' H', N σ' H' → ∃ m', m' < m ∧ W (i + 1) m' σ' H') ∧ ∀ x H', J.yld i H x H' → g x σ H' fun σ2 H2 => tb { D with nx := N, ct := N, bk := D.nx } σ2 H2)
theorem tFor_eq (wi : TI) (g : TG) (tb : TS) (D : Ends) (σ : St) (H : Hp) : tFor wi g tb D σ H = wi σ H fun J H1 => ForB g tb D σ J H1 := rfl
theorem forB_rng {lo : Int} {n : Nat} {g : TG} {tb : TS} {D : Ends} {σ : St} {H : Hp} (Pv : Nat → St → Hp → Prop) (h0 : Pv 0 σ H)
    (hs : ∀ i σ H, i < n → Pv i σ H → g (.int (lo + i)) σ H fun σ2 H2 => tb { D with nx := Pv (i + 1), ct := Pv (i + 1), bk := D.nx } σ2 H2) (hd : ∀ σ H, Pv n σ H → D.nx σ H) : ForB g tb D σ (Itr lo n) H := for_range Pv h0 hs hd
theorem forB_list {K : PySem.W.Frag} {a : Addr} {xs : List V} {g : TG} {tb : TS} {D : Ends} {σ : St} {H : Hp} (Pv : Nat → St → Hp → Prop) (h0 : Pv 0 σ H) (hl : ∀ i σ H, i ≤ xs.length → Pv i σ H → SqL K H a xs)
    (hs : ∀ i x σ H, xs[i]? = some x → Pv i σ H → g x σ H fun σ2 H2 => tb { D with nx := Pv (i + 1), ct := Pv (i + 1), bk := D.nx } σ2 H2) (hd : ∀ σ H, Pv xs.length σ H → D.nx σ H) : ForB g tb D σ (Itl K a) H := for_list Pv h0 hl hs hd
section
variable {X : Cx}
theorem call_intB : CallR X (.type "int") (fun xs H Q => ∃ k, xs = [.bl k] ∧ Q (.int (if k then 1 else 0)) H) := fun pins s σ H xs us Q I r h => call_int1 pins s σ H xs us Q I r (.inr h)
theorem call_len_l : CallR X (.builtin "len") (fun xs H Q => ∃ p, xs = [.ref p] ∧ ∃ ys, SqL X.K H p ys ∧ Q (.int ys.length) H) := fun pins s σ H xs us Q I r ⟨p, e, ys, h, q⟩ => call_len_seq pins s σ H xs us Q I r ⟨p, ys, e, .inl h, q⟩
end
abbrev nK (k : List Nat) : Key := Sum.inr (tx k)
theorem nK_inj {a b : List Nat} (h : nK a = nK b) : a = b := by
  have e : tx a = tx b := Sum.inr.inj h
  rw [← ts_tx a, e, ts_tx]
theorem NiceL_iff {d : Nat} : ∀ {ts : List T}, NiceL d ts ↔ ∀ t ∈ ts, Nice d t
  | [] => ⟨fun _ _ h => (nomatch h), fun _ => trivial⟩
  | u :: ts => by
    show (Nice d u ∧ NiceL d ts) ↔ _
    rw [NiceL_iff (ts := ts)]
    exact ⟨fun h t ht => (List.mem_cons.mp ht).elim (fun e => e ▸ h.1) (h.2 t), fun h => ⟨h u List.mem_cons_self, fun t ht => h t (List.mem_cons_of_mem _ ht)⟩⟩
end L2
namespace L2
open PySem PySem.Spec PyProof.Rows
theorem ts_l36 : ts (Str.ofString "abcdefghijklmnopqrstuvwxyz0123456789") = letL ++ figL := by decide +kernel
theorem ts_a : ts (Str.ofString "a") = [97] := by decide +kernel
theorem ts_q : ts (Str.ofString "'") = [39] := by decide +kernel
theorem of_nil : Str.ofString "" = tx [] := by decide +kernel
theorem rep_one (c k : Nat) : (List.replicate k [c]).flatten = List.replicate k c := by
  induction k with
  | zero => rfl
  | succ k ih => rw [List.replicate_succ, List.flatten_cons, ih, List.replicate_succ]; rfl
theorem okName_of {w : List Nat} (h1 : w.length ≤ 12) (h3 : ∃ c r, w = c :: r ∧ c ∈ letL) (h4 : ∀ c ∈ w, c ∈ letL ++ figL) : okName w = true := by
  obtain ⟨c, r, rfl, hc⟩ := h3
  unfold okName
  simp only [Bool.and_eq_true, decide_eq_true_eq, List.all_eq_true]
  exact ⟨⟨⟨by simp, h1⟩, hc⟩, h4⟩
theorem okText_of {w : List Nat} (h1 : w.length ≤ 30) (h4 : ∀ c ∈ w, c ∈ sgnL) : okText w = true := by
  unfold okText
  simp only [Bool.and_eq_true, decide_eq_true_eq, List.all_eq_true]
  exact ⟨h1, h4⟩
theorem at_l26 {i : Int} (h0 : 0 ≤ i) (h1 : i < 26) : ∃ c, atI (letL ++ figL) i = some c ∧ c ∈ letL := by
  obtain ⟨j, rfl⟩ := Int.eq_ofNat_of_zero_le h0
  have hj : j < 26 := by omega
  have hj' : j < letL.length := hj
  refine ⟨letL[j], atI_nat (by rw [List.getElem?_append_left hj']; simp [hj']), List.getElem_mem hj'⟩
theorem a_letL : 97 ∈ letL := by decide
theorem letL_sub {c : Nat} (h : c ∈ letL) : c ∈ letL ++ figL := List.mem_append_left _ h
end L2
namespace L2
end L2
namespace L2
open PySem PySem.Spec PyProof.Rows
theorem ts_sgn : Str.ofString " !\"#$&'()*+,-./0123456789:;<=>?@ABCDEFGHIJKLMNOPQRSTUVWXYZ[\\]^_`" ++ Str.ofString "abcdefghijklmnopqrstuvwxyz{|}~" = tx sgnL := by decide +kernel
theorem q_sgnL : 39 ∈ sgnL := by decide
theorem flat_one (cs : List Nat) : ((cs.map fun c => tx [c]).map ts).flatten = cs := by
  induction cs with
  | nil => rfl
  | cons d r ih => simp only [List.map_cons, List.flatten_cons, ih, ts_tx]; rfl
end L2
namespace L2
open PySem PySem.Spec PyProof.Rows
theorem HOk.sim {P : Program} {w : World} {H H' : Hp} {h : Heap} (ok : HOk P w H h) (ho : ∀ b a, H b = some (.own a) → H' b = some (.own a)) (ht : ∀ b xs, H b = some (.tup xs) → H' b = some (.tup xs))
    (hs : ∀ b u, H' b = some u → H b = some u ∨ (∃ o, H b = some (.frz o u)) ∨ ∃ o u', u = .frz o u' ∧ H b = some u' ∧ h.get? b = some o) : HOk P w H' h := fun b u e => by
  rcases hs b u e with q | ⟨o, q⟩ | ⟨o, u', rfl, q, g⟩
  · exact (ok b u q).stay (fun _ _ _ z => z) (fun c z => ho c b z) fun c xs z => ht c xs z
  · obtain ⟨_, z⟩ := (show ObjOk P w H h b (.frz o u) from ok b _ q)
    exact z.stay (fun _ _ _ z => z) (fun c z => ho c b z) fun c xs z => ht c xs z
  · exact ⟨g, (ok b u' q).stay (fun _ _ _ z => z) (fun c z => ho c b z) fun c xs z => ht c xs z⟩
section
variable {X : Cx} {pins : List (Addr × Obj)} {σ σ' : St} {H H' : Hp} {s s' : Shared}
theorem Inv.sim (I : Inv X pins σ H s) (hn : ∀ b, H b = none → H' b = none) (ho : ∀ b a, H b = some (.own a) → H' b = some (.own a)) (ht : ∀ b xs, H b = some (.tup xs) → H' b = some (.tup xs))
    (hb : ∀ b ps, H b = some (.tbl ps) → H' b = some (.tbl ps)) (hf : ∀ b o u, X.H₀ b = some (.frz o u) → H' b = some (.frz o u))
    (hs : ∀ b u, H' b = some u → H b = some u ∨ (∃ o, H b = some (.frz o u)) ∨ ∃ o u', u = .frz o u' ∧ H b = some u' ∧ s.heap.get? b = some o) : Inv X pins σ H' s :=
  ⟨I.ok, I.os, I.bare, ⟨I.base.keep, I.base.slot, fun b o e n hx => hn b (I.base.free b o e n hx), I.base.there, fun b xs e => ht b xs (I.base.tups b xs e), hf, fun b ps e => by
    obtain ⟨m, q⟩ := I.base.tbls b ps e
    exact ⟨m, hb b _ q⟩⟩, I.loc, I.cell, hn _ I.free, fun x c e => hn _ (I.freeC x c e), fun p hp => by
    obtain ⟨a, b, c, d, e⟩ := I.pin p hp
    exact ⟨a, hn _ b, c, d, e⟩, I.hok.sim ho ht hs, I.len⟩
theorem Inv.freeze {d : Addr} {kvs : List (Key × V)} {o : Obj} (I : Inv X pins σ H s) (h : H d = some (.dK kvs)) (hg : s.heap.get? d = some o) : Inv X pins σ (upd H d (.frz o (.dK kvs))) s := by
  have ne : ∀ b u, H b = u → u ≠ some (.dK kvs) → b ≠ d := fun b u e n z => by subst z; exact n (e.symm.trans h)
  refine I.sim (fun b e => by rw [upd_ne (ne b _ e (by intro z; cases z))]; exact e) (fun b a e => by rw [upd_ne (ne b _ e (by intro z; cases z))]; exact e) (fun b a e => by rw [upd_ne (ne b _ e (by intro z; cases z))]; exact e)
    (fun b a e => by rw [upd_ne (ne b _ e (by intro z; cases z))]; exact e) (fun b o' u e => ?_) fun b u e => ?_
  · have e' := I.base.frzs b o' u e
    rw [upd_ne (ne b _ e' (by intro z; cases z))]; exact e'
  · by_cases hb : b = d
    · subst hb
      rw [upd_same] at e; cases e
      exact .inr (.inr ⟨o, _, rfl, h, hg⟩)
    · rw [upd_ne hb] at e; exact .inl e
def thaw (H H' : Hp) : Hp := fun b => match H b with
  | some (.frz _ _) => H' b
  | _ => match H' b with
    | some (.frz _ u) => some u
    | y => y
theorem thaw_frz {b : Addr} {o : Obj} {u : HO} (h : H b = some (.frz o u)) : thaw H H' b = H' b := by unfold thaw; rw [h]
theorem thaw_none {b : Addr} (h : H' b = none) : thaw H H' b = none := by unfold thaw; rw [h]; split <;> rfl
theorem thaw_of {b : Addr} {u : HO} (h : H' b = some u) (n : ∀ o v, u ≠ .frz o v) : thaw H H' b = some u := by
  unfold thaw; rw [h]
  split
  · rfl
  · cases u <;> first | rfl | exact absurd rfl (n _ _)
theorem thaw_at {b : Addr} {o : Obj} {u : HO} (h : H' b = some (.frz o u)) (n : ∀ o v, H b ≠ some (.frz o v)) : thaw H H' b = some u := by
  unfold thaw; rw [h]
  cases e : H b with
  | none => rfl
  | some v => cases v <;> first | rfl | exact absurd e (n _ _)
theorem thaw_inv {b : Addr} {u : HO} (h : thaw H H' b = some u) : H' b = some u ∨ ∃ o, H' b = some (.frz o u) := by
  unfold thaw at h
  split at h
  · exact .inl h
  · split at h
    · rename_i o v e
      cases h
      exact .inr ⟨_, e⟩
    · exact .inl h
theorem Inv.thaw (I : Inv X pins σ H s) (J : Inv X pins σ' H' s') : Inv X pins σ' (thaw H H') s' :=
  J.sim (fun b e => thaw_none e) (fun b a e => thaw_of e (by intro o v z; cases z)) (fun b a e => thaw_of e (by intro o v z; cases z)) (fun b a e => thaw_of e (by intro o v z; cases z))
    (fun b o u e => by rw [thaw_frz (I.base.frzs b o u e)]; exact J.base.frzs b o u e) fun b u e => (thaw_inv e).imp id .inl
theorem thaw_same {H H' : Hp} (h : ∀ b u, H b = some u → H' b = some u ∨ ((∃ o, H' b = some (.frz o u)) ∧ ∀ o v, u ≠ .frz o v)) : Same H (L2.thaw H H') := fun b u e => by
  rcases h b u e with q | ⟨⟨o, q⟩, n⟩
  · cases u with
    | frz o v => rw [thaw_frz e]; exact q
    | _ => exact thaw_of q (by intro o v z; cases z)
  · refine thaw_at q fun o' v z => ?_
    rw [e] at z; cases z; exact n _ _ rfl
def tThaw (t : TE) : TE := fun σ H Q => t σ H fun v H' => Q v (thaw H H')
theorem pe_thaw {e : Expr} {t : TE} (h : PE X e t) : PE X e (tThaw t) := by
  intro pins s σ H Q I q
  refine thn (h pins s σ H _ I q) fun u s1 ⟨v, H1, I1, r, q1⟩ => ⟨v, _, I.thaw I1, r, q1⟩
end
theorem KV.get {κ : Type} : ∀ {kvs : List (κ × V)} {vs : List (κ × Value)} {i : Nat} {kv : κ × V}, KV kvs vs → kvs[i]? = some kv → ∃ q, vs[i]? = some q ∧ kv.1 = q.1 ∧ RelV kv.2 q.2
  | _, _, _, _, .nil, e => by simp at e
  | _, _, 0, _, .cons r _, e => by simp at e; subst e; exact ⟨_, rfl, r⟩
  | _, _, i + 1, x, .cons _ t, e => by
    obtain ⟨u, h1, h2⟩ := KV.get (i := i) (kv := x) t (by simpa using e)
    exact ⟨u, by simpa using h1, h2⟩
theorem rel_key {P : Program} {w : World} {k : Key} {u : Value} (h : (mixKind P w).is k u = true) : RelV (kV k) u := by
  rcases keyIs_shape (show keyIs k u = true from h) with ⟨i, t, rfl, rfl⟩ | ⟨x, t, rfl, rfl⟩
  · exact ⟨t, rfl⟩
  · exact ⟨t, rfl⟩
theorem dictAt_of {P : Program} {w : World} {H : Hp} {h : Heap} {d : Addr} {o : Obj} {kvs : List (Key × V)} {es : Array DictEntry} {ep : Nat} (ok : HOk P w H h) (e : H d = some (.frz o (.dK kvs))) (he : o.data = .dict es ep) :
    ∃ vs, KV kvs vs ∧ h.DictAt (mixKind P w) d vs ep ∧ (d == sysModules) = false ∧ kvs.length ≤ sizeLine := by
  obtain ⟨g, z, hd, vs, rel, o', es', ep', ho, c, hdat, r⟩ := (show ObjOk P w H h d (.frz o (.dK kvs)) from ok d _ e)
  rw [g] at ho; cases ho
  rw [he] at hdat; cases hdat
  exact ⟨vs, rel, ⟨o, es, g, c, he, r⟩, hd, z⟩
def Itd (d : Addr) (o : Obj) (kvs : List (Key × V)) : It :=
  ⟨fun i H => i < kvs.length ∧ H d = some (.frz o (.dK kvs)), fun i H y H' => H' = H ∧ ∃ kv, kvs[i]? = some kv ∧ y = kV kv.1, fun i H => kvs.length ≤ i ∧ H d = some (.frz o (.dK kvs))⟩
theorem turn_dict {P : Program} {w : World} {K : PySem.W.Frag} {tg : Expr} (d it : Addr) (o : Obj) (kvs : List (Key × V)) : Turn P w K tg (Itd d o kvs) [it] it (fun i h => ∃ es ep, o.data = .dict es ep ∧ h.IsKeyIter it d i kvs.length ep) where
  mem := by simp
  obj := fun i h st b hb => by
    obtain ⟨es, ep, _, ob, e, c, dd⟩ := st
    have e' : b = it := by simpa using hb
    subst e'
    exact ⟨ob, e, fun v z => by rw [dd] at z; cases z⟩
  keep := fun i h h' st k => by
    obtain ⟨es, ep, a, st⟩ := st
    exact ⟨es, ep, a, st.at fun ob e => k it (by simp) ob e⟩
  item := by
    intro X hP hw hK hc i pins s σ H E I hf st hg
    subst hP hw hK
    obtain ⟨es, ep, hes, st⟩ := st
    obtain ⟨hi, hg⟩ := hg
    obtain ⟨vs, rel, hm, _, _⟩ := dictAt_of I.hok hg hes
    obtain ⟨f0, f1, f2, f3, f4, f5⟩ := hf it (by simp)
    have hl := rel.length
    obtain ⟨kv, hkv⟩ : ∃ kv, kvs[i]? = some kv := ⟨kvs[i], by simp [hi]⟩
    obtain ⟨q, hq, hq1, hq2⟩ := KV.get rel hkv
    rw [hl] at st
    refine wpAny_pyNext_dict_item (k := q.1) (v := q.2) st hm hq fun key h' hk st' sb => ?_
    have I1 : Inv X pins σ H { s with heap := h' } := I.turned (t' := s.toks) (fun b o hb e => (sb.2 b hb).trans e) f0 f1 f3 f4 f5
    obtain ⟨ob, e, c, dd⟩ := id st'
    exact ⟨key, rfl, go_of (s := { s with heap := h' }) e c dd (by decide) ⟨kV kv.1, H, I1, by rw [hq1]; exact rel_key hk, ⟨rfl, kv, hkv, rfl⟩, ⟨es, ep, hes, by rw [hl]; exact st'⟩, fun b hb => (hf b hb).1⟩⟩
  done := by
    intro X hP hw hK hc i pins s σ H E I hf st hg
    subst hP hw hK
    obtain ⟨es, ep, hes, st⟩ := st
    obtain ⟨hi, hg⟩ := hg
    obtain ⟨vs, rel, hm, _, _⟩ := dictAt_of I.hok hg hes
    obtain ⟨f0, f1, f2, f3, f4, f5⟩ := hf it (by simp)
    have hl := rel.length
    rw [hl] at st
    exact wpAny_pyNext_dict_end (I.ok.hd hc) st hm (by simp; omega) fun h' eb => ⟨rfl, I.turned (t' := s.toks) (fun b o hb e => eb b o hb e) f0 f1 f3 f4 f5⟩
  self := fun _ _ _ _ _ st h => by
    obtain ⟨es, ep, _, st⟩ := st
    exact wpAny_pyIter_keyiter st h
def iDict (tl : TE) : TI := fun σ H R => tl σ H fun x H1 => ∃ d kvs, x = .ref d ∧ ((H1 d = some (.dK kvs) ∧ ∀ o, R (Itd d o kvs) (upd H1 d (.frz o (.dK kvs)))) ∨ ∃ o, H1 d = some (.frz o (.dK kvs)) ∧ R (Itd d o kvs) H1)
section
variable {X : Cx}
theorem pi_dict {tg l : Expr} {tl : TE} (hl : PE X l tl) : PI X tg l (iDict tl) := by
  intro pins s σ H R I h
  refine thn (hl pins s σ H _ I h) fun v s1 ⟨x, H1, I1, r1, q1⟩ => ?_
  obtain ⟨d, kvs, rfl, q⟩ := q1
  cases r1
  have fin : ∀ o H2, Inv X pins σ H2 s1 → H2 d = some (.frz o (.dK kvs)) → R (Itd d o kvs) H2 → wpAny (model X.prog X.w) X.A (pyIter (.ref d)) (PIE X pins σ tg R) X.xe s1 := fun o H2 I2 e q => by
    obtain ⟨g, z, hd, vs, rel, o', es, ep, ho, c, hdat, r⟩ := (show ObjOk X.prog X.w H2 s1.heap d (.frz o (.dK kvs)) from I2.hok d _ e)
    rw [g] at ho; cases ho
    have hm : s1.heap.DictAt (mixKind X.prog X.w) d vs ep := ⟨o, es, g, c, hdat, r⟩
    refine wpAny_pyIter_dict hd hm ?_
    refine ⟨s1.heap.objs.size, [s1.heap.objs.size], _, _, H2, rfl, I2.kept (t' := s1.toks) fun b o e => Heap.get?_push_of_some _ e, turn_dict d _ o kvs, ⟨es, ep, hdat, _, Heap.get?_push_size _ rfl, rfl, by rw [rel.length]; rfl⟩, fun b hb => ?_, q⟩
    have e : b = s1.heap.objs.size := by simpa using hb
    subst e
    exact I2.fpOk (Nat.le_refl _) (I2.hok.fresh (Nat.le_refl _))
  rcases q with ⟨e, q⟩ | ⟨o, e, q⟩
  · obtain ⟨z, hd, vs, rel, o, es, ep, ho, _⟩ := (show ObjOk X.prog X.w H1 s1.heap d (.dK kvs) from I1.hok d _ e)
    exact fin o _ (I1.freeze e ho) upd_same (q o)
  · exact fin o _ I1 e q
end
theorem comp_dict {x : Str} {F : List (Str × Nat)} {d : Addr} {o : Obj} {kvs : List (Key × V)} {tt : TT} {te : TE} {σ : St} {Q : VK} {H1 : Hp} (Pv : Nat → List V → Hp → Prop) (hn : kvs.length ≤ sizeLine) (h0 : Pv 0 [] H1) (hz : ∀ i ys H, Pv i ys H → H d = some (.frz o (.dK kvs)))
    (hs : ∀ i kv ys H, kvs[i]? = some kv → ys.length ≤ i → Pv i ys H → tt (some (kV kv.1) :: F.map (fun p => (σ[p.2]?).join)) H fun b H3 => if b = true then te (some (kV kv.1) :: F.map (fun p => (σ[p.2]?).join)) H3 fun z H4 => Pv (i + 1) (ys ++ [z]) H4 else Pv (i + 1) ys H3)
    (hd : ∀ ys H, ys.length ≤ kvs.length → Pv kvs.length ys H → ∀ p, H p = none → Q (.ref p) (upd H p (.lst ys))) : CompBody [x] F (gName 0) tt te σ Q (Itd d o kvs) H1 :=
  comp_by Pv hn h0 (fun i ys H h p => ⟨h, hz i ys H p⟩) (fun ys H p => ⟨Nat.le_refl _, hz _ ys H p⟩) (fun i ys H y H2 h1 h2 h3 h4 => by
    obtain ⟨rfl, kv, hkv, rfl⟩ := h4
    exact hs i kv ys _ hkv h2 h3) hd
theorem comp_list {K : PySem.W.Frag} {x : Str} {F : List (Str × Nat)} {a : Addr} {xs : List V} {tt : TT} {te : TE} {σ : St} {Q : VK} {H1 : Hp} (Pv : Nat → List V → Hp → Prop) (hn : xs.length ≤ sizeLine) (h0 : Pv 0 [] H1) (hz : ∀ i ys H, i ≤ xs.length → Pv i ys H → SqL K H a xs)
    (hs : ∀ i v ys H, xs[i]? = some v → ys.length ≤ i → Pv i ys H → tt (some v :: F.map (fun p => (σ[p.2]?).join)) H fun b H3 => if b = true then te (some v :: F.map (fun p => (σ[p.2]?).join)) H3 fun z H4 => Pv (i + 1) (ys ++ [z]) H4 else Pv (i + 1) ys H3)
    (hd : ∀ ys H, ys.length ≤ xs.length → Pv xs.length ys H → ∀ p, H p = none → Q (.ref p) (upd H p (.lst ys))) : CompBody [x] F (gName 0) tt te σ Q (Itl K a) H1 :=
  comp_by Pv hn h0 (fun i ys H h p => ⟨xs, xs[i], hz i ys H (Nat.le_of_lt h) p, by simp [h]⟩) (fun ys H p => ⟨xs, hz _ ys H (Nat.le_refl _) p, Nat.le_refl _⟩) (fun i ys H y H2 h1 h2 h3 h4 => by
    obtain ⟨rfl, hy⟩ := h4
    exact hs i y ys _ (hy xs (hz i ys _ (Nat.le_of_lt h1) h3)) h2 h3) hd
def valsO (p d : Addr) : HO := .ext fun h => h.IsValuesView p d
section
variable {X : Cx}
def rVals : V → List V → Hp → VK → Prop := fun x vs H Q => ∃ d kvs, x = .ref d ∧ vs = [] ∧ Rd H d (.dK kvs) ∧ ∀ p, H p = none → Q (.ref p) (upd H p (valsO p d))
end
end L2
namespace L2
open PySem PySem.Spec PyProof.Rows
section
variable {prog : Program} {w : World} {A : Around} {E : Value → Shared → Prop}
end
section
variable {X : Cx}
end
end L2
namespace L2
open PySem PySem.Spec PyProof.Rows
structure Bl2 (mg : Str → Option Value) : Prop extends Bl mg where
  max : mg "max" = none
  min : mg "min" = none
  sorted : mg "sorted" = none
def mxI (b z : Int) : Int := if z > b then z else b
def mxD (k : Int) : List Int → Int
  | [] => k
  | b :: r => r.foldl mxI b
section
variable {prog : Program} {w : World} {A : Around}
end
section
variable {X : Cx}
def rMaxD (K : PySem.W.Frag) : V → V → Hp → VK → Prop := fun x y H Q => ∃ (p : Addr) (ns : List Int) (k : Int), x = .ref p ∧ y = .int k ∧ SqL K H p (ns.map V.int) ∧ Q (.int (mxD k ns)) H
variable {e d : Expr} {te td : TE} {p kp pos : Pos}
def tMaxD (K : PySem.W.Frag) (te td : TE) : TE := fun σ H Q => te σ H fun x H1 => td σ H1 fun y H2 => rMaxD K x y H2 Q
end
end L2
namespace L2
open PySem PySem.Spec PyProof.Rows
mutual
def T.dep : T → Nat
  | .lst ts => T.deps ts + 1
  | .dic _ ts => T.deps ts + 1
  | .tup ts => T.deps ts + 1
  | .non => 0
  | .bl _ => 0
  | .int _ => 0
  | .str _ => 0
def T.deps : List T → Nat
  | [] => 0
  | t :: ts => max (T.dep t) (T.deps ts)
end
mutual
def T.pure : T → Prop
  | .tup _ => False
  | .lst ts => T.pures ts
  | .dic ks ts => ks.Nodup ∧ T.pures ts
  | .non => True
  | .bl _ => True
  | .int _ => True
  | .str _ => True
def T.pures : List T → Prop
  | [] => True
  | t :: ts => T.pure t ∧ T.pures ts
end
theorem T.deps_le {t : T} : ∀ {ts : List T}, t ∈ ts → T.dep t ≤ T.deps ts
  | [], h => nomatch h
  | u :: ts, h => by
    show T.dep t ≤ max (T.dep u) (T.deps ts)
    rcases List.mem_cons.mp h with e | e
    · subst e; exact Nat.le_max_left _ _
    · exact Nat.le_trans (T.deps_le e) (Nat.le_max_right _ _)
section
variable {P : Program} {w : World}
open AutoSeq1 (wpAny_loadPart')
open MeetsSeq MeetsSeq2 MeetsSeq3 SeqRoads2 SeqAt
end
section
variable {X : Cx} {pins : List (Addr × Obj)} {σ : St} {H : Hp} {s : Shared}
theorem nodup_nK {ks : List (List Nat)} (h : ks.Nodup) : (ks.map nK).Nodup := by
  induction ks with
  | nil => exact List.nodup_nil
  | cons k r ih =>
    rw [List.nodup_cons] at h
    rw [List.map_cons, List.nodup_cons]
    refine ⟨fun hm => ?_, ih h.2⟩
    obtain ⟨k', hk, e⟩ := List.mem_map.mp hm
    exact h.1 (nK_inj e ▸ hk)
end
end L2
namespace L2
open PySem PySem.Spec PyProof.Rows
mutual
def T.sz : T → Nat
  | .lst ts => T.szs ts + 1
  | .dic _ ts => T.szs ts + 1
  | .tup ts => T.szs ts + 1
  | .non => 1
  | .bl _ => 1
  | .int _ => 1
  | .str _ => 1
def T.szs : List T → Nat
  | [] => 0
  | t :: ts => T.sz t + T.szs ts
end
mutual
def Occ (H : Hp) (d : Addr) : V → T → Prop
  | v, .lst ts => v = .ref d ∨ ∃ a vs, v = .ref a ∧ H a = some (.lst vs) ∧ Occs H d vs ts
  | v, .dic _ ts => v = .ref d ∨ ∃ a ps, v = .ref a ∧ H a = some (.dK ps) ∧ Occs H d (ps.map (·.2)) ts
  | v, .tup ts => v = .ref d ∨ ∃ a vs, v = .ref a ∧ H a = some (.tup vs) ∧ Occs H d vs ts
  | _, .non => False
  | _, .bl _ => False
  | _, .int _ => False
  | _, .str _ => False
def Occs (H : Hp) (d : Addr) : List V → List T → Prop
  | v :: vs, t :: ts => Occ H d v t ∨ Occs H d vs ts
  | _, _ => False
end
mutual
theorem Rep.away {H : Hp} {d : Addr} {o : HO} : ∀ (x : V) (t : T), Rep H x t → ¬ Occ H d x t → Rep (upd H d o) x t
  | _, .non, h, _ => h
  | _, .bl _, h, _ => h
  | _, .int _, h, _ => h
  | _, .str _, h, _ => h
  | x, .lst ts, ⟨a, vs, e, ha, hs⟩, n => by
    have ne : a ≠ d := fun z => n (.inl (by rw [e, z]))
    exact ⟨a, vs, e, by rw [upd_ne ne]; exact ha, Reps.away vs ts hs fun z => n (.inr ⟨a, vs, e, ha, z⟩)⟩
  | x, .dic ks ts, ⟨a, ps, e, ha, hk, hs⟩, n => by
    have ne : a ≠ d := fun z => n (.inl (by rw [e, z]))
    exact ⟨a, ps, e, by rw [upd_ne ne]; exact ha, hk, Reps.away _ ts hs fun z => n (.inr ⟨a, ps, e, ha, z⟩)⟩
  | x, .tup ts, ⟨a, vs, e, ha, hs⟩, n => by
    have ne : a ≠ d := fun z => n (.inl (by rw [e, z]))
    exact ⟨a, vs, e, by rw [upd_ne ne]; exact ha, Reps.away vs ts hs fun z => n (.inr ⟨a, vs, e, ha, z⟩)⟩
theorem Reps.away {H : Hp} {d : Addr} {o : HO} : ∀ (xs : List V) (ts : List T), Reps H xs ts → ¬ Occs H d xs ts → Reps (upd H d o) xs ts
  | _, [], h, _ => h
  | _, t :: ts, ⟨x, xr, e, h1, h2⟩, n => by
    subst e
    exact ⟨x, xr, rfl, Rep.away x t h1 fun z => n (.inl z), Reps.away xr ts h2 fun z => n (.inr z)⟩
end
mutual
theorem Occ.sub {H : Hp} {d : Addr} : ∀ (x : V) (t : T), Rep H x t → Occ H d x t → ∃ t', Rep H (.ref d) t' ∧ T.sz t' ≤ T.sz t
  | _, .non, _, h => h.elim
  | _, .bl _, _, h => h.elim
  | _, .int _, _, h => h.elim
  | _, .str _, _, h => h.elim
  | x, .lst ts, hr, h => by
    rcases h with e | ⟨a, vs, e, ha, h⟩
    · exact ⟨.lst ts, e ▸ hr, Nat.le_refl _⟩
    · obtain ⟨a', vs', e', ha', hs⟩ := hr
      rw [e] at e'; cases e'
      rw [ha] at ha'; cases ha'
      obtain ⟨t', q, l⟩ := Occs.sub vs ts hs h
      exact ⟨t', q, Nat.le_succ_of_le l⟩
  | x, .dic ks ts, hr, h => by
    rcases h with e | ⟨a, vs, e, ha, h⟩
    · exact ⟨.dic ks ts, e ▸ hr, Nat.le_refl _⟩
    · obtain ⟨a', vs', e', ha', _, hs⟩ := hr
      rw [e] at e'; cases e'
      rw [ha] at ha'; cases ha'
      obtain ⟨t', q, l⟩ := Occs.sub _ ts hs h
      exact ⟨t', q, Nat.le_succ_of_le l⟩
  | x, .tup ts, hr, h => by
    rcases h with e | ⟨a, vs, e, ha, h⟩
    · exact ⟨.tup ts, e ▸ hr, Nat.le_refl _⟩
    · obtain ⟨a', vs', e', ha', hs⟩ := hr
      rw [e] at e'; cases e'
      rw [ha] at ha'; cases ha'
      obtain ⟨t', q, l⟩ := Occs.sub vs ts hs h
      exact ⟨t', q, Nat.le_succ_of_le l⟩
theorem Occs.sub {H : Hp} {d : Addr} : ∀ (xs : List V) (ts : List T), Reps H xs ts → Occs H d xs ts → ∃ t', Rep H (.ref d) t' ∧ T.sz t' ≤ T.szs ts
  | xs, [], _, h => by cases xs <;> exact h.elim
  | _, t :: ts, ⟨x, xr, e, h1, h2⟩, h => by
    subst e
    rcases h with h | h
    · obtain ⟨t', q, l⟩ := Occ.sub x t h1 h
      exact ⟨t', q, Nat.le_trans l (Nat.le_add_right _ _)⟩
    · obtain ⟨t', q, l⟩ := Occs.sub xr ts h2 h
      exact ⟨t', q, Nat.le_trans l (Nat.le_add_left _ _)⟩
end
theorem nKs_inj : ∀ {a b : List (List Nat)}, a.map nK = b.map nK → a = b
  | [], [], _ => rfl
  | [], _ :: _, h => by simp at h
  | _ :: _, [], h => by simp at h
  | x :: a, y :: b, h => by
    rw [List.map_cons, List.map_cons] at h
    injection h with h1 h2
    rw [nK_inj h1, nKs_inj h2]
mutual
theorem Rep.one {H : Hp} : ∀ (t : T) (x : V) (t' : T), Rep H x t → Rep H x t' → t = t'
  | .non, x, t', h, h' => by
    cases (show x = .non from h)
    cases t' with
    | non => rfl
    | bl b => cases (show V.non = .bl b from h')
    | int b => cases (show V.non = .int b from h')
    | str b => cases (show V.non = .str (tx b) from h')
    | lst ts => obtain ⟨a, vs, e, _⟩ := h'; cases e
    | dic ks ts => obtain ⟨a, vs, e, _⟩ := h'; cases e
    | tup ts => obtain ⟨a, vs, e, _⟩ := h'; cases e
  | .bl c, x, t', h, h' => by
    cases (show x = .bl c from h)
    cases t' with
    | non => cases (show V.bl c = .non from h')
    | bl b => cases (show V.bl c = .bl b from h'); rfl
    | int b => cases (show V.bl c = .int b from h')
    | str b => cases (show V.bl c = .str (tx b) from h')
    | lst ts => obtain ⟨a, vs, e, _⟩ := h'; cases e
    | dic ks ts => obtain ⟨a, vs, e, _⟩ := h'; cases e
    | tup ts => obtain ⟨a, vs, e, _⟩ := h'; cases e
  | .int c, x, t', h, h' => by
    cases (show x = .int c from h)
    cases t' with
    | non => cases (show V.int c = .non from h')
    | bl b => cases (show V.int c = .bl b from h')
    | int b => cases (show V.int c = .int b from h'); rfl
    | str b => cases (show V.int c = .str (tx b) from h')
    | lst ts => obtain ⟨a, vs, e, _⟩ := h'; cases e
    | dic ks ts => obtain ⟨a, vs, e, _⟩ := h'; cases e
    | tup ts => obtain ⟨a, vs, e, _⟩ := h'; cases e
  | .str c, x, t', h, h' => by
    cases (show x = .str (tx c) from h)
    cases t' with
    | non => cases (show V.str (tx c) = .non from h')
    | bl b => cases (show V.str (tx c) = .bl b from h')
    | int b => cases (show V.str (tx c) = .int b from h')
    | str b =>
      have e : V.str (tx c) = .str (tx b) := h'
      injection e with e
      have e2 : ts (tx c) = ts (tx b) := by rw [e]
      rw [ts_tx, ts_tx] at e2
      rw [e2]
    | lst ts => obtain ⟨a, vs, e, _⟩ := h'; cases e
    | dic ks ts => obtain ⟨a, vs, e, _⟩ := h'; cases e
    | tup ts => obtain ⟨a, vs, e, _⟩ := h'; cases e
  | .lst us, x, t', ⟨a, vs, e, ha, hs⟩, h' => by
    subst e
    cases t' with
    | non => cases (show V.ref a = .non from h')
    | bl b => cases (show V.ref a = .bl b from h')
    | int b => cases (show V.ref a = .int b from h')
    | str b => cases (show V.ref a = .str (tx b) from h')
    | lst ts =>
      obtain ⟨a', vs', e', ha', hs'⟩ := h'
      cases e'
      rw [ha] at ha'; cases ha'
      rw [Reps.one us vs ts hs hs']
    | dic ks ts => obtain ⟨a', vs', e', ha', _⟩ := h'; cases e'; rw [ha] at ha'; cases ha'
    | tup ts => obtain ⟨a', vs', e', ha', _⟩ := h'; cases e'; rw [ha] at ha'; cases ha'
  | .dic js us, x, t', ⟨a, vs, e, ha, hk, hs⟩, h' => by
    subst e
    cases t' with
    | non => cases (show V.ref a = .non from h')
    | bl b => cases (show V.ref a = .bl b from h')
    | int b => cases (show V.ref a = .int b from h')
    | str b => cases (show V.ref a = .str (tx b) from h')
    | lst ts => obtain ⟨a', vs', e', ha', _⟩ := h'; cases e'; rw [ha] at ha'; cases ha'
    | dic ks ts =>
      obtain ⟨a', vs', e', ha', hk', hs'⟩ := h'
      cases e'
      rw [ha] at ha'; cases ha'
      rw [Reps.one us _ ts hs hs', nKs_inj (hk.symm.trans hk')]
    | tup ts => obtain ⟨a', vs', e', ha', _⟩ := h'; cases e'; rw [ha] at ha'; cases ha'
  | .tup us, x, t', ⟨a, vs, e, ha, hs⟩, h' => by
    subst e
    cases t' with
    | non => cases (show V.ref a = .non from h')
    | bl b => cases (show V.ref a = .bl b from h')
    | int b => cases (show V.ref a = .int b from h')
    | str b => cases (show V.ref a = .str (tx b) from h')
    | lst ts => obtain ⟨a', vs', e', ha', _⟩ := h'; cases e'; rw [ha] at ha'; cases ha'
    | dic ks ts => obtain ⟨a', vs', e', ha', _⟩ := h'; cases e'; rw [ha] at ha'; cases ha'
    | tup ts =>
      obtain ⟨a', vs', e', ha', hs'⟩ := h'
      cases e'
      rw [ha] at ha'; cases ha'
      rw [Reps.one us vs ts hs hs']
theorem Reps.one {H : Hp} : ∀ (us : List T) (xs : List V) (ts : List T), Reps H xs us → Reps H xs ts → us = ts
  | [], xs, ts, h, h' => by
    cases (show xs = [] from h)
    cases ts with
    | nil => rfl
    | cons t ts => obtain ⟨x, r, e, _⟩ := h'; cases e
  | u :: us, xs, ts, ⟨x, r, e, h1, h2⟩, h' => by
    subst e
    cases ts with
    | nil => cases (show x :: r = [] from h')
    | cons t ts =>
      obtain ⟨x', r', e', h1', h2'⟩ := h'
      cases e'
      rw [Rep.one u x t h1 h1', Reps.one us r ts h2 h2']
end
theorem valV_ix : ∀ {vs : List (Key × V)} {i : Nat} {k : Key} {y : V}, (vs.map (·.1)).Nodup → vs[i]? = some (k, y) → valV vs k = some y
  | [], i, k, y, _, h => by simp at h
  | p :: vs, 0, k, y, _, h => by
    simp only [List.getElem?_cons_zero, Option.some.injEq] at h
    subst h
    exact valV_pos rfl
  | p :: vs, i + 1, k, y, nd, h => by
    rw [List.map_cons, List.nodup_cons] at nd
    have h' : vs[i]? = some (k, y) := by simpa using h
    have ne : ¬ p.1 = k := fun e => nd.1 (List.mem_map.mpr ⟨(k, y), List.mem_of_getElem? h', e.symm⟩)
    rw [valV_neg ne]
    exact valV_ix nd.2 h'
mutual
theorem Nice.dep : ∀ (t : T) {d : Nat}, Nice d t → T.dep t ≤ d
  | .non, _, _ => Nat.zero_le _
  | .bl _, _, _ => Nat.zero_le _
  | .int _, _, _ => Nat.zero_le _
  | .str _, _, _ => Nat.zero_le _
  | .lst ts, d, h => by
    have := NiceL.dep ts h.2.2
    have := h.1
    show T.deps ts + 1 ≤ d
    omega
  | .dic ks ts, d, h => by
    have := NiceL.dep ts h.2.2.2.2.2
    have := h.1
    show T.deps ts + 1 ≤ d
    omega
  | .tup _, _, h => h.elim
theorem NiceL.dep : ∀ (ts : List T) {d : Nat}, NiceL d ts → T.deps ts ≤ d
  | [], _, _ => Nat.zero_le _
  | t :: ts, _, h => Nat.max_le.mpr ⟨Nice.dep t h.1, NiceL.dep ts h.2⟩
end
theorem one_pow5 (d : Nat) : 1 ≤ 5 ^ d := Nat.one_le_pow _ _ (by decide)
mutual
theorem Nice.sz : ∀ (t : T) {d : Nat}, Nice d t → T.sz t ≤ 5 ^ d
  | .non, d, _ => one_pow5 d
  | .bl _, d, _ => one_pow5 d
  | .int _, d, _ => one_pow5 d
  | .str _, d, _ => one_pow5 d
  | .lst ts, d, h => by
    obtain ⟨h1, h2, h3⟩ := h
    obtain ⟨e, rfl⟩ : ∃ e, d = e + 1 := ⟨d - 1, by omega⟩
    have := NiceL.sz ts h3
    have p := one_pow5 e
    show T.szs ts + 1 ≤ 5 ^ (e + 1)
    rw [Nat.add_sub_cancel] at this
    have q : ts.length * 5 ^ e ≤ 4 * 5 ^ e := Nat.mul_le_mul_right _ h2
    rw [Nat.pow_succ]; omega
  | .dic ks ts, d, h => by
    obtain ⟨h1, h2, _, _, _, h3⟩ := h
    obtain ⟨e, rfl⟩ : ∃ e, d = e + 1 := ⟨d - 1, by omega⟩
    have := NiceL.sz ts h3
    have p := one_pow5 e
    show T.szs ts + 1 ≤ 5 ^ (e + 1)
    rw [Nat.add_sub_cancel] at this
    have q : ts.length * 5 ^ e ≤ 4 * 5 ^ e := Nat.mul_le_mul_right _ h2
    rw [Nat.pow_succ]; omega
  | .tup _, _, h => h.elim
theorem NiceL.sz : ∀ (ts : List T) {d : Nat}, NiceL d ts → T.szs ts ≤ ts.length * 5 ^ d
  | [], _, _ => Nat.zero_le _
  | t :: ts, d, h => by
    have a := Nice.sz t h.1
    have b := NiceL.sz ts h.2
    show T.sz t + T.szs ts ≤ (ts.length + 1) * 5 ^ d
    rw [Nat.succ_mul]; omega
end
theorem tyS_lst {H : Hp} {a : Addr} {xs : List V} (h : H a = some (.lst xs)) : tyS H (.ref a) = some "list" := by
  show (match H a with | some (.lst _) => some "list" | some (.tup _) => some "tuple" | some (.dK _) => some "dict" | _ => none) = _; rw [h]
theorem tyS_dK {H : Hp} {a : Addr} {xs : List (Key × V)} (h : H a = some (.dK xs)) : tyS H (.ref a) = some "dict" := by
  show (match H a with | some (.lst _) => some "list" | some (.tup _) => some "tuple" | some (.dK _) => some "dict" | _ => none) = _; rw [h]
theorem Same.put {H H' : Hp} {p : Addr} (g : Same H H') (h : H p = none) (o : HO) : Same H (upd H' p o) := fun b u e => by
  rw [upd_ne (ne_of_none e h)]; exact g b u e
theorem take_succ_of {α : Type} {l : List α} {i : Nat} {a : α} (h : l[i]? = some a) : l.take (i + 1) = l.take i ++ [a] := by rw [List.take_add_one, h]; rfl
theorem T.sz_pos : ∀ t : T, 1 ≤ T.sz t
  | .non => Nat.le_refl _
  | .bl _ => Nat.le_refl _
  | .int _ => Nat.le_refl _
  | .str _ => Nat.le_refl _
  | .lst _ => Nat.le_add_left _ _
  | .dic _ _ => Nat.le_add_left _ _
  | .tup _ => Nat.le_add_left _ _
theorem T.szs_len : ∀ ts : List T, ts.length ≤ T.szs ts
  | [] => Nat.le_refl _
  | t :: ts => by
    have a := T.sz_pos t
    have b := T.szs_len ts
    show ts.length + 1 ≤ T.sz t + T.szs ts
    omega
theorem T.szs_le {t : T} : ∀ {ts : List T}, t ∈ ts → T.sz t ≤ T.szs ts
  | [], h => nomatch h
  | u :: ts, h => by
    show T.sz t ≤ T.sz u + T.szs ts
    rcases List.mem_cons.mp h with e | e
    · subst e; exact Nat.le_add_right _ _
    · exact Nat.le_trans (T.szs_le e) (Nat.le_add_left _ _)
theorem thaw_walk {H H' : Hp} {d : Addr} {o : Obj} {ps : List (Key × V)} (hd : H d = some (.dK ps)) (g : Same (upd H d (.frz o (.dK ps))) H') : Same H (L2.thaw H H') := thaw_same fun b u e => by
  by_cases hb : b = d
  · subst hb
    rw [hd] at e; cases e
    exact .inr ⟨⟨o, g _ _ upd_same⟩, by intro o v z; cases z⟩
  · exact .inl (g _ _ (by rw [upd_ne hb]; exact e))
def T.kids : T → List T
  | .lst us => us
  | .dic _ us => us
  | _ => []
def T.next (ts : List T) : List T := (ts.map T.kids).flatten
theorem Reps.append {H : Hp} {ys : List V} {vs : List T} (h' : Reps H ys vs) : ∀ {xs : List V} {us : List T}, Reps H xs us → Reps H (xs ++ ys) (us ++ vs)
  | xs, [], h => by
    cases (show xs = [] from h)
    exact h'
  | _, u :: us, ⟨x, r, e, h1, h2⟩ => by
    subst e
    exact ⟨x, r ++ ys, rfl, h1, Reps.append h' h2⟩
def T.holds (t : T) : Bool := isSub (tyT t) "list" || isSub (tyT t) "dict"
def tMid (t : TS) : TS := fun D σ H => ∃ M : St → Hp → Prop, t { D with nx := M } σ H ∧ ∀ σ' H', M σ' H' → D.nx σ' H'
theorem ps_mid {X : Cx} {st : Stmt} {t : TS} (h : PS X st t) : PS X st (tMid t) := by
  intro pins s σ H D I ⟨M, q, m⟩
  refine thn (h pins s σ H _ I q) fun f s1 z => ?_
  cases f with
  | next => obtain ⟨σ', H', J, q⟩ := z; exact ⟨σ', H', J, m _ _ q⟩
  | brk => exact z
  | cont => exact z
  | ret u => exact z
end L2
namespace L2
open PySem PySem.Spec PyProof.Rows
section
variable {X : Cx}
theorem strs_of {P : Program} {w : World} : ∀ {vs : List (Key × Value)} {ks : List Str} {us : List Value}, vs.map (·.1) = ks.map Sum.inr → us.length = vs.length → (∀ (j : Nat) (v : Value), us[j]? = some v → ∃ k x, vs[j]? = some (k, x) ∧ (mixKind P w).is k v = true) → StrsAre us ks
  | [], [], [], _, _, _ => .nil
  | p :: vs, k :: ks, u :: us, e, hl, h => by
    rw [List.map_cons, List.map_cons] at e
    injection e with e1 e2
    obtain ⟨k', x, e3, hk⟩ := h 0 u rfl
    simp only [List.getElem?_cons_zero, Option.some.injEq] at e3
    rw [e3] at e1
    have e4 : k' = Sum.inr k := e1
    rw [e4] at hk
    obtain ⟨t, et⟩ := (show ∃ t, u = Value.str k t from rel_key hk)
    subst et
    exact .cons k t (strs_of e2 (by simpa using hl) fun j v hv => by simpa using h (j + 1) v (by simpa using hv))
  | [], _ :: _, _, e, _, _ => by simp at e
  | _ :: _, [], _, e, _, _ => by simp at e
  | [], [], _ :: _, _, hl, _ => by simp at hl
  | _ :: _, _ :: _, [], _, hl, _ => by simp at hl
theorem strVals : ∀ {us : List Value} {ss : List Str}, StrsAre us ss → Vals (ss.map V.str) us
  | _, _, .nil => .nil
  | _, _, .cons x t r => .cons ⟨t, rfl⟩ (strVals r)
theorem call_sorted_d (hc : X.calm = true) : CallR X (.builtin "sorted") (fun xs H Q => ∃ (p : Addr) (kvs : List (Key × V)) (ks : List Str), xs = [.ref p] ∧ Rd H p (.dK kvs) ∧ kvs.map (·.1) = ks.map Sum.inr ∧ ks.length < 64 ∧
    ∀ l ss, H l = none → ss.Perm ks → sortedS ss = true → Q (.ref l) (upd H l (.lst (ss.map V.str)))) := by
  intro pins s σ H xs us Q I r h
  obtain ⟨p, kvs, ks, rfl, hq, hk, h64, q⟩ := h
  obtain ⟨u, rfl, rx⟩ := vals1 r
  cases rx
  obtain ⟨z, hd, vs, rel, dd⟩ := dk_rd I.hok hq
  obtain ⟨ep, hat⟩ := dd.dictAt
  have hl := rel.length
  refine PySem.Calls.call_function_entry kind_sorted plain_sorted entry_sorted (args_sorted1 _) ?_
  unfold Builtin.«sorted»
  refine wpAny_bind (m := checkCount "sorted" 1 1 _) (wpAny_pure ?_)
  refine wpAny_bind (PySem.W.kdu_collect (A := X.A.in1) (PySem.W.kdl_dict (knd := mixKind X.prog X.w) (kvs := vs) (ep := ep) hd) (show X.A.in1.handled = none from I.ok.hd hc) hat (by omega) fun h' tk acc hkp hacc => ?_)
  have hlen : acc.toList.length = vs.length := by rw [Array.length_toList]; exact hacc.1
  have hS : StrsAre acc.toList ks := strs_of (P := X.prog) (w := X.w) (by rw [← rel.keys]; exact hk) hlen fun j v e => hacc.2 j v (by rw [← Array.getElem?_toList]; exact e)
  have hkl : ks.length = vs.length := by
    have := congrArg List.length hk
    simp only [List.length_map] at this
    omega
  refine wpAny_bind (wpAny_newList ?_ (by rw [hlen]; omega))
  have hoL : (h'.push (seqObj "list" acc.toList.toArray 0)).get? h'.objs.size = some (seqObj "list" acc.toList.toArray 0) := Heap.get?_push_size _ rfl
  refine wpAny_bind (wpAny_holding (wpAny_call_entry slot_list_sort ⟨_, hoL, rfl⟩ entry_list_sort (list_sort_treeK strKind_oneLt hoL hS.keysOf (fun v₁ v₂ rest e => keyKind_strs (by rw [← e]; exact hS)) (by omega) fun st' a1 a2 => ⟨_, rfl, ?_⟩) (args_list_sort _)))
  refine wpAny_pure ⟨_, rfl, ?_⟩
  obtain ⟨ss', h1, h2, h3⟩ := sorted_out_str hS a1 a2
  have I' : Inv X pins σ H { s with heap := h', toks := tk } := I.kept (t' := tk) hkp
  have hL : h'.objs.size < (h'.push (seqObj "list" acc.toList.toArray 0)).objs.size := Heap.lt_size hoL
  obtain ⟨e, he⟩ := sortedHeap_at (out := (arrOf st').map (·.2)) hoL
  have rS : Vals (ss'.map V.str) ((arrOf st').map (·.2)).toList := strVals h1
  have hp := h2.length_eq
  refine ⟨.ref h'.objs.size, _, I'.laid (a := h'.objs.size) (t' := tk) (h' := sortedHeap (h'.push (seqObj "list" acc.toList.toArray 0)) h'.objs.size acc.toList ((arrOf st').map (·.2))) (fun b u eb => ?_) (Nat.le_refl _) (o := .lst (ss'.map V.str)) ?_, rfl, q _ ss' (I'.hok.fresh (Nat.le_refl _)) h2 h3⟩
  · have lt : b < h'.objs.size := Heap.lt_size eb
    exact (sortedHeap_old (Nat.ne_of_lt lt) (Nat.lt_trans lt hL)).trans (Heap.get?_push_of_some _ eb)
  · exact ⟨by rw [List.length_map]; omega, _, e, rS, by rw [Array.toArray_toList]; exact he⟩
end
end L2
namespace L2
open PySem PySem.Spec PyProof.Rows
section
variable {X : Cx}
end
end L2
namespace L2
open PySem PySem.Spec PyProof.Rows
def leK (a b : List Nat) : Bool := !decide (b < a)
theorem leK_trans (a b c : List Nat) (h1 : leK a b = true) (h2 : leK b c = true) : leK a c = true := by
  have x1 : a ≤ b := by simpa [leK] using h1
  have x2 : b ≤ c := by simpa [leK] using h2
  have := List.le_trans x1 x2
  simpa [leK] using this
theorem leK_total (a b : List Nat) : (leK a b || leK b a) = true := by
  rcases List.le_total a b with h | h
  · have : leK a b = true := by simpa [leK] using h
    rw [this]; rfl
  · have : leK b a = true := by simpa [leK] using h
    rw [this, Bool.or_true]
theorem leK_anti {a b : List Nat} (h1 : leK a b = true) (h2 : leK b a = true) : a = b := by
  have x1 : a ≤ b := by simpa [leK] using h1
  have x2 : b ≤ a := by simpa [leK] using h2
  exact List.le_antisymm x1 x2
def sortK (ks : List (List Nat)) : List (List Nat) := ks.mergeSort leK
theorem sortK_perm (ks : List (List Nat)) : (sortK ks).Perm ks := List.mergeSort_perm ks leK
theorem sortK_sorted (ks : List (List Nat)) : (sortK ks).Pairwise (fun a b => leK a b = true) := List.pairwise_mergeSort leK_trans leK_total ks
theorem sorted_one : ∀ {a b : List (List Nat)}, a.Perm b → a.Pairwise (fun a b => leK a b = true) → b.Pairwise (fun a b => leK a b = true) → a = b
  | [], b, p, _, _ => (List.nil_perm.mp p).symm
  | x :: a, [], p, _, _ => absurd p.length_eq (by simp)
  | x :: a, y :: b, p, h1, h2 => by
    rw [List.pairwise_cons] at h1 h2
    have hx : x ∈ y :: b := p.mem_iff.mp List.mem_cons_self
    have hy : y ∈ x :: a := p.mem_iff.mpr List.mem_cons_self
    have e : x = y := by
      rcases List.mem_cons.mp hx with z | z
      · exact z
      · rcases List.mem_cons.mp hy with z' | z'
        · exact z'.symm
        · exact leK_anti (h1.1 y z') (h2.1 x z)
    subst e
    rw [sorted_one p.cons_inv h1.2 h2.2]
theorem rising_pair : ∀ (p : Str) (l : List Str), risingS p l = true → ((p :: l).map ts).Pairwise (fun a b => leK a b = true)
  | p, [], _ => List.pairwise_singleton _ _
  | p, x :: r, h => by
    have h' : (!ltCps x.cps.toList p.cps.toList && risingS x r) = true := h
    rw [Bool.and_eq_true] at h'
    have ih := rising_pair x r h'.2
    have hpx : leK (ts p) (ts x) = true := by
      have := h'.1
      rw [ltCps_eq] at this
      exact this
    rw [List.map_cons, List.pairwise_cons]
    refine ⟨fun y hy => ?_, ih⟩
    rw [List.map_cons] at hy ih
    rw [List.pairwise_cons] at ih
    rcases List.mem_cons.mp hy with z | z
    · rw [z]; exact hpx
    · exact leK_trans _ _ _ hpx (ih.1 y z)
theorem sortedS_pair {l : List Str} (h : sortedS l = true) : (l.map ts).Pairwise (fun a b => leK a b = true) := by
  cases l with
  | nil => exact List.Pairwise.nil
  | cons p r => exact rising_pair p r h
theorem sorted_names {ss : List Str} {ks : List (List Nat)} (hp : ss.Perm (ks.map tx)) (hs : sortedS ss = true) : ss = (sortK ks).map tx := by
  have e : ss.map ts = sortK ks := by
    refine sorted_one ?_ (sortedS_pair hs) (sortK_sorted ks)
    have z := hp.map ts
    rw [List.map_map] at z
    have e2 : ks.map (ts ∘ tx) = ks := by
      conv => rhs; rw [← List.map_id ks]
      exact List.map_congr_left fun k _ => ts_tx k
    rw [e2] at z
    exact z.trans (sortK_perm ks).symm
  have e3 : (ss.map ts).map tx = ss := by
    rw [List.map_map]
    conv => rhs; rw [← List.map_id ss]
    exact List.map_congr_left fun k _ => tx_ts k
  rw [← e3, e]
inductive C where
  | non | bl (b : Bool) | int (i : Int) | str (x : List Nat) | row (xs : List C) | rcd (xs : List C) | odd
def C.ord : C → Nat
  | .non => 0
  | .bl _ => 1
  | .int _ => 2
  | .str _ => 3
  | .row _ => 4
  | .rcd _ => 5
  | .odd => 6
def lookT (k : List Nat) : List (List Nat) → List T → T
  | k' :: ks, c :: cs => if k' = k then c else lookT k ks cs
  | _, _ => .tup []
mutual
def T.few : T → Prop
  | .dic ks ts => ks.Nodup ∧ ks.length < 64 ∧ ks.length = ts.length ∧ T.fews ts
  | .lst ts => ts.length ≤ 100000 ∧ T.fews ts
  | .tup _ => False
  | .non => True
  | .bl _ => True
  | .int _ => True
  | .str _ => True
def T.fews : List T → Prop
  | [] => True
  | t :: ts => T.few t ∧ T.fews ts
end
theorem lookT_ix {k : List Nat} : ∀ {ks : List (List Nat)} {ts : List T} {i : Nat} {t : T}, ks.Nodup → ks[i]? = some k → ts[i]? = some t → lookT k ks ts = t
  | [], _, i, _, _, h, _ => by simp at h
  | k' :: ks, [], i, _, _, _, h => by simp at h
  | k' :: ks, u :: ts, 0, t, nd, h1, h2 => by
    simp only [List.getElem?_cons_zero, Option.some.injEq] at h1 h2
    subst h1 h2
    exact if_pos rfl
  | k' :: ks, u :: ts, i + 1, t, nd, h1, h2 => by
    rw [List.nodup_cons] at nd
    have h1' : ks[i]? = some k := by simpa using h1
    have ne : ¬ k' = k := fun e => nd.1 (e ▸ List.mem_of_getElem? h1')
    show (if k' = k then u else lookT k ks ts) = t
    rw [if_neg ne]
    exact lookT_ix nd.2 h1' (by simpa using h2)
theorem lookT_mem {k : List Nat} : ∀ {ks : List (List Nat)} {ts : List T}, k ∈ ks → ks.length = ts.length → lookT k ks ts ∈ ts
  | [], _, h, _ => nomatch h
  | k' :: ks, [], _, h => by simp at h
  | k' :: ks, u :: ts, h, hl => by
    show (if k' = k then u else lookT k ks ts) ∈ u :: ts
    split
    · exact List.mem_cons_self
    · rename_i ne
      rcases List.mem_cons.mp h with e | e
      · exact absurd e.symm ne
      · exact List.mem_cons_of_mem _ (lookT_mem e (by simpa using hl))
theorem mem_sortK {k : List Nat} {ks : List (List Nat)} : k ∈ sortK ks ↔ k ∈ ks := (sortK_perm ks).mem_iff
theorem Rep.at_name {H : Hp} {ps : List (Key × V)} {ks : List (List Nat)} {us : List T} (nk : ks.Nodup) (hk : ps.map (·.1) = ks.map fun k => (Sum.inr (tx k) : Key)) (hs : Reps H (ps.map (·.2)) us) {k : List Nat} (hm : k ∈ ks) :
    ∃ v, valV ps (Sum.inr (tx k)) = some v ∧ Rep H v (lookT k ks us) := by
  obtain ⟨j, hj⟩ := List.mem_iff_getElem?.mp hm
  have hp : (ps.map (·.1))[j]? = some (Sum.inr (tx k) : Key) := by rw [hk, List.getElem?_map, hj]; rfl
  rw [List.getElem?_map] at hp
  cases hpj : ps[j]? with
  | none => rw [hpj] at hp; cases hp
  | some kv =>
    rw [hpj] at hp
    have ek : kv.1 = (Sum.inr (tx k) : Key) := Option.some.inj hp
    have hpj' : ps[j]? = some ((Sum.inr (tx k) : Key), kv.2) := by rw [hpj, ← ek]
    obtain ⟨t, ht, hr⟩ := hs.get (i := j) (v := kv.2) (by rw [List.getElem?_map, hpj]; rfl)
    refine ⟨kv.2, valV_ix (by rw [hk]; exact nodup_nK nk) hpj', ?_⟩
    rw [lookT_ix nk hj ht]
    exact hr
end L2
namespace L2
open PySem PySem.Spec PyProof.Rows
def LtM (P : Program) (w : World) (A : Around) (s : Shared) (u v : Value) (b : Bool) : Prop := ∀ (E : Value → Shared → Prop) (Q : Value → Shared → Prop), Q (.bool b) s → wpAny (model P w) A (richCompare .Lt u v) Q E s
def EqB (P : Program) (w : World) (A : Around) (s : Shared) (u v : Value) (b : Bool) : Prop := ∀ (E : Value → Shared → Prop) (Q : Bool → Shared → Prop), Q b s → wpAny (model P w) A (eqBool u v) Q E s
inductive Zc (P : Program) (w : World) (A : Around) (s : Shared) : List Value → List Value → Int → Prop
  | nil : Zc P w A s [] [] 0
  | less {y : Value} {ys : List Value} : Zc P w A s [] (y :: ys) (-1)
  | more {x : Value} {xs : List Value} : Zc P w A s (x :: xs) [] 1
  | eq {x y : Value} {xs ys : List Value} {c : Int} : EqB P w A s x y true → Zc P w A s xs ys c → Zc P w A s (x :: xs) (y :: ys) c
  | ne {x y : Value} {xs ys : List Value} {c : Int} : EqB P w A s x y false → LtM P w A s x y (decide (c < 0)) → c ≠ 0 → Zc P w A s (x :: xs) (y :: ys) c
section
variable {P : Program} {w : World} {A : Around} {s : Shared} {E : Value → Shared → Prop}
end
section
variable {X : Cx} {pins : List (Addr × Obj)} {σ : St} {H : Hp} {s : Shared}
end
end L2
namespace L2
open PySem PySem.Spec PyProof.Rows
def rawC : C → T
  | .str x => .str x
  | _ => .non
mutual
def rk : C → T
  | .non => .tup [.int 0]
  | .bl b => .tup [.int 1, .bl b]
  | .int i => .tup [.int 2, .int i]
  | .str x => .tup [.int 3, .str x]
  | .row cs => .tup [.int 4, .tup (rks cs)]
  | .rcd cs => .tup [.int 5, .tup (rkps cs)]
  | .odd => .non
def rks : List C → List T
  | [] => []
  | c :: cs => rk c :: rks cs
def rkps : List C → List T
  | [] => []
  | c :: cs => rkq c :: rkps cs
def rkq : C → T
  | .row cs => .tup (rkl cs)
  | .non => .non
  | .bl _ => .non
  | .int _ => .non
  | .str _ => .non
  | .rcd _ => .non
  | .odd => .non
def rkl : List C → List T
  | [] => []
  | c :: cs => rawC c :: rks cs
end
mutual
def C.ok : C → Prop
  | .odd => False
  | .row cs => C.oks cs
  | .rcd cs => C.okps cs
  | .non => True
  | .bl _ => True
  | .int _ => True
  | .str _ => True
def C.oks : List C → Prop
  | [] => True
  | c :: cs => C.ok c ∧ C.oks cs
def C.okps : List C → Prop
  | [] => True
  | c :: cs => C.okq c ∧ C.okps cs
def C.okq : C → Prop
  | .row cs => C.okl cs
  | .non => False
  | .bl _ => False
  | .int _ => False
  | .str _ => False
  | .rcd _ => False
  | .odd => False
def C.okl : List C → Prop
  | [] => False
  | c :: cs => (∃ k, c = .str k) ∧ cs.length = 1 ∧ C.oks cs
end
theorem T.deps_of {n : Nat} {ts : List T} (h : ∀ t ∈ ts, T.dep t ≤ n) : T.deps ts ≤ n := by
  induction ts with
  | nil => exact Nat.zero_le _
  | cons t ts ih => exact Nat.max_le.mpr ⟨h t List.mem_cons_self, ih fun u hu => h u (List.mem_cons_of_mem _ hu)⟩
section
variable {X : Cx}
end
end L2
namespace L2
open PySem PySem.Spec PyProof.Rows
theorem range_get {α : Type} : ∀ (l : List α), (List.range l.length).filterMap (l[·]?) = l
  | [] => rfl
  | a :: l => by
    rw [List.length_cons, List.range_succ_eq_map, List.filterMap_cons]
    show a :: List.filterMap _ _ = _
    rw [List.filterMap_map]
    congr 1
    exact range_get l
theorem range_rev (n : Nat) : sliceRange ((n : Int) - 1) (-1) (-1) = (List.range n).reverse := by
  unfold sliceRange
  apply List.ext_getElem
  · by_cases h : n = 0
    · simp [h]
    · simp
      omega
  · intro i h1 h2
    simp at h2
    simp
    omega
theorem arr_rev {α : Type} (xs : Array α) : (List.range xs.size).reverse.filterMap (xs[·]?) = xs.toList.reverse := by
  rw [List.filterMap_reverse]
  congr 1
  have z := range_get xs.toList
  rw [Array.length_toList] at z
  simpa using z
theorem pick_rev (items : Array Value) : slicePick items none none (some (-1)) = items.toList.reverse.toArray := by
  unfold slicePick
  have hb : sliceBounds none none (some (-1)) items.size = ((items.size : Int) - 1, -1, -1) := by first | rfl | simp [sliceBounds]
  rw [hb]
  show ((sliceRange ((items.size : Int) - 1) (-1) (-1)).filterMap (items[·]?)).toArray = _
  rw [range_rev, arr_rev]
section
variable {X : Cx} {e k : Expr} {te : TE} {tk : TO} {pos p2 : Pos}
end
end L2
namespace L2
open PySem PySem.Spec PyProof.Rows
mutual
def T.calm : T → Prop
  | .int i => -(10 ^ 12) ≤ i ∧ i ≤ 10 ^ 12
  | .str x => x.length ≤ 100
  | .lst ts => T.calms ts
  | .dic _ ts => T.calms ts
  | .tup ts => T.calms ts
  | .non => True
  | .bl _ => True
def T.calms : List T → Prop
  | [] => True
  | t :: ts => T.calm t ∧ T.calms ts
end
structure Fit (d z : Nat) (t : T) : Prop where
  few : T.few t
  calm : T.calm t
  dep : T.dep t ≤ d
  sz : T.sz t ≤ z
theorem pick_any {K : PySem.W.Frag} {H : Hp} {p : Addr} {xs : List V} {i : Int} {Q : VK} (h : H p = some (.lst xs)) (h0 : 0 ≤ i) (h1 : i < xs.length) (q : ∀ x ∈ xs, Q x H) : rIxL K (.ref p) (.int i) H Q := by
  obtain ⟨x, hx, hm⟩ := atI_of h0 h1
  exact rIxL_i (SqL.of h) hx (q x hm)
end L2
namespace L2
open PySem PySem.Spec PyProof.Rows
section
variable {P : Program} {w : World}
end
section
variable {X : Cx}
end
theorem szs_snoc (t : T) : ∀ (ts : List T), T.szs (ts ++ [t]) = T.szs ts + T.sz t
  | [] => by show T.sz t + 0 = 0 + T.sz t; omega
  | u :: ts => by
    show T.sz u + T.szs (ts ++ [t]) = T.sz u + T.szs ts + T.sz t
    rw [szs_snoc t ts]; omega
end L2
namespace L2
open PySem PySem.Spec PyProof.Rows
theorem cut_to (xs : List V) (i : Nat) : cutV xs none (some (i : Int)) = xs.take i := by
  unfold cutV
  rw [HT.sIx_nat]
  show (xs.drop 0).take (min i xs.length - 0) = _
  rw [List.drop_zero, Nat.sub_zero]
  by_cases h : i ≤ xs.length
  · rw [Nat.min_eq_left h]
  · rw [Nat.min_eq_right (by omega), List.take_length, List.take_of_length_le (by omega)]
theorem cut_from (xs : List V) (i : Nat) : cutV xs (some (i : Int)) none = xs.drop i := by
  unfold cutV
  rw [HT.sIx_nat]
  show (xs.drop (min i xs.length)).take (xs.length - min i xs.length) = _
  by_cases h : i ≤ xs.length
  · rw [Nat.min_eq_left h, List.take_of_length_le (by rw [List.length_drop]; omega)]
  · rw [Nat.min_eq_right (by omega), List.drop_length, List.drop_of_length_le (by omega), List.take_nil]
theorem szs_append : ∀ (a b : List T), T.szs (a ++ b) = T.szs a + T.szs b
  | [], b => by show T.szs b = 0 + T.szs b; omega
  | u :: a, b => by
    show T.sz u + T.szs (a ++ b) = T.sz u + T.szs a + T.szs b
    rw [szs_append a b]; omega
theorem sz_pos : ∀ (t : T), 1 ≤ T.sz t
  | .lst ts => Nat.succ_le_succ (Nat.zero_le _)
  | .dic _ ts => Nat.succ_le_succ (Nat.zero_le _)
  | .tup ts => Nat.succ_le_succ (Nat.zero_le _)
  | .non => Nat.le_refl _
  | .bl _ => Nat.le_refl _
  | .int _ => Nat.le_refl _
  | .str _ => Nat.le_refl _
theorem len_szs : ∀ (ts : List T), ts.length ≤ T.szs ts
  | [] => Nat.le_refl _
  | t :: ts => by
    have := len_szs ts
    have := sz_pos t
    show ts.length + 1 ≤ T.sz t + T.szs ts
    omega
end L2
namespace L2
open PySem PySem.Spec PyProof.Rows
section
variable {X : Cx} {pins : List (Addr × Obj)} {σ σ' : St} {H H' : Hp} {s s' : Shared}
end
def hide (H : Hp) (d : Addr) : Hp := fun b => if b = d then none else H b
theorem hide_ne {H : Hp} {d b : Addr} (h : b ≠ d) : hide H d b = H b := if_neg h
theorem hide_at {H : Hp} {d : Addr} : hide H d d = none := if_pos rfl
theorem hide_self {H : Hp} {d : Addr} : Same (hide H d) H := fun b v e => by
  by_cases h : b = d
  · subst h; rw [hide_at] at e; cases e
  · rw [hide_ne h] at e; exact e
theorem hide_mono {H H' : Hp} {d : Addr} (h : Same H H') : Same (hide H d) (hide H' d) := fun b v e => by
  by_cases hb : b = d
  · subst hb; rw [hide_at] at e; cases e
  · rw [hide_ne hb] at e ⊢; exact h b v e
end L2
namespace L2
open PySem PySem.Spec PyProof.Rows
theorem ix_listC {X : Cx} {K : PySem.W.Frag} (h : X.K = K) : IxR X (rIxL K) := by subst h; exact ix_list
end L2
namespace L2
open PySem PySem.Spec PyProof.Rows PySem.Builtin PySem.Builtin.Str
section
variable {prog : Program} {w : World} {A : Around} {E : Value → Shared → Prop} {s : Shared} {x y : Str} {t u : Tok} {Q : Value → Shared → Prop}
theorem split_new (hy : (y.length == 0) = false) (hx : x.length ≤ 1000000)
    (q : ∀ (l : List (Str × Tok)) (k : Nat), l.map (·.1) = Txt.split x y → Q (.ref s.heap.objs.size) { s with heap := s.heap.push { cls := .type "list", data := .seq (strValues l).toArray }, toks := k }) :
    wpAny (model prog w) A (call (.builtin "str.split") [.str x t, .str y u]) Q E s := by
  have hz : x.length ≤ sizeLine := by rw [sizeLine_eq]; omega
  cases c1 : (decide (x.length < y.length) || decide (PySem.Builtin.Str.strKind x < PySem.Builtin.Str.strKind y)) with
  | true =>
    refine call_meets F.slot_str_split (typeIs_str _ _ _) F.entry_str_split (F.args_str_split_2 _ _)
      (meets_str_split_cannot_occur x y t u c1) ?_
    exact q [(x, t)] s.toks (by unfold Txt.split; rw [if_pos c1]; rfl)
  | false =>
    have n1 : ¬ ((decide (x.length < y.length) || decide (PySem.Builtin.Str.strKind x < PySem.Builtin.Str.strKind y)) = true) := by rw [c1]; exact Bool.false_ne_true
    cases c2 : (occurrences x y 0 x.length (x.length + 1)).isEmpty with
    | true =>
      refine call_meets F.slot_str_split (typeIs_str _ _ _) F.entry_str_split (F.args_str_split_2 _ _)
        (meets_str_split_not_found x y t u c1 hy c2) ?_
      exact q [(x, t)] s.toks (by unfold Txt.split; rw [if_neg n1, if_pos c2]; rfl)
    | false =>
      have n2 : ¬ ((occurrences x y 0 x.length (x.length + 1)).isEmpty = true) := by rw [c2]; exact Bool.false_ne_true
      have hn : (partsBetween x (occurrences x y 0 x.length (x.length + 1)) y.length).length ≤ sizeLine := by
        have := StrLaws.occ_length_le x y 0 x.length (x.length + 1)
        rw [length_partsBetween, sizeLine_eq]; omega
      refine call_meets F.slot_str_split (typeIs_str _ _ _) F.entry_str_split (F.args_str_split_2 _ _)
        (meets_str_split_sep x y t u c1 hy c2 hz hn) ?_
      have z := q (numbered s.toks (partsBetween x (occurrences x y 0 x.length (x.length + 1)) y.length)) (s.toks + (partsBetween x (occurrences x y 0 x.length (x.length + 1)) y.length).length)
        ((numbered_texts _ _).trans (by unfold Txt.split; rw [if_neg n1, if_neg n2]))
      rw [← strsFrom_eq] at z
      exact z
end
theorem kind_pos (x : Str) : 1 ≤ PySem.Builtin.Str.strKind x := by
  unfold PySem.Builtin.Str.strKind
  split
  · exact Nat.le_refl _
  · split <;> decide
theorem glue_one (z x : Str) : glued z [x] = x := rfl
theorem join_split_is (x : Str) : Txt.join (Str.ofString "''") (Txt.split x (Str.ofString "'")) = Txt.replace x (Str.ofString "'") (Str.ofString "''") := by
  have e0 : ((Str.ofString "'").length == 0) = false := by decide +kernel
  have k1 : PySem.Builtin.Str.strKind (Str.ofString "'") = 1 := by decide +kernel
  have l1 : (Str.ofString "'").length = 1 := by decide +kernel
  unfold Txt.join Txt.split Txt.replace
  cases c1 : (decide (x.length < (Str.ofString "'").length) || decide (PySem.Builtin.Str.strKind x < PySem.Builtin.Str.strKind (Str.ofString "'"))) with
  | true =>
    have hx : x = tx [] := by
      have := kind_pos x
      simp only [Bool.or_eq_true, decide_eq_true_eq, k1, l1] at c1
      have h0 : x.length = 0 := by omega
      apply str_ext
      rw [ts_len] at h0
      exact List.eq_nil_of_length_eq_zero h0
    subst hx
    rw [if_pos rfl, glue_one]
    decide +kernel
  | false =>
    rw [if_neg Bool.false_ne_true]
    cases c2 : (occurrences x (Str.ofString "'") 0 x.length (x.length + 1)).isEmpty with
    | true => rw [if_pos rfl, Bool.true_or, if_pos rfl, glue_one]
    | false => rw [if_neg Bool.false_ne_true, e0, Bool.false_and, Bool.or_false, if_neg Bool.false_ne_true]
theorem replace_len (x y z : Str) : (Txt.replace x y z).length ≤ x.length + (x.length + 1) * z.length := by
  unfold Txt.replace
  split
  · omega
  · have h1 := StrLaws.occ_length_le x y 0 x.length (x.length + 1)
    have hy : (glued y (partsBetween x (occurrences x y 0 x.length (x.length + 1)) y.length)).length = x.length := by rw [StrLaws.glued_between_self]
    rw [size_glued, length_partsBetween, Nat.add_sub_cancel] at hy
    rw [size_glued, length_partsBetween, Nat.add_sub_cancel]
    have h2 : (occurrences x y 0 x.length (x.length + 1)).length * z.length ≤ (x.length + 1) * z.length := Nat.mul_le_mul_right _ h1
    omega
section
variable {X : Cx}
def rJoinG (K : PySem.W.Frag) : V → List V → Hp → VK → Prop := fun x vs H Q => ∃ (g : Str) (p : Addr) (ys : List Str), x = .str g ∧ vs = [.ref p] ∧ SqL K H p (ys.map V.str) ∧ (ys.map (·.length)).sum + ys.length * g.length ≤ 16777216 ∧ Q (.str (Txt.join g ys)) H
theorem mt_joinG : MtR X "str.join" (rJoinG X.K) := by
  intro pins s σ H x vs v us Q I rx rv h
  obtain ⟨g, p, ys, rfl, rfl, hq, hz, q⟩ := h
  obtain ⟨t, rfl⟩ := rx
  obtain ⟨u, rfl, ru⟩ := rv.one
  cases ru
  obtain ⟨its, r, pl, _⟩ := I.list hq
  exact join_list (ys := ys) pl.isList (by simpa using strsAre_of r) hz fun t' k => ⟨.str (Txt.join g ys), H, I.tok _, ⟨_, rfl⟩, q⟩
def rSplit : V → List V → Hp → VK → Prop := fun x vs H Q => ∃ (z y : Str), x = .str z ∧ vs = [.str y] ∧ y.length ≠ 0 ∧ z.length ≤ 1000000 ∧ ∀ l, H l = none → Q (.ref l) (upd H l (.lst ((Txt.split z y).map V.str)))
theorem strVals_of : ∀ (l : List (Str × Tok)), Vals ((l.map (·.1)).map V.str) (strValues l)
  | [] => .nil
  | p :: l => .cons ⟨p.2, rfl⟩ (strVals_of l)
theorem mt_split : MtR X "str.split" rSplit := by
  intro pins s σ H x vs v us Q I rx rv h
  obtain ⟨z, y, rfl, rfl, hy, hz, q⟩ := h
  obtain ⟨t, rfl⟩ := rx
  obtain ⟨u, rfl, t', rfl⟩ := rv.one
  refine split_new (by simp [hy]) hz fun l k e => ?_
  have hf : H s.heap.objs.size = none := I.hok.fresh (Nat.le_refl _)
  refine ⟨.ref s.heap.objs.size, upd H s.heap.objs.size (.lst ((Txt.split z y).map V.str)), I.laid (fun b u e => Heap.get?_push_of_some _ e) (Nat.le_refl _) ?_, rfl, q _ hf⟩
  refine ⟨?_, strValues l, 0, ?_, Heap.get?_push_size _ rfl⟩
  · have := split_le z y
    rw [List.length_map, sizeLine_eq]; omega
  · rw [← e]; exact strVals_of l
def PEt (X : Cx) (e : Expr) (t : TE) : Prop :=
  ∀ (pins : List (Addr × Obj)) (s : Shared) (σ : St) (H : Hp) (Q : VK), Inv X pins σ H s → 0 < s.toks → t σ H Q → wpAny (model X.prog X.w) X.A (eval e X.env) (EP X pins σ Q) X.xe s
theorem pe_op_lit {op : Operator} {r : R2} {z : Str} {j : Nat} {b : Expr} {tb : TE} {p1 pos : Pos} (ho : OpR X (binaryOp op) r) (hb : PEt X b tb) : PE X (.BinOp (.Constant (.str z) j p1) op b pos) (tOp r (tC (.str z)) tb) := by
  intro pins s σ H Q I h
  refine wpAny_BinOp (Calls.Constant_str ?_)
  refine thn (hb pins _ σ H _ (I.tok _) (Nat.succ_pos _) h) fun u s2 ⟨y, H2, I2, r2, q2⟩ => ?_
  exact ho pins s2 σ H2 (.str z) y _ u Q I2 ⟨_, rfl⟩ r2 q2
def tRepl (i : Nat) (y z : Str) : TE := fun σ H Q => ∃ x, σ[i]? = some (some (.str x)) ∧ x.length ≤ 1000000 ∧ Q (.str (Txt.replace x y z)) H
theorem pet_replace {x : Str} {i : Nat} {y z : Str} {j1 j2 : Nat} {p0 p1 p2 apos cpos : Pos} (hN : X.N[i]? = some x) (hv : Vis X.env.scope x) (hyz : (y == z) = false) (hz : z.length ≤ 14)
    (hline : (apos.endLine == cpos.line) = true := by rfl) (hd : (x == ("__debug__" : Str)) = false := by decide) (hcd : (x == ("__classdict__" : Str)) = false := by decide) :
    PEt X (.Call (.Attribute (.Name x p0) "replace" apos) [.Constant (.str y) j1 p1, .Constant (.str z) j2 p2] [] cpos) (tRepl i y z) := by
  intro pins s σ H Q I h0 h
  obtain ⟨vx, e, hl, q⟩ := h
  refine wpAny_Call_method_late rfl rfl hline rfl ?_
  obtain ⟨m, hn, hlk⟩ := I.loc
  obtain ⟨u, ⟨t, ru⟩, l⟩ := hlk i x (.str vx) hN e hv
  subst ru
  have fin : MethodOn X.prog X.w X.A "replace" cpos (.str vx t) (backTo cpos (starEach [.Constant (.str y) j1 p1, .Constant (.str z) j2 p2] X.env)) (EP X pins σ Q) X.xe s := by
    refine ⟨"str", "str.replace", F.plainAttrs_str, F.slot_str_replace, F.type_str_replace, typeIs_str _ _ _, (fun _ e => nomatch e), ?_⟩
    refine Calls.callWith_builtin rfl (Calls.evalArgs_plain ?_)
    refine Calls.spliced_cons (Calls.Constant_str (k := j1) (pos := p1) (Calls.spliced_cons (Calls.Constant_str (k := j2) (pos := p2) (Calls.spliced_nil ?_))))
    refine SC.replaceW (Nat.pos_iff_ne_zero.mp h0) (Nat.succ_ne_zero _) (fun c => absurd (show s.toks = s.toks + 1 from c) (by omega)) hyz (by omega) hz fun t' k => ?_
    exact ⟨.str (Txt.replace vx y z), H, I.tok _, ⟨_, rfl⟩, q⟩
  rcases l with ⟨hk, hm⟩ | ⟨hk, c, hc, hcell⟩
  · exact wpAny_Name (wpAny_loadName_local I.ok.kind hk hn hm fin) hd
  · rcases hk with hk | hk
    · exact wpAny_Name (wpAny_loadName_cell I.ok.kind hk hc hcell fin) hd
    · exact wpAny_Name (wpAny_loadName_free I.ok.kind hk hc hcell fin hcd) hd
end
structure Bl3 (mg : Str → Option Value) : Prop extends Bl2 mg where
  abs : mg "abs" = none
end L2
namespace L2
open PySem PySem.Spec PyProof.Rows
def cellF (ns : List Int) (k : Int) : Int :=
  let m := if ns = [] then k * 7919 else (k * 7919 + k / ns.length * 104729 + ns.getD (k % ns.length).toNat 0 * 48271) % 1000003
  (m * m / 11 + 13 * m) % 1000003
theorem cellF_lo (ns : List Int) (k : Int) : 0 ≤ cellF ns k := Int.emod_nonneg _ (by decide)
theorem cellF_hi (ns : List Int) (k : Int) : cellF ns k < 1000003 := Int.emod_lt_of_pos _ (by decide)
def numF (m : Int) : Int := if m % 3 = 0 then m / 3 % 41 - 20 else if m % 3 = 1 then m ^ 4 % 2000000000001 - 1000000000000
  else ([1000000000000, -1000000000000, 999999999999, 0, 1, -1, 100000000000, 999] : List Int).getD (m / 3 % 8).toNat 0
theorem getD_in {α : Type} {xs : List α} {i : Int} (d : α) (h0 : 0 ≤ i) (h1 : i < xs.length) : xs.getD i.toNat d ∈ xs := by
  have h : i.toNat < xs.length := by omega
  rw [List.getD_eq_getElem?_getD, List.getElem?_eq_getElem h]
  exact List.getElem_mem h
theorem numF_in (m : Int) : -(10 ^ 12) ≤ numF m ∧ numF m ≤ 10 ^ 12 := by
  unfold numF
  split
  · omega
  · split
    · have h1 := Int.emod_nonneg (m ^ 4) (show (2000000000001 : Int) ≠ 0 by decide)
      have h2 := Int.emod_lt_of_pos (m ^ 4) (show (0 : Int) < 2000000000001 by decide)
      omega
    · have h := getD_in (xs := ([1000000000000, -1000000000000, 999999999999, 0, 1, -1, 100000000000, 999] : List Int)) (i := m / 3 % 8) 0 (by omega) (by simp only [List.length_cons, List.length_nil]; omega)
      revert h
      generalize ([1000000000000, -1000000000000, 999999999999, 0, 1, -1, 100000000000, 999] : List Int).getD (m / 3 % 8).toNat 0 = z
      intro h
      simp only [List.mem_cons, List.not_mem_nil, or_false] at h
      rcases h with rfl | rfl | rfl | rfl | rfl | rfl | rfl | rfl <;> decide
def chF (i : Int) : Nat := (letL ++ figL).getD i.toNat 0
theorem chF_at {i : Int} (h0 : 0 ≤ i) (h1 : i < 36) : atI (letL ++ figL) i = some (chF i) := atI_getD h0 (by show i < ((36 : Nat) : Int); omega)
theorem chF_in {i : Int} (h0 : 0 ≤ i) (h1 : i < 36) : chF i ∈ letL ++ figL := getD_in 0 h0 (by show i < ((36 : Nat) : Int); omega)
theorem chF_let {i : Int} (h0 : 0 ≤ i) (h1 : i < 26) : chF i ∈ letL := by
  obtain ⟨c, e, h⟩ := at_l26 h0 h1
  rw [chF_at h0 (by omega)] at e
  cases e
  exact h
def sizF (m : Int) : Int := ([1, 1 + m / 3 % 4, 1 + m / 3 % 12] : List Int).getD (m % 3).toNat 0
theorem sizF_in (m : Int) : 1 ≤ sizF m ∧ sizF m ≤ 12 := by
  unfold sizF
  have h := getD_in (xs := ([1, 1 + m / 3 % 4, 1 + m / 3 % 12] : List Int)) (i := m % 3) 0 (by omega) (by simp only [List.length_cons, List.length_nil]; omega)
  revert h
  generalize ([1, 1 + m / 3 % 4, 1 + m / 3 % 12] : List Int).getD (m % 3).toNat 0 = z
  intro h
  simp only [List.mem_cons, List.not_mem_nil, or_false] at h
  rcases h with rfl | rfl | rfl <;> omega
theorem sizF_at (m : Int) : atI [V.int 1, V.int (1 + m / 3 % 4), V.int (1 + m / 3 % 12)] (m % 3) = some (.int (sizF m)) := by
  rw [atI_getD (d := V.int 0) (by omega) (by simp only [List.length_cons, List.length_nil]; omega)]
  unfold sizF
  rcases (by omega : m % 3 = 0 ∨ m % 3 = 1 ∨ m % 3 = 2) with e | e | e <;> rw [e] <;> rfl
def restF (m : Int) (n : Nat) : List Nat := (List.range n).map fun (i : Nat) => chF ((m / 7 + (0 + (i : Int)) * (1 + m / 11 % 35)) % 36)
def nameF (m : Int) : List Nat :=
  if m / 36 % 2 = 1 then List.replicate (m / 72 % sizF m).toNat 97 ++ [chF (m / 864 % 26)] ++ List.replicate (sizF m - m / 72 % sizF m - 1).toNat 97
  else chF (m / 72 % 26) :: restF m (sizF m - 1).toNat
theorem nameF_ok (m : Int) : okName (nameF m) = true := by
  obtain ⟨n1, n12⟩ := sizF_in m
  unfold nameF
  split
  · have a0 := Int.emod_nonneg (m / 72) (show sizF m ≠ 0 by omega)
    have a1 := Int.emod_lt_of_pos (m / 72) (show 0 < sizF m by omega)
    have hcl := chF_let (i := m / 864 % 26) (by omega) (by omega)
    refine okName_of ?_ ?_ ?_
    · simp only [List.length_append, List.length_replicate, List.length_singleton]; omega
    · cases e : (m / 72 % sizF m).toNat with
      | zero => exact ⟨_, _, rfl, hcl⟩
      | succ k => exact ⟨97, _, rfl, a_letL⟩
    · intro d hd
      simp only [List.mem_append, List.mem_replicate, List.mem_singleton] at hd
      rcases hd with (⟨_, rfl⟩ | rfl) | ⟨_, rfl⟩
      · exact letL_sub a_letL
      · exact letL_sub hcl
      · exact letL_sub a_letL
  · have hcl := chF_let (i := m / 72 % 26) (by omega) (by omega)
    refine okName_of ?_ ⟨_, _, rfl, hcl⟩ ?_
    · simp only [List.length_cons, restF, List.length_map, List.length_range]; omega
    · intro d hd
      rcases List.mem_cons.mp hd with z | z
      · rw [z]; exact letL_sub hcl
      · obtain ⟨i, _, rfl⟩ := List.mem_map.mp z
        exact chF_in (by omega) (by omega)
def sgF (i : Int) : Nat := sgnL.getD i.toNat 0
theorem sgF_at {i : Int} (h0 : 0 ≤ i) (h1 : i < 94) : atI sgnL i = some (sgF i) := atI_getD h0 (by show i < ((94 : Nat) : Int); omega)
theorem sgF_in {i : Int} (h0 : 0 ≤ i) (h1 : i < 94) : sgF i ∈ sgnL := getD_in 0 h0 (by show i < ((94 : Nat) : Int); omega)
def lenF (m : Int) : Int := ([m / 5 % 4, m / 5 % 9, m / 5 % 31] : List Int).getD (m % 3).toNat 0
theorem lenF_in (m : Int) : 0 ≤ lenF m ∧ lenF m ≤ 30 := by
  unfold lenF
  have h := getD_in (xs := ([m / 5 % 4, m / 5 % 9, m / 5 % 31] : List Int)) (i := m % 3) 0 (by omega) (by simp only [List.length_cons, List.length_nil]; omega)
  revert h
  generalize ([m / 5 % 4, m / 5 % 9, m / 5 % 31] : List Int).getD (m % 3).toNat 0 = z
  intro h
  simp only [List.mem_cons, List.not_mem_nil, or_false] at h
  rcases h with rfl | rfl | rfl <;> omega
theorem lenF_at (m : Int) : atI [V.int (m / 5 % 4), V.int (m / 5 % 9), V.int (m / 5 % 31)] (m % 3) = some (.int (lenF m)) := by
  rw [atI_getD (d := V.int 0) (by omega) (by simp only [List.length_cons, List.length_nil]; omega)]
  unfold lenF
  rcases (by omega : m % 3 = 0 ∨ m % 3 = 1 ∨ m % 3 = 2) with e | e | e <;> rw [e] <;> rfl
def runF (m : Int) (n : Nat) : List Nat := (List.range n).map fun (i : Nat) => sgF ((m / 7 + (0 + (i : Int)) * (1 + m / 13 % 93)) % 94)
def textF (m : Int) : List Nat :=
  if m / 155 % 3 = 1 then List.replicate (lenF m / 2).toNat 39 ++ List.replicate (lenF m - lenF m / 2).toNat (sgF (m / 465 % 94)) else runF m (lenF m).toNat
theorem textF_ok (m : Int) : okText (textF m) = true := by
  obtain ⟨n0, n30⟩ := lenF_in m
  unfold textF
  split
  · refine okText_of ?_ ?_
    · simp only [List.length_append, List.length_replicate]; omega
    · intro d hd
      simp only [List.mem_append, List.mem_replicate] at hd
      rcases hd with ⟨_, rfl⟩ | ⟨_, rfl⟩
      · exact q_sgnL
      · exact sgF_in (by omega) (by omega)
  · refine okText_of ?_ ?_
    · simp only [runF, List.length_map, List.length_range]; omega
    · intro d hd
      obtain ⟨i, _, rfl⟩ := List.mem_map.mp hd
      exact sgF_in (by omega) (by omega)
theorem range_snoc {α : Type} (f : Nat → α) (i : Nat) : (List.range (i + 1)).map f = (List.range i).map f ++ [f i] := by rw [List.range_succ, List.map_append]; rfl
def putTs (n : List Nat) (t : T) : List (List Nat) → List T → List T
  | k :: ks, u :: us => (if k = n then t else u) :: putTs n t ks us
  | _, us => us
def putT (p : List (List Nat) × List T) (n : List Nat) (t : T) : List (List Nat) × List T := if n ∈ p.1 then (p.1, putTs n t p.1 p.2) else (p.1 ++ [n], p.2 ++ [t])
theorem putTs_len (n : List Nat) (t : T) : ∀ (ks : List (List Nat)) (us : List T), (putTs n t ks us).length = us.length
  | [], us => by unfold putTs; rfl
  | _ :: _, [] => rfl
  | k :: ks, u :: us => by
    show (putTs n t ks us).length + 1 = us.length + 1
    rw [putTs_len n t ks us]
theorem putTs_mem (n : List Nat) (t : T) : ∀ (ks : List (List Nat)) (us : List T) (u : T), u ∈ putTs n t ks us → u ∈ us ∨ u = t
  | [], us, u, h => by unfold putTs at h; exact .inl h
  | _ :: _, [], u, h => .inl h
  | k :: ks, v :: us, u, h => by
    have h' : u ∈ (if k = n then t else v) :: putTs n t ks us := h
    rcases List.mem_cons.mp h' with z | z
    · split at z
      · exact .inr z
      · exact .inl (by rw [z]; exact List.mem_cons_self)
    · exact (putTs_mem n t ks us u z).imp (List.mem_cons_of_mem _) id
theorem Reps.replT {H : Hp} {n : List Nat} {v : V} {t : T} (hv : Rep H v t) : ∀ {ps : List (Key × V)} {ks : List (List Nat)} {us : List T}, ps.map (·.1) = ks.map nK → Reps H (ps.map (·.2)) us → Reps H ((ps.map fun kv => if kv.1 = nK n then (kv.1, v) else kv).map (·.2)) (putTs n t ks us)
  | [], [], us, _, h => by
    have e : putTs n t [] us = us := by unfold putTs; rfl
    rw [e]; exact h
  | [], _ :: _, _, e, _ => by simp at e
  | _ :: _, [], _, e, _ => by simp at e
  | p :: ps, k :: ks, [], _, h => by
    have h' : (p :: ps).map (·.2) = [] := h
    cases h'
  | p :: ps, k :: ks, u :: us, e, ⟨v', r, e0, h1, h2⟩ => by
    have e' : p.2 :: ps.map (·.2) = v' :: r := e0
    injection e' with e1 e2
    subst e1 e2
    have e3 : p.1 :: ps.map (·.1) = nK k :: ks.map nK := e
    injection e3 with e4 e5
    have ih := Reps.replT (n := n) hv e5 h2
    by_cases hk : k = n
    · refine ⟨v, _, ?_, ?_, ih⟩
      · rw [List.map_cons, if_pos (by rw [e4, hk]), List.map_cons]
      · rw [if_pos hk]; exact hv
    · refine ⟨p.2, _, ?_, ?_, ih⟩
      · rw [List.map_cons, if_neg (by rw [e4]; exact fun z => hk (nK_inj z)), List.map_cons]
      · rw [if_neg hk]; exact h1
theorem put_repT {H : Hp} {ps : List (Key × V)} {p : List (List Nat) × List T} {n : List Nat} {v : V} {t : T} (hk : ps.map (·.1) = p.1.map nK) (hR : Reps H (ps.map (·.2)) p.2) (hv : Rep H v t) :
    (putK ps (nK n) v).map (·.1) = (putT p n t).1.map nK ∧ Reps H ((putK ps (nK n) v).map (·.2)) (putT p n t).2 := by
  have hm : (ps.any fun kv => decide (kv.1 = nK n)) = true ↔ n ∈ p.1 := by
    rw [List.any_eq_true]
    constructor
    · rintro ⟨kv, hkv, e⟩
      have : nK n ∈ ps.map (·.1) := List.mem_map.mpr ⟨kv, hkv, of_decide_eq_true e⟩
      rw [hk] at this
      obtain ⟨k, h1, h2⟩ := List.mem_map.mp this
      rw [← nK_inj h2]; exact h1
    · intro h
      have : nK n ∈ ps.map (·.1) := by rw [hk]; exact List.mem_map.mpr ⟨n, h, rfl⟩
      obtain ⟨kv, h1, h2⟩ := List.mem_map.mp this
      exact ⟨kv, h1, decide_eq_true h2⟩
  unfold putK putT
  by_cases h : n ∈ p.1
  · rw [if_pos (hm.mpr h), if_pos h]
    refine ⟨?_, Reps.replT hv hk hR⟩
    show _ = p.1.map nK
    rw [← hk, List.map_map]
    apply List.map_congr_left
    intro q _
    show (if q.1 = nK n then (q.1, v) else q).1 = q.1
    split <;> rfl
  · rw [if_neg (fun z => h (hm.mp z)), if_neg h]
    exact ⟨by rw [List.map_append, hk, List.map_append]; rfl, by rw [List.map_append]; exact Reps.snoc hv hR⟩
def dicG (nm : Nat → List Nat) (us : List T) : Nat → List (List Nat) × List T
  | 0 => ([], [])
  | i + 1 => putT (dicG nm us i) (nm i) (us.getD i .non)
theorem dicG_ok (nm : Nat → List Nat) (us : List T) (hn : ∀ i, okName (nm i) = true) : ∀ i, i ≤ us.length → (dicG nm us i).1.Nodup ∧ (∀ n ∈ (dicG nm us i).1, okName n = true) ∧ (∀ u ∈ (dicG nm us i).2, u ∈ us) ∧ (dicG nm us i).1.length = (dicG nm us i).2.length ∧ (dicG nm us i).1.length ≤ i
  | 0, _ => ⟨List.nodup_nil, fun _ h => (nomatch h), fun _ h => (nomatch h), rfl, Nat.le_refl _⟩
  | i + 1, hi => by
    obtain ⟨h1, h2, h3, h4, h5⟩ := dicG_ok nm us hn i (by omega)
    have hin : us.getD i .non ∈ us := by
      rw [List.getD_eq_getElem?_getD, List.getElem?_eq_getElem (by omega)]
      exact List.getElem_mem _
    unfold dicG putT
    split
    · exact ⟨h1, h2, fun u hu => (putTs_mem _ _ _ _ u hu).elim (h3 u) (fun e => by rw [e]; exact hin), by rw [putTs_len]; exact h4, Nat.le_succ_of_le h5⟩
    · rename_i hm
      refine ⟨nd_snoc h1 hm, fun n hn' => ?_, fun u hu => ?_, by simp [h4], by simp only [List.length_append, List.length_singleton]; omega⟩
      · rcases List.mem_append.mp hn' with q | q
        · exact h2 n q
        · rw [List.mem_singleton.mp q]; exact hn i
      · rcases List.mem_append.mp hu with q | q
        · exact h3 u q
        · rw [List.mem_singleton.mp q]; exact hin
def leafF (m kd : Int) : T := if kd = 0 then ([.non, .bl true, .bl false] : List T).getD (m / 9 % 3).toNat .non else if kd < 3 then .int (numF (m / 9)) else .str (textF (m / 9))
theorem leafF_nice (m kd : Int) (d : Nat) : Nice d (leafF m kd) := by
  unfold leafF
  split
  · rcases (by omega : m / 9 % 3 = 0 ∨ m / 9 % 3 = 1 ∨ m / 9 % 3 = 2) with e | e | e <;> rw [e] <;> exact True.intro
  · split
    · exact numF_in _
    · exact textF_ok _
theorem leafF_at {H : Hp} (m : Int) : ∃ v, atI [V.non, V.bl true, V.bl false] (m / 9 % 3) = some v ∧ Rep H v (leafF m 0) := by
  have e0 : leafF m 0 = ([.non, .bl true, .bl false] : List T).getD (m / 9 % 3).toNat .non := if_pos rfl
  rw [e0]
  rcases (by omega : m / 9 % 3 = 0 ∨ m / 9 % 3 = 1 ∨ m / 9 % 3 = 2) with e | e | e <;> rw [e]
  · exact ⟨.non, rfl, rfl⟩
  · exact ⟨.bl true, rfl, rfl⟩
  · exact ⟨.bl false, rfl, rfl⟩
def kidN (ns : List Int) (k : Int) (j : Nat) : List Nat := nameF (cellF ns (k * 5 + 1 + (0 + (j : Int))) / 9 + (0 + (j : Int)))
def thT (ns : List Int) : Nat → Int → T
  | 0, k => leafF (cellF ns k) (cellF ns k % 5)
  | e + 1, k => if cellF ns k % 9 < 5 then leafF (cellF ns k) (cellF ns k % 9) else
    if cellF ns k % 9 < 7 then .lst ((List.range (cellF ns k / 9 % 5).toNat).map fun (j : Nat) => thT ns e (k * 5 + 1 + (0 + (j : Int))))
    else .dic (dicG (kidN ns k) ((List.range (cellF ns k / 9 % 5).toNat).map fun (j : Nat) => thT ns e (k * 5 + 1 + (0 + (j : Int)))) (cellF ns k / 9 % 5).toNat).1 (dicG (kidN ns k) ((List.range (cellF ns k / 9 % 5).toNat).map fun (j : Nat) => thT ns e (k * 5 + 1 + (0 + (j : Int)))) (cellF ns k / 9 % 5).toNat).2
theorem thT_nice (ns : List Int) : ∀ (d : Nat) (k : Int), Nice d (thT ns d k)
  | 0, k => leafF_nice _ _ _
  | e + 1, k => by
    unfold thT
    split
    · exact leafF_nice _ _ _
    · have hN : NiceL e ((List.range (cellF ns k / 9 % 5).toNat).map fun (j : Nat) => thT ns e (k * 5 + 1 + (0 + (j : Int)))) := NiceL_iff.mpr fun t ht => by
        obtain ⟨j, _, rfl⟩ := List.mem_map.mp ht
        exact thT_nice ns e _
      have hl : ((List.range (cellF ns k / 9 % 5).toNat).map fun (j : Nat) => thT ns e (k * 5 + 1 + (0 + (j : Int)))).length = (cellF ns k / 9 % 5).toNat := by simp
      have hle : (cellF ns k / 9 % 5).toNat ≤ 4 := by omega
      split
      · exact ⟨by omega, by omega, hN⟩
      · obtain ⟨h1, h2, h3, h4, h5⟩ := dicG_ok (kidN ns k) _ (fun j => nameF_ok _) (cellF ns k / 9 % 5).toNat (Nat.le_of_eq hl.symm)
        exact ⟨by omega, by omega, h4, h1, h2, NiceL_iff.mpr fun u hu => NiceL_iff.mp hN u (h3 u hu)⟩
end L2
namespace L2
open PySem PySem.Spec PyProof.Rows PySem.Builtin PySem.Builtin.Str
def lookS (k : List Nat) : List (List Nat) → List Str → Str
  | k' :: ks, c :: cs => if k' = k then c else lookS k ks cs
  | _, _ => Str.ofString ""
def quoted (x : List Nat) : Str := Str.ofString "'" ++ Txt.replace (tx x) (Str.ofString "'") (Str.ofString "''") ++ Str.ofString "'"
mutual
def wrT : T → Str
  | .non => Str.ofString "none"
  | .bl b => if b then Str.ofString "yes" else Str.ofString "no"
  | .int i => Str.ofString (toString i)
  | .str x => quoted x
  | .lst us => Str.ofString "[" ++ Txt.join (Str.ofString ", ") (wrTs us) ++ Str.ofString "]"
  | .dic ks us => Str.ofString "{" ++ Txt.join (Str.ofString ", ") ((sortK ks).map fun k => tx k ++ Str.ofString ": " ++ lookS k ks (wrTs us)) ++ Str.ofString "}"
  | .tup _ => Str.ofString ""
def wrTs : List T → List Str
  | [] => []
  | t :: ts => wrT t :: wrTs ts
end
theorem wrTs_map : ∀ (ts : List T), wrTs ts = ts.map wrT
  | [] => rfl
  | t :: ts => by rw [List.map_cons, ← wrTs_map ts]; rfl
theorem look_wr (k : List Nat) : ∀ (ks : List (List Nat)) (ts : List T), wrT (lookT k ks ts) = lookS k ks (wrTs ts)
  | [], _ => rfl
  | _ :: _, [] => rfl
  | k' :: ks, t :: ts => by
    show wrT (if k' = k then t else lookT k ks ts) = if k' = k then wrT t else lookS k ks (wrTs ts)
    split
    · rfl
    · exact look_wr k ks ts
mutual
def T.okw : T → Prop
  | .non => True
  | .bl _ => True
  | .int i => -(10 ^ 12) ≤ i ∧ i ≤ 10 ^ 12
  | .str x => x.length ≤ 30
  | .lst ts => T.okws ts
  | .dic ks ts => ks.Nodup ∧ ks.length < 64 ∧ ks.length = ts.length ∧ (∀ k ∈ ks, k.length ≤ 12) ∧ T.okws ts
  | .tup _ => False
def T.okws : List T → Prop
  | [] => True
  | t :: ts => T.okw t ∧ T.okws ts
end
theorem T.okws_mem {t : T} : ∀ {ts : List T}, T.okws ts → t ∈ ts → T.okw t
  | [], _, h => nomatch h
  | u :: ts, h, hm => (List.mem_cons.mp hm).elim (fun e => e ▸ h.1) (T.okws_mem h.2)
theorem okName_len {k : List Nat} (h : okName k = true) : k.length ≤ 12 := by
  unfold okName at h
  simp only [Bool.and_eq_true, decide_eq_true_eq] at h
  omega
theorem okText_len {k : List Nat} (h : okText k = true) : k.length ≤ 30 := by
  unfold okText at h
  simp only [Bool.and_eq_true, decide_eq_true_eq] at h
  omega
theorem app_len (x y : Str) : (x ++ y).length = x.length + y.length := by
  rw [← tx_ts x, ← tx_ts y, app_tx, tx_len, tx_len, tx_len, List.length_append]
theorem int_len {i : Int} (h : -(10 ^ 12) ≤ i ∧ i ≤ 10 ^ 12) : (Str.ofString (toString i)).length ≤ 14 := by
  rw [ofString_len]
  have z : ∀ m : Nat, m ≤ 10 ^ 12 → (Nat.repr m).length ≤ 13 := fun m hm => (Nat.length_repr_le_iff (by decide)).mpr (Nat.lt_of_le_of_lt hm (by decide))
  cases i with
  | ofNat m =>
    have hm : m ≤ 10 ^ 12 := by
      have := h.2
      have e : (Int.ofNat m) = (m : Int) := rfl
      omega
    exact Nat.le_trans (z m hm) (by decide)
  | negSucc m =>
    have hm : m + 1 ≤ 10 ^ 12 := by
      have := h.1
      have e : Int.negSucc m = -((m : Int) + 1) := by omega
      omega
    show ("-" ++ Nat.repr (m + 1)).length ≤ 14
    rw [String.length_append]
    have h1 : ("-" : String).length = 1 := by decide
    have := z _ hm
    omega
theorem quoted_len {x : List Nat} (h : x.length ≤ 30) : (quoted x).length ≤ 100 := by
  unfold quoted
  rw [app_len, app_len]
  have h1 := replace_len (tx x) (Str.ofString "'") (Str.ofString "''")
  have h2 : (Str.ofString "''").length = 2 := by decide +kernel
  have h3 : (Str.ofString "'").length = 1 := by decide +kernel
  have hx : (tx x).length = x.length := tx_len x
  rw [hx, h2] at h1
  omega
theorem join_len (g : Str) (ys : List Str) : (Txt.join g ys).length ≤ (ys.map (·.length)).sum + ys.length * g.length := by
  show (glued g ys).length ≤ _
  rw [size_glued]
  have : (ys.length - 1) * g.length ≤ ys.length * g.length := Nat.mul_le_mul_right _ (Nat.sub_le _ _)
  omega
theorem look_self {ws : List Str} : ∀ {ks : List (List Nat)}, ks.Nodup → ks.length = ws.length → ks.map (fun k => lookS k ks ws) = ws := by
  induction ws with
  | nil =>
    intro ks _ h
    cases ks with
    | nil => rfl
    | cons k ks => cases h
  | cons w ws ih =>
    intro ks hn h
    cases ks with
    | nil => cases h
    | cons k ks =>
      obtain ⟨h1, h2⟩ := List.nodup_cons.mp hn
      have e1 : (lookS k (k :: ks) (w :: ws)) = w := by show (if k = k then w else _) = w; rw [if_pos rfl]
      rw [List.map_cons, e1]
      congr 1
      have e2 : ks.map (fun k' => lookS k' (k :: ks) (w :: ws)) = ks.map (fun k' => lookS k' ks ws) := List.map_congr_left fun k' hk' => by
        show (if k = k' then w else lookS k' ks ws) = lookS k' ks ws
        rw [if_neg fun z => h1 (by rw [z]; exact hk')]
      rw [e2]
      exact ih h2 (by simpa using h)
theorem sum_add (f g : List Nat → Nat) : ∀ ks : List (List Nat), (ks.map fun k => f k + g k).sum = (ks.map f).sum + (ks.map g).sum
  | [] => rfl
  | k :: ks => by simp only [List.map_cons, List.sum_cons, sum_add f g ks]; omega
theorem sum_le {f : List Nat → Nat} {c : Nat} : ∀ {ks : List (List Nat)}, (∀ k ∈ ks, f k ≤ c) → (ks.map f).sum ≤ ks.length * c
  | [], _ => Nat.zero_le _
  | k :: ks, h => by
    have h1 := h k List.mem_cons_self
    have h2 := sum_le (ks := ks) fun k' hk' => h k' (List.mem_cons_of_mem _ hk')
    simp only [List.map_cons, List.sum_cons, List.length_cons, Nat.succ_mul]
    omega
theorem dic_sum {ks : List (List Nat)} {ws : List Str} (hn : ks.Nodup) (hl : ks.length = ws.length) (hk : ∀ k ∈ ks, k.length ≤ 12) :
    (((sortK ks).map fun k => tx k ++ Str.ofString ": " ++ lookS k ks ws).map (·.length)).sum ≤ ks.length * 14 + (ws.map (·.length)).sum := by
  have h2 : (Str.ofString ": ").length = 2 := by decide +kernel
  rw [List.map_map]
  have e : ((·.length) ∘ fun k => tx k ++ Str.ofString ": " ++ lookS k ks ws) = fun k => (k.length + 2) + (lookS k ks ws).length := by
    funext k
    show (tx k ++ Str.ofString ": " ++ lookS k ks ws).length = _
    rw [app_len, app_len, tx_len, h2]
  rw [e, ((sortK_perm ks).map _).sum_nat, sum_add]
  have h3 : (ks.map fun k => (lookS k ks ws).length).sum = (ws.map (·.length)).sum := by
    have := look_self hn hl
    calc (ks.map fun k => (lookS k ks ws).length).sum = ((ks.map fun k => lookS k ks ws).map (·.length)).sum := by rw [List.map_map]; rfl
      _ = _ := by rw [this]
  rw [h3]
  have h4 : (ks.map fun k => k.length + 2).sum ≤ ks.length * 14 := sum_le fun k hk' => by have := hk k hk'; omega
  omega
theorem split_sum (x y : Str) : ((Txt.split x y).map (·.length)).sum ≤ x.length := by
  unfold Txt.split
  split
  · simp
  · split
    · simp
    · have hy : (glued y (partsBetween x (occurrences x y 0 x.length (x.length + 1)) y.length)).length = x.length := by rw [StrLaws.glued_between_self]
      rw [size_glued] at hy
      omega
theorem wrTs_len (ts : List T) : (wrTs ts).length = ts.length := by rw [wrTs_map, List.length_map]
mutual
theorem wr_len : ∀ (t : T), T.okw t → (wrT t).length + 20 ≤ 120 * T.sz t
  | .non, _ => by decide +kernel
  | .bl b, _ => by cases b <;> decide +kernel
  | .int i, h => by
    have := int_len h
    show (Str.ofString (toString i)).length + 20 ≤ 120 * 1
    omega
  | .str x, h => by
    have := quoted_len h
    show (quoted x).length + 20 ≤ 120 * 1
    omega
  | .lst ts, h => by
    have h1 := wrs_len ts h
    have h2 := join_len (Str.ofString ", ") (wrTs ts)
    have h3 : (Str.ofString ", ").length = 2 := by decide +kernel
    have h4 : (Str.ofString "[").length = 1 := by decide +kernel
    have h5 : (Str.ofString "]").length = 1 := by decide +kernel
    have e : T.sz (.lst ts) = T.szs ts + 1 := rfl
    show (Str.ofString "[" ++ Txt.join (Str.ofString ", ") (wrTs ts) ++ Str.ofString "]").length + 20 ≤ _
    rw [app_len, app_len, h4, h5, e]
    rw [h3, wrTs_len] at h2
    omega
  | .dic ks ts, h => by
    obtain ⟨hn, _, hl, hk, hw⟩ := h
    have h1 := wrs_len ts hw
    have h0 := dic_sum (ws := wrTs ts) hn (by rw [wrTs_len]; exact hl) hk
    have h2 := join_len (Str.ofString ", ") ((sortK ks).map fun k => tx k ++ Str.ofString ": " ++ lookS k ks (wrTs ts))
    have h3 : (Str.ofString ", ").length = 2 := by decide +kernel
    have h4 : (Str.ofString "{").length = 1 := by decide +kernel
    have h5 : (Str.ofString "}").length = 1 := by decide +kernel
    have e : T.sz (.dic ks ts) = T.szs ts + 1 := rfl
    show (Str.ofString "{" ++ Txt.join (Str.ofString ", ") ((sortK ks).map fun k => tx k ++ Str.ofString ": " ++ lookS k ks (wrTs ts)) ++ Str.ofString "}").length + 20 ≤ _
    rw [app_len, app_len, h4, h5, e]
    have h6 : (sortK ks).length = ks.length := (sortK_perm ks).length_eq
    rw [h3, List.length_map, h6] at h2
    omega
  | .tup _, h => h.elim
theorem wrs_len : ∀ (ts : List T), T.okws ts → ((wrTs ts).map (·.length)).sum + 20 * ts.length ≤ 120 * T.szs ts
  | [], _ => Nat.zero_le _
  | t :: ts, h => by
    have h1 := wr_len t h.1
    have h2 := wrs_len ts h.2
    have e : T.szs (t :: ts) = T.sz t + T.szs ts := rfl
    show (wrT t).length + ((wrTs ts).map (·.length)).sum + 20 * (ts.length + 1) ≤ _
    rw [e]
    omega
end
theorem logs_ok13 {b : Int} (h1 : -(10 ^ 12) ≤ b) (h2 : b ≤ 10 ^ 12) : b.natAbs.log2 < 1920 := by
  by_cases h : b.natAbs = 0
  · rw [h]; decide
  · refine (Nat.log2_lt h).mpr (Nat.lt_of_le_of_lt (show b.natAbs ≤ 10 ^ 12 by omega) (Nat.lt_of_lt_of_le (show 10 ^ 12 < 2 ^ 40 by decide) (Nat.pow_le_pow_right (by decide) (by decide))))
theorem of_app (a b : String) : Str.ofString (a ++ b) = Str.ofString a ++ Str.ofString b := by
  have e : ∀ s : String, Str.ofString s = tx (s.toList.map Char.toNat) := fun s => Str.ofString_eq_toList s
  rw [e, e, e, app_tx, String.toList_append, List.map_append]
theorem int_text (i : Int) : Str.ofString (toString i) = tx (List.replicate (if i < 0 then 1 else 0 : Int).toNat 45) ++ Str.ofString (toString (if i < 0 then -i else i)) := by
  have n0 : tx (List.replicate 0 45) ++ Str.ofString (toString i) = Str.ofString (toString i) := by
    rw [← tx_ts (Str.ofString (toString i)), app_tx]; rfl
  by_cases h : i < 0
  · rw [if_pos h, if_pos h]
    cases i with
    | ofNat m => exact absurd h (by have e : Int.ofNat m = (m : Int) := rfl; omega)
    | negSucc m =>
      show Str.ofString ("-" ++ Nat.repr (m + 1)) = tx [45] ++ Str.ofString (Nat.repr (m + 1))
      rw [of_app]
      have : Str.ofString "-" = tx [45] := by decide +kernel
      rw [this]
  · rw [if_neg h, if_neg h]
    exact n0.symm
end L2
namespace L2
open PySem PySem.Spec PyProof.Rows
section
variable {X : Cx}
end
end L2
namespace L2
open PySem PySem.Spec PyProof.Rows
end L2
namespace L2
open PySem PySem.Spec PyProof.Rows
section
variable {X : Cx} {pins : List (Addr × Obj)} {σ : St} {H : Hp} {s : Shared} {h' : Heap}
end
section
variable {X : Cx}
end
abbrev g2 (K : PySem.W.Frag) : TG := gTup K 2 (gCons (gName 0) (gCons (gName 1) gNil))
end L2
namespace L2
open PySem PySem.Spec PyProof.Rows
section
variable {X : Cx}
theorem call_lenR : CallR X (.builtin "len") (fun xs H Q => ∃ a kvs, xs = [V.ref a] ∧ Rd H a (.dK kvs) ∧ Q (.int kvs.length) H) := by
  intro pins s σ H xs us Q I r h
  obtain ⟨a, kvs, rfl, ha, q⟩ := h
  obtain ⟨u, rfl, ru⟩ := vals1 r
  cases ru
  exact d_len I ha fun t s' I' => ⟨.int kvs.length, H, I', ⟨t, rfl⟩, q⟩
end
theorem valV_none {k : Key} : ∀ {ps : List (Key × V)}, k ∉ ps.map (·.1) → valV ps k = none
  | [], _ => rfl
  | p :: ps, h => by
    rw [valV_neg fun e => h (by simp [e])]
    exact valV_none fun z => h (List.mem_cons_of_mem _ z)
theorem pg_tupC {X : Cx} {K : PySem.W.Frag} (hK : X.K = K) {es : List Expr} {k : Nat} {pos : Pos} {t : TGs} {n : Nat} (hc : X.calm = true) (h : PGs X es t)
    (hn : (assignEach es X.env).length = n := by rfl) (hst : (assignEach es X.env).findIdx? (·.1) = none := by rfl) : PG X (.Tuple es k pos) (gTup K n t) := by subst hK; exact pg_tup hc h hn hst
structure Bl4 (mg : Str → Option Value) : Prop extends Bl2 mg where
  enumerate : mg "enumerate" = none
end L2
namespace L2
open PySem PySem.Spec PyProof.Rows
theorem none_back {H H' : Hp} (g : Same H H') {p : Addr} (h : H' p = none) : H p = none := by
  cases e : H p with
  | none => rfl
  | some o => rw [g _ _ e] at h; cases h
end L2
namespace L2
open PySem PySem.Spec PyProof.Rows
section
variable {prog : Program} {w : World} {A : Around} {E : Value → Shared → Prop} {s : Shared}
end
section
variable {X : Cx}
end
end L2
namespace L2
open PySem PySem.Spec PyProof.Rows
section
variable {X : Cx} {a : Expr} {ta : TE}
end
end L2
namespace L2
open PySem PySem.Spec PyProof.Rows
inductive U where
  | leaf (v : V) | lst (us : List U) | dic (ks : List Key) (us : List U)
mutual
def U.sz : U → Nat
  | .leaf _ => 1
  | .lst us => U.szs us + 1
  | .dic _ us => U.szs us + 1
def U.szs : List U → Nat
  | [] => 0
  | u :: us => U.sz u + U.szs us
end
mutual
def U.dep : U → Nat
  | .leaf _ => 0
  | .lst us => U.deps us + 1
  | .dic _ us => U.deps us + 1
def U.deps : List U → Nat
  | [] => 0
  | u :: us => max (U.dep u) (U.deps us)
end
mutual
def U.ok : U → Prop
  | .leaf v => ∀ x, v = .str x → x.length ≤ 1000
  | .lst us => U.oks us
  | .dic ks us => ks.Nodup ∧ ks.length = us.length ∧ (∀ x, Sum.inr x ∈ ks → x.length ≤ 1000) ∧ U.oks us
def U.oks : List U → Prop
  | [] => True
  | u :: us => U.ok u ∧ U.oks us
end
section
variable {X : Cx} {pins : List (Addr × Obj)} {σ : St} {H : Hp} {s : Shared}
theorem op_le_str : OpR X (compareOp .LtE) (fun x y H Q => ∃ i j, x = .str i ∧ y = .str j ∧ Q (.bl (!decide (ts j < ts i))) H) := by
  intro pins s σ H x y v u Q I rx ry h
  obtain ⟨i, j, rfl, rfl, q⟩ := h
  obtain ⟨t, rfl⟩ := rx
  obtain ⟨t', rfl⟩ := ry
  exact PySem.P.le_str (fin_bl I q rfl)
end
section
variable {X : Cx} {o : Expr} {to : TE} {name : Str} {apos cpos : Pos} {id : String} {r : V → List V → Hp → VK → Prop}
end
structure Bl5 (mg : Str → Option Value) : Prop extends Bl2 mg where
  abs : mg "abs" = none
  ord : mg "ord" = none
end L2
namespace L2
open PySem PySem.Spec PyProof.Rows
section
variable {X : Cx} {pins : List (Addr × Obj)} {σ : St} {H : Hp} {s : Shared} {h' : Heap}
end
def Itz (K : PySem.W.Frag) (l m : Addr) : It :=
  ⟨fun i H => ∃ xs ys x y, SqL K H l xs ∧ SqL K H m ys ∧ xs[i]? = some x ∧ ys[i]? = some y,
   fun i H v H' => ∃ p x y, H p = none ∧ v = .ref p ∧ (∀ xs, SqL K H l xs → xs[i]? = some x) ∧ (∀ ys, SqL K H m ys → ys[i]? = some y) ∧ H' = upd H p (.tup [x, y]),
   fun i H => ∃ xs ys, SqL K H l xs ∧ SqL K H m ys ∧ (xs.length ≤ i ∨ ys.length ≤ i)⟩
def iZip (K : PySem.W.Frag) (ta : TA) : TI := fun σ H R => ta σ H fun vs H1 => ∃ l m xs ys, vs = [.ref l, .ref m] ∧ SqL K H1 l xs ∧ SqL K H1 m ys ∧ R (Itz K l m) H1
end L2
namespace L2
open PySem PySem.Spec PyProof.Rows
structure Bl6 (mg : Str → Option Value) : Prop extends Bl2 mg where
  zip : mg "zip" = none
section
variable {X : Cx} {a : Expr} {ta : TE}
def tIsT (ta : TE) : TE := fun σ H Q => ta σ H fun x H1 => ∃ b, x = .bl b ∧ Q (.bl b) H1
end
end L2
namespace HT
open PySem PyProof.Rows
open PySem.SeqAt
open PySem.AutoSeq1 (wpAny_loadPart')
open PySem.MeetsSeq PySem.MeetsSeq2 PySem.MeetsSeq3
section
variable {prog : Program} {w : World} {A : Around} {E : Value → Shared → Prop} {s : Shared}
end
end HT
namespace L2
open PySem PySem.Spec PyProof.Rows
end L2
namespace L2
open PySem PySem.Spec PyProof.Rows PySem.Builtin PySem.Builtin.Str
def jn (s : List Nat) : List (List Nat) → List Nat
  | [] => []
  | [x] => x
  | x :: y :: r => x ++ s ++ jn s (y :: r)
theorem ts_app (x y : Str) : ts (x ++ y) = ts x ++ ts y := by
  show (x.cps ++ y.cps).toList = _
  rw [Array.toList_append]
theorem ts_join (sep : Str) : ∀ ps : List Str, ts (sep.join ps) = jn (ts sep) (ps.map ts)
  | [] => rfl
  | [x] => rfl
  | x :: y :: r => by
    show ts (x ++ sep ++ sep.join (y :: r)) = ts x ++ ts sep ++ jn (ts sep) ((y :: r).map ts)
    rw [ts_app, ts_app, ts_join sep (y :: r)]
def rpl (c : Nat) (z : List Nat) (d : Nat) : List Nat := if d = c then z else [d]
theorem rpl_free {c : Nat} {z : List Nat} : ∀ {x : List Nat}, c ∉ x → x.flatMap (rpl c z) = x
  | [], _ => rfl
  | d :: x, h => by
    have hd : d ≠ c := fun e => h (by rw [e]; exact List.mem_cons_self)
    rw [List.flatMap_cons, rpl_free fun e => h (List.mem_cons_of_mem _ e)]
    unfold rpl
    rw [if_neg hd]; rfl
theorem rpl_jn {c : Nat} {z : List Nat} : ∀ {ps : List (List Nat)}, (∀ p ∈ ps, c ∉ p) → (jn [c] ps).flatMap (rpl c z) = jn z ps
  | [], _ => rfl
  | [x], h => rpl_free (h x List.mem_cons_self)
  | x :: y :: r, h => by
    show (x ++ [c] ++ jn [c] (y :: r)).flatMap (rpl c z) = x ++ z ++ jn z (y :: r)
    rw [List.flatMap_append, List.flatMap_append, rpl_free (h x List.mem_cons_self), rpl_jn fun p hp => h p (List.mem_cons_of_mem _ hp)]
    have : [c].flatMap (rpl c z) = z := by simp [rpl]
    rw [this]
theorem replace_is (x z : Str) (c : Nat) : ts (Txt.replace x ⟨#[c]⟩ z) = (ts x).flatMap (rpl c (ts z)) := by
  have h := ts_join ⟨#[c]⟩ (Txt.split x ⟨#[c]⟩)
  rw [StrLaws.join_split] at h
  rw [StrLaws.replace_one, ts_join, h]
  refine (rpl_jn (c := c) fun p hp => ?_).symm
  obtain ⟨s, hs, rfl⟩ := List.mem_map.mp hp
  exact StrLaws.split_free x c s hs
section
variable {X : Cx}
theorem call_int_str : CallR X (.type "int") (fun xs H Q => ∃ x n, xs = [.str x] ∧ intText? x = some n ∧ x.length ≤ 640 ∧ Q (.int n) H) := by
  intro pins s σ H xs us Q I r h
  obtain ⟨x, n, rfl, hn, hl, q⟩ := h
  obtain ⟨u, rfl, t, rfl⟩ := r.one
  exact PySem.W.KIN.call_text hn hl ⟨.int n, H, I.tok _, ⟨_, rfl⟩, q⟩
end
end L2
namespace L2
open PySem PySem.Spec PyProof.Rows
end L2
namespace L2
open PySem PySem.Spec PyProof.Rows
section
variable {X : Cx}
end
end L2
namespace L2
open PySem PySem.Spec PyProof.Rows
section
variable {X : Cx}
theorem ps_nev {st : Stmt} : PS X st tNever := fun _ _ _ _ _ _ h => h.elim
def rFind : V → List V → Hp → VK → Prop := fun x vs H Q => ∃ (z y : Str) (i : Int), x = .str z ∧ vs = [.str y, .int i] ∧ Q (.int (Txt.find3 z y i)) H
theorem mt_find : MtR X "str.find" rFind := by
  intro pins s σ H x vs v us Q I rx rv h
  obtain ⟨z, y, i, rfl, rfl, q⟩ := h
  obtain ⟨t, rfl⟩ := rx
  obtain ⟨u1, u2, rfl, ⟨t1, rfl⟩, ⟨t2, rfl⟩⟩ := rv.two
  exact call_gives F.slot_str_find (typeIs_str _ _ _) F.entry_str_find (F.args_str_find_3 _ _ _) (gives_str_find_from z y i t t1 t2) ⟨.int _, H, I.tok _, ⟨_, rfl⟩, q⟩
theorem post_vs {s : Shared} {c : Prop} [inst : Decidable c] {y z : Str} {t : Tok} {Q : Value → Shared → Prop} (h : (if c then y else z).length ≤ sizeLine ∧ ∀ (t' : Tok) (k : Nat), s.toks ≤ k → Q (.str (if c then y else z) t') { s with toks := k }) :
    (if c then Made.val (.str y t) else Made.str z).post Q s := by
  by_cases hc : c
  · have h2 := h.2 t s.toks (Nat.le_refl _)
    rw [if_pos hc] at h2 ⊢
    exact h2
  · have h1 := h.1
    have h2 := h.2 s.toks (s.toks + 1) (Nat.le_succ _)
    rw [if_neg hc] at h1 h2 ⊢
    exact ⟨h1, h2⟩
def tReplSl (i : Nat) (lo hi : Int) (y z : Str) : TE := fun σ H Q => ∃ x, σ[i]? = some (some (.str x)) ∧ x.length ≤ 1000000 ∧ Q (.str (Txt.replace (Txt.slice x (some lo) (some (-hi))) y z)) H
theorem pe_repl_sl {x : Str} {i : Nat} {lo hi : Int} {y z : Str} {j1 j2 j3 j4 : Nat} {p0 p1 p2 p3 p4 p5 p6 p7 apos cpos : Pos} (hN : X.N[i]? = some x) (hv : Vis X.env.scope x) (hyz : (y == z) = false) (hz : z.length ≤ 14)
    (hline : (apos.endLine == cpos.line) = true := by rfl) (hd : (x == ("__debug__" : Str)) = false := by decide) (hcd : (x == ("__classdict__" : Str)) = false := by decide) :
    PE X (.Call (.Attribute (.Subscript (.Name x p0) (.Slice (some (.Constant (.int lo) j3 p3)) (some (.UnaryOp .USub (.Constant (.int hi) j4 p4) p5)) none p6) p7) "replace" apos) [.Constant (.str y) j1 p1, .Constant (.str z) j2 p2] [] cpos) (tReplSl i lo hi y z) := by
  intro pins s σ H Q I h
  obtain ⟨vx, e, hl, q⟩ := h
  refine wpAny_Call_method_late rfl rfl hline rfl ?_
  have hx : PE X (.Name x p0) (tVar i) := pe_var hN hv hd hcd
  refine Subscript_ (thn (hx pins s σ H (fun v H' => v = .str vx ∧ H' = H) I ⟨_, e, rfl, rfl⟩) fun v s1 ⟨xv, H1, I1, r1, e1, e2⟩ => ?_)
  subst e1 e2
  obtain ⟨t, rfl⟩ := r1
  refine wpAny_Slice ?_
  rw [evalPart_some]
  refine wpAny_Constant_int ?_
  rw [evalPart_some]
  refine UnaryOp_ (wpAny_Constant_int (neg_int ?_))
  rw [evalPart_none]
  refine wpAny_pure ?_
  have I4 : Inv X pins σ H1 { s1 with heap := s1.heap.push { cls := .type "slice", data := .fields #[.int lo s1.toks, .int (-hi) (s1.toks + 1 + 1), .none] }, toks := s1.toks + 1 + 1 + 1 } := I1.kept (t' := s1.toks + 1 + 1 + 1) fun b ob q => Heap.get?_push_of_some _ q
  have hg : wpAny (model X.prog X.w) X.A (getItem (.str vx t) (.ref s1.heap.objs.size)) (fun v s2 => ∃ t', v = .str (Txt.slice vx (some lo) (some (-hi))) t' ∧ Inv X pins σ H1 s2 ∧ 0 < s2.toks) X.xe { s1 with heap := s1.heap.push { cls := .type "slice", data := .fields #[.int lo s1.toks, .int (-hi) (s1.toks + 1 + 1), .none] }, toks := s1.toks + 1 + 1 + 1 } := by
    refine wpAny_getItem_str_slice (l := some (lo, s1.toks)) (u := some (-hi, s1.toks + 1 + 1)) (st := none) ?_ rfl ?_
    · obtain ⟨o, ho, hc, hd⟩ := Heap.IsSliceOf.new (h := s1.heap) (l := .int lo s1.toks) (u := .int (-hi) (s1.toks + 1 + 1)) (st := .none)
      exact ⟨o, ho, hc, hd⟩
    · have hsl := Txt.slice_le vx (some lo) (some (-hi))
      exact post_vs ⟨by rw [sizeLine_eq]; exact Nat.le_trans hsl (by omega), fun t' k hk => ⟨t', rfl, I4.tok _, Nat.lt_of_lt_of_le (Nat.succ_pos _) hk⟩⟩
  refine tail_any (ops := [.ref s1.heap.objs.size, .str vx t]) (typeIs_str _ _ _) F.slot_str_getitem.lookup (thn hg fun v s2 z => ?_) (by with_unfolding_all rfl)
  obtain ⟨t', rfl, I2, h0⟩ := z
  refine ⟨"str", "str.replace", F.plainAttrs_str, F.slot_str_replace, F.type_str_replace, typeIs_str _ _ _, (fun _ e => nomatch e), ?_⟩
  refine Calls.callWith_builtin rfl (Calls.evalArgs_plain ?_)
  refine Calls.spliced_cons (Calls.Constant_str (k := j1) (pos := p1) (Calls.spliced_cons (Calls.Constant_str (k := j2) (pos := p2) (Calls.spliced_nil ?_))))
  have hsl := Txt.slice_le vx (some lo) (some (-hi))
  refine SC.replaceW (Nat.pos_iff_ne_zero.mp h0) (Nat.succ_ne_zero _) (fun c => absurd (show s2.toks = s2.toks + 1 from c) (by omega)) hyz (by omega) hz fun t' k => ?_
  exact ⟨.str (Txt.replace (Txt.slice vx (some lo) (some (-hi))) y z), H1, I2.tok _, ⟨_, rfl⟩, q⟩
end
end L2
namespace L2
open PySem PySem.Builtin PySem.Builtin.Str
abbrev Tk := Nat × List Nat
def mkL : List Nat := [91, 93, 123, 125, 44, 58]
def dbl (x : List Nat) : List Nat := x.flatMap (rpl 39 [39, 39])
theorem dbl_nil : dbl [] = [] := rfl
theorem dbl_cons (c : Nat) (x : List Nat) : dbl (c :: x) = rpl 39 [39, 39] c ++ dbl x := List.flatMap_cons
theorem dbl_app (x y : List Nat) : dbl (x ++ y) = dbl x ++ dbl y := List.flatMap_append
theorem dbl_free {x : List Nat} (h : 39 ∉ x) : dbl x = x := rpl_free h
theorem dbl_len : ∀ x : List Nat, (dbl x).length ≤ 2 * x.length
  | [] => Nat.le_refl _
  | c :: x => by
    rw [dbl_cons, List.length_append, List.length_cons]
    have := dbl_len x
    have h : (rpl 39 [39, 39] c).length ≤ 2 := by
      unfold rpl
      split
      · exact Nat.le_refl _
      · exact Nat.le_succ _
    omega
def shw (t : Tk) : List Nat := if t.1 = 2 then 39 :: (dbl t.2 ++ [39]) else t.2
def OkTk (t : Tk) : Prop := t.2.length ≤ 100 ∧ ((t.1 = 0 ∧ ∃ s fs, t.2 = s ++ fs ∧ (s = [] ∨ s = [45]) ∧ fs ≠ [] ∧ ∀ c ∈ fs, c ∈ figL) ∨ (t.1 = 1 ∧ ∃ c r, t.2 = c :: r ∧ c ∈ letL ∧ ∀ d ∈ r, d ∈ letL ++ figL) ∨ (t.1 = 2 ∧ ∀ c ∈ t.2, c ∈ sgnL) ∨ (t.1 = 3 ∧ ∃ c, t.2 = [c] ∧ c ∈ mkL))
theorem OkTk.len {t : Tk} (h : OkTk t) : (shw t).length ≤ 202 := by
  have h1 := h.1
  unfold shw
  split
  · have := dbl_len t.2
    rw [List.length_cons, List.length_append]
    simp only [List.length_cons, List.length_nil]
    omega
  · omega
def runL (k : Nat) : List Nat := if k = 0 then figL else if k = 1 then letL ++ figL else if k = 2 then [39] else []
def Stops (k : Nat) (r : List Nat) : Prop := ∀ c r', r = c :: r' → c ∉ runL k
def headK (k c : Nat) : Prop := (k = 0 ∧ (c = 45 ∨ c ∈ figL)) ∨ (k = 1 ∧ c ∈ letL) ∨ (k = 2 ∧ c = 39) ∨ (k = 3 ∧ c ∈ mkL)
def stk (a b : Tk) : Bool := if b.2.take 1 = [45] ∧ b.1 = 0 then false else if a.1 = 1 then decide (b.1 = 1) || decide (b.1 = 0) else decide (a.1 = b.1) && !decide (a.1 = 3)
theorem sp_run : ∀ k : Nat, (32 : Nat) ∉ runL k := by
  intro k
  unfold runL
  split
  · decide +kernel
  · split
    · decide +kernel
    · split
      · decide +kernel
      · decide
theorem shw_head {t : Tk} (h : OkTk t) : ∃ c r, shw t = c :: r ∧ headK t.1 c ∧ (t.1 = 0 → c = 45 → t.2.take 1 = [45]) := by
  obtain ⟨_, h⟩ := h
  obtain ⟨k, x⟩ := t
  unfold shw headK
  rcases h with ⟨rfl, s, fs, e, hs, hn, hf⟩ | ⟨rfl, c, r, e, hc, _⟩ | ⟨rfl, _⟩ | ⟨rfl, c, e, hc⟩
  · have e : x = s ++ fs := e
    subst e
    rcases hs with rfl | rfl
    · obtain ⟨c, r, rfl⟩ := List.exists_cons_of_ne_nil hn
      exact ⟨c, r, rfl, .inl ⟨rfl, .inr (hf c List.mem_cons_self)⟩, fun _ e => by rw [e]; rfl⟩
    · exact ⟨45, fs, rfl, .inl ⟨rfl, .inl rfl⟩, fun _ _ => rfl⟩
  · have e : x = c :: r := e
    subst e
    exact ⟨c, r, rfl, .inr (.inl ⟨rfl, hc⟩), fun e => nomatch e⟩
  · exact ⟨39, _, rfl, .inr (.inr (.inl ⟨rfl, rfl⟩)), fun e => nomatch e⟩
  · have e : x = [c] := e
    subst e
    exact ⟨c, [], rfl, .inr (.inr (.inr ⟨rfl, hc⟩)), fun e => nomatch e⟩
theorem let_no : ∀ c ∈ letL, c ≠ 45 ∧ c ∉ figL ∧ c ≠ 39 := by decide +kernel
theorem fig_no : ∀ c ∈ figL, c ≠ 45 ∧ c ∉ letL ∧ c ≠ 39 := by decide +kernel
theorem mk_no : ∀ c ∈ mkL, c ≠ 45 ∧ c ∉ figL ∧ c ∉ letL ∧ c ≠ 39 := by decide +kernel
theorem q_no : (39 : Nat) ≠ 45 ∧ (39 : Nat) ∉ figL ∧ (39 : Nat) ∉ letL := by decide +kernel
theorem stops_of {t t' : Tk} (h : OkTk t) (h' : OkTk t') (hs : stk t t' = false) (z : List Nat) : Stops t.1 (shw t' ++ z) := by
  obtain ⟨c, r, e, hk, h45⟩ := shw_head h'
  intro d r' e'
  rw [e] at e'
  obtain ⟨rfl, _⟩ := List.cons.inj e'
  unfold stk at hs
  unfold runL
  have hk0 : t.1 = 0 ∨ t.1 = 1 ∨ t.1 = 2 ∨ t.1 = 3 := by
    rcases h.2 with ⟨a, _⟩ | ⟨a, _⟩ | ⟨a, _⟩ | ⟨a, _⟩
    · exact .inl a
    · exact .inr (.inl a)
    · exact .inr (.inr (.inl a))
    · exact .inr (.inr (.inr a))
  rcases hk with ⟨k0, hc⟩ | ⟨k1, hc⟩ | ⟨k2, rfl⟩ | ⟨k3, hc⟩
  · rcases hc with rfl | hc
    · rcases hk0 with a | a | a | a <;> rw [a] <;> decide +kernel
    · have hn : ¬ (t'.2.take 1 = [45] ∧ t'.1 = 0) := fun z => by
        have : (shw t').take 1 = [45] := by
          unfold shw
          rw [if_neg (by omega)]; exact z.1
        rw [e] at this
        have : c = 45 := by simpa using this
        exact (fig_no c hc).1 this
      rw [if_neg hn, k0] at hs
      have := fig_no c hc
      rcases hk0 with a | a | a | a
      · rw [a] at hs; exact absurd hs (by decide)
      · rw [a] at hs; exact absurd hs (by decide)
      · rw [a]; show c ∉ [39]; simp [this.2.2]
      · rw [a]; exact fun z => nomatch z
  · have := let_no c hc
    rw [if_neg (by omega), k1] at hs
    rcases hk0 with a | a | a | a
    · rw [a]; exact this.2.1
    · rw [a] at hs; exact absurd hs (by decide)
    · rw [a]; show c ∉ [39]; simp [this.2.2]
    · rw [a]; exact fun z => nomatch z
  · rw [if_neg (by omega), k2] at hs
    rcases hk0 with a | a | a | a
    · rw [a]; exact q_no.2.1
    · rw [a]; show 39 ∉ letL ++ figL; rw [List.mem_append]; exact fun z => z.elim q_no.2.2 q_no.2.1
    · rw [a] at hs; exact absurd hs (by decide)
    · rw [a]; exact fun z => nomatch z
  · have := mk_no c hc
    rcases hk0 with a | a | a | a
    · rw [a]; exact this.2.1
    · rw [a]; show c ∉ letL ++ figL; rw [List.mem_append]; exact fun z => z.elim this.2.2.1 this.2.1
    · rw [a]; show c ∉ [39]; simp [this.2.2.2]
    · rw [a]; exact fun z => nomatch z
theorem stops_nil (k : Nat) : Stops k [] := fun c r e => nomatch e
theorem stops_sp {k n : Nat} (h : 0 < n) (z : List Nat) : Stops k (List.replicate n 32 ++ z) := by
  obtain ⟨m, rfl⟩ := Nat.exists_eq_succ_of_ne_zero (Nat.pos_iff_ne_zero.mp h)
  intro c r e
  rw [List.replicate_succ] at e
  obtain ⟨rfl, _⟩ := List.cons.inj e
  exact sp_run k
theorem stops_sps {k n : Nat} : Stops k (List.replicate n 32) := by
  cases n with
  | zero => exact stops_nil k
  | succ n => simpa using stops_sp (k := k) (Nat.succ_pos n) []
def lay : List (Nat × Tk) → List Nat
  | [] => []
  | x :: r => List.replicate x.1 32 ++ (shw x.2 ++ lay r)
theorem lay_app : ∀ a b : List (Nat × Tk), lay (a ++ b) = lay a ++ lay b
  | [], b => rfl
  | x :: a, b => by
    show List.replicate x.1 32 ++ (shw x.2 ++ lay (a ++ b)) = _
    rw [lay_app a b]
    show _ = List.replicate x.1 32 ++ (shw x.2 ++ lay a) ++ lay b
    simp only [List.append_assoc]
def Chn (r : List (Nat × Tk)) : Prop := ∀ i x y, r[i]? = some x → r[i + 1]? = some y → stk x.2 y.2 = true → 0 < y.1
theorem Chn.snoc {r : List (Nat × Tk)} {y : Nat × Tk} (h : Chn r) (hy : ∀ x, r.getLast? = some x → stk x.2 y.2 = true → 0 < y.1) : Chn (r ++ [y]) := by
  intro i a b ha hb hs
  by_cases c : i + 1 < r.length
  · rw [List.getElem?_append_left (by omega)] at ha
    rw [List.getElem?_append_left c] at hb
    exact h i a b ha hb hs
  · have hi : i + 1 = r.length := by
      have := List.getElem?_eq_some_iff.mp hb
      obtain ⟨z, _⟩ := this
      rw [List.length_append] at z
      simp only [List.length_cons, List.length_nil] at z
      omega
    rw [List.getElem?_append_right (by omega), hi, Nat.sub_self] at hb
    have hb : y = b := by simpa using hb
    subst hb
    rw [List.getElem?_append_left (by omega)] at ha
    refine hy a ?_ hs
    rw [List.getLast?_eq_getElem?, ← ha]
    congr 1
    omega
theorem stops_at {a c : List (Nat × Tk)} {x : Nat × Tk} {e : Nat} (hok : ∀ y ∈ a ++ x :: c, OkTk y.2) (hc : Chn (a ++ x :: c)) : Stops x.2.1 (lay c ++ List.replicate e 32) := by
  cases c with
  | nil => exact stops_sps
  | cons y c =>
    show Stops x.2.1 (List.replicate y.1 32 ++ (shw y.2 ++ lay c) ++ List.replicate e 32)
    rw [List.append_assoc]
    by_cases h0 : 0 < y.1
    · exact stops_sp h0 _
    · have h1 : y.1 = 0 := by omega
      rw [h1, List.replicate_zero, List.nil_append, List.append_assoc]
      refine stops_of (hok x (by simp)) (hok y (by simp)) ?_ _
      cases hs : stk x.2 y.2 with
      | false => rfl
      | true =>
        refine absurd (hc a.length x y ?_ ?_ hs) h0
        · rw [List.getElem?_append_right (Nat.le_refl _), Nat.sub_self]; rfl
        · rw [List.getElem?_append_right (Nat.le_succ _), show a.length + 1 - a.length = 1 by omega]; rfl
def runN (S l : List Nat) : Nat := (l.takeWhile fun c => decide (c ∈ S)).length
theorem runN_app {S : List Nat} : ∀ {x r : List Nat}, (∀ c ∈ x, c ∈ S) → (∀ c r', r = c :: r' → c ∉ S) → runN S (x ++ r) = x.length
  | [], [], _, _ => rfl
  | [], c :: r, _, h => by
    unfold runN
    rw [List.nil_append, List.takeWhile_cons, decide_eq_false (h c r rfl)]; rfl
  | d :: x, r, h1, h2 => by
    have ih := runN_app (S := S) (x := x) (r := r) (fun c hc => h1 c (List.mem_cons_of_mem _ hc)) h2
    unfold runN at ih ⊢
    rw [List.cons_append, List.takeWhile_cons, decide_eq_true (h1 d List.mem_cons_self)]
    show (List.takeWhile _ (x ++ r)).length + 1 = x.length + 1
    rw [ih]
theorem runN_le (S l : List Nat) : runN S l ≤ l.length := (List.takeWhile_prefix _).length_le
theorem runN_lt {S l : List Nat} {j c : Nat} (hc : l[j]? = some c) (hj : j ≤ runN S l) : (c ∈ S ↔ j < runN S l) := by
  induction l generalizing j with
  | nil => cases hc
  | cons d l ih =>
    by_cases hd : d ∈ S
    · have e : runN S (d :: l) = runN S l + 1 := by
        unfold runN
        rw [List.takeWhile_cons, decide_eq_true hd]; rfl
      rw [e] at hj ⊢
      cases j with
      | zero =>
        have : d = c := by simpa using hc
        rw [← this]
        exact ⟨fun _ => Nat.succ_pos _, fun _ => hd⟩
      | succ j =>
        rw [List.getElem?_cons_succ] at hc
        have := ih hc (by omega)
        rw [this]
        omega
    · have e : runN S (d :: l) = 0 := by
        unfold runN
        rw [List.takeWhile_cons, decide_eq_false hd]; rfl
      rw [e] at hj ⊢
      have hj0 : j = 0 := by omega
      subst hj0
      have : d = c := by simpa using hc
      rw [← this]
      exact ⟨fun z => absurd z hd, fun z => absurd z (Nat.not_lt_zero _)⟩
def und : List Nat → List Nat
  | [] => []
  | [c] => [c]
  | c :: d :: r => if c = 39 ∧ d = 39 then 39 :: und r else c :: und (d :: r)
theorem und_dbl : ∀ x : List Nat, und (dbl x) = x
  | [] => rfl
  | c :: x => by
    have ih := und_dbl x
    rw [dbl_cons]
    unfold rpl
    by_cases h : c = 39
    · rw [if_pos h, h]
      show und (39 :: 39 :: dbl x) = 39 :: x
      rw [und, if_pos ⟨rfl, rfl⟩, ih]
    · rw [if_neg h]
      show und (c :: dbl x) = c :: x
      cases e : dbl x with
      | nil => rw [e] at ih; rw [← ih]; rfl
      | cons d r =>
        rw [und, if_neg fun z => h z.1, ← e, ih]
theorem und_skip : ∀ (n : Nat) (l : List Nat), (∀ k, k < n → ¬ (l[k]? = some 39 ∧ l[k + 1]? = some 39)) → und l = l.take n ++ und (l.drop n)
  | 0, l, _ => rfl
  | n + 1, [], _ => rfl
  | n + 1, [c], _ => by
    rw [List.take_succ_cons, List.drop_succ_cons, List.drop_nil, List.take_nil]; rfl
  | n + 1, c :: d :: r, h => by
    have h0 := h 0 (Nat.succ_pos _)
    have h0 : ¬ (c = 39 ∧ d = 39) := fun z => h0 ⟨by rw [z.1]; rfl, by rw [z.2]; rfl⟩
    rw [und, if_neg h0, und_skip n (d :: r) fun k hk => ?_]
    · rfl
    · have := h (k + 1) (by omega)
      simpa using this
theorem ts_glued (z : Str) : ∀ (ps : List Str) (p : Str), ts (glued z (p :: ps)) = ts p ++ ps.flatMap fun q => ts z ++ ts q := by
  intro ps p
  show (List.foldl (fun acc p => acc ++ z.cps ++ p.cps) p.cps ps).toList = p.cps.toList ++ _
  generalize p.cps = a
  induction ps generalizing a with
  | nil => simp
  | cons q ps ih =>
    rw [List.foldl_cons, ih]
    simp [ts, List.append_assoc]
theorem sub_ts (L : List Nat) (i j : Nat) : ts (strSub (tx L) i j) = (L.drop i).take (j - i) := by
  show (L.toArray.extract i j).toList = _
  simp [List.extract_eq_drop_take]
theorem at_iff (L : List Nat) (k : Nat) : StrLaws.At (tx L) (tx [39, 39]) L.length k ↔ L[k]? = some 39 ∧ L[k + 1]? = some 39 := by
  have e : (subAt (tx L) (tx [39, 39]) k = true) ↔ (L.drop k).take 2 = [39, 39] := by
    show ((L.toArray.extract k (k + 2)) == #[39, 39]) = true ↔ _
    rw [beq_iff_eq]
    constructor
    · intro h
      have := congrArg Array.toList h
      simpa [List.extract_eq_drop_take] using this
    · intro h
      apply Array.toList_inj.mp
      simpa [List.extract_eq_drop_take] using h
  show k + 2 ≤ L.length ∧ _ ↔ _
  rw [e]
  constructor
  · rintro ⟨h1, h2⟩
    have a0 := congrArg (fun l : List Nat => l[0]?) h2
    have a1 := congrArg (fun l : List Nat => l[1]?) h2
    simp only [List.getElem?_take, List.getElem?_drop] at a0 a1
    exact ⟨by simpa using a0, by simpa using a1⟩
  · rintro ⟨h1, h2⟩
    obtain ⟨l2, e2⟩ := List.getElem?_eq_some_iff.mp h2
    obtain ⟨l1, e1⟩ := List.getElem?_eq_some_iff.mp h1
    refine ⟨by omega, ?_⟩
    rw [List.drop_eq_getElem_cons l1, List.drop_eq_getElem_cons l2, e1, e2]; rfl
def prts (L : List Nat) (lo : Nat) (occs : List Nat) : List Str := ((lo :: occs.map (· + 2)).zip (occs ++ [L.length])).map fun x => strSub (tx L) x.1 x.2
theorem prts_cons (L : List Nat) (lo c : Nat) (r : List Nat) : prts L lo (c :: r) = strSub (tx L) lo c :: prts L (c + 2) r := rfl
theorem prts_ne (L : List Nat) (lo : Nat) : ∀ occs : List Nat, ∃ q qs, prts L lo occs = q :: qs
  | [] => ⟨_, _, rfl⟩
  | c :: r => ⟨_, _, rfl⟩
theorem prts_und (L : List Nat) {f : Nat} (hf : ∀ k, f ≤ k → ¬ StrLaws.At (tx L) (tx [39, 39]) L.length k) : ∀ (occs : List Nat) (lo : Nat), StrLaws.ChainG (tx L) (tx [39, 39]) L.length lo occs f → ts (glued (tx [39]) (prts L lo occs)) = und (L.drop lo)
  | [], lo, h => by
    rw [StrLaws.ChainG.eq_1] at h
    subst h
    have e : prts L f [] = [strSub (tx L) f L.length] := rfl
    rw [e, ts_glued, sub_ts, List.flatMap_nil, List.append_nil]
    have e2 : (L.drop f).take (L.length - f) = L.drop f := List.take_of_length_le (by rw [List.length_drop]; exact Nat.le_refl _)
    have u := und_skip (L.drop f).length (L.drop f) fun k _ z => by
      refine hf (f + k) (Nat.le_add_right _ _) ((at_iff L _).mpr ⟨?_, ?_⟩)
      · simpa [List.getElem?_drop] using z.1
      · simpa [List.getElem?_drop, Nat.add_assoc] using z.2
    rw [e2, u, List.take_length, List.drop_length]
    exact (List.append_nil _).symm
  | c :: r, lo, h => by
    rw [StrLaws.ChainG.eq_2] at h
    obtain ⟨h1, h2, h3, h4⟩ := h
    have ih := prts_und L hf r (c + 2) h4
    obtain ⟨q, qs, e⟩ := prts_ne L (c + 2) r
    rw [prts_cons, e, ts_glued, sub_ts, List.flatMap_cons, List.append_assoc]
    rw [e, ts_glued] at ih
    rw [ih]
    have u := und_skip (c - lo) (L.drop lo) fun k hk z => by
      refine h3 (lo + k) (Nat.le_add_right _ _) (by omega) ((at_iff L _).mpr ⟨?_, ?_⟩)
      · simpa [List.getElem?_drop] using z.1
      · simpa [List.getElem?_drop, Nat.add_assoc] using z.2
    rw [u, List.drop_drop, show lo + (c - lo) = c by omega]
    obtain ⟨a0, a1⟩ := (at_iff L c).mp h2
    obtain ⟨l2, e2⟩ := List.getElem?_eq_some_iff.mp a1
    obtain ⟨l1, e1⟩ := List.getElem?_eq_some_iff.mp a0
    rw [List.drop_eq_getElem_cons l1, List.drop_eq_getElem_cons l2, e1, e2, und, if_pos ⟨rfl, rfl⟩]
    rfl
theorem repl2 (L : List Nat) : Txt.replace (tx L) (tx [39, 39]) (tx [39]) = tx (und L) := by
  obtain ⟨f, hc, hf⟩ := StrLaws.occ_tight (tx L) (tx [39, 39]) (by decide)
  rw [show (tx L).length = L.length from tx_len L] at hc hf
  have h := prts_und L hf _ 0 hc
  rw [List.drop_zero] at h
  unfold Txt.replace
  rw [show (tx L).length = L.length from tx_len L]
  split
  · rename_i c
    have c' : (occurrences (tx L) (tx [39, 39]) 0 L.length (L.length + 1)).isEmpty = true := by
      rw [show ((tx [39, 39]).length == 0 && (tx [39]).length == 0) = false from rfl, Bool.or_false] at c
      exact c
    rw [List.isEmpty_iff.mp c'] at h
    have e : prts L 0 [] = [strSub (tx L) 0 L.length] := rfl
    rw [e, ts_glued, sub_ts, List.flatMap_nil, List.append_nil, List.drop_zero, Nat.sub_zero, List.take_length] at h
    rw [← h]
  · apply str_ext
    rw [ts_tx, ← h]
    rfl
theorem repl2_dbl (x : List Nat) : Txt.replace (tx (dbl x)) (tx [39, 39]) (tx [39]) = tx x := by rw [repl2, und_dbl]
theorem find_first {L u rest : List Nat} {lo : Nat} (h : L.drop lo = u ++ 39 :: rest) (hu : 39 ∉ u) : Txt.find3 (tx L) (tx [39]) (lo : Int) = ((lo + u.length : Nat) : Int) := by
  have hl := congrArg List.length h
  rw [List.length_drop, List.length_append, List.length_cons] at hl
  have hlo : fromIndex (tx L).length (lo : Int) = lo := by
    unfold fromIndex
    rw [if_neg (by omega)]
    omega
  have hg : ∀ j, (tx L).cps.getD (lo + j) 0 = (u ++ 39 :: rest).getD j 0 := fun j => by
    rw [← h]
    show L.toArray.getD (lo + j) 0 = _
    simp [List.getD_eq_getElem?_getD]
  have hat : (tx L).cps.getD (lo + u.length) 0 = 39 := by
    rw [hg, List.getD_eq_getElem?_getD, List.getElem?_append_right (Nat.le_refl _), Nat.sub_self]; rfl
  have hbe : ∀ j, j < u.length → (tx L).cps.getD (lo + j) 0 ≠ 39 := fun j hj z => by
    rw [hg, List.getD_eq_getElem?_getD, List.getElem?_append_left hj] at z
    rw [List.getElem?_eq_getElem hj] at z
    exact hu (by rw [← show u[j] = 39 from z]; exact List.getElem_mem hj)
  have hln : (tx L).length = L.length := tx_len L
  rcases StrLaws.find3_spec (tx L) 39 (lo : Int) with ⟨_, n⟩ | ⟨k, e, k1, k2, k3, k4⟩
  · rw [hlo] at n
    exact absurd hat (n (lo + u.length) (by omega) (by omega))
  · rw [hlo] at k1 k4
    rw [show (tx [39] : Str) = ⟨#[39]⟩ from rfl, e]
    congr 1
    rcases Nat.lt_trichotomy k (lo + u.length) with c | c | c
    · obtain ⟨j, rfl⟩ := Nat.exists_eq_add_of_le k1
      exact absurd k3 (hbe j (by omega))
    · exact c
    · exact absurd hat (k4 _ (by omega) c)
end L2
namespace L2
open PySem PySem.Spec PyProof.Rows
section
variable {P : Program} {w : World} {A : Around} {s : Shared} {E : Value → Shared → Prop}
end
section
variable {X : Cx}
end
end L2
namespace L2
open PySem PySem.Spec PyProof.Rows
structure Dm (P : Program) (w : World) (K : PySem.W.Frag) (mg : Str → Option Value) (base : Heap) (k : Nat) (C : Addr) (m : Str) (ps : List Str) (sp : Sp) : Prop where
  ex : ∃ (f : Addr) (fd : FuncData), Cls K C ∧ Meth K C m f ∧ FnOk P w K mg base CX0 k f fd ps sp ∧ Binds K fd ps []
structure Dk (P : Program) (w : World) (K : PySem.W.Frag) (mg : Str → Option Value) (base : Heap) (k : Nat) (x : Str) (C : Addr) (ps : List Str) (sp : Sp) : Prop where
  ex : ∃ (f : Addr) (fd : FuncData), Mk K C f ∧ FnOk P w K mg base CX0 k f fd ps sp ∧ Binds K fd ps [] ∧ mg x = some (.ref C)
section
variable {X : Cx} {k j : Nat} {C : Addr} {x m : Str} {ps : List Str} {sp : Sp} {e o : Expr} {es : List Expr} {t : TA} {ta : TE} {p pos apos : Pos}
theorem pe_cm {pl : Sem Bool} (D : Dm X.prog X.w X.K X.mg X.base k C m ps sp) (hr : Room j X.A) (hj : k ≤ j) (he : PE X o ta) (ha : PA X (e :: es) t)
    (hst : starEach (e :: es) X.env = (false, eval e X.env) :: starEach es X.env := by rfl) (hpl : (backTo pos (starEach es X.env)).any (·.1) = false := by rfl)
    (ht : eval (.Call (.Attribute o m apos) (e :: es) [] pos) X.env = (do
      let ov ← eval o X.env
      standAt apos.atName
      let (f, first) ← holding [ov] (getMethod ov m pl)
      callWith pos f first (backTo pos (starEach (e :: es) X.env)) (backToKw pos (keywordEach [] X.env))) := by rfl) :
    PE X (.Call (.Attribute o m apos) (e :: es) [] pos) (tMeth C m sp [] E0 ta t) := by
  obtain ⟨f, fd, h1, h2, h3, h4⟩ := D.ex
  exact pe_meth he h1 h2 h3 (hr.mono hj) h4 .nil pass0 ha hst hpl ht
theorem pe_mk (D : Dk X.prog X.w X.K X.mg X.base k x C ps sp) (hr : Room j X.A) (hj : k + 1 ≤ j) (hg : Gl X x) (ha : PA X (e :: es) t) (hdb : (x == ("__debug__" : Str)) = false := by decide)
    (he : starEach (e :: es) X.env = (false, eval e X.env) :: starEach es X.env := by rfl) (hpl : (backTo pos (starEach es X.env)).any (·.1) = false := by rfl) : PE X (.Call (.Name x p) (e :: es) [] pos) (tMake C sp [] E0 t) := by
  obtain ⟨f, fd, h1, h2, h3, h4⟩ := D.ex
  exact pe_make h1 h2 (hr.mono hj) hg h4 h3 .nil pass0 ha hdb he hpl
end
def wordsK : List (Key × V) := [(Sum.inr (Str.ofString "none"), .non), (Sum.inr (Str.ofString "yes"), .bl true), (Sum.inr (Str.ofString "no"), .bl false)]
def wordsU : List (Key × Value) := [(Sum.inr (Str.ofString "none"), .none), (Sum.inr (Str.ofString "yes"), .bool true), (Sum.inr (Str.ofString "no"), .bool false)]
structure Wd (P : Program) (w : World) (K : PySem.W.Frag) (mg : Str → Option Value) (wa : Addr) : Prop where
  at_ : mg "WORDS" = some (.ref wa)
  ns : (wa == sysModules) = false
  dd : ∀ h : Heap, K.In h → h.DictOf (mixKind P w) wa wordsU
theorem words_kv : KV wordsK wordsU := .cons ⟨rfl, rfl⟩ (.cons ⟨rfl, rfl⟩ (.cons ⟨rfl, rfl⟩ .nil))
section
variable {X : Cx} {wa : Addr}
theorem pe_gd {x : Str} {p : Pos} (hg : Gl X x) (h : X.mg x = some (.ref wa)) (hdb : (x == ("__debug__" : Str)) = false := by decide) : PE X (.Name x p) (tC (.ref wa)) := pe_glob (v := .ref wa) hg h rfl hdb
def rInW (wa : Addr) : R2 := fun x y H Q => ∃ s, x = .str s ∧ y = .ref wa ∧ Q (.bl (valV wordsK (Sum.inr s)).isSome) H
theorem op_in_kd (W : Wd X.prog X.w X.K X.mg wa) : OpR X (compareOp .In) (rInW wa) := by
  intro pins s σ H x y v u Q I rx ry h
  obtain ⟨z, rfl, rfl, q⟩ := h
  cases ry
  refine wpAny_in_of (kV_is (k := Sum.inr z) rx) W.ns (W.dd _ I.kIn).mapOf ?_
  rw [← (words_kv.val (Sum.inr z)).isSome_eq]
  exact ⟨.bl _, H, I.tok _, rfl, q⟩
def rIxW (wa : Addr) : R2 := fun x y H Q => ∃ s v, x = .ref wa ∧ y = .str s ∧ valV wordsK (Sum.inr s) = some v ∧ Q v H
theorem pe_kd {o i : Expr} {td ty : TE} {pos : Pos} (W : Wd X.prog X.w X.K X.mg wa) (ho : PE X o td) (hi : PE X i ty) (hs : NoSl i) : PE X (.Subscript o i pos) (tOp (rIxW wa) td ty) := by
  intro pins s σ H Q I h
  refine subD_of PySem.F.slot_dict_getitem.lookup hs (thn (ho pins s σ H _ I h) fun u s1 ⟨x, H1, I1, rx, q1⟩ => thn (hi pins s1 σ H1 _ I1 q1) fun iv s2 ⟨y, H2, I2, ry, z, vv, ex, ey, hv, q2⟩ => ?_)
  subst ex ey
  obtain rfl : u = Value.ref wa := rx
  have dd := W.dd _ I2.kIn
  obtain ⟨w', hw, rw'⟩ := RelO.some_of (v := vv) (o := valueAt wordsU (Sum.inr z)) (by rw [← hv]; exact words_kv.val (Sum.inr z))
  exact ⟨dd.typeIs, wpAny_getItem_of (kV_is (k := Sum.inr z) ry) dd.mapOf hw ⟨vv, H2, I2.tok _, rw', q2⟩⟩
def rLst : V → List V → Hp → VK → Prop := fun x vs H Q => ∃ z y, x = .str z ∧ vs = [.str y] ∧ z.length ≤ sizeLine ∧ Q (.str (Txt.lstripChars z y)) H
theorem mt_lstrip : MtR X "str.lstrip" rLst := by
  intro pins s σ H x vs v us Q I rx rv h
  obtain ⟨z, y, rfl, rfl, hz, q⟩ := h
  obtain ⟨t, rfl⟩ := rx
  obtain ⟨u1, rfl, ⟨t1, rfl⟩⟩ := vals1 rv
  refine call_gives F.slot_str_lstrip (typeIs_str _ _ _) F.entry_str_lstrip (F.args_str_lstrip_2 _ _) (gives_str_lstrip_chars z y t t1) (post_vs ⟨?_, fun t' k hk => ?_⟩)
  · split
    · exact hz
    · exact fits_stripped _ _ _ hz
  · exact ⟨.str _, H, I.tok _, ⟨_, rfl⟩, q⟩
theorem lstrip_minus {z : List Nat} {d : Nat} {r : List Nat} (hs : z = [] ∨ z = [45]) (hd : d ≠ 45) : Txt.lstripChars (tx (z ++ d :: r)) (tx [45]) = tx (d :: r) := by
  unfold Txt.lstripChars
  rw [stripBy_eq]
  have hc : (tx [45]).cps.contains d = false := by
    show (#[45] : Array Nat).contains d = false
    simp; exact hd
  have hc2 : (tx [45]).cps.contains 45 = true := by decide +kernel
  have e0 : (tx (z ++ d :: r)).cps.toList = z ++ d :: r := rfl
  have hlo : stripLo (tx [45]).cps.contains true (tx (z ++ d :: r)) = z.length := by
    unfold stripLo
    rw [if_pos rfl, e0]
    rcases hs with rfl | rfl
    · rw [List.nil_append, List.takeWhile_cons, hc]; rfl
    · show (List.takeWhile _ (45 :: d :: r)).length = 1
      rw [List.takeWhile_cons, hc2, List.takeWhile_cons, hc]; rfl
  rw [hlo]
  unfold stripHi
  rw [if_neg (by decide)]
  show (⟨(z ++ d :: r).toArray.extract z.length (tx (z ++ d :: r)).length⟩ : Str) = tx (d :: r)
  rw [tx_len]
  show (⟨_⟩ : Str) = ⟨(d :: r).toArray⟩
  congr 1
  rw [← Array.toList_inj]
  simp
theorem ps_try0 {body : List Stmt} {tb : TS} {ty : Option Expr} {nm : Option Str} {suite : List Stmt} {hp pos : Pos} (hxe : ∀ e s, ¬ X.xe e s) (hb : PSs X body tb) : PS X (.Try body [.ExceptHandler ty nm suite hp] [] [] pos) tb := by
  intro pins s σ H D I h
  refine wpAny_Try_except ?_
  refine wpAny_mono (hb pins s σ H D I h) (fun f s1 q => ?_) fun e s1 z => absurd z (hxe e s1)
  cases f with
  | next => exact wpAny_execs_nil q
  | brk => exact q
  | cont => exact q
  | ret u => exact q
end
end L2
namespace L2
open PySem PySem.Spec PyProof.Rows PySem.W.KIN
def digN (n : Nat) : List Nat := (Nat.toDigits 10 n).map Char.toNat
def numL (i : Int) : List Nat := (if i < 0 then [45] else []) ++ digN i.natAbs
theorem dig_all (n : Nat) : ∀ c ∈ digN n, 48 ≤ c ∧ c ≤ 57 := by
  intro c hc
  obtain ⟨ch, hch, e⟩ := List.mem_map.mp hc
  have h := Nat.isDigit_of_mem_toDigits (by decide) (by decide) hch
  unfold Char.isDigit at h
  simp only [Bool.and_eq_true, decide_eq_true_eq] at h
  rw [← e]
  exact ⟨h.1, h.2⟩
theorem dig_ne (n : Nat) : digN n ≠ [] := fun z => Nat.toDigits_ne_nil (List.map_eq_nil_iff.mp z)
theorem dig_len {n : Nat} (h : n ≤ 10 ^ 12) : (digN n).length ≤ 13 := by
  unfold digN
  rw [List.length_map]
  exact (Nat.length_toDigits_le_iff (by decide) (by decide)).mpr (by omega)
theorem digit_nz : ∀ d : Nat, d < 10 → d ≠ 0 → (Nat.digitChar d).toNat ≠ 48 := by decide
theorem dig_head (n : Nat) (h0 : n ≠ 0) : ∃ d r, digN n = d :: r ∧ d ≠ 48 := by
  induction n using Nat.strongRecOn with
  | _ m ih =>
    by_cases h : m < 10
    · refine ⟨(Nat.digitChar m).toNat, [], ?_, digit_nz m h h0⟩
      unfold digN
      rw [Nat.toDigits_of_lt_base h]; rfl
    · have hm : m % 10 < 10 := Nat.mod_lt m (by decide)
      have t : Nat.toDigits 10 (m / 10) ++ Nat.toDigits 10 (m % 10) = Nat.toDigits 10 (10 * (m / 10) + m % 10) := Nat.toDigits_append_toDigits (by decide) (by omega) hm
      rw [Nat.div_add_mod] at t
      obtain ⟨d, r, e, hd⟩ := ih (m / 10) (by omega) (by omega)
      refine ⟨d, r ++ (Nat.toDigits 10 (m % 10)).map Char.toNat, ?_, hd⟩
      unfold digN at e ⊢
      rw [← t, List.map_append, e]; rfl
theorem num_len {i : Int} (h : -(10 ^ 12) ≤ i ∧ i ≤ 10 ^ 12) : (numL i).length ≤ 14 := by
  unfold numL
  have := dig_len (n := i.natAbs) (by omega)
  rw [List.length_append]
  split
  · show 1 + _ ≤ _; omega
  · show 0 + _ ≤ _; omega
theorem num_reads2 {i : Int} (h : -(10 ^ 12) ≤ i ∧ i ≤ 10 ^ 12) : PySem.intText? (tx (numL i)) = some i := by
  have hl := num_len h
  by_cases hi : i < 0
  · have e : numL i = 45 :: digN i.natAbs := by unfold numL; rw [if_pos hi]; rfl
    have z := intText_neg (x := tx (numL i)) (cs := digN i.natAbs) e (dig_all _) (dig_ne _) (by rw [tx_len]; omega)
    rw [z]
    unfold digN
    rw [val_back]
    congr 1; omega
  · have e : numL i = digN i.natAbs := by unfold numL; rw [if_neg hi]; rfl
    have e2 : (tx (numL i)).cps.toList = digN i.natAbs := e
    have z := intText_digits (x := tx (numL i)) (by rw [e2]; exact dig_all _) (by rw [e2]; exact dig_ne _) (by rw [tx_len]; omega)
    rw [z, e2]
    unfold digN
    rw [val_back]
    congr 1; omega
theorem num_shape (i : Int) : ∃ z fs, numL i = z ++ fs ∧ (z = [] ∨ z = [45]) ∧ fs ≠ [] ∧ (∀ c ∈ fs, 48 ≤ c ∧ c ≤ 57) ∧ (i ≠ 0 → ∃ d r, fs = d :: r ∧ d ≠ 48) := by
  refine ⟨_, digN i.natAbs, rfl, ?_, dig_ne _, dig_all _, fun h => dig_head _ (by omega)⟩
  split
  · exact .inr rfl
  · exact .inl rfl
end L2
namespace L2
open PySem PySem.Spec PyProof.Rows
def newH (H H' : Hp) : Hp := fun b => match H b with
  | none => H' b
  | some _ => none
theorem newH_at {H H' : Hp} {b : Addr} (h : H b = none) : newH H H' b = H' b := by unfold newH; rw [h]
theorem newH_sub (H H' : Hp) : Same (newH H H') H' := fun b o e => by
  unfold newH at e
  cases h : H b with
  | none => rw [h] at e; exact e
  | some _ => rw [h] at e; cases e
theorem newH_old {H H' : Hp} {b : Addr} {o : HO} (e : newH H H' b = some o) : H b = none := by
  unfold newH at e
  cases h : H b with
  | none => rfl
  | some _ => rw [h] at e; cases e
end L2
namespace L2
open PySem PySem.Spec PyProof.Rows
section
variable {X : Cx}
end
theorem range_one (n : Nat) : sliceRange 0 (n : Int) 1 = List.range n := by
  unfold sliceRange
  apply List.ext_getElem
  · by_cases h : n = 0
    · simp [h]
    · simp
      rw [if_pos (by omega)]
      omega
  · intro i h1 h2
    simp at h2
    simp
theorem pick_one (items : Array Value) : slicePick items none none (some 1) = items.toList.toArray := by
  unfold slicePick
  have hb : sliceBounds none none (some 1) items.size = (0, (items.size : Int), 1) := by first | rfl | simp [sliceBounds]
  rw [hb]
  show ((sliceRange 0 (items.size : Int) 1).filterMap (items[·]?)).toArray = _
  rw [range_one]
  have z := range_get items.toList
  rw [Array.length_toList] at z
  congr 1
  simpa using z
section
variable {X : Cx} {e k : Expr} {te : TE} {tk : TO} {pos p2 : Pos}
def tStp (K : PySem.W.Frag) (te : TE) (tk : TO) : TE := fun σ H Q => te σ H fun x H1 => tk σ H1 fun st H2 => ∃ (a : Addr) (xs : List V) (n : Bool), x = .ref a ∧ SqL K H2 a xs ∧ st = some (if n then -1 else 1) ∧ ∀ l, H2 l = none → Q (.ref l) (upd H2 l (.lst (if n then xs.reverse else xs)))
theorem pe_stp (he : PE X e te) (hk : PO X (some k) tk) : PE X (.Subscript e (.Slice none none (some k) p2) pos) (tStp X.K te tk) := by
  intro pins s σ H Q I h
  refine Subscript_ (thn (he pins s σ H _ I h) fun v s1 ⟨x, H1, I1, r1, q1⟩ => ?_)
  refine wpAny_Slice ?_
  rw [evalPart_none]
  refine wpAny_pure ?_
  refine wpAny_pure ?_
  refine thn (hk pins s1 σ H1 _ I1 q1) fun vk s3 ⟨u, H3, I3, pu, q3⟩ => ?_
  obtain ⟨a, xs, n, rfl, hx, rfl, q⟩ := q3
  cases r1
  have I4 : Inv X pins σ H3 { s3 with heap := s3.heap.push { cls := .type "slice", data := .fields #[.none, .none, vk] } } := I3.kept (t' := s3.toks) fun b ob q => Heap.get?_push_of_some _ q
  obtain ⟨its, r, ht, hz⟩ := I4.list hx
  have hlen := r.length
  show wpAny (model X.prog X.w) X.A (subscriptTail e (.Slice none none (some k) p2) (.ref a) (.ref s3.heap.objs.size)) (EP X pins σ Q) X.xe { s3 with heap := s3.heap.push { cls := .type "slice", data := .fields #[.none, .none, vk] } }
  refine tail_any (ops := [.ref a, .ref s3.heap.objs.size]) ht.isList.typeIs slot_list_getitem.lookup ?_ (by with_unfolding_all rfl)
  cases n with
  | true =>
    refine wpAny_getItem_list_slice ht.isList (Heap.IsSliceOf.new ..) .none .none pu (by simp) ?_ (by rw [List.size_toArray] <;> omega)
    simp only [if_true]
    rw [pick_rev]
    refine ⟨.ref _, _, I4.laid (t' := _) (o := .lst xs.reverse) (fun b ob q => Heap.get?_push_of_some _ q) (Nat.le_refl _) ?_, rfl, q _ (I4.hok.fresh (Nat.le_refl _))⟩
    exact ⟨by rw [List.length_reverse]; exact hz, _, 0, r.reverse, Heap.get?_push_size _ rfl⟩
  | false =>
    refine wpAny_getItem_list_slice ht.isList (Heap.IsSliceOf.new ..) .none .none pu (by simp) ?_ (by rw [List.size_toArray] <;> omega)
    simp only [Bool.false_eq_true, if_false]
    rw [pick_one]
    refine ⟨.ref _, _, I4.laid (t' := _) (o := .lst xs) (fun b ob q => Heap.get?_push_of_some _ q) (Nat.le_refl _) ?_, rfl, q _ (I4.hok.fresh (Nat.le_refl _))⟩
    exact ⟨hz, _, 0, r, Heap.get?_push_size _ rfl⟩
end
end L2
namespace L2
open PySem PySem.Spec PyProof.Rows
def moK : Key := Sum.inr (Str.ofString "more")
structure My (HD H H' : Hp) : Prop where
  keep : ∀ b o, HD b = none → H b = some o → H' b = some o
  stay : ∀ b ps, HD b = some (.dK ps) → H b = some (.dK (putK ps moK (.int 1))) → H' b = some (.dK (putK ps moK (.int 1)))
end L2
namespace L2
open PySem PySem.Spec PyProof.Rows PySem.W
def TkP (H : Hp) (xs : List V) (zs : List (Str × Str)) : Prop := xs.length = zs.length ∧ ∀ (i : Nat) (k x : Str), zs[i]? = some (k, x) → ∃ p : Addr, xs[i]? = some (V.ref p) ∧ H p = some (.tup [.str k, .str x])
section
variable {X : Cx} {pins : List (Addr × Obj)} {σ : St} {H : Hp} {s : Shared} {A : Around}
theorem eq_st {z : Str} {u w : Value} (r1 : RelV (.str z) u) (r2 : RelV (.str z) w) : SeqAt.EqAt A s u w true := by
  obtain ⟨t, rfl⟩ := r1
  obtain ⟨t', rfl⟩ := r2
  have := SeqAt.EqAt.str_str (A := A) (s := s) z t z t'
  rwa [beq_self_eq_true] at this
theorem eq_two {p q : Addr} {k x : Str} (I : Inv X pins σ H s) (hp : H p = some (.tup [.str k, .str x])) (hq : H q = some (.tup [.str k, .str x])) (hu : A.units < cLine) : SeqAt.EqAt A s (.ref p) (.ref q) true := by
  by_cases e : p = q
  · subst e
    exact SeqAt.EqAt.same _
  obtain ⟨its, r1, p1, _⟩ := I.tuple (SqT.of (K := X.K) hp)
  obtain ⟨jts, r2, p2, _⟩ := I.tuple (SqT.of (K := X.K) hq)
  obtain ⟨u, u', rfl, ru, ru'⟩ := vals2 r1
  obtain ⟨w, w', rfl, rw, rw'⟩ := vals2 r2
  refine SeqAt.EqAt.of_refs e ?_
  exact SeqAt.RcAt.tuples (e := fun _ => true) p1 p2 hu fun j h1 h2 => by
    have : j = 0 ∨ j = 1 := by simp at h1; omega
    rcases this with rfl | rfl
    · exact eq_st ru rw
    · exact eq_st ru' rw'
def rNeP : R2 := fun x y H Q => ∃ a b xs ys zs, x = .ref a ∧ y = .ref b ∧ H a = some (.lst xs) ∧ H b = some (.lst ys) ∧ TkP H xs zs ∧ TkP H ys zs ∧ Q (.bl false) H
theorem op_ne_P (hu : X.A.units + 64 < cLine) : OpR X (compareOp .NotEq) rNeP := by
  intro pins s σ H x y v u Q I rx ry h
  obtain ⟨a, b, xs, ys, zs, rfl, rfl, ha, hb, h1, h2, q⟩ := h
  cases rx
  cases ry
  obtain ⟨its, r1, pl1, _⟩ := I.list (SqL.of ha)
  obtain ⟨jts, r2, pl2, _⟩ := I.list (SqL.of hb)
  have n1 := r1.length
  have n2 := r2.length
  have m1 := h1.1
  have m2 := h2.1
  refine SeqAt.RcNeAt.lists (e := fun _ => true) pl1.isList pl2.isList (by simp; omega) (by omega) (fun j i1 i2 => ?_) X.prog X.w X.xe _ ?_
  · have hj : j < zs.length := by simp at i1; omega
    obtain ⟨p, hp, hp'⟩ := h1.2 j zs[j].1 zs[j].2 (List.getElem?_eq_getElem hj)
    obtain ⟨q', hq, hq'⟩ := h2.2 j zs[j].1 zs[j].2 (List.getElem?_eq_getElem hj)
    obtain ⟨u, hu1, ru⟩ := r1.get hp
    obtain ⟨w, hw1, rw'⟩ := r2.get hq
    cases (show u = Value.ref p from ru)
    cases (show w = Value.ref q' from rw')
    obtain ⟨_, e1⟩ := List.getElem?_eq_some_iff.mp hu1
    obtain ⟨_, e2⟩ := List.getElem?_eq_some_iff.mp hw1
    simp only [List.getElem_toArray, e1, e2]
    exact eq_two I hp' hq' (by show X.A.units + 1 < cLine; omega)
  · rw [List.all_eq_true.mpr fun _ _ => rfl]
    exact ⟨.bl false, H, I, rfl, q⟩
end
abbrev g3 (K : PySem.W.Frag) : TG := gTup K 3 (gCons (gName 0) (gCons (gName 1) (gCons (gName 2) gNil)))
theorem weak_three {F : List (Option V)} {x y z : V} : Weak (some x :: some y :: some z :: F) (none :: none :: none :: F) := ⟨rfl, fun i v e => by
  match i, e with
  | 0, e => cases e
  | 1, e => cases e
  | 2, e => cases e
  | i + 3, e => exact e⟩
theorem comp_tri {K : PySem.W.Frag} {x y z : Str} {F : List (Str × Nat)} {l : Addr} {xs : List V} {te : TE} {σ : St} {Q : VK} {H1 : Hp} (Pv : Nat → List V → Hp → Prop) (hn : xs.length ≤ sizeLine) (h0 : Pv 0 [] H1) (hz : ∀ i ys H, i ≤ xs.length → Pv i ys H → SqL K H l xs)
    (hs : ∀ i b ys H, xs[i]? = some b → ys.length ≤ i → Pv i ys H → ∃ a u v w, b = V.ref a ∧ SqT K H a [u, v, w] ∧ te (some u :: some v :: some w :: F.map (fun p => (σ[p.2]?).join)) H fun r H4 => Pv (i + 1) (ys ++ [r]) H4)
    (hd : ∀ ys H, ys.length ≤ xs.length → Pv xs.length ys H → ∀ p, H p = none → Q (.ref p) (upd H p (.lst ys))) : CompBody [x, y, z] F (g3 K) tTrue te σ Q (Itl K l) H1 := by
  refine ⟨fun i m ys H => m = xs.length - i ∧ i ≤ xs.length ∧ Pv i ys H, ⟨xs.length, by simp, Nat.zero_le _, h0⟩, ?_⟩
  rintro i m ys H ⟨rfl, hi, p⟩ hl
  by_cases hlt : i < xs.length
  · refine .inr ⟨⟨xs, xs[i], hz i ys H (Nat.le_of_lt hlt) p, by simp [hlt]⟩, by omega, Pv (i + 1), fun ys' H'' q => ⟨xs.length - (i + 1), by omega, rfl, hlt, q⟩, fun b H2 hz' => ?_⟩
    obtain ⟨rfl, hy⟩ := hz'
    obtain ⟨a, u, v, w, rfl, hq, ht⟩ := hs i b ys _ (hy xs (hz i ys _ (Nat.le_of_lt hlt) p)) hl p
    refine ⟨a, [u, v, w], rfl, hq, rfl, u, [v, w], rfl, v, [w], rfl, w, [], rfl, rfl, ?_⟩
    exact ⟨weak_three, ht⟩
  · have e : i = xs.length := by omega
    subst e
    exact .inl ⟨⟨xs, hz _ ys H (Nat.le_refl _) p, Nat.le_refl _⟩, hn, hd ys H hl p⟩
end L2
namespace K28
open PySem L2
local macro_rules | `(tactic| walk_at "rd") => `(tactic| simp only [cxOf_K, nox_K, compCx_K, tSeq, tNext, tAsg, gName, tRet, tRetN, tIfS, tDrop, tOp, tUn, tVar, tC, tCall, tCons, tNil, tTest, tB, tAnd, tOr, tNot, tAndV, tOrV, tNotV, tIf, tCB, tBM, tComp, tTrue, tPart, tNoPart, tSl, tChain, tIsN, tNotN, tLst, tTup, tFor_eq, sDPut, tDNewK, tNever, rI0, rI, rU, rEq, rNe, rMulS, rInC, iRng1, iStr, CDiv, CMul, CPow, scal, List.append_nil, List.getElem?_cons_zero, List.getElem?_cons_succ, List.set_cons_zero, List.set_cons_succ, List.map_cons, List.map_nil, List.length_cons, List.length_nil, sizeLine_eq, Nat.reduceAdd, Nat.reduceLeDiff, Option.join_some, Option.join_none, Option.some.injEq, V.int.injEq, V.str.injEq, V.bl.injEq, V.ref.injEq, V.ty.injEq, List.cons.injEq, and_true, true_and, and_self, exists_eq_left', exists_eq_left, exists_and_left, exists_and_right, decide_eq_true_eq, Bool.not_eq_eq_eq_not, Bool.not_true, Bool.not_false, decide_eq_false_iff_not, Int.reduceLT, Int.reduceLE, Int.reduceNeg, Int.reducePow, Int.reduceAdd, Int.reduceSub, Int.reduceMul, Int.reduceToNat, natAbs10, Nat.reduceLT, Nat.reducePow, or_true, true_or, if_true, if_false, Bool.false_eq_true, ite_true, ite_false, reduceCtorEq])
seal L2.PSs L2.PS L2.PE L2.PT L2.PW L2.PA L2.PI L2.PG L2.PGs L2.PPs L2.PTs
def top (i : Nat) : Stmt := PySem.Challenge.pw_cabinet_k28_whole_there_and_back.main.body.getD i (.Pass ⟨0, 0, 0, 0⟩)
abbrev sCell : Stmt := top 39
abbrev sNum : Stmt := top 43
def spCell (K : PySem.W.Frag) : Sp := fun vs H Q _ => ∃ (a : Addr) (ns : List Int) (k : Int), vs = [.ref a, .int k] ∧ SqL K H a (ns.map V.int) ∧ ns.length ≤ 63 ∧ 0 ≤ k ∧ k < 1000000 ∧ ∀ H', Same H H' → Q (.int (cellF ns k)) H'
theorem spCell_i {K : PySem.W.Frag} {H : Hp} {Q : VK} {E : XK} {a : Addr} {ns : List Int} {k : Int} (hS : SqL K H a (ns.map V.int)) (h63 : ns.length ≤ 63) (h0 : 0 ≤ k) (h1 : k < 1000000) (q : ∀ H', Same H H' → Q (.int (cellF ns k)) H') :
    spCell K [.ref a, .int k] H Q E := ⟨a, ns, k, rfl, hS, h63, h0, h1, q⟩
section
variable {P : Program} {w : World} {K : PySem.W.Frag} {mg : Str → Option Value} {base : Heap} {f : Addr} {fd : FuncData}
theorem scCell : FnScope ["_law_script", "_law_k", "_law_more"] ["_law_script", "_law_k"] (defScope sCell) := ⟨rfl, rfl, rfl, by decide +kernel, rfl, by decide +kernel, by decide +kernel⟩
theorem ok_cell (F : Fun K "_law_cell" "_law_cell" sCell f fd) (B : Bl mg) : FnOk P w K mg base CX0 1 f fd ["_law_script", "_law_k"] (spCell K) := by
  refine F.ok scCell (fun vs H Q E h => ?_) (fun cdv A outer s H vs Q E hr h => ?_)
  · obtain ⟨a, ns, k, rfl, _⟩ := h
    rfl
  obtain ⟨a, ns, k, rfl, hS, h63, h0, h1, q⟩ := h
  have nd := scCell.nd
  have hu0 := hr.units0
  refine ⟨_, (pss_cons (ps_set (i := 2) nd rfl (Or.inl rfl) (pe_op op_mul (pv 1) pe_int))
    (pss_cons (ps_if (pt_cmpR (op_ne_l hu0) (pv 0) (pe_lst pa_nil) (nomark _)) (pss_cons (ps_set (i := 2) nd rfl (Or.inl rfl) (pe_op op_add (pv 2) (pe_op op_mul (pe_op op_fdiv (pv 1) (pe_callB call_len_l rfl B.len bt_len (pa_cons (pv 0) pa_nil))) pe_int)))
    (pss_one (ps_set (i := 2) nd rfl (Or.inl rfl) (pe_op op_mod (pe_op op_add (pv 2) (pe_op op_mul (pe_ix ix_list (pv 0) (pe_op op_mod (pv 1) (pe_callB call_len_l rfl B.len bt_len (pa_cons (pv 0) pa_nil))) (fun _ _ => rfl)) pe_int)) pe_int)))) pss_nil)
    (pss_one (ps_ret (pe_op op_mod (pe_op op_add (pe_op op_fdiv (pe_op op_mul (pv 2) (pv 2)) pe_int) (pe_op op_mul pe_int (pv 2))) pe_int))))), ?_⟩
  rw [show start ["_law_script", "_law_k", "_law_more"] [.ref a, .int k] = [some (.ref a), some (.int k), none] from rfl]
  walk_at "rd"
  intro p hp
  have hS' := (same_new hp (.lst [])).seq hS
  refine rEqL_i hS' (SqL.of upd_same) (flat_ints ns) rfl ⟨_, rfl, ?_⟩
  rw [eqLs_nil]
  by_cases hn : ns = []
  · subst hn
    refine iteF ⟨.inl (by omega), ?_⟩
    exact q _ (same_new hp _)
  · have hpos : 0 < ns.length := List.length_pos_iff.mpr hn
    have e1 : (ns.map V.int).isEmpty = false := by cases ns with | nil => exact absurd rfl hn | cons _ _ => rfl
    rw [if_pos rfl, e1]
    have hl : (ns.map V.int).length = ns.length := List.length_map _
    have hm0 : 0 ≤ k % (ns.length : Int) := Int.emod_nonneg _ (by omega)
    have hm1 : k % (ns.length : Int) < ns.length := Int.emod_lt_of_pos _ (by omega)
    refine iteT ⟨ns.map V.int, hS', by rw [hl]; omega, ns.map V.int, hS', by rw [hl]; omega, ?_⟩
    rw [hl]
    refine rIxL_i hS' (atI_getD (d := .int 0) hm0 (by rw [hl]; exact hm1)) ⟨ns.getD (k % ns.length).toNat 0, ?_, .inl ?_, ?_⟩
    · simp [List.getD, List.getElem?_map]
    · generalize (k * 7919 + k / ns.length * 104729 + ns.getD (k % ns.length).toNat 0 * 48271) = z
      omega
    · have e : cellF ns k = _ := rfl
      have e2 : cellF ns k = (((k * 7919 + k / ns.length * 104729 + ns.getD (k % ns.length).toNat 0 * 48271) % 1000003 * ((k * 7919 + k / ns.length * 104729 + ns.getD (k % ns.length).toNat 0 * 48271) % 1000003) / 11 + 13 * ((k * 7919 + k / ns.length * 104729 + ns.getD (k % ns.length).toNat 0 * 48271) % 1000003)) % 1000003) := by
        unfold cellF; rw [if_neg hn]
      rw [← e2]
      exact q _ (same_new hp _)
def spNum : Sp := fun vs H Q _ => ∃ (m : Int), vs = [.int m] ∧ 0 ≤ m ∧ m < 2000000 ∧ ∀ H', Same H H' → Q (.int (numF m)) H'
theorem scNum : FnScope ["_law_more"] ["_law_more"] (defScope sNum) := ⟨rfl, rfl, rfl, by decide +kernel, rfl, by decide +kernel, by decide +kernel⟩
theorem ok_num (F : Fun K "_law_number_by" "_law_number_by" sNum f fd) : FnOk P w K mg base CX0 1 f fd ["_law_more"] spNum := by
  refine F.ok scNum (fun vs H Q E h => ?_) (fun cdv A outer s H vs Q E hr h => ?_)
  · obtain ⟨m, rfl, _⟩ := h
    rfl
  obtain ⟨m, rfl, h0, h1, q⟩ := h
  have nd := scNum.nd
  refine ⟨_, (pss_cons (ps_if (pt_cmpR op_eq (pe_op op_mod (pv 0) pe_int) pe_int (nomark _)) (pss_one (ps_ret (pe_op op_sub (pe_op op_mod (pe_op op_fdiv (pv 0) pe_int) pe_int) pe_int))) pss_nil)
    (pss_cons (ps_if (pt_cmpR op_eq (pe_op op_mod (pv 0) pe_int) pe_int (nomark _)) (pss_one (ps_ret (pe_op op_sub (pe_op op_mod (pe_op op_pow (pv 0) pe_int) (pe_op op_add (pe_op op_mul pe_int (pe_op op_pow pe_int pe_int)) pe_int)) (pe_op op_pow pe_int pe_int)))) pss_nil)
    (pss_one (ps_ret (pe_ix ix_list (pe_lst (pa_cons (pe_op op_pow pe_int pe_int) (pa_cons (pe_un un_neg (pe_op op_pow pe_int pe_int)) (pa_cons (pe_op op_sub (pe_op op_pow pe_int pe_int) pe_int) (pa_cons pe_int (pa_cons pe_int (pa_cons (pe_un un_neg pe_int) (pa_cons (pe_op op_pow pe_int pe_int) (pa_cons pe_int pa_nil))))))))) (pe_op op_mod (pe_op op_fdiv (pv 0) pe_int) pe_int) (fun _ _ => rfl)))))), ?_⟩
  rw [show start ["_law_more"] [.int m] = [some (.int m)] from rfl]
  walk_at "rd"
  unfold numF at q
  split
  · rename_i hc
    rw [if_pos hc] at q
    exact q _ (Same.refl H)
  · rename_i hc
    rw [if_neg hc] at q
    split
    · rename_i hd
      rw [if_pos hd] at q
      exact ⟨by omega, q _ (Same.refl H)⟩
    · rename_i hd
      rw [if_neg hd] at q
      intro p hp
      refine rIxL_i (SqL.of upd_same) (atI_getD (d := .int 0) (by omega) (by simp only [List.length_cons, List.length_nil]; omega)) ?_
      have e : ([V.int 1000000000000, V.int (-1000000000000), V.int 999999999999, V.int 0, V.int 1, V.int (-1), V.int 100000000000, V.int 999] : List V).getD (m / 3 % 8).toNat (.int 0) = .int (([1000000000000, -1000000000000, 999999999999, 0, 1, -1, 100000000000, 999] : List Int).getD (m / 3 % 8).toNat 0) := by
        rcases (by omega : m / 3 % 8 = 0 ∨ m / 3 % 8 = 1 ∨ m / 3 % 8 = 2 ∨ m / 3 % 8 = 3 ∨ m / 3 % 8 = 4 ∨ m / 3 % 8 = 5 ∨ m / 3 % 8 = 6 ∨ m / 3 % 8 = 7) with e | e | e | e | e | e | e | e <;> rw [e] <;> rfl
      rw [e]
      exact q _ (same_new hp _)
end
section
variable {P : Program} {w : World} {K : PySem.W.Frag} {mg : Str → Option Value} {base : Heap} {f : Addr} {fd : FuncData}
abbrev sName : Stmt := top 40
def spName : Sp := fun vs H Q _ => ∃ (m : Int), vs = [.int m] ∧ 0 ≤ m ∧ m < 2000000 ∧ ∀ H', Same H H' → Q (.str (tx (nameF m))) H'
theorem scName : FnScope ["_law_more", "_law_letters", "_law_size", "_law_at", "_law_word", "_law_step", "_law_rest"] ["_law_more"] (defScope sName) := ⟨rfl, rfl, rfl, by decide +kernel, rfl, by decide +kernel, by decide +kernel⟩
theorem ok_name (F : Fun K "_law_name_by" "_law_name_by" sName f fd) (B : Bl mg) : FnOk P w K mg base CX0 1 f fd ["_law_more"] spName := by
  refine F.ok scName (fun vs H Q E h => ?_) (fun cdv A outer s H vs Q E hr h => ?_)
  · obtain ⟨m, rfl, _⟩ := h
    rfl
  obtain ⟨m, rfl, h0, h1, q⟩ := h
  have nd := scName.nd
  refine ⟨_, (pss_cons (ps_set (i := 1) nd rfl (Or.inr rfl) pe_str)
    (pss_cons (ps_set (i := 2) nd rfl (Or.inl rfl) (pe_ix ix_list (pe_lst (pa_cons pe_int (pa_cons (pe_op op_add pe_int (pe_op op_mod (pe_op op_fdiv (pv 0) pe_int) pe_int)) (pa_cons (pe_op op_add pe_int (pe_op op_mod (pe_op op_fdiv (pv 0) pe_int) pe_int)) pa_nil)))) (pe_op op_mod (pv 0) pe_int) (fun _ _ => rfl)))
    (pss_cons (ps_if (pt_cmpR op_eq (pe_op op_mod (pe_op op_fdiv (pv 0) pe_int) pe_int) pe_int (nomark _)) (pss_cons (ps_set (i := 3) nd rfl (Or.inl rfl) (pe_op op_mod (pe_op op_fdiv (pv 0) pe_int) (pv 2)))
    (pss_cons (ps_set (i := 4) nd rfl (Or.inl rfl) (pe_op op_add_str (pe_op op_add_str (pe_op op_mul_str pe_str (pv 3)) (pe_ix ix_str (pv 1) (pe_op op_mod (pe_op op_fdiv (pv 0) pe_int) pe_int) (fun _ _ => rfl))) (pe_op op_mul_str pe_str (pe_op op_sub (pe_op op_sub (pv 2) (pv 3)) pe_int))))
    (pss_one (ps_ret (pv 4))))) pss_nil)
    (pss_cons (ps_set (i := 5) nd rfl (Or.inr rfl) (pe_op op_add pe_int (pe_op op_mod (pe_op op_fdiv (pv 0) pe_int) pe_int)))
    (pss_cons (ps_set (i := 6) nd rfl (Or.inl rfl) (pe_bm PySem.F.plainAttrs_str PySem.F.slot_str_join PySem.F.type_str_join mt_join pe_str (pa_cons (pe_comp (own := ["_law_j"]) (F := [("_law_letters", 1), ("_law_more", 0), ("_law_step", 5)]) ⟨rfl, by with_unfolding_all rfl, by with_unfolding_all rfl, by with_unfolding_all rfl, (.cons rfl rfl rfl (.cons rfl rfl rfl (.cons rfl rfl rfl .nil)))⟩ rfl (pi_range1 rfl B.range (pa_cons (pe_op op_sub (pv 2) pe_int) pa_nil)) (fun _ _ _ _ => pg_name (i := 0) (by show (compN ["_law_j"] [("_law_letters", 1), ("_law_more", 0), ("_law_step", 5)]).Nodup; decide +kernel) rfl (Or.inl rfl)) (fun _ _ _ _ => pts_nil) (fun _ _ _ _ => (pe_ix ix_str (pv 1) (pe_op op_mod (pe_op op_add (pe_op op_fdiv (pv 2) pe_int) (pe_op op_mul (pv 0) (pv 3))) pe_int) (fun _ _ => rfl)))) pa_nil)))
    (pss_one (ps_ret (pe_op op_add_str (pe_ix ix_str (pv 1) (pe_op op_mod (pe_op op_fdiv (pv 0) pe_int) pe_int) (fun _ _ => rfl)) (pv 6))))))))), ?_⟩
  rw [show start ["_law_more", "_law_letters", "_law_size", "_law_at", "_law_word", "_law_step", "_law_rest"] [.int m] = [some (.int m), none, none, none, none, none, none] from rfl]
  walk_at "rd"
  intro p hp
  obtain ⟨n1, n12⟩ := sizF_in m
  refine rIxL_i (SqL.of upd_same) (sizF_at m) ?_
  simp only [ts_a, rep_one, of_nil]
  unfold nameF at q
  generalize sizF m = n at *
  split
  · rename_i hc
    rw [if_pos hc] at q
    have a0 := Int.emod_nonneg (m / 72) (show n ≠ 0 by omega)
    have a1 := Int.emod_lt_of_pos (m / 72) (show 0 < n by omega)
    refine ⟨n, rfl, by omega, by decide, by omega, by omega, rIxS_i (by decide) (by rw [ts_l36]; exact chF_at (by omega) (by omega)) ⟨_, rfl, ?_, n, rfl, by decide, by omega, by omega, ?_, ?_⟩⟩
    · rw [tx_len, tx_len]; simp only [List.length_replicate, List.length_singleton]; omega
    · rw [app_tx, tx_len, tx_len]; simp only [List.length_append, List.length_replicate, List.length_singleton]; omega
    · rw [app_tx, app_tx]
      exact q _ (same_new hp _)
  · rename_i hc
    rw [if_neg hc] at q
    refine ⟨rfl, n, rfl, by omega, by omega, comp_rng (fun i ys H' => Same (upd H p (.lst [V.int 1, V.int (1 + m / 3 % 4), V.int (1 + m / 3 % 12)])) H' ∧ ys = ((restF m i).map fun c => tx [c]).map V.str) (by rw [sizeLine_eq]; omega) ⟨Same.refl _, rfl⟩ ?_ ?_⟩
    · rintro i ys H' hi _ ⟨hs, rfl⟩
      walk_at "rd"
      refine ⟨.inl (by omega), rIxS_i (by decide) (by rw [ts_l36]; exact chF_at (by omega) (by omega)) ⟨hs, ?_⟩⟩
      unfold restF
      rw [range_snoc]
      simp
    · rintro ys H' hl ⟨hs, rfl⟩ p' hp'
      have hrl : (restF m (n - 1).toNat).length = (n - 1).toNat := by simp [restF]
      refine ⟨p', (restF m (n - 1).toNat).map fun c => tx [c], rfl, rfl, SqL.of upd_same, by rw [flat_one]; omega, rIxS_i (by decide) (by rw [ts_l36]; exact chF_at (by omega) (by omega)) ⟨_, rfl, _, rfl, ?_, ?_⟩⟩
      · rw [flat_one, tx_len, tx_len, List.length_singleton]; omega
      · rw [flat_one, app_tx]
        exact q _ ((same_new hp _).trans (hs.trans (same_new hp' _)))
end
end K28
namespace K28
open PySem L2
local macro_rules | `(tactic| walk_at "rd") => `(tactic| simp only [cxOf_K, nox_K, compCx_K, tSeq, tNext, tAsg, gName, tRet, tRetN, tIfS, tDrop, tOp, tUn, tVar, tC, tCall, tCons, tNil, tTest, tB, tAnd, tOr, tNot, tAndV, tOrV, tNotV, tIf, tCB, tBM, tComp, tTrue, tPart, tNoPart, tSl, tChain, tIsN, tNotN, tLst, tTup, tFor_eq, sDPut, tDNewK, tNever, rI0, rI, rU, rEq, rNe, rMulS, rInC, iRng1, iStr, CDiv, CMul, CPow, scal, List.append_nil, List.getElem?_cons_zero, List.getElem?_cons_succ, List.set_cons_zero, List.set_cons_succ, List.map_cons, List.map_nil, List.length_cons, List.length_nil, sizeLine_eq, Nat.reduceAdd, Nat.reduceLeDiff, Option.join_some, Option.join_none, Option.some.injEq, V.int.injEq, V.str.injEq, V.bl.injEq, V.ref.injEq, V.ty.injEq, List.cons.injEq, and_true, true_and, and_self, exists_eq_left', exists_eq_left, exists_and_left, exists_and_right, decide_eq_true_eq, Bool.not_eq_eq_eq_not, Bool.not_true, Bool.not_false, decide_eq_false_iff_not, Int.reduceLT, Int.reduceLE, Int.reduceNeg, Int.reducePow, Int.reduceAdd, Int.reduceSub, Int.reduceMul, Int.reduceToNat, natAbs10, Nat.reduceLT, Nat.reducePow, or_true, true_or, if_true, if_false, Bool.false_eq_true, ite_true, ite_false, reduceCtorEq])
seal L2.PSs L2.PS L2.PE L2.PT L2.PW L2.PA L2.PI L2.PG L2.PGs L2.PPs L2.PTs
abbrev sSigns : Stmt := top 41
abbrev sText : Stmt := top 42
section
variable {P : Program} {w : World} {K : PySem.W.Frag} {mg : Str → Option Value} {base : Heap} {f : Addr} {fd : FuncData}
def spSigns : Sp := fun vs H Q _ => vs = [] ∧ Q (.str (tx sgnL)) H
theorem scSigns : FnScope ["_law_some"] [] (defScope sSigns) := ⟨rfl, rfl, rfl, by decide +kernel, rfl, by decide +kernel, by decide +kernel⟩
theorem ok_signs (F : Fun K "_law_signs" "_law_signs" sSigns f fd) : FnOk P w K mg base CX0 1 f fd [] spSigns := by
  refine F.ok scSigns (fun vs H Q E h => ?_) (fun cdv A outer s H vs Q E hr h => ?_)
  · obtain ⟨rfl, _⟩ := h
    rfl
  obtain ⟨rfl, q⟩ := h
  have nd := scSigns.nd
  refine ⟨_, (pss_cons (ps_set (i := 0) nd rfl (Or.inl rfl) pe_str)
    (pss_one (ps_ret (pe_op op_add_str (pv 0) pe_str)))), ?_⟩
  rw [show start ["_law_some"] [] = [none] from rfl]
  walk_at "rd"
  refine ⟨by decide, ?_⟩
  rw [ts_sgn]; exact q
def spText : Sp := fun vs H Q _ => ∃ (m : Int), vs = [.int m] ∧ 0 ≤ m ∧ m < 2000000 ∧ ∀ H', Same H H' → Q (.str (tx (textF m))) H'
theorem scText : FnScope ["_law_more", "_law_signs_here", "_law_rest", "_law_size", "_law_half", "_law_step"] ["_law_more"] (defScope sText) := ⟨rfl, rfl, rfl, by decide +kernel, rfl, by decide +kernel, by decide +kernel⟩
theorem ok_text (F : Fun K "_law_text_by" "_law_text_by" sText f fd) (B : Bl mg) (G_law_signs : Dn P w K mg base 1 "_law_signs" [] spSigns) : FnOk P w K mg base CX0 2 f fd ["_law_more"] spText := by
  refine F.ok scText (fun vs H Q E h => ?_) (fun cdv A outer s H vs Q E hr h => ?_)
  · obtain ⟨m, rfl, _⟩ := h
    rfl
  obtain ⟨m, rfl, h0, h1, q⟩ := h
  have nd := scText.nd
  refine ⟨_, (pss_cons (ps_set (i := 1) nd rfl (Or.inr rfl) (pe_cd0 G_law_signs hr (by omega) rfl))
    (pss_cons (ps_set (i := 2) nd rfl (Or.inl rfl) (pe_op op_fdiv (pv 0) pe_int))
    (pss_cons (ps_set (i := 3) nd rfl (Or.inl rfl) (pe_ix ix_list (pe_lst (pa_cons (pe_op op_mod (pv 2) pe_int) (pa_cons (pe_op op_mod (pv 2) pe_int) (pa_cons (pe_op op_mod (pv 2) pe_int) pa_nil)))) (pe_op op_mod (pv 0) pe_int) (fun _ _ => rfl)))
    (pss_cons (ps_if (pt_cmpR op_eq (pe_op op_mod (pe_op op_fdiv (pv 0) pe_int) pe_int) pe_int (nomark _)) (pss_cons (ps_set (i := 4) nd rfl (Or.inl rfl) (pe_op op_fdiv (pv 3) pe_int))
    (pss_one (ps_ret (pe_op op_add_str (pe_op op_mul_str pe_str (pv 4)) (pe_op op_mul_str (pe_ix ix_str (pv 1) (pe_op op_mod (pe_op op_fdiv (pv 0) pe_int) pe_int) (fun _ _ => rfl)) (pe_op op_sub (pv 3) (pv 4))))))) pss_nil)
    (pss_cons (ps_set (i := 5) nd rfl (Or.inr rfl) (pe_op op_add pe_int (pe_op op_mod (pe_op op_fdiv (pv 0) pe_int) pe_int)))
    (pss_one (ps_ret (pe_bm PySem.F.plainAttrs_str PySem.F.slot_str_join PySem.F.type_str_join mt_join pe_str (pa_cons (pe_comp (own := ["_law_j"]) (F := [("_law_signs_here", 1), ("_law_more", 0), ("_law_step", 5)]) ⟨rfl, by with_unfolding_all rfl, by with_unfolding_all rfl, by with_unfolding_all rfl, (.cons rfl rfl rfl (.cons rfl rfl rfl (.cons rfl rfl rfl .nil)))⟩ rfl (pi_range1 rfl B.range (pa_cons (pv 3) pa_nil)) (fun _ _ _ _ => pg_name (i := 0) (by show (compN ["_law_j"] [("_law_signs_here", 1), ("_law_more", 0), ("_law_step", 5)]).Nodup; decide +kernel) rfl (Or.inl rfl)) (fun _ _ _ _ => pts_nil) (fun _ _ _ _ => (pe_ix ix_str (pv 1) (pe_op op_mod (pe_op op_add (pe_op op_fdiv (pv 2) pe_int) (pe_op op_mul (pv 0) (pv 3))) pe_int) (fun _ _ => rfl)))) pa_nil))))))))), ?_⟩
  rw [show start ["_law_more", "_law_signs_here", "_law_rest", "_law_size", "_law_half", "_law_step"] [.int m] = [some (.int m), none, none, none, none, none] from rfl]
  walk_at "rd"
  refine ⟨rfl, fun p hp => ?_⟩
  obtain ⟨n0, n30⟩ := lenF_in m
  refine rIxL_i (SqL.of upd_same) (lenF_at m) ?_
  simp only [ts_q, rep_one, of_nil]
  unfold textF at q
  generalize lenF m = n at *
  split
  · rename_i hc
    rw [if_pos hc] at q
    refine ⟨n, rfl, by decide, by omega, by omega, rIxS_i (by decide) (sgF_at (by omega) (by omega)) ⟨n, rfl, _, rfl, (show (1 : Nat) ≤ 1000 by decide), by omega, by omega, ?_, ?_⟩⟩
    · rw [ts_tx, rep_one, tx_len, tx_len]; simp only [List.length_replicate]; omega
    · rw [ts_tx, rep_one, app_tx]
      exact q _ (same_new hp _)
  · rename_i hc
    rw [if_neg hc] at q
    refine ⟨rfl, n, rfl, by omega, by omega, comp_rng (fun i ys H' => Same (upd H p (.lst [V.int (m / 5 % 4), V.int (m / 5 % 9), V.int (m / 5 % 31)])) H' ∧ ys = ((runF m i).map fun c => tx [c]).map V.str) (by rw [sizeLine_eq]; omega) ⟨Same.refl _, rfl⟩ ?_ ?_⟩
    · rintro i ys H' hi _ ⟨hs, rfl⟩
      walk_at "rd"
      refine ⟨.inl (by omega), rIxS_i (by decide) (sgF_at (by omega) (by omega)) ⟨hs, ?_⟩⟩
      unfold runF
      rw [range_snoc]
      simp
    · rintro ys H' hl ⟨hs, rfl⟩ p' hp'
      have hrl : (runF m n.toNat).length = n.toNat := by simp [runF]
      refine ⟨p', (runF m n.toNat).map fun c => tx [c], rfl, rfl, SqL.of upd_same, by rw [flat_one]; omega, ?_⟩
      rw [flat_one]
      exact q _ ((same_new hp _).trans (hs.trans (same_new hp' _)))
end
end K28
namespace K28
open PySem L2
local macro_rules | `(tactic| walk_at "rd") => `(tactic| simp only [cxOf_K, nox_K, compCx_K, tSeq, tNext, tAsg, gName, tRet, tRetN, tIfS, tDrop, tOp, tUn, tVar, tC, tCall, tCons, tNil, tTest, tB, tAnd, tOr, tNot, tAndV, tOrV, tNotV, tIf, tCB, tBM, tComp, tTrue, tPart, tNoPart, tSl, tChain, tIsN, tNotN, tLst, tTup, tFor_eq, sDPut, tDNewK, tNever, rI0, rI, rU, rEq, rNe, rMulS, rInC, iRng1, iStr, CDiv, CMul, CPow, scal, List.append_nil, List.getElem?_cons_zero, List.getElem?_cons_succ, List.set_cons_zero, List.set_cons_succ, List.map_cons, List.map_nil, List.length_cons, List.length_nil, sizeLine_eq, Nat.reduceAdd, Nat.reduceLeDiff, Option.join_some, Option.join_none, Option.some.injEq, V.int.injEq, V.str.injEq, V.bl.injEq, V.ref.injEq, V.ty.injEq, List.cons.injEq, and_true, true_and, and_self, exists_eq_left', exists_eq_left, exists_and_left, exists_and_right, decide_eq_true_eq, Bool.not_eq_eq_eq_not, Bool.not_true, Bool.not_false, decide_eq_false_iff_not, Int.reduceLT, Int.reduceLE, Int.reduceNeg, Int.reducePow, Int.reduceAdd, Int.reduceSub, Int.reduceMul, Int.reduceToNat, natAbs10, Nat.reduceLT, Nat.reducePow, or_true, true_or, if_true, if_false, Bool.false_eq_true, ite_true, ite_false, reduceCtorEq])
seal L2.PSs L2.PS L2.PE L2.PT L2.PW L2.PA L2.PI L2.PG L2.PGs L2.PPs L2.PTs
abbrev sThing : Stmt := top 44
def spThing (K : PySem.W.Frag) (d : Nat) : Sp := fun vs H Q _ => ∃ (a : Addr) (ns : List Int) (k : Int), vs = [.ref a, .int k, .int d] ∧ SqL K H a (ns.map V.int) ∧ ns.length ≤ 63 ∧ 0 ≤ k ∧ (k + 2) * 5 ^ d ≤ 1000000 ∧
  ∀ v H', Same H H' → Rep H' v (thT ns d k) → Q v H'
section
variable {P : Program} {w : World} {K : PySem.W.Frag} {mg : Str → Option Value} {base : Heap} {f : Addr} {fd : FuncData}
theorem scThing : FnScope ["_law_script", "_law_k", "_law_deep", "_law_more", "_law_kind", "_law_some", "_law_found", "_law_j"] ["_law_script", "_law_k", "_law_deep"] (defScope sThing) := ⟨rfl, rfl, rfl, by decide +kernel, rfl, by decide +kernel, by decide +kernel⟩
def DInv (nm : Nat → List Nat) (us : List T) (Hl : Hp) (p2 : Addr) (i : Nat) (H2 : Hp) : Prop := ∃ (ps : List (Key × V)), H2 p2 = some (.dK ps) ∧ ps.map (·.1) = (dicG nm us i).1.map nK ∧ Reps Hl (ps.map (·.2)) (dicG nm us i).2
theorem pow5 (e : Nat) : (1 : Int) ≤ 5 ^ e := by
  induction e with
  | zero => decide
  | succ n ih => rw [Int.pow_succ]; omega
theorem ok_thing0 (F : Fun K "_law_thing_by" "_law_thing_by" sThing f fd) (B : Bl mg) (G_law_cell : Dn P w K mg base 1 "_law_cell" ["_law_script", "_law_k"] (spCell K)) (G_law_number_by : Dn P w K mg base 1 "_law_number_by" ["_law_more"] spNum)
    (G_law_text_by : Dn P w K mg base 2 "_law_text_by" ["_law_more"] spText) : FnOk P w K mg base CX0 3 f fd ["_law_script", "_law_k", "_law_deep"] (spThing K 0) := by
  refine F.ok scThing (fun vs H Q E h => ?_) (fun cdv A outer s H vs Q E hr h => ?_)
  · obtain ⟨a, ns, k, rfl, _⟩ := h
    rfl
  obtain ⟨a, ns, k, rfl, hS, h63, h0, h1, q⟩ := h
  have nd := scThing.nd
  refine ⟨_, (pss_cons (ps_set (i := 3) nd rfl (Or.inl rfl) (pe_cd G_law_cell hr (by omega) rfl (pa_cons (pv 0) (pa_cons (pv 1) pa_nil))))
    (pss_cons (ps_set (i := 4) nd rfl (Or.inl rfl) (pe_op op_mod (pv 3) (pe_ix ix_list (pe_lst (pa_cons pe_int (pa_cons pe_int pa_nil))) (pe_callTy call_intB rfl B.int bt_int (pa_cons (pe_cmpR op_gt (pv 2) pe_int (nomark _)) pa_nil)) (fun _ _ => rfl))))
    (pss_cons (ps_if (pt_cmpR op_eq (pv 4) pe_int (nomark _)) (pss_one (ps_ret (pe_ix ix_list (pe_lst (pa_cons pe_non (pa_cons pe_bl (pa_cons pe_bl pa_nil)))) (pe_op op_mod (pe_op op_fdiv (pv 3) pe_int) pe_int) (fun _ _ => rfl)))) pss_nil)
    (pss_cons (ps_if (pt_cmpR op_lt (pv 4) pe_int (nomark _)) (pss_one (ps_ret (pe_cd G_law_number_by hr (by omega) rfl (pa_cons (pe_op op_fdiv (pv 3) pe_int) pa_nil)))) pss_nil)
    (pss_cons (ps_if (pt_cmpR op_lt (pv 4) pe_int (nomark _)) (pss_one (ps_ret (pe_cd G_law_text_by hr (by omega) rfl (pa_cons (pe_op op_fdiv (pv 3) pe_int) pa_nil)))) pss_nil)
    pss_never))))), ?_⟩
  rw [show start ["_law_script", "_law_k", "_law_deep", "_law_more", "_law_kind", "_law_some", "_law_found", "_law_j"] [.ref a, .int k, .int ((0 : Nat) : Int)] = [some (.ref a), some (.int k), some (.int ((0 : Nat) : Int)), none, none, none, none, none] from rfl]
  walk_at "rd"
  refine spCell_i hS h63 h0 (by omega) fun H1 g1 p hp => rIxL_i (SqL.of upd_same) (v := .int 5) rfl ⟨_, rfl, 5, rfl, by decide, ?_⟩
  have c0 := cellF_lo ns k
  have c1 := cellF_hi ns k
  have gp := g1.trans (same_new hp (.lst [V.int 5, V.int 9]))
  split
  · intro p2 hp2
    refine ⟨_, rfl, ?_⟩
    rename_i hc
    obtain ⟨v, hv, hr'⟩ := leafF_at (H := upd (upd H1 p (.lst [V.int 5, V.int 9])) p2 (.lst [V.non, V.bl true, V.bl false])) (cellF ns k)
    refine rIxL_i (SqL.of upd_same) hv (q _ _ (gp.trans (same_new hp2 _)) ?_)
    show Rep _ v (leafF (cellF ns k) (cellF ns k % 5))
    rw [hc]; exact hr'
  · split
    · rename_i n0 hc
      refine ⟨_, rfl, _, rfl, by omega, by omega, fun H2 g2 => q _ _ (gp.trans g2) ?_⟩
      show Rep _ _ (leafF (cellF ns k) (cellF ns k % 5))
      unfold leafF
      rw [if_neg n0, if_pos hc]; rfl
    · rename_i n0 n1
      rw [if_pos (by omega)]
      refine ⟨_, rfl, _, rfl, by omega, by omega, fun H2 g2 => q _ _ (gp.trans g2) ?_⟩
      show Rep _ _ (leafF (cellF ns k) (cellF ns k % 5))
      unfold leafF
      rw [if_neg n0, if_neg n1]; rfl
theorem ok_thingS {e : Nat} (F : Fun K "_law_thing_by" "_law_thing_by" sThing f fd) (B : Bl mg) (G_law_cell : Dn P w K mg base 1 "_law_cell" ["_law_script", "_law_k"] (spCell K)) (G_law_number_by : Dn P w K mg base 1 "_law_number_by" ["_law_more"] spNum)
    (G_law_text_by : Dn P w K mg base 2 "_law_text_by" ["_law_more"] spText) (G_law_name_by : Dn P w K mg base 1 "_law_name_by" ["_law_more"] spName)
    (G_law_thing_by : Dn P w K mg base (3 + e) "_law_thing_by" ["_law_script", "_law_k", "_law_deep"] (spThing K e)) : FnOk P w K mg base CX0 (3 + e + 1) f fd ["_law_script", "_law_k", "_law_deep"] (spThing K (e + 1)) := by
  refine F.ok scThing (fun vs H Q E h => ?_) (fun cdv A outer s H vs Q E hr h => ?_)
  · obtain ⟨a, ns, k, rfl, _⟩ := h
    rfl
  obtain ⟨a, ns, k, rfl, hS, h63, h0, h1, q⟩ := h
  have nd := scThing.nd
  have hu := hu_of hr
  refine ⟨_, (pss_cons (ps_set (i := 3) nd rfl (Or.inl rfl) (pe_cd G_law_cell hr (by omega) rfl (pa_cons (pv 0) (pa_cons (pv 1) pa_nil))))
    (pss_cons (ps_set (i := 4) nd rfl (Or.inl rfl) (pe_op op_mod (pv 3) (pe_ix ix_list (pe_lst (pa_cons pe_int (pa_cons pe_int pa_nil))) (pe_callTy call_intB rfl B.int bt_int (pa_cons (pe_cmpR op_gt (pv 2) pe_int (nomark _)) pa_nil)) (fun _ _ => rfl))))
    (pss_cons (ps_if (pt_cmpR op_eq (pv 4) pe_int (nomark _)) (pss_one (ps_ret (pe_ix ix_list (pe_lst (pa_cons pe_non (pa_cons pe_bl (pa_cons pe_bl pa_nil)))) (pe_op op_mod (pe_op op_fdiv (pv 3) pe_int) pe_int) (fun _ _ => rfl)))) pss_nil)
    (pss_cons (ps_if (pt_cmpR op_lt (pv 4) pe_int (nomark _)) (pss_one (ps_ret (pe_cd G_law_number_by hr (by omega) rfl (pa_cons (pe_op op_fdiv (pv 3) pe_int) pa_nil)))) pss_nil)
    (pss_cons (ps_if (pt_cmpR op_lt (pv 4) pe_int (nomark _)) (pss_one (ps_ret (pe_cd G_law_text_by hr (by omega) rfl (pa_cons (pe_op op_fdiv (pv 3) pe_int) pa_nil)))) pss_nil)
    (pss_cons (ps_comp (i := 5) nd rfl (Or.inl rfl) (own := ["_law_j"]) (F := [("_law_script", 0), ("_law_k", 1), ("_law_deep", 2)]) ⟨rfl, by with_unfolding_all rfl, by with_unfolding_all rfl, by with_unfolding_all rfl, (.cons rfl rfl rfl (.cons rfl rfl rfl (.cons rfl rfl rfl .nil)))⟩ rfl (pi_range1 rfl B.range (pa_cons (pe_op op_mod (pe_op op_fdiv (pv 3) pe_int) pe_int) pa_nil)) (fun _ _ _ _ => pg_name (i := 0) (by show (compN ["_law_j"] [("_law_script", 0), ("_law_k", 1), ("_law_deep", 2)]).Nodup; decide +kernel) rfl (Or.inl rfl)) (fun _ _ _ _ => pts_nil) (fun _ _ _ _ => (pe_cd G_law_thing_by hr (by omega) rfl (pa_cons (pv 1) (pa_cons (pe_op op_add (pe_op op_add (pe_op op_mul (pv 2) pe_int) pe_int) (pv 0)) (pa_cons (pe_op op_sub (pv 3) pe_int) pa_nil))))))
    (pss_cons (ps_if (pt_cmpR op_lt (pv 4) pe_int (nomark _)) (pss_one (ps_ret (pv 5))) pss_nil)
    (pss_cons (ps_set (i := 6) nd rfl (Or.inl rfl) pe_dnewK)
    (pss_cons (ps_for PassesOwn.never rfl (pi_range1 rfl B.range (pa_cons (pe_callB call_len_l rfl B.len bt_len (pa_cons (pv 5) pa_nil)) pa_nil)) (pg_name (i := 7) nd rfl (Or.inl rfl)) (pss_one (ps_dput hu (pv 6) (pe_cd G_law_name_by hr (by omega) rfl (pa_cons (pe_op op_add (pe_op op_fdiv (pe_cd G_law_cell hr (by omega) rfl (pa_cons (pv 0) (pa_cons (pe_op op_add (pe_op op_add (pe_op op_mul (pv 1) pe_int) pe_int) (pv 7)) pa_nil))) pe_int) (pv 7)) pa_nil)) (pe_ix ix_list (pv 5) (pv 7) (fun _ _ => rfl)) rfl)))
    (pss_one (ps_ret (pv 6)))))))))))), ?_⟩
  rw [show start ["_law_script", "_law_k", "_law_deep", "_law_more", "_law_kind", "_law_some", "_law_found", "_law_j"] [.ref a, .int k, .int ((e + 1 : Nat) : Int)] = [some (.ref a), some (.int k), some (.int ((e + 1 : Nat) : Int)), none, none, none, none, none] from rfl]
  walk_at "rd"
  have hpow : (1 : Int) ≤ 5 ^ e := pow5 e
  have hpow2 : (5 : Int) ^ (e + 1) = 5 ^ e * 5 := Int.pow_succ ..
  have h2 : (k + 2) * 5 * 5 ^ e ≤ 1000000 := by rw [Int.mul_assoc, Int.mul_comm 5 (5 ^ e), ← hpow2]; exact h1
  have h3 : (k + 2) * 5 ≤ 1000000 := by
    have : (k + 2) * 5 * 1 ≤ (k + 2) * 5 * 5 ^ e := Int.mul_le_mul_of_nonneg_left hpow (by omega)
    omega
  refine spCell_i hS h63 h0 (by omega) fun H1 g1 p hp => rIxL_i (SqL.of upd_same) (v := .int 9) ?_ ⟨_, rfl, 9, rfl, by decide, ?_⟩
  · rw [if_pos (by omega)]; rfl
  have c0 := cellF_lo ns k
  have c1 := cellF_hi ns k
  have gp := g1.trans (same_new hp (.lst [V.int 5, V.int 9]))
  split
  · intro p2 hp2
    refine ⟨_, rfl, ?_⟩
    rename_i hc
    obtain ⟨v, hv, hr'⟩ := leafF_at (H := upd (upd H1 p (.lst [V.int 5, V.int 9])) p2 (.lst [V.non, V.bl true, V.bl false])) (cellF ns k)
    refine rIxL_i (SqL.of upd_same) hv (q _ _ (gp.trans (same_new hp2 _)) ?_)
    unfold thT
    rw [if_pos (by omega), hc]; exact hr'
  · split
    · rename_i n0 hc
      refine ⟨_, rfl, _, rfl, by omega, by omega, fun H2 g2 => q _ _ (gp.trans g2) ?_⟩
      unfold thT leafF
      rw [if_pos (by omega), if_neg n0, if_pos hc]; rfl
    · split
      · rename_i n0 n1 hc
        refine ⟨_, rfl, _, rfl, by omega, by omega, fun H2 g2 => q _ _ (gp.trans g2) ?_⟩
        unfold thT leafF
        rw [if_pos hc, if_neg n0, if_neg n1]; rfl
      · rename_i n0 n1 n5
        unfold thT at q
        rw [if_neg n5] at q
        have hnn : (cellF ns k / 9 % 5).toNat ≤ 4 := by omega
        refine ⟨_, rfl, by omega, by omega, comp_rng (fun i ys H' => Same (upd H1 p (.lst [V.int 5, V.int 9])) H' ∧ Reps H' ys ((List.range i).map fun (j : Nat) => thT ns e (k * 5 + 1 + (0 + (j : Int))))) (by rw [sizeLine_eq]; omega) ⟨Same.refl _, rfl⟩ ?_ ?_⟩
        · rintro i ys H' hi _ ⟨hs, hR⟩
          walk_at "rd"
          refine ⟨a, ns, k * 5 + 1 + (0 + (i : Int)), ?_, hs.seq (gp.seq hS), h63, by omega, ?_, fun v H2 g2 hv => ⟨hs.trans g2, ?_⟩⟩
          · rw [show ((e + 1 : Nat) : Int) - 1 = (e : Int) by omega]
          · have : (k * 5 + 1 + (0 + (i : Int)) + 2) * 5 ^ e ≤ (k + 2) * 5 * 5 ^ e := Int.mul_le_mul_of_nonneg_right (by omega) (by omega)
            omega
          · rw [range_snoc]
            exact Reps.snoc hv (Reps.same g2 _ _ hR)
        · rintro ys H' hl ⟨hs, hR⟩ p' hp'
          have gl := gp.trans (hs.trans (same_new hp' (.lst ys)))
          have hR' : Reps (upd H' p' (.lst ys)) ys _ := Reps.same (same_new hp' _) _ _ hR
          have hlen : ys.length = (cellF ns k / 9 % 5).toNat := by rw [hR.length]; simp
          generalize hus : ((List.range (cellF ns k / 9 % 5).toNat).map fun (j : Nat) => thT ns e (k * 5 + 1 + (0 + (j : Int)))) = us at *
          have hul : us.length = (cellF ns k / 9 % 5).toNat := by rw [← hus]; simp
          by_cases h7 : cellF ns k % 9 < 7
          · rw [if_pos h7]
            rw [if_pos h7] at q
            exact q _ _ gl ⟨p', ys, rfl, upd_same, hR'⟩
          rw [if_neg h7]
          rw [if_neg h7] at q
          intro p2 hp2
          have gd := same_new hp2 (.dK [])
          have hSl : SqL K (upd (upd H' p' (.lst ys)) p2 (.dK [])) p' ys := SqL.of (gd _ _ upd_same)
          refine ⟨p', rfl, ys, hSl, by omega, by omega, ?_⟩
          rw [Int.toNat_natCast]
          refine forB_rng (fun i σ H2 => (∃ o, σ = [some (V.ref a), some (V.int k), some (V.int ((e + 1 : Nat) : Int)), some (V.int (cellF ns k)), some (V.int (cellF ns k % 9)), some (V.ref p'), some (V.ref p2), o]) ∧ Same (upd H' p' (.lst ys)) H2 ∧ DInv (kidN ns k) us (upd H' p' (.lst ys)) p2 i H2) ⟨⟨_, rfl⟩, gd, [], upd_same, rfl, rfl⟩ ?_ ?_
          · rintro i σ H2 hi ⟨⟨o, rfl⟩, g2, ps, hd, hk, hU⟩
            walk_at "rd"
            obtain ⟨v, hv⟩ : ∃ v, ys[i]? = some v := ⟨ys[i], by simp [hi]⟩
            obtain ⟨t, ht, hvt⟩ := hR'.get hv
            have hut : us.getD i .non = t := by rw [List.getD_eq_getElem?_getD, ht]; rfl
            refine rIxL_i (SqL.of (g2 _ _ upd_same)) (by rw [Int.zero_add]; exact atI_nat hv) (spCell_i (g2.seq (gl.seq hS)) h63 (by omega) (by omega) fun H3 g3 => ?_)
            have c0' := cellF_lo ns (k * 5 + 1 + (0 + (i : Int)))
            have c1' := cellF_hi ns (k * 5 + 1 + (0 + (i : Int)))
            refine ⟨_, rfl, _, rfl, by omega, by omega, fun H4 g4 => ⟨_, DPut.k (k := nK (kidN ns k i)) (g4 _ _ (g3 _ _ hd)) ?_, ⟨_, rfl⟩, ?_, ?_⟩⟩
            · have l1 := congrArg List.length hk
              have l2 := (dicG_ok (kidN ns k) us (fun j => nameF_ok _) i (by omega)).2.2.2.2
              simp only [List.length_map] at l1
              rw [sizeLine_eq]; omega
            · intro b o' hb
              have hne : b ≠ p2 := fun z => by rw [z, hp2] at hb; cases hb
              rw [upd_ne hne]
              exact g4 _ _ (g3 _ _ (g2 _ _ hb))
            · obtain ⟨e1, e2⟩ := put_repT (n := kidN ns k i) hk hU hvt
              refine ⟨_, upd_same, ?_, ?_⟩
              · show _ = (putT (dicG (kidN ns k) us i) (kidN ns k i) (us.getD i .non)).1.map nK
                rw [hut]; exact e1
              · show Reps _ _ (putT (dicG (kidN ns k) us i) (kidN ns k i) (us.getD i .non)).2
                rw [hut]; exact e2
          · rintro σ H2 ⟨⟨o, rfl⟩, g2, ps, hd, hk, hU⟩
            walk_at "rd"
            rw [hlen] at hk hU
            exact q _ _ (gl.trans g2) ⟨p2, ps, rfl, hd, hk, Reps.same g2 _ _ hU⟩
end
end K28
namespace K28
open PySem L2
local macro_rules | `(tactic| walk_at "rd") => `(tactic| simp only [cxOf_K, nox_K, compCx_K, tSeq, tNext, tAsg, gName, tRet, tRetN, tIfS, tDrop, tOp, tUn, tVar, tC, tCall, tCons, tNil, tTest, tB, tAnd, tOr, tNot, tAndV, tOrV, tNotV, tIf, tCB, tBM, tComp, tTrue, tPart, tNoPart, tSl, tChain, tIsN, tNotN, tLst, tTup, tFor_eq, sDPut, tDNewK, tNever, rI0, rI, rU, rEq, rNe, rMulS, rInC, iRng1, iStr, CDiv, CMul, CPow, scal, List.append_nil, List.getElem?_cons_zero, List.getElem?_cons_succ, List.set_cons_zero, List.set_cons_succ, List.map_cons, List.map_nil, List.length_cons, List.length_nil, sizeLine_eq, Nat.reduceAdd, Nat.reduceLeDiff, Option.join_some, Option.join_none, Option.some.injEq, V.int.injEq, V.str.injEq, V.bl.injEq, V.ref.injEq, V.ty.injEq, List.cons.injEq, and_true, true_and, and_self, exists_eq_left', exists_eq_left, exists_and_left, exists_and_right, decide_eq_true_eq, Bool.not_eq_eq_eq_not, Bool.not_true, Bool.not_false, decide_eq_false_iff_not, Int.reduceLT, Int.reduceLE, Int.reduceNeg, Int.reducePow, Int.reduceAdd, Int.reduceSub, Int.reduceMul, Int.reduceToNat, natAbs10, Nat.reduceLT, Nat.reducePow, or_true, true_or, if_true, if_false, Bool.false_eq_true, ite_true, ite_false, reduceCtorEq])
seal L2.PSs L2.PS L2.PE L2.PT L2.PW L2.PA L2.PI L2.PG L2.PGs L2.PPs L2.PTs
abbrev sKindOf : Stmt := top 10
def kindV (t : String) : V := if t = "NoneType" then .str "nothing" else if t = "bool" then .str "truth" else if t = "int" then .str "number" else if t = "str" then .str "text" else if t = "list" then .str "row" else if t = "dict" then .str "record" else .non
def spKind : Sp := fun vs H Q _ => ∃ (v : V) (t : String), vs = [v] ∧ tyS H v = some t ∧ ∀ H', Same H H' → Q (kindV t) H'
section
variable {P : Program} {w : World} {K : PySem.W.Frag} {mg : Str → Option Value} {base : Heap} {f : Addr} {fd : FuncData}
theorem tyS_non {H : Hp} {v : V} (h : tyS H v = some "NoneType") : v = .non := by
  cases v with
  | non => rfl
  | ref a =>
    have h' : (match H a with | some (.lst _) => some "list" | some (.tup _) => some "tuple" | some (.dK _) => some "dict" | _ => none) = some "NoneType" := h
    split at h' <;> first | exact absurd (Option.some.inj h') (by decide) | cases h'
  | bl b => exact absurd (Option.some.inj h) (by decide)
  | int b => exact absurd (Option.some.inj h) (by decide)
  | str b => exact absurd (Option.some.inj h) (by decide)
  | byt b => cases h
  | flt b => cases h
  | ty b => cases h
theorem kind_end {H : Hp} {v : V} {t : String} {Q : VK} (ht : tyS H v = some t) (q : Q (kindV t) H) :
    if v = V.non then Q (V.str (Str.ofString "nothing")) H else ∃ x, tyS H v = some x ∧ if isSub x "bool" = true then Q (V.str (Str.ofString "truth")) H else
      ∃ x, tyS H v = some x ∧ if isSub x "int" = true then Q (V.str (Str.ofString "number")) H else ∃ x, tyS H v = some x ∧ if isSub x "str" = true then Q (V.str (Str.ofString "text")) H else
      ∃ x, tyS H v = some x ∧ if isSub x "list" = true then Q (V.str (Str.ofString "row")) H else ∃ x, tyS H v = some x ∧ if isSub x "dict" = true then Q (V.str (Str.ofString "record")) H else Q V.non H := by
  have hm := tyS_mem ht
  simp only [ht, Option.some.injEq, exists_eq_left']
  by_cases hv : v = .non
  · subst hv; cases ht; rw [if_pos rfl]; exact q
  · rw [if_neg hv]
    simp only [tyL, List.mem_cons, List.not_mem_nil, or_false] at hm
    rcases hm with rfl | rfl | rfl | rfl | rfl | rfl | rfl
    · exact absurd (tyS_non ht) hv
    all_goals (simpa [isSub, kindV] using q)
theorem scKindOf : FnScope ["thing"] ["thing"] (defScope sKindOf) := ⟨rfl, rfl, rfl, by decide +kernel, rfl, by decide +kernel, by decide +kernel⟩
theorem ok_kind_of (F : Fun K "kind_of" "kind_of" sKindOf f fd) (B : Bl mg) : FnOk P w K mg base CX0 1 f fd ["thing"] spKind := by
  refine F.ok scKindOf (fun vs H Q E h => ?_) (fun cdv A outer s H vs Q E hr h => ?_)
  · obtain ⟨v, t, rfl, _⟩ := h
    rfl
  obtain ⟨v, t, rfl, ht, q⟩ := h
  have nd := scKindOf.nd
  refine ⟨_, (pss_cons (ps_if (pt_cmp (pc_isN (pv 0))) (pss_one (ps_ret pe_str)) pss_nil)
    (pss_cons (ps_if (pt_val (pe_callB (call_isi (T := "bool") (by decide)) rfl B.isinstance bt_isinstance (pa_cons (pv 0) (pa_cons (pe_bltn (v := .ty "bool") rfl B.bool bt_bool rfl) pa_nil)))) (pss_one (ps_ret pe_str)) pss_nil)
    (pss_cons (ps_if (pt_val (pe_callB (call_isi (T := "int") (by decide)) rfl B.isinstance bt_isinstance (pa_cons (pv 0) (pa_cons (pe_bltn (v := .ty "int") rfl B.int bt_int rfl) pa_nil)))) (pss_one (ps_ret pe_str)) pss_nil)
    (pss_cons (ps_if (pt_val (pe_callB (call_isi (T := "str") (by decide)) rfl B.isinstance bt_isinstance (pa_cons (pv 0) (pa_cons (pe_bltn (v := .ty "str") rfl B.str bt_str rfl) pa_nil)))) (pss_one (ps_ret pe_str)) pss_nil)
    (pss_cons (ps_if (pt_val (pe_callB (call_isi (T := "list") (by decide)) rfl B.isinstance bt_isinstance (pa_cons (pv 0) (pa_cons (pe_bltn (v := .ty "list") rfl B.list bt_list rfl) pa_nil)))) (pss_one (ps_ret pe_str)) pss_nil)
    (pss_cons (ps_if (pt_val (pe_callB (call_isi (T := "dict") (by decide)) rfl B.isinstance bt_isinstance (pa_cons (pv 0) (pa_cons (pe_bltn (v := .ty "dict") rfl B.dict bt_dict rfl) pa_nil)))) (pss_one (ps_ret pe_str)) pss_nil)
    (pss_one (ps_ret pe_non)))))))), ?_⟩
  rw [show start ["thing"] [v] = [some v] from rfl]
  walk_at "rd"
  exact kind_end ht (q H (Same.refl H))
theorem iP {c A B : Prop} [Decidable c] (h : c) (a : A) : if c then A else B := by rw [if_pos h]; exact a
theorem iN {c A B : Prop} [Decidable c] (h : ¬c) (b : B) : if c then A else B := by rw [if_neg h]; exact b
end
end K28
namespace K28
open PySem L2
local macro_rules | `(tactic| walk_at "rd") => `(tactic| simp only [cxOf_K, nox_K, compCx_K, tSeq, tNext, tAsg, gName, tRet, tRetN, tIfS, tDrop, tOp, tUn, tVar, tC, tCall, tCons, tNil, tTest, tB, tAnd, tOr, tNot, tAndV, tOrV, tNotV, tIf, tCB, tBM, tComp, tTrue, tPart, tNoPart, tSl, tChain, tIsN, tNotN, tLst, tTup, tFor_eq, sDPut, tDNewK, tNever, rI0, rI, rU, rEq, rNe, rMulS, rInC, iRng1, iStr, CDiv, CMul, CPow, scal, List.append_nil, List.getElem?_cons_zero, List.getElem?_cons_succ, List.set_cons_zero, List.set_cons_succ, List.map_cons, List.map_nil, List.length_cons, List.length_nil, sizeLine_eq, Nat.reduceAdd, Nat.reduceLeDiff, Option.join_some, Option.join_none, Option.some.injEq, V.int.injEq, V.str.injEq, V.bl.injEq, V.ref.injEq, V.ty.injEq, List.cons.injEq, and_true, true_and, and_self, exists_eq_left', exists_eq_left, exists_and_left, exists_and_right, decide_eq_true_eq, Bool.not_eq_eq_eq_not, Bool.not_true, Bool.not_false, decide_eq_false_iff_not, Int.reduceLT, Int.reduceLE, Int.reduceNeg, Int.reducePow, Int.reduceAdd, Int.reduceSub, Int.reduceMul, Int.reduceToNat, natAbs10, Nat.reduceLT, Nat.reducePow, or_true, true_or, if_true, if_false, Bool.false_eq_true, ite_true, ite_false, reduceCtorEq])
local macro_rules | `(tactic| walk_at "rd3") => `(tactic| simp only [gTup, gCons, gNil, iZip, tIsT, tDisp, tPairs, tBM0, iList, iDict, tThaw, tMaxD, rMaxD, tDGet, rVals, tComp, cxOf_K, nox_K, compCx_K, tSeq, tNext, tAsg, gName, tRet, tRetN, tIfS, tDrop, tOp, tUn, tVar, tC, tCall, tCons, tNil, tTest, tB, tAnd, tOr, tNot, tAndV, tOrV, tNotV, tIf, tCB, tBM, tComp, tTrue, tPart, tNoPart, tSl, tChain, tIsN, tNotN, tLst, tTup, tFor_eq, sDPut, tDNewK, tNever, rI0, rI, rU, rEq, rNe, rMulS, rInC, iRng1, iStr, CDiv, CMul, CPow, scal, List.append_nil, List.getElem?_cons_zero, List.getElem?_cons_succ, List.set_cons_zero, List.set_cons_succ, List.map_cons, List.map_nil, List.length_cons, List.length_nil, sizeLine_eq, Nat.reduceAdd, Nat.reduceLeDiff, Option.join_some, Option.join_none, Option.some.injEq, V.int.injEq, V.str.injEq, V.bl.injEq, V.ref.injEq, V.ty.injEq, List.cons.injEq, and_true, true_and, and_self, exists_eq_left', exists_eq_left, exists_and_left, exists_and_right, decide_eq_true_eq, Bool.not_eq_eq_eq_not, Bool.not_true, Bool.not_false, decide_eq_false_iff_not, Int.reduceLT, Int.reduceLE, Int.reduceNeg, Int.reducePow, Int.reduceAdd, Int.reduceSub, Int.reduceMul, Int.reduceToNat, natAbs10, Nat.reduceLT, Nat.reducePow, or_true, true_or, if_true, if_false, Bool.false_eq_true, ite_true, ite_false, reduceCtorEq])
seal L2.PSs L2.PS L2.PE L2.PT L2.PW L2.PA L2.PI L2.PG L2.PGs L2.PPs L2.PTs
abbrev sSgn : Stmt := top 12
abbrev sRun : Stmt := top 23
abbrev sKAt : Stmt := top 21
abbrev sNEnd : Stmt := top 24
structure Ms (mg : Str → Option Value) : Prop where
  LETTERS : ∃ t, mg "LETTERS" = some (.str (Str.ofString "abcdefghijklmnopqrstuvwxyz") t)
  FIGURES : ∃ t, mg "FIGURES" = some (.str (Str.ofString "0123456789") t)
  NAME_SIGNS : ∃ t, mg "NAME_SIGNS" = some (.str (Str.ofString "abcdefghijklmnopqrstuvwxyz0123456789") t)
  MARKS : ∃ t, mg "MARKS" = some (.str (Str.ofString "[]{},:") t)
  MOST_IN_NAME : ∃ t, mg "MOST_IN_NAME" = some (.int 12 t)
  MOST_IN_TEXT : ∃ t, mg "MOST_IN_TEXT" = some (.int 30 t)
  MOST_IN_ROW : ∃ t, mg "MOST_IN_ROW" = some (.int 60 t)
  MOST_IN_RECORD : ∃ t, mg "MOST_IN_RECORD" = some (.int 30 t)
  MOST_DEPTH : ∃ t, mg "MOST_DEPTH" = some (.int 8 t)
  MOST_SIZE : ∃ t, mg "MOST_SIZE" = some (.int 200 t)
  MOST_SIGNS : ∃ t, mg "MOST_SIGNS" = some (.int 20000 t)
  MOST_IN_NUMBER : ∃ t, mg "MOST_IN_NUMBER" = some (.int 14 t)
theorem of_let : Str.ofString "abcdefghijklmnopqrstuvwxyz" = tx letL := by decide +kernel
theorem of_fig : Str.ofString "0123456789" = tx figL := by decide +kernel
theorem of_nsg : Str.ofString "abcdefghijklmnopqrstuvwxyz0123456789" = tx (letL ++ figL) := by decide +kernel
theorem of_mks : Str.ofString "[]{},:" = tx mkL := by decide +kernel
theorem of_q : Str.ofString "'" = tx [39] := by decide +kernel
theorem of_qq : Str.ofString "''" = tx [39, 39] := by decide +kernel
theorem of_mi : Str.ofString "-" = tx [45] := by decide +kernel
theorem of_sp : Str.ofString " " = tx [32] := by decide +kernel
def kS : Nat → Str
  | 0 => Str.ofString "number"
  | 1 => Str.ofString "word"
  | 2 => Str.ofString "text"
  | _ => Str.ofString "mark"
section
variable {P : Program} {w : World} {K : PySem.W.Frag} {mg : Str → Option Value} {base : Heap} {f : Addr} {fd : FuncData}
def spSgn : Sp := fun vs H Q _ => ∃ c : Nat, vs = [.str (tx [c])] ∧ ∀ H', Same H H' → Q (.bl (decide (c ∈ sgnL))) H'
theorem mem_sgn (c : Nat) : c ∈ sgnL ↔ 32 ≤ c ∧ c ≤ 126 ∧ c ≠ 37 := by
  unfold sgnL
  rw [List.mem_filter, List.mem_map]
  constructor
  · rintro ⟨⟨i, hi, rfl⟩, h⟩
    have := List.mem_range.mp hi
    simp at h
    omega
  · rintro ⟨h1, h2, h3⟩
    exact ⟨⟨c - 32, List.mem_range.mpr (by omega), by omega⟩, by simp [h3]⟩
theorem scSgn : FnScope ["sign"] ["sign"] (defScope sSgn) := ⟨rfl, rfl, rfl, by decide +kernel, rfl, by decide +kernel, by decide +kernel⟩
theorem ok_sgn (F : Fun K "is_text_sign" "is_text_sign" sSgn f fd) (B : Bl5 mg) : FnOk P w K mg base CX0 1 f fd ["sign"] spSgn := by
  refine F.ok scSgn (fun vs H Q E h => ?_) (fun cdv A outer s H vs Q E hr h => ?_)
  · obtain ⟨c, rfl, _⟩ := h
    rfl
  obtain ⟨c, rfl, q⟩ := h
  have nd := scSgn.nd
  refine ⟨_, (pss_one (ps_ret (pe_and (pe_chain op_le_str op_le_str pe_str (pv 0) pe_str) (pe_one (pe_cmpR op_ne (pe_callB call_ord rfl B.ord bt_ord (pa_cons (pv 0) pa_nil)) pe_int (nomark _)))))), ?_⟩
  rw [show start ["sign"] [.str (tx [c])] = [some (.str (tx [c]))] from rfl]
  walk_at "rd3"
  have e1 : ts (Str.ofString " ") = [32] := by decide +kernel
  have e2 : ts (Str.ofString "~") = [126] := by decide +kernel
  have e3 : ts (tx [c]) = [c] := rfl
  have e4 : (↑((#[c] : Array Nat).getD 0 0) : Int) = (c : Int) := rfl
  have l1 : ∀ a b : Nat, ([a] : List Nat) < [b] ↔ a < b := fun a b => by
    constructor
    · intro h
      cases h with
      | rel h => exact h
      | cons h => cases h
    · exact fun h => .rel h
  have z := q H (Same.refl H)
  rw [e1, e2, e3, e4]
  by_cases c1 : c < 32
  · refine ⟨false, by rw [decide_eq_true ((l1 _ _).mpr c1)]; rfl, iteF ?_⟩
    rw [decide_eq_false (fun h => by have := (mem_sgn c).mp h; omega)] at z
    exact z
  · refine ⟨true, by rw [decide_eq_false (fun h => c1 ((l1 _ _).mp h))]; rfl, iteT ?_⟩
    by_cases c2 : 126 < c
    · refine ⟨false, by rw [decide_eq_true ((l1 _ _).mpr c2)]; rfl, iteF ?_⟩
      rw [decide_eq_false (fun h => by have := (mem_sgn c).mp h; omega)] at z
      exact z
    · refine ⟨true, by rw [decide_eq_false (fun h => c2 ((l1 _ _).mp h))]; rfl, iteT ⟨rfl, ?_⟩⟩
      have e : decide (c ∈ sgnL) = !decide ((c : Int) = 37) := by
        rw [Bool.eq_iff_iff, decide_eq_true_iff, mem_sgn]
        simp
        omega
      rw [e] at z
      exact z
def spRun : Sp := fun vs H Q _ => ∃ (L S : List Nat) (n : Nat), vs = [.str (tx L), .int n, .str (tx S)] ∧ n ≤ L.length ∧ L.length ≤ 100000 ∧ Q (.int ((n + runN S (L.drop n) : Nat) : Int)) H
theorem scRun : FnScope ["text", "at", "signs", "end"] ["text", "at", "signs"] (defScope sRun) := ⟨rfl, rfl, rfl, by decide +kernel, rfl, by decide +kernel, by decide +kernel⟩
theorem ok_run (F : Fun K "run_end" "run_end" sRun f fd) (B : Bl mg) : FnOk P w K mg base CX0 1 f fd ["text", "at", "signs"] spRun := by
  refine F.ok scRun (fun vs H Q E h => ?_) (fun cdv A outer s H vs Q E hr h => ?_)
  · obtain ⟨L, S, n, rfl, _⟩ := h
    rfl
  obtain ⟨L, S, n, rfl, hn, hL, q⟩ := h
  have nd := scRun.nd
  refine ⟨_, (pss_cons (ps_set (i := 3) nd rfl (Or.inl rfl) (pv 1))
    (pss_cons (ps_while PassesOwn.never (PW.pt (pw_and (pt_cmpR op_lt (pv 3) (pe_callB call_len_str rfl B.len bt_len (pa_cons (pv 0) pa_nil)) (nomark _)) (pw_and1 (pt_cmpR op_in_c (pe_ix ix_str (pv 0) (pv 3) (fun _ _ => rfl)) (pv 2) (by with_unfolding_all rfl))))) (pss_one (ps_aug (i := 3) nd rfl (Or.inl rfl) pe_int ip_add)))
    (pss_one (ps_ret (pv 3))))), ?_⟩
  rw [show start ["text", "at", "signs", "end"] [.str (tx L), .int n, .str (tx S)] = [some (.str (tx L)), some (.int n), some (.str (tx S)), none] from rfl]
  walk_at "rd3"
  refine ⟨fun m σ H' => ∃ j : Nat, j ≤ runN S (L.drop n) ∧ σ = [some (.str (tx L)), some (.int n), some (.str (tx S)), some (.int ((n + j : Nat) : Int))] ∧ H' = H ∧ m = L.length - (n + j), ⟨_, 0, Nat.zero_le _, rfl, rfl, rfl⟩, ?_⟩
  rintro m σ H' ⟨j, hj, rfl, rfl, rfl⟩
  have hr1 := runN_le S (L.drop n)
  rw [List.length_drop] at hr1
  walk_at "rd3"
  have hlen : (tx L).length = L.length := tx_len L
  rw [hlen]
  refine ⟨by omega, ?_⟩
  by_cases c : ((n + j : Nat) : Int) < (L.length : Int)
  · obtain ⟨d, hd⟩ : ∃ d, L[n + j]? = some d := ⟨_, List.getElem?_eq_getElem (by omega)⟩
    have hd2 : (L.drop n)[j]? = some d := by rw [List.getElem?_drop]; exact hd
    have hlt := runN_lt hd2 hj
    refine iP c (rIxS_i (by rw [hlen, sizeLine_eq]; omega) (atI_nat (j := n + j) hd) ⟨d, rfl, ?_⟩)
    rw [ts_tx]
    by_cases hm : d ∈ S
    · refine iP hm ⟨fun σ' H'' => σ' = [some (.str (tx L)), some (.int n), some (.str (tx S)), some (.int ((n + (j + 1) : Nat) : Int))] ∧ H'' = H', ?_, ?_⟩
      · rintro σ' H'' ⟨rfl, rfl⟩
        exact ⟨_, by have := hlt.mp hm; omega, j + 1, hlt.mp hm, rfl, rfl, rfl⟩
      · simp only [tAug, ipI]
        walk_at "rd3"
        omega
    · have e : j = runN S (L.drop n) := by
        have : ¬ j < runN S (L.drop n) := fun z => hm (hlt.mpr z)
        omega
      refine iN hm ?_
      rw [e]; exact q
  · have e : j = runN S (L.drop n) := by omega
    refine iN c ?_
    rw [e]; exact q
def spKAt : Sp := fun vs H Q _ => ∃ (L r : List Nat) (n c k : Nat), vs = [.str (tx L), .int n] ∧ L.drop n = c :: r ∧ headK k c ∧ L.length ≤ 100000 ∧ Q (.str (kS k)) H
theorem scKAt : FnScope ["text", "at", "sign"] ["text", "at"] (defScope sKAt) := ⟨rfl, rfl, rfl, by decide +kernel, rfl, by decide +kernel, by decide +kernel⟩
theorem tx1 {c d : Nat} : V.str (tx [c]) = V.str (tx [d]) ↔ c = d := by
  constructor
  · intro h
    have := congrArg ts (V.str.inj h)
    rw [ts_tx, ts_tx] at this
    exact (List.cons.inj this).1
  · rintro rfl; rfl
theorem at_drop {L r : List Nat} {n c : Nat} (h : L.drop n = c :: r) : L[n]? = some c := by
  have := congrArg (fun l : List Nat => l[0]?) h
  simpa [List.getElem?_drop] using this
theorem ok_kat (F : Fun K "kind_at" "kind_at" sKAt f fd) (B : Bl mg) (M : Ms mg) : FnOk P w K mg base CX0 1 f fd ["text", "at"] spKAt := by
  refine F.ok scKAt (fun vs H Q E h => ?_) (fun cdv A outer s H vs Q E hr h => ?_)
  · obtain ⟨L, r, n, c, k, rfl, _⟩ := h
    rfl
  obtain ⟨L, r, n, c, k, rfl, hd, hk, hL, q⟩ := h
  have nd := scKAt.nd
  refine ⟨_, (pss_cons (ps_set (i := 2) nd rfl (Or.inl rfl) (pe_ix ix_str (pv 0) (pv 1) (fun _ _ => rfl)))
    (pss_cons (ps_if (PW.pt (pw_or (pt_cmpR op_eq (pv 2) pe_str (nomark _)) (pw_or1 (pt_cmpR op_in_c (pv 2) (pe_gs rfl M.FIGURES) (by with_unfolding_all rfl))))) (pss_one (ps_ret pe_str)) pss_nil)
    (pss_cons (ps_if (pt_cmpR op_in_c (pv 2) (pe_gs rfl M.LETTERS) (by with_unfolding_all rfl)) (pss_one (ps_ret pe_str)) pss_nil)
    (pss_cons (ps_if (pt_cmpR op_eq (pv 2) pe_str (nomark _)) (pss_one (ps_ret pe_str)) pss_nil)
    (pss_cons (ps_if (pt_cmpR op_in_c (pv 2) (pe_gs rfl M.MARKS) (by with_unfolding_all rfl)) (pss_one (ps_ret pe_str)) pss_nil)
    (pss_one ps_nev)))))), ?_⟩
  rw [show start ["text", "at", "sign"] [.str (tx L), .int n] = [some (.str (tx L)), some (.int n), none] from rfl]
  walk_at "rd3"
  refine rIxS_i (by rw [tx_len, sizeLine_eq]; omega) (atI_nat (j := n) (at_drop hd)) ?_
  rw [of_let, of_fig, of_mks, of_q, of_mi]
  simp only [tx1, ts_tx]
  refine ⟨True.intro, ?_⟩
  rcases hk with ⟨rfl, hc⟩ | ⟨rfl, hc⟩ | ⟨rfl, rfl⟩ | ⟨rfl, hc⟩
  · by_cases h45 : c = 45
    · exact iP h45 q
    · exact iN h45 ⟨c, rfl, iP (hc.resolve_left h45) q⟩
  · have := let_no c hc
    exact iN this.1 ⟨c, rfl, iN this.2.1 ⟨c, rfl, iP hc q⟩⟩
  · exact iN q_no.1 ⟨_, rfl, iN q_no.2.1 ⟨_, rfl, iN q_no.2.2 ⟨True.intro, iP rfl q⟩⟩⟩
  · have := mk_no c hc
    exact iN this.1 ⟨c, rfl, iN this.2.1 ⟨c, rfl, iN this.2.2.1 ⟨True.intro, iN this.2.2.2 ⟨c, rfl, iP hc q⟩⟩⟩⟩
def spNEnd : Sp := fun vs H Q _ => ∃ (L s fs r : List Nat) (n : Nat), vs = [.str (tx L), .int n] ∧ L.drop n = s ++ fs ++ r ∧ (s = [] ∨ s = [45]) ∧ fs ≠ [] ∧ (∀ c ∈ fs, c ∈ figL) ∧ Stops 0 r ∧ L.length ≤ 100000 ∧ ∀ H', Same H H' → Q (.int ((n + (s ++ fs).length : Nat) : Int)) H'
theorem scNEnd : FnScope ["text", "at", "first", "end"] ["text", "at"] (defScope sNEnd) := ⟨rfl, rfl, rfl, by decide +kernel, rfl, by decide +kernel, by decide +kernel⟩
theorem ok_nend (F : Fun K "number_end" "number_end" sNEnd f fd) (B : Bl mg) (M : Ms mg) (Grun_end : Dn P w K mg base 1 "run_end" ["text", "at", "signs"] spRun) : FnOk P w K mg base CX0 2 f fd ["text", "at"] spNEnd := by
  refine F.ok scNEnd (fun vs H Q E h => ?_) (fun cdv A outer s H vs Q E hr h => ?_)
  · obtain ⟨L, s, fs, r, n, rfl, _⟩ := h
    rfl
  obtain ⟨L, s, fs, r, n, rfl, hd, hs, hn, hf, hst, hL, q⟩ := h
  have nd := scNEnd.nd
  refine ⟨_, (pss_cons (ps_set (i := 2) nd rfl (Or.inl rfl) (pe_ifExp (pt_cmpR op_eq (pe_ix ix_str (pv 0) (pv 1) (fun _ _ => rfl)) pe_str (nomark _)) (pe_op op_add (pv 1) pe_int) (pv 1)))
    (pss_cons (ps_set (i := 3) nd rfl (Or.inl rfl) (pe_cd Grun_end hr (by omega) rfl (pa_cons (pv 0) (pa_cons (pv 2) (pa_cons (pe_gs rfl M.FIGURES) pa_nil)))))
    (pss_cons (ps_if (pt_cmpR op_eq (pv 3) (pv 2) (nomark _)) pss_never pss_nil)
    (pss_one (ps_ret (pv 3)))))), ?_⟩
  rw [show start ["text", "at", "first", "end"] [.str (tx L), .int n] = [some (.str (tx L)), some (.int n), none, none] from rfl]
  walk_at "rd3"
  rw [of_mi, of_fig]
  have hst' : ∀ c r', r = c :: r' → c ∉ figL := fun c r' e => hst c r' e
  have hfl : 0 < fs.length := List.length_pos_iff.mpr hn
  have hdl := congrArg List.length hd
  rw [List.length_drop, List.length_append, List.length_append] at hdl
  have q := q _ (Same.refl _)
  rcases hs with rfl | rfl
  · obtain ⟨d, fs', rfl⟩ := List.exists_cons_of_ne_nil hn
    have hd' : L.drop n = d :: (fs' ++ r) := hd
    refine rIxS_i (by rw [tx_len, sizeLine_eq]; omega) (atI_nat (j := n) (at_drop hd')) ⟨rfl, ?_⟩
    simp only [tx1]
    refine iN (fig_no d (hf d List.mem_cons_self)).1 ⟨L, figL, n, rfl, by omega, hL, rfl, ?_⟩
    rw [hd, List.nil_append, runN_app hf hst']
    exact iN (fun z => by have := V.int.inj z; simp only [List.length_cons] at this; omega) q
  · have hd' : L.drop n = 45 :: (fs ++ r) := hd
    simp only [List.length_cons, List.length_nil] at hdl
    refine rIxS_i (by rw [tx_len, sizeLine_eq]; omega) (atI_nat (j := n) (at_drop hd')) ⟨rfl, ?_⟩
    simp only [tx1]
    refine iP True.intro ⟨L, figL, n + 1, by rw [Int.natCast_add]; rfl, by omega, hL, rfl, ?_⟩
    have e : L.drop (n + 1) = fs ++ r := by
      rw [← List.drop_drop, hd']; rfl
    rw [e, runN_app hf hst']
    have e2 : n + 1 + fs.length = n + ([45] ++ fs).length := by rw [List.length_append]; simp only [List.length_cons, List.length_nil]; omega
    rw [e2]
    exact iN (fun z => by have := V.int.inj z; rw [List.length_append] at this; simp only [List.length_cons, List.length_nil] at this; omega) q
end
end K28
namespace K28
open PySem L2
local macro_rules | `(tactic| walk_at "rd") => `(tactic| simp only [cxOf_K, nox_K, compCx_K, tSeq, tNext, tAsg, gName, tRet, tRetN, tIfS, tDrop, tOp, tUn, tVar, tC, tCall, tCons, tNil, tTest, tB, tAnd, tOr, tNot, tAndV, tOrV, tNotV, tIf, tCB, tBM, tComp, tTrue, tPart, tNoPart, tSl, tChain, tIsN, tNotN, tLst, tTup, tFor_eq, sDPut, tDNewK, tNever, rI0, rI, rU, rEq, rNe, rMulS, rInC, iRng1, iStr, CDiv, CMul, CPow, scal, List.append_nil, List.getElem?_cons_zero, List.getElem?_cons_succ, List.set_cons_zero, List.set_cons_succ, List.map_cons, List.map_nil, List.length_cons, List.length_nil, sizeLine_eq, Nat.reduceAdd, Nat.reduceLeDiff, Option.join_some, Option.join_none, Option.some.injEq, V.int.injEq, V.str.injEq, V.bl.injEq, V.ref.injEq, V.ty.injEq, List.cons.injEq, and_true, true_and, and_self, exists_eq_left', exists_eq_left, exists_and_left, exists_and_right, decide_eq_true_eq, Bool.not_eq_eq_eq_not, Bool.not_true, Bool.not_false, decide_eq_false_iff_not, Int.reduceLT, Int.reduceLE, Int.reduceNeg, Int.reducePow, Int.reduceAdd, Int.reduceSub, Int.reduceMul, Int.reduceToNat, natAbs10, Nat.reduceLT, Nat.reducePow, or_true, true_or, if_true, if_false, Bool.false_eq_true, ite_true, ite_false, reduceCtorEq])
local macro_rules | `(tactic| walk_at "rd3") => `(tactic| simp only [gTup, gCons, gNil, iZip, tIsT, tDisp, tPairs, tBM0, iList, iDict, tThaw, tMaxD, rMaxD, tDGet, rVals, tComp, cxOf_K, nox_K, compCx_K, tSeq, tNext, tAsg, gName, tRet, tRetN, tIfS, tDrop, tOp, tUn, tVar, tC, tCall, tCons, tNil, tTest, tB, tAnd, tOr, tNot, tAndV, tOrV, tNotV, tIf, tCB, tBM, tComp, tTrue, tPart, tNoPart, tSl, tChain, tIsN, tNotN, tLst, tTup, tFor_eq, sDPut, tDNewK, tNever, rI0, rI, rU, rEq, rNe, rMulS, rInC, iRng1, iStr, CDiv, CMul, CPow, scal, List.append_nil, List.getElem?_cons_zero, List.getElem?_cons_succ, List.set_cons_zero, List.set_cons_succ, List.map_cons, List.map_nil, List.length_cons, List.length_nil, sizeLine_eq, Nat.reduceAdd, Nat.reduceLeDiff, Option.join_some, Option.join_none, Option.some.injEq, V.int.injEq, V.str.injEq, V.bl.injEq, V.ref.injEq, V.ty.injEq, List.cons.injEq, and_true, true_and, and_self, exists_eq_left', exists_eq_left, exists_and_left, exists_and_right, decide_eq_true_eq, Bool.not_eq_eq_eq_not, Bool.not_true, Bool.not_false, decide_eq_false_iff_not, Int.reduceLT, Int.reduceLE, Int.reduceNeg, Int.reducePow, Int.reduceAdd, Int.reduceSub, Int.reduceMul, Int.reduceToNat, natAbs10, Nat.reduceLT, Nat.reducePow, or_true, true_or, if_true, if_false, Bool.false_eq_true, ite_true, ite_false, reduceCtorEq])
seal L2.PSs L2.PS L2.PE L2.PT L2.PW L2.PA L2.PI L2.PG L2.PGs L2.PPs L2.PTs
abbrev sTEnd : Stmt := top 25
abbrev sTkEnd : Stmt := top 22
abbrev sStrOf : Stmt := top 26
abbrev sToks : Stmt := top 20
theorem first_q : ∀ y : List Nat, ∃ u x2, y = u ++ x2 ∧ 39 ∉ u ∧ (x2 = [] ∨ ∃ y', x2 = 39 :: y')
  | [] => ⟨[], [], rfl, (fun h => nomatch h), .inl rfl⟩
  | c :: y => by
    by_cases h : c = 39
    · exact ⟨[], c :: y, rfl, (fun h => nomatch h), .inr ⟨y, by rw [h]⟩⟩
    · obtain ⟨u, x2, e, hu, hx⟩ := first_q y
      exact ⟨c :: u, x2, by rw [e]; rfl, fun z => (List.mem_cons.mp z).elim (fun z => h z.symm) hu, hx⟩
theorem dbl_q (y : List Nat) : dbl (39 :: y) = 39 :: 39 :: dbl y := by rw [dbl_cons]; rfl
theorem dq {u x2 : List Nat} (hu : 39 ∉ u) (hx : x2 = [] ∨ ∃ y', x2 = 39 :: y') (r : List Nat) : ∃ rest, dbl (u ++ x2) ++ 39 :: r = u ++ 39 :: rest := by
  rw [dbl_app, dbl_free hu]
  rcases hx with rfl | ⟨y, rfl⟩
  · exact ⟨r, by rw [dbl_nil, List.append_nil]⟩
  · exact ⟨39 :: dbl y ++ 39 :: r, by rw [dbl_q, List.append_assoc]; rfl⟩
section
variable {P : Program} {w : World} {K : PySem.W.Frag} {mg : Str → Option Value} {base : Heap} {f : Addr} {fd : FuncData}
def spTEnd : Sp := fun vs H Q _ => ∃ (L x r : List Nat) (n : Nat), vs = [.str (tx L), .int n] ∧ L.drop n = 39 :: (dbl x ++ 39 :: r) ∧ (∀ c ∈ x, c ∈ sgnL) ∧ Stops 2 r ∧ L.length ≤ 100000 ∧ ∀ H', Same H H' → Q (.int ((n + 2 + (dbl x).length : Nat) : Int)) H'
theorem scTEnd : FnScope ["text", "at", "close"] ["text", "at"] (defScope sTEnd) := ⟨rfl, rfl, rfl, by decide +kernel, rfl, by decide +kernel, by decide +kernel⟩
theorem ok_tend (F : Fun K "text_end" "text_end" sTEnd f fd) (B : Bl mg) (Gis_text_sign : Dn P w K mg base 1 "is_text_sign" ["sign"] spSgn) : FnOk P w K mg base CX0 2 f fd ["text", "at"] spTEnd := by
  refine F.ok scTEnd (fun vs H Q E h => ?_) (fun cdv A outer s H vs Q E hr h => ?_)
  · obtain ⟨L, x, r, n, rfl, _⟩ := h
    rfl
  obtain ⟨L, x, r, n, rfl, hd, hx, hst, hL, q⟩ := h
  have nd := scTEnd.nd
  refine ⟨_, (pss_cons (ps_set (i := 2) nd rfl (Or.inl rfl) (pe_bm PySem.F.plainAttrs_str PySem.F.slot_str_find PySem.F.type_str_find mt_find (pv 0) (pa_cons pe_str (pa_cons (pe_op op_add (pv 1) pe_int) pa_nil))))
    (pss_cons (ps_while PassesOwn.never (PW.pt (pw_and (pt_cmpR op_ge (pv 2) pe_int (nomark _)) (pw_and1 (pt_cmpR op_eq (pe_slice sl_str (pv 0) (po_some (pe_op op_add (pv 2) pe_int)) (po_some (pe_op op_add (pv 2) pe_int))) pe_str (nomark _))))) (pss_one (ps_set (i := 2) nd rfl (Or.inl rfl) (pe_bm PySem.F.plainAttrs_str PySem.F.slot_str_find PySem.F.type_str_find mt_find (pv 0) (pa_cons pe_str (pa_cons (pe_op op_add (pv 2) pe_int) pa_nil))))))
    (pss_cons (ps_if (pt_cmpR op_lt (pv 2) pe_int (nomark _)) pss_never pss_nil)
    (pss_cons (ps_if (pt_not (pt_val (pe_callB (call_all rfl) rfl B.all bt_all (pa_cons (pe_comp (own := ["sign"]) (F := []) ⟨rfl, by with_unfolding_all rfl, by with_unfolding_all rfl, by with_unfolding_all rfl, .nil⟩ rfl (pi_str (pe_slice sl_str (pv 0) (po_some (pe_op op_add (pv 1) pe_int)) (po_some (pv 2)))) (fun _ _ _ _ => pg_name (i := 0) (by show (compN ["sign"] []).Nodup; decide +kernel) rfl (Or.inl rfl)) (fun _ _ _ _ => pts_nil) (fun _ _ _ _ => (pe_cd Gis_text_sign hr (by omega) rfl (pa_cons (pv 0) pa_nil)))) pa_nil)))) pss_never pss_nil)
    (pss_one (ps_ret (pe_op op_add (pv 2) pe_int))))))), ?_⟩
  rw [show start ["text", "at", "close"] [.str (tx L), .int n] = [some (.str (tx L)), some (.int n), none] from rfl]
  walk_at "rd3"
  have hd1 : L.drop (n + 1) = dbl x ++ 39 :: r := by rw [← List.drop_drop, hd]; rfl
  have hln : (tx L).length = L.length := tx_len L
  have hdl := congrArg List.length hd1
  rw [List.length_drop, List.length_append, List.length_cons] at hdl
  have hsz : (tx L).length ≤ sizeLine := by rw [hln, sizeLine_eq]; omega
  obtain ⟨u0, x20, e0, hu0, hx0⟩ := first_q x
  obtain ⟨rest0, hr0⟩ := dq hu0 hx0 r
  refine ⟨rfl, tx L, tx [39], n + 1, rfl, by rw [of_q], ?_⟩
  rw [show ((n : Int) + 1) = ((n + 1 : Nat) : Int) by omega, find_first (hd1.trans (by rw [e0]; exact hr0)) hu0]
  refine ⟨fun m σ H' => ∃ x1 u x2, x = x1 ++ (u ++ x2) ∧ 39 ∉ u ∧ (x2 = [] ∨ ∃ y, x2 = 39 :: y) ∧ σ = [some (.str (tx L)), some (.int n), some (.int ((n + 1 + (dbl x1).length + u.length : Nat) : Int))] ∧ H' = H ∧ m = x2.length, ⟨_, [], u0, x20, e0, hu0, hx0, rfl, rfl, rfl⟩, ?_⟩
  rintro m σ H' ⟨x1, u, x2, ex, hu, hx2, rfl, rfl, rfl⟩
  walk_at "rd3"
  generalize hk : n + 1 + (dbl x1).length + u.length = k
  have hdk : L.drop k = dbl x2 ++ 39 :: r := by
    rw [← hk, ← List.drop_drop, ← List.drop_drop, hd1, ex, dbl_app, dbl_app, dbl_free hu]
    simp only [List.append_assoc, List.drop_left]
  refine iP (by omega) ⟨_, rfl, hsz, rfl, ?_⟩
  rw [show ((k : Int) + 1) = ((k + 1 : Nat) : Int) by omega, show ((k : Int) + 2) = ((k + 2 : Nat) : Int) by omega, slice_nat, ts_tx, of_q]
  have hsl : (L.take (k + 2)).drop (k + 1) = (L.drop (k + 1)).take 1 := by
    rw [List.drop_take]; congr 1; omega
  have hd2 : L.drop (k + 1) = (dbl x2 ++ 39 :: r).drop 1 := by rw [← List.drop_drop, hdk]
  rw [hsl, hd2]
  rcases hx2 with rfl | ⟨y, rfl⟩
  · refine iN ?_ ?_
    · intro z
      have z := congrArg ts (V.str.inj z)
      rw [ts_tx, ts_tx] at z
      have z : r.take 1 = [39] := z
      cases r with
      | nil => cases z
      | cons c r' =>
        have : c = 39 := by simpa using z
        exact hst c r' rfl (by rw [this]; decide)
    rw [List.append_nil] at ex
    have hdx : dbl x = dbl x1 ++ u := by rw [ex, dbl_app, dbl_free hu]
    refine iN (by omega) ⟨_, rfl, hsz, ?_⟩
    rw [show ((n : Int) + 1) = ((n + 1 : Nat) : Int) by omega, slice_nat, ts_tx]
    have hsl2 : (L.take k).drop (n + 1) = dbl x := by
      rw [List.drop_take, hd1, ← hk, hdx, show n + 1 + (dbl x1).length + u.length - (n + 1) = (dbl x1 ++ u).length by rw [List.length_append]; omega, List.take_left]
    rw [hsl2]
    have hds : ∀ c ∈ dbl x, c ∈ sgnL := fun c hc => by
      obtain ⟨d, hd', hc⟩ := List.mem_flatMap.mp hc
      unfold rpl at hc
      split at hc
      · have : c = 39 := by simpa using hc
        rw [this]; exact q_sgnL
      · rw [List.mem_singleton.mp hc]; exact hx d hd'
    have hdl2 : (ts (tx (dbl x))).length ≤ 100000 := by rw [ts_tx]; omega
    refine ⟨_, rfl, comp_str (fun i ys H'' => Same H' H'' ∧ ys = (((ts (tx (dbl x))).take i).map fun c => decide (c ∈ sgnL)).map V.bl) (by rw [sizeLine_eq]; omega) ⟨Same.refl _, rfl⟩ ?_ ?_⟩
    · rintro i d ys H'' hd' _ ⟨hS, rfl⟩
      walk_at "rd3"
      refine ⟨d, rfl, fun H3 g3 => ⟨hS.trans g3, ?_⟩⟩
      rw [take_succ_of hd']
      simp only [List.map_append, List.map_cons, List.map_nil]
    · rintro ys H'' hl' ⟨hS, rfl⟩ p hp
      rw [List.take_length]
      refine ⟨p, rfl, _, SqL.of upd_same, iN ?_ ?_⟩
      · rw [ts_tx]
        intro z
        rw [List.all_map] at z
        have : (dbl x).all (_root_.id ∘ fun c => decide (c ∈ sgnL)) = true := List.all_eq_true.mpr fun c hc => decide_eq_true (hds c hc)
        rw [this] at z
        cases z
      · have z := q _ (hS.trans (same_new hp (.lst (((ts (tx (dbl x))).map fun c => decide (c ∈ sgnL)).map V.bl))))
        have e : n + 2 + (dbl x).length = k + 1 := by rw [hdx, List.length_append, ← hk]; omega
        rw [e] at z
        exact z
  · obtain ⟨u', x2', e', hu', hx'⟩ := first_q y
    obtain ⟨rest', hr'⟩ := dq hu' hx' r
    have hd3 : L.drop (k + 2) = u' ++ 39 :: rest' := by
      rw [← List.drop_drop, hdk, dbl_q, ← hr', ← e']; rfl
    refine iP (by rfl) ⟨fun σ' H'' => σ' = [some (.str (tx L)), some (.int n), some (.int ((k + 2 + u'.length : Nat) : Int))] ∧ H'' = H', ?_, rfl, tx L, tx [39], _, rfl, rfl, ?_⟩
    · rintro σ' H'' ⟨rfl, rfl⟩
      have hl := congrArg List.length e'
      rw [List.length_append] at hl
      refine ⟨x2'.length, by rw [List.length_cons]; omega, x1 ++ (u ++ [39]), u', x2', ?_, hu', hx', ?_, rfl, rfl⟩
      · rw [ex, e']; simp only [List.append_assoc, List.cons_append, List.nil_append]
      · congr 5
        rw [dbl_app, dbl_app, dbl_free hu, ← hk, List.length_append, List.length_append]
        rw [show (dbl [39]).length = 2 from rfl]
        omega
    · rw [find_first hd3 hu']
      exact ⟨rfl, rfl⟩
theorem kS_ne : (kS 1 ≠ kS 0) ∧ (kS 2 ≠ kS 0) ∧ (kS 3 ≠ kS 0) ∧ (kS 0 ≠ kS 1) ∧ (kS 2 ≠ kS 1) ∧ (kS 3 ≠ kS 1) ∧ (kS 0 ≠ kS 2) ∧ (kS 1 ≠ kS 2) ∧ (kS 3 ≠ kS 2) := by decide +kernel
def spTkEnd : Sp := fun vs H Q _ => ∃ (L r : List Nat) (t : Tk) (n : Nat), vs = [.str (kS t.1), .str (tx L), .int n] ∧ L.drop n = shw t ++ r ∧ OkTk t ∧ Stops t.1 r ∧ L.length ≤ 100000 ∧ ∀ H', Same H H' → Q (.int ((n + (shw t).length : Nat) : Int)) H'
theorem scTkEnd : FnScope ["kind", "text", "at"] ["kind", "text", "at"] (defScope sTkEnd) := ⟨rfl, rfl, rfl, by decide +kernel, rfl, by decide +kernel, by decide +kernel⟩
theorem ok_tkend (F : Fun K "token_end" "token_end" sTkEnd f fd) (M : Ms mg) (Gnumber_end : Dn P w K mg base 2 "number_end" ["text", "at"] spNEnd) (Grun_end : Dn P w K mg base 1 "run_end" ["text", "at", "signs"] spRun) (Gtext_end : Dn P w K mg base 2 "text_end" ["text", "at"] spTEnd) : FnOk P w K mg base CX0 3 f fd ["kind", "text", "at"] spTkEnd := by
  refine F.ok scTkEnd (fun vs H Q E h => ?_) (fun cdv A outer s H vs Q E hr h => ?_)
  · obtain ⟨L, r, t, n, rfl, _⟩ := h
    rfl
  obtain ⟨L, r, t, n, rfl, hd, hok, hst, hL, q⟩ := h
  have nd := scTkEnd.nd
  refine ⟨_, (pss_cons (ps_if (pt_cmpR op_eq (pv 0) pe_str (nomark _)) (pss_one (ps_ret (pe_cd Gnumber_end hr (by omega) rfl (pa_cons (pv 1) (pa_cons (pv 2) pa_nil))))) pss_nil)
    (pss_cons (ps_if (pt_cmpR op_eq (pv 0) pe_str (nomark _)) (pss_one (ps_ret (pe_cd Grun_end hr (by omega) rfl (pa_cons (pv 1) (pa_cons (pv 2) (pa_cons (pe_gs rfl M.NAME_SIGNS) pa_nil)))))) pss_nil)
    (pss_cons (ps_if (pt_cmpR op_eq (pv 0) pe_str (nomark _)) (pss_one (ps_ret (pe_cd Gtext_end hr (by omega) rfl (pa_cons (pv 1) (pa_cons (pv 2) pa_nil))))) pss_nil)
    (pss_one (ps_ret (pe_op op_add (pv 2) pe_int)))))), ?_⟩
  rw [show start ["kind", "text", "at"] [.str (kS t.1), .str (tx L), .int n] = [some (.str (kS t.1)), some (.str (tx L)), some (.int n)] from rfl]
  walk_at "rd3"
  rw [show Str.ofString "number" = kS 0 from rfl, show Str.ofString "word" = kS 1 from rfl, show Str.ofString "text" = kS 2 from rfl, of_nsg]
  obtain ⟨k, x⟩ := t
  obtain ⟨_, h⟩ := hok
  have hdl := congrArg List.length hd
  rw [List.length_drop, List.length_append] at hdl
  rcases h with ⟨hk, s, fs, e, hs, hn, hf⟩ | ⟨hk, c, r', e, hc, hr'⟩ | ⟨hk, hx⟩ | ⟨hk, c, e, hc⟩
  · have hk : k = 0 := hk
    have e : x = s ++ fs := e
    subst hk e
    exact iP rfl ⟨L, s, fs, r, n, rfl, hd, hs, hn, hf, hst, hL, q⟩
  · have hk : k = 1 := hk
    have e : x = c :: r' := e
    subst hk e
    refine iN kS_ne.1 (iP rfl ⟨L, letL ++ figL, n, rfl, ?_, hL, ?_⟩)
    · have : 0 < (shw (1, c :: r')).length := Nat.succ_pos _
      omega
    · have hd : L.drop n = (c :: r') ++ r := hd
      rw [hd, runN_app (fun d hd => (List.mem_cons.mp hd).elim (fun z => by rw [z]; exact letL_sub hc) (hr' d)) fun d r'' e => hst d r'' e]
      exact q _ (Same.refl _)
  · have hk : k = 2 := hk
    subst hk
    have hd : L.drop n = 39 :: (dbl x ++ 39 :: r) := by rw [hd]; show 39 :: (dbl x ++ [39]) ++ r = _; rw [List.cons_append, List.append_assoc]; rfl
    refine iN kS_ne.2.1 (iN kS_ne.2.2.2.2.1 (iP rfl ⟨L, x, r, n, rfl, hd, hx, hst, hL, fun H' g => ?_⟩))
    have e : n + 2 + (dbl x).length = n + (shw (2, x)).length := by
      show _ = n + (39 :: (dbl x ++ [39])).length
      rw [List.length_cons, List.length_append]; simp only [List.length_cons, List.length_nil]; omega
    rw [e]
    exact q _ g
  · have hk : k = 3 := hk
    have e : x = [c] := e
    subst hk e
    refine iN kS_ne.2.2.1 (iN kS_ne.2.2.2.2.2.1 (iN kS_ne.2.2.2.2.2.2.2.2 ?_))
    exact q _ (Same.refl _)
def spStrOf : Sp := fun vs H Q _ => ∃ t : Tk, vs = [.str (kS t.1), .str (tx (shw t))] ∧ OkTk t ∧ Q (.str (tx t.2)) H
theorem scStrOf : FnScope ["kind", "signs"] ["kind", "signs"] (defScope sStrOf) := ⟨rfl, rfl, rfl, by decide +kernel, rfl, by decide +kernel, by decide +kernel⟩
theorem slice_in (L : List Nat) : Txt.slice (tx (39 :: (L ++ [39]))) (some 1) (some (-1)) = tx L := by
  have e : Txt.slice (tx (39 :: (L ++ [39]))) (some 1) (some (-1)) = Txt.slice (tx (39 :: (L ++ [39]))) (some ((1 : Nat) : Int)) (some ((L.length + 1 : Nat) : Int)) := by
    unfold Txt.slice
    have : PySem.Builtin.Str.strSliceIndices (some 1) (some (-1)) 1 (tx (39 :: (L ++ [39]))).length = PySem.Builtin.Str.strSliceIndices (some ((1 : Nat) : Int)) (some ((L.length + 1 : Nat) : Int)) 1 (tx (39 :: (L ++ [39]))).length := by
      rw [tx_len]
      unfold PySem.Builtin.Str.strSliceIndices
      have hl : ((39 :: (L ++ [39])).length : Int) = L.length + 2 := by
        rw [List.length_cons, List.length_append]; simp only [List.length_cons, List.length_nil]; omega
      dsimp only
      rw [hl]
      congr 1
      simp only [show (1 : Int) > 0 from by decide, if_true, show ((-1 : Int) < 0) from by decide, if_neg (show ¬ (((L.length + 1 : Nat) : Int) < 0) by omega)]
      omega
    rw [this]
  rw [e, slice_nat, ts_tx]
  congr 1
  rw [List.take_succ_cons, List.drop_succ_cons, List.drop_zero, List.take_left]
theorem ok_strof (F : Fun K "string_of" "string_of" sStrOf f fd) : FnOk P w K mg base CX0 1 f fd ["kind", "signs"] spStrOf := by
  refine F.ok scStrOf (fun vs H Q E h => ?_) (fun cdv A outer s H vs Q E hr h => ?_)
  · obtain ⟨t, rfl, _⟩ := h
    rfl
  obtain ⟨t, rfl, hok, q⟩ := h
  have nd := scStrOf.nd
  refine ⟨_, (pss_cons (ps_if (pt_cmpR op_eq (pv 0) pe_str (nomark _)) (pss_one (ps_ret (pe_repl_sl (i := 1) rfl (by first | exact Or.inl rfl | exact Or.inr (Or.inl rfl) | exact Or.inr (Or.inr rfl)) (by decide +kernel) (by decide +kernel)))) pss_nil)
    (pss_one (ps_ret (pv 1)))), ?_⟩
  rw [show start ["kind", "signs"] [.str (kS t.1), .str (tx (shw t))] = [some (.str (kS t.1)), some (.str (tx (shw t)))] from rfl]
  walk_at "rd3"
  rw [show Str.ofString "text" = kS 2 from rfl]
  have hln := hok.len
  obtain ⟨k, x⟩ := t
  obtain ⟨hl, h⟩ := hok
  by_cases c : k = 2
  · subst c
    refine iP rfl ⟨_, rfl, by rw [tx_len]; omega, ?_⟩
    rw [of_qq, of_q]
    show Q (V.str (Txt.replace (Txt.slice (tx (39 :: (dbl x ++ [39]))) (some 1) (some (-1))) (tx [39, 39]) (tx [39]))) H
    rw [slice_in, repl2_dbl]
    exact q
  · have e : shw (k, x) = x := by unfold shw; rw [if_neg c]
    rw [e]
    refine iN ?_ q
    rcases h with ⟨a, _⟩ | ⟨a, _⟩ | ⟨a, _⟩ | ⟨a, _⟩
    · have a : k = 0 := a
      subst a; exact kS_ne.2.2.2.2.2.2.1
    · have a : k = 1 := a
      subst a; exact kS_ne.2.2.2.2.2.2.2.1
    · exact absurd a c
    · have a : k = 3 := a
      subst a; exact kS_ne.2.2.2.2.2.2.2.2
end
end K28
namespace K28
open PySem L2
local macro_rules | `(tactic| walk_at "rd") => `(tactic| simp only [cxOf_K, nox_K, compCx_K, tSeq, tNext, tAsg, gName, tRet, tRetN, tIfS, tDrop, tOp, tUn, tVar, tC, tCall, tCons, tNil, tTest, tB, tAnd, tOr, tNot, tAndV, tOrV, tNotV, tIf, tCB, tBM, tComp, tTrue, tPart, tNoPart, tSl, tChain, tIsN, tNotN, tLst, tTup, tFor_eq, sDPut, tDNewK, tNever, rI0, rI, rU, rEq, rNe, rMulS, rInC, iRng1, iStr, CDiv, CMul, CPow, scal, List.append_nil, List.getElem?_cons_zero, List.getElem?_cons_succ, List.set_cons_zero, List.set_cons_succ, List.map_cons, List.map_nil, List.length_cons, List.length_nil, sizeLine_eq, Nat.reduceAdd, Nat.reduceLeDiff, Option.join_some, Option.join_none, Option.some.injEq, V.int.injEq, V.str.injEq, V.bl.injEq, V.ref.injEq, V.ty.injEq, List.cons.injEq, and_true, true_and, and_self, exists_eq_left', exists_eq_left, exists_and_left, exists_and_right, decide_eq_true_eq, Bool.not_eq_eq_eq_not, Bool.not_true, Bool.not_false, decide_eq_false_iff_not, Int.reduceLT, Int.reduceLE, Int.reduceNeg, Int.reducePow, Int.reduceAdd, Int.reduceSub, Int.reduceMul, Int.reduceToNat, natAbs10, Nat.reduceLT, Nat.reducePow, or_true, true_or, if_true, if_false, Bool.false_eq_true, ite_true, ite_false, reduceCtorEq])
local macro_rules | `(tactic| walk_at "rd3") => `(tactic| simp only [gTup, gCons, gNil, iZip, tIsT, tDisp, tPairs, tBM0, iList, iDict, tThaw, tMaxD, rMaxD, tDGet, rVals, tComp, cxOf_K, nox_K, compCx_K, tSeq, tNext, tAsg, gName, tRet, tRetN, tIfS, tDrop, tOp, tUn, tVar, tC, tCall, tCons, tNil, tTest, tB, tAnd, tOr, tNot, tAndV, tOrV, tNotV, tIf, tCB, tBM, tComp, tTrue, tPart, tNoPart, tSl, tChain, tIsN, tNotN, tLst, tTup, tFor_eq, sDPut, tDNewK, tNever, rI0, rI, rU, rEq, rNe, rMulS, rInC, iRng1, iStr, CDiv, CMul, CPow, scal, List.append_nil, List.getElem?_cons_zero, List.getElem?_cons_succ, List.set_cons_zero, List.set_cons_succ, List.map_cons, List.map_nil, List.length_cons, List.length_nil, sizeLine_eq, Nat.reduceAdd, Nat.reduceLeDiff, Option.join_some, Option.join_none, Option.some.injEq, V.int.injEq, V.str.injEq, V.bl.injEq, V.ref.injEq, V.ty.injEq, List.cons.injEq, and_true, true_and, and_self, exists_eq_left', exists_eq_left, exists_and_left, exists_and_right, decide_eq_true_eq, Bool.not_eq_eq_eq_not, Bool.not_true, Bool.not_false, decide_eq_false_iff_not, Int.reduceLT, Int.reduceLE, Int.reduceNeg, Int.reducePow, Int.reduceAdd, Int.reduceSub, Int.reduceMul, Int.reduceToNat, natAbs10, Nat.reduceLT, Nat.reducePow, or_true, true_or, if_true, if_false, Bool.false_eq_true, ite_true, ite_false, reduceCtorEq])
seal L2.PSs L2.PS L2.PE L2.PT L2.PW L2.PA L2.PI L2.PG L2.PGs L2.PPs L2.PTs
def tkT (t : Tk) (n : Nat) : T := .tup [.str (ts (kS t.1)), .str t.2, .int n]
def endT (n : Nat) : T := .tup [.str (ts (Str.ofString "end")), .str [], .int n]
def dueT : Nat → List (Nat × Tk) → List T
  | _, [] => []
  | n, x :: r => tkT x.2 (n + x.1) :: dueT (n + x.1 + (shw x.2).length) r
theorem lay_len (x : Nat × Tk) (r : List (Nat × Tk)) : (lay (x :: r)).length = x.1 + (shw x.2).length + (lay r).length := by
  show (List.replicate x.1 32 ++ (shw x.2 ++ lay r)).length = _
  rw [List.length_append, List.length_append, List.length_replicate]; omega
theorem dueT_app : ∀ (n : Nat) (a b : List (Nat × Tk)), dueT n (a ++ b) = dueT n a ++ dueT (n + (lay a).length) b
  | n, [], b => rfl
  | n, x :: a, b => by
    show tkT x.2 (n + x.1) :: dueT (n + x.1 + (shw x.2).length) (a ++ b) = _
    rw [dueT_app, lay_len]
    show _ = tkT x.2 (n + x.1) :: (dueT (n + x.1 + (shw x.2).length) a ++ _)
    congr 3
    omega
theorem head_32 {k c : Nat} (h : headK k c) : c ∉ [32] := by
  have hl : (32 : Nat) ∉ letL ∧ (32 : Nat) ∉ figL ∧ (32 : Nat) ∉ mkL := by decide +kernel
  intro z
  rw [List.mem_singleton] at z
  subst z
  rcases h with ⟨_, h | h⟩ | ⟨_, h⟩ | ⟨_, h⟩ | ⟨_, h⟩
  · cases h
  · exact hl.2.1 h
  · exact hl.1 h
  · cases h
  · exact hl.2.2 h
def aheadN (c : List (Nat × Tk)) (e : Nat) : Nat := match c with
  | [] => e
  | x :: _ => x.1
theorem ahead_run {c : List (Nat × Tk)} {e : Nat} (hok : ∀ y ∈ c, OkTk y.2) : runN [32] (lay c ++ List.replicate e 32) = aheadN c e := by
  cases c with
  | nil =>
    have := runN_app (S := [32]) (x := List.replicate e 32) (r := []) (fun c hc => by rw [(List.mem_replicate.mp hc).2]; exact List.mem_cons_self) (fun c r' e => nomatch e)
    rw [List.append_nil, List.length_replicate] at this
    exact this
  | cons x c =>
    have e1 : lay (x :: c) ++ List.replicate e 32 = List.replicate x.1 32 ++ (shw x.2 ++ lay c ++ List.replicate e 32) := by
      show List.replicate x.1 32 ++ (shw x.2 ++ lay c) ++ _ = _
      rw [List.append_assoc]
    rw [e1, runN_app (fun c hc => by rw [(List.mem_replicate.mp hc).2]; exact List.mem_cons_self) ?_, List.length_replicate]; rfl
    intro d r' e2
    obtain ⟨h, r, e3, hk, _⟩ := shw_head (hok x List.mem_cons_self)
    rw [e3] at e2
    rw [← (List.cons.inj e2).1]
    exact head_32 hk
section
variable {P : Program} {w : World} {K : PySem.W.Frag} {mg : Str → Option Value} {base : Heap} {f : Addr} {fd : FuncData}
theorem small_away {H : Hp} {d : Addr} {o : HO} {t : T} {xs : List V} {us : List T} (hd : Rep H (.ref d) t) (hs : T.szs us < T.sz t) (h : Reps H xs us) : Reps (upd H d o) xs us :=
  Reps.away _ _ h fun z => by
    obtain ⟨t', h1, h2⟩ := Occs.sub _ _ h z
    have e := Rep.one _ _ _ hd h1
    subst e
    omega
theorem app_tup {H0 H' : Hp} {p0 p : Addr} {xs ys : List V} {us ts : List T} (g : Same H0 H') (h0 : H0 p0 = none) (hp0 : H' p0 = some (.lst xs)) (hR : Reps H' xs us) (hp : H' p = none) (hy : ∀ Hx : Hp, Reps Hx ys ts) :
    Same H0 (upd (upd H' p (.tup ys)) p0 (.lst (xs ++ [.ref p]))) ∧ Reps (upd (upd H' p (.tup ys)) p0 (.lst (xs ++ [.ref p]))) (xs ++ [.ref p]) (us ++ [.tup ts]) := by
  have s1 := same_new hp (.tup ys)
  have hne : p ≠ p0 := fun z => by subst z; rw [hp] at hp0; cases hp0
  refine ⟨(g.trans s1).put h0 _, Reps.append ?_ (small_away (t := .lst us) ⟨p0, xs, rfl, s1 _ _ hp0, Reps.same s1 _ _ hR⟩ (Nat.lt_succ_self _) (Reps.same s1 _ _ hR))⟩
  exact (show Reps _ [V.ref p] [T.tup ts] from ⟨_, [], rfl, ⟨p, ys, rfl, by rw [upd_ne hne]; exact upd_same, hy _⟩, rfl⟩)
theorem tk_reps (Hx : Hp) (z : Str) (y : List Nat) (n : Nat) : Reps Hx [V.str z, V.str (tx y), V.int n] [.str (ts z), .str y, .int n] := ⟨_, _, rfl, (show V.str z = V.str (tx (ts z)) by rw [tx_ts]), _, _, rfl, rfl, _, _, rfl, rfl, rfl⟩
def spToks : Sp := fun vs H Q _ => ∃ (r : List (Nat × Tk)) (e : Nat), vs = [.str (tx (lay r ++ List.replicate e 32))] ∧ (∀ y ∈ r, OkTk y.2) ∧ Chn r ∧ r.length ≤ 1000 ∧ (lay r ++ List.replicate e 32).length ≤ 100000 ∧ ∀ v H', Same H H' → Rep H' v (.lst (dueT 0 r ++ [endT (lay r ++ List.replicate e 32).length])) → Q v H'
theorem scToks : FnScope ["text", "found", "at", "kind", "end"] ["text"] (defScope sToks) := ⟨rfl, rfl, rfl, by decide +kernel, rfl, by decide +kernel, by decide +kernel⟩
theorem ok_toks (F : Fun K "tokens" "tokens" sToks f fd) (B : Bl mg) (Grun_end : Dn P w K mg base 1 "run_end" ["text", "at", "signs"] spRun) (Gkind_at : Dn P w K mg base 1 "kind_at" ["text", "at"] spKAt) (Gtoken_end : Dn P w K mg base 3 "token_end" ["kind", "text", "at"] spTkEnd) (Gstring_of : Dn P w K mg base 1 "string_of" ["kind", "signs"] spStrOf) : FnOk P w K mg base CX0 4 f fd ["text"] spToks := by
  refine F.ok scToks (fun vs H Q E h => ?_) (fun cdv A outer s H vs Q E hr h => ?_)
  · obtain ⟨r, e, rfl, _⟩ := h
    rfl
  obtain ⟨r, e, rfl, hok, hch, hr1, hL, q⟩ := h
  have nd := scToks.nd
  refine ⟨_, (pss_cons (ps_set (i := 1) nd rfl (Or.inl rfl) (pe_lst pa_nil))
    (pss_cons (ps_set (i := 2) nd rfl (Or.inl rfl) (pe_cd Grun_end hr (by omega) rfl (pa_cons (pv 0) (pa_cons pe_int (pa_cons pe_str pa_nil)))))
    (pss_cons (ps_while PassesOwn.never (pt_cmpR op_lt (pv 2) (pe_callB call_len_str rfl B.len bt_len (pa_cons (pv 0) pa_nil)) (nomark _)) (pss_cons (ps_set (i := 3) nd rfl (Or.inl rfl) (pe_cd Gkind_at hr (by omega) rfl (pa_cons (pv 0) (pa_cons (pv 2) pa_nil))))
    (pss_cons (ps_set (i := 4) nd rfl (Or.inl rfl) (pe_cd Gtoken_end hr (by omega) rfl (pa_cons (pv 3) (pa_cons (pv 0) (pa_cons (pv 2) pa_nil)))))
    (pss_cons (ps_expr (pe_bm PySem.F.plainAttrs_list PySem.F.slot_list_append PySem.F.type_list_append mt_append (pv 1) (pa_cons (pe_tup (pa_cons (pv 3) (pa_cons (pe_cd Gstring_of hr (by omega) rfl (pa_cons (pv 3) (pa_cons (pe_slice sl_str (pv 0) (po_some (pv 2)) (po_some (pv 4))) pa_nil))) (pa_cons (pv 2) pa_nil)))) pa_nil)))
    (pss_one (ps_set (i := 2) nd rfl (Or.inl rfl) (pe_cd Grun_end hr (by omega) rfl (pa_cons (pv 0) (pa_cons (pv 4) (pa_cons pe_str pa_nil))))))))))
    (pss_cons (ps_expr (pe_bm PySem.F.plainAttrs_list PySem.F.slot_list_append PySem.F.type_list_append mt_append (pv 1) (pa_cons (pe_tup (pa_cons pe_str (pa_cons pe_str (pa_cons (pe_callB call_len_str rfl B.len bt_len (pa_cons (pv 0) pa_nil)) pa_nil)))) pa_nil)))
    (pss_one (ps_ret (pv 1))))))), ?_⟩
  generalize hLL : lay r ++ List.replicate e 32 = L at hL q ⊢
  rw [show start ["text", "found", "at", "kind", "end"] [.str (tx L)] = [some (.str (tx L)), none, none, none, none] from rfl]
  walk_at "rd3"
  rw [of_sp]
  intro p0 hp0
  refine ⟨L, [32], 0, rfl, Nat.zero_le _, hL, ?_⟩
  have hln : (tx L).length = L.length := tx_len L
  have hsz : (tx L).length ≤ sizeLine := by rw [hln, sizeLine_eq]; omega
  rw [List.drop_zero, Nat.zero_add, ← hLL, ahead_run hok, hLL]
  refine ⟨fun m σ H' => ∃ a c k o1 o2 xs, r = a ++ c ∧ k = (lay a).length + aheadN c e ∧ σ = [some (.str (tx L)), some (.ref p0), some (.int ((k : Nat) : Int)), o1, o2] ∧ Same H H' ∧ H' p0 = some (.lst xs) ∧ Reps H' xs (dueT 0 a) ∧ xs.length = a.length ∧ m = c.length, ⟨_, [], r, aheadN r e, none, none, [], rfl, (Nat.zero_add _).symm, rfl, same_new hp0 _, upd_same, rfl, rfl, rfl⟩, ?_⟩
  rintro m σ H' ⟨a, c, k, o1, o2, xs, rfl, hk, rfl, g, hp, hR, hxl, rfl⟩
  have hdk : L.drop (lay a).length = lay c ++ List.replicate e 32 := by rw [← hLL, lay_app, List.append_assoc, List.drop_left]
  have hdl := congrArg List.length hdk
  rw [List.length_drop, List.length_append, List.length_replicate] at hdl
  rw [List.length_append] at hr1
  walk_at "rd3"
  rw [hln]
  cases c with
  | nil =>
    have hk : k = (lay a).length + e := hk
    have e0 : (lay ([] : List (Nat × Tk))).length = 0 := rfl
    have hkL : k = L.length := by
      have := congrArg List.length hLL
      rw [List.append_nil, List.length_append, List.length_replicate] at this
      omega
    refine ⟨by omega, iN (by omega) ⟨.inl ⟨rfl, _, SqL.of hp⟩, by omega, fun p hpn => ?_⟩⟩
    obtain ⟨g1, g2⟩ := app_tup g hp0 hp hR hpn (fun Hx => tk_reps Hx (Str.ofString "end") [] L.length)
    refine ⟨p0, xs, _, rfl, rfl, same_new hpn _ _ _ hp, by rw [sizeLine_eq]; omega, q _ _ g1 ⟨p0, _, rfl, upd_same, ?_⟩⟩
    rw [List.append_nil]
    exact g2
  | cons x c =>
    have hk : k = (lay a).length + x.1 := hk
    have hx := hok x (by simp)
    have hst : Stops x.2.1 (lay c ++ List.replicate e 32) := stops_at hok hch
    obtain ⟨h1, r1, e1, hhk, _⟩ := shw_head hx
    have hdk2 : L.drop k = shw x.2 ++ (lay c ++ List.replicate e 32) := by
      rw [hk, ← List.drop_drop, hdk]
      show List.drop x.1 (List.replicate x.1 32 ++ (shw x.2 ++ lay c) ++ List.replicate e 32) = _
      rw [List.append_assoc, List.append_assoc]
      exact List.drop_left' List.length_replicate
    have hpos : 0 < (shw x.2).length := by rw [e1]; exact Nat.succ_pos _
    have hdl2 := congrArg List.length hdk2
    rw [List.length_drop, List.length_append] at hdl2
    have hk2 : (lay (a ++ [x])).length = k + (shw x.2).length := by
      rw [lay_app, List.length_append, lay_len, hk]
      show _ + (_ + _ + 0) = _
      omega
    refine ⟨by omega, iP (by omega) ⟨fun σ' H'' => ∃ o1 o2 ys, σ' = [some (.str (tx L)), some (.ref p0), some (.int (((lay (a ++ [x])).length + aheadN c e : Nat) : Int)), o1, o2] ∧ Same H H'' ∧ H'' p0 = some (.lst ys) ∧ Reps H'' ys (dueT 0 (a ++ [x])) ∧ ys.length = (a ++ [x]).length, ?_, ?_⟩⟩
    · rintro σ' H'' ⟨o1, o2, ys, rfl, g', h1, h2, h3⟩
      exact ⟨c.length, Nat.lt_succ_self _, a ++ [x], c, by rw [List.append_assoc]; rfl, ⟨_, _, rfl⟩, g', _, h1, h2, h3, rfl⟩
    · refine ⟨L, _, k, h1, x.2.1, rfl, by rw [hdk2, e1]; rfl, hhk, hL, L, _, x.2, k, rfl, hdk2, hx, hst, hL, fun H1 g1 => ⟨.inl ⟨rfl, _, SqL.of (g1 _ _ hp)⟩, _, rfl, tx L, rfl, hsz, ?_⟩⟩
      rw [slice_nat, ts_tx]
      have hsl : (L.take (k + (shw x.2).length)).drop k = shw x.2 := by
        rw [List.drop_take, hdk2, show k + (shw x.2).length - k = (shw x.2).length by omega, List.take_left]
      rw [hsl]
      refine ⟨x.2, rfl, hx, fun p hpn => ?_⟩
      obtain ⟨g3, g4⟩ := app_tup (g.trans g1) hp0 (g1 _ _ hp) (Reps.same g1 _ _ hR) hpn (fun Hx => tk_reps Hx (kS x.2.1) x.2.2 k)
      refine ⟨p0, xs, _, rfl, rfl, same_new hpn _ _ _ (g1 _ _ hp), by rw [sizeLine_eq]; simp only [List.length_cons] at hr1; omega, L, [32], k + (shw x.2).length, rfl, by omega, hL, ?_⟩
      have hd3 : L.drop (k + (shw x.2).length) = lay c ++ List.replicate e 32 := by rw [← List.drop_drop, hdk2, List.drop_left]
      rw [hd3, ahead_run fun y hy => hok y (by simp [hy]), ← hk2]
      refine ⟨_, _, _, rfl, g3, upd_same, ?_, by rw [List.length_append, List.length_append, hxl]; rfl⟩
      rw [dueT_app]
      have e5 : dueT (0 + (lay a).length) [x] = [.tup [.str (ts (kS x.2.1)), .str x.2.2, .int k]] := by
        show [tkT x.2 (0 + (lay a).length + x.1)] = _
        rw [Nat.zero_add, ← hk]; rfl
      rw [e5]
      exact g4
end
end K28
namespace K28
open PySem L2
local macro_rules | `(tactic| walk_at "rd") => `(tactic| simp only [cxOf_K, nox_K, compCx_K, tSeq, tNext, tAsg, gName, tRet, tRetN, tIfS, tDrop, tOp, tUn, tVar, tC, tCall, tCons, tNil, tTest, tB, tAnd, tOr, tNot, tAndV, tOrV, tNotV, tIf, tCB, tBM, tComp, tTrue, tPart, tNoPart, tSl, tChain, tIsN, tNotN, tLst, tTup, tFor_eq, sDPut, tDNewK, tNever, rI0, rI, rU, rEq, rNe, rMulS, rInC, iRng1, iStr, CDiv, CMul, CPow, scal, List.append_nil, List.getElem?_cons_zero, List.getElem?_cons_succ, List.set_cons_zero, List.set_cons_succ, List.map_cons, List.map_nil, List.length_cons, List.length_nil, sizeLine_eq, Nat.reduceAdd, Nat.reduceLeDiff, Option.join_some, Option.join_none, Option.some.injEq, V.int.injEq, V.str.injEq, V.bl.injEq, V.ref.injEq, V.ty.injEq, List.cons.injEq, and_true, true_and, and_self, exists_eq_left', exists_eq_left, exists_and_left, exists_and_right, decide_eq_true_eq, Bool.not_eq_eq_eq_not, Bool.not_true, Bool.not_false, decide_eq_false_iff_not, Int.reduceLT, Int.reduceLE, Int.reduceNeg, Int.reducePow, Int.reduceAdd, Int.reduceSub, Int.reduceMul, Int.reduceToNat, natAbs10, Nat.reduceLT, Nat.reducePow, or_true, true_or, if_true, if_false, Bool.false_eq_true, ite_true, ite_false, reduceCtorEq])
local macro_rules | `(tactic| walk_at "rd3") => `(tactic| simp only [gTup, gCons, gNil, iZip, tIsT, tDisp, tPairs, tBM0, iList, iDict, tThaw, tMaxD, rMaxD, tDGet, rVals, tComp, cxOf_K, nox_K, compCx_K, tSeq, tNext, tAsg, gName, tRet, tRetN, tIfS, tDrop, tOp, tUn, tVar, tC, tCall, tCons, tNil, tTest, tB, tAnd, tOr, tNot, tAndV, tOrV, tNotV, tIf, tCB, tBM, tComp, tTrue, tPart, tNoPart, tSl, tChain, tIsN, tNotN, tLst, tTup, tFor_eq, sDPut, tDNewK, tNever, rI0, rI, rU, rEq, rNe, rMulS, rInC, iRng1, iStr, CDiv, CMul, CPow, scal, List.append_nil, List.getElem?_cons_zero, List.getElem?_cons_succ, List.set_cons_zero, List.set_cons_succ, List.map_cons, List.map_nil, List.length_cons, List.length_nil, sizeLine_eq, Nat.reduceAdd, Nat.reduceLeDiff, Option.join_some, Option.join_none, Option.some.injEq, V.int.injEq, V.str.injEq, V.bl.injEq, V.ref.injEq, V.ty.injEq, List.cons.injEq, and_true, true_and, and_self, exists_eq_left', exists_eq_left, exists_and_left, exists_and_right, decide_eq_true_eq, Bool.not_eq_eq_eq_not, Bool.not_true, Bool.not_false, decide_eq_false_iff_not, Int.reduceLT, Int.reduceLE, Int.reduceNeg, Int.reducePow, Int.reduceAdd, Int.reduceSub, Int.reduceMul, Int.reduceToNat, natAbs10, Nat.reduceLT, Nat.reducePow, or_true, true_or, if_true, if_false, Bool.false_eq_true, ite_true, ite_false, reduceCtorEq])
local macro_rules | `(tactic| walk_at "rd6") => `(tactic| simp only [tFld, sFld, sFldAug, tMeth, tMake, rAdd, gTup, gCons, gNil, iZip, tIsT, tDisp, tPairs, tBM0, iList, iDict, tThaw, tMaxD, rMaxD, tDGet, rVals, tComp, cxOf_K, nox_K, compCx_K, tSeq, tNext, tAsg, gName, tRet, tRetN, tIfS, tDrop, tOp, tUn, tVar, tC, tCall, tCons, tNil, tTest, tB, tAnd, tOr, tNot, tAndV, tOrV, tNotV, tIf, tCB, tBM, tComp, tTrue, tPart, tNoPart, tSl, tChain, tIsN, tNotN, tLst, tTup, tFor_eq, sDPut, tDNewK, tNever, rI0, rI, rU, rEq, rNe, rMulS, rInC, iRng1, iStr, CDiv, CMul, CPow, scal, List.append_nil, List.getElem?_cons_zero, List.getElem?_cons_succ, List.set_cons_zero, List.set_cons_succ, List.map_cons, List.map_nil, List.length_cons, List.length_nil, sizeLine_eq, Nat.reduceAdd, Nat.reduceLeDiff, Option.join_some, Option.join_none, Option.some.injEq, V.int.injEq, V.str.injEq, V.bl.injEq, V.ref.injEq, V.ty.injEq, List.cons.injEq, and_true, true_and, and_self, exists_eq_left', exists_eq_left, exists_and_left, exists_and_right, decide_eq_true_eq, Bool.not_eq_eq_eq_not, Bool.not_true, Bool.not_false, decide_eq_false_iff_not, Int.reduceLT, Int.reduceLE, Int.reduceNeg, Int.reducePow, Int.reduceAdd, Int.reduceSub, Int.reduceMul, Int.reduceToNat, natAbs10, Nat.reduceLT, Nat.reducePow, or_true, true_or, if_true, if_false, Bool.false_eq_true, ite_true, ite_false, reduceCtorEq])
seal L2.PSs L2.PS L2.PE L2.PT L2.PW L2.PA L2.PI L2.PG L2.PGs L2.PPs L2.PTs
abbrev sSnd : Stmt := top 13
abbrev sBeg : Stmt := top 34
abbrev sPln : Stmt := top 35
def wNone : List Nat := ts (Str.ofString "none")
def wYes : List Nat := ts (Str.ofString "yes")
def wNo : List Nat := ts (Str.ofString "no")
def Beg (t : Tk) : Prop := (∃ i : Int, t = (0, numL i) ∧ -(10 ^ 12) ≤ i ∧ i ≤ 10 ^ 12) ∨ (t = (1, wNone) ∨ t = (1, wYes) ∨ t = (1, wNo)) ∨ (∃ x, t = (2, x)) ∨ t = (3, [91]) ∨ t = (3, [123])
section
variable {P : Program} {w : World} {K : PySem.W.Frag} {mg : Str → Option Value} {base : Heap} {f : Addr} {fd : FuncData} {wa : Addr}
def spNo : Sp := fun _ _ _ _ => False
theorem ok_no {k : Nat} {ps : List Str} : FnOk P w K mg base CX0 k f fd ps spNo := ⟨fun _ _ _ _ h => h.elim, fun _ _ _ _ _ _ _ _ _ _ _ _ _ h => h.elim⟩
def LeafOk (v : V) : Prop := (∃ i : Int, v = .int i ∧ -(10 ^ 12) ≤ i ∧ i ≤ 10 ^ 12) ∨ ∃ x, v = .str (tx x) ∧ okText x = true
def spSnd : Sp := fun vs H Q _ => ∃ v, vs = [v] ∧ LeafOk v ∧ ∀ H', Same H H' → Q (.bl true) H'
theorem scSnd : FnScope ["thing", "kind"] ["thing"] (defScope sSnd) := ⟨rfl, rfl, rfl, by decide +kernel, rfl, by decide +kernel, by decide +kernel⟩
theorem ok_snd (F : Fun K "is_sound_outside" "is_sound_outside" sSnd f fd) (B : Bl5 mg) (M : Ms mg) (Gkind_of : Dn P w K mg base 1 "kind_of" ["thing"] spKind) (Gis_text_sign : Dn P w K mg base 1 "is_text_sign" ["sign"] spSgn) (Gis_name : Dn P w K mg base 1 "is_name" ["thing"] spNo) : FnOk P w K mg base CX0 2 f fd ["thing"] spSnd := by
  refine F.ok scSnd (fun vs H Q E h => ?_) (fun cdv A outer s H vs Q E hr h => ?_)
  · obtain ⟨v, rfl, _⟩ := h
    rfl
  obtain ⟨v, rfl, hok, q⟩ := h
  have nd := scSnd.nd
  refine ⟨_, (pss_cons (ps_set (i := 1) nd rfl (Or.inl rfl) (pe_cd Gkind_of hr (by omega) rfl (pa_cons (pv 0) pa_nil)))
    (pss_cons (ps_if (pt_cmpR op_eq (pv 1) pe_str (nomark _)) (pss_one (ps_ret (pe_cmpR op_le (pe_callB call_abs rfl B.abs bt_abs (pa_cons (pv 0) pa_nil)) (pe_op op_pow pe_int pe_int) (nomark _)))) pss_nil)
    (pss_cons (ps_if (pt_cmpR op_eq (pv 1) pe_str (nomark _)) (pss_one (ps_ret (pe_and (pe_cmpR op_le (pe_callB call_len_str rfl B.len bt_len (pa_cons (pv 0) pa_nil)) (pe_gi rfl M.MOST_IN_TEXT) (nomark _)) (pe_one (pe_callB (call_all rfl) rfl B.all bt_all (pa_cons (pe_comp (own := ["sign"]) (F := []) ⟨rfl, by with_unfolding_all rfl, by with_unfolding_all rfl, by with_unfolding_all rfl, .nil⟩ rfl (pi_str (pv 0)) (fun _ _ _ _ => pg_name (i := 0) (by show (compN ["sign"] []).Nodup; decide +kernel) rfl (Or.inl rfl)) (fun _ _ _ _ => pts_nil) (fun _ _ _ _ => (pe_cd Gis_text_sign hr (by omega) rfl (pa_cons (pv 0) pa_nil)))) pa_nil)))))) pss_nil)
    (pss_cons (ps_if (pt_cmpR op_eq (pv 1) pe_str (nomark _)) (pss_one (ps_ret (pe_cmpR op_le (pe_callB call_len_l rfl B.len bt_len (pa_cons (pv 0) pa_nil)) (pe_gi rfl M.MOST_IN_ROW) (nomark _)))) pss_nil)
    (pss_cons (ps_if (pt_cmpR op_eq (pv 1) pe_str (nomark _)) (pss_one (ps_ret (pe_and (pe_cmpR op_le (pe_callB call_lenR rfl B.len bt_len (pa_cons (pv 0) pa_nil)) (pe_gi rfl M.MOST_IN_RECORD) (nomark _)) (pe_one (pe_callB (call_all rfl) rfl B.all bt_all (pa_cons (pe_thaw (pe_comp (own := ["name"]) (F := []) ⟨rfl, by with_unfolding_all rfl, by with_unfolding_all rfl, by with_unfolding_all rfl, .nil⟩ rfl (pi_dict (pv 0)) (fun _ _ _ _ => pg_name (i := 0) (by show (compN ["name"] []).Nodup; decide +kernel) rfl (Or.inl rfl)) (fun _ _ _ _ => pts_nil) (fun _ _ _ _ => (pe_cd Gis_name hr (by omega) rfl (pa_cons (pv 0) pa_nil))))) pa_nil)))))) pss_nil)
    (pss_one (ps_ret (pe_cmp (pc_notN (pv 1)))))))))), ?_⟩
  rw [show start ["thing", "kind"] [v] = [some v, none] from rfl]
  walk_at "rd6"
  rcases hok with ⟨i, rfl, h1, h2⟩ | ⟨x, rfl, hx⟩
  · refine ⟨_, "int", rfl, rfl, fun H1 g1 => ⟨by decide +kernel, iP (by decide +kernel) ⟨i, rfl, ?_⟩⟩⟩
    have z := q _ g1
    rw [show (true : Bool) = decide ((if i < 0 then -i else i) ≤ 1000000000000) from (decide_eq_true (by split <;> omega)).symm] at z
    exact z
  · unfold okText at hx
    rw [Bool.and_eq_true, decide_eq_true_eq] at hx
    refine ⟨_, "str", rfl, rfl, fun H1 g1 => ⟨by decide +kernel, iN (by decide +kernel) ⟨by decide +kernel, iP (by decide +kernel) ⟨tx x, rfl, by rw [tx_len]; omega, iP (by rw [tx_len]; omega) ?_⟩⟩⟩⟩
    refine ⟨tx x, rfl, comp_str (fun i ys H' => Same H1 H' ∧ ys = (((ts (tx x)).take i).map fun c => decide (c ∈ sgnL)).map V.bl) (by rw [ts_tx, sizeLine_eq]; omega) ⟨Same.refl _, rfl⟩ ?_ ?_⟩
    · rintro i d ys H' hd _ ⟨hS, rfl⟩
      walk_at "rd6"
      refine ⟨d, rfl, fun H3 g3 => ⟨hS.trans g3, ?_⟩⟩
      have e : (ts (tx x)).take (i + 1) = (ts (tx x)).take i ++ [d] := by rw [List.take_add_one, hd]; rfl
      rw [e]
      simp only [List.map_append, List.map_cons, List.map_nil]
    · rintro ys H' hl' ⟨hS, rfl⟩ p hp
      refine ⟨p, rfl, _, SqL.of upd_same, ?_⟩
      have z := q _ (g1.trans (hS.trans (same_new hp (.lst ((((ts (tx x)).take (ts (tx x)).length).map fun c => decide (c ∈ sgnL)).map V.bl)))))
      rw [List.take_length] at z ⊢
      rw [show (true : Bool) = ((ts (tx x)).map fun c => decide (c ∈ sgnL)).all id from by
        rw [ts_tx, List.all_map]
        exact hx.2.symm] at z
      exact z
def spBeg : Sp := fun vs H Q _ => ∃ t : Tk, vs = [.str (kS t.1), .str (tx t.2)] ∧ Beg t ∧ Q (.bl true) H
theorem scBeg : FnScope ["kind", "string"] ["kind", "string"] (defScope sBeg) := ⟨rfl, rfl, rfl, by decide +kernel, rfl, by decide +kernel, by decide +kernel⟩
theorem ok_beg (F : Fun K "begins_thing" "begins_thing" sBeg f fd) (B : Bl mg) (W : Wd P w K mg wa) : FnOk P w K mg base CX0 1 f fd ["kind", "string"] spBeg := by
  refine F.ok scBeg (fun vs H Q E h => ?_) (fun cdv A outer s H vs Q E hr h => ?_)
  · obtain ⟨t, rfl, _⟩ := h
    rfl
  obtain ⟨t, rfl, hb, q⟩ := h
  have nd := scBeg.nd
  refine ⟨_, (pss_cons (ps_if (pt_cmpR op_eq (pv 0) pe_str (nomark _)) (pss_one (ps_ret (pe_or (pe_cmpR op_eq (pv 1) pe_str (nomark _)) (pe_one (pe_cmpR op_ne (pe_ix ix_str (pe_bm PySem.F.plainAttrs_str PySem.F.slot_str_lstrip PySem.F.type_str_lstrip mt_lstrip (pv 1) (pa_cons pe_str pa_nil)) pe_int (fun _ _ => rfl)) pe_str (nomark _)))))) pss_nil)
    (pss_cons (ps_if (pt_cmpR op_eq (pv 0) pe_str (nomark _)) (pss_one (ps_ret (pe_cmpR (op_in_kd W) (pv 1) (pe_gd rfl W.at_) (by with_unfolding_all rfl)))) pss_nil)
    (pss_cons (ps_if (pt_cmpR op_eq (pv 0) pe_str (nomark _)) (pss_one (ps_ret (pe_cmpR op_in_c (pv 1) pe_str (by with_unfolding_all rfl)))) pss_nil)
    (pss_one (ps_ret (pe_cmpR op_eq (pv 0) pe_str (nomark _))))))), ?_⟩
  rw [show start ["kind", "string"] [.str (kS t.1), .str (tx t.2)] = [some (.str (kS t.1)), some (.str (tx t.2))] from rfl]
  walk_at "rd6"
  rcases hb with ⟨i, rfl, h1, h2⟩ | hw | ⟨x, rfl⟩ | rfl | rfl
  · refine iP rfl ?_
    have hl := num_len ⟨h1, h2⟩
    by_cases h0 : tx (numL i) = Str.ofString "0"
    · exact iP h0 q
    refine iN h0 ⟨rfl, tx (numL i), Str.ofString "-", rfl, rfl, by rw [tx_len, sizeLine_eq]; omega, ?_⟩
    have hi : i ≠ 0 := fun z => h0 (by rw [z]; decide +kernel)
    obtain ⟨z, fs, e, hz, _, hfs, hd⟩ := num_shape i
    obtain ⟨d, r, rfl, hd0⟩ := hd hi
    have hd5 := hfs d List.mem_cons_self
    rw [e, of_mi, lstrip_minus hz (by omega)]
    have hl2 : (d :: r).length ≤ 14 := by rw [e, List.length_append] at hl; omega
    refine rIxS_i (by rw [tx_len, sizeLine_eq]; omega) (c := d) (atI_nat (j := 0) rfl) ⟨rfl, ?_⟩
    rw [show (!decide (V.str (tx [d]) = V.str (Str.ofString "0"))) = true from by
      rw [Bool.not_eq_true', decide_eq_false_iff_not]
      intro z
      injection z with z
      have e3 : Str.ofString "0" = (⟨#[48]⟩ : Str) := by decide +kernel
      rw [e3] at z
      injection z with z
      exact hd0 (by simpa using z)]
    exact q
  · refine iN ?_ (iP ?_ ⟨_, rfl, rfl, ?_⟩)
    · rcases hw with rfl | rfl | rfl <;> decide +kernel
    · rcases hw with rfl | rfl | rfl <;> rfl
    · rw [show (valV wordsK (Sum.inr (tx t.2))).isSome = true from by rcases hw with rfl | rfl | rfl <;> decide +kernel]
      exact q
  · refine iN (show ¬ kS 2 = Str.ofString "number" by decide +kernel) (iN (show ¬ kS 2 = Str.ofString "word" by decide +kernel) (iN (show ¬ kS 2 = Str.ofString "mark" by decide +kernel) ?_))
    rw [show decide (kS (2, x).1 = Str.ofString "text") = true from decide_eq_true rfl]; exact q
  · refine iN (by decide +kernel) (iN (by decide +kernel) (iP rfl ⟨91, rfl, ?_⟩))
    rw [show decide (91 ∈ ts (Str.ofString "[{")) = true from by decide +kernel]; exact q
  · refine iN (by decide +kernel) (iN (by decide +kernel) (iP rfl ⟨123, rfl, ?_⟩))
    rw [show decide (123 ∈ ts (Str.ofString "[{")) = true from by decide +kernel]; exact q
def Pln (t : Tk) (v : V) : Prop := (∃ i : Int, t = (0, numL i) ∧ v = .int i ∧ -(10 ^ 12) ≤ i ∧ i ≤ 10 ^ 12) ∨ (t = (1, wNone) ∧ v = .non) ∨ (t = (1, wYes) ∧ v = .bl true) ∨ (t = (1, wNo) ∧ v = .bl false) ∨ ∃ x, t = (2, x) ∧ v = .str (tx x) ∧ okText x = true
def spPln : Sp := fun vs H Q _ => ∃ (t : Tk) (v : V), vs = [.str (kS t.1), .str (tx t.2)] ∧ Pln t v ∧ ∀ H', Same H H' → Q v H'
theorem scPln : FnScope ["kind", "string", "thing"] ["kind", "string"] (defScope sPln) := ⟨rfl, rfl, rfl, by decide +kernel, rfl, by decide +kernel, by decide +kernel⟩
theorem ok_pln (F : Fun K "plain_thing" "plain_thing" sPln f fd) (B : Bl mg) (M : Ms mg) (W : Wd P w K mg wa) (Gis_sound_outside : Dn P w K mg base 2 "is_sound_outside" ["thing"] spSnd) : FnOk P w K mg base CX0 3 f fd ["kind", "string"] spPln := by
  refine F.ok scPln (fun vs H Q E h => ?_) (fun cdv A outer s H vs Q E hr h => ?_)
  · obtain ⟨t, v, rfl, _⟩ := h
    rfl
  obtain ⟨t, v, rfl, hb, q⟩ := h
  have nd := scPln.nd
  refine ⟨_, (pss_cons (ps_if (pt_cmpR op_eq (pv 0) pe_str (nomark _)) (pss_one (ps_ret (pe_kd W (pe_gd rfl W.at_) (pv 1) (fun _ _ => rfl)))) pss_nil)
    (pss_cons (ps_if (PW.pt (pw_and (pt_cmpR op_eq (pv 0) pe_str (nomark _)) (pw_and1 (pt_cmpR op_gt (pe_callB call_len_str rfl B.len bt_len (pa_cons (pv 1) pa_nil)) (pe_gi rfl M.MOST_IN_NUMBER) (nomark _))))) pss_never pss_nil)
    (pss_cons (ps_set (i := 2) nd rfl (Or.inl rfl) (pe_ifExp (pt_cmpR op_eq (pv 0) pe_str (nomark _)) (pe_callTy call_int_str rfl B.int bt_int (pa_cons (pv 1) pa_nil)) (pv 1)))
    (pss_cons (ps_if (pt_not (pt_val (pe_cd Gis_sound_outside hr (by omega) rfl (pa_cons (pv 2) pa_nil)))) pss_never pss_nil)
    (pss_one (ps_ret (pv 2))))))), ?_⟩
  rw [show start ["kind", "string", "thing"] [.str (kS t.1), .str (tx t.2)] = [some (.str (kS t.1)), some (.str (tx t.2)), none] from rfl]
  walk_at "rd6"
  rcases hb with ⟨i, rfl, rfl, h1, h2⟩ | ⟨rfl, rfl⟩ | ⟨rfl, rfl⟩ | ⟨rfl, rfl⟩ | ⟨x, rfl, rfl, hx⟩
  · have hl := num_len ⟨h1, h2⟩
    have hl' : (tx (numL i)).length ≤ 14 := by rw [tx_len]; exact hl
    refine iN (show ¬ kS 0 = Str.ofString "word" by decide +kernel) (iP rfl ⟨show (tx (numL i)).length ≤ _ by omega, iN (show ¬ 14 < ((tx (numL i)).length : Int) by omega) (iP rfl ⟨i, num_reads2 ⟨h1, h2⟩, show (tx (numL i)).length ≤ _ by omega, _, rfl, .inl ⟨i, rfl, h1, h2⟩, fun H1 g1 => ⟨true, rfl, iN (by decide) (q _ g1)⟩⟩)⟩)
  · exact iP rfl ⟨_, _, rfl, rfl, by decide +kernel, q _ (Same.refl _)⟩
  · exact iP rfl ⟨_, _, rfl, rfl, by decide +kernel, q _ (Same.refl _)⟩
  · exact iP rfl ⟨_, _, rfl, rfl, by decide +kernel, q _ (Same.refl _)⟩
  · exact iN (show ¬ kS 2 = Str.ofString "word" by decide +kernel) (iN (show ¬ kS 2 = Str.ofString "number" by decide +kernel) (iN (show ¬ kS 2 = Str.ofString "number" by decide +kernel) ⟨_, rfl, .inr ⟨x, rfl, hx⟩, fun H1 g1 => ⟨true, rfl, iN (by decide) (q _ g1)⟩⟩))
end
end K28
namespace K28
open PySem L2
local macro_rules | `(tactic| walk_at "rd") => `(tactic| simp only [cxOf_K, nox_K, compCx_K, tSeq, tNext, tAsg, gName, tRet, tRetN, tIfS, tDrop, tOp, tUn, tVar, tC, tCall, tCons, tNil, tTest, tB, tAnd, tOr, tNot, tAndV, tOrV, tNotV, tIf, tCB, tBM, tComp, tTrue, tPart, tNoPart, tSl, tChain, tIsN, tNotN, tLst, tTup, tFor_eq, sDPut, tDNewK, tNever, rI0, rI, rU, rEq, rNe, rMulS, rInC, iRng1, iStr, CDiv, CMul, CPow, scal, List.append_nil, List.getElem?_cons_zero, List.getElem?_cons_succ, List.set_cons_zero, List.set_cons_succ, List.map_cons, List.map_nil, List.length_cons, List.length_nil, sizeLine_eq, Nat.reduceAdd, Nat.reduceLeDiff, Option.join_some, Option.join_none, Option.some.injEq, V.int.injEq, V.str.injEq, V.bl.injEq, V.ref.injEq, V.ty.injEq, List.cons.injEq, and_true, true_and, and_self, exists_eq_left', exists_eq_left, exists_and_left, exists_and_right, decide_eq_true_eq, Bool.not_eq_eq_eq_not, Bool.not_true, Bool.not_false, decide_eq_false_iff_not, Int.reduceLT, Int.reduceLE, Int.reduceNeg, Int.reducePow, Int.reduceAdd, Int.reduceSub, Int.reduceMul, Int.reduceToNat, natAbs10, Nat.reduceLT, Nat.reducePow, or_true, true_or, if_true, if_false, Bool.false_eq_true, ite_true, ite_false, reduceCtorEq])
local macro_rules | `(tactic| walk_at "rd3") => `(tactic| simp only [gTup, gCons, gNil, iZip, tIsT, tDisp, tPairs, tBM0, iList, iDict, tThaw, tMaxD, rMaxD, tDGet, rVals, tComp, cxOf_K, nox_K, compCx_K, tSeq, tNext, tAsg, gName, tRet, tRetN, tIfS, tDrop, tOp, tUn, tVar, tC, tCall, tCons, tNil, tTest, tB, tAnd, tOr, tNot, tAndV, tOrV, tNotV, tIf, tCB, tBM, tComp, tTrue, tPart, tNoPart, tSl, tChain, tIsN, tNotN, tLst, tTup, tFor_eq, sDPut, tDNewK, tNever, rI0, rI, rU, rEq, rNe, rMulS, rInC, iRng1, iStr, CDiv, CMul, CPow, scal, List.append_nil, List.getElem?_cons_zero, List.getElem?_cons_succ, List.set_cons_zero, List.set_cons_succ, List.map_cons, List.map_nil, List.length_cons, List.length_nil, sizeLine_eq, Nat.reduceAdd, Nat.reduceLeDiff, Option.join_some, Option.join_none, Option.some.injEq, V.int.injEq, V.str.injEq, V.bl.injEq, V.ref.injEq, V.ty.injEq, List.cons.injEq, and_true, true_and, and_self, exists_eq_left', exists_eq_left, exists_and_left, exists_and_right, decide_eq_true_eq, Bool.not_eq_eq_eq_not, Bool.not_true, Bool.not_false, decide_eq_false_iff_not, Int.reduceLT, Int.reduceLE, Int.reduceNeg, Int.reducePow, Int.reduceAdd, Int.reduceSub, Int.reduceMul, Int.reduceToNat, natAbs10, Nat.reduceLT, Nat.reducePow, or_true, true_or, if_true, if_false, Bool.false_eq_true, ite_true, ite_false, reduceCtorEq])
local macro_rules | `(tactic| walk_at "rd6") => `(tactic| simp only [tFld, sFld, sFldAug, tMeth, tMake, rAdd, gTup, gCons, gNil, iZip, tIsT, tDisp, tPairs, tBM0, iList, iDict, tThaw, tMaxD, rMaxD, tDGet, rVals, tComp, cxOf_K, nox_K, compCx_K, tSeq, tNext, tAsg, gName, tRet, tRetN, tIfS, tDrop, tOp, tUn, tVar, tC, tCall, tCons, tNil, tTest, tB, tAnd, tOr, tNot, tAndV, tOrV, tNotV, tIf, tCB, tBM, tComp, tTrue, tPart, tNoPart, tSl, tChain, tIsN, tNotN, tLst, tTup, tFor_eq, sDPut, tDNewK, tNever, rI0, rI, rU, rEq, rNe, rMulS, rInC, iRng1, iStr, CDiv, CMul, CPow, scal, List.append_nil, List.getElem?_cons_zero, List.getElem?_cons_succ, List.set_cons_zero, List.set_cons_succ, List.map_cons, List.map_nil, List.length_cons, List.length_nil, sizeLine_eq, Nat.reduceAdd, Nat.reduceLeDiff, Option.join_some, Option.join_none, Option.some.injEq, V.int.injEq, V.str.injEq, V.bl.injEq, V.ref.injEq, V.ty.injEq, List.cons.injEq, and_true, true_and, and_self, exists_eq_left', exists_eq_left, exists_and_left, exists_and_right, decide_eq_true_eq, Bool.not_eq_eq_eq_not, Bool.not_true, Bool.not_false, decide_eq_false_iff_not, Int.reduceLT, Int.reduceLE, Int.reduceNeg, Int.reducePow, Int.reduceAdd, Int.reduceSub, Int.reduceMul, Int.reduceToNat, natAbs10, Nat.reduceLT, Nat.reducePow, or_true, true_or, if_true, if_false, Bool.false_eq_true, ite_true, ite_false, reduceCtorEq])
seal L2.PSs L2.PS L2.PE L2.PT L2.PW L2.PA L2.PI L2.PG L2.PGs L2.PPs L2.PTs
def clsAt (s : Stmt) (i : Nat) : Stmt := match s with
  | .ClassDef _ _ _ b _ _ _ _ _ _ _ => b.getD i (.Pass ⟨0, 0, 0, 0⟩)
  | _ => s
abbrev sRi : Stmt := clsAt (top 33) 0
abbrev sRp : Stmt := clsAt (top 33) 1
abbrev sRo : Stmt := clsAt (top 33) 2
def rO (C dx fl : Addr) (p b : Nat) : HO := .ins C dx [("found", .ref fl), ("place", .int p), ("begun", .int b)]
structure Rc (K : PySem.W.Frag) (C : Addr) : Prop where
  cls : Cls K C
  nf : NoAttr K C "found"
  np : NoAttr K C "place"
  nb : NoAttr K C "begun"
theorem ne_fp : ((Str.ofString "place") == (Str.ofString "found")) = false := by decide +kernel
theorem ne_fb : ((Str.ofString "begun") == (Str.ofString "found")) = false := by decide +kernel
theorem ne_pb : ((Str.ofString "begun") == (Str.ofString "place")) = false := by decide +kernel
theorem lk_f {x y z : V} : List.lookup (Str.ofString "found") [(Str.ofString "found", x), (Str.ofString "place", y), (Str.ofString "begun", z)] = some x := by
  rw [List.lookup_cons, beq_self_eq_true]
theorem lk_p {x y z : V} : List.lookup (Str.ofString "place") [(Str.ofString "found", x), (Str.ofString "place", y), (Str.ofString "begun", z)] = some y := by
  rw [List.lookup_cons, ne_fp, List.lookup_cons, beq_self_eq_true]
theorem lk_b {x y z : V} : List.lookup (Str.ofString "begun") [(Str.ofString "found", x), (Str.ofString "place", y), (Str.ofString "begun", z)] = some z := by
  rw [List.lookup_cons, ne_fb, List.lookup_cons, ne_pb, List.lookup_cons, beq_self_eq_true]
theorem lk_no {m : Str} {x y z : V} (h1 : (m == (Str.ofString "found")) = false) (h2 : (m == (Str.ofString "place")) = false) (h3 : (m == (Str.ofString "begun")) = false) : List.lookup m [(Str.ofString "found", x), (Str.ofString "place", y), (Str.ofString "begun", z)] = none := by
  rw [List.lookup_cons, h1, List.lookup_cons, h2, List.lookup_cons, h3]; rfl
theorem ne_of {a b : Str} (h : (a == b) = false) : ¬ b = a := fun z => by rw [z, beq_self_eq_true] at h; cases h
theorem pf_p {x y z v : V} : putF (Str.ofString "place") v [(Str.ofString "found", x), (Str.ofString "place", y), (Str.ofString "begun", z)] = [(Str.ofString "found", x), (Str.ofString "place", v), (Str.ofString "begun", z)] := by
  unfold putF; rw [if_neg (ne_of ne_fp)]; unfold putF; rw [if_pos rfl]
theorem pf_b {x y z v : V} : putF (Str.ofString "begun") v [(Str.ofString "found", x), (Str.ofString "place", y), (Str.ofString "begun", z)] = [(Str.ofString "found", x), (Str.ofString "place", y), (Str.ofString "begun", v)] := by
  unfold putF; rw [if_neg (ne_of ne_fb)]; unfold putF; rw [if_neg (ne_of ne_pb)]; unfold putF; rw [if_pos rfl]
theorem pf_1 {x v : V} : putF (Str.ofString "place") v [(Str.ofString "found", x)] = [(Str.ofString "found", x), (Str.ofString "place", v)] := by
  unfold putF; rw [if_neg (ne_of ne_fp)]; rfl
theorem pf_2 {x y v : V} : putF (Str.ofString "begun") v [(Str.ofString "found", x), (Str.ofString "place", y)] = [(Str.ofString "found", x), (Str.ofString "place", y), (Str.ofString "begun", v)] := by
  unfold putF; rw [if_neg (ne_of ne_fb)]; unfold putF; rw [if_neg (ne_of ne_pb)]; rfl
def TkAt (H : Hp) (xs : List V) (p : Nat) (k s : Str) : Prop := ∃ (a : Addr) (n : Int), xs[p]? = some (.ref a) ∧ H a = some (.tup [.str k, .str s, .int n])
theorem rIxT_i {K : PySem.W.Frag} {H : Hp} {a : Addr} {xs : List V} {i : Int} {v : V} {Q : VK} (h1 : SqT K H a xs) (h2 : atI xs i = some v) (q : Q v H) : rIxT K (.ref a) (.int i) H Q := ⟨a, xs, i, v, rfl, rfl, h1, h2, q⟩
section
variable {P : Program} {w : World} {K : PySem.W.Frag} {mg : Str → Option Value} {base : Heap} {f : Addr} {fd : FuncData} {C : Addr}
def spRi (C : Addr) : Sp := fun vs H Q _ => ∃ (r dx fl : Addr), vs = [.ref r, .ref fl] ∧ H r = some (.ins C dx []) ∧ Q .non (upd (upd (upd H r (.ins C dx [("found", .ref fl)])) r (.ins C dx [("found", .ref fl), ("place", .int 0)])) r (rO C dx fl 0 0))
theorem scRi : FnScope ["self", "found"] ["self", "found"] (defScope sRi) := ⟨rfl, rfl, rfl, by decide +kernel, rfl, by decide +kernel, by decide +kernel⟩
theorem ok_ri (F : Fun K "__init__" "Reader.__init__" sRi f fd) (R : Rc K C) : FnOk P w K mg base CX0 1 f fd ["self", "found"] (spRi C) := by
  refine F.ok scRi (fun vs H Q E h => ?_) (fun cdv A outer s H vs Q E hr h => ?_)
  · obtain ⟨r, dx, fl, rfl, _⟩ := h
    rfl
  obtain ⟨r, dx, fl, rfl, hR, q⟩ := h
  have nd := scRi.nd
  refine ⟨_, (pss_cons (ps_fld (pv 0) (pv 1) rfl)
    (pss_cons (ps_fld (pv 0) pe_int rfl)
    (pss_one (ps_fld (pv 0) pe_int rfl)))), ?_⟩
  rw [show start ["self", "found"] [.ref r, .ref fl] = [some (.ref r), some (.ref fl)] from rfl]
  walk_at "rd6"
  refine ⟨C, dx, [], hR, R.cls, R.nf, by decide, C, dx, [(Str.ofString "found", .ref fl)], upd_same, R.cls, R.np, by simp, ?_⟩
  rw [pf_1]
  refine ⟨C, dx, [(Str.ofString "found", .ref fl), (Str.ofString "place", .int 0)], upd_same, R.cls, R.nb, by simp, ?_⟩
  rw [pf_2]
  exact q
def spPs (C : Addr) : Sp := fun vs H Q _ => ∃ (r dx fl : Addr) (p b : Nat) (xs : List V) (k s k' s' : Str), vs = [.ref r, .str k, .str s] ∧ H r = some (rO C dx fl p b) ∧ H fl = some (.lst xs) ∧ TkAt H xs p k' s' ∧
  (k' = k ∧ s' = s → Q (.bl true) (upd H r (rO C dx fl (p + 1) b))) ∧ (¬ (k' = k ∧ s' = s) → Q (.bl false) H)
theorem scRp : FnScope ["self", "kind", "string", "token"] ["self", "kind", "string"] (defScope sRp) := ⟨rfl, rfl, rfl, by decide +kernel, rfl, by decide +kernel, by decide +kernel⟩
theorem ok_ps (F : Fun K "passes" "Reader.passes" sRp f fd) (R : Rc K C) : FnOk P w K mg base CX0 1 f fd ["self", "kind", "string"] (spPs C) := by
  refine F.ok scRp (fun vs H Q E h => ?_) (fun cdv A outer s H vs Q E hr h => ?_)
  · obtain ⟨r, dx, fl, p, b, xs, k, s, k', s', rfl, _⟩ := h
    rfl
  obtain ⟨r, dx, fl, p, b, xs, k, s0, k', s', rfl, hR, hfl, ⟨a, n, hxa, ha⟩, q1, q2⟩ := h
  have nd := scRp.nd
  refine ⟨_, (pss_cons (ps_set (i := 3) nd rfl (Or.inl rfl) (pe_ix ix_list (pe_fld (pv 0) rfl) (pe_fld (pv 0) rfl) (fun _ _ => rfl)))
    (pss_cons (ps_if (PW.pt (pw_or (pt_cmpR op_ne (pe_ix ix_tup (pv 3) pe_int (fun _ _ => rfl)) (pv 1) (nomark _)) (pw_or1 (pt_cmpR op_ne (pe_ix ix_tup (pv 3) pe_int (fun _ _ => rfl)) (pv 2) (nomark _))))) (pss_one (ps_ret pe_bl)) pss_nil)
    (pss_cons (ps_fldaug (pv 0) pe_int in_add)
    (pss_one (ps_ret pe_bl))))), ?_⟩
  rw [show start ["self", "kind", "string", "token"] [.ref r, .str k, .str s0] = [some (.ref r), some (.str k), some (.str s0), none] from rfl]
  walk_at "rd6"
  refine ⟨C, dx, _, hR, R.cls, R.nf, _, lk_f, C, dx, _, hR, R.cls, R.np, _, lk_p, rIxL_i (SqL.of hfl) (atI_nat hxa) (rIxT_i (SqT.of ha) (v := .str k') rfl ⟨rfl, ?_⟩)⟩
  by_cases hk : k' = k
  · subst hk
    refine ⟨false, by simp, iteF (rIxT_i (SqT.of ha) (v := .str s') rfl ⟨rfl, ?_⟩)⟩
    by_cases hs : s' = s0
    · subst hs
      refine ⟨false, by simp, iteF ?_⟩
      refine ⟨C, dx, _, hR, R.cls, R.np, _, lk_p, p, rfl, dx, _, hR, by simp, ?_⟩
      rw [pf_p, show ((p : Int) + 1) = ((p + 1 : Nat) : Int) by omega]
      exact q1 ⟨rfl, rfl⟩
    · exact ⟨true, by simp [hs], iteT (q2 fun z => hs z.2)⟩
  · exact ⟨true, by simp [hk], iteT (q2 fun z => hk z.1)⟩
def spPo (C : Addr) : Sp := fun vs H Q _ => ∃ (r dx fl : Addr) (p b : Nat) (xs : List V) (k s : Str), vs = [.ref r, .str k, .str s] ∧ H r = some (rO C dx fl p b) ∧ H fl = some (.lst xs) ∧ TkAt H xs p k s ∧ Q .non (upd H r (rO C dx fl (p + 1) b))
theorem scRo : FnScope ["self", "kind", "string"] ["self", "kind", "string"] (defScope sRo) := ⟨rfl, rfl, rfl, by decide +kernel, rfl, by decide +kernel, by decide +kernel⟩
theorem ok_po (F : Fun K "pass_over" "Reader.pass_over" sRo f fd) (Dpasses : Dm P w K mg base 1 C "passes" ["self", "kind", "string"] (spPs C)) : FnOk P w K mg base CX0 2 f fd ["self", "kind", "string"] (spPo C) := by
  refine F.ok scRo (fun vs H Q E h => ?_) (fun cdv A outer s H vs Q E hr h => ?_)
  · obtain ⟨r, dx, fl, p, b, xs, k, s, rfl, _⟩ := h
    rfl
  obtain ⟨r, dx, fl, p, b, xs, k, s0, rfl, hR, hfl, ht, q⟩ := h
  have nd := scRo.nd
  refine ⟨_, (pss_one (ps_if (pt_not (pt_val (pe_cm Dpasses hr (by omega) (pv 0) (pa_cons (pv 1) (pa_cons (pv 2) pa_nil))))) pss_never pss_nil)), ?_⟩
  rw [show start ["self", "kind", "string"] [.ref r, .str k, .str s0] = [some (.ref r), some (.str k), some (.str s0)] from rfl]
  walk_at "rd6"
  exact ⟨dx, _, hR, lk_no (by decide +kernel) (by decide +kernel) (by decide +kernel), r, dx, fl, p, b, xs, k, s0, k, s0, rfl, hR, hfl, ht, fun _ => ⟨true, rfl, iN (by decide) q⟩, fun z => absurd ⟨rfl, rfl⟩ z⟩
end
end K28
namespace K28
open PySem L2
local macro_rules | `(tactic| walk_at "rd") => `(tactic| simp only [cxOf_K, nox_K, compCx_K, tSeq, tNext, tAsg, gName, tRet, tRetN, tIfS, tDrop, tOp, tUn, tVar, tC, tCall, tCons, tNil, tTest, tB, tAnd, tOr, tNot, tAndV, tOrV, tNotV, tIf, tCB, tBM, tComp, tTrue, tPart, tNoPart, tSl, tChain, tIsN, tNotN, tLst, tTup, tFor_eq, sDPut, tDNewK, tNever, rI0, rI, rU, rEq, rNe, rMulS, rInC, iRng1, iStr, CDiv, CMul, CPow, scal, List.append_nil, List.getElem?_cons_zero, List.getElem?_cons_succ, List.set_cons_zero, List.set_cons_succ, List.map_cons, List.map_nil, List.length_cons, List.length_nil, sizeLine_eq, Nat.reduceAdd, Nat.reduceLeDiff, Option.join_some, Option.join_none, Option.some.injEq, V.int.injEq, V.str.injEq, V.bl.injEq, V.ref.injEq, V.ty.injEq, List.cons.injEq, and_true, true_and, and_self, exists_eq_left', exists_eq_left, exists_and_left, exists_and_right, decide_eq_true_eq, Bool.not_eq_eq_eq_not, Bool.not_true, Bool.not_false, decide_eq_false_iff_not, Int.reduceLT, Int.reduceLE, Int.reduceNeg, Int.reducePow, Int.reduceAdd, Int.reduceSub, Int.reduceMul, Int.reduceToNat, natAbs10, Nat.reduceLT, Nat.reducePow, or_true, true_or, if_true, if_false, Bool.false_eq_true, ite_true, ite_false, reduceCtorEq])
local macro_rules | `(tactic| walk_at "rd3") => `(tactic| simp only [gTup, gCons, gNil, iZip, tIsT, tDisp, tPairs, tBM0, iList, iDict, tThaw, tMaxD, rMaxD, tDGet, rVals, tComp, cxOf_K, nox_K, compCx_K, tSeq, tNext, tAsg, gName, tRet, tRetN, tIfS, tDrop, tOp, tUn, tVar, tC, tCall, tCons, tNil, tTest, tB, tAnd, tOr, tNot, tAndV, tOrV, tNotV, tIf, tCB, tBM, tComp, tTrue, tPart, tNoPart, tSl, tChain, tIsN, tNotN, tLst, tTup, tFor_eq, sDPut, tDNewK, tNever, rI0, rI, rU, rEq, rNe, rMulS, rInC, iRng1, iStr, CDiv, CMul, CPow, scal, List.append_nil, List.getElem?_cons_zero, List.getElem?_cons_succ, List.set_cons_zero, List.set_cons_succ, List.map_cons, List.map_nil, List.length_cons, List.length_nil, sizeLine_eq, Nat.reduceAdd, Nat.reduceLeDiff, Option.join_some, Option.join_none, Option.some.injEq, V.int.injEq, V.str.injEq, V.bl.injEq, V.ref.injEq, V.ty.injEq, List.cons.injEq, and_true, true_and, and_self, exists_eq_left', exists_eq_left, exists_and_left, exists_and_right, decide_eq_true_eq, Bool.not_eq_eq_eq_not, Bool.not_true, Bool.not_false, decide_eq_false_iff_not, Int.reduceLT, Int.reduceLE, Int.reduceNeg, Int.reducePow, Int.reduceAdd, Int.reduceSub, Int.reduceMul, Int.reduceToNat, natAbs10, Nat.reduceLT, Nat.reducePow, or_true, true_or, if_true, if_false, Bool.false_eq_true, ite_true, ite_false, reduceCtorEq])
local macro_rules | `(tactic| walk_at "rd6") => `(tactic| simp only [tFld, sFld, sFldAug, tMeth, tMake, rAdd, gTup, gCons, gNil, iZip, tIsT, tDisp, tPairs, tBM0, iList, iDict, tThaw, tMaxD, rMaxD, tDGet, rVals, tComp, cxOf_K, nox_K, compCx_K, tSeq, tNext, tAsg, gName, tRet, tRetN, tIfS, tDrop, tOp, tUn, tVar, tC, tCall, tCons, tNil, tTest, tB, tAnd, tOr, tNot, tAndV, tOrV, tNotV, tIf, tCB, tBM, tComp, tTrue, tPart, tNoPart, tSl, tChain, tIsN, tNotN, tLst, tTup, tFor_eq, sDPut, tDNewK, tNever, rI0, rI, rU, rEq, rNe, rMulS, rInC, iRng1, iStr, CDiv, CMul, CPow, scal, List.append_nil, List.getElem?_cons_zero, List.getElem?_cons_succ, List.set_cons_zero, List.set_cons_succ, List.map_cons, List.map_nil, List.length_cons, List.length_nil, sizeLine_eq, Nat.reduceAdd, Nat.reduceLeDiff, Option.join_some, Option.join_none, Option.some.injEq, V.int.injEq, V.str.injEq, V.bl.injEq, V.ref.injEq, V.ty.injEq, List.cons.injEq, and_true, true_and, and_self, exists_eq_left', exists_eq_left, exists_and_left, exists_and_right, decide_eq_true_eq, Bool.not_eq_eq_eq_not, Bool.not_true, Bool.not_false, decide_eq_false_iff_not, Int.reduceLT, Int.reduceLE, Int.reduceNeg, Int.reducePow, Int.reduceAdd, Int.reduceSub, Int.reduceMul, Int.reduceToNat, natAbs10, Nat.reduceLT, Nat.reducePow, or_true, true_or, if_true, if_false, Bool.false_eq_true, ite_true, ite_false, reduceCtorEq])
seal L2.PSs L2.PS L2.PE L2.PT L2.PW L2.PA L2.PI L2.PG L2.PGs L2.PPs L2.PTs
abbrev sRn : Stmt := clsAt (top 33) 7
mutual
def tks : T → List Tk
  | .non => [(1, wNone)]
  | .bl b => [(1, if b then wYes else wNo)]
  | .int i => [(0, numL i)]
  | .str x => [(2, x)]
  | .lst us => (3, [91]) :: (tksL true us ++ [(3, [93])])
  | .dic ks us => (3, [123]) :: (tksD true ks us ++ [(3, [125])])
  | .tup _ => []
def tksL : Bool → List T → List Tk
  | _, [] => []
  | b, t :: ts => (if b then [] else [(3, [44])]) ++ (tks t ++ tksL false ts)
def tksD : Bool → List (List Nat) → List T → List Tk
  | b, ks, t :: ts => (if b then [] else [(3, [44])]) ++ ((1, ks.headD []) :: (3, [58]) :: (tks t ++ tksD false ks.tail ts))
  | _, _, [] => []
end
mutual
def OkR : T → Prop
  | .non => True
  | .bl _ => True
  | .int i => -(10 ^ 12) ≤ i ∧ i ≤ 10 ^ 12
  | .str x => okText x = true
  | .lst us => us.length ≤ 60 ∧ OkRs us
  | .dic ks us => ks.Nodup ∧ ks.length = us.length ∧ ks.length ≤ 30 ∧ (∀ k ∈ ks, okName k = true) ∧ OkRs us
  | .tup _ => False
def OkRs : List T → Prop
  | [] => True
  | t :: ts => OkR t ∧ OkRs ts
end
theorem OkRs.mem {t : T} : ∀ {ts : List T}, OkRs ts → t ∈ ts → OkR t
  | [], _, h => nomatch h
  | u :: ts, h, hm => (List.mem_cons.mp hm).elim (fun e => e ▸ h.1) (OkRs.mem h.2)
theorem tks_head (t : T) (h : OkR t) : ∃ k r, tks t = k :: r ∧ Beg k := by
  cases t with
  | non => exact ⟨_, _, rfl, .inr (.inl (.inl rfl))⟩
  | bl b => cases b <;> exact ⟨_, _, rfl, .inr (.inl (by simp))⟩
  | int i => exact ⟨_, _, rfl, .inl ⟨i, rfl, h⟩⟩
  | str x => exact ⟨_, _, rfl, .inr (.inr (.inl ⟨x, rfl⟩))⟩
  | lst us => exact ⟨_, _, rfl, .inr (.inr (.inr (.inl rfl)))⟩
  | dic ks us => exact ⟨_, _, rfl, .inr (.inr (.inr (.inr rfl)))⟩
  | tup us => exact h.elim
theorem beg_no {k : Tk} (h : Beg k) : ¬ (kS k.1 = Str.ofString "mark" ∧ tx k.2 = Str.ofString "]") ∧ ¬ (kS k.1 = Str.ofString "mark" ∧ tx k.2 = Str.ofString "}") := by
  rcases h with ⟨i, rfl, _⟩ | (rfl | rfl | rfl) | ⟨x, rfl⟩ | rfl | rfl
  · exact ⟨fun z => absurd z.1 (show ¬ kS 0 = Str.ofString "mark" by decide +kernel), fun z => absurd z.1 (show ¬ kS 0 = Str.ofString "mark" by decide +kernel)⟩
  · exact ⟨fun z => absurd z.1 (by decide +kernel), fun z => absurd z.1 (by decide +kernel)⟩
  · exact ⟨fun z => absurd z.1 (by decide +kernel), fun z => absurd z.1 (by decide +kernel)⟩
  · exact ⟨fun z => absurd z.1 (by decide +kernel), fun z => absurd z.1 (by decide +kernel)⟩
  · exact ⟨fun z => absurd z.1 (show ¬ kS 2 = Str.ofString "mark" by decide +kernel), fun z => absurd z.1 (show ¬ kS 2 = Str.ofString "mark" by decide +kernel)⟩
  · exact ⟨fun z => absurd z.2 (by decide +kernel), fun z => absurd z.2 (by decide +kernel)⟩
  · exact ⟨fun z => absurd z.2 (by decide +kernel), fun z => absurd z.2 (by decide +kernel)⟩
def Tka (H : Hp) (xs : List V) (p : Nat) (l : List Tk) : Prop := ∀ (i : Nat) t, l[i]? = some t → TkAt H xs (p + i) (kS t.1) (tx t.2)
theorem Tka.head {H : Hp} {xs : List V} {p : Nat} {t : Tk} {l : List Tk} (h : Tka H xs p (t :: l)) : TkAt H xs p (kS t.1) (tx t.2) := h 0 t rfl
theorem Tka.tail {H : Hp} {xs : List V} {p : Nat} {t : Tk} {l : List Tk} (h : Tka H xs p (t :: l)) : Tka H xs (p + 1) l := fun i u e => by
  have := h (i + 1) u (by simpa using e)
  rwa [show p + (i + 1) = p + 1 + i by omega] at this
theorem Tka.left {H : Hp} {xs : List V} {p : Nat} {a b : List Tk} (h : Tka H xs p (a ++ b)) : Tka H xs p a := fun i u e => h i u (by rw [List.getElem?_append_left (List.getElem?_eq_some_iff.mp e).1]; exact e)
theorem Tka.right {H : Hp} {xs : List V} {p : Nat} {a b : List Tk} (h : Tka H xs p (a ++ b)) : Tka H xs (p + a.length) b := fun i u e => by
  have := h (a.length + i) u (by rw [List.getElem?_append_right (by omega)]; rw [show a.length + i - a.length = i by omega]; exact e)
  rwa [show p + (a.length + i) = p + a.length + i by omega] at this
structure Rm (r : Addr) (H H' : Hp) : Prop where
  same : ∀ b o, b ≠ r → H b = some o → H' b = some o
  r0 : ∃ o, H r = some o
  r1 : ∃ o, H' r = some o
theorem Rm.trans {r : Addr} {H H1 H2 : Hp} (a : Rm r H H1) (b : Rm r H1 H2) : Rm r H H2 := ⟨fun c o n e => b.same c o n (a.same c o n e), a.r0, b.r1⟩
theorem Rm.put {r : Addr} {H : Hp} {o : HO} (h : H r = some o) (o' : HO) : Rm r H (upd H r o') := ⟨fun b u n e => by rw [upd_ne n]; exact e, ⟨o, h⟩, ⟨o', upd_same⟩⟩
theorem Rm.of {r : Addr} {H H' : Hp} {o : HO} (h : H r = some o) (g : Same H H') : Rm r H H' := ⟨fun b u _ e => g b u e, ⟨o, h⟩, ⟨o, g _ _ h⟩⟩
theorem Rm.dom {r : Addr} {H H' : Hp} (g : Rm r H H') {b : Addr} (h : H' b = none) : H b = none := by
  cases e : H b with
  | none => rfl
  | some o =>
    by_cases hb : b = r
    · subst hb
      obtain ⟨o', e'⟩ := g.r1
      rw [h] at e'; cases e'
    · rw [g.same b o hb e] at h; cases h
theorem Rm.newL {r : Addr} {H H1 : Hp} (g : Rm r H H1) (H2 : Hp) : Same (newH H1 H2) (newH H H2) := fun b o e => by
  have h := newH_old e
  rw [newH_at h] at e
  rw [newH_at (g.dom h)]; exact e
theorem Rm.newR {r : Addr} {H H1 H2 : Hp} (h0 : ∃ o, H r = some o) (g : Rm r H1 H2) : Same (newH H H1) (newH H H2) := fun b o e => by
  have h := newH_old e
  rw [newH_at h] at e ⊢
  refine g.same b o (fun z => ?_) e
  obtain ⟨o', h'⟩ := h0
  rw [z, h'] at h; cases h
theorem TkAt.keep {r : Addr} {H H' : Hp} {C dx fl : Addr} {p0 b0 : Nat} (hR : H r = some (rO C dx fl p0 b0)) (g : Rm r H H') {xs : List V} {p : Nat} {k s : Str} (h : TkAt H xs p k s) : TkAt H' xs p k s := by
  obtain ⟨a, n, h1, h2⟩ := h
  exact ⟨a, n, h1, g.same a _ (fun z => by rw [z, hR] at h2; cases h2) h2⟩
theorem Tka.keep {r : Addr} {H H' : Hp} {C dx fl : Addr} {p0 b0 : Nat} (hR : H r = some (rO C dx fl p0 b0)) (g : Rm r H H') {xs : List V} {p : Nat} {l : List Tk} (h : Tka H xs p l) : Tka H' xs p l := fun i t e => (h i t e).keep hR g
theorem lst_keep {r : Addr} {H H' : Hp} {C dx fl : Addr} {p0 b0 : Nat} (hR : H r = some (rO C dx fl p0 b0)) (g : Rm r H H') {b : Addr} {xs : List V} (h : H b = some (.lst xs)) : H' b = some (.lst xs) := g.same b _ (fun z => by rw [z, hR] at h; cases h) h
theorem Rm.new {r a : Addr} {H H' : Hp} (g : Rm r H H') (ha : H a = none) (hr : a ≠ r) (o : HO) : Rm r H (upd H' a o) :=
  ⟨fun b u n e => by rw [upd_ne (fun z => by rw [z, ha] at e; cases e)]; exact g.same b u n e, g.r0, by obtain ⟨o', e⟩ := g.r1; exact ⟨o', by rw [upd_ne (Ne.symm hr)]; exact e⟩⟩
theorem hide_new_upd {H H' : Hp} {a : Addr} {o : HO} : hide (newH H (upd H' a o)) a = hide (newH H H') a := by
  funext b
  by_cases h : b = a
  · subst h; rw [hide_at, hide_at]
  · rw [hide_ne h, hide_ne h]
    unfold newH
    cases H b with
    | none => show upd H' a o b = H' b; rw [upd_ne h]
    | some _ => rfl
theorem Rm.newA {r a : Addr} {H H3 H4 : Hp} {o : HO} (g : Rm r H H3) (ha : H3 a = some o) : Same (newH H3 H4) (hide (newH H H4) a) := fun b u e => by
  have h := newH_old e
  rw [hide_ne (fun z => by rw [z, ha] at h; cases h)]
  exact g.newL H4 b u e
theorem Tka.upd {H : Hp} {xs : List V} {p : Nat} {l : List Tk} {a : Addr} {o o' : HO} (h : Tka H xs p l) (ha : H a = some o) (ho : ∀ ys, o ≠ .tup ys) : Tka (upd H a o') xs p l := fun i t e => by
  obtain ⟨c, n, h1, h2⟩ := h i t e
  exact ⟨c, n, h1, by rw [upd_ne (fun z => by rw [z, ha] at h2; injection h2 with h2; exact ho _ h2)]; exact h2⟩
section
variable {P : Program} {w : World} {K : PySem.W.Frag} {mg : Str → Option Value} {base : Heap} {f : Addr} {fd : FuncData} {C : Addr}
def spNm (C : Addr) : Sp := fun vs H Q _ => ∃ (r dx fl q : Addr) (p b : Nat) (xs : List V) (ps : List (Key × V)) (k : List Nat), vs = [.ref r, .ref q] ∧ H r = some (rO C dx fl p b) ∧ H fl = some (.lst xs) ∧ TkAt H xs p (kS 1) (tx k) ∧ H q = some (.dK ps) ∧ valV ps (nK k) = none ∧ k.length ≤ 12 ∧ ps.length < 30 ∧ Q (.str (tx k)) (upd H r (rO C dx fl (p + 1) b))
theorem scRn : FnScope ["self", "record", "token"] ["self", "record"] (defScope sRn) := ⟨rfl, rfl, rfl, by decide +kernel, rfl, by decide +kernel, by decide +kernel⟩
theorem ok_nm (F : Fun K "name_here" "Reader.name_here" sRn f fd) (B : Bl mg) (M : Ms mg) (R : Rc K C) : FnOk P w K mg base CX0 1 f fd ["self", "record"] (spNm C) := by
  refine F.ok scRn (fun vs H Q E h => ?_) (fun cdv A outer s H vs Q E hr h => ?_)
  · obtain ⟨r, dx, fl, q, p, b, xs, ps, k, rfl, _⟩ := h
    rfl
  obtain ⟨r, dx, fl, q, p, b, xs, ps, k, rfl, hR, hfl, ⟨a, n, hxa, ha⟩, hq, hv, hk, hps, qq⟩ := h
  have nd := scRn.nd
  have hu := hu_of hr
  refine ⟨_, (pss_cons (ps_set (i := 2) nd rfl (Or.inl rfl) (pe_ix ix_list (pe_fld (pv 0) rfl) (pe_fld (pv 0) rfl) (fun _ _ => rfl)))
    (pss_cons (ps_if (PW.pt (pw_or (pt_cmpR op_ne (pe_ix ix_tup (pv 2) pe_int (fun _ _ => rfl)) pe_str (nomark _)) (pw_or1 (pt_cmp (pc_din hu (pe_ix ix_tup (pv 2) pe_int (fun _ _ => rfl)) (pv 1)))))) pss_never pss_nil)
    (pss_cons (ps_if (PW.pt (pw_or (pt_cmpR op_gt (pe_callB call_len_str rfl B.len bt_len (pa_cons (pe_ix ix_tup (pv 2) pe_int (fun _ _ => rfl)) pa_nil)) (pe_gi rfl M.MOST_IN_NAME) (nomark _)) (pw_or1 (pt_cmpR op_eq (pe_callB call_lenR rfl B.len bt_len (pa_cons (pv 1) pa_nil)) (pe_gi rfl M.MOST_IN_RECORD) (nomark _))))) pss_never pss_nil)
    (pss_cons (ps_fldaug (pv 0) pe_int in_add)
    (pss_one (ps_ret (pe_ix ix_tup (pv 2) pe_int (fun _ _ => rfl)))))))), ?_⟩
  rw [show start ["self", "record", "token"] [.ref r, .ref q] = [some (.ref r), some (.ref q), none] from rfl]
  walk_at "rd6"
  refine ⟨C, dx, _, hR, R.cls, R.nf, _, lk_f, C, dx, _, hR, R.cls, R.np, _, lk_p, rIxL_i (SqL.of hfl) (atI_nat hxa) (rIxT_i (SqT.of ha) (v := .str (kS 1)) rfl ?_)⟩
  refine ⟨rfl, false, by decide +kernel, iteF ?_⟩
  unfold tDIn
  walk_at "rd6"
  refine rIxT_i (SqT.of ha) (v := .str (tx k)) rfl ⟨none, .inl ⟨ps, nK k, .inl hq, rfl, hv.symm⟩, ?_⟩
  refine iN (by decide) (rIxT_i (SqT.of ha) (v := .str (tx k)) rfl ⟨_, rfl, by rw [tx_len]; omega, iN (by rw [tx_len]; omega) ⟨ps, .inl hq, iN (by omega) ⟨C, dx, _, hR, R.cls, R.np, _, lk_p, p, rfl, dx, _, hR, by simp, ?_⟩⟩⟩)
  rw [pf_p, show ((p : Int) + 1) = ((p + 1 : Nat) : Int) by omega]
  refine rIxT_i (xs := [.str (kS 1), .str (tx k), .int n]) (SqT.of ?_) (v := .str (tx k)) rfl qq
  rw [upd_ne (fun z => by rw [z, hR] at ha; cases ha)]; exact ha
end
end K28
namespace K28
open PySem L2
local macro_rules | `(tactic| walk_at "rd") => `(tactic| simp only [cxOf_K, nox_K, compCx_K, tSeq, tNext, tAsg, gName, tRet, tRetN, tIfS, tDrop, tOp, tUn, tVar, tC, tCall, tCons, tNil, tTest, tB, tAnd, tOr, tNot, tAndV, tOrV, tNotV, tIf, tCB, tBM, tComp, tTrue, tPart, tNoPart, tSl, tChain, tIsN, tNotN, tLst, tTup, tFor_eq, sDPut, tDNewK, tNever, rI0, rI, rU, rEq, rNe, rMulS, rInC, iRng1, iStr, CDiv, CMul, CPow, scal, List.append_nil, List.getElem?_cons_zero, List.getElem?_cons_succ, List.set_cons_zero, List.set_cons_succ, List.map_cons, List.map_nil, List.length_cons, List.length_nil, sizeLine_eq, Nat.reduceAdd, Nat.reduceLeDiff, Option.join_some, Option.join_none, Option.some.injEq, V.int.injEq, V.str.injEq, V.bl.injEq, V.ref.injEq, V.ty.injEq, List.cons.injEq, and_true, true_and, and_self, exists_eq_left', exists_eq_left, exists_and_left, exists_and_right, decide_eq_true_eq, Bool.not_eq_eq_eq_not, Bool.not_true, Bool.not_false, decide_eq_false_iff_not, Int.reduceLT, Int.reduceLE, Int.reduceNeg, Int.reducePow, Int.reduceAdd, Int.reduceSub, Int.reduceMul, Int.reduceToNat, natAbs10, Nat.reduceLT, Nat.reducePow, or_true, true_or, if_true, if_false, Bool.false_eq_true, ite_true, ite_false, reduceCtorEq])
local macro_rules | `(tactic| walk_at "rd3") => `(tactic| simp only [gTup, gCons, gNil, iZip, tIsT, tDisp, tPairs, tBM0, iList, iDict, tThaw, tMaxD, rMaxD, tDGet, rVals, tComp, cxOf_K, nox_K, compCx_K, tSeq, tNext, tAsg, gName, tRet, tRetN, tIfS, tDrop, tOp, tUn, tVar, tC, tCall, tCons, tNil, tTest, tB, tAnd, tOr, tNot, tAndV, tOrV, tNotV, tIf, tCB, tBM, tComp, tTrue, tPart, tNoPart, tSl, tChain, tIsN, tNotN, tLst, tTup, tFor_eq, sDPut, tDNewK, tNever, rI0, rI, rU, rEq, rNe, rMulS, rInC, iRng1, iStr, CDiv, CMul, CPow, scal, List.append_nil, List.getElem?_cons_zero, List.getElem?_cons_succ, List.set_cons_zero, List.set_cons_succ, List.map_cons, List.map_nil, List.length_cons, List.length_nil, sizeLine_eq, Nat.reduceAdd, Nat.reduceLeDiff, Option.join_some, Option.join_none, Option.some.injEq, V.int.injEq, V.str.injEq, V.bl.injEq, V.ref.injEq, V.ty.injEq, List.cons.injEq, and_true, true_and, and_self, exists_eq_left', exists_eq_left, exists_and_left, exists_and_right, decide_eq_true_eq, Bool.not_eq_eq_eq_not, Bool.not_true, Bool.not_false, decide_eq_false_iff_not, Int.reduceLT, Int.reduceLE, Int.reduceNeg, Int.reducePow, Int.reduceAdd, Int.reduceSub, Int.reduceMul, Int.reduceToNat, natAbs10, Nat.reduceLT, Nat.reducePow, or_true, true_or, if_true, if_false, Bool.false_eq_true, ite_true, ite_false, reduceCtorEq])
local macro_rules | `(tactic| walk_at "rd6") => `(tactic| simp only [tFld, sFld, sFldAug, tMeth, tMake, rAdd, gTup, gCons, gNil, iZip, tIsT, tDisp, tPairs, tBM0, iList, iDict, tThaw, tMaxD, rMaxD, tDGet, rVals, tComp, cxOf_K, nox_K, compCx_K, tSeq, tNext, tAsg, gName, tRet, tRetN, tIfS, tDrop, tOp, tUn, tVar, tC, tCall, tCons, tNil, tTest, tB, tAnd, tOr, tNot, tAndV, tOrV, tNotV, tIf, tCB, tBM, tComp, tTrue, tPart, tNoPart, tSl, tChain, tIsN, tNotN, tLst, tTup, tFor_eq, sDPut, tDNewK, tNever, rI0, rI, rU, rEq, rNe, rMulS, rInC, iRng1, iStr, CDiv, CMul, CPow, scal, List.append_nil, List.getElem?_cons_zero, List.getElem?_cons_succ, List.set_cons_zero, List.set_cons_succ, List.map_cons, List.map_nil, List.length_cons, List.length_nil, sizeLine_eq, Nat.reduceAdd, Nat.reduceLeDiff, Option.join_some, Option.join_none, Option.some.injEq, V.int.injEq, V.str.injEq, V.bl.injEq, V.ref.injEq, V.ty.injEq, List.cons.injEq, and_true, true_and, and_self, exists_eq_left', exists_eq_left, exists_and_left, exists_and_right, decide_eq_true_eq, Bool.not_eq_eq_eq_not, Bool.not_true, Bool.not_false, decide_eq_false_iff_not, Int.reduceLT, Int.reduceLE, Int.reduceNeg, Int.reducePow, Int.reduceAdd, Int.reduceSub, Int.reduceMul, Int.reduceToNat, natAbs10, Nat.reduceLT, Nat.reducePow, or_true, true_or, if_true, if_false, Bool.false_eq_true, ite_true, ite_false, reduceCtorEq])
seal L2.PSs L2.PS L2.PE L2.PT L2.PW L2.PA L2.PI L2.PG L2.PGs L2.PPs L2.PTs
abbrev sRt : Stmt := clsAt (top 33) 3
abbrev sRh : Stmt := clsAt (top 33) 4
abbrev sRr : Stmt := clsAt (top 33) 5
abbrev sRd : Stmt := clsAt (top 33) 6
section
variable {P : Program} {w : World} {K : PySem.W.Frag} {mg : Str → Option Value} {base : Heap} {f : Addr} {fd : FuncData} {C wa : Addr}
def spTh (C : Addr) (n : Nat) : Sp := fun vs H Q _ => ∃ (r dx fl : Addr) (p b d : Nat) (xs : List V) (t : T), vs = [.ref r, .int d, .bl false] ∧ H r = some (rO C dx fl p b) ∧ H fl = some (.lst xs) ∧ Tka H xs p (tks t) ∧ OkR t ∧ d + T.dep t ≤ 8 ∧ b + T.sz t ≤ 200 ∧ T.dep t < n ∧
  ∀ v H', H' r = some (rO C dx fl (p + (tks t).length) (b + T.sz t)) → Rm r H H' → Rep (newH H H') v t → Q v H'
def spRow (C : Addr) (n : Nat) : Sp := fun vs H Q _ => ∃ (r dx fl : Addr) (p b d : Nat) (xs : List V) (us : List T), vs = [.ref r, .int d] ∧ H r = some (rO C dx fl p b) ∧ H fl = some (.lst xs) ∧ Tka H xs p (tksL true us ++ [(3, [93])]) ∧ OkRs us ∧ us.length ≤ 60 ∧ d + T.deps us ≤ 8 ∧ b + T.szs us ≤ 200 ∧ T.deps us < n ∧
  ∀ v H', H' r = some (rO C dx fl (p + (tksL true us).length + 1) (b + T.szs us)) → Rm r H H' → Rep (newH H H') v (.lst us) → Q v H'
theorem scRr : FnScope ["self", "depth", "row"] ["self", "depth"] (defScope sRr) := ⟨rfl, rfl, rfl, by decide +kernel, rfl, by decide +kernel, by decide +kernel⟩
theorem ok_row {n k : Nat} (F : Fun K "row_here" "Reader.row_here" sRr f fd) (B : Bl mg) (M : Ms mg) (Dpasses : Dm P w K mg base 1 C "passes" ["self", "kind", "string"] (spPs C)) (Dpass_over : Dm P w K mg base 2 C "pass_over" ["self", "kind", "string"] (spPo C))
    (Dthing_here : Dm P w K mg base (4 + k) C "thing_here" ["self", "depth", "crowded"] (spTh C n)) : FnOk P w K mg base CX0 (4 + k + 1) f fd ["self", "depth"] (spRow C n) := by
  refine F.ok scRr (fun vs H Q E h => ?_) (fun cdv A outer s H vs Q E hr h => ?_)
  · obtain ⟨r, dx, fl, p, b, d, xs, us, rfl, _⟩ := h
    rfl
  obtain ⟨r, dx, fl, p, b, d, xs, us, rfl, hR, hfl, ht, hok, h60, hd, hb, hn, q⟩ := h
  have nd := scRr.nd
  refine ⟨_, (pss_cons (ps_set (i := 2) nd rfl (Or.inl rfl) (pe_lst pa_nil))
    (pss_cons (ps_while PassesOwn.never (pt_not (pt_val (pe_cm Dpasses hr (by omega) (pv 0) (pa_cons pe_str (pa_cons pe_str pa_nil))))) (pss_cons (ps_if (pt_truth (pv 2) (fun _ => rfl)) (pss_one (ps_expr (pe_cm Dpass_over hr (by omega) (pv 0) (pa_cons pe_str (pa_cons pe_str pa_nil))))) pss_nil)
    (pss_one (ps_expr (pe_bm PySem.F.plainAttrs_list PySem.F.slot_list_append PySem.F.type_list_append mt_append (pv 2) (pa_cons (pe_cm Dthing_here hr (by omega) (pv 0) (pa_cons (pv 1) (pa_cons (pe_cmpR op_eq (pe_callB call_len_l rfl B.len bt_len (pa_cons (pv 2) pa_nil)) (pe_gi rfl M.MOST_IN_ROW) (nomark _)) pa_nil))) pa_nil))))))
    (pss_one (ps_ret (pv 2))))), ?_⟩
  rw [show start ["self", "depth", "row"] [.ref r, .int d] = [some (.ref r), some (.int d), none] from rfl]
  walk_at "rd6"
  intro a ha
  have hra : a ≠ r := fun z => by rw [z, hR] at ha; cases ha
  have g0 : Rm r H (upd H a (.lst [])) := Rm.of hR (same_new ha _)
  refine ⟨fun m σ H2 => ∃ (i pl : Nat) (vs : List V), m = us.length - i ∧ i ≤ us.length ∧ σ = [some (.ref r), some (.int d), some (.ref a)] ∧ Rm r H H2 ∧ H2 r = some (rO C dx fl pl (b + T.szs (us.take i))) ∧ Tka H2 xs pl (tksL (decide (i = 0)) (us.drop i) ++ [(3, [93])]) ∧
      pl + (tksL (decide (i = 0)) (us.drop i)).length = p + (tksL true us).length ∧ H2 a = some (.lst vs) ∧ Reps (hide (newH H H2) a) vs (us.take i) ∧ vs.length = i, ?_⟩
  refine ⟨⟨us.length, 0, p, [], rfl, Nat.zero_le _, rfl, g0, by rw [upd_ne (Ne.symm hra)]; exact hR, ht.keep hR g0, rfl, upd_same, rfl, rfl⟩, ?_⟩
  rintro m σ H2 ⟨i, pl, vs, rfl, hi, rfl, g2, hR2, ht2, hpl, ha2, hv2, hvl⟩
  walk_at "rd6"
  have hfl2 := lst_keep hR g2 hfl
  refine ⟨dx, _, hR2, lk_no (by decide +kernel) (by decide +kernel) (by decide +kernel), ?_⟩
  by_cases hie : i = us.length
  · subst hie
    rw [List.drop_length] at ht2 hpl
    have hpl' : pl = p + (tksL true us).length := hpl
    rw [List.take_length] at hR2 hv2
    refine ⟨r, dx, fl, pl, _, xs, _, _, kS 3, tx [93], rfl, hR2, hfl2, Tka.head (l := []) ht2, fun _ => ⟨true, rfl, iN (by decide) ?_⟩, fun z => absurd ⟨rfl, by decide +kernel⟩ z⟩
    have gE := Rm.put hR2 (rO C dx fl (pl + 1) (b + T.szs us))
    refine q (.ref a) _ (by rw [upd_same, hpl']) (g2.trans gE) ⟨a, vs, rfl, ?_, ?_⟩
    · rw [newH_at ha, upd_ne hra]; exact ha2
    · exact Reps.same (hide_self.trans (Rm.newR ⟨_, hR⟩ gE)) _ _ hv2
  obtain ⟨t, htm⟩ : ∃ t, us[i]? = some t := ⟨us[i], by simp [show i < us.length by omega]⟩
  obtain ⟨hil, hte⟩ := List.getElem?_eq_some_iff.mp htm
  have hdr : us.drop i = t :: us.drop (i + 1) := by rw [List.drop_eq_getElem_cons hil, hte]
  have hm := List.mem_of_getElem? htm
  have hokt := hok.mem hm
  have hdt := T.deps_le hm
  have hsz : T.szs (us.take (i + 1)) = T.szs (us.take i) + T.sz t := by rw [take_succ_of htm, szs_snoc]
  have hszl : T.szs (us.take (i + 1)) ≤ T.szs us := by
    conv => rhs; rw [← List.take_append_drop (i + 1) us]
    rw [szs_append]; omega
  have step : ∀ (H3 : Hp) (pl3 : Nat), Rm r H H3 → H3 r = some (rO C dx fl pl3 (b + T.szs (us.take i))) → Tka H3 xs pl3 (tks t ++ (tksL false (us.drop (i + 1)) ++ [(3, [93])])) → pl3 + (tks t).length + (tksL false (us.drop (i + 1))).length = p + (tksL true us).length → H3 a = some (.lst vs) → Reps (hide (newH H H3) a) vs (us.take i) →
      (tyV K "list" (V.ref a) H3 ∧ ∃ x x_3, H3 r = some (HO.ins C x x_3) ∧ List.lookup (Str.ofString "thing_here") x_3 = none ∧ ∃ ys, SqL K H3 a ys ∧ spTh C n [V.ref r, V.int d, V.bl (decide ((ys.length : Int) = 60))] H3 (fun x H1 => rAppend (V.ref a) [x] H1 fun x H1 =>
        (fun (σ' : St) (H' : Hp) => σ' = [some (.ref r), some (.int d), some (.ref a)] ∧ Rm r H H' ∧ ∃ pl4 vs4, H' r = some (rO C dx fl pl4 (b + T.szs (us.take (i + 1)))) ∧ Tka H' xs pl4 (tksL (decide (i + 1 = 0)) (us.drop (i + 1)) ++ [(3, [93])]) ∧ pl4 + (tksL (decide (i + 1 = 0)) (us.drop (i + 1))).length = p + (tksL true us).length ∧ H' a = some (.lst vs4) ∧ Reps (hide (newH H H') a) vs4 (us.take (i + 1)) ∧ vs4.length = i + 1) [some (.ref r), some (.int d), some (.ref a)] H1) E0) := by
    intro H3 pl3 g3 hR3 ht3 hpl3 ha3 hv3
    refine ⟨.inl ⟨rfl, _, SqL.of ha3⟩, dx, _, hR3, lk_no (by decide +kernel) (by decide +kernel) (by decide +kernel), vs, SqL.of ha3, ?_⟩
    rw [show decide ((vs.length : Int) = 60) = false from decide_eq_false (by omega)]
    refine ⟨r, dx, fl, pl3, _, d, xs, t, rfl, hR3, lst_keep hR g3 hfl, ht3.left, hokt, by omega, by omega, by omega, fun v H4 hR4 g4 hv4 => ?_⟩
    have ha4 := g4.same a _ hra ha3
    refine ⟨a, vs, v, rfl, rfl, ha4, by rw [sizeLine_eq]; omega, rfl, (g3.trans g4).new ha hra _, pl3 + (tks t).length, vs ++ [v], by rw [upd_ne (Ne.symm hra), hR4, hsz, Nat.add_assoc], ?_, ?_, upd_same, ?_, by simp [hvl]⟩
    · rw [show decide (i + 1 = 0) = false from rfl]
      exact (ht3.right.keep hR3 g4).upd ha4 (fun ys z => nomatch z)
    · rw [show decide (i + 1 = 0) = false from rfl]; exact hpl3
    · rw [hide_new_upd, take_succ_of htm]
      exact Reps.snoc (Rep.same (g3.newA ha3) _ _ hv4) (Reps.same (hide_mono (Rm.newR ⟨_, hR⟩ g4)) _ _ hv3)
  have fin : ∀ (σ' : St) (H' : Hp), (σ' = [some (.ref r), some (.int d), some (.ref a)] ∧ Rm r H H' ∧ ∃ pl4 vs4, H' r = some (rO C dx fl pl4 (b + T.szs (us.take (i + 1)))) ∧ Tka H' xs pl4 (tksL (decide (i + 1 = 0)) (us.drop (i + 1)) ++ [(3, [93])]) ∧ pl4 + (tksL (decide (i + 1 = 0)) (us.drop (i + 1))).length = p + (tksL true us).length ∧ H' a = some (.lst vs4) ∧ Reps (hide (newH H H') a) vs4 (us.take (i + 1)) ∧ vs4.length = i + 1) →
      ∃ m', m' < us.length - i ∧ ∃ i, m' = us.length - i ∧ i ≤ us.length ∧ σ' = [some (V.ref r), some (V.int d), some (V.ref a)] ∧ Rm r H H' ∧ ∃ x, H' r = some (rO C dx fl x (b + T.szs (List.take i us))) ∧ Tka H' xs x (tksL (decide (i = 0)) (List.drop i us) ++ [(3, [93])]) ∧ x + (tksL (decide (i = 0)) (List.drop i us)).length = p + (tksL true us).length ∧ ∃ x, H' a = some (HO.lst x) ∧ Reps (hide (newH H H') a) x (List.take i us) ∧ x.length = i := by
    rintro σ' H' ⟨h1, h2, pl4, vs4, h3, h4, h5, h6, h7, h8⟩
    exact ⟨us.length - (i + 1), by omega, i + 1, rfl, by omega, h1, h2, pl4, h3, h4, h5, vs4, h6, h7, h8⟩
  rw [hdr] at ht2 hpl
  by_cases hi0 : i = 0
  · subst hi0
    have e0 : tksL (decide (0 = 0)) (t :: us.drop (0 + 1)) = tks t ++ tksL false (us.drop (0 + 1)) := rfl
    rw [e0] at ht2 hpl
    rw [List.append_assoc] at ht2
    rw [List.length_append] at hpl
    obtain ⟨k0, r0, ek, hbeg⟩ := tks_head t hokt
    have hhd : TkAt H2 xs pl (kS k0.1) (tx k0.2) := by
      have := ht2
      rw [ek] at this
      exact Tka.head this
    refine ⟨r, dx, fl, pl, _, xs, _, _, kS k0.1, tx k0.2, rfl, hR2, hfl2, hhd, fun z => absurd z (beg_no hbeg).1, fun _ => ⟨false, rfl, iP rfl ⟨_, fin, false, ?_, iN (by decide) (step H2 pl g2 hR2 ht2 (by omega) ha2 hv2)⟩⟩⟩
    have : vs = [] := List.eq_nil_of_length_eq_zero hvl
    subst this
    exact .inl ⟨[], SqL.of ha2, rfl⟩
  · have e0 : tksL (decide (i = 0)) (t :: us.drop (i + 1)) = (3, [44]) :: (tks t ++ tksL false (us.drop (i + 1))) := by
      rw [decide_eq_false hi0]; rfl
    rw [e0] at ht2 hpl
    rw [List.cons_append, List.append_assoc] at ht2
    rw [List.length_cons, List.length_append] at hpl
    refine ⟨r, dx, fl, pl, _, xs, _, _, kS 3, tx [44], rfl, hR2, hfl2, ht2.head, fun z => absurd z.2 (by decide +kernel), fun _ => ⟨false, rfl, iP rfl ⟨_, fin, true, ?_, iP rfl ?_⟩⟩⟩
    · refine .inl ⟨vs, SqL.of ha2, ?_⟩
      cases vs with
      | nil => exact absurd hvl.symm hi0
      | cons _ _ => rfl
    have gE := Rm.put hR2 (rO C dx fl (pl + 1) (b + T.szs (us.take i)))
    refine ⟨dx, _, hR2, lk_no (by decide +kernel) (by decide +kernel) (by decide +kernel), r, dx, fl, pl, _, xs, _, _, rfl, hR2, hfl2, ?_, step _ (pl + 1) (g2.trans gE) upd_same (ht2.tail.keep hR2 gE) (by omega) (by rw [upd_ne hra]; exact ha2) (Reps.same (hide_mono (Rm.newR ⟨_, hR⟩ gE)) _ _ hv2)⟩
    exact ht2.head
def spRec (C : Addr) (n : Nat) : Sp := fun vs H Q _ => ∃ (r dx fl : Addr) (p b d : Nat) (xs : List V) (ks : List (List Nat)) (us : List T), vs = [.ref r, .int d] ∧ H r = some (rO C dx fl p b) ∧ H fl = some (.lst xs) ∧ Tka H xs p (tksD true ks us ++ [(3, [125])]) ∧ ks.Nodup ∧ ks.length = us.length ∧ ks.length ≤ 30 ∧ (∀ k ∈ ks, okName k = true) ∧ OkRs us ∧ d + T.deps us ≤ 8 ∧ b + T.szs us ≤ 200 ∧ T.deps us < n ∧
  ∀ v H', H' r = some (rO C dx fl (p + (tksD true ks us).length + 1) (b + T.szs us)) → Rm r H H' → Rep (newH H H') v (.dic ks us) → Q v H'
theorem scRd : FnScope ["self", "depth", "record", "name"] ["self", "depth"] (defScope sRd) := ⟨rfl, rfl, rfl, by decide +kernel, rfl, by decide +kernel, by decide +kernel⟩
theorem nd_off {ks : List (List Nat)} {i : Nat} {k : List Nat} (h : ks.Nodup) (hk : ks[i]? = some k) : k ∉ ks.take i := fun z => by
  obtain ⟨hl, e⟩ := List.getElem?_eq_some_iff.mp hk
  rw [← List.take_append_drop i ks, List.drop_eq_getElem_cons hl, e] at h
  exact (List.nodup_append.mp h).2.2 k z k List.mem_cons_self rfl
theorem ok_rec {n k : Nat} (F : Fun K "record_here" "Reader.record_here" sRd f fd) (B : Bl mg) (M : Ms mg) (Dpasses : Dm P w K mg base 1 C "passes" ["self", "kind", "string"] (spPs C)) (Dpass_over : Dm P w K mg base 2 C "pass_over" ["self", "kind", "string"] (spPo C)) (Dname_here : Dm P w K mg base 1 C "name_here" ["self", "record"] (spNm C))
    (Dthing_here : Dm P w K mg base (4 + k) C "thing_here" ["self", "depth", "crowded"] (spTh C n)) : FnOk P w K mg base CX0 (4 + k + 1) f fd ["self", "depth"] (spRec C n) := by
  refine F.ok scRd (fun vs H Q E h => ?_) (fun cdv A outer s H vs Q E hr h => ?_)
  · obtain ⟨r, dx, fl, p, b, d, xs, ks, us, rfl, _⟩ := h
    rfl
  obtain ⟨r, dx, fl, p, b, d, xs, ks, us, rfl, hR, hfl, ht, nk, hle, h30, hnm, hok, hd, hb, hn, q⟩ := h
  have nd := scRd.nd
  have hu := hu_of hr
  refine ⟨_, (pss_cons (ps_set (i := 2) nd rfl (Or.inl rfl) pe_dnewK)
    (pss_cons (ps_while PassesOwn.never (pt_not (pt_val (pe_cm Dpasses hr (by omega) (pv 0) (pa_cons pe_str (pa_cons pe_str pa_nil))))) (pss_cons (ps_if (pt_truth (pv 2) (fun _ => rfl)) (pss_one (ps_expr (pe_cm Dpass_over hr (by omega) (pv 0) (pa_cons pe_str (pa_cons pe_str pa_nil))))) pss_nil)
    (pss_cons (ps_set (i := 3) nd rfl (Or.inl rfl) (pe_cm Dname_here hr (by omega) (pv 0) (pa_cons (pv 2) pa_nil)))
    (pss_cons (ps_expr (pe_cm Dpass_over hr (by omega) (pv 0) (pa_cons pe_str (pa_cons pe_str pa_nil))))
    (pss_one (ps_dput hu (pv 2) (pv 3) (pe_cm Dthing_here hr (by omega) (pv 0) (pa_cons (pv 1) (pa_cons pe_bl pa_nil))) rfl))))))
    (pss_one (ps_ret (pv 2))))), ?_⟩
  rw [show start ["self", "depth", "record", "name"] [.ref r, .int d] = [some (.ref r), some (.int d), none, none] from rfl]
  walk_at "rd6"
  intro a ha
  have hra : a ≠ r := fun z => by rw [z, hR] at ha; cases ha
  have g0 : Rm r H (upd H a (.dK [])) := Rm.of hR (same_new ha _)
  refine ⟨fun m σ H2 => ∃ (i pl : Nat) (ps : List (Key × V)) (o : Option V), m = us.length - i ∧ i ≤ us.length ∧ σ = [some (.ref r), some (.int d), some (.ref a), o] ∧ Rm r H H2 ∧ H2 r = some (rO C dx fl pl (b + T.szs (us.take i))) ∧ Tka H2 xs pl (tksD (decide (i = 0)) (ks.drop i) (us.drop i) ++ [(3, [125])]) ∧
      pl + (tksD (decide (i = 0)) (ks.drop i) (us.drop i)).length = p + (tksD true ks us).length ∧ H2 a = some (.dK ps) ∧ ps.map (·.1) = (ks.take i).map nK ∧ Reps (hide (newH H H2) a) (ps.map (·.2)) (us.take i), ?_⟩
  refine ⟨⟨us.length, 0, p, [], none, rfl, Nat.zero_le _, rfl, g0, by rw [upd_ne (Ne.symm hra)]; exact hR, ht.keep hR g0, rfl, upd_same, rfl, rfl⟩, ?_⟩
  rintro m σ H2 ⟨i, pl, ps, o, rfl, hi, rfl, g2, hR2, ht2, hpl, ha2, hk2, hv2⟩
  walk_at "rd6"
  have hfl2 := lst_keep hR g2 hfl
  refine ⟨dx, _, hR2, lk_no (by decide +kernel) (by decide +kernel) (by decide +kernel), ?_⟩
  by_cases hie : i = us.length
  · subst hie
    rw [List.drop_length] at ht2 hpl
    rw [show tksD (decide (us.length = 0)) (ks.drop us.length) [] = [] from by unfold tksD; rfl] at ht2 hpl
    have hpl' : pl = p + (tksD true ks us).length := hpl
    rw [List.take_length] at hR2 hv2
    rw [← hle, List.take_length] at hk2
    refine ⟨r, dx, fl, pl, _, xs, _, _, kS 3, tx [125], rfl, hR2, hfl2, Tka.head (l := []) ht2, fun _ => ⟨true, rfl, iN (by decide) ?_⟩, fun z => absurd ⟨rfl, by decide +kernel⟩ z⟩
    have gE := Rm.put hR2 (rO C dx fl (pl + 1) (b + T.szs us))
    refine q (.ref a) _ (by rw [upd_same, hpl']) (g2.trans gE) ⟨a, ps, rfl, ?_, hk2, ?_⟩
    · rw [newH_at ha, upd_ne hra]; exact ha2
    · exact Reps.same (hide_self.trans (Rm.newR ⟨_, hR⟩ gE)) _ _ hv2
  obtain ⟨t, htm⟩ : ∃ t, us[i]? = some t := ⟨us[i], by simp [show i < us.length by omega]⟩
  obtain ⟨kk, hkm⟩ : ∃ kk, ks[i]? = some kk := ⟨ks[i], by simp [show i < ks.length by omega]⟩
  obtain ⟨hil, hte⟩ := List.getElem?_eq_some_iff.mp htm
  obtain ⟨hkl, hke⟩ := List.getElem?_eq_some_iff.mp hkm
  have hdr : us.drop i = t :: us.drop (i + 1) := by rw [List.drop_eq_getElem_cons hil, hte]
  have hdk : ks.drop i = kk :: ks.drop (i + 1) := by rw [List.drop_eq_getElem_cons hkl, hke]
  have hm := List.mem_of_getElem? htm
  have hokt := hok.mem hm
  have hdt := T.deps_le hm
  have hkn := okName_len (hnm kk (List.mem_of_getElem? hkm))
  have hpsl : ps.length = i := by
    have := congrArg List.length hk2
    rw [List.length_map, List.length_map, List.length_take] at this
    omega
  have hvn : valV ps (nK kk) = none := by
    refine valV_none fun z => ?_
    rw [hk2] at z
    obtain ⟨y, hy, e⟩ := List.mem_map.mp z
    rw [nK_inj e] at hy
    exact nd_off nk hkm hy
  have hsz : T.szs (us.take (i + 1)) = T.szs (us.take i) + T.sz t := by rw [take_succ_of htm, szs_snoc]
  have hszl : T.szs (us.take (i + 1)) ≤ T.szs us := by
    conv => rhs; rw [← List.take_append_drop (i + 1) us]
    rw [szs_append]; omega
  have step : ∀ (H3 : Hp) (pl3 : Nat), Rm r H H3 → H3 r = some (rO C dx fl pl3 (b + T.szs (us.take i))) → Tka H3 xs pl3 ((1, kk) :: (3, [58]) :: (tks t ++ (tksD false (ks.drop (i + 1)) (us.drop (i + 1)) ++ [(3, [125])]))) → pl3 + 2 + (tks t).length + (tksD false (ks.drop (i + 1)) (us.drop (i + 1))).length = p + (tksD true ks us).length → H3 a = some (.dK ps) → Reps (hide (newH H H3) a) (ps.map (·.2)) (us.take i) →
      ∃ x x_1, H3 r = some (HO.ins C x x_1) ∧ List.lookup (Str.ofString "name_here") x_1 = none ∧ spNm C [V.ref r, V.ref a] H3 (fun x H1 => ∃ x_2 x_3, H1 r = some (HO.ins C x_2 x_3) ∧ List.lookup (Str.ofString "pass_over") x_3 = none ∧
        spPo C [V.ref r, V.str (Str.ofString "mark"), V.str (Str.ofString ":")] H1 (fun x_4 H1 => ∃ x_5 x_6, H1 r = some (HO.ins C x_5 x_6) ∧ List.lookup (Str.ofString "thing_here") x_6 = none ∧ spTh C n [V.ref r, V.int d, V.bl false] H1 (fun v H1 => ∃ x_7, DPut H1 a x v x_7 ∧
        (fun (σ' : St) (H' : Hp) => (∃ x, σ' = [some (V.ref r), some (V.int d), some (V.ref a), x]) ∧ Rm r H H' ∧ ∃ pl4 ps4, H' r = some (rO C dx fl pl4 (b + T.szs (us.take (i + 1)))) ∧ Tka H' xs pl4 (tksD (decide (i + 1 = 0)) (ks.drop (i + 1)) (us.drop (i + 1)) ++ [(3, [125])]) ∧ pl4 + (tksD (decide (i + 1 = 0)) (ks.drop (i + 1)) (us.drop (i + 1))).length = p + (tksD true ks us).length ∧ H' a = some (.dK ps4) ∧ ps4.map (·.1) = (ks.take (i + 1)).map nK ∧ Reps (hide (newH H H') a) (ps4.map (·.2)) (us.take (i + 1))) [some (V.ref r), some (V.int d), some (V.ref a), some x] x_7) E0) E0) E0 := by
    intro H3 pl3 g3 hR3 ht3 hpl3 ha3 hv3
    have hfl3 := lst_keep hR g3 hfl
    refine ⟨dx, _, hR3, lk_no (by decide +kernel) (by decide +kernel) (by decide +kernel), r, dx, fl, a, pl3, _, xs, ps, kk, rfl, hR3, hfl3, ht3.head, ha3, hvn, hkn, by omega, ?_⟩
    have gA := Rm.put hR3 (rO C dx fl (pl3 + 1) (b + T.szs (us.take i)))
    have hRA : upd H3 r (rO C dx fl (pl3 + 1) (b + T.szs (us.take i))) r = some (rO C dx fl (pl3 + 1) (b + T.szs (us.take i))) := upd_same
    have haA : upd H3 r (rO C dx fl (pl3 + 1) (b + T.szs (us.take i))) a = some (.dK ps) := by rw [upd_ne hra]; exact ha3
    generalize upd H3 r (rO C dx fl (pl3 + 1) (b + T.szs (us.take i))) = HA at gA hRA haA ⊢
    have htA := ht3.tail.keep hR3 gA
    have hflA := lst_keep hR (g3.trans gA) hfl
    refine ⟨dx, _, hRA, lk_no (by decide +kernel) (by decide +kernel) (by decide +kernel), r, dx, fl, pl3 + 1, _, xs, _, _, rfl, hRA, hflA, htA.head, ?_⟩
    have gB := Rm.put hRA (rO C dx fl (pl3 + 1 + 1) (b + T.szs (us.take i)))
    have hRB : upd HA r (rO C dx fl (pl3 + 1 + 1) (b + T.szs (us.take i))) r = some (rO C dx fl (pl3 + 1 + 1) (b + T.szs (us.take i))) := upd_same
    have haB : upd HA r (rO C dx fl (pl3 + 1 + 1) (b + T.szs (us.take i))) a = some (.dK ps) := by rw [upd_ne hra]; exact haA
    generalize upd HA r (rO C dx fl (pl3 + 1 + 1) (b + T.szs (us.take i))) = HB at gB hRB haB ⊢
    have htB := htA.tail.keep hRA gB
    have g3B := g3.trans (gA.trans gB)
    refine ⟨dx, _, hRB, lk_no (by decide +kernel) (by decide +kernel) (by decide +kernel), r, dx, fl, pl3 + 1 + 1, _, d, xs, t, rfl, hRB, lst_keep hR g3B hfl, htB.left, hokt, by omega, by omega, by omega, fun v H4 hR4 g4 hv4 => ?_⟩
    have ha4 := g4.same a _ hra haB
    refine ⟨_, DPut.k (k := nK kk) ha4 (by rw [sizeLine_eq]; omega), ⟨_, rfl⟩, (g3B.trans g4).new ha hra _, pl3 + 1 + 1 + (tks t).length, _, by rw [upd_ne (Ne.symm hra), hR4, hsz, Nat.add_assoc b], ?_, ?_, upd_same, ?_, ?_⟩
    · rw [show decide (i + 1 = 0) = false from rfl]
      exact (htB.right.keep hRB g4).upd ha4 (fun ys z => nomatch z)
    · rw [show decide (i + 1 = 0) = false from rfl]; omega
    · rw [putK_new v hvn, List.map_append, hk2, take_succ_of hkm, List.map_append]; rfl
    · rw [putK_new v hvn, hide_new_upd, take_succ_of htm, List.map_append]
      exact Reps.snoc (Rep.same (g3B.newA haB) _ _ hv4) (Reps.same (hide_mono (Rm.newR ⟨_, hR⟩ ((gA.trans gB).trans g4))) _ _ hv3)
  have fin : ∀ (σ' : St) (H' : Hp), ((∃ x, σ' = [some (V.ref r), some (V.int d), some (V.ref a), x]) ∧ Rm r H H' ∧ ∃ pl4 ps4, H' r = some (rO C dx fl pl4 (b + T.szs (us.take (i + 1)))) ∧ Tka H' xs pl4 (tksD (decide (i + 1 = 0)) (ks.drop (i + 1)) (us.drop (i + 1)) ++ [(3, [125])]) ∧ pl4 + (tksD (decide (i + 1 = 0)) (ks.drop (i + 1)) (us.drop (i + 1))).length = p + (tksD true ks us).length ∧ H' a = some (.dK ps4) ∧ ps4.map (·.1) = (ks.take (i + 1)).map nK ∧ Reps (hide (newH H H') a) (ps4.map (·.2)) (us.take (i + 1))) →
      ∃ m', m' < us.length - i ∧ ∃ i, m' = us.length - i ∧ i ≤ us.length ∧ (∃ x, σ' = [some (V.ref r), some (V.int d), some (V.ref a), x]) ∧ Rm r H H' ∧ ∃ x, H' r = some (rO C dx fl x (b + T.szs (List.take i us))) ∧ Tka H' xs x (tksD (decide (i = 0)) (List.drop i ks) (List.drop i us) ++ [(3, [125])]) ∧ x + (tksD (decide (i = 0)) (List.drop i ks) (List.drop i us)).length = p + (tksD true ks us).length ∧ ∃ x, H' a = some (HO.dK x) ∧ List.map (fun x => x.fst) x = List.map nK (List.take i ks) ∧ Reps (hide (newH H H') a) (List.map (fun x => x.snd) x) (List.take i us) := by
    rintro σ' H' ⟨h1, h2, pl4, ps4, h3, h4, h5, h6, h7, h8⟩
    exact ⟨us.length - (i + 1), by omega, i + 1, rfl, by omega, h1, h2, pl4, h3, h4, h5, ps4, h6, h7, h8⟩
  rw [hdr, hdk] at ht2 hpl
  by_cases hi0 : i = 0
  · subst hi0
    have e0 : tksD (decide (0 = 0)) (kk :: ks.drop (0 + 1)) (t :: us.drop (0 + 1)) = (1, kk) :: (3, [58]) :: (tks t ++ tksD false (ks.drop (0 + 1)) (us.drop (0 + 1))) := by
      rw [tksD]; rfl
    rw [e0] at ht2 hpl
    rw [List.cons_append, List.cons_append, List.append_assoc] at ht2
    rw [List.length_cons, List.length_cons, List.length_append] at hpl
    refine ⟨r, dx, fl, pl, _, xs, _, _, kS 1, tx kk, rfl, hR2, hfl2, ht2.head, fun z => absurd z.1 (by decide +kernel), fun _ => ⟨false, rfl, iP rfl ⟨_, fin, false, ?_, iN (by decide) (step H2 pl g2 hR2 ht2 (by omega) ha2 hv2)⟩⟩⟩
    have : ps = [] := List.eq_nil_of_length_eq_zero hpsl
    subst this
    exact .inr (.inr ⟨[], ha2, rfl⟩)
  · have e0 : tksD (decide (i = 0)) (kk :: ks.drop (i + 1)) (t :: us.drop (i + 1)) = (3, [44]) :: (1, kk) :: (3, [58]) :: (tks t ++ tksD false (ks.drop (i + 1)) (us.drop (i + 1))) := by
      rw [decide_eq_false hi0, tksD]; rfl
    rw [e0] at ht2 hpl
    rw [List.cons_append, List.cons_append, List.cons_append, List.append_assoc] at ht2
    rw [List.length_cons, List.length_cons, List.length_cons, List.length_append] at hpl
    refine ⟨r, dx, fl, pl, _, xs, _, _, kS 3, tx [44], rfl, hR2, hfl2, ht2.head, fun z => absurd z.2 (by decide +kernel), fun _ => ⟨false, rfl, iP rfl ⟨_, fin, true, ?_, iP rfl ?_⟩⟩⟩
    · refine .inr (.inr ⟨ps, ha2, ?_⟩)
      cases ps with
      | nil => exact absurd hpsl.symm hi0
      | cons _ _ => rfl
    have gE := Rm.put hR2 (rO C dx fl (pl + 1) (b + T.szs (us.take i)))
    refine ⟨dx, _, hR2, lk_no (by decide +kernel) (by decide +kernel) (by decide +kernel), r, dx, fl, pl, _, xs, _, _, rfl, hR2, hfl2, ?_, step _ (pl + 1) (g2.trans gE) upd_same (ht2.tail.keep hR2 gE) (by omega) (by rw [upd_ne hra]; exact ha2) (Reps.same (hide_mono (Rm.newR ⟨_, hR⟩ gE)) _ _ hv2)⟩
    exact ht2.head
def isHo : T → Option (List Nat)
  | .lst _ => some [91]
  | .dic _ _ => some [123]
  | _ => none
def spHol (C : Addr) (n : Nat) : Sp := fun vs H Q _ => ∃ (r dx fl : Addr) (p b d : Nat) (xs : List V) (t : T) (z : List Nat), vs = [.ref r, .int d, .str (tx z)] ∧ isHo t = some z ∧ H r = some (rO C dx fl (p + 1) (b + 1)) ∧ H fl = some (.lst xs) ∧ Tka H xs p (tks t) ∧ OkR t ∧ d + T.dep t ≤ 8 ∧ b + T.sz t ≤ 200 ∧ T.dep t < n + 1 ∧
  ∀ v H', H' r = some (rO C dx fl (p + (tks t).length) (b + T.sz t)) → Rm r H H' → Rep (newH H H') v t → Q v H'
theorem scRh : FnScope ["self", "depth", "bracket"] ["self", "depth", "bracket"] (defScope sRh) := ⟨rfl, rfl, rfl, by decide +kernel, rfl, by decide +kernel, by decide +kernel⟩
theorem ok_hol {n k : Nat} (F : Fun K "holder_here" "Reader.holder_here" sRh f fd) (M : Ms mg) (Drow_here : Dm P w K mg base (4 + k + 1) C "row_here" ["self", "depth"] (spRow C n)) (Drecord_here : Dm P w K mg base (4 + k + 1) C "record_here" ["self", "depth"] (spRec C n)) : FnOk P w K mg base CX0 (4 + k + 2) f fd ["self", "depth", "bracket"] (spHol C n) := by
  refine F.ok scRh (fun vs H Q E h => ?_) (fun cdv A outer s H vs Q E hr h => ?_)
  · obtain ⟨r, dx, fl, p, b, d, xs, t, z, rfl, _⟩ := h
    rfl
  obtain ⟨r, dx, fl, p, b, d, xs, t, z, rfl, hz, hR, hfl, ht, hok, hd, hb, hn, q⟩ := h
  have nd := scRh.nd
  refine ⟨_, (pss_cons (ps_if (pt_cmpR op_eq (pv 1) (pe_gi rfl M.MOST_DEPTH) (nomark _)) pss_never pss_nil)
    (pss_cons (ps_if (pt_cmpR op_eq (pv 2) pe_str (nomark _)) (pss_one (ps_ret (pe_cm Drow_here hr (by omega) (pv 0) (pa_cons (pe_op op_add (pv 1) pe_int) pa_nil)))) pss_nil)
    (pss_one (ps_ret (pe_cm Drecord_here hr (by omega) (pv 0) (pa_cons (pe_op op_add (pv 1) pe_int) pa_nil)))))), ?_⟩
  rw [show start ["self", "depth", "bracket"] [.ref r, .int d, .str (tx z)] = [some (.ref r), some (.int d), some (.str (tx z))] from rfl]
  walk_at "rd6"
  cases t with
  | lst us =>
    cases hz
    have hd' : d + (T.deps us + 1) ≤ 8 := hd
    have hb' : b + (T.szs us + 1) ≤ 200 := hb
    have hn' : T.deps us + 1 < n + 1 := hn
    have e1 : p + 1 + (tksL true us).length + 1 = p + (tks (.lst us)).length := by
      show _ = p + ((tksL true us ++ [(3, [93])]).length + 1)
      rw [List.length_append]
      show _ = p + ((tksL true us).length + 1 + 1)
      omega
    have e2 : b + 1 + T.szs us = b + T.sz (.lst us) := by
      show _ = b + (T.szs us + 1)
      omega
    refine iN (by omega) (iP (by decide +kernel) ⟨dx, _, hR, lk_no (by decide +kernel) (by decide +kernel) (by decide +kernel), r, dx, fl, p + 1, b + 1, d + 1, xs, us, rfl, hR, hfl, Tka.tail ht, hok.2, hok.1, by omega, by omega, by omega, fun v H' h1 h2 h3 => q v H' (by rw [h1, e1, e2]) h2 h3⟩)
  | dic ks us =>
    cases hz
    obtain ⟨nk, hle, h30, hnm, hoks⟩ := hok
    have hd' : d + (T.deps us + 1) ≤ 8 := hd
    have hb' : b + (T.szs us + 1) ≤ 200 := hb
    have hn' : T.deps us + 1 < n + 1 := hn
    have e1 : p + 1 + (tksD true ks us).length + 1 = p + (tks (.dic ks us)).length := by
      show _ = p + ((tksD true ks us ++ [(3, [125])]).length + 1)
      rw [List.length_append]
      show _ = p + ((tksD true ks us).length + 1 + 1)
      omega
    have e2 : b + 1 + T.szs us = b + T.sz (.dic ks us) := by
      show _ = b + (T.szs us + 1)
      omega
    refine iN (by omega) (iN (by decide +kernel) ⟨dx, _, hR, lk_no (by decide +kernel) (by decide +kernel) (by decide +kernel), r, dx, fl, p + 1, b + 1, d + 1, xs, ks, us, rfl, hR, hfl, Tka.tail ht, nk, hle, h30, hnm, hoks, by omega, by omega, by omega, fun v H' h1 h2 h3 => q v H' (by rw [h1, e1, e2]) h2 h3⟩)
  | non => cases hz
  | bl _ => cases hz
  | int _ => cases hz
  | str _ => cases hz
  | tup _ => cases hz
theorem scRt : FnScope ["self", "depth", "crowded", "token"] ["self", "depth", "crowded"] (defScope sRt) := ⟨rfl, rfl, rfl, by decide +kernel, rfl, by decide +kernel, by decide +kernel⟩
theorem ok_thS {n k : Nat} (F : Fun K "thing_here" "Reader.thing_here" sRt f fd) (M : Ms mg) (R : Rc K C) (Gbegins_thing : Dn P w K mg base 1 "begins_thing" ["kind", "string"] spBeg) (Gplain_thing : Dn P w K mg base 3 "plain_thing" ["kind", "string"] spPln) (Dholder_here : Dm P w K mg base (4 + k + 2) C "holder_here" ["self", "depth", "bracket"] (spHol C n)) : FnOk P w K mg base CX0 (4 + k + 3) f fd ["self", "depth", "crowded"] (spTh C (n + 1)) := by
  refine F.ok scRt (fun vs H Q E h => ?_) (fun cdv A outer s H vs Q E hr h => ?_)
  · obtain ⟨r, dx, fl, p, b, d, xs, t, rfl, _⟩ := h
    rfl
  obtain ⟨r, dx, fl, p, b, d, xs, t, rfl, hR, hfl, ht, hok, hd, hb, hn, q⟩ := h
  have nd := scRt.nd
  refine ⟨_, (pss_cons (ps_set (i := 3) nd rfl (Or.inl rfl) (pe_ix ix_list (pe_fld (pv 0) rfl) (pe_fld (pv 0) rfl) (fun _ _ => rfl)))
    (pss_cons (ps_if (pt_not (pt_val (pe_cd Gbegins_thing hr (by omega) rfl (pa_cons (pe_ix ix_tup (pv 3) pe_int (fun _ _ => rfl)) (pa_cons (pe_ix ix_tup (pv 3) pe_int (fun _ _ => rfl)) pa_nil))))) pss_never pss_nil)
    (pss_cons (ps_if (PW.pt (pw_or (pt_val (pv 2)) (pw_or1 (pt_cmpR op_eq (pe_fld (pv 0) rfl) (pe_gi rfl M.MOST_SIZE) (nomark _))))) pss_never pss_nil)
    (pss_cons (ps_fldaug (pv 0) pe_int in_add)
    (pss_cons (ps_fldaug (pv 0) pe_int in_add)
    (pss_cons (ps_if (pt_cmpR op_eq (pe_ix ix_tup (pv 3) pe_int (fun _ _ => rfl)) pe_str (nomark _)) (pss_one (ps_ret (pe_cm Dholder_here hr (by omega) (pv 0) (pa_cons (pv 1) (pa_cons (pe_ix ix_tup (pv 3) pe_int (fun _ _ => rfl)) pa_nil))))) pss_nil)
    (pss_one (ps_ret (pe_cd Gplain_thing hr (by omega) rfl (pa_cons (pe_ix ix_tup (pv 3) pe_int (fun _ _ => rfl)) (pa_cons (pe_ix ix_tup (pv 3) pe_int (fun _ _ => rfl)) pa_nil))))))))))), ?_⟩
  rw [show start ["self", "depth", "crowded", "token"] [.ref r, .int d, .bl false] = [some (.ref r), some (.int d), some (.bl false), none] from rfl]
  walk_at "rd6"
  obtain ⟨k0, r0, ek, hbeg⟩ := tks_head t hok
  have hhd : TkAt H xs p (kS k0.1) (tx k0.2) := by
    have := ht
    rw [ek] at this
    exact this.head
  obtain ⟨a, m, hxa, ha⟩ := hhd
  have hsp := sz_pos t
  refine ⟨C, dx, _, hR, R.cls, R.nf, _, lk_f, C, dx, _, hR, R.cls, R.np, _, lk_p, rIxL_i (SqL.of hfl) (atI_nat hxa) (rIxT_i (SqT.of ha) (v := .str (kS k0.1)) rfl (rIxT_i (SqT.of ha) (v := .str (tx k0.2)) rfl ⟨k0, rfl, hbeg, true, rfl, iN (by decide) ⟨C, dx, _, hR, R.cls, R.nb, _, lk_b, rfl, iN ?_ ?_⟩⟩))⟩
  · intro z
    injection z with z
    omega
  refine ⟨C, dx, _, hR, R.cls, R.nb, _, lk_b, b, rfl, dx, _, hR, by simp, ?_⟩
  rw [pf_b]
  refine ⟨C, dx, [(Str.ofString "found", .ref fl), (Str.ofString "place", .int p), (Str.ofString "begun", .int ((b : Int) + 1))], upd_same, R.cls, R.np, _, lk_p, p, rfl, dx, [(Str.ofString "found", .ref fl), (Str.ofString "place", .int p), (Str.ofString "begun", .int ((b : Int) + 1))], upd_same, by simp, ?_⟩
  rw [pf_p]
  have gE : Rm r H (upd (upd H r (.ins C dx [(Str.ofString "found", .ref fl), (Str.ofString "place", .int p), (Str.ofString "begun", .int ((b : Int) + 1))])) r (.ins C dx [(Str.ofString "found", .ref fl), (Str.ofString "place", .int ((p : Int) + 1)), (Str.ofString "begun", .int ((b : Int) + 1))])) := (Rm.put hR _).trans (Rm.put upd_same _)
  have hRE : upd (upd H r (.ins C dx [(Str.ofString "found", .ref fl), (Str.ofString "place", .int p), (Str.ofString "begun", .int ((b : Int) + 1))])) r (.ins C dx [(Str.ofString "found", .ref fl), (Str.ofString "place", .int ((p : Int) + 1)), (Str.ofString "begun", .int ((b : Int) + 1))]) r = some (rO C dx fl (p + 1) (b + 1)) := upd_same
  generalize upd (upd H r (.ins C dx [(Str.ofString "found", .ref fl), (Str.ofString "place", .int p), (Str.ofString "begun", .int ((b : Int) + 1))])) r (.ins C dx [(Str.ofString "found", .ref fl), (Str.ofString "place", .int ((p : Int) + 1)), (Str.ofString "begun", .int ((b : Int) + 1))]) = HE at gE hRE ⊢
  have haE : HE a = some (.tup [.str (kS k0.1), .str (tx k0.2), .int m]) := gE.same a _ (fun z => by rw [z, hR] at ha; cases ha) ha
  refine rIxT_i (SqT.of haE) (v := .str (kS k0.1)) rfl ⟨rfl, ?_⟩
  have hol : ∀ z, isHo t = some z → k0 = (3, z) → (if V.str (kS k0.1) = V.str (Str.ofString "mark") then ∃ x x_1, HE r = some (HO.ins C x x_1) ∧ List.lookup (Str.ofString "holder_here") x_1 = none ∧ rIxT K (V.ref a) (V.int 1) HE fun x H1 => spHol C n [V.ref r, V.int d, x] H1 Q E0
    else rIxT K (V.ref a) (V.int 0) HE fun x H1 => rIxT K (V.ref a) (V.int 1) H1 fun x_1 H1 => spPln [x, x_1] H1 Q E0) := fun z hz hk => iP (by rw [hk]; rfl) ⟨dx, _, hRE, lk_no (by decide +kernel) (by decide +kernel) (by decide +kernel), rIxT_i (SqT.of haE) (v := .str (tx k0.2)) rfl ⟨r, dx, fl, p, b, d, xs, t, z, by rw [hk], hz, hRE, lst_keep hR gE hfl, ht.keep hR gE, hok, hd, hb, hn, fun v H' h1 h2 h3 => q v H' h1 (gE.trans h2) (Rep.same (gE.newL H') _ _ h3)⟩⟩
  have lea : ∀ v, kS k0.1 ≠ Str.ofString "mark" → Pln k0 v → (∀ H', Rep H' v t) → (tks t).length = 1 → T.sz t = 1 → (if V.str (kS k0.1) = V.str (Str.ofString "mark") then ∃ x x_1, HE r = some (HO.ins C x x_1) ∧ List.lookup (Str.ofString "holder_here") x_1 = none ∧ rIxT K (V.ref a) (V.int 1) HE fun x H1 => spHol C n [V.ref r, V.int d, x] H1 Q E0
    else rIxT K (V.ref a) (V.int 0) HE fun x H1 => rIxT K (V.ref a) (V.int 1) H1 fun x_1 H1 => spPln [x, x_1] H1 Q E0) := fun v hk hp hv hl hs => iN (fun z => hk (V.str.inj z)) (rIxT_i (SqT.of haE) (v := .str (kS k0.1)) rfl (rIxT_i (SqT.of haE) (v := .str (tx k0.2)) rfl ⟨k0, v, rfl, hp, fun H' g' => q v H' (by rw [hl, hs]; exact g' _ _ hRE) (gE.trans (Rm.of hRE g')) (hv _)⟩))
  cases t with
  | lst us => exact hol [91] rfl (List.cons.inj ek).1.symm
  | dic ks us => exact hol [123] rfl (List.cons.inj ek).1.symm
  | non => cases ek; exact lea .non (by decide +kernel) (.inr (.inl ⟨rfl, rfl⟩)) (fun _ => rfl) rfl rfl
  | bl c =>
    cases ek
    cases c with
    | true => exact lea (.bl true) (by decide +kernel) (.inr (.inr (.inl ⟨rfl, rfl⟩))) (fun _ => rfl) rfl rfl
    | false => exact lea (.bl false) (by decide +kernel) (.inr (.inr (.inr (.inl ⟨rfl, rfl⟩)))) (fun _ => rfl) rfl rfl
  | int i => cases ek; exact lea (.int i) (show kS 0 ≠ _ by decide +kernel) (.inl ⟨i, rfl, rfl, hok⟩) (fun _ => rfl) rfl rfl
  | str x => cases ek; exact lea (.str (tx x)) (show kS 2 ≠ _ by decide +kernel) (.inr (.inr (.inr (.inr ⟨x, rfl, rfl, hok⟩)))) (fun _ => rfl) rfl rfl
  | tup us => exact hok.elim
theorem ok_th0 (F : Fun K "thing_here" "Reader.thing_here" sRt f fd) : FnOk P w K mg base CX0 4 f fd ["self", "depth", "crowded"] (spTh C 0) := by
  refine F.ok scRt (fun vs H Q E h => ?_) (fun cdv A outer s H vs Q E hr h => ?_)
  · obtain ⟨r, dx, fl, p, b, d, xs, t, rfl, _⟩ := h
    rfl
  obtain ⟨r, dx, fl, p, b, d, xs, t, rfl, hR, hfl, ht, hok, hd, hb, hn, q⟩ := h
  exact absurd hn (Nat.not_lt_zero _)
theorem th_all {f1 f2 f3 f4 : Addr} {fd1 fd2 fd3 fd4 : FuncData} (F1 : Fun K "thing_here" "Reader.thing_here" sRt f1 fd1) (F2 : Fun K "holder_here" "Reader.holder_here" sRh f2 fd2) (F3 : Fun K "row_here" "Reader.row_here" sRr f3 fd3) (F4 : Fun K "record_here" "Reader.record_here" sRd f4 fd4) (B : Bl mg) (M : Ms mg) (R : Rc K C)
    (Gb : Dn P w K mg base 1 "begins_thing" ["kind", "string"] spBeg) (Gp : Dn P w K mg base 3 "plain_thing" ["kind", "string"] spPln) (Dp : Dm P w K mg base 1 C "passes" ["self", "kind", "string"] (spPs C)) (Do : Dm P w K mg base 2 C "pass_over" ["self", "kind", "string"] (spPo C)) (Dn : Dm P w K mg base 1 C "name_here" ["self", "record"] (spNm C))
    (m1 : Meth K C "thing_here" f1) (m2 : Meth K C "holder_here" f2) (m3 : Meth K C "row_here" f3) (m4 : Meth K C "record_here" f4) (b1 : Binds K fd1 ["self", "depth", "crowded"] []) (b2 : Binds K fd2 ["self", "depth", "bracket"] []) (b3 : Binds K fd3 ["self", "depth"] []) (b4 : Binds K fd4 ["self", "depth"] []) :
    ∀ n : Nat, FnOk P w K mg base CX0 (4 + 3 * n) f1 fd1 ["self", "depth", "crowded"] (spTh C n)
  | 0 => ok_th0 F1
  | n + 1 => by
    have ih : Dm P w K mg base (4 + 3 * n) C "thing_here" ["self", "depth", "crowded"] (spTh C n) := ⟨f1, fd1, R.cls, m1, th_all F1 F2 F3 F4 B M R Gb Gp Dp Do Dn m1 m2 m3 m4 b1 b2 b3 b4 n, b1⟩
    have hr : Dm P w K mg base (4 + 3 * n + 1) C "row_here" ["self", "depth"] (spRow C n) := ⟨f3, fd3, R.cls, m3, ok_row F3 B M Dp Do ih, b3⟩
    have hc : Dm P w K mg base (4 + 3 * n + 1) C "record_here" ["self", "depth"] (spRec C n) := ⟨f4, fd4, R.cls, m4, ok_rec F4 B M Dp Do Dn ih, b4⟩
    have hh : Dm P w K mg base (4 + 3 * n + 2) C "holder_here" ["self", "depth", "bracket"] (spHol C n) := ⟨f2, fd2, R.cls, m2, ok_hol F2 M hr hc, b2⟩
    exact ok_thS F1 M R Gb Gp hh
end
end K28
namespace K28
open PySem L2
local macro_rules | `(tactic| walk_at "rd") => `(tactic| simp only [cxOf_K, nox_K, compCx_K, tSeq, tNext, tAsg, gName, tRet, tRetN, tIfS, tDrop, tOp, tUn, tVar, tC, tCall, tCons, tNil, tTest, tB, tAnd, tOr, tNot, tAndV, tOrV, tNotV, tIf, tCB, tBM, tComp, tTrue, tPart, tNoPart, tSl, tChain, tIsN, tNotN, tLst, tTup, tFor_eq, sDPut, tDNewK, tNever, rI0, rI, rU, rEq, rNe, rMulS, rInC, iRng1, iStr, CDiv, CMul, CPow, scal, List.append_nil, List.getElem?_cons_zero, List.getElem?_cons_succ, List.set_cons_zero, List.set_cons_succ, List.map_cons, List.map_nil, List.length_cons, List.length_nil, sizeLine_eq, Nat.reduceAdd, Nat.reduceLeDiff, Option.join_some, Option.join_none, Option.some.injEq, V.int.injEq, V.str.injEq, V.bl.injEq, V.ref.injEq, V.ty.injEq, List.cons.injEq, and_true, true_and, and_self, exists_eq_left', exists_eq_left, exists_and_left, exists_and_right, decide_eq_true_eq, Bool.not_eq_eq_eq_not, Bool.not_true, Bool.not_false, decide_eq_false_iff_not, Int.reduceLT, Int.reduceLE, Int.reduceNeg, Int.reducePow, Int.reduceAdd, Int.reduceSub, Int.reduceMul, Int.reduceToNat, natAbs10, Nat.reduceLT, Nat.reducePow, or_true, true_or, if_true, if_false, Bool.false_eq_true, ite_true, ite_false, reduceCtorEq])
local macro_rules | `(tactic| walk_at "rd3") => `(tactic| simp only [gTup, gCons, gNil, iZip, tIsT, tDisp, tPairs, tBM0, iList, iDict, tThaw, tMaxD, rMaxD, tDGet, rVals, tComp, cxOf_K, nox_K, compCx_K, tSeq, tNext, tAsg, gName, tRet, tRetN, tIfS, tDrop, tOp, tUn, tVar, tC, tCall, tCons, tNil, tTest, tB, tAnd, tOr, tNot, tAndV, tOrV, tNotV, tIf, tCB, tBM, tComp, tTrue, tPart, tNoPart, tSl, tChain, tIsN, tNotN, tLst, tTup, tFor_eq, sDPut, tDNewK, tNever, rI0, rI, rU, rEq, rNe, rMulS, rInC, iRng1, iStr, CDiv, CMul, CPow, scal, List.append_nil, List.getElem?_cons_zero, List.getElem?_cons_succ, List.set_cons_zero, List.set_cons_succ, List.map_cons, List.map_nil, List.length_cons, List.length_nil, sizeLine_eq, Nat.reduceAdd, Nat.reduceLeDiff, Option.join_some, Option.join_none, Option.some.injEq, V.int.injEq, V.str.injEq, V.bl.injEq, V.ref.injEq, V.ty.injEq, List.cons.injEq, and_true, true_and, and_self, exists_eq_left', exists_eq_left, exists_and_left, exists_and_right, decide_eq_true_eq, Bool.not_eq_eq_eq_not, Bool.not_true, Bool.not_false, decide_eq_false_iff_not, Int.reduceLT, Int.reduceLE, Int.reduceNeg, Int.reducePow, Int.reduceAdd, Int.reduceSub, Int.reduceMul, Int.reduceToNat, natAbs10, Nat.reduceLT, Nat.reducePow, or_true, true_or, if_true, if_false, Bool.false_eq_true, ite_true, ite_false, reduceCtorEq])
local macro_rules | `(tactic| walk_at "rd6") => `(tactic| simp only [tFld, sFld, sFldAug, tMeth, tMake, rAdd, gTup, gCons, gNil, iZip, tIsT, tDisp, tPairs, tBM0, iList, iDict, tThaw, tMaxD, rMaxD, tDGet, rVals, tComp, cxOf_K, nox_K, compCx_K, tSeq, tNext, tAsg, gName, tRet, tRetN, tIfS, tDrop, tOp, tUn, tVar, tC, tCall, tCons, tNil, tTest, tB, tAnd, tOr, tNot, tAndV, tOrV, tNotV, tIf, tCB, tBM, tComp, tTrue, tPart, tNoPart, tSl, tChain, tIsN, tNotN, tLst, tTup, tFor_eq, sDPut, tDNewK, tNever, rI0, rI, rU, rEq, rNe, rMulS, rInC, iRng1, iStr, CDiv, CMul, CPow, scal, List.append_nil, List.getElem?_cons_zero, List.getElem?_cons_succ, List.set_cons_zero, List.set_cons_succ, List.map_cons, List.map_nil, List.length_cons, List.length_nil, sizeLine_eq, Nat.reduceAdd, Nat.reduceLeDiff, Option.join_some, Option.join_none, Option.some.injEq, V.int.injEq, V.str.injEq, V.bl.injEq, V.ref.injEq, V.ty.injEq, List.cons.injEq, and_true, true_and, and_self, exists_eq_left', exists_eq_left, exists_and_left, exists_and_right, decide_eq_true_eq, Bool.not_eq_eq_eq_not, Bool.not_true, Bool.not_false, decide_eq_false_iff_not, Int.reduceLT, Int.reduceLE, Int.reduceNeg, Int.reducePow, Int.reduceAdd, Int.reduceSub, Int.reduceMul, Int.reduceToNat, natAbs10, Nat.reduceLT, Nat.reducePow, or_true, true_or, if_true, if_false, Bool.false_eq_true, ite_true, ite_false, reduceCtorEq])
seal L2.PSs L2.PS L2.PE L2.PT L2.PW L2.PA L2.PI L2.PG L2.PGs L2.PPs L2.PTs
abbrev sStr : Stmt := top 32
abbrev sRead : Stmt := top 31
section
variable {P : Program} {w : World} {K : PySem.W.Frag} {mg : Str → Option Value} {base : Heap} {f : Addr} {fd : FuncData} {C : Addr}
theorem scStr : FnScope ["text", "refusal"] ["text"] (defScope sStr) := ⟨rfl, rfl, rfl, by decide +kernel, rfl, by decide +kernel, by decide +kernel⟩
theorem ok_str (F : Fun K "tokens_to_stray" "tokens_to_stray" sStr f fd) (Gtokens : Dn P w K mg base 4 "tokens" ["text"] spToks) : FnOk P w K mg base CX0 5 f fd ["text"] spToks := by
  refine F.ok scStr (fun vs H Q E h => ?_) (fun cdv A outer s H vs Q E hr h => ?_)
  · obtain ⟨r, e, rfl, _⟩ := h
    rfl
  have h0 := h
  obtain ⟨r, e, rfl, _⟩ := h
  have nd := scStr.nd
  refine ⟨_, (pss_one (ps_try0 (fun _ _ h => h) (pss_one (ps_ret (pe_cd Gtokens hr (by omega) rfl (pa_cons (pv 0) pa_nil)))))), ?_⟩
  rw [show start ["text", "refusal"] [.str (tx (lay r ++ List.replicate e 32))] = [some (.str (tx (lay r ++ List.replicate e 32))), none] from rfl]
  walk_at "rd6"
  exact h0
def spRead : Sp := fun vs H Q _ => ∃ (r : List (Nat × Tk)) (e : Nat) (t : T), vs = [.str (tx (lay r ++ List.replicate e 32))] ∧ (∀ y ∈ r, OkTk y.2) ∧ Chn r ∧ r.length ≤ 1000 ∧ (lay r ++ List.replicate e 32).length ≤ 20000 ∧ r.map (·.2) = tks t ∧ OkR t ∧ T.dep t ≤ 8 ∧ T.sz t ≤ 200 ∧
  ∀ v H', Same H H' → Rep (newH H H') v t → Q v H'
theorem scRead : FnScope ["text", "reader", "thing"] ["text"] (defScope sRead) := ⟨rfl, rfl, rfl, by decide +kernel, rfl, by decide +kernel, by decide +kernel⟩
theorem due_at : ∀ (n : Nat) (r : List (Nat × Tk)) (i : Nat) (x : Nat × Tk), r[i]? = some x → ∃ m : Nat, (dueT n r)[i]? = some (tkT x.2 m)
  | n, [], i, x, h => by simp at h
  | n, y :: r, 0, x, h => by
    cases h
    exact ⟨_, rfl⟩
  | n, y :: r, i + 1, x, h => by
    have h' : r[i]? = some x := by simpa using h
    obtain ⟨m, e⟩ := due_at (n + y.1 + (shw y.2).length) r i x h'
    exact ⟨m, by show (tkT y.2 (n + y.1) :: dueT (n + y.1 + (shw y.2).length) r)[i + 1]? = _; simpa using e⟩
theorem due_len : ∀ (n : Nat) (r : List (Nat × Tk)), (dueT n r).length = r.length
  | _, [] => rfl
  | n, y :: r => congrArg (· + 1) (due_len _ r)
theorem tk_of {H : Hp} {xs : List V} {us : List T} {i : Nat} {k s : Str} {m : Int} (h : Reps H xs us) (hl : xs.length = us.length) (hi : us[i]? = some (.tup [.str (ts k), .str (ts s), .int m])) : TkAt H xs i k s := by
  obtain ⟨hlt, _⟩ := List.getElem?_eq_some_iff.mp hi
  have hx : xs[i]? = some xs[i] := by simp [show i < xs.length by omega]
  obtain ⟨t, ht, hr⟩ := h.get hx
  rw [hi] at ht
  cases ht
  obtain ⟨a, ys, e, ha, hy⟩ := hr
  obtain ⟨v1, r1, rfl, h1, hr1⟩ := hy
  obtain ⟨v2, r2, rfl, h2, hr2⟩ := hr1
  obtain ⟨v3, r3, rfl, h3, hr3⟩ := hr2
  have e1 : v1 = .str (tx (ts k)) := h1
  have e2 : v2 = .str (tx (ts s)) := h2
  have e3 : v3 = .int m := h3
  have e4 : r3 = [] := hr3
  subst e1 e2 e3 e4
  rw [tx_ts, tx_ts] at ha
  exact ⟨a, m, by rw [hx, e], ha⟩
theorem ok_read (F : Fun K "read" "read" sRead f fd) (B : Bl mg) (M : Ms mg) (Gtokens_to_stray : Dn P w K mg base 5 "tokens_to_stray" ["text"] spToks) (DReader : Dk P w K mg base 1 "Reader" C ["self", "found"] (spRi C)) (Dthing_here : Dm P w K mg base (4 + 3 * 9) C "thing_here" ["self", "depth", "crowded"] (spTh C 9)) (Dpass_over : Dm P w K mg base 2 C "pass_over" ["self", "kind", "string"] (spPo C)) : FnOk P w K mg base CX0 (4 + 3 * 9 + 1) f fd ["text"] spRead := by
  refine F.ok scRead (fun vs H Q E h => ?_) (fun cdv A outer s H vs Q E hr h => ?_)
  · obtain ⟨r, e, t, rfl, _⟩ := h
    rfl
  obtain ⟨rr, e, t, rfl, hok, hch, hr1, hL, hmap, hokt, hd, hz, q⟩ := h
  have nd := scRead.nd
  refine ⟨_, (pss_cons (ps_if (pt_cmpR op_gt (pe_callB call_len_str rfl B.len bt_len (pa_cons (pv 0) pa_nil)) (pe_gi rfl M.MOST_SIGNS) (nomark _)) pss_never pss_nil)
    (pss_cons (ps_set (i := 1) nd rfl (Or.inl rfl) (pe_mk DReader hr (by omega) rfl (pa_cons (pe_cd Gtokens_to_stray hr (by omega) rfl (pa_cons (pv 0) pa_nil)) pa_nil)))
    (pss_cons (ps_set (i := 2) nd rfl (Or.inl rfl) (pe_cm Dthing_here hr (by omega) (pv 1) (pa_cons pe_int (pa_cons pe_bl pa_nil))))
    (pss_cons (ps_expr (pe_cm Dpass_over hr (by omega) (pv 1) (pa_cons pe_str (pa_cons pe_str pa_nil))))
    (pss_one (ps_ret (pv 2))))))), ?_⟩
  rw [show start ["text", "reader", "thing"] [.str (tx (lay rr ++ List.replicate e 32))] = [some (.str (tx (lay rr ++ List.replicate e 32))), none, none] from rfl]
  walk_at "rd6"
  have hln : (tx (lay rr ++ List.replicate e 32)).length = (lay rr ++ List.replicate e 32).length := tx_len _
  refine ⟨by rw [hln]; omega, iN (by rw [hln]; omega) ⟨rr, e, rfl, hok, hch, hr1, by omega, fun v H1 g1 hv => ?_⟩⟩
  obtain ⟨fl, xs, rfl, hfl, hxs⟩ := hv
  intro r dx hr0 hdx0 hne
  refine ⟨r, dx, fl, rfl, upd_same, rfl, ?_⟩
  have hbig : ∀ b o, H1 b = some o → (upd (upd (upd (upd (upd H1 dx (HO.own r)) r (HO.ins C dx [])) r (.ins C dx [("found", .ref fl)])) r (.ins C dx [("found", .ref fl), ("place", .int 0)])) r (rO C dx fl 0 0)) b = some o := fun b o eb => by
    have n1 : b ≠ r := fun z => by rw [z, hr0] at eb; cases eb
    have n2 : b ≠ dx := fun z => by rw [z, hdx0] at eb; cases eb
    rw [upd_ne n1, upd_ne n1, upd_ne n1, upd_ne n1, upd_ne n2]; exact eb
  have hR2 : (upd (upd (upd (upd (upd H1 dx (HO.own r)) r (HO.ins C dx [])) r (.ins C dx [("found", .ref fl)])) r (.ins C dx [("found", .ref fl), ("place", .int 0)])) r (rO C dx fl 0 0)) r = some (rO C dx fl 0 0) := upd_same
  generalize upd (upd (upd (upd (upd H1 dx (HO.own r)) r (HO.ins C dx [])) r (.ins C dx [("found", .ref fl)])) r (.ins C dx [("found", .ref fl), ("place", .int 0)])) r (rO C dx fl 0 0) = H2 at hbig hR2 ⊢
  have g12 : Same H1 H2 := hbig
  have hxs2 := Reps.same g12 _ _ hxs
  have hxl := hxs.length
  have hll : (tks t).length = rr.length := by rw [← hmap, List.length_map]
  have hka : Tka H2 xs 0 (tks t) := fun i k hk => by
    rw [Nat.zero_add]
    rw [← hmap, List.getElem?_map] at hk
    cases hx : rr[i]? with
    | none => rw [hx] at hk; cases hk
    | some x =>
      rw [hx] at hk
      cases hk
      obtain ⟨m, hm⟩ := due_at 0 rr i x hx
      have hlt := (List.getElem?_eq_some_iff.mp hm).1
      refine tk_of hxs2 hxl (m := m) ?_
      rw [List.getElem?_append_left hlt, hm]
      rfl
  have hend : TkAt H2 xs (0 + (tks t).length) (Str.ofString "end") (Str.ofString "") := by
    rw [Nat.zero_add, hll]
    refine tk_of hxs2 hxl (m := ((lay rr ++ List.replicate e 32).length : Nat)) ?_
    rw [List.getElem?_append_right (by rw [due_len]; exact Nat.le_refl _), due_len, Nat.sub_self]
    rfl
  refine ⟨dx, _, hR2, lk_no (by decide +kernel) (by decide +kernel) (by decide +kernel), r, dx, fl, 0, 0, 0, xs, t, rfl, hR2, g12 _ _ hfl, hka, hokt, by omega, by omega, by omega, fun v H3 hR3 g3 hv => ?_⟩
  refine ⟨dx, _, hR3, lk_no (by decide +kernel) (by decide +kernel) (by decide +kernel), r, dx, fl, _, _, xs, _, _, rfl, hR3, lst_keep hR2 g3 (g12 _ _ hfl), hend.keep hR2 g3, ?_⟩
  have g4 := g3.trans (Rm.put hR3 (rO C dx fl (0 + (tks t).length + 1) (0 + T.sz t)))
  have hr : ∀ b o, H b = some o → b ≠ r := fun b o eb z => by
    have := g1 b o eb
    rw [z, hr0] at this; cases this
  refine q v _ (fun b o eb => g4.same b o (hr b o eb) (g12 _ _ (g1 _ _ eb))) (Rep.same (fun b o eb => ?_) _ _ hv)
  have h2 := newH_old eb
  rw [newH_at h2] at eb
  have h1 : H b = none := none_back (g1.trans g12) h2
  have hbr : b ≠ r := fun z => by rw [z, hR2] at h2; cases h2
  rw [newH_at h1, upd_ne hbr]; exact eb
end
end K28
namespace K28
open PySem L2
local macro_rules | `(tactic| walk_at "rd") => `(tactic| simp only [cxOf_K, nox_K, compCx_K, tSeq, tNext, tAsg, gName, tRet, tRetN, tIfS, tDrop, tOp, tUn, tVar, tC, tCall, tCons, tNil, tTest, tB, tAnd, tOr, tNot, tAndV, tOrV, tNotV, tIf, tCB, tBM, tComp, tTrue, tPart, tNoPart, tSl, tChain, tIsN, tNotN, tLst, tTup, tFor_eq, sDPut, tDNewK, tNever, rI0, rI, rU, rEq, rNe, rMulS, rInC, iRng1, iStr, CDiv, CMul, CPow, scal, List.append_nil, List.getElem?_cons_zero, List.getElem?_cons_succ, List.set_cons_zero, List.set_cons_succ, List.map_cons, List.map_nil, List.length_cons, List.length_nil, sizeLine_eq, Nat.reduceAdd, Nat.reduceLeDiff, Option.join_some, Option.join_none, Option.some.injEq, V.int.injEq, V.str.injEq, V.bl.injEq, V.ref.injEq, V.ty.injEq, List.cons.injEq, and_true, true_and, and_self, exists_eq_left', exists_eq_left, exists_and_left, exists_and_right, decide_eq_true_eq, Bool.not_eq_eq_eq_not, Bool.not_true, Bool.not_false, decide_eq_false_iff_not, Int.reduceLT, Int.reduceLE, Int.reduceNeg, Int.reducePow, Int.reduceAdd, Int.reduceSub, Int.reduceMul, Int.reduceToNat, natAbs10, Nat.reduceLT, Nat.reducePow, or_true, true_or, if_true, if_false, Bool.false_eq_true, ite_true, ite_false, reduceCtorEq])
local macro_rules | `(tactic| walk_at "rd3") => `(tactic| simp only [gTup, gCons, gNil, iZip, tIsT, tDisp, tPairs, tBM0, iList, iDict, tThaw, tMaxD, rMaxD, tDGet, rVals, tComp, cxOf_K, nox_K, compCx_K, tSeq, tNext, tAsg, gName, tRet, tRetN, tIfS, tDrop, tOp, tUn, tVar, tC, tCall, tCons, tNil, tTest, tB, tAnd, tOr, tNot, tAndV, tOrV, tNotV, tIf, tCB, tBM, tComp, tTrue, tPart, tNoPart, tSl, tChain, tIsN, tNotN, tLst, tTup, tFor_eq, sDPut, tDNewK, tNever, rI0, rI, rU, rEq, rNe, rMulS, rInC, iRng1, iStr, CDiv, CMul, CPow, scal, List.append_nil, List.getElem?_cons_zero, List.getElem?_cons_succ, List.set_cons_zero, List.set_cons_succ, List.map_cons, List.map_nil, List.length_cons, List.length_nil, sizeLine_eq, Nat.reduceAdd, Nat.reduceLeDiff, Option.join_some, Option.join_none, Option.some.injEq, V.int.injEq, V.str.injEq, V.bl.injEq, V.ref.injEq, V.ty.injEq, List.cons.injEq, and_true, true_and, and_self, exists_eq_left', exists_eq_left, exists_and_left, exists_and_right, decide_eq_true_eq, Bool.not_eq_eq_eq_not, Bool.not_true, Bool.not_false, decide_eq_false_iff_not, Int.reduceLT, Int.reduceLE, Int.reduceNeg, Int.reducePow, Int.reduceAdd, Int.reduceSub, Int.reduceMul, Int.reduceToNat, natAbs10, Nat.reduceLT, Nat.reducePow, or_true, true_or, if_true, if_false, Bool.false_eq_true, ite_true, ite_false, reduceCtorEq])
local macro_rules | `(tactic| walk_at "rd6") => `(tactic| simp only [tFld, sFld, sFldAug, tMeth, tMake, rAdd, gTup, gCons, gNil, iZip, tIsT, tDisp, tPairs, tBM0, iList, iDict, tThaw, tMaxD, rMaxD, tDGet, rVals, tComp, cxOf_K, nox_K, compCx_K, tSeq, tNext, tAsg, gName, tRet, tRetN, tIfS, tDrop, tOp, tUn, tVar, tC, tCall, tCons, tNil, tTest, tB, tAnd, tOr, tNot, tAndV, tOrV, tNotV, tIf, tCB, tBM, tComp, tTrue, tPart, tNoPart, tSl, tChain, tIsN, tNotN, tLst, tTup, tFor_eq, sDPut, tDNewK, tNever, rI0, rI, rU, rEq, rNe, rMulS, rInC, iRng1, iStr, CDiv, CMul, CPow, scal, List.append_nil, List.getElem?_cons_zero, List.getElem?_cons_succ, List.set_cons_zero, List.set_cons_succ, List.map_cons, List.map_nil, List.length_cons, List.length_nil, sizeLine_eq, Nat.reduceAdd, Nat.reduceLeDiff, Option.join_some, Option.join_none, Option.some.injEq, V.int.injEq, V.str.injEq, V.bl.injEq, V.ref.injEq, V.ty.injEq, List.cons.injEq, and_true, true_and, and_self, exists_eq_left', exists_eq_left, exists_and_left, exists_and_right, decide_eq_true_eq, Bool.not_eq_eq_eq_not, Bool.not_true, Bool.not_false, decide_eq_false_iff_not, Int.reduceLT, Int.reduceLE, Int.reduceNeg, Int.reducePow, Int.reduceAdd, Int.reduceSub, Int.reduceMul, Int.reduceToNat, natAbs10, Nat.reduceLT, Nat.reducePow, or_true, true_or, if_true, if_false, Bool.false_eq_true, ite_true, ite_false, reduceCtorEq])
seal L2.PSs L2.PS L2.PE L2.PT L2.PW L2.PA L2.PI L2.PG L2.PGs L2.PPs L2.PTs
abbrev sRof : Stmt := top 48
def rotN (turn : Int) (ks : List (List Nat)) : List (List Nat) :=
  if turn / 30 % 2 = 1 then ((sortK ks).drop (turn % max 1 (ks.length : Int)).toNat ++ (sortK ks).take (turn % max 1 (ks.length : Int)).toNat).reverse else (sortK ks).drop (turn % max 1 (ks.length : Int)).toNat ++ (sortK ks).take (turn % max 1 (ks.length : Int)).toNat
mutual
def ordT (turn : Int) : T → T
  | .lst us => .lst (ordTs turn us)
  | .dic ks us => .dic (rotN turn ks) ((rotN turn ks).map fun k => lookT k ks (ordTs turn us))
  | .tup us => .tup us
  | .non => .non
  | .bl b => .bl b
  | .int i => .int i
  | .str x => .str x
def ordTs (turn : Int) : List T → List T
  | [] => []
  | t :: ts => ordT turn t :: ordTs turn ts
end
theorem ordTs_map (turn : Int) : ∀ ts : List T, ordTs turn ts = ts.map (ordT turn)
  | [] => rfl
  | t :: ts => by rw [List.map_cons, ← ordTs_map turn ts]; rfl
theorem look_ord (turn : Int) (k : List Nat) : ∀ (ks : List (List Nat)) (us : List T), lookT k ks (ordTs turn us) = ordT turn (lookT k ks us)
  | [], _ => by cases ‹List T› <;> rfl
  | _ :: _, [] => rfl
  | k' :: ks, t :: ts => by
    show (if k' = k then ordT turn t else lookT k ks (ordTs turn ts)) = ordT turn (if k' = k then t else lookT k ks ts)
    split
    · rfl
    · exact look_ord turn k ks ts
theorem rotN_perm (turn : Int) (ks : List (List Nat)) : (rotN turn ks).Perm ks := by
  unfold rotN
  have h : ((sortK ks).drop (turn % max 1 (ks.length : Int)).toNat ++ (sortK ks).take (turn % max 1 (ks.length : Int)).toNat).Perm ks := by
    refine (List.perm_append_comm).trans ?_
    rw [List.take_append_drop]
    exact sortK_perm ks
  split
  · exact (List.reverse_perm _).trans h
  · exact h
theorem tksL_snoc : ∀ (b : Bool) (us : List T) (t : T), tksL b (us ++ [t]) = tksL b us ++ ((if (b && us.isEmpty) then [] else [(3, [44])]) ++ tks t)
  | b, [], t => by
    show (if b then [] else [(3, [44])]) ++ (tks t ++ []) = [] ++ _
    rw [List.append_nil, List.nil_append]
    cases b <;> rfl
  | b, u :: us, t => by
    show (if b then [] else [(3, [44])]) ++ (tks u ++ tksL false (us ++ [t])) = _
    rw [tksL_snoc false us t]
    show _ = (if b then [] else [(3, [44])]) ++ (tks u ++ tksL false us) ++ _
    simp [List.append_assoc]
theorem tksD_snoc : ∀ (b : Bool) (ks : List (List Nat)) (us : List T) (k : List Nat) (t : T), ks.length = us.length → tksD b (ks ++ [k]) (us ++ [t]) = tksD b ks us ++ ((if (b && us.isEmpty) then [] else [(3, [44])]) ++ ((1, k) :: (3, [58]) :: tks t))
  | b, [], [], k, t, _ => by
    show tksD b [k] [t] = tksD b [] [] ++ _
    rw [tksD, tksD, tksD]
    simp
  | b, [], u :: us, k, t, h => by cases h
  | b, k' :: ks, [], k, t, h => by cases h
  | b, k' :: ks, u :: us, k, t, h => by
    have h' : ks.length = us.length := by simpa using h
    show tksD b (k' :: (ks ++ [k])) (u :: (us ++ [t])) = _
    rw [tksD]
    show (if b then [] else [(3, [44])]) ++ ((1, k') :: (3, [58]) :: (tks u ++ tksD false (ks ++ [k]) (us ++ [t]))) = _
    rw [tksD_snoc false ks us k t h']
    rw [show tksD b (k' :: ks) (u :: us) = (if b then [] else [(3, [44])]) ++ ((1, k') :: (3, [58]) :: (tks u ++ tksD false ks us)) from by rw [tksD]; rfl]
    simp [List.append_assoc]
def Tks (H : Hp) (xs : List V) (tks : List Tk) : Prop := xs.length = tks.length ∧ ∀ (i : Nat) (t : Tk), tks[i]? = some t → ∃ a : Addr, xs[i]? = some (.ref a) ∧ H a = some (.tup [.str (kS t.1), .str (tx t.2)])
theorem Tks.same {H H' : Hp} {xs : List V} {l : List Tk} (g : Same H H') (h : Tks H xs l) : Tks H' xs l := ⟨h.1, fun i t e => by
  obtain ⟨a, h1, h2⟩ := h.2 i t e
  exact ⟨a, h1, g _ _ h2⟩⟩
theorem Tks.nil {H : Hp} : Tks H [] [] := ⟨rfl, fun i t e => by simp at e⟩
theorem Tks.one {H : Hp} {a : Addr} {t : Tk} (h : H a = some (.tup [.str (kS t.1), .str (tx t.2)])) : Tks H [.ref a] [t] := ⟨rfl, fun i u e => by
  match i, e with
  | 0, e => cases e; exact ⟨a, rfl, h⟩
  | i + 1, e => simp at e⟩
theorem Tks.app {H : Hp} {xs ys : List V} {l m : List Tk} (h : Tks H xs l) (h' : Tks H ys m) : Tks H (xs ++ ys) (l ++ m) := ⟨by rw [List.length_append, List.length_append, h.1, h'.1], fun i t e => by
  by_cases hlt : i < l.length
  · rw [List.getElem?_append_left hlt] at e
    obtain ⟨a, h1, h2⟩ := h.2 i t e
    exact ⟨a, by rw [List.getElem?_append_left (by rw [h.1]; exact hlt)]; exact h1, h2⟩
  · rw [List.getElem?_append_right (by omega)] at e
    obtain ⟨a, h1, h2⟩ := h'.2 _ t e
    exact ⟨a, by rw [List.getElem?_append_right (by rw [h.1]; omega), h.1]; exact h1, h2⟩⟩
theorem tks_pos {t : T} (h : OkR t) (turn : Int) : 0 < (tks (ordT turn t)).length := by
  cases t with
  | tup us => exact h.elim
  | _ => exact Nat.succ_pos _
theorem szs_perm {a b : List T} (h : a.Perm b) : T.szs a = T.szs b := by
  induction h with
  | nil => rfl
  | cons x _ ih => show T.sz x + _ = T.sz x + _; rw [ih]
  | swap x y l => show T.sz y + (T.sz x + _) = T.sz x + (T.sz y + _); omega
  | trans _ _ h1 h2 => exact h1.trans h2
theorem szs_look : ∀ {ks : List (List Nat)} {us : List T}, ks.Nodup → ks.length = us.length → T.szs (ks.map fun k => lookT k ks us) = T.szs us
  | [], [], _, _ => rfl
  | [], _ :: _, _, h => by simp at h
  | _ :: _, [], _, h => by simp at h
  | k :: ks, u :: us, nd, hl => by
    rw [List.nodup_cons] at nd
    rw [List.map_cons]
    show T.sz (if k = k then u else _) + T.szs _ = T.sz u + T.szs us
    have e : (ks.map fun k' => lookT k' (k :: ks) (u :: us)) = ks.map fun k' => lookT k' ks us := List.map_congr_left fun k' hk' => by
      show (if k = k' then u else lookT k' ks us) = _
      rw [if_neg fun (e : k = k') => nd.1 (e ▸ hk')]
    rw [if_pos rfl, e, szs_look nd.2 (by simpa using hl)]
mutual
theorem tks_len : ∀ t : T, (tks t).length + 3 ≤ 5 * T.sz t
  | .non => by show 1 + 3 ≤ 5 * 1; omega
  | .bl _ => by show 1 + 3 ≤ 5 * 1; omega
  | .int _ => by show 1 + 3 ≤ 5 * 1; omega
  | .str _ => by show 1 + 3 ≤ 5 * 1; omega
  | .lst us => by
    have := tksL_len true us
    show (tksL true us ++ [(3, [93])]).length + 1 + 3 ≤ 5 * (T.szs us + 1)
    rw [List.length_append]
    show (tksL true us).length + 1 + 1 + 3 ≤ _
    omega
  | .dic ks us => by
    have := tksD_len true ks us
    show (tksD true ks us ++ [(3, [125])]).length + 1 + 3 ≤ 5 * (T.szs us + 1)
    rw [List.length_append]
    show (tksD true ks us).length + 1 + 1 + 3 ≤ _
    omega
  | .tup us => by
    show 0 + 3 ≤ 5 * (T.szs us + 1)
    omega
theorem tksL_len : ∀ (b : Bool) (us : List T), (tksL b us).length ≤ 5 * T.szs us
  | _, [] => Nat.zero_le _
  | b, t :: ts => by
    have h1 := tks_len t
    have h2 := tksL_len false ts
    show ((if b then [] else [(3, [44])]) ++ (tks t ++ tksL false ts)).length ≤ 5 * (T.sz t + T.szs ts)
    rw [List.length_append, List.length_append]
    have : (if b then ([] : List Tk) else [(3, [44])]).length ≤ 1 := by cases b <;> decide
    omega
theorem tksD_len : ∀ (b : Bool) (ks : List (List Nat)) (us : List T), (tksD b ks us).length ≤ 5 * T.szs us
  | b, ks, [] => by rw [tksD]; exact Nat.zero_le _
  | b, ks, t :: ts => by
    have h1 := tks_len t
    have h2 := tksD_len false ks.tail ts
    rw [tksD]
    show ((if b then [] else [(3, [44])]) ++ ((1, ks.headD []) :: (3, [58]) :: (tks t ++ tksD false ks.tail ts))).length ≤ 5 * (T.sz t + T.szs ts)
    rw [List.length_append, List.length_cons, List.length_cons, List.length_append]
    have : (if b then ([] : List Tk) else [(3, [44])]).length ≤ 1 := by cases b <;> decide
    omega
end
mutual
theorem ord_sz (turn : Int) : ∀ t : T, OkR t → T.sz (ordT turn t) = T.sz t
  | .non, _ => rfl
  | .bl _, _ => rfl
  | .int _, _ => rfl
  | .str _, _ => rfl
  | .lst us, h => congrArg (· + 1) (ords_sz turn us h.2)
  | .dic ks us, h => by
    obtain ⟨nk, hle, _, _, hok⟩ := h
    have e := ords_sz turn us hok
    have hl : ks.length = (ordTs turn us).length := by rw [ordTs_map, List.length_map]; exact hle
    show T.szs ((rotN turn ks).map fun k => lookT k ks (ordTs turn us)) + 1 = T.szs us + 1
    rw [szs_perm ((rotN_perm turn ks).map fun k => lookT k ks (ordTs turn us)), szs_look nk hl, e]
  | .tup _, h => h.elim
theorem ords_sz (turn : Int) : ∀ ts : List T, OkRs ts → T.szs (ordTs turn ts) = T.szs ts
  | [], _ => rfl
  | t :: ts, h => by
    show T.sz (ordT turn t) + T.szs (ordTs turn ts) = T.sz t + T.szs ts
    rw [ord_sz turn t h.1, ords_sz turn ts h.2]
end
theorem OkRs.take {ts : List T} (h : OkRs ts) (i : Nat) : OkRs (ts.take i) := by
  induction ts generalizing i with
  | nil => rw [List.take_nil]; exact h
  | cons t ts ih =>
    cases i with
    | zero => exact True.intro
    | succ i => exact ⟨h.1, ih h.2 i⟩
theorem logs_ok {b : Int} (h1 : -(10 ^ 12) ≤ b) (h2 : b ≤ 10 ^ 12) : b.natAbs.log2 < 1920 := by
  by_cases h : b.natAbs = 0
  · rw [h]; decide
  · refine (Nat.log2_lt h).mpr (Nat.lt_of_le_of_lt (show b.natAbs ≤ 10 ^ 12 by omega) (Nat.lt_of_lt_of_le (show 10 ^ 12 < 2 ^ 40 by decide) (Nat.pow_le_pow_right (by decide) (by decide))))
theorem of_nat (n : Nat) : Str.ofString (toString ((n : Nat) : Int)) = tx (digN n) := by
  rw [← tx_ts (Str.ofString (toString ((n : Nat) : Int)))]
  congr 1
  exact PySem.W.KIN.signs_num n
theorem comma {K : PySem.W.Frag} {H2 : Hp} {p2 : Addr} {rs : List V} {l : List Tk} {Q' : VK} (hp2 : H2 p2 = some (.lst rs)) (hk : Tks H2 rs l) (hl : l.length ≤ 100000) (q : ∀ p5 rs5 H5, Same H2 H5 → H5 p5 = some (.lst rs5) → Tks H5 rs5 (l ++ (if 1 < l.length then [(3, [44])] else [])) → Q' (V.ref p5) H5) :
    ∀ p, H2 p = none → ∀ p_1, upd H2 p (HO.tup [V.str (Str.ofString "mark"), V.str (Str.ofString ",")]) p_1 = none → ∃ ys, SqL K (upd (upd H2 p (HO.tup [V.str (Str.ofString "mark"), V.str (Str.ofString ",")])) p_1 (HO.lst [V.ref p])) p2 ys ∧
      rRep (V.ref p_1) (V.int (if 1 < (ys.length : Int) then 1 else 0)) (upd (upd H2 p (HO.tup [V.str (Str.ofString "mark"), V.str (Str.ofString ",")])) p_1 (HO.lst [V.ref p])) fun y H2 => rCat (V.ref p2) y H2 Q' := by
  intro p hp p1 hp1
  have g1 := (same_new hp (.tup [V.str (Str.ofString "mark"), V.str (Str.ofString ",")])).trans (same_new hp1 (.lst [V.ref p]))
  have hc1 : upd (upd H2 p (.tup [V.str (Str.ofString "mark"), V.str (Str.ofString ",")])) p1 (.lst [V.ref p]) p = some (.tup [.str (kS 3), .str (tx [44])]) := by
    rw [show tx [44] = Str.ofString "," by decide +kernel]
    exact same_new hp1 _ _ _ upd_same
  have hp1' : upd (upd H2 p (.tup [V.str (Str.ofString "mark"), V.str (Str.ofString ",")])) p1 (.lst [V.ref p]) p1 = some (.lst [V.ref p]) := upd_same
  generalize upd (upd H2 p (.tup [V.str (Str.ofString "mark"), V.str (Str.ofString ",")])) p1 (.lst [V.ref p]) = H1 at g1 hc1 hp1' ⊢
  refine ⟨rs, SqL.of (g1 _ _ hp2), ?_⟩
  rw [hk.1]
  by_cases h1 : 1 < l.length
  · rw [if_pos (by omega)]
    rw [if_pos h1] at q
    refine ⟨p1, 1, [V.ref p], rfl, rfl, hp1', by decide, by decide, by rw [sizeLine_eq]; exact Nat.le_of_ble_eq_true rfl, fun p3 hp3 => ?_⟩
    have e3 : (List.replicate (Int.toNat 1) [V.ref p]).flatten = [V.ref p] := rfl
    rw [e3]
    have g3 := same_new hp3 (.lst [V.ref p])
    refine ⟨p2, p3, rs, [V.ref p], rfl, rfl, g3 _ _ (g1 _ _ hp2), upd_same, by rw [sizeLine_eq, hk.1]; show l.length + 1 ≤ _; omega, fun p4 hp4 => ?_⟩
    have g4 := same_new hp4 (.lst (rs ++ [V.ref p]))
    exact q p4 _ _ (g1.trans (g3.trans g4)) upd_same ((hk.same (g1.trans (g3.trans g4))).app (Tks.one (t := (3, [44])) ((g3.trans g4) _ _ hc1)))
  · rw [if_neg (by omega)]
    rw [if_neg h1] at q
    refine ⟨p1, 0, [V.ref p], rfl, rfl, hp1', by decide, by decide, by rw [sizeLine_eq]; exact Nat.le_of_ble_eq_true rfl, fun p3 hp3 => ?_⟩
    have e3 : (List.replicate (Int.toNat 0) [V.ref p]).flatten = [] := rfl
    rw [e3]
    have g3 := same_new hp3 (.lst [])
    refine ⟨p2, p3, rs, [], rfl, rfl, g3 _ _ (g1 _ _ hp2), upd_same, by rw [sizeLine_eq, hk.1]; show l.length + 0 ≤ _; omega, fun p4 hp4 => ?_⟩
    have g4 := same_new hp4 (.lst (rs ++ []))
    exact q p4 _ _ (g1.trans (g3.trans g4)) upd_same ((hk.same (g1.trans (g3.trans g4))).app Tks.nil)
theorem tksL_pos {ws : List T} (h : ∀ w ∈ ws, 0 < (tks w).length) (hn : ws ≠ []) : 0 < (tksL true ws).length := by
  cases ws with
  | nil => exact absurd rfl hn
  | cons t ts =>
    have := h t List.mem_cons_self
    show 0 < ([] ++ (tks t ++ tksL false ts)).length
    rw [List.nil_append, List.length_append]; omega
theorem tksD_pos {ks : List (List Nat)} {ws : List T} (hn : ws ≠ []) : 0 < (tksD true ks ws).length := by
  cases ws with
  | nil => exact absurd rfl hn
  | cons t ts =>
    rw [tksD]
    show 0 < ([] ++ ((1, ks.headD []) :: (3, [58]) :: (tks t ++ tksD false ks.tail ts))).length
    exact Nat.succ_pos _
theorem comma_is {α : Type} {l : List Tk} {ws : List α} {z : Tk} (h0 : ws = [] → l = []) (h1 : ws ≠ [] → 0 < l.length) : (if 1 < (z :: l).length then [((3, [44]) : Tk)] else []) = if (true && ws.isEmpty) then [] else [(3, [44])] := by
  cases ws with
  | nil => rw [h0 rfl]; rfl
  | cons w ws =>
    have := h1 (fun z => by cases z)
    rw [if_pos (by rw [List.length_cons]; omega)]; rfl
theorem ordTs_take {turn : Int} {us : List T} {i : Nat} {t : T} (h : us[i]? = some t) : ordTs turn (us.take (i + 1)) = ordTs turn (us.take i) ++ [ordT turn t] := by
  rw [ordTs_map, ordTs_map, take_succ_of h, List.map_append]; rfl
section
variable {P : Program} {w : World} {K : PySem.W.Frag} {mg : Str → Option Value} {base : Heap} {f : Addr} {fd : FuncData}
def spRof (n : Nat) : Sp := fun vs H Q _ => ∃ (v : V) (t : T) (turn : Int), vs = [v, .int turn] ∧ Rep H v t ∧ OkR t ∧ T.dep t < n ∧ 0 ≤ turn ∧ turn < 1000003 ∧ T.sz t ≤ 200 ∧ ∀ p xs H', Same H H' → H' p = some (.lst xs) → Tks H' xs (tks (ordT turn t)) → Q (.ref p) H'
theorem scRof : FnScope ["_law_thing", "_law_turn", "_law_row", "_law_one", "_law_names", "_law_name"] ["_law_thing", "_law_turn"] (defScope sRof) := ⟨rfl, rfl, rfl, by decide +kernel, rfl, by decide +kernel, by decide +kernel⟩
theorem ok_rofS {n : Nat} (F : Fun K "_law_row_of" "_law_row_of" sRof f fd) (B : Bl5 mg) (G_law_row_of : Dn P w K mg base (1 + n) "_law_row_of" ["_law_thing", "_law_turn"] (spRof n)) : FnOk P w K mg base CX0 (1 + n + 1) f fd ["_law_thing", "_law_turn"] (spRof (n + 1)) := by
  refine F.ok scRof (fun vs H Q E h => ?_) (fun cdv A outer s H vs Q E hr h => ?_)
  · obtain ⟨v, t, turn, rfl, _⟩ := h
    rfl
  obtain ⟨v, t, turn, rfl, hv, hok, hd, ht0, ht1, hz, q⟩ := h
  have nd := scRof.nd
  have hu := hu_of hr
  have hu0 := hr.units0
  refine ⟨_, (pss_cons (ps_if (pt_val (pe_callB (call_isi (T := "list") (by decide)) rfl B.isinstance bt_isinstance (pa_cons (pv 0) (pa_cons (pe_bltn (v := .ty "list") rfl B.list bt_list rfl) pa_nil)))) (pss_cons (ps_set (i := 2) nd rfl (Or.inl rfl) (pe_lst (pa_cons (pe_tup (pa_cons pe_str (pa_cons pe_str pa_nil))) pa_nil)))
    (pss_cons (ps_for PassesOwn.never rfl (pi_list (pv 0)) (pg_name (i := 3) nd rfl (Or.inl rfl)) (pss_one (ps_set (i := 2) nd rfl (Or.inl rfl) (pe_op op_cat (pe_op op_cat (pv 2) (pe_op op_rep (pe_lst (pa_cons (pe_tup (pa_cons pe_str (pa_cons pe_str pa_nil))) pa_nil)) (pe_callTy call_intB rfl B.int bt_int (pa_cons (pe_cmpR op_gt (pe_callB call_len_l rfl B.len bt_len (pa_cons (pv 2) pa_nil)) pe_int (nomark _)) pa_nil)))) (pe_cd G_law_row_of hr (by omega) rfl (pa_cons (pv 3) (pa_cons (pv 1) pa_nil)))))))
    (pss_one (ps_ret (pe_op op_cat (pv 2) (pe_lst (pa_cons (pe_tup (pa_cons pe_str (pa_cons pe_str pa_nil))) pa_nil))))))) pss_nil)
    (pss_cons (ps_if (pt_val (pe_callB (call_isi (T := "dict") (by decide)) rfl B.isinstance bt_isinstance (pa_cons (pv 0) (pa_cons (pe_bltn (v := .ty "dict") rfl B.dict bt_dict rfl) pa_nil)))) (pss_cons (ps_set (i := 2) nd rfl (Or.inl rfl) (pe_lst (pa_cons (pe_tup (pa_cons pe_str (pa_cons pe_str pa_nil))) pa_nil)))
    (pss_cons (ps_set (i := 4) nd rfl (Or.inl rfl) (pe_callB (call_sorted_d rfl) rfl B.sorted bt_sorted (pa_cons (pv 0) pa_nil)))
    (pss_cons (ps_set (i := 4) nd rfl (Or.inl rfl) (pe_op op_cat (pe_slice sl_list (pv 4) (po_some (pe_op op_mod (pv 1) (pe_callB (call_max2 rfl) rfl B.max bt_max (pa_cons pe_int (pa_cons (pe_callB call_len_l rfl B.len bt_len (pa_cons (pv 4) pa_nil)) pa_nil))))) po_none) (pe_slice sl_list (pv 4) po_none (po_some (pe_op op_mod (pv 1) (pe_callB (call_max2 rfl) rfl B.max bt_max (pa_cons pe_int (pa_cons (pe_callB call_len_l rfl B.len bt_len (pa_cons (pv 4) pa_nil)) pa_nil))))))))
    (pss_cons (ps_for PassesOwn.never rfl (pi_list (pe_stp (pv 4) (po_some (pe_ix ix_list (pe_lst (pa_cons pe_int (pa_cons (pe_un un_neg pe_int) pa_nil))) (pe_op op_mod (pe_op op_fdiv (pv 1) pe_int) pe_int) (fun _ _ => rfl))))) (pg_name (i := 5) nd rfl (Or.inl rfl)) (pss_cons (ps_set (i := 2) nd rfl (Or.inl rfl) (pe_op op_cat (pe_op op_cat (pv 2) (pe_op op_rep (pe_lst (pa_cons (pe_tup (pa_cons pe_str (pa_cons pe_str pa_nil))) pa_nil)) (pe_callTy call_intB rfl B.int bt_int (pa_cons (pe_cmpR op_gt (pe_callB call_len_l rfl B.len bt_len (pa_cons (pv 2) pa_nil)) pe_int (nomark _)) pa_nil)))) (pe_lst (pa_cons (pe_tup (pa_cons pe_str (pa_cons (pv 5) pa_nil))) (pa_cons (pe_tup (pa_cons pe_str (pa_cons pe_str pa_nil))) pa_nil)))))
    (pss_one (ps_set (i := 2) nd rfl (Or.inl rfl) (pe_op op_cat (pv 2) (pe_cd G_law_row_of hr (by omega) rfl (pa_cons (pe_dget hu (pv 0) (pv 5) (fun _ _ => rfl)) (pa_cons (pv 1) pa_nil))))))))
    (pss_one (ps_ret (pe_op op_cat (pv 2) (pe_lst (pa_cons (pe_tup (pa_cons pe_str (pa_cons pe_str pa_nil))) pa_nil))))))))) pss_nil)
    (pss_cons (ps_if (PW.pt (pw_or (pt_cmp (pc_isN (pv 0))) (pw_or1 (pt_val (pe_callB (call_isi (T := "bool") (by decide)) rfl B.isinstance bt_isinstance (pa_cons (pv 0) (pa_cons (pe_bltn (v := .ty "bool") rfl B.bool bt_bool rfl) pa_nil))))))) (pss_one (ps_ret (pe_lst (pa_cons (pe_tup (pa_cons pe_str (pa_cons (pe_ix ix_list (pe_lst (pa_cons pe_str (pa_cons pe_str (pa_cons pe_str pa_nil)))) (pe_ifExp (pt_cmp (pc_isN (pv 0))) pe_int (pe_callTy call_int1 rfl B.int bt_int (pa_cons (pv 0) pa_nil))) (fun _ _ => rfl)) pa_nil))) pa_nil)))) pss_nil)
    (pss_cons (ps_if (pt_val (pe_callB (call_isi (T := "int") (by decide)) rfl B.isinstance bt_isinstance (pa_cons (pv 0) (pa_cons (pe_bltn (v := .ty "int") rfl B.int bt_int rfl) pa_nil)))) (pss_one (ps_ret (pe_lst (pa_cons (pe_tup (pa_cons pe_str (pa_cons (pe_op op_add_str (pe_op op_mul_str pe_str (pe_callTy call_intB rfl B.int bt_int (pa_cons (pe_cmpR op_lt (pv 0) pe_int (nomark _)) pa_nil))) (pe_callTy call_str_int rfl B.str bt_str (pa_cons (pe_callB call_abs rfl B.abs bt_abs (pa_cons (pv 0) pa_nil)) pa_nil))) pa_nil))) pa_nil)))) pss_nil)
    (pss_one (ps_ret (pe_lst (pa_cons (pe_tup (pa_cons pe_str (pa_cons (pv 0) pa_nil))) pa_nil)))))))), ?_⟩
  rw [show start ["_law_thing", "_law_turn", "_law_row", "_law_one", "_law_names", "_law_name"] [v, .int turn] = [some v, some (.int turn), none, none, none, none] from rfl]
  walk_at "rd6"
  have lf : ∀ (Hx : Hp) (tk : Tk) (k s : Str), Same H Hx → k = kS tk.1 → s = tx tk.2 → tks (ordT turn t) = [tk] → ∀ p, Hx p = none → ∀ p1, upd Hx p (.tup [.str k, .str s]) p1 = none → Q (.ref p1) (upd (upd Hx p (.tup [.str k, .str s])) p1 (.lst [.ref p])) := by
    intro Hx tk k s gx ek es et p hp p1 hp1
    refine q p1 _ _ (gx.trans ((same_new hp _).trans (same_new hp1 _))) upd_same ?_
    rw [et]
    refine Tks.one (same_new hp1 _ _ _ ?_)
    rw [← ek, ← es]; exact upd_same
  cases t with
  | lst us =>
    obtain ⟨a, xs, rfl, ha, hs⟩ := hv
    have hxl := hs.length
    have hz' : T.szs us + 1 ≤ 200 := hz
    have hd' : T.deps us + 1 < n + 1 := hd
    have hul := len_szs us
    refine ⟨"list", tyS_lst ha, iP (by decide) fun p hp p1 hp1 => ?_⟩
    have g1 := (same_new hp (.tup [V.str (Str.ofString "mark"), V.str (Str.ofString "[")])).trans (same_new hp1 (.lst [V.ref p]))
    have hk1 : Tks (upd (upd H p (.tup [V.str (Str.ofString "mark"), V.str (Str.ofString "[")])) p1 (.lst [V.ref p])) [V.ref p] [(3, [91])] := Tks.one (t := (3, [91])) (same_new hp1 _ _ _ upd_same)
    have hp1' : upd (upd H p (.tup [V.str (Str.ofString "mark"), V.str (Str.ofString "[")])) p1 (.lst [V.ref p]) p1 = some (.lst [V.ref p]) := upd_same
    generalize upd (upd H p (.tup [V.str (Str.ofString "mark"), V.str (Str.ofString "[")])) p1 (.lst [V.ref p]) = H1 at g1 hk1 hp1' ⊢
    refine ⟨a, rfl, ⟨_, SqL.of (g1 _ _ ha)⟩, ?_⟩
    refine forB_list (K := K) (a := a) (xs := xs) (fun i σ H2 => (∃ p2 rs o3, σ = [some (V.ref a), some (V.int turn), some (V.ref p2), o3, none, none] ∧ H2 p2 = some (.lst rs) ∧ Tks H2 rs ((3, [91]) :: tksL true (ordTs turn (us.take i)))) ∧ Same H H2) ⟨⟨p1, _, _, rfl, hp1', hk1⟩, g1⟩ (fun i σ H2 _ h => SqL.of (h.2 _ _ ha)) ?_ ?_
    · rintro i x σ H2 hx ⟨⟨p2, rs, o3, rfl, hp2, hk2⟩, g2⟩
      obtain ⟨t, htm, hrt⟩ := hs.get hx
      have hm := List.mem_of_getElem? htm
      have hokt := hok.2.mem hm
      have hdt := T.deps_le hm
      have hzt := T.szs_le hm
      have hlen : ((3, [91]) :: tksL true (ordTs turn (us.take i))).length ≤ 100000 := by
        have h1 := tksL_len true (ordTs turn (us.take i))
        rw [ords_sz turn _ (hok.2.take i)] at h1
        have h2 : T.szs (us.take i) ≤ T.szs us := by
          conv => rhs; rw [← List.take_append_drop i us]
          rw [szs_append]; omega
        rw [List.length_cons]; omega
      walk_at "rd6"
      refine comma hp2 hk2 hlen fun p5 rs5 H5 g5 hp5 hk5 => ?_
      refine ⟨x, t, turn, rfl, Rep.same (g2.trans g5) _ _ hrt, hokt, by omega, ht0, ht1, by omega, fun p6 rs6 H6 g6 hp6 hk6 => ?_⟩
      have h6 := tks_len (ordT turn t)
      rw [ord_sz turn t hokt] at h6
      have hr5 : rs5.length ≤ 100001 := by
        rw [hk5.1, List.length_append]
        have : (if 1 < ((3, [91]) :: tksL true (ordTs turn (us.take i))).length then [((3, [44]) : Tk)] else []).length ≤ 1 := by split <;> simp
        omega
      refine ⟨p5, p6, rs5, rs6, rfl, rfl, g6 _ _ hp5, hp6, by rw [sizeLine_eq, hk6.1]; omega, fun p7 hp7 => ?_⟩
      have g7 := same_new hp7 (.lst (rs5 ++ rs6))
      refine ⟨⟨p7, ⟨rfl, _, rfl⟩, _, upd_same, ?_⟩, g2.trans (g5.trans (g6.trans g7))⟩
      have z := (hk5.same (g6.trans g7)).app (hk6.same g7)
      rw [comma_is (ws := ordTs turn (us.take i)) (fun e => by rw [e]; rfl) (fun e => tksL_pos (fun w hw => by
        rw [ordTs_map] at hw
        obtain ⟨u, hu', rfl⟩ := List.mem_map.mp hw
        exact tks_pos (hok.2.mem (List.mem_of_mem_take hu')) turn) e)] at z
      rw [ordTs_take htm, tksL_snoc]
      simpa [List.append_assoc] using z
    · rintro σ H2 ⟨⟨p2, rs, o3, rfl, hp2, hk2⟩, g2⟩
      walk_at "rd6"
      intro p3 hp3 p4 hp4
      have g4 := (same_new hp3 (.tup [V.str (Str.ofString "mark"), V.str (Str.ofString "]")])).trans (same_new hp4 (.lst [V.ref p3]))
      have hc3 : upd (upd H2 p3 (.tup [V.str (Str.ofString "mark"), V.str (Str.ofString "]")])) p4 (.lst [V.ref p3]) p3 = some (.tup [.str (kS 3), .str (tx [93])]) := by
        rw [show tx [93] = Str.ofString "]" by decide +kernel]
        exact same_new hp4 _ _ _ upd_same
      have hp4' : upd (upd H2 p3 (.tup [V.str (Str.ofString "mark"), V.str (Str.ofString "]")])) p4 (.lst [V.ref p3]) p4 = some (.lst [V.ref p3]) := upd_same
      generalize upd (upd H2 p3 (.tup [V.str (Str.ofString "mark"), V.str (Str.ofString "]")])) p4 (.lst [V.ref p3]) = H4 at g4 hc3 hp4' ⊢
      rw [hxl, List.take_length] at hk2
      have h1 := tksL_len true (ordTs turn us)
      rw [ords_sz turn _ hok.2] at h1
      refine ⟨p2, p4, rs, [V.ref p3], rfl, rfl, g4 _ _ hp2, hp4', by rw [sizeLine_eq, hk2.1, List.length_cons]; show _ + 1 + 1 ≤ _; omega, fun p5 hp5 => ?_⟩
      have g5 := same_new hp5 (.lst (rs ++ [V.ref p3]))
      exact q p5 _ _ (g2.trans (g4.trans g5)) upd_same ((hk2.same (g4.trans g5)).app (Tks.one (t := (3, [93])) (g5 _ _ hc3)))
  | dic ks us =>
    obtain ⟨a, ps, rfl, ha, hk, hs⟩ := hv
    obtain ⟨nk, hle, h30, hnm, hoks⟩ := hok
    have hz' : T.szs us + 1 ≤ 200 := hz
    have hd' : T.deps us + 1 < n + 1 := hd
    have hpl : ps.length = us.length := by have := hs.length; rwa [List.length_map] at this
    refine ⟨"dict", tyS_dK ha, iN (by decide) ⟨"dict", tyS_dK ha, iP (by decide) fun p hp p1 hp1 => ?_⟩⟩
    have g1 := (same_new hp (.tup [V.str (Str.ofString "mark"), V.str (Str.ofString "{")])).trans (same_new hp1 (.lst [V.ref p]))
    have hk1 : Tks (upd (upd H p (.tup [V.str (Str.ofString "mark"), V.str (Str.ofString "{")])) p1 (.lst [V.ref p])) [V.ref p] [(3, [123])] := Tks.one (t := (3, [123])) (same_new hp1 _ _ _ upd_same)
    have hp1' : upd (upd H p (.tup [V.str (Str.ofString "mark"), V.str (Str.ofString "{")])) p1 (.lst [V.ref p]) p1 = some (.lst [V.ref p]) := upd_same
    generalize upd (upd H p (.tup [V.str (Str.ofString "mark"), V.str (Str.ofString "{")])) p1 (.lst [V.ref p]) = H1 at g1 hk1 hp1' ⊢
    refine ⟨a, rfl, ps, .inl (g1 _ _ ha), ks.map tx, by rw [hk, List.map_map]; rfl, by rw [List.length_map]; omega, fun l ss hl hp1s hs1 => ?_⟩
    have es := sorted_names hp1s hs1
    have emap : ss.map V.str = (sortK ks).map fun k => V.str (tx k) := by rw [es, List.map_map]; rfl
    rw [emap]
    have g3 := g1.trans (same_new hl (.lst ((sortK ks).map fun k => V.str (tx k))))
    have hl3 : upd H1 l (.lst ((sortK ks).map fun k => V.str (tx k))) l = some (.lst ((sortK ks).map fun k => V.str (tx k))) := upd_same
    have hk3 := hk1.same (same_new hl (.lst ((sortK ks).map fun k => V.str (tx k))))
    have hp13 := same_new hl (.lst ((sortK ks).map fun k => V.str (tx k))) _ _ hp1'
    generalize upd H1 l (.lst ((sortK ks).map fun k => V.str (tx k))) = H3 at g3 hl3 hk3 hp13 ⊢
    have hsl : ((sortK ks).map fun k => V.str (tx k)).length = ks.length := by rw [List.length_map, (sortK_perm ks).length_eq]
    obtain ⟨c, hc⟩ : ∃ c : Nat, turn % max 1 (ks.length : Int) = c := ⟨(turn % max 1 (ks.length : Int)).toNat, by
      have := Int.emod_nonneg turn (show max 1 (ks.length : Int) ≠ 0 by omega)
      omega⟩
    have hM : (if (((sortK ks).map fun k => V.str (tx k)).length : Int) > 1 then (((sortK ks).map fun k => V.str (tx k)).length : Int) else 1) = max 1 (ks.length : Int) := by
      rw [hsl]; split <;> omega
    refine ⟨_, SqL.of hl3, 1, _, ⟨rfl, rfl⟩, by rw [hM]; omega, ?_⟩
    rw [hM, hc]
    refine ⟨l, _, rfl, SqL.of hl3, fun l4 hl4 => ?_⟩
    rw [cut_from]
    have g4 := g3.trans (same_new hl4 (.lst (((sortK ks).map fun k => V.str (tx k)).drop c)))
    have hl4' : upd H3 l4 (.lst (((sortK ks).map fun k => V.str (tx k)).drop c)) l4 = some (.lst (((sortK ks).map fun k => V.str (tx k)).drop c)) := upd_same
    have hk4 := hk3.same (same_new hl4 (.lst (((sortK ks).map fun k => V.str (tx k)).drop c)))
    have hp14 := same_new hl4 (.lst (((sortK ks).map fun k => V.str (tx k)).drop c)) _ _ hp13
    have hl34 := same_new hl4 (.lst (((sortK ks).map fun k => V.str (tx k)).drop c)) _ _ hl3
    generalize upd H3 l4 (.lst (((sortK ks).map fun k => V.str (tx k)).drop c)) = H4 at g4 hl4' hk4 hp14 hl34 ⊢
    refine ⟨_, SqL.of hl34, 1, _, ⟨rfl, rfl⟩, by rw [hM]; omega, ?_⟩
    rw [hM, hc]
    refine ⟨l, _, rfl, SqL.of hl34, fun l5 hl5 => ?_⟩
    rw [cut_to]
    have s5 := same_new hl5 (.lst (((sortK ks).map fun k => V.str (tx k)).take c))
    refine ⟨l4, l5, _, _, rfl, rfl, s5 _ _ hl4', upd_same, by rw [sizeLine_eq, List.length_drop, List.length_take, hsl]; omega, fun l6 hl6 => ?_⟩
    have erot : ((sortK ks).map fun k => V.str (tx k)).drop c ++ ((sortK ks).map fun k => V.str (tx k)).take c = ((sortK ks).drop c ++ (sortK ks).take c).map fun k => V.str (tx k) := by rw [List.map_append, List.map_drop, List.map_take]
    rw [erot]
    have s6 := s5.trans (same_new hl6 (.lst (((sortK ks).drop c ++ (sortK ks).take c).map fun k => V.str (tx k))))
    have hl6' : upd (upd H4 l5 (.lst (((sortK ks).map fun k => V.str (tx k)).take c))) l6 (.lst (((sortK ks).drop c ++ (sortK ks).take c).map fun k => V.str (tx k))) l6 = some (.lst (((sortK ks).drop c ++ (sortK ks).take c).map fun k => V.str (tx k))) := upd_same
    generalize upd (upd H4 l5 (.lst (((sortK ks).map fun k => V.str (tx k)).take c))) l6 (.lst (((sortK ks).drop c ++ (sortK ks).take c).map fun k => V.str (tx k))) = H6 at s6 hl6' ⊢
    have g6 := g4.trans s6
    have hk6 := hk4.same s6
    have hp16 := s6 _ _ hp14
    unfold tStp
    walk_at "rd6"
    intro p8 hp8
    have s8 := same_new hp8 (.lst [V.int 1, V.int (-1)])
    have hp8' : upd H6 p8 (.lst [V.int 1, V.int (-1)]) p8 = some (.lst [V.int 1, V.int (-1)]) := upd_same
    generalize upd H6 p8 (.lst [V.int 1, V.int (-1)]) = H8 at s8 hp8' ⊢
    have h01 : turn / 30 % 2 = 0 ∨ turn / 30 % 2 = 1 := by omega
    have hpick : atI [V.int 1, V.int (-1)] (turn / 30 % 2) = some (V.int (if decide (turn / 30 % 2 = 1) = true then -1 else 1)) := by
      rcases h01 with e | e <;> rw [e] <;> rfl
    refine rIxL_i (SqL.of hp8') hpick ⟨_, rfl, _, SqL.of (s8 _ _ hl6'), decide (turn / 30 % 2 = 1), rfl, fun l9 hl9 => ?_⟩
    have erot2 : (if decide (turn / 30 % 2 = 1) = true then (((sortK ks).drop c ++ (sortK ks).take c).map fun k => V.str (tx k)).reverse else ((sortK ks).drop c ++ (sortK ks).take c).map fun k => V.str (tx k)) = (rotN turn ks).map fun k => V.str (tx k) := by
      have ec : (turn % max 1 (ks.length : Int)).toNat = c := by omega
      unfold rotN
      rw [ec]
      rcases h01 with e | e
      · rw [e]; rfl
      · rw [e, ← List.map_reverse]; rfl
    rw [erot2]
    have g9 := g6.trans (s8.trans (same_new hl9 (.lst ((rotN turn ks).map fun k => V.str (tx k)))))
    have hk9 := hk6.same (s8.trans (same_new hl9 (.lst ((rotN turn ks).map fun k => V.str (tx k)))))
    have hp19 := (s8.trans (same_new hl9 (.lst ((rotN turn ks).map fun k => V.str (tx k))))) _ _ hp16
    have hl9' : upd H8 l9 (.lst ((rotN turn ks).map fun k => V.str (tx k))) l9 = some (.lst ((rotN turn ks).map fun k => V.str (tx k))) := upd_same
    generalize upd H8 l9 (.lst ((rotN turn ks).map fun k => V.str (tx k))) = H9 at g9 hk9 hp19 hl9' ⊢
    have hrp := rotN_perm turn ks
    have hrn : (rotN turn ks).Nodup := hrp.nodup_iff.mpr nk
    have hrl := hrp.length_eq
    have hsz9 : T.szs ((rotN turn ks).map fun k => lookT k ks (ordTs turn us)) = T.szs us := by
      rw [szs_perm (hrp.map fun k => lookT k ks (ordTs turn us)), szs_look nk (by rw [ordTs_map, List.length_map]; exact hle), ords_sz turn us hoks]
    have hlenA : ∀ i, ((3, [123]) :: tksD true ((rotN turn ks).take i) (((rotN turn ks).take i).map fun k => lookT k ks (ordTs turn us))).length ≤ 1001 := fun i => by
      have h1 := tksD_len true ((rotN turn ks).take i) (((rotN turn ks).take i).map fun k => lookT k ks (ordTs turn us))
      have h2 : T.szs (((rotN turn ks).take i).map fun k => lookT k ks (ordTs turn us)) ≤ T.szs ((rotN turn ks).map fun k => lookT k ks (ordTs turn us)) := by
        conv => rhs; rw [← List.take_append_drop i (rotN turn ks), List.map_append]
        rw [szs_append]; omega
      rw [List.length_cons]; omega
    refine ⟨⟨_, SqL.of hl9'⟩, forB_list (K := K) (a := l9) (xs := (rotN turn ks).map fun k => V.str (tx k)) (fun i σ H2 => (∃ p2 rs o5, σ = [some (V.ref a), some (V.int turn), some (V.ref p2), none, some (V.ref l6), o5] ∧ H2 p2 = some (.lst rs) ∧ Tks H2 rs ((3, [123]) :: tksD true ((rotN turn ks).take i) (((rotN turn ks).take i).map fun k => lookT k ks (ordTs turn us)))) ∧ Same H H2 ∧ H2 l9 = some (.lst ((rotN turn ks).map fun k => V.str (tx k)))) ⟨⟨p1, _, _, rfl, hp19, by rw [List.take_zero, List.map_nil, tksD]; exact hk9⟩, g9, hl9'⟩ (fun i σ H2 _ h => SqL.of h.2.2) ?_ ?_⟩
    · rintro i x σ H2 hx ⟨⟨p2, rs, o5, rfl, hp2, hk2⟩, g2, hl2⟩
      rw [List.getElem?_map] at hx
      cases hki : (rotN turn ks)[i]? with
      | none => rw [hki] at hx; cases hx
      | some k =>
        rw [hki] at hx
        have ex : V.str (tx k) = x := Option.some.inj hx
        subst ex
        have hmk : k ∈ ks := hrp.mem_iff.mp (List.mem_of_getElem? hki)
        have hm := lookT_mem hmk hle
        have hokt := hoks.mem hm
        have hdt := T.deps_le hm
        have hzt := T.szs_le hm
        walk_at "rd6"
        refine comma hp2 hk2 (Nat.le_trans (hlenA i) (by decide)) fun p5 rs5 H5 g5 hp5 hk5 => ?_
        intro q1 hq1 q2 hq2 q3 hq3
        have s1 := same_new hq1 (.tup [V.str (Str.ofString "word"), V.str (tx k)])
        have s2 := same_new hq2 (.tup [V.str (Str.ofString "mark"), V.str (Str.ofString ":")])
        have s3 := same_new hq3 (.lst [V.ref q1, V.ref q2])
        have hT : Tks (upd (upd (upd H5 q1 (.tup [V.str (Str.ofString "word"), V.str (tx k)])) q2 (.tup [V.str (Str.ofString "mark"), V.str (Str.ofString ":")])) q3 (.lst [V.ref q1, V.ref q2])) [V.ref q1, V.ref q2] [(1, k), (3, [58])] := by
          refine Tks.app (xs := [V.ref q1]) (l := [(1, k)]) (Tks.one ?_) (Tks.one ?_)
          · exact (s2.trans s3) _ _ upd_same
          · show _ = some (HO.tup [V.str (kS 3), V.str (tx [58])])
            rw [show tx [58] = Str.ofString ":" by decide +kernel]
            exact s3 _ _ upd_same
        have hq3' : upd (upd (upd H5 q1 (.tup [V.str (Str.ofString "word"), V.str (tx k)])) q2 (.tup [V.str (Str.ofString "mark"), V.str (Str.ofString ":")])) q3 (.lst [V.ref q1, V.ref q2]) q3 = some (.lst [V.ref q1, V.ref q2]) := upd_same
        have s13 := s1.trans (s2.trans s3)
        generalize upd (upd (upd H5 q1 (.tup [V.str (Str.ofString "word"), V.str (tx k)])) q2 (.tup [V.str (Str.ofString "mark"), V.str (Str.ofString ":")])) q3 (.lst [V.ref q1, V.ref q2]) = HA at hT hq3' s13 ⊢
        have hr5 : rs5.length ≤ 1002 := by
          rw [hk5.1, List.length_append]
          have h1 := hlenA i
          have : (if 1 < ((3, [123]) :: tksD true ((rotN turn ks).take i) (((rotN turn ks).take i).map fun k => lookT k ks (ordTs turn us))).length then [((3, [44]) : Tk)] else []).length ≤ 1 := by split <;> simp
          omega
        refine ⟨p5, q3, rs5, [V.ref q1, V.ref q2], rfl, rfl, s13 _ _ hp5, hq3', by rw [sizeLine_eq]; show _ + 2 ≤ _; omega, fun p6 hp6 => ?_⟩
        have s6 := same_new hp6 (.lst (rs5 ++ [V.ref q1, V.ref q2]))
        have hp6' : upd HA p6 (.lst (rs5 ++ [V.ref q1, V.ref q2])) p6 = some (.lst (rs5 ++ [V.ref q1, V.ref q2])) := upd_same
        have hk6' := ((hk5.same s13).app hT).same s6
        have sB := s13.trans s6
        generalize upd HA p6 (.lst (rs5 ++ [V.ref q1, V.ref q2])) = HB at hp6' hk6' sB ⊢
        have gB := g2.trans (g5.trans sB)
        obtain ⟨x, hx1, hx2⟩ := Rep.at_name nk hk (Reps.same gB _ _ hs) hmk
        refine ⟨x, .inl ⟨ps, Sum.inr (tx k), .inl (gB _ _ ha), rfl, hx1.symm⟩, x, lookT k ks us, turn, rfl, hx2, hokt, by omega, ht0, ht1, by omega, fun p7 rs7 H7 g7 hp7 hk7 => ?_⟩
        have h7 := tks_len (ordT turn (lookT k ks us))
        rw [ord_sz turn _ hokt] at h7
        refine ⟨p6, p7, _, rs7, rfl, rfl, g7 _ _ hp6', hp7, by rw [sizeLine_eq, hk7.1, List.length_append]; show _ + 2 + _ ≤ _; omega, fun p8 hp8 => ?_⟩
        have g8 := same_new hp8 (.lst (rs5 ++ [V.ref q1, V.ref q2] ++ rs7))
        refine ⟨⟨p8, ⟨rfl, _, rfl⟩, _, upd_same, ?_⟩, gB.trans (g7.trans g8), (g5.trans (sB.trans (g7.trans g8))) _ _ hl2⟩
        have z := (hk6'.same (g7.trans g8)).app (hk7.same g8)
        rw [comma_is (ws := ((rotN turn ks).take i).map fun k => lookT k ks (ordTs turn us)) (fun e => by rw [e, tksD]) (fun e => tksD_pos e)] at z
        rw [take_succ_of hki, List.map_append, List.map_cons, List.map_nil, tksD_snoc _ _ _ _ _ (by rw [List.length_map]), look_ord]
        simpa [List.append_assoc] using z
    · rintro σ H2 ⟨⟨p2, rs, o5, rfl, hp2, hk2⟩, g2, hl2⟩
      walk_at "rd6"
      intro p3 hp3 p4 hp4
      have g4 := (same_new hp3 (.tup [V.str (Str.ofString "mark"), V.str (Str.ofString "}")])).trans (same_new hp4 (.lst [V.ref p3]))
      have hc3 : upd (upd H2 p3 (.tup [V.str (Str.ofString "mark"), V.str (Str.ofString "}")])) p4 (.lst [V.ref p3]) p3 = some (.tup [.str (kS 3), .str (tx [125])]) := by
        rw [show tx [125] = Str.ofString "}" by decide +kernel]
        exact same_new hp4 _ _ _ upd_same
      have hp4' : upd (upd H2 p3 (.tup [V.str (Str.ofString "mark"), V.str (Str.ofString "}")])) p4 (.lst [V.ref p3]) p4 = some (.lst [V.ref p3]) := upd_same
      generalize upd (upd H2 p3 (.tup [V.str (Str.ofString "mark"), V.str (Str.ofString "}")])) p4 (.lst [V.ref p3]) = H4 at g4 hc3 hp4' ⊢
      rw [List.length_map, List.take_length] at hk2
      have h1 := hlenA (rotN turn ks).length
      rw [List.take_length] at h1
      refine ⟨p2, p4, rs, [V.ref p3], rfl, rfl, g4 _ _ hp2, hp4', by rw [sizeLine_eq, hk2.1]; show _ + 1 ≤ _; omega, fun p5 hp5 => ?_⟩
      have g5 := same_new hp5 (.lst (rs ++ [V.ref p3]))
      exact q p5 _ _ (g2.trans (g4.trans g5)) upd_same ((hk2.same (g4.trans g5)).app (Tks.one (t := (3, [125])) (g5 _ _ hc3)))
  | non =>
    cases (show v = _ from hv)
    refine ⟨_, hv.ty, iN (by simp [tyT, isSub]) ⟨_, hv.ty, iN (by simp [tyT, isSub]) (iP rfl fun p hp => iP rfl (rIxL_i (SqL.of upd_same) (v := V.str (Str.ofString "none")) rfl ?_))⟩⟩
    exact lf _ (1, wNone) _ _ (same_new hp _) rfl (by unfold wNone; rw [tx_ts]) rfl
  | bl b =>
    cases (show v = _ from hv)
    refine ⟨_, hv.ty, iN (by simp [tyT, isSub]) ⟨_, hv.ty, iN (by simp [tyT, isSub]) (iN (by simp) ⟨_, hv.ty, iP (by simp [tyT, isSub]) fun p hp => iN (by simp) (.inr ⟨b, rfl, ?_⟩)⟩)⟩⟩
    cases b with
    | true => exact rIxL_i (SqL.of upd_same) (v := V.str (Str.ofString "yes")) rfl (lf _ (1, wYes) _ _ (same_new hp _) rfl (by unfold wYes; rw [tx_ts]) rfl)
    | false => exact rIxL_i (SqL.of upd_same) (v := V.str (Str.ofString "no")) rfl (lf _ (1, wNo) _ _ (same_new hp _) rfl (by unfold wNo; rw [tx_ts]) rfl)
  | int b =>
    cases (show v = _ from hv)
    refine ⟨_, hv.ty, iN (by simp [tyT, isSub]) ⟨_, hv.ty, iN (by simp [tyT, isSub]) (iN (by simp) ⟨_, hv.ty, iN (by simp [tyT, isSub]) ⟨_, hv.ty, iP (by simp [tyT, isSub]) ?_⟩⟩)⟩⟩
    have hb : -(10 ^ 12) ≤ b ∧ b ≤ 10 ^ 12 := hok
    have e1 : (if b < 0 then -b else b) = ((b.natAbs : Nat) : Int) := by split <;> omega
    have hlen := num_len hb
    have hdig := dig_len (n := b.natAbs) (by omega)
    have e4 : tx (List.replicate (if b < 0 then 1 else 0 : Int).toNat (ts (Str.ofString "-"))).flatten ++ tx (digN b.natAbs) = tx (numL b) := by
      rw [app_tx]
      unfold numL
      by_cases h : b < 0
      · rw [if_pos h, if_pos h, show ts (Str.ofString "-") = [45] by decide +kernel]; rfl
      · rw [if_neg h, if_neg h]; rfl
    refine ⟨b, rfl, by decide +kernel, by split <;> decide, by split <;> decide, b, rfl, ?_⟩
    rw [e1, of_nat]
    rw [e4]
    refine ⟨by rw [Int.natAbs_natCast]; exact logs_ok hb.1 hb.2, ?_, ?_⟩
    · have e5 := congrArg Str.length e4
      rw [app_len] at e5
      rw [e5, tx_len]; omega
    · exact lf _ (0, numL b) _ _ (Same.refl _) rfl rfl rfl
  | str b =>
    cases (show v = _ from hv)
    refine ⟨_, hv.ty, iN (by simp [tyT, isSub]) ⟨_, hv.ty, iN (by simp [tyT, isSub]) (iN (by simp) ⟨_, hv.ty, iN (by simp [tyT, isSub]) ⟨_, hv.ty, iN (by simp [tyT, isSub]) ?_⟩⟩)⟩⟩
    exact lf _ (2, b) _ _ (Same.refl _) rfl rfl rfl
  | tup us => exact hok.elim
theorem ok_rof0 (F : Fun K "_law_row_of" "_law_row_of" sRof f fd) : FnOk P w K mg base CX0 1 f fd ["_law_thing", "_law_turn"] (spRof 0) := by
  refine F.ok scRof (fun vs H Q E h => ?_) (fun cdv A outer s H vs Q E hr h => ?_)
  · obtain ⟨v, t, turn, rfl, _⟩ := h
    rfl
  obtain ⟨v, t, turn, rfl, hv, hok, hd, _⟩ := h
  exact absurd hd (Nat.not_lt_zero _)
theorem rof_all (F : Fun K "_law_row_of" "_law_row_of" sRof f fd) (B : Bl5 mg) (b : Binds K fd ["_law_thing", "_law_turn"] []) (kp : PySem.W.keepIn K (.ref f) = true) (m : mg "_law_row_of" = some (.ref f)) : ∀ n : Nat, FnOk P w K mg base CX0 (1 + n) f fd ["_law_thing", "_law_turn"] (spRof n)
  | 0 => ok_rof0 F
  | n + 1 => ok_rofS F B ⟨_, _, rof_all F B b kp m n, b, kp, m⟩
end
end K28
namespace K28
open PySem L2
local macro_rules | `(tactic| walk_at "rd") => `(tactic| simp only [cxOf_K, nox_K, compCx_K, tSeq, tNext, tAsg, gName, tRet, tRetN, tIfS, tDrop, tOp, tUn, tVar, tC, tCall, tCons, tNil, tTest, tB, tAnd, tOr, tNot, tAndV, tOrV, tNotV, tIf, tCB, tBM, tComp, tTrue, tPart, tNoPart, tSl, tChain, tIsN, tNotN, tLst, tTup, tFor_eq, sDPut, tDNewK, tNever, rI0, rI, rU, rEq, rNe, rMulS, rInC, iRng1, iStr, CDiv, CMul, CPow, scal, List.append_nil, List.getElem?_cons_zero, List.getElem?_cons_succ, List.set_cons_zero, List.set_cons_succ, List.map_cons, List.map_nil, List.length_cons, List.length_nil, sizeLine_eq, Nat.reduceAdd, Nat.reduceLeDiff, Option.join_some, Option.join_none, Option.some.injEq, V.int.injEq, V.str.injEq, V.bl.injEq, V.ref.injEq, V.ty.injEq, List.cons.injEq, and_true, true_and, and_self, exists_eq_left', exists_eq_left, exists_and_left, exists_and_right, decide_eq_true_eq, Bool.not_eq_eq_eq_not, Bool.not_true, Bool.not_false, decide_eq_false_iff_not, Int.reduceLT, Int.reduceLE, Int.reduceNeg, Int.reducePow, Int.reduceAdd, Int.reduceSub, Int.reduceMul, Int.reduceToNat, natAbs10, Nat.reduceLT, Nat.reducePow, or_true, true_or, if_true, if_false, Bool.false_eq_true, ite_true, ite_false, reduceCtorEq])
local macro_rules | `(tactic| walk_at "rd3") => `(tactic| simp only [gTup, gCons, gNil, iZip, tIsT, tDisp, tPairs, tBM0, iList, iDict, tThaw, tMaxD, rMaxD, tDGet, rVals, tComp, cxOf_K, nox_K, compCx_K, tSeq, tNext, tAsg, gName, tRet, tRetN, tIfS, tDrop, tOp, tUn, tVar, tC, tCall, tCons, tNil, tTest, tB, tAnd, tOr, tNot, tAndV, tOrV, tNotV, tIf, tCB, tBM, tComp, tTrue, tPart, tNoPart, tSl, tChain, tIsN, tNotN, tLst, tTup, tFor_eq, sDPut, tDNewK, tNever, rI0, rI, rU, rEq, rNe, rMulS, rInC, iRng1, iStr, CDiv, CMul, CPow, scal, List.append_nil, List.getElem?_cons_zero, List.getElem?_cons_succ, List.set_cons_zero, List.set_cons_succ, List.map_cons, List.map_nil, List.length_cons, List.length_nil, sizeLine_eq, Nat.reduceAdd, Nat.reduceLeDiff, Option.join_some, Option.join_none, Option.some.injEq, V.int.injEq, V.str.injEq, V.bl.injEq, V.ref.injEq, V.ty.injEq, List.cons.injEq, and_true, true_and, and_self, exists_eq_left', exists_eq_left, exists_and_left, exists_and_right, decide_eq_true_eq, Bool.not_eq_eq_eq_not, Bool.not_true, Bool.not_false, decide_eq_false_iff_not, Int.reduceLT, Int.reduceLE, Int.reduceNeg, Int.reducePow, Int.reduceAdd, Int.reduceSub, Int.reduceMul, Int.reduceToNat, natAbs10, Nat.reduceLT, Nat.reducePow, or_true, true_or, if_true, if_false, Bool.false_eq_true, ite_true, ite_false, reduceCtorEq])
seal L2.PSs L2.PS L2.PE L2.PT L2.PW L2.PA L2.PI L2.PG L2.PGs L2.PPs L2.PTs
abbrev sSticks : Stmt := top 49
abbrev sShown : Stmt := top 50
theorem kS_inj : ∀ j ∈ [0, 1, 2, 3], ∀ k ∈ [0, 1, 2, 3], kS j = kS k → j = k := by decide +kernel
theorem OkTk.k {t : Tk} (h : OkTk t) : t.1 ∈ [0, 1, 2, 3] := by
  rcases h.2 with ⟨a, _⟩ | ⟨a, _⟩ | ⟨a, _⟩ | ⟨a, _⟩ <;> rw [a] <;> decide
theorem kS_is {t : Tk} (h : OkTk t) {j : Nat} (hj : j ∈ [0, 1, 2, 3]) : (V.str (kS t.1) = V.str (kS j)) ↔ t.1 = j := ⟨fun z => kS_inj _ (OkTk.k h) _ hj (V.str.inj z), fun z => by rw [z]⟩
section
variable {P : Program} {w : World} {K : PySem.W.Frag} {mg : Str → Option Value} {base : Heap} {f : Addr} {fd : FuncData}
def spSticks : Sp := fun vs H Q _ => ∃ (p p' : Addr) (t t' : Tk), vs = [.ref p, .ref p'] ∧ H p = some (.tup [.str (kS t.1), .str (tx t.2)]) ∧ H p' = some (.tup [.str (kS t'.1), .str (tx t'.2)]) ∧ OkTk t ∧ OkTk t' ∧ Q (.bl (stk t t')) H
theorem scSticks : FnScope ["_law_one", "_law_other"] ["_law_one", "_law_other"] (defScope sSticks) := ⟨rfl, rfl, rfl, by decide +kernel, rfl, by decide +kernel, by decide +kernel⟩
theorem ok_sticks (F : Fun K "_law_sticks" "_law_sticks" sSticks f fd) : FnOk P w K mg base CX0 1 f fd ["_law_one", "_law_other"] spSticks := by
  refine F.ok scSticks (fun vs H Q E h => ?_) (fun cdv A outer s H vs Q E hr h => ?_)
  · obtain ⟨p, p', t, t', rfl, _⟩ := h
    rfl
  obtain ⟨p, p', t, t', rfl, hp, hp', ht, ht', q⟩ := h
  have nd := scSticks.nd
  refine ⟨_, (pss_cons (ps_if (PW.pt (pw_and (pt_cmpR op_eq (pe_slice sl_str (pe_ix ix_tup (pv 1) pe_int (fun _ _ => rfl)) po_none (po_some pe_int)) pe_str (nomark _)) (pw_and1 (pt_cmpR op_eq (pe_ix ix_tup (pv 1) pe_int (fun _ _ => rfl)) pe_str (nomark _))))) (pss_one (ps_ret pe_bl)) pss_nil)
    (pss_cons (ps_if (pt_cmpR op_eq (pe_ix ix_tup (pv 0) pe_int (fun _ _ => rfl)) pe_str (nomark _)) (pss_one (ps_ret (pe_or (pe_cmpR op_eq (pe_ix ix_tup (pv 1) pe_int (fun _ _ => rfl)) pe_str (nomark _)) (pe_one (pe_cmpR op_eq (pe_ix ix_tup (pv 1) pe_int (fun _ _ => rfl)) pe_str (nomark _)))))) pss_nil)
    (pss_one (ps_ret (pe_and (pe_cmpR op_eq (pe_ix ix_tup (pv 0) pe_int (fun _ _ => rfl)) (pe_ix ix_tup (pv 1) pe_int (fun _ _ => rfl)) (nomark _)) (pe_one (pe_cmpR op_ne (pe_ix ix_tup (pv 0) pe_int (fun _ _ => rfl)) pe_str (nomark _)))))))), ?_⟩
  rw [show start ["_law_one", "_law_other"] [.ref p, .ref p'] = [some (.ref p), some (.ref p')] from rfl]
  walk_at "rd3"
  have r0 : ∀ {Q : VK}, Q (V.str (kS t.1)) H → rIxT K (.ref p) (.int 0) H Q := fun q => rIxT_i (SqT.of hp) (atI_nat (j := 0) rfl) q
  have r0' : ∀ {Q : VK}, Q (V.str (kS t'.1)) H → rIxT K (.ref p') (.int 0) H Q := fun q => rIxT_i (SqT.of hp') (atI_nat (j := 0) rfl) q
  have hl' := ht'.1
  refine rIxT_i (SqT.of hp') (atI_nat (j := 1) rfl) ⟨_, rfl, by rw [tx_len, sizeLine_eq]; omega, ?_⟩
  rw [show (some (1 : Int)) = some ((1 : Nat) : Int) from rfl, slice_to, ts_tx, of_mi, show Str.ofString "number" = kS 0 from rfl, show Str.ofString "word" = kS 1 from rfl, show Str.ofString "mark" = kS 3 from rfl]
  refine ⟨rfl, ?_⟩
  have e45 : (V.str (tx (t'.2.take 1)) = V.str (tx [45])) ↔ t'.2.take 1 = [45] := ⟨fun z => by have := congrArg ts (V.str.inj z); rwa [ts_tx, ts_tx] at this, fun z => by rw [z]⟩
  unfold stk at q
  by_cases c1 : t'.2.take 1 = [45]
  · refine iP (e45.mpr c1) (r0' ⟨rfl, ?_⟩)
    by_cases c2 : t'.1 = 0
    · rw [if_pos ⟨c1, c2⟩] at q
      exact iP ((kS_is ht' (by decide)).mpr c2) q
    · rw [if_neg fun z => c2 z.2] at q
      refine iN (fun z => c2 ((kS_is ht' (by decide)).mp z)) ?_
      refine r0 ⟨rfl, ?_⟩
      by_cases a : t.1 = 1
      · refine iP ((kS_is ht (by decide)).mpr a) (r0' ⟨rfl, ?_⟩)
        rw [if_pos a] at q
        by_cases b : t'.1 = 1
        · rw [decide_eq_true b, Bool.true_or] at q
          exact iP ((kS_is ht' (by decide)).mpr b) q
        · rw [decide_eq_false b, Bool.false_or] at q
          refine iN (fun z => b ((kS_is ht' (by decide)).mp z)) (r0' ⟨rfl, ?_⟩)
          rw [show decide (V.str (kS t'.1) = V.str (kS 0)) = decide (t'.1 = 0) from decide_eq_decide.mpr (kS_is ht' (by decide))]
          exact q
      · refine iN (fun z => a ((kS_is ht (by decide)).mp z)) (r0 (r0' ⟨rfl, ?_⟩))
        rw [if_neg a] at q
        by_cases b : t.1 = t'.1
        · rw [decide_eq_true b, Bool.true_and] at q
          refine iP (by rw [b]) (r0 ⟨rfl, ?_⟩)
          rw [show decide (V.str (kS t.1) = V.str (kS 3)) = decide (t.1 = 3) from decide_eq_decide.mpr (kS_is ht (by decide))]
          exact q
        · rw [decide_eq_false b, Bool.false_and] at q
          exact iN (fun z => b (kS_inj _ (OkTk.k ht) _ (OkTk.k ht') (V.str.inj z))) q
  · rw [if_neg fun z => c1 z.1] at q
    refine iN (fun z => c1 (e45.mp z)) ?_
    refine r0 ⟨rfl, ?_⟩
    by_cases a : t.1 = 1
    · refine iP ((kS_is ht (by decide)).mpr a) (r0' ⟨rfl, ?_⟩)
      rw [if_pos a] at q
      by_cases b : t'.1 = 1
      · rw [decide_eq_true b, Bool.true_or] at q
        exact iP ((kS_is ht' (by decide)).mpr b) q
      · rw [decide_eq_false b, Bool.false_or] at q
        refine iN (fun z => b ((kS_is ht' (by decide)).mp z)) (r0' ⟨rfl, ?_⟩)
        rw [show decide (V.str (kS t'.1) = V.str (kS 0)) = decide (t'.1 = 0) from decide_eq_decide.mpr (kS_is ht' (by decide))]
        exact q
    · refine iN (fun z => a ((kS_is ht (by decide)).mp z)) (r0 (r0' ⟨rfl, ?_⟩))
      rw [if_neg a] at q
      by_cases b : t.1 = t'.1
      · rw [decide_eq_true b, Bool.true_and] at q
        refine iP (by rw [b]) (r0 ⟨rfl, ?_⟩)
        rw [show decide (V.str (kS t.1) = V.str (kS 3)) = decide (t.1 = 3) from decide_eq_decide.mpr (kS_is ht (by decide))]
        exact q
      · rw [decide_eq_false b, Bool.false_and] at q
        exact iN (fun z => b (kS_inj _ (OkTk.k ht) _ (OkTk.k ht') (V.str.inj z))) q
def spShown : Sp := fun vs H Q _ => ∃ (p : Addr) (t : Tk), vs = [.ref p] ∧ H p = some (.tup [.str (kS t.1), .str (tx t.2)]) ∧ OkTk t ∧ ∀ H', Same H H' → Q (.str (tx (shw t))) H'
theorem scShown : FnScope ["_law_token"] ["_law_token"] (defScope sShown) := ⟨rfl, rfl, rfl, by decide +kernel, rfl, by decide +kernel, by decide +kernel⟩
theorem ok_shown (F : Fun K "_law_shown" "_law_shown" sShown f fd) (B : Bl mg) : FnOk P w K mg base CX0 1 f fd ["_law_token"] spShown := by
  refine F.ok scShown (fun vs H Q E h => ?_) (fun cdv A outer s H vs Q E hr h => ?_)
  · obtain ⟨p, t, rfl, _⟩ := h
    rfl
  obtain ⟨p, t, rfl, hp, ht, q⟩ := h
  have nd := scShown.nd
  refine ⟨_, (pss_cons (ps_if (pt_cmpR op_eq (pe_ix ix_tup (pv 0) pe_int (fun _ _ => rfl)) pe_str (nomark _)) (pss_one (ps_ret (pe_op op_add_str (pe_op op_add_str pe_str (pe_bm PySem.F.plainAttrs_str PySem.F.slot_str_join PySem.F.type_str_join mt_joinG pe_str (pa_cons (pe_bm PySem.F.plainAttrs_str PySem.F.slot_str_split PySem.F.type_str_split mt_split (pe_ix ix_tup (pv 0) pe_int (fun _ _ => rfl)) (pa_cons pe_str pa_nil)) pa_nil))) pe_str))) pss_nil)
    (pss_one (ps_ret (pe_ix ix_tup (pv 0) pe_int (fun _ _ => rfl))))), ?_⟩
  rw [show start ["_law_token"] [.ref p] = [some (.ref p)] from rfl]
  walk_at "rd3"
  have hl := ht.1
  have hk := kS_is ht (j := 2) (by decide)
  rw [show Str.ofString "text" = kS 2 from rfl]
  refine rIxT_i (SqT.of hp) (atI_nat (j := 0) rfl) ⟨rfl, ?_⟩
  by_cases c : t.1 = 2
  · refine iP (hk.mpr c) ⟨rfl, rIxT_i (SqT.of hp) (atI_nat (j := 1) rfl) ⟨rfl, ?_⟩⟩
    have hx : (tx t.2).length = t.2.length := tx_len _
    have h1 := replace_len (tx t.2) (Str.ofString "'") (Str.ofString "''")
    have h2 : (Str.ofString "''").length = 2 := by decide +kernel
    have h3 : (Str.ofString "'").length = 1 := by decide +kernel
    rw [hx, h2] at h1
    have hsl := PyProof.Rows.split_le (tx t.2) (Str.ofString "'")
    rw [hx] at hsl
    refine ⟨tx t.2, Str.ofString "'", rfl, rfl, by omega, by omega, fun l hl' => ?_⟩
    refine ⟨Str.ofString "''", l, Txt.split (tx t.2) (Str.ofString "'"), rfl, rfl, SqL.of upd_same, ?_, ?_⟩
    · have := split_sum (tx t.2) (Str.ofString "'")
      rw [hx] at this
      rw [h2]; omega
    · rw [join_split_is]
      refine ⟨_, rfl, by omega, by rw [app_len]; omega, ?_⟩
      have e : Txt.replace (tx t.2) (Str.ofString "'") (Str.ofString "''") = tx (dbl t.2) := by
        apply str_ext
        rw [of_q, of_qq, show (tx [39] : Str) = ⟨#[39]⟩ from rfl, replace_is, ts_tx, ts_tx, ts_tx]; rfl
      rw [e, of_q, app_tx, app_tx]
      have e2 : [39] ++ dbl t.2 ++ [39] = shw t := by unfold shw; rw [if_pos c]; rfl
      rw [e2]
      exact q _ (same_new hl' _)
  · have e : shw t = t.2 := by unfold shw; rw [if_neg c]
    rw [e] at q
    exact iN (fun z => c (hk.mp z)) (rIxT_i (SqT.of hp) (atI_nat (j := 1) rfl) (q _ (Same.refl _)))
end
end K28
namespace K28
open PySem L2
local macro_rules | `(tactic| walk_at "rd") => `(tactic| simp only [cxOf_K, nox_K, compCx_K, tSeq, tNext, tAsg, gName, tRet, tRetN, tIfS, tDrop, tOp, tUn, tVar, tC, tCall, tCons, tNil, tTest, tB, tAnd, tOr, tNot, tAndV, tOrV, tNotV, tIf, tCB, tBM, tComp, tTrue, tPart, tNoPart, tSl, tChain, tIsN, tNotN, tLst, tTup, tFor_eq, sDPut, tDNewK, tNever, rI0, rI, rU, rEq, rNe, rMulS, rInC, iRng1, iStr, CDiv, CMul, CPow, scal, List.append_nil, List.getElem?_cons_zero, List.getElem?_cons_succ, List.set_cons_zero, List.set_cons_succ, List.map_cons, List.map_nil, List.length_cons, List.length_nil, sizeLine_eq, Nat.reduceAdd, Nat.reduceLeDiff, Option.join_some, Option.join_none, Option.some.injEq, V.int.injEq, V.str.injEq, V.bl.injEq, V.ref.injEq, V.ty.injEq, List.cons.injEq, and_true, true_and, and_self, exists_eq_left', exists_eq_left, exists_and_left, exists_and_right, decide_eq_true_eq, Bool.not_eq_eq_eq_not, Bool.not_true, Bool.not_false, decide_eq_false_iff_not, Int.reduceLT, Int.reduceLE, Int.reduceNeg, Int.reducePow, Int.reduceAdd, Int.reduceSub, Int.reduceMul, Int.reduceToNat, natAbs10, Nat.reduceLT, Nat.reducePow, or_true, true_or, if_true, if_false, Bool.false_eq_true, ite_true, ite_false, reduceCtorEq])
local macro_rules | `(tactic| walk_at "rd3") => `(tactic| simp only [gTup, gCons, gNil, iZip, tIsT, tDisp, tPairs, tBM0, iList, iDict, tThaw, tMaxD, rMaxD, tDGet, rVals, tComp, cxOf_K, nox_K, compCx_K, tSeq, tNext, tAsg, gName, tRet, tRetN, tIfS, tDrop, tOp, tUn, tVar, tC, tCall, tCons, tNil, tTest, tB, tAnd, tOr, tNot, tAndV, tOrV, tNotV, tIf, tCB, tBM, tComp, tTrue, tPart, tNoPart, tSl, tChain, tIsN, tNotN, tLst, tTup, tFor_eq, sDPut, tDNewK, tNever, rI0, rI, rU, rEq, rNe, rMulS, rInC, iRng1, iStr, CDiv, CMul, CPow, scal, List.append_nil, List.getElem?_cons_zero, List.getElem?_cons_succ, List.set_cons_zero, List.set_cons_succ, List.map_cons, List.map_nil, List.length_cons, List.length_nil, sizeLine_eq, Nat.reduceAdd, Nat.reduceLeDiff, Option.join_some, Option.join_none, Option.some.injEq, V.int.injEq, V.str.injEq, V.bl.injEq, V.ref.injEq, V.ty.injEq, List.cons.injEq, and_true, true_and, and_self, exists_eq_left', exists_eq_left, exists_and_left, exists_and_right, decide_eq_true_eq, Bool.not_eq_eq_eq_not, Bool.not_true, Bool.not_false, decide_eq_false_iff_not, Int.reduceLT, Int.reduceLE, Int.reduceNeg, Int.reducePow, Int.reduceAdd, Int.reduceSub, Int.reduceMul, Int.reduceToNat, natAbs10, Nat.reduceLT, Nat.reducePow, or_true, true_or, if_true, if_false, Bool.false_eq_true, ite_true, ite_false, reduceCtorEq])
seal L2.PSs L2.PS L2.PE L2.PT L2.PW L2.PA L2.PI L2.PG L2.PGs L2.PPs L2.PTs
abbrev sLaid : Stmt := top 51
def wid : List Tk → Nat
  | [] => 0
  | t :: l => (shw t).length + wid l
theorem wid_app : ∀ a b : List Tk, wid (a ++ b) = wid a + wid b
  | [], b => (Nat.zero_add _).symm
  | t :: a, b => by
    show (shw t).length + wid (a ++ b) = (shw t).length + wid a + wid b
    rw [wid_app a b]; omega
theorem wid_take (l : List Tk) (i : Nat) : wid (l.take i) ≤ wid l := by
  conv => rhs; rw [← List.take_append_drop i l]
  rw [wid_app]; omega
theorem wid_snoc {l : List Tk} {i : Nat} {t : Tk} (h : l[i]? = some t) : wid (l.take (i + 1)) = wid (l.take i) + (shw t).length := by
  rw [take_succ_of h, wid_app]; rfl
def PvL (H : Hp) (p : Addr) (c : Int) (p2 : Addr) (tks : List Tk) : Nat → St → Hp → Prop := fun i σ H' => ∃ (r : List (Nat × Tk)) (b : Nat) (o4 o5 o6 : Option V) (ys : List V), σ = [some (.ref p), some (.int c), some (.str (tx (lay r ++ List.replicate b 32))), some (.ref p2), o4, o5, o6] ∧ Same H H' ∧ H' p2 = some (.lst ys) ∧ Reps H' ys (dueT 0 r) ∧ ys.length = i ∧ r.map (·.2) = tks.take i ∧ Chn r ∧ b ≤ 3 ∧ (0 < i → b = 0) ∧ (lay r).length ≤ wid (tks.take i) + 3 * i ∧ (∀ y ∈ r, OkTk y.2)
def MidI (H : Hp) (p : Addr) (c : Int) (p2 : Addr) (r : List (Nat × Tk)) (t : Tk) (i : Nat) : St → Hp → Prop := fun σ H' => ∃ (b : Nat) (o5 o6 : Option V), σ = [some (.ref p), some (.int c), some (.str (tx (lay r ++ List.replicate b 32))), some (.ref p2), some (.int i), o5, o6] ∧ Same H H' ∧ b ≤ 3 ∧ Chn (r ++ [(b, t)])
theorem dueT_one (n b : Nat) (t : Tk) : dueT n [(b, t)] = [.tup [.str (ts (kS t.1)), .str t.2, .int ((n + b : Nat) : Int)]] := rfl
theorem lay_snoc (r : List (Nat × Tk)) (b : Nat) (t : Tk) : lay (r ++ [(b, t)]) = lay r ++ List.replicate b 32 ++ shw t := by
  rw [lay_app, List.append_assoc]
  show lay r ++ (List.replicate b 32 ++ (shw t ++ [])) = _
  rw [List.append_nil]
section
variable {P : Program} {w : World} {K : PySem.W.Frag} {mg : Str → Option Value} {base : Heap} {f : Addr} {fd : FuncData}
def spLaid : Sp := fun vs H Q _ => ∃ (p : Addr) (xs : List V) (tks : List Tk) (c : Int), vs = [.ref p, .int c] ∧ H p = some (.lst xs) ∧ Tks H xs tks ∧ (∀ t ∈ tks, OkTk t) ∧ tks.length ≤ 1000 ∧ wid tks ≤ 16000 ∧ 0 ≤ c ∧ c < 1000003 ∧
  ∀ (o l : Addr) (r : List (Nat × Tk)) (e : Nat) (H' : Hp), Same H H' → H' o = some (.tup [.str (tx (lay r ++ List.replicate e 32)), .ref l]) → Rep H' (.ref l) (.lst (dueT 0 r ++ [endT (lay r ++ List.replicate e 32).length])) → (∀ y ∈ r, OkTk y.2) → Chn r → r.map (·.2) = tks → (lay r ++ List.replicate e 32).length ≤ 19996 → Q (.ref o) H'
theorem scLaid : FnScope ["_law_row", "_law_cell_here", "_law_text", "_law_found", "_law_k", "_law_more", "_law_least"] ["_law_row", "_law_cell_here"] (defScope sLaid) := ⟨rfl, rfl, rfl, by decide +kernel, rfl, by decide +kernel, by decide +kernel⟩
theorem ok_laid (F : Fun K "_law_laid" "_law_laid" sLaid f fd) (B : Bl2 mg) (G_law_sticks : Dn P w K mg base 1 "_law_sticks" ["_law_one", "_law_other"] spSticks) (G_law_shown : Dn P w K mg base 1 "_law_shown" ["_law_token"] spShown) : FnOk P w K mg base CX0 2 f fd ["_law_row", "_law_cell_here"] spLaid := by
  refine F.ok scLaid (fun vs H Q E h => ?_) (fun cdv A outer s H vs Q E hr h => ?_)
  · obtain ⟨p, xs, tks, c, rfl, _⟩ := h
    rfl
  obtain ⟨p, xs, tks, c, rfl, hp, hT, hok, h24, hwid, hc0, hc1, q⟩ := h
  have nd := scLaid.nd
  refine ⟨_, (pss_cons (ps_set (i := 2) nd rfl (Or.inl rfl) (pe_op op_mul_str pe_str (pe_ix ix_list (pe_lst (pa_cons pe_int (pa_cons pe_int (pa_cons (pe_op op_mod (pv 1) pe_int) pa_nil)))) (pe_op op_mod (pe_op op_fdiv (pv 1) pe_int) pe_int) (fun _ _ => rfl))))
    (pss_cons (ps_set (i := 3) nd rfl (Or.inl rfl) (pe_lst pa_nil))
    (pss_cons (ps_for PassesOwn.never rfl (pi_range1 rfl B.range (pa_cons (pe_callB call_len_l rfl B.len bt_len (pa_cons (pv 0) pa_nil)) pa_nil)) (pg_name (i := 4) nd rfl (Or.inl rfl)) (pss_cons (ps_set (i := 5) nd rfl (Or.inl rfl) (pe_op op_mod (pe_op op_add (pe_op op_add (pv 1) (pe_op op_mul (pv 4) pe_int)) (pe_op op_mul (pe_op op_mul (pv 4) (pv 4)) pe_int)) pe_int))
    (pss_cons (ps_mid (ps_if (pt_cmpR op_gt (pv 4) pe_int (nomark _)) (pss_cons (ps_set (i := 6) nd rfl (Or.inl rfl) (pe_callTy call_intB rfl B.int bt_int (pa_cons (pe_cd G_law_sticks hr (by omega) rfl (pa_cons (pe_ix ix_list (pv 0) (pe_op op_sub (pv 4) pe_int) (fun _ _ => rfl)) (pa_cons (pe_ix ix_list (pv 0) (pv 4) (fun _ _ => rfl)) pa_nil))) pa_nil)))
    (pss_one (ps_set (i := 2) nd rfl (Or.inl rfl) (pe_op op_add_str (pv 2) (pe_op op_mul_str pe_str (pe_callB (call_max2 rfl) rfl B.max bt_max (pa_cons (pv 6) (pa_cons (pe_ix ix_list (pe_lst (pa_cons pe_int (pa_cons pe_int (pa_cons (pe_op op_mod (pe_op op_fdiv (pv 5) pe_int) pe_int) pa_nil)))) (pe_op op_mod (pv 5) pe_int) (fun _ _ => rfl)) pa_nil)))))))) pss_nil))
    (pss_cons (ps_expr (pe_bm PySem.F.plainAttrs_list PySem.F.slot_list_append PySem.F.type_list_append mt_append (pv 3) (pa_cons (pe_tup (pa_cons (pe_ix ix_tup (pe_ix ix_list (pv 0) (pv 4) (fun _ _ => rfl)) pe_int (fun _ _ => rfl)) (pa_cons (pe_ix ix_tup (pe_ix ix_list (pv 0) (pv 4) (fun _ _ => rfl)) pe_int (fun _ _ => rfl)) (pa_cons (pe_callB call_len_str rfl B.len bt_len (pa_cons (pv 2) pa_nil)) pa_nil)))) pa_nil)))
    (pss_one (ps_set (i := 2) nd rfl (Or.inl rfl) (pe_op op_add_str (pv 2) (pe_cd G_law_shown hr (by omega) rfl (pa_cons (pe_ix ix_list (pv 0) (pv 4) (fun _ _ => rfl)) pa_nil)))))))))
    (pss_cons (ps_set (i := 2) nd rfl (Or.inl rfl) (pe_op op_add_str (pv 2) (pe_op op_mul_str pe_str (pe_ix ix_list (pe_lst (pa_cons pe_int (pa_cons (pe_op op_mod (pe_op op_fdiv (pv 1) pe_int) pe_int) pa_nil))) (pe_op op_mod (pe_op op_fdiv (pv 1) pe_int) pe_int) (fun _ _ => rfl)))))
    (pss_one (ps_ret (pe_tup (pa_cons (pv 2) (pa_cons (pe_op op_cat (pv 3) (pe_lst (pa_cons (pe_tup (pa_cons pe_str (pa_cons pe_str (pa_cons (pe_callB call_len_str rfl B.len bt_len (pa_cons (pv 2) pa_nil)) pa_nil)))) pa_nil))) pa_nil))))))))), ?_⟩
  rw [show start ["_law_row", "_law_cell_here", "_law_text", "_law_found", "_law_k", "_law_more", "_law_least"] [.ref p, .int c] = [some (.ref p), some (.int c), none, none, none, none, none] from rfl]
  walk_at "rd3"
  intro p1 hp1
  have e1 := upd_same (H := H) (a := p1) (o := .lst [V.int 0, V.int 0, V.int (c % 4)])
  have s1 := same_new hp1 (.lst [V.int 0, V.int 0, V.int (c % 4)])
  generalize upd H p1 _ = H1 at s1 e1 ⊢
  obtain ⟨v, hv, hm⟩ := atI_of (xs := [V.int 0, V.int 0, V.int (c % 4)]) (i := c / 4 % 3) (by omega) (by simp only [List.length_cons, List.length_nil]; omega)
  obtain ⟨n, rfl, n0, n3⟩ : ∃ n : Int, v = .int n ∧ 0 ≤ n ∧ n ≤ 3 := by
    simp only [List.mem_cons, List.not_mem_nil, or_false] at hm
    rcases hm with rfl | rfl | rfl
    · exact ⟨_, rfl, by omega, by omega⟩
    · exact ⟨_, rfl, by omega, by omega⟩
    · exact ⟨_, rfl, by omega, by omega⟩
  refine rIxL_i (SqL.of e1) hv ⟨n, rfl, by decide, by omega, by omega, fun p2 hp2 => ?_⟩
  have s2 := s1.trans (same_new hp2 (.lst []))
  have hp2H : H p2 = none := none_back s1 hp2
  have hxl := hT.1
  have ts_sp : ts (Str.ofString " ") = [32] := by decide +kernel
  rw [ts_sp, rep_one]
  refine ⟨xs, SqL.of (s2 _ _ hp), by omega, by omega, forB_rng (PvL H p c p2 tks) ⟨[], n.toNat, none, none, none, [], rfl, s2, upd_same, rfl, rfl, rfl, (fun i x y h => nomatch h), by omega, fun h => absurd h (Nat.lt_irrefl _), Nat.zero_le _, (fun y h => nomatch h)⟩ ?_ ?_⟩
  · rintro i σ H' hi ⟨r, b, o4, o5, o6, ys, rfl, g, hp2', hR, hyl, hrm, hch, hb3, hb0, hlen, hrok⟩
    obtain ⟨t, ht⟩ : ∃ t, tks[i]? = some t := ⟨_, List.getElem?_eq_getElem (by omega)⟩
    obtain ⟨a, ha1, ha2⟩ := hT.2 i t ht
    have htok := hok t (List.mem_of_getElem? ht)
    have hrl : r.length = i := by
      have := congrArg List.length hrm
      rw [List.length_map, List.length_take] at this
      omega
    have hwt := wid_take tks i
    have hws := wid_snoc ht
    walk_at "rd3"
    refine ⟨.inl (by omega), MidI H' p c p2 r t i, ?_, ?_⟩
    · walk_at "rd3"
      simp only [Int.zero_add]
      have hpH := g _ _ hp
      by_cases c0 : (0 : Int) < (i : Int)
      · have hi0 : 0 < i := by omega
        have hb := hb0 hi0
        subst hb
        obtain ⟨u, hu⟩ : ∃ u, tks[i - 1]? = some u := ⟨_, List.getElem?_eq_getElem (by omega)⟩
        obtain ⟨a', hb1, hb2⟩ := hT.2 (i - 1) u hu
        have huok := hok u (List.mem_of_getElem? hu)
        have elast : ∀ x, r.getLast? = some x → x.2 = u := fun x hx => by
          rw [List.getLast?_eq_getElem?, hrl] at hx
          have h1 : (r.map (·.2))[i - 1]? = some x.2 := by rw [List.getElem?_map, hx]; rfl
          rw [hrm, List.getElem?_take_of_lt (by omega), hu] at h1
          exact (Option.some.inj h1).symm
        refine iP c0 (rIxL_i (SqL.of hpH) (show atI xs ((i : Int) - 1) = some (V.ref a') by rw [show (i : Int) - 1 = ((i - 1 : Nat) : Int) by omega]; exact atI_nat hb1) (rIxL_i (SqL.of hpH) (atI_nat ha1) ⟨a', a, u, t, rfl, g _ _ hb2, g _ _ ha2, huok, htok, stk u t, rfl, fun q1 hq1 => ?_⟩))
        have hm0 := Int.emod_nonneg (c + (i : Int) * 7919 + (i : Int) * (i : Int) * 31) (show (1000003 : Int) ≠ 0 by decide)
        generalize (c + (i : Int) * 7919 + (i : Int) * (i : Int) * 31) % 1000003 = m at hm0 ⊢
        obtain ⟨v, hv, hm⟩ := atI_of (xs := [V.int 0, V.int 1, V.int (m / 3 % 4)]) (i := m % 3) (by omega) (by simp only [List.length_cons, List.length_nil]; omega)
        obtain ⟨j, rfl, j0, j3⟩ : ∃ n : Int, v = .int n ∧ 0 ≤ n ∧ n ≤ 3 := by
          simp only [List.mem_cons, List.not_mem_nil, or_false] at hm
          rcases hm with rfl | rfl | rfl
          · exact ⟨_, rfl, by omega, by omega⟩
          · exact ⟨_, rfl, by omega, by omega⟩
          · exact ⟨_, rfl, by omega, by omega⟩
        have sq := same_new hq1 (.lst [V.int 0, V.int 1, V.int (m / 3 % 4)])
        obtain ⟨k, hk0, hk3, hks⟩ : ∃ k : Nat, (if j > (if stk u t = true then (1 : Int) else 0) then j else (if stk u t = true then 1 else 0)) = (k : Int) ∧ k ≤ 3 ∧ (stk u t = true → 0 < k) := by
          refine ⟨(if j > (if stk u t = true then (1 : Int) else 0) then j else (if stk u t = true then 1 else 0)).toNat, ?_⟩
          cases stk u t with
          | false =>
            simp only [Bool.false_eq_true, if_false]
            split
            · exact ⟨by omega, by omega, fun h => nomatch h⟩
            · exact ⟨rfl, by decide, fun h => nomatch h⟩
          | true =>
            simp only [if_true]
            split
            · exact ⟨by omega, by omega, fun _ => by omega⟩
            · exact ⟨rfl, by decide, fun _ => by decide⟩
        refine rIxL_i (SqL.of upd_same) hv ⟨_, j, ⟨rfl, rfl⟩, ?_⟩
        rw [hk0, ts_sp, rep_one, Int.toNat_natCast, app_tx, tx_len, tx_len]
        simp only [List.replicate_zero, List.append_nil]
        refine ⟨by decide, by omega, by omega, ?_, k, _, _, rfl, sq, hk3, hch.snoc fun x hx hs => ?_⟩
        · rw [tx_len, List.length_replicate]; omega
        · rw [elast x hx] at hs
          exact hks hs
      · have hi0 : i = 0 := by omega
        subst hi0
        have er : r = [] := List.eq_nil_of_length_eq_zero hrl
        subst er
        refine iN c0 ⟨b, _, _, rfl, Same.refl _, hb3, hch.snoc fun x hx => ?_⟩
        cases hx
    · rintro σ' H'' ⟨b', o5', o6', rfl, g', hb', hch'⟩
      walk_at "rd3"
      have G := g.trans g'
      have hlr : (lay r ++ List.replicate b' 32).length = (lay r).length + b' := by rw [List.length_append, List.length_replicate]
      refine ⟨.inl ⟨rfl, _, SqL.of (g' _ _ hp2')⟩, rIxL_i (SqL.of (G _ _ hp)) (atI_nat ha1) (rIxT_i (SqT.of (G _ _ ha2)) (atI_nat (j := 0) rfl) (rIxL_i (SqL.of (G _ _ hp)) (atI_nat ha1) (rIxT_i (SqT.of (G _ _ ha2)) (atI_nat (j := 1) rfl) ⟨by rw [tx_len, hlr]; omega, fun q1 hq1 => ?_⟩)))⟩
      rw [tx_len]
      obtain ⟨g3, g4⟩ := app_tup G hp2H (g' _ _ hp2') (Reps.same g' _ _ hR) hq1 (fun Hx => tk_reps Hx (kS t.1) t.2 (lay r ++ List.replicate b' 32).length)
      refine ⟨p2, ys, _, rfl, rfl, same_new hq1 _ _ _ (g' _ _ hp2'), by rw [sizeLine_eq]; omega, ?_⟩
      generalize hHH : upd (upd H'' q1 _) p2 _ = HH at g3 g4 ⊢
      have e2 : HH p2 = some (.lst (ys ++ [.ref q1])) := by rw [← hHH]; exact upd_same
      refine rIxL_i (SqL.of (g3 _ _ hp)) (atI_nat ha1) ⟨a, t, rfl, g3 _ _ ha2, htok, fun H3 g5 => ⟨_, rfl, ?_, ?_⟩⟩
      · have := htok.len
        rw [tx_len, hlr]; omega
      · rw [app_tx, ← lay_snoc]
        refine ⟨r ++ [(b', t)], 0, _, _, _, _, by rw [List.replicate_zero, List.append_nil], g3.trans g5, g5 _ _ e2, ?_, by rw [List.length_append, hyl]; rfl, ?_, hch', Nat.zero_le _, fun _ => rfl, ?_, fun y hy => ?_⟩
        · rw [dueT_app, dueT_one, Nat.zero_add, ← hlr]
          exact Reps.same g5 _ _ g4
        · rw [List.map_append, hrm, take_succ_of ht]; rfl
        · have := htok.len
          rw [lay_snoc, List.length_append, hlr, hws]; omega
        · rcases List.mem_append.mp hy with z | z
          · exact hrok y z
          · rw [List.mem_singleton.mp z]; exact htok
  · rintro σ H' ⟨r, b, o4, o5, o6, ys, rfl, g, hp2', hR, hyl, hrm, hch, hb3, hb0, hlen, hrok⟩
    rw [Int.toNat_natCast] at hrm hlen hyl hb0
    walk_at "rd3"
    intro q1 hq1
    have e1 := upd_same (H := H') (a := q1) (o := .lst [V.int 0, V.int (c / 12 % 4)])
    have s1 := same_new hq1 (.lst [V.int 0, V.int (c / 12 % 4)])
    generalize upd H' q1 _ = H1 at s1 e1 ⊢
    obtain ⟨v, hv, hm⟩ := atI_of (xs := [V.int 0, V.int (c / 12 % 4)]) (i := c / 48 % 2) (by omega) (by simp only [List.length_cons, List.length_nil]; omega)
    obtain ⟨j, rfl, j0, j3⟩ : ∃ n : Int, v = .int n ∧ 0 ≤ n ∧ n ≤ 3 := by
      simp only [List.mem_cons, List.not_mem_nil, or_false] at hm
      rcases hm with rfl | rfl
      · exact ⟨_, rfl, by omega, by omega⟩
      · exact ⟨_, rfl, by omega, by omega⟩
    have hrl : r.length = xs.length := by
      have := congrArg List.length hrm
      rw [List.length_map, List.length_take] at this
      omega
    have hlr : (lay r ++ List.replicate b 32).length = (lay r).length + b := by rw [List.length_append, List.length_replicate]
    have hL : lay r ++ List.replicate b 32 ++ List.replicate j.toNat 32 = lay r ++ List.replicate (b + j.toNat) 32 := by rw [List.append_assoc, List.replicate_append_replicate]
    have hwt := wid_take tks xs.length
    have hLl : (lay r ++ List.replicate (b + j.toNat) 32).length ≤ 19996 := by rw [List.length_append, List.length_replicate]; omega
    refine rIxL_i (SqL.of e1) hv ⟨j, rfl, by decide, by omega, by omega, ?_⟩
    rw [ts_sp, rep_one, app_tx, hL, tx_len, tx_len, tx_len, hlr, List.length_replicate]
    generalize hLe : lay r ++ List.replicate (b + j.toNat) 32 = L at hLl ⊢
    refine ⟨by omega, by omega, fun q2 hq2 q3 hq3 => ?_⟩
    have e2 := upd_same (H := H1) (a := q2) (o := .tup [V.str (Str.ofString "end"), V.str (Str.ofString ""), V.int L.length])
    have s2 := same_new hq2 (.tup [V.str (Str.ofString "end"), V.str (Str.ofString ""), V.int L.length])
    generalize upd H1 q2 _ = H2 at s2 e2 hq3 ⊢
    have e3 := upd_same (H := H2) (a := q3) (o := .lst [V.ref q2])
    have s3 := same_new hq3 (.lst [V.ref q2])
    generalize upd H2 q3 _ = H3 at s3 e3 ⊢
    have g3 := s1.trans (s2.trans s3)
    refine ⟨p2, q3, ys, [V.ref q2], rfl, rfl, g3 _ _ hp2', e3, by rw [sizeLine_eq]; simp only [List.length_cons, List.length_nil]; omega, fun q4 hq4 q5 hq5 => ?_⟩
    have e4 := upd_same (H := H3) (a := q4) (o := .lst (ys ++ [V.ref q2]))
    have s4 := same_new hq4 (.lst (ys ++ [V.ref q2]))
    generalize upd H3 q4 _ = H4 at s4 e4 hq5 ⊢
    have s5 := same_new hq5 (.tup [V.str (tx L), V.ref q4])
    have g5 := g3.trans (s4.trans s5)
    have eL : (lay r ++ List.replicate (b + j.toNat) 32).length = L.length := by rw [hLe]
    refine q q5 q4 r (b + j.toNat) _ (g.trans g5) (by rw [hLe]; exact upd_same) ⟨q4, _, rfl, s5 _ _ e4, ?_⟩ hrok hch (by rw [hrm, hxl, List.take_length]) (by omega)
    rw [eL]
    refine Reps.append ?_ (Reps.same g5 _ _ hR)
    exact (show Reps _ [V.ref q2] [endT L.length] from ⟨_, [], rfl, ⟨q2, _, rfl, (s3.trans (s4.trans s5)) _ _ e2, tk_reps _ (Str.ofString "end") [] L.length⟩, rfl⟩)
end
end K28
namespace K28
open PySem L2
local macro_rules | `(tactic| walk_at "rd") => `(tactic| simp only [cxOf_K, nox_K, compCx_K, tSeq, tNext, tAsg, gName, tRet, tRetN, tIfS, tDrop, tOp, tUn, tVar, tC, tCall, tCons, tNil, tTest, tB, tAnd, tOr, tNot, tAndV, tOrV, tNotV, tIf, tCB, tBM, tComp, tTrue, tPart, tNoPart, tSl, tChain, tIsN, tNotN, tLst, tTup, tFor_eq, sDPut, tDNewK, tNever, rI0, rI, rU, rEq, rNe, rMulS, rInC, iRng1, iStr, CDiv, CMul, CPow, scal, List.append_nil, List.getElem?_cons_zero, List.getElem?_cons_succ, List.set_cons_zero, List.set_cons_succ, List.map_cons, List.map_nil, List.length_cons, List.length_nil, sizeLine_eq, Nat.reduceAdd, Nat.reduceLeDiff, Option.join_some, Option.join_none, Option.some.injEq, V.int.injEq, V.str.injEq, V.bl.injEq, V.ref.injEq, V.ty.injEq, List.cons.injEq, and_true, true_and, and_self, exists_eq_left', exists_eq_left, exists_and_left, exists_and_right, decide_eq_true_eq, Bool.not_eq_eq_eq_not, Bool.not_true, Bool.not_false, decide_eq_false_iff_not, Int.reduceLT, Int.reduceLE, Int.reduceNeg, Int.reducePow, Int.reduceAdd, Int.reduceSub, Int.reduceMul, Int.reduceToNat, natAbs10, Nat.reduceLT, Nat.reducePow, or_true, true_or, if_true, if_false, Bool.false_eq_true, ite_true, ite_false, reduceCtorEq])
local macro_rules | `(tactic| walk_at "rd2") => `(tactic| simp only [tDisp, tPairs, tBM0, iList, iDict, tThaw, tMaxD, rMaxD, tDGet, rVals, tComp, cxOf_K, nox_K, compCx_K, tSeq, tNext, tAsg, gName, tRet, tRetN, tIfS, tDrop, tOp, tUn, tVar, tC, tCall, tCons, tNil, tTest, tB, tAnd, tOr, tNot, tAndV, tOrV, tNotV, tIf, tCB, tBM, tComp, tTrue, tPart, tNoPart, tSl, tChain, tIsN, tNotN, tLst, tTup, tFor_eq, sDPut, tDNewK, tNever, rI0, rI, rU, rEq, rNe, rMulS, rInC, iRng1, iStr, CDiv, CMul, CPow, scal, List.append_nil, List.getElem?_cons_zero, List.getElem?_cons_succ, List.set_cons_zero, List.set_cons_succ, List.map_cons, List.map_nil, List.length_cons, List.length_nil, sizeLine_eq, Nat.reduceAdd, Nat.reduceLeDiff, Option.join_some, Option.join_none, Option.some.injEq, V.int.injEq, V.str.injEq, V.bl.injEq, V.ref.injEq, V.ty.injEq, List.cons.injEq, and_true, true_and, and_self, exists_eq_left', exists_eq_left, exists_and_left, exists_and_right, decide_eq_true_eq, Bool.not_eq_eq_eq_not, Bool.not_true, Bool.not_false, decide_eq_false_iff_not, Int.reduceLT, Int.reduceLE, Int.reduceNeg, Int.reducePow, Int.reduceAdd, Int.reduceSub, Int.reduceMul, Int.reduceToNat, natAbs10, Nat.reduceLT, Nat.reducePow, or_true, true_or, if_true, if_false, Bool.false_eq_true, ite_true, ite_false, reduceCtorEq])
seal L2.PSs L2.PS L2.PE L2.PT L2.PW L2.PA L2.PI L2.PG L2.PGs L2.PPs L2.PTs
abbrev sSort : Stmt := top 45
abbrev sAlike : Stmt := top 46
section
variable {P : Program} {w : World} {K : PySem.W.Frag} {mg : Str → Option Value} {base : Heap} {f : Addr} {fd : FuncData}
def sortI (t : String) : Int := if t = "NoneType" then 0 else if t = "bool" then 1 else if t = "int" then 2 else if t = "str" then 3 else if t = "list" then 5 else if t = "dict" then 6 else 4
def spSort : Sp := fun vs H Q _ => ∃ (v : V) (t : String), vs = [v] ∧ tyS H v = some t ∧ ∀ H', Same H H' → Q (.int (sortI t)) H'
theorem scSort : FnScope ["_law_thing"] ["_law_thing"] (defScope sSort) := ⟨rfl, rfl, rfl, by decide +kernel, rfl, by decide +kernel, by decide +kernel⟩
theorem ok_sort (F : Fun K "_law_sort" "_law_sort" sSort f fd) (B : Bl mg) : FnOk P w K mg base CX0 1 f fd ["_law_thing"] spSort := by
  refine F.ok scSort (fun vs H Q E h => ?_) (fun cdv A outer s H vs Q E hr h => ?_)
  · obtain ⟨v, t, rfl, _⟩ := h
    rfl
  obtain ⟨v, t, rfl, ht, q⟩ := h
  have nd := scSort.nd
  refine ⟨_, (pss_cons (ps_if (pt_cmp (pc_isN (pv 0))) (pss_one (ps_ret pe_int)) pss_nil)
    (pss_cons (ps_if (pt_val (pe_callB (call_isi (T := "bool") (by decide)) rfl B.isinstance bt_isinstance (pa_cons (pv 0) (pa_cons (pe_bltn (v := .ty "bool") rfl B.bool bt_bool rfl) pa_nil)))) (pss_one (ps_ret pe_int)) pss_nil)
    (pss_cons (ps_if (pt_val (pe_callB (call_isi (T := "int") (by decide)) rfl B.isinstance bt_isinstance (pa_cons (pv 0) (pa_cons (pe_bltn (v := .ty "int") rfl B.int bt_int rfl) pa_nil)))) (pss_one (ps_ret pe_int)) pss_nil)
    (pss_cons (ps_if (pt_val (pe_callB (call_isi (T := "str") (by decide)) rfl B.isinstance bt_isinstance (pa_cons (pv 0) (pa_cons (pe_bltn (v := .ty "str") rfl B.str bt_str rfl) pa_nil)))) (pss_one (ps_ret pe_int)) pss_nil)
    (pss_one (ps_ret (pe_op op_add (pe_op op_add pe_int (pe_callTy call_intB rfl B.int bt_int (pa_cons (pe_callB (call_isi (T := "list") (by decide)) rfl B.isinstance bt_isinstance (pa_cons (pv 0) (pa_cons (pe_bltn (v := .ty "list") rfl B.list bt_list rfl) pa_nil))) pa_nil))) (pe_op op_mul pe_int (pe_callTy call_intB rfl B.int bt_int (pa_cons (pe_callB (call_isi (T := "dict") (by decide)) rfl B.isinstance bt_isinstance (pa_cons (pv 0) (pa_cons (pe_bltn (v := .ty "dict") rfl B.dict bt_dict rfl) pa_nil))) pa_nil)))))))))), ?_⟩
  rw [show start ["_law_thing"] [v] = [some v] from rfl]
  walk_at "rd2"
  have hm := tyS_mem ht
  have q' := q H (Same.refl H)
  simp only [ht, Option.some.injEq, exists_eq_left']
  by_cases hv : v = .non
  · subst hv; cases ht; rw [if_pos rfl]; exact q'
  · rw [if_neg hv]
    simp only [tyL, List.mem_cons, List.not_mem_nil, or_false] at hm
    rcases hm with rfl | rfl | rfl | rfl | rfl | rfl | rfl
    · exact absurd (tyS_non ht) hv
    all_goals (simpa [isSub, sortI] using q')
theorem all_true : ∀ n : Nat, (List.replicate n true).all id = true
  | 0 => rfl
  | n + 1 => by rw [List.replicate_succ, List.all_cons, all_true n]; rfl
theorem eqLs_same : ∀ xs : List Str, eqLs (xs.map V.str) (xs.map V.str) = true
  | [] => rfl
  | x :: xs => by
    show (eqV (.str x) (.str x) && eqLs (xs.map V.str) (xs.map V.str)) = true
    rw [eqLs_same xs, Bool.and_true]
    exact decide_eq_true rfl
theorem ty_ord (turn : Int) : ∀ t : T, tyT (ordT turn t) = tyT t
  | .lst _ => rfl
  | .dic _ _ => rfl
  | .tup _ => rfl
  | .non => rfl
  | .bl _ => rfl
  | .int _ => rfl
  | .str _ => rfl
def spAlike (n : Nat) : Sp := fun vs H Q _ => ∃ (v u : V) (t : T) (turn : Int), vs = [v, u] ∧ Rep H v (ordT turn t) ∧ Rep H u t ∧ OkR t ∧ T.dep t < n ∧ T.sz t ≤ 1000 ∧ ∀ H', Same H H' → Q (.bl true) H'
theorem scAlike : FnScope ["_law_one", "_law_other"] ["_law_one", "_law_other"] (defScope sAlike) := ⟨rfl, rfl, rfl, by decide +kernel, rfl, by decide +kernel, by decide +kernel⟩
theorem ok_alikeS {n : Nat} (F : Fun K "_law_alike" "_law_alike" sAlike f fd) (B : Bl2 mg) (G_law_sort : Dn P w K mg base 1 "_law_sort" ["_law_thing"] spSort) (G_law_alike : Dn P w K mg base (2 + n) "_law_alike" ["_law_one", "_law_other"] (spAlike n)) :
    FnOk P w K mg base CX0 (2 + n + 1) f fd ["_law_one", "_law_other"] (spAlike (n + 1)) := by
  refine F.ok scAlike (fun vs H Q E h => ?_) (fun cdv A outer s H vs Q E hr h => ?_)
  · obtain ⟨v, u, t, turn, rfl, _⟩ := h
    rfl
  obtain ⟨v, u, t, turn, rfl, hv, hw, hf, hd, hz, q⟩ := h
  have hszE := ord_sz turn t hf
  have nd := scAlike.nd
  have hu := hu_of hr
  have hu0 := hr.units0
  refine ⟨_, (pss_cons (ps_if (pt_cmpR op_ne (pe_cd G_law_sort hr (by omega) rfl (pa_cons (pv 0) pa_nil)) (pe_cd G_law_sort hr (by omega) rfl (pa_cons (pv 1) pa_nil)) (nomark _)) (pss_one (ps_ret pe_bl)) pss_nil)
    (pss_cons (ps_if (pt_val (pe_callB (call_isi (T := "list") (by decide)) rfl B.isinstance bt_isinstance (pa_cons (pv 0) (pa_cons (pe_bltn (v := .ty "list") rfl B.list bt_list rfl) pa_nil)))) (pss_cons (ps_if (pt_cmpR op_ne (pe_callB call_len_l rfl B.len bt_len (pa_cons (pv 0) pa_nil)) (pe_callB call_len_l rfl B.len bt_len (pa_cons (pv 1) pa_nil)) (nomark _)) (pss_one (ps_ret pe_bl)) pss_nil)
    (pss_one (ps_ret (pe_callB (call_all rfl) rfl B.all bt_all (pa_cons (pe_comp (own := ["_law_k"]) (F := [("_law_one", 0), ("_law_other", 1)]) ⟨rfl, by with_unfolding_all rfl, by with_unfolding_all rfl, by with_unfolding_all rfl, (.cons rfl rfl rfl (.cons rfl rfl rfl .nil))⟩ rfl (pi_range1 rfl B.range (pa_cons (pe_callB call_len_l rfl B.len bt_len (pa_cons (pv 0) pa_nil)) pa_nil)) (fun _ _ _ _ => pg_name (i := 0) (by show (compN ["_law_k"] [("_law_one", 0), ("_law_other", 1)]).Nodup; decide +kernel) rfl (Or.inl rfl)) (fun _ _ _ _ => pts_nil) (fun _ _ _ _ => (pe_cd G_law_alike hr (by omega) rfl (pa_cons (pe_ix (ix_listC (K := K) rfl) (pv 1) (pv 0) (fun _ _ => rfl)) (pa_cons (pe_ix (ix_listC (K := K) rfl) (pv 2) (pv 0) (fun _ _ => rfl)) pa_nil))))) pa_nil))))) pss_nil)
    (pss_cons (ps_if (pt_val (pe_callB (call_isi (T := "dict") (by decide)) rfl B.isinstance bt_isinstance (pa_cons (pv 0) (pa_cons (pe_bltn (v := .ty "dict") rfl B.dict bt_dict rfl) pa_nil)))) (pss_cons (ps_if (pt_cmpR (op_ne_l hu0) (pe_callB (call_sorted_d rfl) rfl B.sorted bt_sorted (pa_cons (pv 0) pa_nil)) (pe_callB (call_sorted_d rfl) rfl B.sorted bt_sorted (pa_cons (pv 1) pa_nil)) (nomark _)) (pss_one (ps_ret pe_bl)) pss_nil)
    (pss_one (ps_ret (pe_callB (call_all rfl) rfl B.all bt_all (pa_cons (pe_thaw (pe_comp (own := ["_law_name"]) (F := [("_law_one", 0), ("_law_other", 1)]) ⟨rfl, by with_unfolding_all rfl, by with_unfolding_all rfl, by with_unfolding_all rfl, (.cons rfl rfl rfl (.cons rfl rfl rfl .nil))⟩ rfl (pi_dict (pv 0)) (fun _ _ _ _ => pg_name (i := 0) (by show (compN ["_law_name"] [("_law_one", 0), ("_law_other", 1)]).Nodup; decide +kernel) rfl (Or.inl rfl)) (fun _ _ _ _ => pts_nil) (fun _ _ _ _ => (pe_cd G_law_alike hr (by omega) rfl (pa_cons (pe_dget hu (pv 1) (pv 0) (fun _ _ => rfl)) (pa_cons (pe_dget hu (pv 2) (pv 0) (fun _ _ => rfl)) pa_nil)))))) pa_nil))))) pss_nil)
    (pss_one (ps_ret (pe_cmpR op_eq (pv 0) (pv 1) (nomark _))))))), ?_⟩
  rw [show start ["_law_one", "_law_other"] [v, u] = [some v, some u] from rfl]
  walk_at "rd2"
  refine ⟨v, _, rfl, hv.ty, fun H1 g1 => ⟨u, _, rfl, (Rep.same g1 _ _ hw).ty, fun H2 g2 => ⟨rfl, false, by rw [ty_ord]; simp, iteF ?_⟩⟩⟩
  have g0 := g1.trans g2
  have hv := Rep.same g0 _ _ hv
  have hw := Rep.same g0 _ _ hw
  cases t with
  | lst us =>
    have hty : tyS H2 v = some "list" := hv.ty
    refine ⟨_, hty, iP (by decide +kernel) ?_⟩
    obtain ⟨a, xs, rfl, ha, hx⟩ := hv
    obtain ⟨b, ys, rfl, hb, hy⟩ := hw
    have hd' : T.deps us + 1 < n + 1 := hd
    have hz' : T.szs us + 1 ≤ 1000 := hz
    have hxl := hx.length
    rw [ordTs_map, List.length_map] at hxl
    have hyl := hy.length
    have hul := T.szs_len us
    refine ⟨a, rfl, xs, SqL.of ha, b, rfl, ys, SqL.of hb, false, by rw [hxl, hyl]; simp, iteF ⟨a, rfl, xs, SqL.of ha, by omega, by omega, ?_⟩⟩
    rw [Int.toNat_natCast]
    refine comp_rng (fun i zs H' => Same H2 H' ∧ zs = (List.replicate i true).map V.bl) (by rw [sizeLine_eq]; omega) ⟨Same.refl _, rfl⟩ ?_ ?_
    · rintro i zs H' hi _ ⟨g, rfl⟩
      obtain ⟨t1, ht1, hr1⟩ := hx.get (i := i) (v := xs[i]) (by simp [hi])
      obtain ⟨t2, ht2, hr2⟩ := hy.get (i := i) (v := ys[i]) (by simp [hyl, ← hxl, hi])
      rw [ordTs_map, List.getElem?_map, ht2] at ht1
      cases ht1
      have hm := List.mem_of_getElem? ht2
      have d1 := T.deps_le hm
      have d2 := T.szs_le hm
      walk_at "rd2"
      refine rIxL_i (SqL.of (g _ _ ha)) (v := xs[i]) (by rw [Int.zero_add]; exact atI_nat (by simp [hi])) (rIxL_i (SqL.of (g _ _ hb)) (v := ys[i]) (by rw [Int.zero_add]; exact atI_nat (by simp [hyl, ← hxl, hi])) ⟨_, _, t2, turn, rfl, Rep.same g _ _ hr1, Rep.same g _ _ hr2, hf.2.mem hm, by omega, by omega, fun H4 g4 => ⟨g.trans g4, ?_⟩⟩)
      rw [List.replicate_succ']
      simp
    · rintro zs H' _ ⟨g, rfl⟩ p hp
      refine ⟨p, rfl, List.replicate xs.length true, SqL.of upd_same, ?_⟩
      rw [all_true]
      exact q _ (g0.trans (g.trans (same_new hp _)))
  | dic ks us =>
    have hty : tyS H2 v = some "dict" := hv.ty
    refine ⟨_, hty, iN (by decide +kernel) ⟨_, hty, iP (by decide +kernel) ?_⟩⟩
    have hRd := hv
    obtain ⟨a, ps, rfl, ha, hk, hx⟩ := hv
    obtain ⟨b, rs, rfl, hb, hkb, hy⟩ := hw
    obtain ⟨nk, hle, h30, hnm, hf⟩ := hf
    have hrp := rotN_perm turn ks
    have hrn : (rotN turn ks).Nodup := hrp.nodup_iff.mpr nk
    have hd' : T.deps us + 1 < n + 1 := hd
    have hz' : T.szs us + 1 ≤ 1000 := hz
    have hrl := hrp.length_eq
    refine ⟨a, rfl, ps, .inl ha, (rotN turn ks).map tx, by rw [hk, List.map_map]; rfl, by rw [List.length_map]; omega, fun l1 s1 hl1 hp1 hs1 => ?_⟩
    have G1 := same_new hl1 (.lst (s1.map V.str))
    refine ⟨b, rfl, rs, .inl (G1 _ _ hb), ks.map tx, by rw [hkb, List.map_map]; rfl, by rw [List.length_map]; omega, fun l2 s2 hl2 hp2 hs2 => ?_⟩
    have G2 := same_new hl2 (.lst (s2.map V.str))
    have e1 := sorted_names (hp1.trans (hrp.map tx)) hs1
    have e2 := sorted_names hp2 hs2
    refine rEqL_i (SqL.of (G2 _ _ upd_same)) (SqL.of upd_same) (flat_strs _) (flat_strs _) ⟨false, ?_, iteF ?_⟩
    · rw [e1, e2, if_pos rfl, eqLs_same]; rfl
    have G := G1.trans G2
    generalize upd (upd H2 l1 (.lst (s1.map V.str))) l2 (.lst (s2.map V.str)) = H3 at G ⊢
    have gH := g0.trans G
    have hRd := Rep.same G _ _ hRd
    have ha := G _ _ ha
    have hb := G _ _ hb
    have hx := Reps.same G _ _ hx
    have hy := Reps.same G _ _ hy
    have hpl : ps.length = ks.length := by
      have := congrArg List.length hk
      rw [List.length_map, List.length_map] at this
      omega
    have nkp : (ps.map (·.1)).Nodup := by rw [hk]; exact nodup_nK hrn
    have hsz : T.szs us < T.sz (ordT turn (.dic ks us)) := by rw [hszE]; exact Nat.lt_succ_self _
    refine ⟨a, rfl, ps, .inl ⟨ha, fun o => ?_⟩⟩
    have hxf : Reps (upd H3 a (.frz o (.dK ps))) (ps.map (·.2)) ((rotN turn ks).map fun k => lookT k ks (ordTs turn us)) := small_away hRd (Nat.lt_succ_self _) hx
    have hyf : Reps (upd H3 a (.frz o (.dK ps))) (rs.map (·.2)) us := small_away hRd hsz hy
    have hbf : ∀ H', Same (upd H3 a (.frz o (.dK ps))) H' → Rd H' b (.dK rs) := fun H' g => by
      by_cases e : b = a
      · subst e
        rw [ha] at hb
        cases hb
        exact .inr ⟨o, g _ _ upd_same⟩
      · exact .inl (g _ _ (by rw [upd_ne e]; exact hb))
    refine comp_dict (fun i zs H' => Same (upd H3 a (.frz o (.dK ps))) H' ∧ zs = (List.replicate i true).map V.bl) ?_ ⟨Same.refl _, rfl⟩ (fun i zs H' h => h.1 _ _ upd_same) ?_ ?_
    · rw [sizeLine_eq]; omega
    · rintro i kv zs H' hkv _ ⟨g, rfl⟩
      have hkey : ((rotN turn ks).map nK)[i]? = some kv.1 := by rw [← hk, List.getElem?_map, hkv]; rfl
      obtain ⟨k, hki, hkk⟩ : ∃ k, (rotN turn ks)[i]? = some k ∧ nK k = kv.1 := by
        rw [List.getElem?_map] at hkey
        cases hc : (rotN turn ks)[i]? with
        | none => rw [hc] at hkey; cases hkey
        | some k => rw [hc] at hkey; exact ⟨k, rfl, Option.some.inj hkey⟩
      obtain ⟨t1, ht1, hr1⟩ := hxf.get (i := i) (v := kv.2) (by rw [List.getElem?_map, hkv]; rfl)
      rw [List.getElem?_map, hki] at ht1
      cases ht1
      have hr1 : Rep (upd H3 a (.frz o (.dK ps))) kv.2 (lookT k ks (ordTs turn us)) := hr1
      rw [look_ord] at hr1
      have hmk : k ∈ ks := hrp.mem_iff.mp (List.mem_of_getElem? hki)
      have hm := lookT_mem hmk hle
      have d1 := T.deps_le hm
      have d2 := T.szs_le hm
      obtain ⟨y, hy1, hy2⟩ := Rep.at_name nk hkb hyf hmk
      walk_at "rd2"
      refine ⟨kv.2, .inl ⟨ps, kv.1, .inr ⟨o, g _ _ upd_same⟩, rfl, (valV_ix nkp hkv).symm⟩, y, .inl ⟨rs, kv.1, hbf _ g, rfl, ?_⟩, kv.2, y, lookT k ks us, turn, rfl, Rep.same g _ _ hr1, Rep.same g _ _ hy2, hf.mem hm, by omega, by omega, fun H4 g4 => ⟨g.trans g4, ?_⟩⟩
      · rw [← hkk]; exact hy1.symm
      · rw [List.replicate_succ']
        simp
    · rintro zs H' _ ⟨g, rfl⟩ p hp
      have gs : Same H3 (thaw H3 (upd H' p (.lst ((List.replicate ps.length true).map V.bl)))) := thaw_walk (o := o) ha (g.trans (same_new hp _))
      refine ⟨p, rfl, List.replicate ps.length true, SqL.of (thaw_of upd_same (by intro o v z; cases z)), ?_⟩
      rw [all_true]
      exact q _ (gH.trans gs)
  | non =>
    cases (show v = _ from hv); cases (show u = _ from hw)
    exact ⟨_, rfl, iN (by decide +kernel) ⟨_, rfl, iN (by decide +kernel) ⟨rfl, q _ g0⟩⟩⟩
  | tup us => exact hf.elim
  | bl b =>
    cases (show v = _ from hv); cases (show u = _ from hw)
    refine ⟨_, rfl, iN (by decide +kernel) ⟨_, rfl, iN (by decide +kernel) ⟨rfl, ?_⟩⟩⟩
    have z := q _ g0
    cases b <;> exact z
  | int b =>
    cases (show v = _ from hv); cases (show u = _ from hw)
    refine ⟨_, rfl, iN (by decide +kernel) ⟨_, rfl, iN (by decide +kernel) ⟨rfl, ?_⟩⟩⟩
    rw [decide_eq_true rfl]
    exact q _ g0
  | str b =>
    cases (show v = _ from hv); cases (show u = _ from hw)
    refine ⟨_, rfl, iN (by decide +kernel) ⟨_, rfl, iN (by decide +kernel) ⟨rfl, ?_⟩⟩⟩
    rw [decide_eq_true rfl]
    exact q _ g0
theorem ok_alike0 (F : Fun K "_law_alike" "_law_alike" sAlike f fd) : FnOk P w K mg base CX0 2 f fd ["_law_one", "_law_other"] (spAlike 0) := by
  refine F.ok scAlike (fun vs H Q E h => ?_) (fun cdv A outer s H vs Q E hr h => ?_)
  · obtain ⟨v, u, t, turn, rfl, _⟩ := h
    rfl
  obtain ⟨v, u, t, turn, rfl, hv, hw, hf, hd, _⟩ := h
  exact absurd hd (Nat.not_lt_zero _)
theorem alike_all (F : Fun K "_law_alike" "_law_alike" sAlike f fd) (B : Bl2 mg) (Gs : Dn P w K mg base 1 "_law_sort" ["_law_thing"] spSort) (b : Binds K fd ["_law_one", "_law_other"] []) (kp : PySem.W.keepIn K (.ref f) = true) (m : mg "_law_alike" = some (.ref f)) :
    ∀ n : Nat, FnOk P w K mg base CX0 (2 + n) f fd ["_law_one", "_law_other"] (spAlike n)
  | 0 => ok_alike0 F
  | n + 1 => ok_alikeS F B Gs ⟨_, _, alike_all F B Gs b kp m n, b, kp, m⟩
theorem thing_all (F : Fun K "_law_thing_by" "_law_thing_by" sThing f fd) (B : Bl mg) (Gc : Dn P w K mg base 1 "_law_cell" ["_law_script", "_law_k"] (spCell K)) (Gn : Dn P w K mg base 1 "_law_number_by" ["_law_more"] spNum)
    (Gt : Dn P w K mg base 2 "_law_text_by" ["_law_more"] spText) (Gm : Dn P w K mg base 1 "_law_name_by" ["_law_more"] spName) (b : Binds K fd ["_law_script", "_law_k", "_law_deep"] []) (kp : PySem.W.keepIn K (.ref f) = true) (m : mg "_law_thing_by" = some (.ref f)) :
    ∀ d : Nat, FnOk P w K mg base CX0 (3 + d) f fd ["_law_script", "_law_k", "_law_deep"] (spThing K d)
  | 0 => ok_thing0 F B Gc Gn Gt
  | d + 1 => ok_thingS F B Gc Gn Gt Gm ⟨_, _, thing_all F B Gc Gn Gt Gm b kp m d, b, kp, m⟩
end
end K28
namespace K28
open PySem L2
local macro_rules | `(tactic| walk_at "rd") => `(tactic| simp only [cxOf_K, nox_K, compCx_K, tSeq, tNext, tAsg, gName, tRet, tRetN, tIfS, tDrop, tOp, tUn, tVar, tC, tCall, tCons, tNil, tTest, tB, tAnd, tOr, tNot, tAndV, tOrV, tNotV, tIf, tCB, tBM, tComp, tTrue, tPart, tNoPart, tSl, tChain, tIsN, tNotN, tLst, tTup, tFor_eq, sDPut, tDNewK, tNever, rI0, rI, rU, rEq, rNe, rMulS, rInC, iRng1, iStr, CDiv, CMul, CPow, scal, List.append_nil, List.getElem?_cons_zero, List.getElem?_cons_succ, List.set_cons_zero, List.set_cons_succ, List.map_cons, List.map_nil, List.length_cons, List.length_nil, sizeLine_eq, Nat.reduceAdd, Nat.reduceLeDiff, Option.join_some, Option.join_none, Option.some.injEq, V.int.injEq, V.str.injEq, V.bl.injEq, V.ref.injEq, V.ty.injEq, List.cons.injEq, and_true, true_and, and_self, exists_eq_left', exists_eq_left, exists_and_left, exists_and_right, decide_eq_true_eq, Bool.not_eq_eq_eq_not, Bool.not_true, Bool.not_false, decide_eq_false_iff_not, Int.reduceLT, Int.reduceLE, Int.reduceNeg, Int.reducePow, Int.reduceAdd, Int.reduceSub, Int.reduceMul, Int.reduceToNat, natAbs10, Nat.reduceLT, Nat.reducePow, or_true, true_or, if_true, if_false, Bool.false_eq_true, ite_true, ite_false, reduceCtorEq])
local macro_rules | `(tactic| walk_at "rd2") => `(tactic| simp only [tDisp, tPairs, tBM0, iList, iDict, tThaw, tMaxD, rMaxD, tDGet, rVals, tComp, cxOf_K, nox_K, compCx_K, tSeq, tNext, tAsg, gName, tRet, tRetN, tIfS, tDrop, tOp, tUn, tVar, tC, tCall, tCons, tNil, tTest, tB, tAnd, tOr, tNot, tAndV, tOrV, tNotV, tIf, tCB, tBM, tComp, tTrue, tPart, tNoPart, tSl, tChain, tIsN, tNotN, tLst, tTup, tFor_eq, sDPut, tDNewK, tNever, rI0, rI, rU, rEq, rNe, rMulS, rInC, iRng1, iStr, CDiv, CMul, CPow, scal, List.append_nil, List.getElem?_cons_zero, List.getElem?_cons_succ, List.set_cons_zero, List.set_cons_succ, List.map_cons, List.map_nil, List.length_cons, List.length_nil, sizeLine_eq, Nat.reduceAdd, Nat.reduceLeDiff, Option.join_some, Option.join_none, Option.some.injEq, V.int.injEq, V.str.injEq, V.bl.injEq, V.ref.injEq, V.ty.injEq, List.cons.injEq, and_true, true_and, and_self, exists_eq_left', exists_eq_left, exists_and_left, exists_and_right, decide_eq_true_eq, Bool.not_eq_eq_eq_not, Bool.not_true, Bool.not_false, decide_eq_false_iff_not, Int.reduceLT, Int.reduceLE, Int.reduceNeg, Int.reducePow, Int.reduceAdd, Int.reduceSub, Int.reduceMul, Int.reduceToNat, natAbs10, Nat.reduceLT, Nat.reducePow, or_true, true_or, if_true, if_false, Bool.false_eq_true, ite_true, ite_false, reduceCtorEq])
seal L2.PSs L2.PS L2.PE L2.PT L2.PW L2.PA L2.PI L2.PG L2.PGs L2.PPs L2.PTs
abbrev sWritten : Stmt := top 37
abbrev sLWr : Stmt := top 47
section
variable {P : Program} {w : World} {K : PySem.W.Frag} {mg : Str → Option Value} {base : Heap} {f : Addr} {fd : FuncData}
def spWr (n : Nat) : Sp := fun vs H Q _ => ∃ (v : V) (t : T), vs = [v] ∧ Rep H v t ∧ T.okw t ∧ T.dep t < n ∧ T.sz t ≤ 1000 ∧ ∀ H', Same H H' → Q (.str (wrT t)) H'
theorem scWritten : FnScope ["thing", "kind"] ["thing"] (defScope sWritten) := ⟨rfl, rfl, rfl, by decide +kernel, rfl, by decide +kernel, by decide +kernel⟩
theorem ok_writtenS {n : Nat} (F : Fun K "written" "written" sWritten f fd) (B : Bl2 mg) (Gkind_of : Dn P w K mg base 1 "kind_of" ["thing"] spKind) (Gwritten : Dn P w K mg base (2 + n) "written" ["thing"] (spWr n)) :
    FnOk P w K mg base CX0 (2 + n + 1) f fd ["thing"] (spWr (n + 1)) := by
  refine F.ok scWritten (fun vs H Q E h => ?_) (fun cdv A outer s H vs Q E hr h => ?_)
  · obtain ⟨v, t, rfl, _⟩ := h
    rfl
  obtain ⟨v, t, rfl, hv, hf, hd, hz, q⟩ := h
  have nd := scWritten.nd
  have hu := hu_of hr
  refine ⟨_, (pss_cons (ps_set (i := 1) nd rfl (Or.inl rfl) (pe_cd Gkind_of hr (by omega) rfl (pa_cons (pv 0) pa_nil)))
    (pss_cons (ps_if (pt_cmpR op_eq (pv 1) pe_str (nomark _)) (pss_one (ps_ret pe_str)) pss_nil)
    (pss_cons (ps_if (pt_cmpR op_eq (pv 1) pe_str (nomark _)) (pss_one (ps_ret (pe_ifExp (pt_truth (pv 0) (fun _ => rfl)) pe_str pe_str))) pss_nil)
    (pss_cons (ps_if (pt_cmpR op_eq (pv 1) pe_str (nomark _)) (pss_one (ps_ret (pe_callTy call_str_int rfl B.str bt_str (pa_cons (pv 0) pa_nil)))) pss_nil)
    (pss_cons (ps_if (pt_cmpR op_eq (pv 1) pe_str (nomark _)) (pss_one (ps_ret (pe_op op_add_str (pe_op_lit op_add_str (pet_replace (i := 0) rfl (by first | exact Or.inl rfl | exact Or.inr (Or.inl rfl) | exact Or.inr (Or.inr rfl)) (by decide +kernel) (by decide +kernel))) pe_str))) pss_nil)
    (pss_cons (ps_if (pt_cmpR op_eq (pv 1) pe_str (nomark _)) (pss_one (ps_ret (pe_op op_add_str (pe_op op_add_str pe_str (pe_bm PySem.F.plainAttrs_str PySem.F.slot_str_join PySem.F.type_str_join mt_joinG pe_str (pa_cons (pe_comp (own := ["part"]) (F := []) ⟨rfl, by with_unfolding_all rfl, by with_unfolding_all rfl, by with_unfolding_all rfl, .nil⟩ rfl (pi_list (pv 0)) (fun _ _ _ _ => pg_name (i := 0) (by show (compN ["part"] []).Nodup; decide +kernel) rfl (Or.inl rfl)) (fun _ _ _ _ => pts_nil) (fun _ _ _ _ => (pe_cd Gwritten hr (by omega) rfl (pa_cons (pv 0) pa_nil)))) pa_nil))) pe_str))) pss_nil)
    (pss_one (ps_ret (pe_op op_add_str (pe_op op_add_str pe_str (pe_bm PySem.F.plainAttrs_str PySem.F.slot_str_join PySem.F.type_str_join mt_joinG pe_str (pa_cons (pe_comp (own := ["name"]) (F := [("thing", 0)]) ⟨rfl, by with_unfolding_all rfl, by with_unfolding_all rfl, by with_unfolding_all rfl, (.cons rfl rfl rfl .nil)⟩ rfl (pi_list (pe_callB (call_sorted_d rfl) rfl B.sorted bt_sorted (pa_cons (pv 0) pa_nil))) (fun _ _ _ _ => pg_name (i := 0) (by show (compN ["name"] [("thing", 0)]).Nodup; decide +kernel) rfl (Or.inl rfl)) (fun _ _ _ _ => pts_nil) (fun _ _ _ _ => (pe_op op_add_str (pe_op op_add_str (pv 0) pe_str) (pe_cd Gwritten hr (by omega) rfl (pa_cons (pe_dget hu (pv 1) (pv 0) (fun _ _ => rfl)) pa_nil))))) pa_nil))) pe_str))))))))), ?_⟩
  rw [show start ["thing", "kind"] [v] = [some v, none] from rfl]
  walk_at "rd2"
  cases t with
  | non =>
    refine ⟨v, _, rfl, hv.ty, fun H1 g1 => ?_⟩
    rw [show kindV (tyT T.non) = .str "nothing" from by decide +kernel]
    exact ⟨rfl, iP rfl (q _ g1)⟩
  | bl b =>
    refine ⟨v, _, rfl, hv.ty, fun H1 g1 => ?_⟩
    rw [show kindV (tyT (T.bl b)) = .str "truth" from by show kindV "bool" = _; decide +kernel]
    refine ⟨rfl, iN (by decide +kernel) ⟨rfl, iP rfl ?_⟩⟩
    cases (show v = _ from hv)
    have z := q H1 g1
    refine ⟨b, rfl, ?_⟩
    cases b <;> exact z
  | int i =>
    refine ⟨v, _, rfl, hv.ty, fun H1 g1 => ?_⟩
    rw [show kindV (tyT (T.int i)) = .str "number" from by show kindV "int" = _; decide +kernel]
    cases (show v = _ from hv)
    refine ⟨rfl, iN (by decide +kernel) ⟨rfl, iN (by decide +kernel) ⟨rfl, iP rfl ⟨i, rfl, logs_ok13 hf.1 hf.2, q _ g1⟩⟩⟩⟩
  | str x =>
    refine ⟨v, _, rfl, hv.ty, fun H1 g1 => ?_⟩
    rw [show kindV (tyT (T.str x)) = .str "text" from by show kindV "str" = _; decide +kernel]
    cases (show v = _ from hv)
    refine ⟨rfl, iN (by decide +kernel) ⟨rfl, iN (by decide +kernel) ⟨rfl, iN (by decide +kernel) ⟨rfl, iP rfl ?_⟩⟩⟩⟩
    have hx : (tx x).length = x.length := tx_len x
    have hx' : x.length ≤ 30 := hf
    have h1 := replace_len (tx x) (Str.ofString "'") (Str.ofString "''")
    have h2 : (Str.ofString "''").length = 2 := by decide +kernel
    have h3 : (Str.ofString "'").length = 1 := by decide +kernel
    rw [hx, h2] at h1
    refine ⟨tx x, rfl, by omega, _, rfl, by omega, ?_, q _ g1⟩
    rw [app_len]; omega
  | lst us =>
    refine ⟨v, _, rfl, hv.ty, fun H1 g1 => ?_⟩
    rw [show kindV (tyT (T.lst us)) = .str "row" from by show kindV "list" = _; decide +kernel]
    refine ⟨rfl, iN (by decide +kernel) ⟨rfl, iN (by decide +kernel) ⟨rfl, iN (by decide +kernel) ⟨rfl, iN (by decide +kernel) ⟨rfl, iP rfl ?_⟩⟩⟩⟩⟩
    obtain ⟨a, xs, rfl, ha, hx⟩ := hv
    have hd' : T.deps us + 1 < n + 1 := hd
    have hz' : T.szs us + 1 ≤ 1000 := hz
    have hxl := hx.length
    have hul := T.szs_len us
    have hw := wr_len (.lst us) hf
    have hws := wrs_len us hf
    refine ⟨rfl, a, rfl, ⟨_, SqL.of (g1 _ _ ha)⟩, comp_list (K := K) (xs := xs) (fun i zs H' => Same H1 H' ∧ zs = ((us.take i).map wrT).map V.str) ?_ ⟨Same.refl _, rfl⟩ (fun i zs H' _ h => SqL.of (h.1 _ _ (g1 _ _ ha))) ?_ ?_⟩
    · rw [sizeLine_eq]; omega
    · rintro i u zs H' hu' _ ⟨g, rfl⟩
      obtain ⟨t', ht', hr'⟩ := hx.get hu'
      have hm := List.mem_of_getElem? ht'
      have d1 := T.deps_le hm
      have d2 := T.szs_le hm
      walk_at "rd2"
      refine ⟨u, t', rfl, Rep.same (g1.trans g) u t' hr', T.okws_mem hf hm, by omega, by omega, fun H4 g4 => ⟨g.trans g4, ?_⟩⟩
      rw [take_succ_of ht']
      simp
    · rintro zs H' _ ⟨g, rfl⟩ p hp'
      rw [hxl, List.take_length]
      have hz2 : T.sz (.lst us) ≤ 1000 := hz
      have e : wrT (.lst us) = Str.ofString "[" ++ Txt.join (Str.ofString ", ") (us.map wrT) ++ Str.ofString "]" := by rw [← wrTs_map]; rfl
      rw [e, app_len, app_len] at hw
      have h2 : (Str.ofString ", ").length = 2 := by decide +kernel
      refine ⟨Str.ofString ", ", p, us.map wrT, rfl, rfl, SqL.of upd_same, ?_, _, rfl, by omega, ?_, ?_⟩
      · rw [← wrTs_map, wrTs_len, h2]; omega
      · rw [app_len]; omega
      · rw [← e]; exact q _ (g1.trans (g.trans (same_new hp' _)))
  | dic ks us =>
    refine ⟨v, _, rfl, hv.ty, fun H1 g1 => ?_⟩
    rw [show kindV (tyT (T.dic ks us)) = .str "record" from by show kindV "dict" = _; decide +kernel]
    refine ⟨rfl, iN (by decide +kernel) ⟨rfl, iN (by decide +kernel) ⟨rfl, iN (by decide +kernel) ⟨rfl, iN (by decide +kernel) ⟨rfl, iN (by decide +kernel) ?_⟩⟩⟩⟩⟩
    obtain ⟨a, ps, rfl, ha, hk, hx⟩ := hv
    have hw := wr_len (.dic ks us) hf
    obtain ⟨nk, h64, hle, hnm, hf⟩ := hf
    have hd' : T.deps us + 1 < n + 1 := hd
    have hz' : T.szs us + 1 ≤ 1000 := hz
    refine ⟨rfl, a, rfl, ps, .inl (g1 _ _ ha), ks.map tx, by rw [hk, List.map_map]; rfl, by rw [List.length_map]; exact h64, fun l ss hl hp1 hs1 => ⟨⟨_, SqL.of upd_same⟩, ?_⟩⟩
    have es := sorted_names hp1 hs1
    have hlen : (ss.map V.str).length = (sortK ks).length := by rw [es, List.length_map, List.length_map]
    have hlk : (sortK ks).length = ks.length := (sortK_perm ks).length_eq
    have g0 : Same H (upd H1 l (.lst (ss.map V.str))) := g1.trans (same_new hl _)
    have hll : upd H1 l (.lst (ss.map V.str)) l = some (.lst (ss.map V.str)) := upd_same
    generalize upd H1 l (.lst (ss.map V.str)) = H2 at g0 hll ⊢
    refine comp_list (K := K) (xs := ss.map V.str) (fun i zs H' => Same H2 H' ∧ zs = (((sortK ks).take i).map fun k => tx k ++ Str.ofString ": " ++ lookS k ks (wrTs us)).map V.str) ?_ ⟨Same.refl _, rfl⟩ (fun i zs H' _ h => SqL.of (h.1 _ _ hll)) ?_ ?_
    · rw [sizeLine_eq, hlen]; omega
    · rintro i y zs H' hy _ ⟨g, rfl⟩
      rw [es, List.map_map, List.getElem?_map] at hy
      cases hki : (sortK ks)[i]? with
      | none => rw [hki] at hy; cases hy
      | some k =>
        rw [hki] at hy
        have ey : V.str (tx k) = y := Option.some.inj hy
        subst ey
        have gg := g0.trans g
        have hmk := mem_sortK.mp (List.mem_of_getElem? hki)
        have hm := lookT_mem hmk hle
        have d1 := T.deps_le hm
        have d2 := T.szs_le hm
        obtain ⟨v, hv1, hv2⟩ := Rep.at_name nk hk (Reps.same gg _ _ hx) hmk
        walk_at "rd2"
        have hk12 := hnm k hmk
        have htl : (tx k).length = k.length := tx_len k
        have hc2 : (Str.ofString ": ").length = 2 := by decide +kernel
        have hwl := wr_len _ (T.okws_mem hf hm)
        refine ⟨by omega, v, .inl ⟨ps, Sum.inr (tx k), .inl (gg _ _ ha), rfl, hv1.symm⟩, v, lookT k ks us, rfl, hv2, T.okws_mem hf hm, by omega, by omega, fun H4 g4 => ⟨_, rfl, ?_, g.trans g4, ?_⟩⟩
        · rw [app_len]; omega
        · rw [take_succ_of hki, look_wr]
          simp
    · rintro zs H' _ ⟨g, rfl⟩ p hp'
      rw [hlen, List.take_length]
      have hz2 : T.sz (.dic ks us) ≤ 1000 := hz
      have e : wrT (.dic ks us) = Str.ofString "{" ++ Txt.join (Str.ofString ", ") ((sortK ks).map fun k => tx k ++ Str.ofString ": " ++ lookS k ks (wrTs us)) ++ Str.ofString "}" := rfl
      rw [e, app_len, app_len] at hw
      have h2 : (Str.ofString ", ").length = 2 := by decide +kernel
      have h0 := dic_sum (ws := wrTs us) nk (by rw [wrTs_len]; exact hle) hnm
      have hws := wrs_len us hf
      refine ⟨Str.ofString ", ", p, (sortK ks).map fun k => tx k ++ Str.ofString ": " ++ lookS k ks (wrTs us), rfl, rfl, SqL.of upd_same, ?_, _, rfl, by omega, ?_, ?_⟩
      · rw [List.length_map, hlk, h2]; omega
      · rw [app_len]; omega
      · rw [← e]; exact q _ (g0.trans (g.trans (same_new hp' _)))
  | tup us => exact hf.elim
theorem scLWr : FnScope ["_law_thing"] ["_law_thing"] (defScope sLWr) := ⟨rfl, rfl, rfl, by decide +kernel, rfl, by decide +kernel, by decide +kernel⟩
theorem ok_lwrS {n : Nat} (F : Fun K "_law_written" "_law_written" sLWr f fd) (B : Bl3 mg) (G_law_written : Dn P w K mg base (2 + n) "_law_written" ["_law_thing"] (spWr n)) :
    FnOk P w K mg base CX0 (2 + n + 1) f fd ["_law_thing"] (spWr (n + 1)) := by
  refine F.ok scLWr (fun vs H Q E h => ?_) (fun cdv A outer s H vs Q E hr h => ?_)
  · obtain ⟨v, t, rfl, _⟩ := h
    rfl
  obtain ⟨v, t, rfl, hv, hf, hd, hz, q⟩ := h
  have nd := scLWr.nd
  have hu := hu_of hr
  refine ⟨_, (pss_cons (ps_if (pt_cmp (pc_isN (pv 0))) (pss_one (ps_ret pe_str)) pss_nil)
    (pss_cons (ps_if (pt_val (pe_callB (call_isi (T := "bool") (by decide)) rfl B.isinstance bt_isinstance (pa_cons (pv 0) (pa_cons (pe_bltn (v := .ty "bool") rfl B.bool bt_bool rfl) pa_nil)))) (pss_one (ps_ret (pe_ix ix_list (pe_lst (pa_cons pe_str (pa_cons pe_str pa_nil))) (pe_callTy call_int1 rfl B.int bt_int (pa_cons (pv 0) pa_nil)) (fun _ _ => rfl)))) pss_nil)
    (pss_cons (ps_if (pt_val (pe_callB (call_isi (T := "int") (by decide)) rfl B.isinstance bt_isinstance (pa_cons (pv 0) (pa_cons (pe_bltn (v := .ty "int") rfl B.int bt_int rfl) pa_nil)))) (pss_one (ps_ret (pe_op op_add_str (pe_op op_mul_str pe_str (pe_callTy call_intB rfl B.int bt_int (pa_cons (pe_cmpR op_lt (pv 0) pe_int (nomark _)) pa_nil))) (pe_callTy call_str_int rfl B.str bt_str (pa_cons (pe_callB call_abs rfl B.abs bt_abs (pa_cons (pv 0) pa_nil)) pa_nil))))) pss_nil)
    (pss_cons (ps_if (pt_val (pe_callB (call_isi (T := "str") (by decide)) rfl B.isinstance bt_isinstance (pa_cons (pv 0) (pa_cons (pe_bltn (v := .ty "str") rfl B.str bt_str rfl) pa_nil)))) (pss_one (ps_ret (pe_op op_add_str (pe_op op_add_str pe_str (pe_bm PySem.F.plainAttrs_str PySem.F.slot_str_join PySem.F.type_str_join mt_joinG pe_str (pa_cons (pe_bm PySem.F.plainAttrs_str PySem.F.slot_str_split PySem.F.type_str_split mt_split (pv 0) (pa_cons pe_str pa_nil)) pa_nil))) pe_str))) pss_nil)
    (pss_cons (ps_if (pt_val (pe_callB (call_isi (T := "list") (by decide)) rfl B.isinstance bt_isinstance (pa_cons (pv 0) (pa_cons (pe_bltn (v := .ty "list") rfl B.list bt_list rfl) pa_nil)))) (pss_one (ps_ret (pe_op op_add_str (pe_op op_add_str pe_str (pe_bm PySem.F.plainAttrs_str PySem.F.slot_str_join PySem.F.type_str_join mt_joinG pe_str (pa_cons (pe_comp (own := ["_law_one"]) (F := []) ⟨rfl, by with_unfolding_all rfl, by with_unfolding_all rfl, by with_unfolding_all rfl, .nil⟩ rfl (pi_list (pv 0)) (fun _ _ _ _ => pg_name (i := 0) (by show (compN ["_law_one"] []).Nodup; decide +kernel) rfl (Or.inl rfl)) (fun _ _ _ _ => pts_nil) (fun _ _ _ _ => (pe_cd G_law_written hr (by omega) rfl (pa_cons (pv 0) pa_nil)))) pa_nil))) pe_str))) pss_nil)
    (pss_one (ps_ret (pe_op op_add_str (pe_op op_add_str pe_str (pe_bm PySem.F.plainAttrs_str PySem.F.slot_str_join PySem.F.type_str_join mt_joinG pe_str (pa_cons (pe_comp (own := ["_law_name"]) (F := [("_law_thing", 0)]) ⟨rfl, by with_unfolding_all rfl, by with_unfolding_all rfl, by with_unfolding_all rfl, (.cons rfl rfl rfl .nil)⟩ rfl (pi_list (pe_callB (call_sorted_d rfl) rfl B.sorted bt_sorted (pa_cons (pv 0) pa_nil))) (fun _ _ _ _ => pg_name (i := 0) (by show (compN ["_law_name"] [("_law_thing", 0)]).Nodup; decide +kernel) rfl (Or.inl rfl)) (fun _ _ _ _ => pts_nil) (fun _ _ _ _ => (pe_op op_add_str (pe_op op_add_str (pv 0) pe_str) (pe_cd G_law_written hr (by omega) rfl (pa_cons (pe_dget hu (pv 1) (pv 0) (fun _ _ => rfl)) pa_nil))))) pa_nil))) pe_str)))))))), ?_⟩
  rw [show start ["_law_thing"] [v] = [some v] from rfl]
  walk_at "rd2"
  cases t with
  | non =>
    cases (show v = _ from hv)
    exact iP rfl (q _ (Same.refl _))
  | bl b =>
    cases (show v = _ from hv)
    refine iN (by simp) ⟨_, rfl, iP (by decide +kernel) fun p hp => .inr ⟨b, rfl, ?_⟩⟩
    have z := q _ (same_new hp (.lst [V.str (Str.ofString "no"), V.str (Str.ofString "yes")]))
    cases b
    · exact rIxL_i (SqL.of upd_same) (v := V.str (Str.ofString "no")) rfl z
    · exact rIxL_i (SqL.of upd_same) (v := V.str (Str.ofString "yes")) rfl z
  | int i =>
    cases (show v = _ from hv)
    have h45 : ts (Str.ofString "-") = [45] := by decide +kernel
    have ha : -(10 ^ 12) ≤ (if i < 0 then -i else i) ∧ (if i < 0 then -i else i) ≤ 10 ^ 12 := by
      have h2 := hf.1
      have h3 := hf.2
      split <;> omega
    have hil := int_len ha
    refine iN (by simp) ⟨_, rfl, iN (by decide +kernel) ⟨_, rfl, iP (by decide +kernel) ⟨i, rfl, by decide +kernel, by split <;> decide, by split <;> decide, i, rfl, logs_ok13 ha.1 ha.2, ?_, ?_⟩⟩⟩
    · rw [h45, rep_one, tx_len, List.length_replicate]
      have : (if i < 0 then 1 else 0 : Int).toNat ≤ 1 := by split <;> decide
      omega
    · have z := q _ (Same.refl _)
      rw [show wrT (.int i) = Str.ofString (toString i) from rfl, int_text] at z
      rw [h45, rep_one]
      exact z
  | str x =>
    cases (show v = _ from hv)
    have hx : (tx x).length = x.length := tx_len x
    have hx' : x.length ≤ 30 := hf
    have h1 := replace_len (tx x) (Str.ofString "'") (Str.ofString "''")
    have h2 : (Str.ofString "''").length = 2 := by decide +kernel
    have h3 : (Str.ofString "'").length = 1 := by decide +kernel
    rw [hx, h2] at h1
    have hsl := PyProof.Rows.split_le (tx x) (Str.ofString "'")
    rw [hx] at hsl
    refine iN (by simp) ⟨_, rfl, iN (by decide +kernel) ⟨_, rfl, iN (by decide +kernel) ⟨_, rfl, iP (by decide +kernel) ⟨rfl, rfl, tx x, Str.ofString "'", rfl, rfl, by omega, by omega, fun l hl => ?_⟩⟩⟩⟩
    refine ⟨Str.ofString "''", l, Txt.split (tx x) (Str.ofString "'"), rfl, rfl, SqL.of upd_same, ?_, ?_⟩
    · have := split_sum (tx x) (Str.ofString "'")
      rw [hx] at this
      rw [h2]; omega
    · rw [join_split_is]
      refine ⟨_, rfl, by omega, ?_, q _ (same_new hl _)⟩
      rw [app_len]; omega
  | lst us =>
    have hty : tyS H v = some "list" := hv.ty
    have hnn : ¬ v = V.non := fun z => by rw [z] at hty; exact absurd (Option.some.inj hty) (by decide)
    refine iN hnn ⟨_, hty, iN (by decide +kernel) ⟨_, hty, iN (by decide +kernel) ⟨_, hty, iN (by decide +kernel) ⟨_, hty, iP (by decide +kernel) ?_⟩⟩⟩⟩
    have g1 := Same.refl H
    obtain ⟨a, xs, rfl, ha, hx⟩ := hv
    have hd' : T.deps us + 1 < n + 1 := hd
    have hz' : T.szs us + 1 ≤ 1000 := hz
    have hxl := hx.length
    have hul := T.szs_len us
    have hw := wr_len (.lst us) hf
    have hws := wrs_len us hf
    refine ⟨rfl, a, rfl, ⟨_, SqL.of (g1 _ _ ha)⟩, comp_list (K := K) (xs := xs) (fun i zs H' => Same H H' ∧ zs = ((us.take i).map wrT).map V.str) ?_ ⟨Same.refl _, rfl⟩ (fun i zs H' _ h => SqL.of (h.1 _ _ (g1 _ _ ha))) ?_ ?_⟩
    · rw [sizeLine_eq]; omega
    · rintro i u zs H' hu' _ ⟨g, rfl⟩
      obtain ⟨t', ht', hr'⟩ := hx.get hu'
      have hm := List.mem_of_getElem? ht'
      have d1 := T.deps_le hm
      have d2 := T.szs_le hm
      walk_at "rd2"
      refine ⟨u, t', rfl, Rep.same (g1.trans g) u t' hr', T.okws_mem hf hm, by omega, by omega, fun H4 g4 => ⟨g.trans g4, ?_⟩⟩
      rw [take_succ_of ht']
      simp
    · rintro zs H' _ ⟨g, rfl⟩ p hp'
      rw [hxl, List.take_length]
      have hz2 : T.sz (.lst us) ≤ 1000 := hz
      have e : wrT (.lst us) = Str.ofString "[" ++ Txt.join (Str.ofString ", ") (us.map wrT) ++ Str.ofString "]" := by rw [← wrTs_map]; rfl
      rw [e, app_len, app_len] at hw
      have h2 : (Str.ofString ", ").length = 2 := by decide +kernel
      refine ⟨Str.ofString ", ", p, us.map wrT, rfl, rfl, SqL.of upd_same, ?_, _, rfl, by omega, ?_, ?_⟩
      · rw [← wrTs_map, wrTs_len, h2]; omega
      · rw [app_len]; omega
      · rw [← e]; exact q _ (g1.trans (g.trans (same_new hp' _)))
  | dic ks us =>
    have hty : tyS H v = some "dict" := hv.ty
    have hnn : ¬ v = V.non := fun z => by rw [z] at hty; exact absurd (Option.some.inj hty) (by decide)
    refine iN hnn ⟨_, hty, iN (by decide +kernel) ⟨_, hty, iN (by decide +kernel) ⟨_, hty, iN (by decide +kernel) ⟨_, hty, iN (by decide +kernel) ?_⟩⟩⟩⟩
    have g1 := Same.refl H
    obtain ⟨a, ps, rfl, ha, hk, hx⟩ := hv
    have hw := wr_len (.dic ks us) hf
    obtain ⟨nk, h64, hle, hnm, hf⟩ := hf
    have hd' : T.deps us + 1 < n + 1 := hd
    have hz' : T.szs us + 1 ≤ 1000 := hz
    refine ⟨rfl, a, rfl, ps, .inl (g1 _ _ ha), ks.map tx, by rw [hk, List.map_map]; rfl, by rw [List.length_map]; exact h64, fun l ss hl hp1 hs1 => ⟨⟨_, SqL.of upd_same⟩, ?_⟩⟩
    have es := sorted_names hp1 hs1
    have hlen : (ss.map V.str).length = (sortK ks).length := by rw [es, List.length_map, List.length_map]
    have hlk : (sortK ks).length = ks.length := (sortK_perm ks).length_eq
    have g0 : Same H (upd H l (.lst (ss.map V.str))) := g1.trans (same_new hl _)
    have hll : upd H l (.lst (ss.map V.str)) l = some (.lst (ss.map V.str)) := upd_same
    generalize upd H l (.lst (ss.map V.str)) = H2 at g0 hll ⊢
    refine comp_list (K := K) (xs := ss.map V.str) (fun i zs H' => Same H2 H' ∧ zs = (((sortK ks).take i).map fun k => tx k ++ Str.ofString ": " ++ lookS k ks (wrTs us)).map V.str) ?_ ⟨Same.refl _, rfl⟩ (fun i zs H' _ h => SqL.of (h.1 _ _ hll)) ?_ ?_
    · rw [sizeLine_eq, hlen]; omega
    · rintro i y zs H' hy _ ⟨g, rfl⟩
      rw [es, List.map_map, List.getElem?_map] at hy
      cases hki : (sortK ks)[i]? with
      | none => rw [hki] at hy; cases hy
      | some k =>
        rw [hki] at hy
        have ey : V.str (tx k) = y := Option.some.inj hy
        subst ey
        have gg := g0.trans g
        have hmk := mem_sortK.mp (List.mem_of_getElem? hki)
        have hm := lookT_mem hmk hle
        have d1 := T.deps_le hm
        have d2 := T.szs_le hm
        obtain ⟨v, hv1, hv2⟩ := Rep.at_name nk hk (Reps.same gg _ _ hx) hmk
        walk_at "rd2"
        have hk12 := hnm k hmk
        have htl : (tx k).length = k.length := tx_len k
        have hc2 : (Str.ofString ": ").length = 2 := by decide +kernel
        have hwl := wr_len _ (T.okws_mem hf hm)
        refine ⟨by omega, v, .inl ⟨ps, Sum.inr (tx k), .inl (gg _ _ ha), rfl, hv1.symm⟩, v, lookT k ks us, rfl, hv2, T.okws_mem hf hm, by omega, by omega, fun H4 g4 => ⟨_, rfl, ?_, g.trans g4, ?_⟩⟩
        · rw [app_len]; omega
        · rw [take_succ_of hki, look_wr]
          simp
    · rintro zs H' _ ⟨g, rfl⟩ p hp'
      rw [hlen, List.take_length]
      have hz2 : T.sz (.dic ks us) ≤ 1000 := hz
      have e : wrT (.dic ks us) = Str.ofString "{" ++ Txt.join (Str.ofString ", ") ((sortK ks).map fun k => tx k ++ Str.ofString ": " ++ lookS k ks (wrTs us)) ++ Str.ofString "}" := rfl
      rw [e, app_len, app_len] at hw
      have h2 : (Str.ofString ", ").length = 2 := by decide +kernel
      have h0 := dic_sum (ws := wrTs us) nk (by rw [wrTs_len]; exact hle) hnm
      have hws := wrs_len us hf
      refine ⟨Str.ofString ", ", p, (sortK ks).map fun k => tx k ++ Str.ofString ": " ++ lookS k ks (wrTs us), rfl, rfl, SqL.of upd_same, ?_, _, rfl, by omega, ?_, ?_⟩
      · rw [List.length_map, hlk, h2]; omega
      · rw [app_len]; omega
      · rw [← e]; exact q _ (g0.trans (g.trans (same_new hp' _)))
  | tup us => exact hf.elim
end
end K28
namespace K28
open PySem L2
def sepT (t : Tk) : Bool := decide (t = (3, [44])) || decide (t = (3, [58]))
def spc : Bool → List Tk → List (Nat × Tk)
  | _, [] => []
  | b, t :: l => (if b then 1 else 0, t) :: spc (sepT t) l
def sepE : Bool → List Tk → Bool
  | b, [] => b
  | _, t :: l => sepE (sepT t) l
theorem spc_map : ∀ (b : Bool) (l : List Tk), (spc b l).map (·.2) = l
  | _, [] => rfl
  | b, t :: l => by
    show t :: (spc (sepT t) l).map (·.2) = t :: l
    rw [spc_map]
theorem spc_app : ∀ (b : Bool) (x y : List Tk), spc b (x ++ y) = spc b x ++ spc (sepE b x) y
  | _, [], _ => rfl
  | b, t :: x, y => by
    show (if b then 1 else 0, t) :: spc (sepT t) (x ++ y) = (if b then 1 else 0, t) :: (spc (sepT t) x ++ spc (sepE (sepT t) x) y)
    rw [spc_app]
theorem sepE_app : ∀ (b : Bool) (x y : List Tk), sepE b (x ++ y) = sepE (sepE b x) y
  | _, [], _ => rfl
  | _, t :: x, y => sepE_app (sepT t) x y
def lyS (b : Bool) (l : List Tk) : List Nat := lay (spc b l)
theorem lyS_app (b : Bool) (x y : List Tk) : lyS b (x ++ y) = lyS b x ++ lyS (sepE b x) y := by
  unfold lyS
  rw [spc_app, lay_app]
theorem lyS_cons (b : Bool) (t : Tk) (l : List Tk) : lyS b (t :: l) = (if b then [32] else []) ++ (shw t ++ lyS (sepT t) l) := by
  show List.replicate (if b then 1 else 0) 32 ++ (shw t ++ lay (spc (sepT t) l)) = _
  cases b <;> rfl
mutual
def wrU : T → List Nat
  | .non => wNone
  | .bl b => if b then wYes else wNo
  | .int i => numL i
  | .str x => 39 :: (dbl x ++ [39])
  | .lst us => 91 :: (wrL true us ++ [93])
  | .dic ks us => 123 :: (wrD true ks us ++ [125])
  | .tup _ => []
def wrL : Bool → List T → List Nat
  | _, [] => []
  | b, t :: ts => (if b then [] else [44, 32]) ++ (wrU t ++ wrL false ts)
def wrD : Bool → List (List Nat) → List T → List Nat
  | b, ks, t :: ts => (if b then [] else [44, 32]) ++ (ks.headD [] ++ ([58, 32] ++ (wrU t ++ wrD false ks.tail ts)))
  | _, _, [] => []
end
theorem sep_w (k : List Nat) : sepT (1, k) = false := by
  unfold sepT
  rw [decide_eq_false (fun z => absurd (congrArg Prod.fst z) (show ¬ (1 : Nat) = 3 by decide)), decide_eq_false (fun z => absurd (congrArg Prod.fst z) (show ¬ (1 : Nat) = 3 by decide))]
  rfl
theorem sep_n (k : List Nat) : sepT (0, k) = false := by
  unfold sepT
  rw [decide_eq_false (fun z => absurd (congrArg Prod.fst z) (show ¬ (0 : Nat) = 3 by decide)), decide_eq_false (fun z => absurd (congrArg Prod.fst z) (show ¬ (0 : Nat) = 3 by decide))]
  rfl
theorem sep_x (k : List Nat) : sepT (2, k) = false := by
  unfold sepT
  rw [decide_eq_false (fun z => absurd (congrArg Prod.fst z) (show ¬ (2 : Nat) = 3 by decide)), decide_eq_false (fun z => absurd (congrArg Prod.fst z) (show ¬ (2 : Nat) = 3 by decide))]
  rfl
mutual
theorem ly_tks : ∀ t : T, OkR t → ∀ b : Bool, lyS b (tks t) = (if b then [32] else []) ++ wrU t ∧ sepE b (tks t) = false
  | .non, _, b => by
    refine ⟨?_, (show sepT (1, wNone) = false from sep_w _)⟩
    show lyS b [(1, wNone)] = _
    rw [lyS_cons]
    show _ ++ (wNone ++ []) = _ ++ wNone
    rw [List.append_nil]
  | .bl c, _, b => by
    refine ⟨?_, (show sepT (1, if c then wYes else wNo) = false from sep_w _)⟩
    show lyS b [(1, if c then wYes else wNo)] = _
    rw [lyS_cons]
    show _ ++ ((if c then wYes else wNo) ++ []) = _ ++ (if c then wYes else wNo)
    rw [List.append_nil]
  | .int i, _, b => by
    refine ⟨?_, (show sepT (0, numL i) = false from sep_n _)⟩
    show lyS b [(0, numL i)] = _
    rw [lyS_cons]
    show _ ++ (numL i ++ []) = _ ++ numL i
    rw [List.append_nil]
  | .str x, _, b => by
    refine ⟨?_, (show sepT (2, x) = false from sep_x _)⟩
    show lyS b [(2, x)] = _
    rw [lyS_cons]
    show _ ++ ((39 :: (dbl x ++ [39])) ++ []) = _ ++ (39 :: (dbl x ++ [39]))
    rw [List.append_nil]
  | .lst us, h, b => by
    obtain ⟨h1, h2⟩ := ly_tksL true us h.2
    refine ⟨?_, ?_⟩
    · show lyS b ((3, [91]) :: (tksL true us ++ [(3, [93])])) = _
      rw [lyS_cons, lyS_app, show sepT (3, [91]) = false by decide, h1, h2]
      rfl
    · show sepE (sepT (3, [91])) (tksL true us ++ [(3, [93])]) = false
      rw [sepE_app]
      exact (show sepT (3, [93]) = false by decide)
  | .dic ks us, h, b => by
    obtain ⟨h1, h2⟩ := ly_tksD true ks us h.2.2.2.2
    refine ⟨?_, ?_⟩
    · show lyS b ((3, [123]) :: (tksD true ks us ++ [(3, [125])])) = _
      rw [lyS_cons, lyS_app, show sepT (3, [123]) = false by decide, h1, h2]
      rfl
    · show sepE (sepT (3, [123])) (tksD true ks us ++ [(3, [125])]) = false
      rw [sepE_app]
      exact (show sepT (3, [125]) = false by decide)
  | .tup _, h, _ => h.elim
theorem ly_tksL : ∀ (b : Bool) (us : List T), OkRs us → lyS false (tksL b us) = wrL b us ∧ sepE false (tksL b us) = false
  | _, [], _ => ⟨rfl, rfl⟩
  | b, t :: ts, h => by
    obtain ⟨h3, h4⟩ := ly_tksL false ts h.2
    have eT : tksL b (t :: ts) = (if b then [] else [(3, [44])]) ++ (tks t ++ tksL false ts) := rfl
    have eW : wrL b (t :: ts) = (if b then [] else [44, 32]) ++ (wrU t ++ wrL false ts) := rfl
    rw [eT, eW]
    cases b with
    | true =>
      obtain ⟨h1, h2⟩ := ly_tks t h.1 false
      refine ⟨?_, ?_⟩
      · show lyS false (tks t ++ tksL false ts) = wrU t ++ wrL false ts
        rw [lyS_app, h2, h1, h3]
        rfl
      · show sepE false (tks t ++ tksL false ts) = false
        rw [sepE_app, h2, h4]
    | false =>
      obtain ⟨h1, h2⟩ := ly_tks t h.1 true
      refine ⟨?_, ?_⟩
      · show lyS false ((3, [44]) :: (tks t ++ tksL false ts)) = [44, 32] ++ (wrU t ++ wrL false ts)
        rw [lyS_cons, show sepT (3, [44]) = true by decide, lyS_app, h2, h1, h3]
        rfl
      · show sepE (sepT (3, [44])) (tks t ++ tksL false ts) = false
        rw [show sepT (3, [44]) = true by decide, sepE_app, h2, h4]
theorem ly_tksD : ∀ (b : Bool) (ks : List (List Nat)) (us : List T), OkRs us → lyS false (tksD b ks us) = wrD b ks us ∧ sepE false (tksD b ks us) = false
  | b, ks, [], _ => by rw [tksD, wrD]; exact ⟨rfl, rfl⟩
  | b, ks, t :: ts, h => by
    obtain ⟨h3, h4⟩ := ly_tksD false ks.tail ts h.2
    obtain ⟨h1, h2⟩ := ly_tks t h.1 true
    rw [tksD, wrD]
    have z : lyS true (tks t ++ tksD false ks.tail ts) = 32 :: (wrU t ++ wrD false ks.tail ts) := by
      rw [lyS_app, h2, h1, h3]
      rfl
    have z2 : sepE true (tks t ++ tksD false ks.tail ts) = false := by rw [sepE_app, h2, h4]
    cases b with
    | true =>
      refine ⟨?_, ?_⟩
      · show lyS false ((1, ks.headD []) :: (3, [58]) :: (tks t ++ tksD false ks.tail ts)) = ks.headD [] ++ ([58, 32] ++ (wrU t ++ wrD false ks.tail ts))
        rw [lyS_cons, sep_w, lyS_cons, show sepT (3, [58]) = true by decide, z]
        rfl
      · show sepE (sepT (3, [58])) (tks t ++ tksD false ks.tail ts) = false
        rw [show sepT (3, [58]) = true by decide, z2]
    | false =>
      refine ⟨?_, ?_⟩
      · show lyS false ((3, [44]) :: (1, ks.headD []) :: (3, [58]) :: (tks t ++ tksD false ks.tail ts)) = [44, 32] ++ (ks.headD [] ++ ([58, 32] ++ (wrU t ++ wrD false ks.tail ts)))
        rw [lyS_cons, show sepT (3, [44]) = true by decide, lyS_cons, sep_w, lyS_cons, show sepT (3, [58]) = true by decide, z]
        rfl
      · show sepE (sepT (3, [58])) (tks t ++ tksD false ks.tail ts) = false
        rw [show sepT (3, [58]) = true by decide, z2]
end
def Alt : Bool → List Tk → Prop
  | _, [] => True
  | b, t :: l => (b = true ∨ t.1 = 3) ∧ Alt (decide (t.1 = 3)) l
theorem alt_chn : ∀ (b c : Bool) (l : List Tk), Alt b l → Chn (spc c l)
  | _, _, [], _ => fun i x y h => by simp [spc] at h
  | b, c, t :: l, h => by
    intro i x y hx hy hs
    cases i with
    | zero =>
      cases l with
      | nil => simp [spc] at hy
      | cons u l =>
        have ex : x = (if c then 1 else 0, t) := by simpa [spc] using hx.symm
        have ey : y = (if sepT t then 1 else 0, u) := by simpa [spc] using hy.symm
        subst ex ey
        have hm := h.2.1
        exfalso
        rw [decide_eq_true_eq] at hm
        revert hs
        show ¬ stk t u = true
        unfold stk
        rcases hm with hm | hm
        · rw [hm]
          split
          · simp
          · rw [if_neg (by decide)]
            simp
        · rw [hm]
          rw [if_neg (by simp)]
          split
          · simp
          · intro z
            simp at z
    | succ i =>
      have hx' : (spc (sepT t) l)[i]? = some x := by simpa [spc] using hx
      have hy' : (spc (sepT t) l)[i + 1]? = some y := by simpa [spc] using hy
      exact alt_chn _ _ l h.2 i x y hx' hy' hs
mutual
theorem alt_tks : ∀ (t : T) (y : List Tk), OkR t → (∀ b, Alt b y) → Alt true (tks t ++ y)
  | .non, y, _, h => ⟨.inl rfl, h _⟩
  | .bl _, y, _, h => ⟨.inl rfl, h _⟩
  | .int _, y, _, h => ⟨.inl rfl, h _⟩
  | .str _, y, _, h => ⟨.inl rfl, h _⟩
  | .lst us, y, o, h => by
    refine ⟨.inl rfl, ?_⟩
    show Alt true ((tksL true us ++ [(3, [93])]) ++ y)
    rw [List.append_assoc]
    exact alt_tksL us _ o.2 fun b => ⟨.inr rfl, h _⟩
  | .dic ks us, y, o, h => by
    refine ⟨.inl rfl, ?_⟩
    show Alt true ((tksD true ks us ++ [(3, [125])]) ++ y)
    rw [List.append_assoc]
    exact alt_tksD ks us _ o.2.2.2.2 fun b => ⟨.inr rfl, h _⟩
  | .tup _, _, o, _ => o.elim
theorem alt_tksL : ∀ (us : List T) (y : List Tk), OkRs us → (∀ b, Alt b y) → Alt true (tksL true us ++ y)
  | [], y, _, h => h _
  | t :: ts, y, o, h => by
    show Alt true ((tks t ++ tksL false ts) ++ y)
    rw [List.append_assoc]
    exact alt_tks t _ o.1 (alt_tksF ts y o.2 h)
theorem alt_tksF : ∀ (us : List T) (y : List Tk), OkRs us → (∀ b, Alt b y) → ∀ b, Alt b (tksL false us ++ y)
  | [], y, _, h => h
  | t :: ts, y, o, h => fun b => by
    refine ⟨.inr rfl, ?_⟩
    show Alt true ((tks t ++ tksL false ts) ++ y)
    rw [List.append_assoc]
    exact alt_tks t _ o.1 (alt_tksF ts y o.2 h)
theorem alt_tksD : ∀ (ks : List (List Nat)) (us : List T) (y : List Tk), OkRs us → (∀ b, Alt b y) → Alt true (tksD true ks us ++ y)
  | ks, [], y, _, h => by rw [tksD]; exact h _
  | ks, t :: ts, y, o, h => by
    rw [tksD]
    refine ⟨.inl rfl, .inr rfl, ?_⟩
    show Alt true ((tks t ++ tksD false ks.tail ts) ++ y)
    rw [List.append_assoc]
    exact alt_tks t _ o.1 (alt_tksE ks.tail ts y o.2 h)
theorem alt_tksE : ∀ (ks : List (List Nat)) (us : List T) (y : List Tk), OkRs us → (∀ b, Alt b y) → ∀ b, Alt b (tksD false ks us ++ y)
  | ks, [], y, _, h => by rw [tksD]; exact h
  | ks, t :: ts, y, o, h => fun b => by
    rw [tksD]
    refine ⟨.inr rfl, .inl rfl, .inr rfl, ?_⟩
    show Alt true ((tks t ++ tksD false ks.tail ts) ++ y)
    rw [List.append_assoc]
    exact alt_tks t _ o.1 (alt_tksE ks.tail ts y o.2 h)
end
theorem chn_tks {t : T} (h : OkR t) : Chn (spc false (tks t)) := by
  have := alt_tks t [] h fun _ => True.intro
  rw [List.append_nil] at this
  exact alt_chn _ _ _ this
theorem of_int (i : Int) : Str.ofString (toString i) = tx (numL i) := by
  rw [int_text]
  unfold numL
  by_cases h : i < 0
  · rw [if_pos h, if_pos h, if_pos h, show -i = ((i.natAbs : Nat) : Int) by omega, of_nat, app_tx]
    rfl
  · rw [if_neg h, if_neg h, if_neg h, show i = ((i.natAbs : Nat) : Int) by omega, of_nat, app_tx]
    rfl
theorem of_quo (x : List Nat) : quoted x = tx (39 :: (dbl x ++ [39])) := by
  unfold quoted
  have e : Txt.replace (tx x) (Str.ofString "'") (Str.ofString "''") = tx (dbl x) := by
    apply str_ext
    rw [of_q, of_qq, show (tx [39] : Str) = ⟨#[39]⟩ from rfl, replace_is, ts_tx, ts_tx, ts_tx]; rfl
  rw [e, of_q, app_tx, app_tx]
  rfl
theorem of_cs : Str.ofString ", " = tx [44, 32] := by decide +kernel
theorem of_ns : Str.ofString ": " = tx [58, 32] := by decide +kernel
theorem join_is (g : Str) (ws : List Str) : Txt.join g ws = Str.join g ws := by
  unfold Txt.join
  rw [StrLaws.glued_eq_join]
theorem join_2 (g s s' : Str) (ss : List Str) : Txt.join g (s :: s' :: ss) = s ++ g ++ Txt.join g (s' :: ss) := by
  rw [join_is, join_is]
  rfl
theorem join_L : ∀ (us : List T) (ws : List Str), Paired (fun (t : T) (s : Str) => s = tx (wrU t)) us ws → Txt.join (Str.ofString ", ") ws = tx (wrL true us)
  | [], [], _ => by rw [wrL]; rfl
  | [t], [s], .cons h _ => by
    show s = tx (wrU t ++ [])
    rw [List.append_nil, h]
  | t :: t' :: ts, s :: s' :: ss, .cons h r => by
    rw [join_2]
    show s ++ Str.ofString ", " ++ Txt.join (Str.ofString ", ") (s' :: ss) = tx (wrU t ++ ([44, 32] ++ (wrU t' ++ wrL false ts)))
    rw [join_L _ _ r, h, of_cs, app_tx, app_tx, List.append_assoc]
    rfl
theorem join_D : ∀ (ks : List (List Nat)) (f : List Nat → T) (g : List Nat → Str), (∀ k ∈ ks, g k = tx (wrU (f k))) → Txt.join (Str.ofString ", ") (ks.map fun k => tx k ++ Str.ofString ": " ++ g k) = tx (wrD true ks (ks.map f))
  | [], _, _, _ => by rw [List.map_nil, List.map_nil, wrD]; rfl
  | [k], f, g, h => by
    show tx k ++ Str.ofString ": " ++ g k = tx (wrD true [k] [f k])
    rw [wrD, wrD, h k List.mem_cons_self, of_ns, app_tx, app_tx]
    show _ = tx (k ++ ([58, 32] ++ (wrU (f k) ++ [])))
    rw [List.append_nil, List.append_assoc]
  | k :: k' :: ks, f, g, h => by
    have ih := join_D (k' :: ks) f g fun x hx => h x (List.mem_cons_of_mem _ hx)
    rw [List.map_cons, List.map_cons, join_2]
    show tx k ++ Str.ofString ": " ++ g k ++ Str.ofString ", " ++ Txt.join (Str.ofString ", ") ((k' :: ks).map fun k => tx k ++ Str.ofString ": " ++ g k) = tx (wrD true (k :: k' :: ks) (f k :: (k' :: ks).map f))
    rw [ih, wrD, h k List.mem_cons_self, of_ns, of_cs, app_tx, app_tx, app_tx, app_tx]
    show _ = tx (k ++ ([58, 32] ++ (wrU (f k) ++ wrD false (k' :: ks) (f k' :: ks.map f))))
    have e : wrD false (k' :: ks) (f k' :: ks.map f) = [44, 32] ++ wrD true (k' :: ks) (f k' :: ks.map f) := by rw [wrD, wrD]; rfl
    rw [e]
    simp only [List.append_assoc]
    rfl
theorem rot0 (ks : List (List Nat)) : rotN 0 ks = sortK ks := by
  unfold rotN
  rw [if_neg (by decide), Int.zero_emod]
  show (sortK ks).drop 0 ++ (sortK ks).take 0 = _
  rw [List.drop_zero, List.take_zero, List.append_nil]
mutual
theorem wr_is : ∀ t : T, OkR t → wrT t = tx (wrU (ordT 0 t))
  | .non, _ => by
    show Str.ofString "none" = tx wNone
    unfold wNone
    rw [tx_ts]
  | .bl true, _ => by
    show Str.ofString "yes" = tx wYes
    unfold wYes
    rw [tx_ts]
  | .bl false, _ => by
    show Str.ofString "no" = tx wNo
    unfold wNo
    rw [tx_ts]
  | .int i, _ => of_int i
  | .str x, _ => of_quo x
  | .lst us, h => by
    show Str.ofString "[" ++ Txt.join (Str.ofString ", ") (wrTs us) ++ Str.ofString "]" = tx (91 :: (wrL true (ordTs 0 us) ++ [93]))
    rw [join_L _ _ (wrs_is us h.2), show Str.ofString "[" = tx [91] by decide +kernel, show Str.ofString "]" = tx [93] by decide +kernel, app_tx, app_tx]
    rfl
  | .dic ks us, h => by
    show Str.ofString "{" ++ Txt.join (Str.ofString ", ") ((sortK ks).map fun k => tx k ++ Str.ofString ": " ++ lookS k ks (wrTs us)) ++ Str.ofString "}" = tx (123 :: (wrD true (rotN 0 ks) ((rotN 0 ks).map fun k => lookT k ks (ordTs 0 us)) ++ [125]))
    have hm := wrm_is us h.2.2.2.2
    rw [rot0, join_D (sortK ks) (fun k => lookT k ks (ordTs 0 us)) (fun k => lookS k ks (wrTs us)) (fun k hk => by
      show lookS k ks (wrTs us) = tx (wrU (lookT k ks (ordTs 0 us)))
      rw [← look_wr, look_ord]
      exact hm _ (lookT_mem (mem_sortK.mp hk) h.2.1)), show Str.ofString "{" = tx [123] by decide +kernel, show Str.ofString "}" = tx [125] by decide +kernel, app_tx, app_tx]
    rfl
  | .tup _, h => h.elim
theorem wrs_is : ∀ us : List T, OkRs us → Paired (fun (t : T) (s : Str) => s = tx (wrU t)) (ordTs 0 us) (wrTs us)
  | [], _ => .nil
  | t :: ts, h => .cons (wr_is t h.1) (wrs_is ts h.2)
theorem wrm_is : ∀ us : List T, OkRs us → ∀ t ∈ us, wrT t = tx (wrU (ordT 0 t))
  | [], _, _, hm => nomatch hm
  | u :: ts, h, t, hm => by
    rcases List.mem_cons.mp hm with e | e
    · rw [e]; exact wr_is u h.1
    · exact wrm_is ts h.2 t e
end
theorem wr_laid {t : T} (h : OkR t) (ho : OkR (ordT 0 t)) : wrT t = tx (lay (spc false (tks (ordT 0 t))) ++ List.replicate 0 32) := by
  have z := (ly_tks _ ho false).1
  rw [wr_is t h, show lay (spc false (tks (ordT 0 t))) = wrU (ordT 0 t) from z]
  show tx (wrU (ordT 0 t)) = tx (wrU (ordT 0 t) ++ [])
  rw [List.append_nil]
theorem sort_of {a b : List (List Nat)} (h : a.Perm b) : sortK a = sortK b := sorted_one ((sortK_perm a).trans (h.trans (sortK_perm b).symm)) (sortK_sorted a) (sortK_sorted b)
theorem look_map {k : List Nat} (f : List Nat → T) : ∀ {ks : List (List Nat)}, k ∈ ks → lookT k ks (ks.map f) = f k
  | [], h => nomatch h
  | c :: ks, h => by
    show (if c = k then f c else lookT k ks (ks.map f)) = f k
    by_cases e : c = k
    · rw [if_pos e, e]
    · rw [if_neg e]
      exact look_map f ((List.mem_cons.mp h).resolve_left fun z => e z.symm)
mutual
theorem wr_ord (turn : Int) : ∀ t : T, OkR t → wrT (ordT turn t) = wrT t
  | .non, _ => rfl
  | .bl _, _ => rfl
  | .int _, _ => rfl
  | .str _, _ => rfl
  | .lst us, h => by
    show Str.ofString "[" ++ Txt.join (Str.ofString ", ") (wrTs (ordTs turn us)) ++ Str.ofString "]" = Str.ofString "[" ++ Txt.join (Str.ofString ", ") (wrTs us) ++ Str.ofString "]"
    rw [wrs_ord turn us h.2]
  | .dic ks us, h => by
    show Str.ofString "{" ++ Txt.join (Str.ofString ", ") ((sortK (rotN turn ks)).map fun k => tx k ++ Str.ofString ": " ++ lookS k (rotN turn ks) (wrTs ((rotN turn ks).map fun k => lookT k ks (ordTs turn us)))) ++ Str.ofString "}" = Str.ofString "{" ++ Txt.join (Str.ofString ", ") ((sortK ks).map fun k => tx k ++ Str.ofString ": " ++ lookS k ks (wrTs us)) ++ Str.ofString "}"
    have hm := wrm_ord turn us h.2.2.2.2
    have e : ((sortK (rotN turn ks)).map fun k => tx k ++ Str.ofString ": " ++ lookS k (rotN turn ks) (wrTs ((rotN turn ks).map fun k => lookT k ks (ordTs turn us)))) = (sortK ks).map fun k => tx k ++ Str.ofString ": " ++ lookS k ks (wrTs us) := by
      rw [sort_of (rotN_perm turn ks)]
      refine List.map_congr_left fun k hk => ?_
      have hk' := mem_sortK.mp hk
      rw [← look_wr, look_map (fun k => lookT k ks (ordTs turn us)) ((rotN_perm turn ks).mem_iff.mpr hk'), look_ord, hm _ (lookT_mem hk' h.2.1), look_wr]
    rw [e]
  | .tup _, h => h.elim
theorem wrs_ord (turn : Int) : ∀ us : List T, OkRs us → wrTs (ordTs turn us) = wrTs us
  | [], _ => rfl
  | t :: ts, h => by
    show wrT (ordT turn t) :: wrTs (ordTs turn ts) = wrT t :: wrTs ts
    rw [wr_ord turn t h.1, wrs_ord turn ts h.2]
theorem wrm_ord (turn : Int) : ∀ us : List T, OkRs us → ∀ t ∈ us, wrT (ordT turn t) = wrT t
  | [], _, _, hm => nomatch hm
  | u :: ts, h, t, hm => by
    rcases List.mem_cons.mp hm with e | e
    · rw [e]; exact wr_ord turn u h.1
    · exact wrm_ord turn ts h.2 t e
end
mutual
theorem ok_okw : ∀ t : T, OkR t → T.okw t
  | .non, _ => True.intro
  | .bl _, _ => True.intro
  | .int _, h => h
  | .str _, h => okText_len h
  | .lst us, h => oks_okw us h.2
  | .dic _ us, h => ⟨h.1, Nat.lt_of_le_of_lt h.2.2.1 (by decide), h.2.1, fun k hk => okName_len (h.2.2.2.1 k hk), oks_okw us h.2.2.2.2⟩
  | .tup _, h => h.elim
theorem oks_okw : ∀ us : List T, OkRs us → T.okws us
  | [], _ => True.intro
  | t :: ts, h => ⟨ok_okw t h.1, oks_okw ts h.2⟩
end
end K28
namespace K28
open PySem L2
local macro_rules | `(tactic| walk_at "rd") => `(tactic| simp only [cxOf_K, nox_K, compCx_K, tSeq, tNext, tAsg, gName, tRet, tRetN, tIfS, tDrop, tOp, tUn, tVar, tC, tCall, tCons, tNil, tTest, tB, tAnd, tOr, tNot, tAndV, tOrV, tNotV, tIf, tCB, tBM, tComp, tTrue, tPart, tNoPart, tSl, tChain, tIsN, tNotN, tLst, tTup, tFor_eq, sDPut, tDNewK, tNever, rI0, rI, rU, rEq, rNe, rMulS, rInC, iRng1, iStr, CDiv, CMul, CPow, scal, List.append_nil, List.getElem?_cons_zero, List.getElem?_cons_succ, List.set_cons_zero, List.set_cons_succ, List.map_cons, List.map_nil, List.length_cons, List.length_nil, sizeLine_eq, Nat.reduceAdd, Nat.reduceLeDiff, Option.join_some, Option.join_none, Option.some.injEq, V.int.injEq, V.str.injEq, V.bl.injEq, V.ref.injEq, V.ty.injEq, List.cons.injEq, and_true, true_and, and_self, exists_eq_left', exists_eq_left, exists_and_left, exists_and_right, decide_eq_true_eq, Bool.not_eq_eq_eq_not, Bool.not_true, Bool.not_false, decide_eq_false_iff_not, Int.reduceLT, Int.reduceLE, Int.reduceNeg, Int.reducePow, Int.reduceAdd, Int.reduceSub, Int.reduceMul, Int.reduceToNat, natAbs10, Nat.reduceLT, Nat.reducePow, or_true, true_or, if_true, if_false, Bool.false_eq_true, ite_true, ite_false, reduceCtorEq])
local macro_rules | `(tactic| walk_at "rd3") => `(tactic| simp only [gTup, gCons, gNil, iZip, tIsT, tDisp, tPairs, tBM0, iList, iDict, tThaw, tMaxD, rMaxD, tDGet, rVals, tComp, cxOf_K, nox_K, compCx_K, tSeq, tNext, tAsg, gName, tRet, tRetN, tIfS, tDrop, tOp, tUn, tVar, tC, tCall, tCons, tNil, tTest, tB, tAnd, tOr, tNot, tAndV, tOrV, tNotV, tIf, tCB, tBM, tComp, tTrue, tPart, tNoPart, tSl, tChain, tIsN, tNotN, tLst, tTup, tFor_eq, sDPut, tDNewK, tNever, rI0, rI, rU, rEq, rNe, rMulS, rInC, iRng1, iStr, CDiv, CMul, CPow, scal, List.append_nil, List.getElem?_cons_zero, List.getElem?_cons_succ, List.set_cons_zero, List.set_cons_succ, List.map_cons, List.map_nil, List.length_cons, List.length_nil, sizeLine_eq, Nat.reduceAdd, Nat.reduceLeDiff, Option.join_some, Option.join_none, Option.some.injEq, V.int.injEq, V.str.injEq, V.bl.injEq, V.ref.injEq, V.ty.injEq, List.cons.injEq, and_true, true_and, and_self, exists_eq_left', exists_eq_left, exists_and_left, exists_and_right, decide_eq_true_eq, Bool.not_eq_eq_eq_not, Bool.not_true, Bool.not_false, decide_eq_false_iff_not, Int.reduceLT, Int.reduceLE, Int.reduceNeg, Int.reducePow, Int.reduceAdd, Int.reduceSub, Int.reduceMul, Int.reduceToNat, natAbs10, Nat.reduceLT, Nat.reducePow, or_true, true_or, if_true, if_false, Bool.false_eq_true, ite_true, ite_false, reduceCtorEq])
local macro_rules | `(tactic| walk_at "rd6") => `(tactic| simp only [tFld, sFld, sFldAug, tMeth, tMake, rAdd, gTup, gCons, gNil, iZip, tIsT, tDisp, tPairs, tBM0, iList, iDict, tThaw, tMaxD, rMaxD, tDGet, rVals, tComp, cxOf_K, nox_K, compCx_K, tSeq, tNext, tAsg, gName, tRet, tRetN, tIfS, tDrop, tOp, tUn, tVar, tC, tCall, tCons, tNil, tTest, tB, tAnd, tOr, tNot, tAndV, tOrV, tNotV, tIf, tCB, tBM, tComp, tTrue, tPart, tNoPart, tSl, tChain, tIsN, tNotN, tLst, tTup, tFor_eq, sDPut, tDNewK, tNever, rI0, rI, rU, rEq, rNe, rMulS, rInC, iRng1, iStr, CDiv, CMul, CPow, scal, List.append_nil, List.getElem?_cons_zero, List.getElem?_cons_succ, List.set_cons_zero, List.set_cons_succ, List.map_cons, List.map_nil, List.length_cons, List.length_nil, sizeLine_eq, Nat.reduceAdd, Nat.reduceLeDiff, Option.join_some, Option.join_none, Option.some.injEq, V.int.injEq, V.str.injEq, V.bl.injEq, V.ref.injEq, V.ty.injEq, List.cons.injEq, and_true, true_and, and_self, exists_eq_left', exists_eq_left, exists_and_left, exists_and_right, decide_eq_true_eq, Bool.not_eq_eq_eq_not, Bool.not_true, Bool.not_false, decide_eq_false_iff_not, Int.reduceLT, Int.reduceLE, Int.reduceNeg, Int.reducePow, Int.reduceAdd, Int.reduceSub, Int.reduceMul, Int.reduceToNat, natAbs10, Nat.reduceLT, Nat.reducePow, or_true, true_or, if_true, if_false, Bool.false_eq_true, ite_true, ite_false, reduceCtorEq])
seal L2.PSs L2.PS L2.PE L2.PT L2.PW L2.PA L2.PI L2.PG L2.PGs L2.PPs L2.PTs
theorem mem_fig {c : Nat} (h : 48 ≤ c ∧ c ≤ 57) : c ∈ figL := by
  unfold figL
  exact List.mem_map.mpr ⟨c - 48, List.mem_range.mpr (by omega), by omega⟩
theorem mk_ok (d : Nat) (h : d ∈ mkL) : OkTk (3, [d]) := ⟨(show 1 ≤ 100 by decide), .inr (.inr (.inr ⟨rfl, d, rfl, h⟩))⟩
theorem name_tk {k : List Nat} (h : okName k = true) : OkTk (1, k) := by
  have hl := okName_len h
  unfold okName at h
  simp only [Bool.and_eq_true, decide_eq_true_eq, List.all_eq_true] at h
  obtain ⟨⟨⟨h1, h2⟩, h3⟩, h4⟩ := h
  cases k with
  | nil => cases h3
  | cons c r => exact ⟨Nat.le_trans hl (by decide), .inr (.inl ⟨rfl, c, r, rfl, by simpa using h3, fun d hd => h4 d (List.mem_cons_of_mem _ hd)⟩)⟩
mutual
theorem tks_ok : ∀ t : T, OkR t → ∀ k ∈ tks t, OkTk k
  | .non, _, k, hk => by
    rw [List.mem_singleton.mp hk]
    exact ⟨by decide +kernel, .inr (.inl ⟨rfl, 110, [111, 110, 101], by decide +kernel, by decide +kernel, by decide +kernel⟩)⟩
  | .bl true, _, k, hk => by
    rw [List.mem_singleton.mp hk]
    exact ⟨by decide +kernel, .inr (.inl ⟨rfl, 121, [101, 115], by decide +kernel, by decide +kernel, by decide +kernel⟩)⟩
  | .bl false, _, k, hk => by
    rw [List.mem_singleton.mp hk]
    exact ⟨by decide +kernel, .inr (.inl ⟨rfl, 110, [111], by decide +kernel, by decide +kernel, by decide +kernel⟩)⟩
  | .int i, h, k, hk => by
    rw [List.mem_singleton.mp hk]
    obtain ⟨z, fs, e, hz, hne, hfs, _⟩ := num_shape i
    exact ⟨Nat.le_trans (num_len h) (by decide), .inl ⟨rfl, z, fs, e, hz, hne, fun c hc => mem_fig (hfs c hc)⟩⟩
  | .str x, h, k, hk => by
    rw [List.mem_singleton.mp hk]
    have h' : okText x = true := h
    unfold okText at h'
    simp only [Bool.and_eq_true, decide_eq_true_eq, List.all_eq_true] at h'
    exact ⟨Nat.le_trans h'.1 (by decide), .inr (.inr (.inl ⟨rfl, h'.2⟩))⟩
  | .lst us, h, k, hk => by
    rcases List.mem_cons.mp hk with e | hk
    · rw [e]; exact mk_ok 91 (by decide +kernel)
    rcases List.mem_append.mp hk with hk | hk
    · exact tksL_ok true us h.2 k hk
    · rw [List.mem_singleton.mp hk]; exact mk_ok 93 (by decide +kernel)
  | .dic ks us, h, k, hk => by
    rcases List.mem_cons.mp hk with e | hk
    · rw [e]; exact mk_ok 123 (by decide +kernel)
    rcases List.mem_append.mp hk with hk | hk
    · exact tksD_ok true ks us h.2.2.2.2 h.2.1 h.2.2.2.1 k hk
    · rw [List.mem_singleton.mp hk]; exact mk_ok 125 (by decide +kernel)
  | .tup _, h, _, _ => h.elim
theorem tksL_ok : ∀ (b : Bool) (us : List T), OkRs us → ∀ k ∈ tksL b us, OkTk k
  | _, [], _, k, hk => nomatch hk
  | b, t :: ts, h, k, hk => by
    have hk : k ∈ (if b then [] else [(3, [44])]) ++ (tks t ++ tksL false ts) := hk
    rcases List.mem_append.mp hk with hk | hk
    · cases b with
      | true => cases hk
      | false => rw [List.mem_singleton.mp hk]; exact mk_ok 44 (by decide +kernel)
    rcases List.mem_append.mp hk with hk | hk
    · exact tks_ok t h.1 k hk
    · exact tksL_ok false ts h.2 k hk
theorem tksD_ok : ∀ (b : Bool) (ks : List (List Nat)) (us : List T), OkRs us → ks.length = us.length → (∀ k ∈ ks, okName k = true) → ∀ k ∈ tksD b ks us, OkTk k
  | b, ks, [], _, _, _, k, hk => by rw [tksD] at hk; cases hk
  | b, [], t :: ts, _, hl, _, _, _ => by cases hl
  | b, kk :: ks, t :: ts, h, hl, hn, k, hk => by
    rw [tksD] at hk
    rcases List.mem_append.mp hk with hk | hk
    · cases b with
      | true => cases hk
      | false => rw [List.mem_singleton.mp hk]; exact mk_ok 44 (by decide +kernel)
    rcases List.mem_cons.mp hk with e | hk
    · rw [e]; exact name_tk (hn kk List.mem_cons_self)
    rcases List.mem_cons.mp hk with e | hk
    · rw [e]; exact mk_ok 58 (by decide +kernel)
    rcases List.mem_append.mp hk with hk | hk
    · exact tks_ok t h.1 k hk
    · exact tksD_ok false ks ts h.2 (by simpa using hl) (fun k' hk' => hn k' (List.mem_cons_of_mem _ hk')) k hk
end
mutual
theorem tks_wid : ∀ t : T, OkR t → wid (tks t) + 16 ≤ 80 * T.sz t
  | .non, _ => by show wid [(1, wNone)] + 16 ≤ 80 * 1; decide +kernel
  | .bl true, _ => by show wid [(1, wYes)] + 16 ≤ 80 * 1; decide +kernel
  | .bl false, _ => by show wid [(1, wNo)] + 16 ≤ 80 * 1; decide +kernel
  | .int i, h => by
    have := num_len h
    show (numL i).length + 0 + 16 ≤ 80 * 1
    omega
  | .str x, h => by
    have h' : okText x = true := h
    unfold okText at h'
    rw [Bool.and_eq_true, decide_eq_true_eq] at h'
    have := dbl_len x
    show (39 :: (dbl x ++ [39])).length + 0 + 16 ≤ 80 * 1
    rw [List.length_cons, List.length_append]
    show (dbl x).length + 1 + 1 + 0 + 16 ≤ _
    have := h'.1
    omega
  | .lst us, h => by
    have := tksL_wid true us h.2
    show (1 + wid (tksL true us ++ [(3, [93])])) + 16 ≤ 80 * (T.szs us + 1)
    rw [wid_app]
    show 1 + (wid (tksL true us) + (1 + 0)) + 16 ≤ _
    omega
  | .dic ks us, h => by
    have := tksD_wid true ks us h.2.2.2.2 h.2.1 h.2.2.2.1
    show (1 + wid (tksD true ks us ++ [(3, [125])])) + 16 ≤ 80 * (T.szs us + 1)
    rw [wid_app]
    show 1 + (wid (tksD true ks us) + (1 + 0)) + 16 ≤ _
    omega
  | .tup _, h => h.elim
theorem tksL_wid : ∀ (b : Bool) (us : List T), OkRs us → wid (tksL b us) ≤ 80 * T.szs us
  | _, [], _ => Nat.zero_le _
  | b, t :: ts, h => by
    have h1 := tks_wid t h.1
    have h2 := tksL_wid false ts h.2
    show wid ((if b then [] else [(3, [44])]) ++ (tks t ++ tksL false ts)) ≤ 80 * (T.sz t + T.szs ts)
    rw [wid_app, wid_app]
    have : wid (if b then ([] : List Tk) else [(3, [44])]) ≤ 1 := by cases b <;> decide
    omega
theorem tksD_wid : ∀ (b : Bool) (ks : List (List Nat)) (us : List T), OkRs us → ks.length = us.length → (∀ k ∈ ks, okName k = true) → wid (tksD b ks us) ≤ 80 * T.szs us
  | b, ks, [], _, _, _ => by rw [tksD]; exact Nat.zero_le _
  | b, [], t :: ts, _, hl, _ => by cases hl
  | b, kk :: ks, t :: ts, h, hl, hn => by
    have h1 := tks_wid t h.1
    have h2 := tksD_wid false ks ts h.2 (by simpa using hl) (fun k' hk' => hn k' (List.mem_cons_of_mem _ hk'))
    have h3 := okName_len (hn kk List.mem_cons_self)
    rw [tksD]
    show wid ((if b then [] else [(3, [44])]) ++ ((1, kk) :: (3, [58]) :: (tks t ++ tksD false ks ts))) ≤ 80 * (T.sz t + T.szs ts)
    rw [wid_app]
    show _ + (kk.length + (1 + wid (tks t ++ tksD false ks ts))) ≤ _
    rw [wid_app]
    have : wid (if b then ([] : List Tk) else [(3, [44])]) ≤ 1 := by cases b <;> decide
    omega
end
theorem OkRs.of {ts : List T} (h : ∀ t ∈ ts, OkR t) : OkRs ts := by
  induction ts with
  | nil => exact True.intro
  | cons t ts ih => exact ⟨h t List.mem_cons_self, ih fun u hu => h u (List.mem_cons_of_mem _ hu)⟩
mutual
theorem ord_ok (turn : Int) : ∀ t : T, OkR t → OkR (ordT turn t) ∧ T.dep (ordT turn t) ≤ T.dep t
  | .non, h => ⟨h, Nat.le_refl _⟩
  | .bl _, h => ⟨h, Nat.le_refl _⟩
  | .int _, h => ⟨h, Nat.le_refl _⟩
  | .str _, h => ⟨h, Nat.le_refl _⟩
  | .lst us, h => ⟨⟨by rw [ordTs_map, List.length_map]; exact h.1, (ords_ok turn us h.2).1⟩, Nat.succ_le_succ (ords_ok turn us h.2).2⟩
  | .dic ks us, h => by
    obtain ⟨nk, hle, h30, hnm, hok⟩ := h
    have z := ords_ok turn us hok
    have hl : ks.length = (ordTs turn us).length := by rw [ordTs_map, List.length_map]; exact hle
    have hrp := rotN_perm turn ks
    refine ⟨⟨hrp.nodup_iff.mpr nk, by rw [List.length_map], by rw [hrp.length_eq]; exact h30, fun k hk => hnm k (hrp.mem_iff.mp hk), OkRs.of fun u hu => ?_⟩, Nat.succ_le_succ (T.deps_of fun u hu => ?_)⟩
    · obtain ⟨k, hk, rfl⟩ := List.mem_map.mp hu
      exact z.1.mem (lookT_mem (hrp.mem_iff.mp hk) hl)
    · obtain ⟨k, hk, rfl⟩ := List.mem_map.mp hu
      exact Nat.le_trans (T.deps_le (lookT_mem (hrp.mem_iff.mp hk) hl)) z.2
  | .tup _, h => h.elim
theorem ords_ok (turn : Int) : ∀ ts : List T, OkRs ts → OkRs (ordTs turn ts) ∧ T.deps (ordTs turn ts) ≤ T.deps ts
  | [], _ => ⟨True.intro, Nat.le_refl _⟩
  | t :: ts, h => by
    have a := ord_ok turn t h.1
    have b := ords_ok turn ts h.2
    refine ⟨⟨a.1, b.1⟩, ?_⟩
    show max (T.dep (ordT turn t)) (T.deps (ordTs turn ts)) ≤ max (T.dep t) (T.deps ts)
    omega
end
mutual
theorem nice_ok {d : Nat} : ∀ t : T, Nice d t → OkR t
  | .non, _ => True.intro
  | .bl _, _ => True.intro
  | .int _, h => h
  | .str _, h => h
  | .lst us, h => ⟨Nat.le_trans h.2.1 (by decide), nices_ok us h.2.2⟩
  | .dic ks us, h => by
    obtain ⟨_, h1, h2, h3, h4, h5⟩ := h
    exact ⟨h3, h2, by omega, h4, nices_ok us h5⟩
  | .tup _, h => h.elim
theorem nices_ok {d : Nat} : ∀ ts : List T, NiceL d ts → OkRs ts
  | [], _ => True.intro
  | t :: ts, h => ⟨nice_ok t h.1, nices_ok ts h.2⟩
end
structure Rdy (z : Nat) (d : Nat) (t : T) : Prop where
  ok : OkR t
  dep : T.dep t ≤ d
  sz : T.sz t ≤ z
section
variable {P : Program} {w : World} {K : PySem.W.Frag} {mg : Str → Option Value} {base : Heap} {f : Addr} {fd : FuncData}
def spThingAny (K : PySem.W.Frag) (n : Nat) : Sp := fun vs H Q E => ∃ d, d ≤ n ∧ spThing K d vs H Q E
theorem thing_any {n : Nat} (h : ∀ d : Nat, FnOk P w K mg base CX0 (3 + d) f fd ["_law_script", "_law_k", "_law_deep"] (spThing K d)) : FnOk P w K mg base CX0 (3 + n) f fd ["_law_script", "_law_k", "_law_deep"] (spThingAny K n) :=
  ⟨fun vs H Q E ⟨d, _, q⟩ => (h d).len vs H Q E q, fun A outer s H args us vs Q E hr he hb hv ⟨d, hd, hs⟩ => (h d).run A outer s H args us vs Q E (hr.mono (by omega)) he hb hv hs⟩
theorem ok_written0 (F : Fun K "written" "written" sWritten f fd) : FnOk P w K mg base CX0 2 f fd ["thing"] (spWr 0) := by
  refine F.ok scWritten (fun vs H Q E h => ?_) (fun cdv A outer s H vs Q E hr h => ?_)
  · obtain ⟨v, t, rfl, _⟩ := h
    rfl
  obtain ⟨v, t, rfl, hv, hf, hd, _⟩ := h
  exact absurd hd (Nat.not_lt_zero _)
theorem ok_lwr0 (F : Fun K "_law_written" "_law_written" sLWr f fd) : FnOk P w K mg base CX0 2 f fd ["_law_thing"] (spWr 0) := by
  refine F.ok scLWr (fun vs H Q E h => ?_) (fun cdv A outer s H vs Q E hr h => ?_)
  · obtain ⟨v, t, rfl, _⟩ := h
    rfl
  obtain ⟨v, t, rfl, hv, hf, hd, _⟩ := h
  exact absurd hd (Nat.not_lt_zero _)
theorem written_all (F : Fun K "written" "written" sWritten f fd) (B : Bl2 mg) (Gk : Dn P w K mg base 1 "kind_of" ["thing"] spKind) (b : Binds K fd ["thing"] []) (kp : PySem.W.keepIn K (.ref f) = true) (m : mg "written" = some (.ref f)) :
    ∀ n : Nat, FnOk P w K mg base CX0 (2 + n) f fd ["thing"] (spWr n)
  | 0 => ok_written0 F
  | n + 1 => ok_writtenS F B Gk ⟨_, _, written_all F B Gk b kp m n, b, kp, m⟩
theorem lwr_all (F : Fun K "_law_written" "_law_written" sLWr f fd) (B : Bl3 mg) (b : Binds K fd ["_law_thing"] []) (kp : PySem.W.keepIn K (.ref f) = true) (m : mg "_law_written" = some (.ref f)) :
    ∀ n : Nat, FnOk P w K mg base CX0 (2 + n) f fd ["_law_thing"] (spWr n)
  | 0 => ok_lwr0 F
  | n + 1 => ok_lwrS F B ⟨_, _, lwr_all F B b kp m n, b, kp, m⟩
end
end K28
namespace K28
open PySem L2
local macro_rules | `(tactic| walk_at "rd") => `(tactic| simp only [cxOf_K, nox_K, compCx_K, tSeq, tNext, tAsg, gName, tRet, tRetN, tIfS, tDrop, tOp, tUn, tVar, tC, tCall, tCons, tNil, tTest, tB, tAnd, tOr, tNot, tAndV, tOrV, tNotV, tIf, tCB, tBM, tComp, tTrue, tPart, tNoPart, tSl, tChain, tIsN, tNotN, tLst, tTup, tFor_eq, sDPut, tDNewK, tNever, rI0, rI, rU, rEq, rNe, rMulS, rInC, iRng1, iStr, CDiv, CMul, CPow, scal, List.append_nil, List.getElem?_cons_zero, List.getElem?_cons_succ, List.set_cons_zero, List.set_cons_succ, List.map_cons, List.map_nil, List.length_cons, List.length_nil, sizeLine_eq, Nat.reduceAdd, Nat.reduceLeDiff, Option.join_some, Option.join_none, Option.some.injEq, V.int.injEq, V.str.injEq, V.bl.injEq, V.ref.injEq, V.ty.injEq, List.cons.injEq, and_true, true_and, and_self, exists_eq_left', exists_eq_left, exists_and_left, exists_and_right, decide_eq_true_eq, Bool.not_eq_eq_eq_not, Bool.not_true, Bool.not_false, decide_eq_false_iff_not, Int.reduceLT, Int.reduceLE, Int.reduceNeg, Int.reducePow, Int.reduceAdd, Int.reduceSub, Int.reduceMul, Int.reduceToNat, natAbs10, Nat.reduceLT, Nat.reducePow, or_true, true_or, if_true, if_false, Bool.false_eq_true, ite_true, ite_false, reduceCtorEq])
local macro_rules | `(tactic| walk_at "rd3") => `(tactic| simp only [gTup, gCons, gNil, iZip, tIsT, tDisp, tPairs, tBM0, iList, iDict, tThaw, tMaxD, rMaxD, tDGet, rVals, tComp, cxOf_K, nox_K, compCx_K, tSeq, tNext, tAsg, gName, tRet, tRetN, tIfS, tDrop, tOp, tUn, tVar, tC, tCall, tCons, tNil, tTest, tB, tAnd, tOr, tNot, tAndV, tOrV, tNotV, tIf, tCB, tBM, tComp, tTrue, tPart, tNoPart, tSl, tChain, tIsN, tNotN, tLst, tTup, tFor_eq, sDPut, tDNewK, tNever, rI0, rI, rU, rEq, rNe, rMulS, rInC, iRng1, iStr, CDiv, CMul, CPow, scal, List.append_nil, List.getElem?_cons_zero, List.getElem?_cons_succ, List.set_cons_zero, List.set_cons_succ, List.map_cons, List.map_nil, List.length_cons, List.length_nil, sizeLine_eq, Nat.reduceAdd, Nat.reduceLeDiff, Option.join_some, Option.join_none, Option.some.injEq, V.int.injEq, V.str.injEq, V.bl.injEq, V.ref.injEq, V.ty.injEq, List.cons.injEq, and_true, true_and, and_self, exists_eq_left', exists_eq_left, exists_and_left, exists_and_right, decide_eq_true_eq, Bool.not_eq_eq_eq_not, Bool.not_true, Bool.not_false, decide_eq_false_iff_not, Int.reduceLT, Int.reduceLE, Int.reduceNeg, Int.reducePow, Int.reduceAdd, Int.reduceSub, Int.reduceMul, Int.reduceToNat, natAbs10, Nat.reduceLT, Nat.reducePow, or_true, true_or, if_true, if_false, Bool.false_eq_true, ite_true, ite_false, reduceCtorEq])
local macro_rules | `(tactic| walk_at "rd6") => `(tactic| simp only [tFld, sFld, sFldAug, tMeth, tMake, rAdd, gTup, gCons, gNil, iZip, tIsT, tDisp, tPairs, tBM0, iList, iDict, tThaw, tMaxD, rMaxD, tDGet, rVals, tComp, cxOf_K, nox_K, compCx_K, tSeq, tNext, tAsg, gName, tRet, tRetN, tIfS, tDrop, tOp, tUn, tVar, tC, tCall, tCons, tNil, tTest, tB, tAnd, tOr, tNot, tAndV, tOrV, tNotV, tIf, tCB, tBM, tComp, tTrue, tPart, tNoPart, tSl, tChain, tIsN, tNotN, tLst, tTup, tFor_eq, sDPut, tDNewK, tNever, rI0, rI, rU, rEq, rNe, rMulS, rInC, iRng1, iStr, CDiv, CMul, CPow, scal, List.append_nil, List.getElem?_cons_zero, List.getElem?_cons_succ, List.set_cons_zero, List.set_cons_succ, List.map_cons, List.map_nil, List.length_cons, List.length_nil, sizeLine_eq, Nat.reduceAdd, Nat.reduceLeDiff, Option.join_some, Option.join_none, Option.some.injEq, V.int.injEq, V.str.injEq, V.bl.injEq, V.ref.injEq, V.ty.injEq, List.cons.injEq, and_true, true_and, and_self, exists_eq_left', exists_eq_left, exists_and_left, exists_and_right, decide_eq_true_eq, Bool.not_eq_eq_eq_not, Bool.not_true, Bool.not_false, decide_eq_false_iff_not, Int.reduceLT, Int.reduceLE, Int.reduceNeg, Int.reducePow, Int.reduceAdd, Int.reduceSub, Int.reduceMul, Int.reduceToNat, natAbs10, Nat.reduceLT, Nat.reducePow, or_true, true_or, if_true, if_false, Bool.false_eq_true, ite_true, ite_false, reduceCtorEq])
seal L2.PSs L2.PS L2.PE L2.PT L2.PW L2.PA L2.PI L2.PG L2.PGs L2.PPs L2.PTs
abbrev sLaw : Stmt := top 52
def zsT (l : List Tk) : List (Str × Str) := l.map (fun t => (kS t.1, tx t.2)) ++ [(Str.ofString "end", Str.ofString "")]
theorem tkp_same {H H' : Hp} {xs : List V} {zs : List (Str × Str)} (g : Same H H') (h : TkP H xs zs) : TkP H' xs zs := ⟨h.1, fun i k x e => by
  obtain ⟨p, h1, h2⟩ := h.2 i k x e
  exact ⟨p, h1, g _ _ h2⟩⟩
theorem tkp_snoc {H : Hp} {xs : List V} {zs : List (Str × Str)} {p : Addr} {k x : Str} (h : TkP H xs zs) (hp : H p = some (.tup [.str k, .str x])) : TkP H (xs ++ [.ref p]) (zs ++ [(k, x)]) := ⟨by rw [List.length_append, List.length_append, h.1]; rfl, fun i k' x' e => by
  by_cases c : i < zs.length
  · rw [List.getElem?_append_left c] at e
    rw [List.getElem?_append_left (by rw [h.1]; exact c)]
    exact h.2 i k' x' e
  · rw [List.getElem?_append_right (by omega)] at e
    rw [List.getElem?_append_right (by have := h.1; omega), h.1]
    cases hz : i - zs.length with
    | zero =>
      rw [hz] at e
      cases e
      exact ⟨p, rfl, hp⟩
    | succ m => rw [hz] at e; simp at e⟩
theorem Tks.pairs {H : Hp} {xs : List V} {l : List Tk} (h : Tks H xs l) : TkP H xs (l.map fun t => (kS t.1, tx t.2)) := ⟨by rw [List.length_map]; exact h.1, fun i k x e => by
  rw [List.getElem?_map] at e
  cases ht : l[i]? with
  | none => rw [ht] at e; cases e
  | some t =>
    rw [ht] at e
    cases e
    exact h.2 i t ht⟩
theorem due_zs {r : List (Nat × Tk)} {n i : Nat} {t : T} (h : (dueT 0 r ++ [endT n])[i]? = some t) : ∃ (k x : Str) (m : Int), (zsT (r.map (·.2)))[i]? = some (k, x) ∧ t = .tup [.str (ts k), .str (ts x), .int m] := by
  have hl := due_len 0 r
  unfold zsT
  by_cases c : i < r.length
  · rw [List.getElem?_append_left (by omega)] at h
    obtain ⟨m, hm⟩ := due_at 0 r i r[i] (List.getElem?_eq_getElem c)
    rw [hm] at h
    cases h
    refine ⟨kS r[i].2.1, tx r[i].2.2, m, ?_, ?_⟩
    · rw [List.getElem?_append_left (by simpa using c), List.getElem?_map, List.getElem?_map, List.getElem?_eq_getElem c]
      rfl
    · rw [ts_tx]
      rfl
  · rw [List.getElem?_append_right (by omega), hl] at h
    cases hz : i - r.length with
    | zero =>
      rw [hz] at h
      cases h
      refine ⟨Str.ofString "end", Str.ofString "", n, ?_, ?_⟩
      · rw [List.getElem?_append_right (by simp; omega)]
        simp [hz]
      · show T.tup [.str (ts (Str.ofString "end")), .str [], .int n] = _
        rw [show ts (Str.ofString "") = [] by decide +kernel]
    | succ m => rw [hz] at h; simp at h
section
variable {P : Program} {w : World} {K : PySem.W.Frag} {mg : Str → Option Value} {base : Heap} {f : Addr} {fd : FuncData}
def spLaw (K : PySem.W.Frag) : Sp := fun vs H Q _ => ∃ (a : Addr) (ns : List Int), vs = [.ref a] ∧ SqL K H a (ns.map V.int) ∧ ns.length ≤ 63 ∧ ∀ H', Q (.bl true) H'
theorem scLaw : FnScope ["_law_script", "_law_thing", "_law_k", "_law_more", "_law_beside", "_law_text", "_law_row", "_law_loose"] ["_law_script"] (defScope sLaw) := ⟨rfl, rfl, rfl, by decide +kernel, rfl, by decide +kernel, by decide +kernel⟩
theorem ok_law (F : Fun K "law" "law" sLaw f fd) (B : Bl2 mg) (G_law_cell : Dn P w K mg base 1 "_law_cell" ["_law_script", "_law_k"] (spCell K)) (G_law_name_by : Dn P w K mg base 1 "_law_name_by" ["_law_more"] spName)
    (G_law_thing_by : Dn P w K mg base (3 + 3) "_law_thing_by" ["_law_script", "_law_k", "_law_deep"] (spThingAny K 3)) (G_law_row_of : Dn P w K mg base (1 + 9) "_law_row_of" ["_law_thing", "_law_turn"] (spRof 9)) (G_law_laid : Dn P w K mg base 2 "_law_laid" ["_law_row", "_law_cell_here"] spLaid)
    (Gread : Dn P w K mg base (4 + 3 * 9 + 1) "read" ["text"] spRead) (Gtokens : Dn P w K mg base 4 "tokens" ["text"] spToks) (Gwritten : Dn P w K mg base (2 + 10) "written" ["thing"] (spWr 10)) (G_law_written : Dn P w K mg base (2 + 10) "_law_written" ["_law_thing"] (spWr 10)) (G_law_alike : Dn P w K mg base (2 + 9) "_law_alike" ["_law_one", "_law_other"] (spAlike 9)) : FnOk P w K mg base CX0 (4 + 3 * 9 + 1 + 1) f fd ["_law_script"] (spLaw K) := by
  refine F.ok scLaw (fun vs H Q E h => ?_) (fun cdv A outer s H vs Q E hr h => ?_)
  · obtain ⟨a, ns, rfl, _⟩ := h
    rfl
  obtain ⟨a, ns, rfl, hS, h63, q⟩ := h
  have nd := scLaw.nd
  have hu64 := hr.units
  refine ⟨_, (pss_cons (ps_set (i := 1) nd rfl (Or.inl rfl) (pe_cd G_law_thing_by hr (by omega) rfl (pa_cons (pv 0) (pa_cons pe_int (pa_cons pe_int pa_nil)))))
    (pss_cons (ps_for PassesOwn.never rfl (pi_range1 rfl B.range (pa_cons (pe_op op_mod (pe_cd G_law_cell hr (by omega) rfl (pa_cons (pv 0) (pa_cons pe_int pa_nil))) pe_int) pa_nil)) (pg_name (i := 2) nd rfl (Or.inl rfl)) (pss_cons (ps_set (i := 3) nd rfl (Or.inl rfl) (pe_cd G_law_cell hr (by omega) rfl (pa_cons (pv 0) (pa_cons (pe_op op_add pe_int (pv 2)) pa_nil))))
    (pss_cons (ps_set (i := 4) nd rfl (Or.inl rfl) (pe_cd G_law_thing_by hr (by omega) rfl (pa_cons (pv 0) (pa_cons (pe_op op_add pe_int (pv 2)) (pa_cons pe_int pa_nil)))))
    (pss_one (ps_set (i := 1) nd rfl (Or.inl rfl) (pe_ix ix_list (pe_lst (pa_cons (pe_lst (pa_cons (pv 1) (pa_cons (pv 4) pa_nil))) (pa_cons (pe_lst (pa_cons (pv 4) (pa_cons (pv 1) pa_nil))) (pa_cons (pe_disp (pps_cons (pe_cd G_law_name_by hr (by omega) rfl (pa_cons (pe_op op_fdiv (pv 3) pe_int) pa_nil)) (pv 1) (pps_cons pe_str (pv 4) pps_nil)) (by rfl) (by rfl) (List.cons_ne_nil _ _) (by decide)) pa_nil)))) (pe_op op_mod (pv 3) pe_int) (fun _ _ => rfl)))))))
    (pss_cons (ps_set (i := 5) nd rfl (Or.inl rfl) (pe_cd Gwritten hr (by omega) rfl (pa_cons (pv 1) pa_nil)))
    (pss_cons (ps_if (PW.pt (pw_or (pt_cmpR op_ne (pv 5) (pe_cd G_law_written hr (by omega) rfl (pa_cons (pv 1) pa_nil)) (nomark _)) (pw_or1 (pt_not (pt_val (pe_cd G_law_alike hr (by omega) rfl (pa_cons (pe_cd Gread hr (by omega) rfl (pa_cons (pv 5) pa_nil)) (pa_cons (pv 1) pa_nil)))))))) (pss_one (ps_ret pe_bl)) pss_nil)
    (pss_cons (ps_set (i := 6) nd rfl (Or.inl rfl) (pe_cd G_law_row_of hr (by omega) rfl (pa_cons (pv 1) (pa_cons pe_int pa_nil))))
    (pss_cons (ps_if (pt_cmpR (op_ne_P hu64) (pe_comp (own := ["_law_kind", "_law_string", "_law_at"]) (F := []) ⟨rfl, by with_unfolding_all rfl, by with_unfolding_all rfl, by with_unfolding_all rfl, .nil⟩ rfl (pi_list (pe_cd Gtokens hr (by omega) rfl (pa_cons (pv 5) pa_nil))) (fun _ _ _ _ => pg_tupC (K := K) (n := 3) rfl rfl (pgs_cons (pg_name (i := 0) (by show (compN ["_law_kind", "_law_string", "_law_at"] []).Nodup; decide +kernel) rfl (Or.inl rfl)) (pgs_cons (pg_name (i := 1) (by show (compN ["_law_kind", "_law_string", "_law_at"] []).Nodup; decide +kernel) rfl (Or.inl rfl)) (pgs_cons (pg_name (i := 2) (by show (compN ["_law_kind", "_law_string", "_law_at"] []).Nodup; decide +kernel) rfl (Or.inl rfl)) pgs_nil)))) (fun _ _ _ _ => pts_nil) (fun _ _ _ _ => (pe_tup (pa_cons (pv 0) (pa_cons (pv 1) pa_nil))))) (pe_op op_cat (pv 6) (pe_lst (pa_cons (pe_tup (pa_cons pe_str (pa_cons pe_str pa_nil))) pa_nil))) (nomark _)) (pss_one (ps_ret pe_bl)) pss_nil)
    (pss_cons (ps_set (i := 7) nd rfl (Or.inl rfl) (pe_ix ix_tup (pe_cd G_law_laid hr (by omega) rfl (pa_cons (pe_cd G_law_row_of hr (by omega) rfl (pa_cons (pv 1) (pa_cons (pe_cd G_law_cell hr (by omega) rfl (pa_cons (pv 0) (pa_cons pe_int pa_nil))) pa_nil))) (pa_cons (pe_cd G_law_cell hr (by omega) rfl (pa_cons (pv 0) (pa_cons pe_int pa_nil))) pa_nil))) pe_int (fun _ _ => rfl)))
    (pss_one (ps_ret (pe_cmpR op_eq (pe_cd Gwritten hr (by omega) rfl (pa_cons (pe_cd Gread hr (by omega) rfl (pa_cons (pv 7) pa_nil)) pa_nil)) (pv 5) (nomark _))))))))))), ?_⟩
  rw [show start ["_law_script", "_law_thing", "_law_k", "_law_more", "_law_beside", "_law_text", "_law_row", "_law_loose"] [.ref a] = [some (.ref a), none, none, none, none, none, none, none] from rfl]
  walk_at "rd6"
  refine ⟨3, by decide, a, ns, 0, rfl, hS, h63, by decide, by decide, fun v0 H1 g1 hv0 => ?_⟩
  have hn0 := thT_nice ns 3 0
  have r0 : Rdy 125 3 (thT ns 3 0) := ⟨nice_ok _ hn0, Nice.dep _ hn0, Nice.sz _ hn0⟩
  generalize thT ns 3 0 = t0 at hv0 r0 hn0
  refine spCell_i (g1.seq hS) h63 (by decide) (by decide) fun H2 g2 => ⟨_, rfl, by omega, by omega, ?_⟩
  obtain ⟨n, hn, hn5⟩ : ∃ n : Nat, (cellF ns 90 % 6).toNat = n ∧ n ≤ 5 := ⟨_, rfl, by omega⟩
  rw [hn]
  have g02 := g1.trans g2
  refine forB_rng (fun i σ' H' => ∃ v t o2 o3 o4, σ' = [some (.ref a), some v, o2, o3, o4, none, none, none] ∧ Same H H' ∧ Rep H' v t ∧ Rdy (125 + 2 * i) (3 + i) t) ⟨v0, t0, _, _, _, rfl, g02, Rep.same g2 _ _ hv0, r0⟩ ?_ ?_
  · rintro i σ' H' hi ⟨v, t, o2, o3, o4, rfl, g, hv, r⟩
    walk_at "rd6"
    have c1 := cellF_lo ns (91 + (0 + (i : Int)))
    have c2 := cellF_hi ns (91 + (0 + (i : Int)))
    refine spCell_i (g.seq hS) h63 (by omega) (by omega) fun H3 g3 => ?_
    refine ⟨0, by decide, a, ns, 200 + (0 + (i : Int)), rfl, (g.trans g3).seq hS, h63, by omega, by omega, fun u H4 g4 hu => ?_⟩
    have hnu := thT_nice ns 0 (200 + (0 + (i : Int)))
    have ru : Rdy 1 0 (thT ns 0 (200 + (0 + (i : Int)))) := ⟨nice_ok _ hnu, Nice.dep _ hnu, Nice.sz _ hnu⟩
    generalize thT ns 0 (200 + (0 + (i : Int))) = t1 at hu ru hnu
    intro p1 hp1 p2 hp2 p3 hp3
    have s3 : Same H4 (upd (upd (upd H4 p1 (.lst [v, u])) p2 (.lst [u, v])) p3 (.dK [])) := (same_new hp1 _).trans ((same_new hp2 _).trans (same_new hp3 _))
    have n12 : p1 ≠ p2 := fun z => by rw [← z, upd_same] at hp2; cases hp2
    have n23 : p2 ≠ p3 := fun z => by rw [← z, upd_same] at hp3; cases hp3
    have n13 : p1 ≠ p3 := fun z => by rw [← z, upd_ne n12, upd_same] at hp3; cases hp3
    have hp3H : H4 p3 = none := none_back ((same_new hp1 _).trans (same_new hp2 _)) hp3
    have hA1 : upd (upd (upd H4 p1 (.lst [v, u])) p2 (.lst [u, v])) p3 (.dK []) p1 = some (.lst [v, u]) := by rw [upd_ne n13, upd_ne n12]; exact upd_same
    have hA2 : upd (upd (upd H4 p1 (.lst [v, u])) p2 (.lst [u, v])) p3 (.dK []) p2 = some (.lst [u, v]) := by rw [upd_ne n23]; exact upd_same
    have hA3 : upd (upd (upd H4 p1 (.lst [v, u])) p2 (.lst [u, v])) p3 (.dK []) p3 = some (.dK []) := upd_same
    generalize upd (upd (upd H4 p1 (.lst [v, u])) p2 (.lst [u, v])) p3 (.dK []) = H5 at s3 hA1 hA2 hA3 ⊢
    refine ⟨_, rfl, _, rfl, by omega, by omega, fun H6 g6 => ⟨g6 _ _ hA3, [(nK (nameF (cellF ns (91 + (0 + (i : Int))) / 4)), v), (nK [120], u)], by rw [show Str.ofString "x" = tx [120] by decide +kernel]; rfl, by simp, ?_⟩⟩
    have hnk := nameF_ok (cellF ns (91 + (0 + (i : Int))) / 4)
    generalize nameF (cellF ns (91 + (0 + (i : Int))) / 4) = nm at hnk ⊢
    have r1 := r.dep
    have r2 := r.sz
    have u1 := ru.dep
    have u2 := ru.sz
    obtain ⟨ps, ks, us, eps, ek, hR, hok, hdd, hss⟩ : ∃ ps ks us, mergeK [] [(nK nm, v), (nK [120], u)] = ps ∧ ps.map (·.1) = ks.map nK ∧ (∀ Hx, Rep Hx v t → Rep Hx u t1 → Reps Hx (ps.map (·.2)) us) ∧ OkR (.dic ks us) ∧ T.deps us ≤ 3 + i ∧ T.szs us ≤ 126 + 2 * i := by
      by_cases e : nm = [120]
      · subst e
        refine ⟨[(nK [120], u)], [[120]], [t1], by simp [mergeK, putK], rfl, fun Hx _ h2 => ⟨u, [], rfl, h2, rfl⟩, ⟨by simp, rfl, by simp, fun k hk => by rw [List.mem_singleton.mp hk]; exact hnk, ru.ok, True.intro⟩, ?_, ?_⟩
        · show max (T.dep t1) 0 ≤ _; omega
        · show T.sz t1 + 0 ≤ _; omega
      · have e2 : ¬ (nK nm : Key) = nK [120] := fun z => e (nK_inj z)
        refine ⟨[(nK nm, v), (nK [120], u)], [nm, [120]], [t, t1], ?_, rfl, fun Hx h1 h2 => ⟨v, [u], rfl, h1, u, [], rfl, h2, rfl⟩, ⟨by simp [e], rfl, by simp, fun k hk => ?_, r.ok, ru.ok, True.intro⟩, ?_, ?_⟩
        · simp [mergeK, putK, e2]
        · rcases List.mem_cons.mp hk with z | z
          · rw [z]; exact hnk
          · rw [List.mem_singleton.mp z]; decide +kernel
        · show max (T.dep t) (max (T.dep t1) 0) ≤ _; omega
        · show T.sz t + (T.sz t1 + 0) ≤ _; omega
    rw [eps]
    have s7 : Same H4 (upd H6 p3 (.dK ps)) := (s3.trans g6).put hp3H _
    have hB1 : upd H6 p3 (.dK ps) p1 = some (.lst [v, u]) := by rw [upd_ne n13]; exact g6 _ _ hA1
    have hB2 : upd H6 p3 (.dK ps) p2 = some (.lst [u, v]) := by rw [upd_ne n23]; exact g6 _ _ hA2
    have hB3 : upd H6 p3 (.dK ps) p3 = some (.dK ps) := upd_same
    generalize upd H6 p3 (.dK ps) = H7 at s7 hB1 hB2 hB3 ⊢
    intro p4 hp4
    have s8 := same_new hp4 (.lst [V.ref p1, V.ref p2, V.ref p3])
    have hp4' : upd H7 p4 (.lst [V.ref p1, V.ref p2, V.ref p3]) p4 = some (.lst [V.ref p1, V.ref p2, V.ref p3]) := upd_same
    have gg := s7.trans s8
    have hvv := Rep.same (g3.trans (g4.trans gg)) _ _ hv
    have huu := Rep.same gg _ _ hu
    refine ⟨_, rfl, pick_any hp4' (by omega) (by simp only [List.length_cons, List.length_nil]; omega) fun x hx => ?_⟩
    simp only [List.mem_cons, List.not_mem_nil, or_false] at hx
    have gH := g.trans (g3.trans (g4.trans gg))
    rcases hx with rfl | rfl | rfl
    · refine ⟨_, ⟨rfl, _, rfl⟩, gH, .lst [t, t1], ⟨p1, [v, u], rfl, s8 _ _ hB1, v, [u], rfl, hvv, u, [], rfl, huu, rfl⟩, ⟨by simp, r.ok, ru.ok, True.intro⟩, ?_, ?_⟩
      · show max (T.dep t) (max (T.dep t1) 0) + 1 ≤ _; omega
      · show T.sz t + (T.sz t1 + 0) + 1 ≤ _; omega
    · refine ⟨_, ⟨rfl, _, rfl⟩, gH, .lst [t1, t], ⟨p2, [u, v], rfl, s8 _ _ hB2, u, [v], rfl, huu, v, [], rfl, hvv, rfl⟩, ⟨by simp, ru.ok, r.ok, True.intro⟩, ?_, ?_⟩
      · show max (T.dep t1) (max (T.dep t) 0) + 1 ≤ _; omega
      · show T.sz t1 + (T.sz t + 0) + 1 ≤ _; omega
    · refine ⟨_, ⟨rfl, _, rfl⟩, gH, .dic ks us, ⟨p3, ps, rfl, s8 _ _ hB3, ek, hR _ hvv huu⟩, hok, ?_, ?_⟩
      · show T.deps us + 1 ≤ _; omega
      · show T.szs us + 1 ≤ _; omega
  · rintro σ' H3 ⟨v, t, o2, o3, o4, rfl, g3, hv, rt⟩
    walk_at "rd6"
    have rdp := rt.dep
    have rsz := rt.sz
    have oT := ord_ok 0 t rt.ok
    have oS := ord_sz 0 t rt.ok
    have oL := tks_len (ordT 0 t)
    have oW := tks_wid _ oT.1
    have hok := tks_ok _ oT.1
    have hw := wr_len t (ok_okw t rt.ok)
    have ew := wr_laid rt.ok oT.1
    have hmap := spc_map false (tks (ordT 0 t))
    have hrok : ∀ y ∈ spc false (tks (ordT 0 t)), OkTk y.2 := fun y hy => hok _ (by rw [← hmap]; exact List.mem_map_of_mem hy)
    have hch := chn_tks oT.1
    have hrl : (spc false (tks (ordT 0 t))).length ≤ 1000 := by
      have := congrArg List.length hmap
      rw [List.length_map] at this
      omega
    have hln : (lay (spc false (tks (ordT 0 t))) ++ List.replicate 0 32).length = (wrT t).length := by rw [ew, tx_len]
    have hw0 := ok_okw t rt.ok
    generalize spc false (tks (ordT 0 t)) = r at hmap hrok hch hrl hln ew
    refine ⟨v, t, rfl, hv, hw0, by omega, by omega, fun H4 g4 => ⟨v, t, rfl, Rep.same g4 _ _ hv, hw0, by omega, by omega, fun H5 g5 => ⟨rfl, false, by simp, iteF ?_⟩⟩⟩
    rw [ew]
    refine ⟨r, 0, ordT 0 t, rfl, hrok, hch, hrl, by omega, hmap, oT.1, by omega, by omega, fun v1 H6 g6 hv1 => ?_⟩
    have hv6 := Rep.same (g4.trans (g5.trans g6)) _ _ hv
    refine ⟨v1, v, t, 0, rfl, Rep.same (newH_sub _ _) _ _ hv1, hv6, rt.ok, by omega, by omega, fun H7 g7 => ⟨true, rfl, iN (by decide) ?_⟩⟩
    have hv7 := Rep.same g7 _ _ hv6
    refine ⟨v, t, 0, rfl, hv7, rt.ok, by omega, by decide, by decide, by omega, fun p xs H8 g8 hp hk => ?_⟩
    refine ⟨r, 0, rfl, hrok, hch, hrl, by omega, fun v2 H9 g9 hv2 => ?_⟩
    obtain ⟨al, ys, rfl, hal, hys⟩ := hv2
    have hyl := hys.length
    rw [List.length_append, due_len] at hyl
    have hyl' : ys.length = r.length + 1 := hyl
    have hzl : (zsT (r.map (·.2))).length = ys.length := by unfold zsT; simp; omega
    refine ⟨al, rfl, ⟨_, SqL.of hal⟩, comp_tri (K := K) (xs := ys) (fun i zs H' => Same H9 H' ∧ TkP H' zs ((zsT (r.map (·.2))).take i)) (by rw [sizeLine_eq]; omega) ⟨Same.refl _, rfl, fun i k x e => by simp at e⟩ (fun i zs H' _ h => SqL.of (h.1 _ _ hal)) ?_ ?_⟩
    · rintro i u zs H' hu' _ ⟨g, hk'⟩
      obtain ⟨t', ht', hr'⟩ := hys.get hu'
      obtain ⟨k, x, m, hz, rfl⟩ := due_zs ht'
      obtain ⟨b, ws, rfl, hb, hws⟩ := hr'
      obtain ⟨w1, r1, rfl, e1, w2, r2, rfl, e2, w3, r3, rfl, e3, rfl⟩ := hws
      have e1' : w1 = V.str k := by
        have z : w1 = V.str (tx (ts k)) := e1
        rwa [tx_ts] at z
      have e2' : w2 = V.str x := by
        have z : w2 = V.str (tx (ts x)) := e2
        rwa [tx_ts] at z
      subst e1' e2'
      refine ⟨b, _, _, _, rfl, SqT.of (g _ _ hb), ?_⟩
      walk_at "rd6"
      intro pn hpn
      refine ⟨g.trans (same_new hpn _), ?_⟩
      rw [take_succ_of hz]
      exact tkp_snoc (tkp_same (same_new hpn _) hk') upd_same
    · rintro zs HA _ ⟨gA, hkA⟩ p0 hp0 p1 hp1 p2 hp2
      rw [← hzl, List.take_length] at hkA
      have sA := same_new hp0 (.lst zs)
      have sB := same_new hp1 (.tup [V.str (Str.ofString "end"), V.str (Str.ofString "")])
      have sC := same_new hp2 (.lst [V.ref p1])
      have hp' : upd (upd (upd HA p0 (.lst zs)) p1 (.tup [V.str (Str.ofString "end"), V.str (Str.ofString "")])) p2 (.lst [V.ref p1]) p = some (.lst xs) := sC _ _ (sB _ _ (sA _ _ (gA _ _ (g9 _ _ hp))))
      have hxl : xs.length ≤ 1000 := by rw [hk.1]; omega
      refine ⟨p, p2, xs, [V.ref p1], rfl, rfl, hp', upd_same, by rw [sizeLine_eq]; show xs.length + 1 ≤ _; omega, fun pc hpc => ?_⟩
      have sD := same_new hpc (.lst (xs ++ [V.ref p1]))
      have hR : TkP (upd (upd (upd HA p0 (.lst zs)) p1 (.tup [V.str (Str.ofString "end"), V.str (Str.ofString "")])) p2 (.lst [V.ref p1])) (xs ++ [V.ref p1]) (zsT (r.map (·.2))) := by
        unfold zsT
        rw [hmap]
        exact tkp_snoc (Tks.pairs (hk.same (g9.trans (gA.trans (sA.trans (sB.trans sC)))))) (sC _ _ upd_same)
      have sE := sA.trans (sB.trans (sC.trans sD))
      refine ⟨p0, pc, zs, xs ++ [V.ref p1], _, rfl, rfl, sD _ _ (sC _ _ (sB _ _ upd_same)), upd_same, tkp_same sE hkA, tkp_same sD hR, false, rfl, iteF ?_⟩
      have gT := g3.trans (g4.trans (g5.trans (g6.trans (g7.trans (g8.trans (g9.trans (gA.trans sE)))))))
      have hvE := Rep.same (g8.trans (g9.trans (gA.trans sE))) _ _ hv7
      generalize upd (upd (upd (upd HA p0 (.lst zs)) p1 (.tup [V.str (Str.ofString "end"), V.str (Str.ofString "")])) p2 (.lst [V.ref p1])) pc (.lst (xs ++ [V.ref p1])) = HE at gT hvE ⊢
      have hc0 := cellF_lo ns 97
      have hc1 := cellF_hi ns 97
      refine spCell_i (gT.seq hS) h63 (by decide) (by decide) fun HF gF => ?_
      generalize cellF ns 97 = turn at hc0 hc1 ⊢
      have pT := ord_ok turn t rt.ok
      have pS := ord_sz turn t rt.ok
      have pL := tks_len (ordT turn t)
      have pW := tks_wid _ pT.1
      have hvF := Rep.same gF _ _ hvE
      refine ⟨v, t, turn, rfl, hvF, rt.ok, by omega, hc0, by omega, by omega, fun pr xr HG gG hpr hkr => ?_⟩
      have hd0 := cellF_lo ns 98
      have hd1 := cellF_hi ns 98
      refine spCell_i ((gT.trans (gF.trans gG)).seq hS) h63 (by decide) (by decide) fun HI gI => ?_
      refine ⟨pr, xr, tks (ordT turn t), _, rfl, gI _ _ hpr, hkr.same gI, tks_ok _ pT.1, by omega, by omega, hd0, by omega, fun o l r2 e HJ gJ ho hl hrok2 hch2 hmap2 hlen2 => ?_⟩
      refine rIxT_i (SqT.of ho) (atI_nat (j := 0) rfl) ?_
      have hrl2 : r2.length ≤ 1000 := by
        have := congrArg List.length hmap2
        rw [List.length_map] at this
        omega
      refine ⟨r2, e, ordT turn t, rfl, hrok2, hch2, hrl2, by omega, hmap2, pT.1, by omega, by omega, fun v3 HK gK hv3 => ?_⟩
      refine ⟨v3, ordT turn t, rfl, Rep.same (newH_sub _ _) _ _ hv3, ok_okw _ pT.1, by omega, by omega, fun HL gL => ⟨rfl, ?_⟩⟩
      rw [wr_ord turn t rt.ok, ← ew, decide_eq_true rfl]
      exact q _
end
end K28
namespace K28
open PySem L2
theorem words_key {P : Program} {w : World} {x : Str} {t : Tok} {v : Value} {e : DictEntry} (h : e = ⟨PyData.keyHash w.params x, .str x t, v⟩) : ∃ k, (mixKind P w).is k e.key = true ∧ e.hash = (mixKind P w).hash k :=
  ⟨Sum.inr x, by rw [h]; exact keyIs_str x t, by rw [h]; rfl⟩
theorem words_dd {P : Program} {w : World} {h : Heap} {a : Addr} {t1 t2 t3 : Tok} {ep : Nat} (e : h.get? a = some ⟨.type "dict", none, .dict #[⟨PyData.keyHash w.params (Str.ofString "none"), .str (Str.ofString "none") t1, .none⟩, ⟨PyData.keyHash w.params (Str.ofString "yes"), .str (Str.ofString "yes") t2, .bool true⟩, ⟨PyData.keyHash w.params (Str.ofString "no"), .str (Str.ofString "no") t3, .bool false⟩] ep, #[]⟩) : h.DictOf (mixKind P w) a wordsU := by
  refine ⟨_, _, _, e, ⟨rfl, rfl, rfl⟩, rfl, fun x hx => ?_, .cons (keyIs_str _ t1) rfl (.cons (keyIs_str _ t2) rfl (.cons (keyIs_str _ t3) rfl .nil)), by decide +kernel⟩
  have hx := Array.mem_toList_iff.mpr hx
  rcases List.mem_cons.mp hx with z | z
  · exact words_key z
  rcases List.mem_cons.mp z with z | z
  · exact words_key z
  rcases List.mem_cons.mp z with z | z
  · exact words_key z
  exact absurd z List.not_mem_nil
theorem all_mk {l : PySem.W.OpenLaw} {w : World} {K : PySem.W.Frag} {h : Heap} {mg : Str → Option Value} {fa f0 f1 f2 f3 f4 f5 f6 f7 f8 f9 f10 f11 f12 f13 f14 f15 f16 f17 f18 f19 f20 f21 f22 f23 f24 f25 f26 f27 f28 f29 : Addr} (X : K.In h) (G : h.Ns mainGlobals mg) (hfa : mg "law" = some (.ref fa))
    {od0 an0 : Option Addr} {sl0 : Array (Option Value)} {oc0 kV0 dc0 pm0 cd0 ct0 : Value}
    {od1 an1 : Option Addr} {sl1 : Array (Option Value)} {oc1 kV1 dc1 pm1 cd1 ct1 : Value}
    {od2 an2 : Option Addr} {sl2 : Array (Option Value)} {oc2 kV2 dc2 pm2 cd2 ct2 : Value}
    {od3 an3 : Option Addr} {sl3 : Array (Option Value)} {oc3 kV3 dc3 pm3 cd3 ct3 : Value}
    {od4 an4 : Option Addr} {sl4 : Array (Option Value)} {oc4 kV4 dc4 pm4 cd4 ct4 : Value}
    {od5 an5 : Option Addr} {sl5 : Array (Option Value)} {oc5 kV5 dc5 pm5 cd5 ct5 : Value}
    {od6 an6 : Option Addr} {sl6 : Array (Option Value)} {oc6 kV6 dc6 pm6 cd6 ct6 : Value}
    {od7 an7 : Option Addr} {sl7 : Array (Option Value)} {oc7 kV7 dc7 pm7 cd7 ct7 : Value}
    {od8 an8 : Option Addr} {sl8 : Array (Option Value)} {oc8 kV8 dc8 pm8 cd8 ct8 : Value}
    {od9 an9 : Option Addr} {sl9 : Array (Option Value)} {oc9 kV9 dc9 pm9 cd9 ct9 : Value}
    {od10 an10 : Option Addr} {sl10 : Array (Option Value)} {oc10 kV10 dc10 pm10 cd10 ct10 : Value}
    {od11 an11 : Option Addr} {sl11 : Array (Option Value)} {oc11 kV11 dc11 pm11 cd11 ct11 : Value}
    {od12 an12 : Option Addr} {sl12 : Array (Option Value)} {oc12 kV12 dc12 pm12 cd12 ct12 : Value}
    {od13 an13 : Option Addr} {sl13 : Array (Option Value)} {oc13 kV13 dc13 pm13 cd13 ct13 : Value}
    {od14 an14 : Option Addr} {sl14 : Array (Option Value)} {oc14 kV14 dc14 pm14 cd14 ct14 : Value}
    {od15 an15 : Option Addr} {sl15 : Array (Option Value)} {oc15 kV15 dc15 pm15 cd15 ct15 : Value}
    {od16 an16 : Option Addr} {sl16 : Array (Option Value)} {oc16 kV16 dc16 pm16 cd16 ct16 : Value}
    {od17 an17 : Option Addr} {sl17 : Array (Option Value)} {oc17 kV17 dc17 pm17 cd17 ct17 : Value}
    {od18 an18 : Option Addr} {sl18 : Array (Option Value)} {oc18 kV18 dc18 pm18 cd18 ct18 : Value}
    {od19 an19 : Option Addr} {sl19 : Array (Option Value)} {oc19 kV19 dc19 pm19 cd19 ct19 : Value}
    {od20 an20 : Option Addr} {sl20 : Array (Option Value)} {oc20 kV20 dc20 pm20 cd20 ct20 : Value}
    {od21 an21 : Option Addr} {sl21 : Array (Option Value)} {oc21 kV21 dc21 pm21 cd21 ct21 : Value}
    {od22 an22 : Option Addr} {sl22 : Array (Option Value)} {oc22 kV22 dc22 pm22 cd22 ct22 : Value}
    {od23 an23 : Option Addr} {sl23 : Array (Option Value)} {oc23 kV23 dc23 pm23 cd23 ct23 : Value}
    {od24 an24 : Option Addr} {sl24 : Array (Option Value)} {oc24 kV24 dc24 pm24 cd24 ct24 : Value}
    {od25 an25 : Option Addr} {sl25 : Array (Option Value)} {oc25 kV25 dc25 pm25 cd25 ct25 : Value}
    {od26 an26 : Option Addr} {sl26 : Array (Option Value)} {oc26 kV26 dc26 pm26 cd26 ct26 : Value}
    {od27 an27 : Option Addr} {sl27 : Array (Option Value)} {oc27 kV27 dc27 pm27 cd27 ct27 : Value}
    {od28 an28 : Option Addr} {sl28 : Array (Option Value)} {oc28 kV28 dc28 pm28 cd28 ct28 : Value}
    {od29 an29 : Option Addr} {sl29 : Array (Option Value)} {oc29 kV29 dc29 pm29 cd29 ct29 : Value}
    {u0 : Tok}
    {u1 : Tok}
    {u2 : Tok}
    {u3 : Tok}
    {v0 : Tok}
    {v1 : Tok}
    {v2 : Tok}
    {v3 : Tok}
    {v4 : Tok}
    {v5 : Tok}
    {v6 : Tok}
    {v7 : Tok}
    {xC xW : Addr} {wt1 wt2 wt3 : Tok} {xep : Nat} {g0 : Addr} {god0 gan0 : Option Addr} {gsl0 : Array (Option Value)} {goc0 gkV0 gdc0 gpm0 gcd0 gct0 : Value} {g1 : Addr} {god1 gan1 : Option Addr} {gsl1 : Array (Option Value)} {goc1 gkV1 gdc1 gpm1 gcd1 gct1 : Value} {g2 : Addr} {god2 gan2 : Option Addr} {gsl2 : Array (Option Value)} {goc2 gkV2 gdc2 gpm2 gcd2 gct2 : Value} {g3 : Addr} {god3 gan3 : Option Addr} {gsl3 : Array (Option Value)} {goc3 gkV3 gdc3 gpm3 gcd3 gct3 : Value} {g4 : Addr} {god4 gan4 : Option Addr} {gsl4 : Array (Option Value)} {goc4 gkV4 gdc4 gpm4 gcd4 gct4 : Value} {g5 : Addr} {god5 gan5 : Option Addr} {gsl5 : Array (Option Value)} {goc5 gkV5 gdc5 gpm5 gcd5 gct5 : Value} {g6 : Addr} {god6 gan6 : Option Addr} {gsl6 : Array (Option Value)} {goc6 gkV6 gdc6 gpm6 gcd6 gct6 : Value} {g7 : Addr} {god7 gan7 : Option Addr} {gsl7 : Array (Option Value)} {goc7 gkV7 gdc7 gpm7 gcd7 gct7 : Value}
    (a0 : PySem.W.nsIn K mainGlobals "kind_of" = some (some (.ref f0)))
    (l0 : K.lookup f0 = some ⟨oc0, od0, .func (PySem.W.fnOf "kind_of" "kind_of" (defArgs sKindOf) (defBody sKindOf) (defScope sKindOf) .none kV0 dc0 pm0 an0 cd0 ct0), sl0⟩)
    (c0 : PySem.W.codeIn K cd0 "kind_of" = true)
    (k0 : PySem.W.keepIn K (.ref f0) = true)
    (a1 : PySem.W.nsIn K mainGlobals "is_name" = some (some (.ref f1)))
    (l1 : K.lookup f1 = some ⟨oc1, od1, .func (PySem.W.fnOf "is_name" "is_name" (defArgs (top 11)) (defBody (top 11)) (defScope (top 11)) .none kV1 dc1 pm1 an1 cd1 ct1), sl1⟩)
    (c1 : PySem.W.codeIn K cd1 "is_name" = true)
    (k1 : PySem.W.keepIn K (.ref f1) = true)
    (a2 : PySem.W.nsIn K mainGlobals "is_text_sign" = some (some (.ref f2)))
    (l2 : K.lookup f2 = some ⟨oc2, od2, .func (PySem.W.fnOf "is_text_sign" "is_text_sign" (defArgs sSgn) (defBody sSgn) (defScope sSgn) .none kV2 dc2 pm2 an2 cd2 ct2), sl2⟩)
    (c2 : PySem.W.codeIn K cd2 "is_text_sign" = true)
    (k2 : PySem.W.keepIn K (.ref f2) = true)
    (a3 : PySem.W.nsIn K mainGlobals "is_sound_outside" = some (some (.ref f3)))
    (l3 : K.lookup f3 = some ⟨oc3, od3, .func (PySem.W.fnOf "is_sound_outside" "is_sound_outside" (defArgs sSnd) (defBody sSnd) (defScope sSnd) .none kV3 dc3 pm3 an3 cd3 ct3), sl3⟩)
    (c3 : PySem.W.codeIn K cd3 "is_sound_outside" = true)
    (k3 : PySem.W.keepIn K (.ref f3) = true)
    (a4 : PySem.W.nsIn K mainGlobals "tokens" = some (some (.ref f4)))
    (l4 : K.lookup f4 = some ⟨oc4, od4, .func (PySem.W.fnOf "tokens" "tokens" (defArgs sToks) (defBody sToks) (defScope sToks) .none kV4 dc4 pm4 an4 cd4 ct4), sl4⟩)
    (c4 : PySem.W.codeIn K cd4 "tokens" = true)
    (k4 : PySem.W.keepIn K (.ref f4) = true)
    (a5 : PySem.W.nsIn K mainGlobals "kind_at" = some (some (.ref f5)))
    (l5 : K.lookup f5 = some ⟨oc5, od5, .func (PySem.W.fnOf "kind_at" "kind_at" (defArgs sKAt) (defBody sKAt) (defScope sKAt) .none kV5 dc5 pm5 an5 cd5 ct5), sl5⟩)
    (c5 : PySem.W.codeIn K cd5 "kind_at" = true)
    (k5 : PySem.W.keepIn K (.ref f5) = true)
    (a6 : PySem.W.nsIn K mainGlobals "token_end" = some (some (.ref f6)))
    (l6 : K.lookup f6 = some ⟨oc6, od6, .func (PySem.W.fnOf "token_end" "token_end" (defArgs sTkEnd) (defBody sTkEnd) (defScope sTkEnd) .none kV6 dc6 pm6 an6 cd6 ct6), sl6⟩)
    (c6 : PySem.W.codeIn K cd6 "token_end" = true)
    (k6 : PySem.W.keepIn K (.ref f6) = true)
    (a7 : PySem.W.nsIn K mainGlobals "run_end" = some (some (.ref f7)))
    (l7 : K.lookup f7 = some ⟨oc7, od7, .func (PySem.W.fnOf "run_end" "run_end" (defArgs sRun) (defBody sRun) (defScope sRun) .none kV7 dc7 pm7 an7 cd7 ct7), sl7⟩)
    (c7 : PySem.W.codeIn K cd7 "run_end" = true)
    (k7 : PySem.W.keepIn K (.ref f7) = true)
    (a8 : PySem.W.nsIn K mainGlobals "number_end" = some (some (.ref f8)))
    (l8 : K.lookup f8 = some ⟨oc8, od8, .func (PySem.W.fnOf "number_end" "number_end" (defArgs sNEnd) (defBody sNEnd) (defScope sNEnd) .none kV8 dc8 pm8 an8 cd8 ct8), sl8⟩)
    (c8 : PySem.W.codeIn K cd8 "number_end" = true)
    (k8 : PySem.W.keepIn K (.ref f8) = true)
    (a9 : PySem.W.nsIn K mainGlobals "text_end" = some (some (.ref f9)))
    (l9 : K.lookup f9 = some ⟨oc9, od9, .func (PySem.W.fnOf "text_end" "text_end" (defArgs sTEnd) (defBody sTEnd) (defScope sTEnd) .none kV9 dc9 pm9 an9 cd9 ct9), sl9⟩)
    (c9 : PySem.W.codeIn K cd9 "text_end" = true)
    (k9 : PySem.W.keepIn K (.ref f9) = true)
    (a10 : PySem.W.nsIn K mainGlobals "string_of" = some (some (.ref f10)))
    (l10 : K.lookup f10 = some ⟨oc10, od10, .func (PySem.W.fnOf "string_of" "string_of" (defArgs sStrOf) (defBody sStrOf) (defScope sStrOf) .none kV10 dc10 pm10 an10 cd10 ct10), sl10⟩)
    (c10 : PySem.W.codeIn K cd10 "string_of" = true)
    (k10 : PySem.W.keepIn K (.ref f10) = true)
    (a11 : PySem.W.nsIn K mainGlobals "read" = some (some (.ref f11)))
    (l11 : K.lookup f11 = some ⟨oc11, od11, .func (PySem.W.fnOf "read" "read" (defArgs sRead) (defBody sRead) (defScope sRead) .none kV11 dc11 pm11 an11 cd11 ct11), sl11⟩)
    (c11 : PySem.W.codeIn K cd11 "read" = true)
    (k11 : PySem.W.keepIn K (.ref f11) = true)
    (a12 : PySem.W.nsIn K mainGlobals "tokens_to_stray" = some (some (.ref f12)))
    (l12 : K.lookup f12 = some ⟨oc12, od12, .func (PySem.W.fnOf "tokens_to_stray" "tokens_to_stray" (defArgs sStr) (defBody sStr) (defScope sStr) .none kV12 dc12 pm12 an12 cd12 ct12), sl12⟩)
    (c12 : PySem.W.codeIn K cd12 "tokens_to_stray" = true)
    (k12 : PySem.W.keepIn K (.ref f12) = true)
    (a13 : PySem.W.nsIn K mainGlobals "begins_thing" = some (some (.ref f13)))
    (l13 : K.lookup f13 = some ⟨oc13, od13, .func (PySem.W.fnOf "begins_thing" "begins_thing" (defArgs sBeg) (defBody sBeg) (defScope sBeg) .none kV13 dc13 pm13 an13 cd13 ct13), sl13⟩)
    (c13 : PySem.W.codeIn K cd13 "begins_thing" = true)
    (k13 : PySem.W.keepIn K (.ref f13) = true)
    (a14 : PySem.W.nsIn K mainGlobals "plain_thing" = some (some (.ref f14)))
    (l14 : K.lookup f14 = some ⟨oc14, od14, .func (PySem.W.fnOf "plain_thing" "plain_thing" (defArgs sPln) (defBody sPln) (defScope sPln) .none kV14 dc14 pm14 an14 cd14 ct14), sl14⟩)
    (c14 : PySem.W.codeIn K cd14 "plain_thing" = true)
    (k14 : PySem.W.keepIn K (.ref f14) = true)
    (a15 : PySem.W.nsIn K mainGlobals "written" = some (some (.ref f15)))
    (l15 : K.lookup f15 = some ⟨oc15, od15, .func (PySem.W.fnOf "written" "written" (defArgs sWritten) (defBody sWritten) (defScope sWritten) .none kV15 dc15 pm15 an15 cd15 ct15), sl15⟩)
    (c15 : PySem.W.codeIn K cd15 "written" = true)
    (k15 : PySem.W.keepIn K (.ref f15) = true)
    (a16 : PySem.W.nsIn K mainGlobals "_law_cell" = some (some (.ref f16)))
    (l16 : K.lookup f16 = some ⟨oc16, od16, .func (PySem.W.fnOf "_law_cell" "_law_cell" (defArgs sCell) (defBody sCell) (defScope sCell) .none kV16 dc16 pm16 an16 cd16 ct16), sl16⟩)
    (c16 : PySem.W.codeIn K cd16 "_law_cell" = true)
    (k16 : PySem.W.keepIn K (.ref f16) = true)
    (a17 : PySem.W.nsIn K mainGlobals "_law_name_by" = some (some (.ref f17)))
    (l17 : K.lookup f17 = some ⟨oc17, od17, .func (PySem.W.fnOf "_law_name_by" "_law_name_by" (defArgs sName) (defBody sName) (defScope sName) .none kV17 dc17 pm17 an17 cd17 ct17), sl17⟩)
    (c17 : PySem.W.codeIn K cd17 "_law_name_by" = true)
    (k17 : PySem.W.keepIn K (.ref f17) = true)
    (a18 : PySem.W.nsIn K mainGlobals "_law_signs" = some (some (.ref f18)))
    (l18 : K.lookup f18 = some ⟨oc18, od18, .func (PySem.W.fnOf "_law_signs" "_law_signs" (defArgs sSigns) (defBody sSigns) (defScope sSigns) .none kV18 dc18 pm18 an18 cd18 ct18), sl18⟩)
    (c18 : PySem.W.codeIn K cd18 "_law_signs" = true)
    (k18 : PySem.W.keepIn K (.ref f18) = true)
    (a19 : PySem.W.nsIn K mainGlobals "_law_text_by" = some (some (.ref f19)))
    (l19 : K.lookup f19 = some ⟨oc19, od19, .func (PySem.W.fnOf "_law_text_by" "_law_text_by" (defArgs sText) (defBody sText) (defScope sText) .none kV19 dc19 pm19 an19 cd19 ct19), sl19⟩)
    (c19 : PySem.W.codeIn K cd19 "_law_text_by" = true)
    (k19 : PySem.W.keepIn K (.ref f19) = true)
    (a20 : PySem.W.nsIn K mainGlobals "_law_number_by" = some (some (.ref f20)))
    (l20 : K.lookup f20 = some ⟨oc20, od20, .func (PySem.W.fnOf "_law_number_by" "_law_number_by" (defArgs sNum) (defBody sNum) (defScope sNum) .none kV20 dc20 pm20 an20 cd20 ct20), sl20⟩)
    (c20 : PySem.W.codeIn K cd20 "_law_number_by" = true)
    (k20 : PySem.W.keepIn K (.ref f20) = true)
    (a21 : PySem.W.nsIn K mainGlobals "_law_thing_by" = some (some (.ref f21)))
    (l21 : K.lookup f21 = some ⟨oc21, od21, .func (PySem.W.fnOf "_law_thing_by" "_law_thing_by" (defArgs sThing) (defBody sThing) (defScope sThing) .none kV21 dc21 pm21 an21 cd21 ct21), sl21⟩)
    (c21 : PySem.W.codeIn K cd21 "_law_thing_by" = true)
    (k21 : PySem.W.keepIn K (.ref f21) = true)
    (a22 : PySem.W.nsIn K mainGlobals "_law_sort" = some (some (.ref f22)))
    (l22 : K.lookup f22 = some ⟨oc22, od22, .func (PySem.W.fnOf "_law_sort" "_law_sort" (defArgs sSort) (defBody sSort) (defScope sSort) .none kV22 dc22 pm22 an22 cd22 ct22), sl22⟩)
    (c22 : PySem.W.codeIn K cd22 "_law_sort" = true)
    (k22 : PySem.W.keepIn K (.ref f22) = true)
    (a23 : PySem.W.nsIn K mainGlobals "_law_alike" = some (some (.ref f23)))
    (l23 : K.lookup f23 = some ⟨oc23, od23, .func (PySem.W.fnOf "_law_alike" "_law_alike" (defArgs sAlike) (defBody sAlike) (defScope sAlike) .none kV23 dc23 pm23 an23 cd23 ct23), sl23⟩)
    (c23 : PySem.W.codeIn K cd23 "_law_alike" = true)
    (k23 : PySem.W.keepIn K (.ref f23) = true)
    (a24 : PySem.W.nsIn K mainGlobals "_law_written" = some (some (.ref f24)))
    (l24 : K.lookup f24 = some ⟨oc24, od24, .func (PySem.W.fnOf "_law_written" "_law_written" (defArgs sLWr) (defBody sLWr) (defScope sLWr) .none kV24 dc24 pm24 an24 cd24 ct24), sl24⟩)
    (c24 : PySem.W.codeIn K cd24 "_law_written" = true)
    (k24 : PySem.W.keepIn K (.ref f24) = true)
    (a25 : PySem.W.nsIn K mainGlobals "_law_row_of" = some (some (.ref f25)))
    (l25 : K.lookup f25 = some ⟨oc25, od25, .func (PySem.W.fnOf "_law_row_of" "_law_row_of" (defArgs sRof) (defBody sRof) (defScope sRof) .none kV25 dc25 pm25 an25 cd25 ct25), sl25⟩)
    (c25 : PySem.W.codeIn K cd25 "_law_row_of" = true)
    (k25 : PySem.W.keepIn K (.ref f25) = true)
    (a26 : PySem.W.nsIn K mainGlobals "_law_sticks" = some (some (.ref f26)))
    (l26 : K.lookup f26 = some ⟨oc26, od26, .func (PySem.W.fnOf "_law_sticks" "_law_sticks" (defArgs sSticks) (defBody sSticks) (defScope sSticks) .none kV26 dc26 pm26 an26 cd26 ct26), sl26⟩)
    (c26 : PySem.W.codeIn K cd26 "_law_sticks" = true)
    (k26 : PySem.W.keepIn K (.ref f26) = true)
    (a27 : PySem.W.nsIn K mainGlobals "_law_shown" = some (some (.ref f27)))
    (l27 : K.lookup f27 = some ⟨oc27, od27, .func (PySem.W.fnOf "_law_shown" "_law_shown" (defArgs sShown) (defBody sShown) (defScope sShown) .none kV27 dc27 pm27 an27 cd27 ct27), sl27⟩)
    (c27 : PySem.W.codeIn K cd27 "_law_shown" = true)
    (k27 : PySem.W.keepIn K (.ref f27) = true)
    (a28 : PySem.W.nsIn K mainGlobals "_law_laid" = some (some (.ref f28)))
    (l28 : K.lookup f28 = some ⟨oc28, od28, .func (PySem.W.fnOf "_law_laid" "_law_laid" (defArgs sLaid) (defBody sLaid) (defScope sLaid) .none kV28 dc28 pm28 an28 cd28 ct28), sl28⟩)
    (c28 : PySem.W.codeIn K cd28 "_law_laid" = true)
    (k28 : PySem.W.keepIn K (.ref f28) = true)
    (a29 : PySem.W.nsIn K mainGlobals "law" = some (some (.ref f29)))
    (l29 : K.lookup f29 = some ⟨oc29, od29, .func (PySem.W.fnOf "law" "law" (defArgs sLaw) (defBody sLaw) (defScope sLaw) .none kV29 dc29 pm29 an29 cd29 ct29), sl29⟩)
    (c29 : PySem.W.codeIn K cd29 "law" = true)
    (k29 : PySem.W.keepIn K (.ref f29) = true)
    (z0 : PySem.W.nsIn K mainGlobals "len" = some none)
    (z1 : PySem.W.nsIn K mainGlobals "range" = some none)
    (z2 : PySem.W.nsIn K mainGlobals "isinstance" = some none)
    (z3 : PySem.W.nsIn K mainGlobals "all" = some none)
    (z4 : PySem.W.nsIn K mainGlobals "sum" = some none)
    (z5 : PySem.W.nsIn K mainGlobals "int" = some none)
    (z6 : PySem.W.nsIn K mainGlobals "str" = some none)
    (z7 : PySem.W.nsIn K mainGlobals "bool" = some none)
    (z8 : PySem.W.nsIn K mainGlobals "list" = some none)
    (z9 : PySem.W.nsIn K mainGlobals "dict" = some none)
    (z10 : PySem.W.nsIn K mainGlobals "tuple" = some none)
    (y0 : PySem.W.nsIn K mainGlobals "max" = some none)
    (y1 : PySem.W.nsIn K mainGlobals "min" = some none)
    (y2 : PySem.W.nsIn K mainGlobals "sorted" = some none)
    (x0 : PySem.W.nsIn K mainGlobals "abs" = some none)
    (q0 : PySem.W.nsIn K mainGlobals "abs" = some none)
    (q1 : PySem.W.nsIn K mainGlobals "ord" = some none)
    (s0 : PySem.W.nsIn K mainGlobals "LETTERS" = some (some (.str (Str.ofString "abcdefghijklmnopqrstuvwxyz") u0)))
    (s1 : PySem.W.nsIn K mainGlobals "FIGURES" = some (some (.str (Str.ofString "0123456789") u1)))
    (s2 : PySem.W.nsIn K mainGlobals "NAME_SIGNS" = some (some (.str (Str.ofString "abcdefghijklmnopqrstuvwxyz0123456789") u2)))
    (s3 : PySem.W.nsIn K mainGlobals "MARKS" = some (some (.str (Str.ofString "[]{},:") u3)))
    (n0 : PySem.W.nsIn K mainGlobals "MOST_IN_NAME" = some (some (.int 12 v0)))
    (n1 : PySem.W.nsIn K mainGlobals "MOST_IN_TEXT" = some (some (.int 30 v1)))
    (n2 : PySem.W.nsIn K mainGlobals "MOST_IN_ROW" = some (some (.int 60 v2)))
    (n3 : PySem.W.nsIn K mainGlobals "MOST_IN_RECORD" = some (some (.int 30 v3)))
    (n4 : PySem.W.nsIn K mainGlobals "MOST_DEPTH" = some (some (.int 8 v4)))
    (n5 : PySem.W.nsIn K mainGlobals "MOST_SIZE" = some (some (.int 200 v5)))
    (n6 : PySem.W.nsIn K mainGlobals "MOST_SIGNS" = some (some (.int 20000 v6)))
    (n7 : PySem.W.nsIn K mainGlobals "MOST_IN_NUMBER" = some (some (.int 14 v7)))
    (xcl : PySem.W.nsIn K mainGlobals "Reader" = some (some (.ref xC)))
    (ga0 : PySem.W.findIn K (.ref xC) "__init__" = some (some (.ref g0)))
    (gi0 : PySem.W.isFn K (.ref g0) = true)
    (gl0 : K.lookup g0 = some ⟨goc0, god0, .func (PySem.W.fnOf "__init__" "Reader.__init__" (defArgs sRi) (defBody sRi) (defScope sRi) .none gkV0 gdc0 gpm0 gan0 gcd0 gct0), gsl0⟩)
    (gc0 : PySem.W.codeIn K gcd0 "Reader.__init__" = true)
    (gk0 : PySem.W.keepIn K (.ref g0) = true)
    (ga1 : PySem.W.findIn K (.ref xC) "passes" = some (some (.ref g1)))
    (gi1 : PySem.W.isFn K (.ref g1) = true)
    (gl1 : K.lookup g1 = some ⟨goc1, god1, .func (PySem.W.fnOf "passes" "Reader.passes" (defArgs sRp) (defBody sRp) (defScope sRp) .none gkV1 gdc1 gpm1 gan1 gcd1 gct1), gsl1⟩)
    (gc1 : PySem.W.codeIn K gcd1 "Reader.passes" = true)
    (gk1 : PySem.W.keepIn K (.ref g1) = true)
    (ga2 : PySem.W.findIn K (.ref xC) "pass_over" = some (some (.ref g2)))
    (gi2 : PySem.W.isFn K (.ref g2) = true)
    (gl2 : K.lookup g2 = some ⟨goc2, god2, .func (PySem.W.fnOf "pass_over" "Reader.pass_over" (defArgs sRo) (defBody sRo) (defScope sRo) .none gkV2 gdc2 gpm2 gan2 gcd2 gct2), gsl2⟩)
    (gc2 : PySem.W.codeIn K gcd2 "Reader.pass_over" = true)
    (gk2 : PySem.W.keepIn K (.ref g2) = true)
    (ga3 : PySem.W.findIn K (.ref xC) "thing_here" = some (some (.ref g3)))
    (gi3 : PySem.W.isFn K (.ref g3) = true)
    (gl3 : K.lookup g3 = some ⟨goc3, god3, .func (PySem.W.fnOf "thing_here" "Reader.thing_here" (defArgs sRt) (defBody sRt) (defScope sRt) .none gkV3 gdc3 gpm3 gan3 gcd3 gct3), gsl3⟩)
    (gc3 : PySem.W.codeIn K gcd3 "Reader.thing_here" = true)
    (gk3 : PySem.W.keepIn K (.ref g3) = true)
    (ga4 : PySem.W.findIn K (.ref xC) "holder_here" = some (some (.ref g4)))
    (gi4 : PySem.W.isFn K (.ref g4) = true)
    (gl4 : K.lookup g4 = some ⟨goc4, god4, .func (PySem.W.fnOf "holder_here" "Reader.holder_here" (defArgs sRh) (defBody sRh) (defScope sRh) .none gkV4 gdc4 gpm4 gan4 gcd4 gct4), gsl4⟩)
    (gc4 : PySem.W.codeIn K gcd4 "Reader.holder_here" = true)
    (gk4 : PySem.W.keepIn K (.ref g4) = true)
    (ga5 : PySem.W.findIn K (.ref xC) "row_here" = some (some (.ref g5)))
    (gi5 : PySem.W.isFn K (.ref g5) = true)
    (gl5 : K.lookup g5 = some ⟨goc5, god5, .func (PySem.W.fnOf "row_here" "Reader.row_here" (defArgs sRr) (defBody sRr) (defScope sRr) .none gkV5 gdc5 gpm5 gan5 gcd5 gct5), gsl5⟩)
    (gc5 : PySem.W.codeIn K gcd5 "Reader.row_here" = true)
    (gk5 : PySem.W.keepIn K (.ref g5) = true)
    (ga6 : PySem.W.findIn K (.ref xC) "record_here" = some (some (.ref g6)))
    (gi6 : PySem.W.isFn K (.ref g6) = true)
    (gl6 : K.lookup g6 = some ⟨goc6, god6, .func (PySem.W.fnOf "record_here" "Reader.record_here" (defArgs sRd) (defBody sRd) (defScope sRd) .none gkV6 gdc6 gpm6 gan6 gcd6 gct6), gsl6⟩)
    (gc6 : PySem.W.codeIn K gcd6 "Reader.record_here" = true)
    (gk6 : PySem.W.keepIn K (.ref g6) = true)
    (ga7 : PySem.W.findIn K (.ref xC) "name_here" = some (some (.ref g7)))
    (gi7 : PySem.W.isFn K (.ref g7) = true)
    (gl7 : K.lookup g7 = some ⟨goc7, god7, .func (PySem.W.fnOf "name_here" "Reader.name_here" (defArgs sRn) (defBody sRn) (defScope sRn) .none gkV7 gdc7 gpm7 gan7 gcd7 gct7), gsl7⟩)
    (gc7 : PySem.W.codeIn K gcd7 "Reader.name_here" = true)
    (gk7 : PySem.W.keepIn K (.ref g7) = true)
    (xpg : PySem.W.plainGet K xC Str.empty = true)
    (xhd : PySem.W.hasDictIn K xC = true)
    (xpo : PySem.W.plainOver K xC = true)
    (xsa : PySem.W.findIn K (.ref xC) "__setattr__" = some (some (.builtin "object.__setattr__")))
    (xmk : PySem.W.makesIn K xC = true)
    (xkc : PySem.W.keepIn K (.ref xC) = true)
    (xnf : PySem.W.findIn K (.ref xC) "found" = some none)
    (xnp : PySem.W.findIn K (.ref xC) "place" = some none)
    (xnb : PySem.W.findIn K (.ref xC) "begun" = some none)
    (xwa : PySem.W.nsIn K mainGlobals "WORDS" = some (some (.ref xW)))
    (xwl : K.lookup xW = some ⟨.type "dict", none, .dict #[⟨PyData.keyHash w.params (Str.ofString "none"), .str (Str.ofString "none") wt1, .none⟩, ⟨PyData.keyHash w.params (Str.ofString "yes"), .str (Str.ofString "yes") wt2, .bool true⟩, ⟨PyData.keyHash w.params (Str.ofString "no"), .str (Str.ofString "no") wt3, .bool false⟩] xep, #[]⟩)
    (xwn : (xW == sysModules) = false) :
    ∃ fd : FuncData, (∀ (s : Shared) (v : Value), BindsTo s fd ⟨[v], []⟩ [("_law_script", v)]) ∧ ∀ base : Heap, K.In base → base.Ns mainGlobals mg → FnOk l.prog w K mg base CX0 33 fa fd ["_law_script"] (spLaw K) := by
  have e := hfa.symm.trans (PySem.W.mg_of X G a29)
  cases e
  have Fkind_of := fun_mk (st := sKindOf) l0 c0 k0
  have bkind_of := Fkind_of.binds (ps := ["thing"]) fun _ _ _ _ _ _ us hl => match us, hl with | [_], _ => rfl
  have mkind_of := PySem.W.mg_of X G a0
  have pkind_of := k0
  have Fis_name := fun_mk (st := (top 11)) l1 c1 k1
  have bis_name := Fis_name.binds (ps := ["thing"]) fun _ _ _ _ _ _ us hl => match us, hl with | [_], _ => rfl
  have mis_name := PySem.W.mg_of X G a1
  have pis_name := k1
  have Fis_text_sign := fun_mk (st := sSgn) l2 c2 k2
  have bis_text_sign := Fis_text_sign.binds (ps := ["sign"]) fun _ _ _ _ _ _ us hl => match us, hl with | [_], _ => rfl
  have mis_text_sign := PySem.W.mg_of X G a2
  have pis_text_sign := k2
  have Fis_sound_outside := fun_mk (st := sSnd) l3 c3 k3
  have bis_sound_outside := Fis_sound_outside.binds (ps := ["thing"]) fun _ _ _ _ _ _ us hl => match us, hl with | [_], _ => rfl
  have mis_sound_outside := PySem.W.mg_of X G a3
  have pis_sound_outside := k3
  have Ftokens := fun_mk (st := sToks) l4 c4 k4
  have btokens := Ftokens.binds (ps := ["text"]) fun _ _ _ _ _ _ us hl => match us, hl with | [_], _ => rfl
  have mtokens := PySem.W.mg_of X G a4
  have ptokens := k4
  have Fkind_at := fun_mk (st := sKAt) l5 c5 k5
  have bkind_at := Fkind_at.binds (ps := ["text", "at"]) fun _ _ _ _ _ _ us hl => match us, hl with | [_, _], _ => rfl
  have mkind_at := PySem.W.mg_of X G a5
  have pkind_at := k5
  have Ftoken_end := fun_mk (st := sTkEnd) l6 c6 k6
  have btoken_end := Ftoken_end.binds (ps := ["kind", "text", "at"]) fun _ _ _ _ _ _ us hl => match us, hl with | [_, _, _], _ => rfl
  have mtoken_end := PySem.W.mg_of X G a6
  have ptoken_end := k6
  have Frun_end := fun_mk (st := sRun) l7 c7 k7
  have brun_end := Frun_end.binds (ps := ["text", "at", "signs"]) fun _ _ _ _ _ _ us hl => match us, hl with | [_, _, _], _ => rfl
  have mrun_end := PySem.W.mg_of X G a7
  have prun_end := k7
  have Fnumber_end := fun_mk (st := sNEnd) l8 c8 k8
  have bnumber_end := Fnumber_end.binds (ps := ["text", "at"]) fun _ _ _ _ _ _ us hl => match us, hl with | [_, _], _ => rfl
  have mnumber_end := PySem.W.mg_of X G a8
  have pnumber_end := k8
  have Ftext_end := fun_mk (st := sTEnd) l9 c9 k9
  have btext_end := Ftext_end.binds (ps := ["text", "at"]) fun _ _ _ _ _ _ us hl => match us, hl with | [_, _], _ => rfl
  have mtext_end := PySem.W.mg_of X G a9
  have ptext_end := k9
  have Fstring_of := fun_mk (st := sStrOf) l10 c10 k10
  have bstring_of := Fstring_of.binds (ps := ["kind", "signs"]) fun _ _ _ _ _ _ us hl => match us, hl with | [_, _], _ => rfl
  have mstring_of := PySem.W.mg_of X G a10
  have pstring_of := k10
  have Fread := fun_mk (st := sRead) l11 c11 k11
  have bread := Fread.binds (ps := ["text"]) fun _ _ _ _ _ _ us hl => match us, hl with | [_], _ => rfl
  have mread := PySem.W.mg_of X G a11
  have pread := k11
  have Ftokens_to_stray := fun_mk (st := sStr) l12 c12 k12
  have btokens_to_stray := Ftokens_to_stray.binds (ps := ["text"]) fun _ _ _ _ _ _ us hl => match us, hl with | [_], _ => rfl
  have mtokens_to_stray := PySem.W.mg_of X G a12
  have ptokens_to_stray := k12
  have Fbegins_thing := fun_mk (st := sBeg) l13 c13 k13
  have bbegins_thing := Fbegins_thing.binds (ps := ["kind", "string"]) fun _ _ _ _ _ _ us hl => match us, hl with | [_, _], _ => rfl
  have mbegins_thing := PySem.W.mg_of X G a13
  have pbegins_thing := k13
  have Fplain_thing := fun_mk (st := sPln) l14 c14 k14
  have bplain_thing := Fplain_thing.binds (ps := ["kind", "string"]) fun _ _ _ _ _ _ us hl => match us, hl with | [_, _], _ => rfl
  have mplain_thing := PySem.W.mg_of X G a14
  have pplain_thing := k14
  have Fwritten := fun_mk (st := sWritten) l15 c15 k15
  have bwritten := Fwritten.binds (ps := ["thing"]) fun _ _ _ _ _ _ us hl => match us, hl with | [_], _ => rfl
  have mwritten := PySem.W.mg_of X G a15
  have pwritten := k15
  have F_law_cell := fun_mk (st := sCell) l16 c16 k16
  have b_law_cell := F_law_cell.binds (ps := ["_law_script", "_law_k"]) fun _ _ _ _ _ _ us hl => match us, hl with | [_, _], _ => rfl
  have m_law_cell := PySem.W.mg_of X G a16
  have p_law_cell := k16
  have F_law_name_by := fun_mk (st := sName) l17 c17 k17
  have b_law_name_by := F_law_name_by.binds (ps := ["_law_more"]) fun _ _ _ _ _ _ us hl => match us, hl with | [_], _ => rfl
  have m_law_name_by := PySem.W.mg_of X G a17
  have p_law_name_by := k17
  have F_law_signs := fun_mk (st := sSigns) l18 c18 k18
  have b_law_signs := F_law_signs.binds (ps := []) fun _ _ _ _ _ _ us hl => match us, hl with | [], _ => rfl
  have m_law_signs := PySem.W.mg_of X G a18
  have p_law_signs := k18
  have F_law_text_by := fun_mk (st := sText) l19 c19 k19
  have b_law_text_by := F_law_text_by.binds (ps := ["_law_more"]) fun _ _ _ _ _ _ us hl => match us, hl with | [_], _ => rfl
  have m_law_text_by := PySem.W.mg_of X G a19
  have p_law_text_by := k19
  have F_law_number_by := fun_mk (st := sNum) l20 c20 k20
  have b_law_number_by := F_law_number_by.binds (ps := ["_law_more"]) fun _ _ _ _ _ _ us hl => match us, hl with | [_], _ => rfl
  have m_law_number_by := PySem.W.mg_of X G a20
  have p_law_number_by := k20
  have F_law_thing_by := fun_mk (st := sThing) l21 c21 k21
  have b_law_thing_by := F_law_thing_by.binds (ps := ["_law_script", "_law_k", "_law_deep"]) fun _ _ _ _ _ _ us hl => match us, hl with | [_, _, _], _ => rfl
  have m_law_thing_by := PySem.W.mg_of X G a21
  have p_law_thing_by := k21
  have F_law_sort := fun_mk (st := sSort) l22 c22 k22
  have b_law_sort := F_law_sort.binds (ps := ["_law_thing"]) fun _ _ _ _ _ _ us hl => match us, hl with | [_], _ => rfl
  have m_law_sort := PySem.W.mg_of X G a22
  have p_law_sort := k22
  have F_law_alike := fun_mk (st := sAlike) l23 c23 k23
  have b_law_alike := F_law_alike.binds (ps := ["_law_one", "_law_other"]) fun _ _ _ _ _ _ us hl => match us, hl with | [_, _], _ => rfl
  have m_law_alike := PySem.W.mg_of X G a23
  have p_law_alike := k23
  have F_law_written := fun_mk (st := sLWr) l24 c24 k24
  have b_law_written := F_law_written.binds (ps := ["_law_thing"]) fun _ _ _ _ _ _ us hl => match us, hl with | [_], _ => rfl
  have m_law_written := PySem.W.mg_of X G a24
  have p_law_written := k24
  have F_law_row_of := fun_mk (st := sRof) l25 c25 k25
  have b_law_row_of := F_law_row_of.binds (ps := ["_law_thing", "_law_turn"]) fun _ _ _ _ _ _ us hl => match us, hl with | [_, _], _ => rfl
  have m_law_row_of := PySem.W.mg_of X G a25
  have p_law_row_of := k25
  have F_law_sticks := fun_mk (st := sSticks) l26 c26 k26
  have b_law_sticks := F_law_sticks.binds (ps := ["_law_one", "_law_other"]) fun _ _ _ _ _ _ us hl => match us, hl with | [_, _], _ => rfl
  have m_law_sticks := PySem.W.mg_of X G a26
  have p_law_sticks := k26
  have F_law_shown := fun_mk (st := sShown) l27 c27 k27
  have b_law_shown := F_law_shown.binds (ps := ["_law_token"]) fun _ _ _ _ _ _ us hl => match us, hl with | [_], _ => rfl
  have m_law_shown := PySem.W.mg_of X G a27
  have p_law_shown := k27
  have F_law_laid := fun_mk (st := sLaid) l28 c28 k28
  have b_law_laid := F_law_laid.binds (ps := ["_law_row", "_law_cell_here"]) fun _ _ _ _ _ _ us hl => match us, hl with | [_, _], _ => rfl
  have m_law_laid := PySem.W.mg_of X G a28
  have p_law_laid := k28
  have Flaw := fun_mk (st := sLaw) l29 c29 k29
  have blaw := Flaw.binds (ps := ["_law_script"]) fun _ _ _ _ _ _ us hl => match us, hl with | [_], _ => rfl
  have mlaw := PySem.W.mg_of X G a29
  have plaw := k29
  have B : Bl mg := ⟨PySem.W.mg_none_of X G z0, PySem.W.mg_none_of X G z1, PySem.W.mg_none_of X G z2, PySem.W.mg_none_of X G z3, PySem.W.mg_none_of X G z4, PySem.W.mg_none_of X G z5, PySem.W.mg_none_of X G z6, PySem.W.mg_none_of X G z7, PySem.W.mg_none_of X G z8, PySem.W.mg_none_of X G z9, PySem.W.mg_none_of X G z10⟩
  have B2 : Bl2 mg := ⟨B, PySem.W.mg_none_of X G y0, PySem.W.mg_none_of X G y1, PySem.W.mg_none_of X G y2⟩
  have B3 : Bl3 mg := ⟨B2, PySem.W.mg_none_of X G x0⟩
  have B5 : Bl5 mg := ⟨B2, PySem.W.mg_none_of X G q0, PySem.W.mg_none_of X G q1⟩
  have M : Ms mg := ⟨⟨_, PySem.W.mg_of X G s0⟩, ⟨_, PySem.W.mg_of X G s1⟩, ⟨_, PySem.W.mg_of X G s2⟩, ⟨_, PySem.W.mg_of X G s3⟩, ⟨_, PySem.W.mg_of X G n0⟩, ⟨_, PySem.W.mg_of X G n1⟩, ⟨_, PySem.W.mg_of X G n2⟩, ⟨_, PySem.W.mg_of X G n3⟩, ⟨_, PySem.W.mg_of X G n4⟩, ⟨_, PySem.W.mg_of X G n5⟩, ⟨_, PySem.W.mg_of X G n6⟩, ⟨_, PySem.W.mg_of X G n7⟩⟩
  refine ⟨PySem.W.fnOf "law" "law" (defArgs sLaw) (defBody sLaw) (defScope sLaw) .none kV29 dc29 pm29 an29 cd29 ct29, fun s v => .of_eq rfl, fun base _ _ => ?_⟩
  have R0 := fun_mk (st := sRi) gl0 gc0 gk0
  have r0 := R0.binds (ps := ["self", "found"]) fun _ _ _ _ _ _ us hl => match us, hl with | [_, _], _ => rfl
  have R1 := fun_mk (st := sRp) gl1 gc1 gk1
  have r1 := R1.binds (ps := ["self", "kind", "string"]) fun _ _ _ _ _ _ us hl => match us, hl with | [_, _, _], _ => rfl
  have R2 := fun_mk (st := sRo) gl2 gc2 gk2
  have r2 := R2.binds (ps := ["self", "kind", "string"]) fun _ _ _ _ _ _ us hl => match us, hl with | [_, _, _], _ => rfl
  have R3 := fun_mk (st := sRt) gl3 gc3 gk3
  have r3 := R3.binds (ps := ["self", "depth", "crowded"]) fun _ _ _ _ _ _ us hl => match us, hl with | [_, _, _], _ => rfl
  have R4 := fun_mk (st := sRh) gl4 gc4 gk4
  have r4 := R4.binds (ps := ["self", "depth", "bracket"]) fun _ _ _ _ _ _ us hl => match us, hl with | [_, _, _], _ => rfl
  have R5 := fun_mk (st := sRr) gl5 gc5 gk5
  have r5 := R5.binds (ps := ["self", "depth"]) fun _ _ _ _ _ _ us hl => match us, hl with | [_, _], _ => rfl
  have R6 := fun_mk (st := sRd) gl6 gc6 gk6
  have r6 := R6.binds (ps := ["self", "depth"]) fun _ _ _ _ _ _ us hl => match us, hl with | [_, _], _ => rfl
  have R7 := fun_mk (st := sRn) gl7 gc7 gk7
  have r7 := R7.binds (ps := ["self", "record"]) fun _ _ _ _ _ _ us hl => match us, hl with | [_, _], _ => rfl
  have Gcell : Dn l.prog w K mg base 1 "_law_cell" ["_law_script", "_law_k"] (spCell K) := ⟨_, _, ok_cell F_law_cell B, b_law_cell, p_law_cell, m_law_cell⟩
  have Gnum : Dn l.prog w K mg base 1 "_law_number_by" ["_law_more"] spNum := ⟨_, _, ok_num F_law_number_by, b_law_number_by, p_law_number_by, m_law_number_by⟩
  have Gname : Dn l.prog w K mg base 1 "_law_name_by" ["_law_more"] spName := ⟨_, _, ok_name F_law_name_by B, b_law_name_by, p_law_name_by, m_law_name_by⟩
  have Gsigns : Dn l.prog w K mg base 1 "_law_signs" [] spSigns := ⟨_, _, ok_signs F_law_signs, b_law_signs, p_law_signs, m_law_signs⟩
  have Gtext : Dn l.prog w K mg base 2 "_law_text_by" ["_law_more"] spText := ⟨_, _, ok_text F_law_text_by B Gsigns, b_law_text_by, p_law_text_by, m_law_text_by⟩
  have Gthing : Dn l.prog w K mg base (3 + 3) "_law_thing_by" ["_law_script", "_law_k", "_law_deep"] (spThingAny K 3) := ⟨_, _, thing_any (thing_all F_law_thing_by B Gcell Gnum Gtext Gname b_law_thing_by p_law_thing_by m_law_thing_by), b_law_thing_by, p_law_thing_by, m_law_thing_by⟩
  have Gko : Dn l.prog w K mg base 1 "kind_of" ["thing"] spKind := ⟨_, _, ok_kind_of Fkind_of B, bkind_of, pkind_of, mkind_of⟩
  have Gsg : Dn l.prog w K mg base 1 "is_text_sign" ["sign"] spSgn := ⟨_, _, ok_sgn Fis_text_sign B5, bis_text_sign, pis_text_sign, mis_text_sign⟩
  have Grun : Dn l.prog w K mg base 1 "run_end" ["text", "at", "signs"] spRun := ⟨_, _, ok_run Frun_end B, brun_end, prun_end, mrun_end⟩
  have Gkat : Dn l.prog w K mg base 1 "kind_at" ["text", "at"] spKAt := ⟨_, _, ok_kat Fkind_at B M, bkind_at, pkind_at, mkind_at⟩
  have Gne : Dn l.prog w K mg base 2 "number_end" ["text", "at"] spNEnd := ⟨_, _, ok_nend Fnumber_end B M Grun, bnumber_end, pnumber_end, mnumber_end⟩
  have Gte : Dn l.prog w K mg base 2 "text_end" ["text", "at"] spTEnd := ⟨_, _, ok_tend Ftext_end B Gsg, btext_end, ptext_end, mtext_end⟩
  have Gtk : Dn l.prog w K mg base 3 "token_end" ["kind", "text", "at"] spTkEnd := ⟨_, _, ok_tkend Ftoken_end M Gne Grun Gte, btoken_end, ptoken_end, mtoken_end⟩
  have Gso : Dn l.prog w K mg base 1 "string_of" ["kind", "signs"] spStrOf := ⟨_, _, ok_strof Fstring_of, bstring_of, pstring_of, mstring_of⟩
  have Gto : Dn l.prog w K mg base 4 "tokens" ["text"] spToks := ⟨_, _, ok_toks Ftokens B Grun Gkat Gtk Gso, btokens, ptokens, mtokens⟩
  have Gin : Dn l.prog w K mg base 1 "is_name" ["thing"] spNo := ⟨_, _, ok_no, bis_name, pis_name, mis_name⟩
  have Gsnd : Dn l.prog w K mg base 2 "is_sound_outside" ["thing"] spSnd := ⟨_, _, ok_snd Fis_sound_outside B5 M Gko Gsg Gin, bis_sound_outside, pis_sound_outside, mis_sound_outside⟩
  have W : Wd l.prog w K mg xW := ⟨PySem.W.mg_of X G xwa, xwn, fun h' X' => words_dd (X' _ _ xwl)⟩
  have Gbeg : Dn l.prog w K mg base 1 "begins_thing" ["kind", "string"] spBeg := ⟨_, _, ok_beg Fbegins_thing B W, bbegins_thing, pbegins_thing, mbegins_thing⟩
  have Gpln : Dn l.prog w K mg base 3 "plain_thing" ["kind", "string"] spPln := ⟨_, _, ok_pln Fplain_thing B M W Gsnd, bplain_thing, pplain_thing, mplain_thing⟩
  have R : Rc K xC := ⟨⟨xpg, xhd, xpo, xsa⟩, xnf, xnp, xnb⟩
  have Dps : Dm l.prog w K mg base 1 xC "passes" ["self", "kind", "string"] (spPs xC) := ⟨_, _, R.cls, ⟨ga1, gi1, gk1⟩, ok_ps R1 R, r1⟩
  have Dpo : Dm l.prog w K mg base 2 xC "pass_over" ["self", "kind", "string"] (spPo xC) := ⟨_, _, R.cls, ⟨ga2, gi2, gk2⟩, ok_po R2 Dps, r2⟩
  have Dnm : Dm l.prog w K mg base 1 xC "name_here" ["self", "record"] (spNm xC) := ⟨_, _, R.cls, ⟨ga7, gi7, gk7⟩, ok_nm R7 B M R, r7⟩
  have Dth : Dm l.prog w K mg base (4 + 3 * 9) xC "thing_here" ["self", "depth", "crowded"] (spTh xC 9) := ⟨_, _, R.cls, ⟨ga3, gi3, gk3⟩, th_all R3 R4 R5 R6 B M R Gbeg Gpln Dps Dpo Dnm ⟨ga3, gi3, gk3⟩ ⟨ga4, gi4, gk4⟩ ⟨ga5, gi5, gk5⟩ ⟨ga6, gi6, gk6⟩ r3 r4 r5 r6 9, r3⟩
  have Dmk : Dk l.prog w K mg base 1 "Reader" xC ["self", "found"] (spRi xC) := ⟨_, _, ⟨xmk, ga0, gi0, xkc⟩, ok_ri R0 R, r0, PySem.W.mg_of X G xcl⟩
  have Gst : Dn l.prog w K mg base 5 "tokens_to_stray" ["text"] spToks := ⟨_, _, ok_str Ftokens_to_stray Gto, btokens_to_stray, ptokens_to_stray, mtokens_to_stray⟩
  have Grd : Dn l.prog w K mg base (4 + 3 * 9 + 1) "read" ["text"] spRead := ⟨_, _, ok_read Fread B M Gst Dmk Dth Dpo, bread, pread, mread⟩
  have Gwr : Dn l.prog w K mg base (2 + 10) "written" ["thing"] (spWr 10) := ⟨_, _, written_all Fwritten B2 Gko bwritten pwritten mwritten 10, bwritten, pwritten, mwritten⟩
  have Glwr : Dn l.prog w K mg base (2 + 10) "_law_written" ["_law_thing"] (spWr 10) := ⟨_, _, lwr_all F_law_written B3 b_law_written p_law_written m_law_written 10, b_law_written, p_law_written, m_law_written⟩
  have Grof : Dn l.prog w K mg base (1 + 9) "_law_row_of" ["_law_thing", "_law_turn"] (spRof 9) := ⟨_, _, rof_all F_law_row_of B5 b_law_row_of p_law_row_of m_law_row_of 9, b_law_row_of, p_law_row_of, m_law_row_of⟩
  have Gstk : Dn l.prog w K mg base 1 "_law_sticks" ["_law_one", "_law_other"] spSticks := ⟨_, _, ok_sticks F_law_sticks, b_law_sticks, p_law_sticks, m_law_sticks⟩
  have Gsh : Dn l.prog w K mg base 1 "_law_shown" ["_law_token"] spShown := ⟨_, _, ok_shown F_law_shown B, b_law_shown, p_law_shown, m_law_shown⟩
  have Gla : Dn l.prog w K mg base 2 "_law_laid" ["_law_row", "_law_cell_here"] spLaid := ⟨_, _, ok_laid F_law_laid B2 Gstk Gsh, b_law_laid, p_law_laid, m_law_laid⟩
  have Gsrt : Dn l.prog w K mg base 1 "_law_sort" ["_law_thing"] spSort := ⟨_, _, ok_sort F_law_sort B, b_law_sort, p_law_sort, m_law_sort⟩
  have Gal : Dn l.prog w K mg base (2 + 9) "_law_alike" ["_law_one", "_law_other"] (spAlike 9) := ⟨_, _, alike_all F_law_alike B2 Gsrt b_law_alike p_law_alike m_law_alike 9, b_law_alike, p_law_alike, m_law_alike⟩
  exact ok_law Flaw B2 Gcell Gname Gthing Grof Gla Grd Gto Gwr Glwr Gal
theorem walk {l : PySem.W.OpenLaw} {q : Program} {loose : List Str} {XP : (Str → Option Value) → Heap → Prop} {YP : World → Heap → Prop} {d : DefRec} {K : Params → PySem.W.Frag} (hn : l.most = some 63) (hdf : d.params.defaults = [])
    (hY : ∀ (w : World) (h : Heap), YP w h → (K w.params).In h)
    (F : ∀ (w : World) (mg : Str → Option Value) (fa : Addr) (h : Heap), (K w.params).In h → h.Ns mainGlobals mg → mg d.name = some (.ref fa) →
      ∃ fd : FuncData, (∀ (s : Shared) (u : Value), BindsTo s fd ⟨[u], []⟩ [("_law_script", u)]) ∧ ∀ base : Heap, (K w.params).In base → base.Ns mainGlobals mg → FnOk l.prog w (K w.params) mg base CX0 33 fa fd ["_law_script"] (spLaw (K w.params))) :
    PySem.W.WalkO q loose XP YP l.row.toRowW d [] (fun f vs => PySem.call f vs) :=
  L2.walk_of (n := 63) (k := 33) (x := "_law_script") (CX := fun _ => CX0) (sp := fun w => spLaw (K w.params)) hn (by decide) hdf ⟨rfl, by decide, by decide⟩ hY F (fun _ _ a ns hl _ hS => ⟨a, ns, rfl, hS, hl, fun _ => rfl⟩) fun _ _ _ _ _ z => z
end K28
def PySem.W.Fast.tw14804161808705087242 : Unit := ()
def PySem.W.Fast.tw4705172612814444700 : Unit := ()
def PySem.W.Fast.tw14437969480749302351 : Unit := ()
def PySem.W.Fast.tw15171098978014200703 : Unit := ()
def PySem.W.Fast.tw8979443648282311930 : Unit := ()
def PySem.W.Fast.tw662605954613090182 : Unit := ()
def PySem.W.Fast.tw907152362019027000 : Unit := ()
def PySem.W.Fast.tw4300533543872258560 : Unit := ()
def PySem.W.Fast.tw7501181037403181425 : Unit := ()
def PySem.W.Fast.tw5413921513288900007 : Unit := ()
def PySem.W.Fast.tw5262150059847402679 : Unit := ()
def PySem.W.Fast.tw16629949698797369606 : Unit := ()
def PySem.W.Fast.tw1519902841468776532 : Unit := ()
def PySem.W.Fast.tw4442627873496420339 : Unit := ()
def PySem.W.Fast.tw1199550345224895984 : Unit := ()
def PySem.W.Fast.tw4673661987894763673 : Unit := ()
def PySem.W.Fast.tw503250340374538777 : Unit := ()
def PySem.W.Fast.tw15388286443444886119 : Unit := ()
open PySem PySem.W PyProof.Rows
set_option maxRecDepth 100000 in
set_option maxHeartbeats 0 in
theorem PySem.Challenge.cw_cabinet_k28_whole_there_and_back_holds : PySem.Challenge.rw_cabinet_k28_whole_there_and_back.Holds := by
  w_on; o_law; k_head; (case hw => w_witness2)
  k_fill
  refine K28.walk (l := PySem.Challenge.rw_cabinet_k28_whole_there_and_back) rfl rfl (fun w h Y => PySem.W.kIn_of Y) ?F
  case F =>
    intro w mg fa h KX G hmg
    refine' K28.all_mk KX G hmg ?a0 ?l0 ?c0 ?k0 ?a1 ?l1 ?c1 ?k1 ?a2 ?l2 ?c2 ?k2 ?a3 ?l3 ?c3 ?k3 ?a4 ?l4 ?c4 ?k4 ?a5 ?l5 ?c5 ?k5 ?a6 ?l6 ?c6 ?k6 ?a7 ?l7 ?c7 ?k7 ?a8 ?l8 ?c8 ?k8 ?a9 ?l9 ?c9 ?k9 ?a10 ?l10 ?c10 ?k10 ?a11 ?l11 ?c11 ?k11 ?a12 ?l12 ?c12 ?k12 ?a13 ?l13 ?c13 ?k13 ?a14 ?l14 ?c14 ?k14 ?a15 ?l15 ?c15 ?k15 ?a16 ?l16 ?c16 ?k16 ?a17 ?l17 ?c17 ?k17 ?a18 ?l18 ?c18 ?k18 ?a19 ?l19 ?c19 ?k19 ?a20 ?l20 ?c20 ?k20 ?a21 ?l21 ?c21 ?k21 ?a22 ?l22 ?c22 ?k22 ?a23 ?l23 ?c23 ?k23 ?a24 ?l24 ?c24 ?k24 ?a25 ?l25 ?c25 ?k25 ?a26 ?l26 ?c26 ?k26 ?a27 ?l27 ?c27 ?k27 ?a28 ?l28 ?c28 ?k28 ?a29 ?l29 ?c29 ?k29 ?z0 ?z1 ?z2 ?z3 ?z4 ?z5 ?z6 ?z7 ?z8 ?z9 ?z10 ?y0 ?y1 ?y2 ?x0 ?q0 ?q1 ?s0 ?s1 ?s2 ?s3 ?n0 ?n1 ?n2 ?n3 ?n4 ?n5 ?n6 ?n7 ?xcl ?ga0 ?gi0 ?gl0 ?gc0 ?gk0 ?ga1 ?gi1 ?gl1 ?gc1 ?gk1 ?ga2 ?gi2 ?gl2 ?gc2 ?gk2 ?ga3 ?gi3 ?gl3 ?gc3 ?gk3 ?ga4 ?gi4 ?gl4 ?gc4 ?gk4 ?ga5 ?gi5 ?gl5 ?gc5 ?gk5 ?ga6 ?gi6 ?gl6 ?gc6 ?gk6 ?ga7 ?gi7 ?gl7 ?gc7 ?gk7 ?xpg ?xhd ?xpo ?xsa ?xmk ?xkc ?xnf ?xnp ?xnb ?xwa ?xwl ?xwn
    (case a0 => k_is); (case l0 => k_is); (case c0 => k_is); (case k0 => k_is); (case a1 => k_is); (case l1 => k_is); (case c1 => k_is); (case k1 => k_is)
    (case a2 => k_is); (case l2 => k_is); (case c2 => k_is); (case k2 => k_is); (case a3 => k_is); (case l3 => k_is); (case c3 => k_is); (case k3 => k_is)
    (case a4 => k_is); (case l4 => k_is); (case c4 => k_is); (case k4 => k_is); (case a5 => k_is); (case l5 => k_is); (case c5 => k_is); (case k5 => k_is)
    (case a6 => k_is); (case l6 => k_is); (case c6 => k_is); (case k6 => k_is); (case a7 => k_is); (case l7 => k_is); (case c7 => k_is); (case k7 => k_is)
    (case a8 => k_is); (case l8 => k_is); (case c8 => k_is); (case k8 => k_is); (case a9 => k_is); (case l9 => k_is); (case c9 => k_is); (case k9 => k_is)
    (case a10 => k_is); (case l10 => k_is); (case c10 => k_is); (case k10 => k_is); (case a11 => k_is); (case l11 => k_is); (case c11 => k_is); (case k11 => k_is)
    (case a12 => k_is); (case l12 => k_is); (case c12 => k_is); (case k12 => k_is); (case a13 => k_is); (case l13 => k_is); (case c13 => k_is); (case k13 => k_is)
    (case a14 => k_is); (case l14 => k_is); (case c14 => k_is); (case k14 => k_is); (case a15 => k_is); (case l15 => k_is); (case c15 => k_is); (case k15 => k_is)
    (case a16 => k_is); (case l16 => k_is); (case c16 => k_is); (case k16 => k_is); (case a17 => k_is); (case l17 => k_is); (case c17 => k_is); (case k17 => k_is)
    (case a18 => k_is); (case l18 => k_is); (case c18 => k_is); (case k18 => k_is); (case a19 => k_is); (case l19 => k_is); (case c19 => k_is); (case k19 => k_is)
    (case a20 => k_is); (case l20 => k_is); (case c20 => k_is); (case k20 => k_is); (case a21 => k_is); (case l21 => k_is); (case c21 => k_is); (case k21 => k_is)
    (case a22 => k_is); (case l22 => k_is); (case c22 => k_is); (case k22 => k_is); (case a23 => k_is); (case l23 => k_is); (case c23 => k_is); (case k23 => k_is)
    (case a24 => k_is); (case l24 => k_is); (case c24 => k_is); (case k24 => k_is); (case a25 => k_is); (case l25 => k_is); (case c25 => k_is); (case k25 => k_is)
    (case a26 => k_is); (case l26 => k_is); (case c26 => k_is); (case k26 => k_is); (case a27 => k_is); (case l27 => k_is); (case c27 => k_is); (case k27 => k_is)
    (case a28 => k_is); (case l28 => k_is); (case c28 => k_is); (case k28 => k_is); (case a29 => k_is); (case l29 => k_is); (case c29 => k_is); (case k29 => k_is)
    (case z0 => k_is); (case z1 => k_is); (case z2 => k_is); (case z3 => k_is); (case z4 => k_is); (case z5 => k_is); (case z6 => k_is); (case z7 => k_is)
    (case z8 => k_is); (case z9 => k_is); (case z10 => k_is); (case y0 => k_is); (case y1 => k_is); (case y2 => k_is); (case x0 => k_is); (case q0 => k_is)
    (case q1 => k_is); (case s0 => k_is); (case s1 => k_is); (case s2 => k_is); (case s3 => k_is); (case n0 => k_is); (case n1 => k_is); (case n2 => k_is)
    (case n3 => k_is); (case n4 => k_is); (case n5 => k_is); (case n6 => k_is); (case n7 => k_is); (case xcl => k_is); (case ga0 => k_is); (case gi0 => k_is)
    (case gl0 => k_is); (case gc0 => k_is); (case gk0 => k_is); (case ga1 => k_is); (case gi1 => k_is); (case gl1 => k_is); (case gc1 => k_is); (case gk1 => k_is)
    (case ga2 => k_is); (case gi2 => k_is); (case gl2 => k_is); (case gc2 => k_is); (case gk2 => k_is); (case ga3 => k_is); (case gi3 => k_is); (case gl3 => k_is)
    (case gc3 => k_is); (case gk3 => k_is); (case ga4 => k_is); (case gi4 => k_is); (case gl4 => k_is); (case gc4 => k_is); (case gk4 => k_is); (case ga5 => k_is)
    (case gi5 => k_is); (case gl5 => k_is); (case gc5 => k_is); (case gk5 => k_is); (case ga6 => k_is); (case gi6 => k_is); (case gl6 => k_is); (case gc6 => k_is)
    (case gk6 => k_is); (case ga7 => k_is); (case gi7 => k_is); (case gl7 => k_is); (case gc7 => k_is); (case gk7 => k_is); (case xpg => k_is); (case xhd => k_is)
    (case xpo => k_is); (case xsa => k_is); (case xmk => k_is); (case xkc => k_is); (case xnf => k_is); (case xnp => k_is); (case xnb => k_is); (case xwa => k_is)
    (case xwl => k_is); (case xwn => first | k_is | exact rfl | decide)
