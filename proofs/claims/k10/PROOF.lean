import PyProof.Rows.All
import Wide.All
import OpenK.AllK
import Wide.FinOn
import Lean
import PyProof.EqAt
import PyProof.EqKinds
import PyProof.TupleCall
import PyProof.StrReplace2
import PyProof.DictItems
import PyProof.EnumStmt
import PyProof.EnumFor
import PyProof.DictItemsLoops
import PyProof.ZipIter
import PyProof.IsRules
import PyProof.Rows.SortRev
import KE.KIntText
import OpenK.KRaise
import KE.TryInHelper
import PyProof.RulesRaise
import PyProof.Rows.RaiseClass
import PyProof.RaisesMany
import PyProof.ExcClass3
import PyProof.ExcBaseAll.ValueError
import KE.KTryMore
import PyProof.InstStoreFacts
import OpenK.KMake
import PyProof.ExcAttrAll.ValueError
import KE.KIsAll
import OpenK.KWalk
import OpenK.KDescr
import PyProof.PureStr
import PyProof.ExcStr
import PyProof.CallStr
import KE.KCallOwn
import PySem.Challenge.RW_cabinet_k10_refusals_apart
set_option Elab.async false
set_option linter.all false
set_option maxRecDepth 100000
set_option maxHeartbeats 4000000
namespace L2
open PySem PySem.Spec PyProof.Rows
/-- a key: an int or a str -/
abbrev Key := Sum Int Str
def keyIs : Key → Value → Bool
  | .inl k, v => Value.isInt k v
  | .inr x, v => Value.isStrOf x v
def keyH (w : World) : Key → Int
  | .inl k => hashInt k
  | .inr x => hashStr w x
theorem keyIs_shape : ∀ {k : Key} {v : Value}, keyIs k v = true → (∃ i t, k = Sum.inl i ∧ v = Value.int i t) ∨ (∃ x t, k = Sum.inr x ∧ v = Value.str x t)
  | .inl i, v, h => by
    obtain ⟨t, e⟩ := Value.isInt_shape (k := i) (v := v) h
    exact .inl ⟨i, t, rfl, e⟩
  | .inr x, v, h => by
    obtain ⟨t, e⟩ := Value.isStrOf_shape (x := x) (v := v) h
    exact .inr ⟨x, t, rfl, e⟩
theorem key_ll (a b : Int) : decide ((Sum.inl a : Key) = Sum.inl b) = (a == b) := by
  by_cases e : a = b
  · subst e; simp
  · have h : ¬ (Sum.inl a : Key) = Sum.inl b := fun q => e (Sum.inl.inj q)
    rw [decide_eq_false h]
    exact (beq_eq_false_iff_ne.mpr e).symm
theorem key_rr (a b : Str) : decide ((Sum.inr a : Key) = Sum.inr b) = decide (a = b) := by
  by_cases e : a = b
  · subst e; simp
  · have h : ¬ (Sum.inr a : Key) = Sum.inr b := fun q => e (Sum.inr.inj q)
    rw [decide_eq_false h, decide_eq_false e]
theorem key_lr (a : Int) (b : Str) : decide ((Sum.inl a : Key) = Sum.inr b) = false := decide_eq_false (fun q => nomatch q)
theorem key_rl (a : Str) (b : Int) : decide ((Sum.inr a : Key) = Sum.inl b) = false := decide_eq_false (fun q => nomatch q)
def mixKind (prog : Program) (w : World) : PySem.KeyKind prog w Key where
  is := keyIs
  hash := keyH w
  inj := fun v a b ha hb => by
    rcases keyIs_shape ha with ⟨i, t, rfl, rfl⟩ | ⟨x, t, rfl, rfl⟩
    · rcases keyIs_shape hb with ⟨j, u, rfl, e⟩ | ⟨y, u, rfl, e⟩
      · injection e with e1 _; rw [e1]
      · exact nomatch e
    · rcases keyIs_shape hb with ⟨j, u, rfl, e⟩ | ⟨y, u, rfl, e⟩
      · exact nomatch e
      · injection e with e1 _; rw [e1]
  byValue := fun k v h => by
    rcases keyIs_shape h with ⟨i, t, rfl, rfl⟩ | ⟨x, t, rfl, rfl⟩ <;> rfl
  pyHash := fun hv h => by
    rcases keyIs_shape hv with ⟨i, t, rfl, rfl⟩ | ⟨x, t, rfl, rfl⟩
    · exact wpAny_pyHash_int h
    · exact wpAny_pyHash_str h
  eqBool := fun hu hv h => by
    rcases keyIs_shape hu with ⟨i, t, rfl, rfl⟩ | ⟨x, t, rfl, rfl⟩
    · rcases keyIs_shape hv with ⟨j, u, rfl, rfl⟩ | ⟨y, u, rfl, rfl⟩
      · rw [key_ll] at h; exact wpAny_eqBool_int h
      · rw [key_lr] at h; exact SeqAt.EqAt.int_str i t y u _ _ _ _ h
    · rcases keyIs_shape hv with ⟨j, u, rfl, rfl⟩ | ⟨y, u, rfl, rfl⟩
      · rw [key_rl] at h; exact SeqAt.EqAt.str_int x t j u _ _ _ _ h
      · rw [key_rr] at h; exact wpAny_eqBool_str h
  «strs» := fun k x t v h => by
    rcases keyIs_shape h with ⟨i, u, rfl, e⟩ | ⟨y, u, rfl, e⟩
    · exact nomatch e
    · injection e with e1 _
      subst e1
      cases v <;> rfl
end L2
namespace L2
open PySem PySem.Spec PyProof.Rows
/-- a value, without the heap -/
inductive V where
  | non | bl (b : Bool) | int (i : Int) | str (x : Str) | byt (b : Array UInt8) | flt (b : UInt64) | ref (a : Addr) | ty (n : String)
  deriving DecidableEq
def RelV : V → Value → Prop
  | .non, u => u = Value.none
  | .bl b, u => u = Value.bool b
  | .int i, u => ∃ t, u = Value.int i t
  | .str x, u => ∃ t, u = Value.str x t
  | .byt b, u => ∃ t, u = Value.bytes b t
  | .flt b, u => ∃ t, u = Value.float b t
  | .ref a, u => u = Value.ref a
  | .ty n, u => u = Value.type n
abbrev Vals : List V → List Value → Prop := Paired RelV
theorem Vals.length {xs : List V} {us : List Value} (r : Vals xs us) : xs.length = us.length := Paired.length r
theorem Vals.get : ∀ {xs : List V} {us : List Value} {i : Nat} {x : V}, Vals xs us → xs[i]? = some x → ∃ u, us[i]? = some u ∧ RelV x u
  | _, _, _, _, .nil, e => by simp at e
  | _, _, 0, _, .cons r _, e => by simp at e; subst e; exact ⟨_, rfl, r⟩
  | _, _, i + 1, x, .cons _ t, e => by
    obtain ⟨u, h1, h2⟩ := Vals.get (i := i) (x := x) t (by simpa using e)
    exact ⟨u, by simpa using h1, h2⟩
theorem Vals.set {x : V} {u : Value} (r : RelV x u) : ∀ {xs : List V} {us : List Value} (i : Nat), Vals xs us → Vals (xs.set i x) (us.set i u)
  | _, _, _, .nil => .nil
  | _, _, 0, .cons _ t => .cons r t
  | _, _, i + 1, .cons q t => .cons q (Vals.set r i t)
theorem Vals.append : ∀ {xs ys : List V} {us ws : List Value}, Vals xs us → Vals ys ws → Vals (xs ++ ys) (us ++ ws)
  | _, _, _, _, .nil, s => s
  | _, _, _, _, .cons r t, s => .cons r (Vals.append t s)
theorem Vals.take : ∀ {xs : List V} {us : List Value} (n : Nat), Vals xs us → Vals (xs.take n) (us.take n)
  | _, _, 0, _ => .nil
  | _, _, _ + 1, .nil => .nil
  | _, _, n + 1, .cons r t => .cons r (Vals.take n t)
theorem Vals.drop : ∀ {xs : List V} {us : List Value} (n : Nat), Vals xs us → Vals (xs.drop n) (us.drop n)
  | _, _, 0, r => r
  | _, _, _ + 1, .nil => .nil
  | _, _, n + 1, .cons _ t => Vals.drop n t
theorem Vals.none_of : ∀ {xs : List V} {us : List Value} {i : Nat}, Vals xs us → xs[i]? = none → us[i]? = none := fun {xs us i} r e => by
  have h1 := r.length
  have h2 : xs.length ≤ i := List.getElem?_eq_none_iff.mp e
  exact List.getElem?_eq_none_iff.mpr (by omega)
def RelO : Option V → Option Value → Prop
  | some v, some u => RelV v u
  | none, none => True
  | _, _ => False
def KV {κ : Type} : List (κ × V) → List (κ × Value) → Prop := Paired fun (p : κ × V) (q : κ × Value) => p.1 = q.1 ∧ RelV p.2 q.2
/-- a key of a dict (00_mix): an int or a text -/
def kV : Key → V
  | .inl i => .int i
  | .inr x => .str x
/-- what stands at a tracked address -/
inductive HO where
  /-- a list -/
  | lst (xs : List V)
  /-- a tuple (never changes) -/
  | tup (xs : List V)
  /-- a dict whose keys are ints and texts; one whose keys are tuples of ints and texts (the empty one is both) -/
  | dK (kvs : List (Key × V)) | dT (kvs : List (List Key × V))
  /-- a set of ints: its members, its size -/
  | set (S : Int → Bool) (n : Nat)
  /-- an instance of the class at C, its dict at dx, its attributes -/
  | ins (C dx : Addr) (fs : List (Str × V))
  /-- the dict of the instance at x -/
  | own (x : Addr)
  /-- the dict of an exception -/
  | xd (fs : List (Str × V))
  /-- a bound method, f of x -/
  | met (f x : Addr)
  /-- a range object lo, lo + 1, .. below hi -/
  | rng (lo hi : Int)
  /-- a thing that is known to the object (the script; a dict while a loop walks it): read, never written while it is so -/
  | frz (o : Obj) (u : HO)
  /-- a code object's table -/
  | tbl (ps : Array Value)
  /-- any other thing, by what is true of its one object (a def of one's own: SetO a S n := HO.ext fun h => ..) -/
  | ext (φ : Heap → Prop)
abbrev Hp := Addr → Option HO
def upd (H : Hp) (a : Addr) (o : HO) : Hp := fun b => if b = a then some o else H b
theorem upd_same {H : Hp} {a : Addr} {o : HO} : upd H a o a = some o := by unfold upd; rw [if_pos rfl]
theorem upd_ne {H : Hp} {a b : Addr} {o : HO} (h : b ≠ a) : upd H a o b = H b := by unfold upd; rw [if_neg h]
theorem upd_upd {H : Hp} {a : Addr} {o u : HO} : upd (upd H a o) a u = upd H a u := by
  funext b; unfold upd; split <;> rfl
theorem ne_of_none {H : Hp} {a b : Addr} {o : HO} (h : H a = some o) (h' : H b = none) : a ≠ b := by
  intro e; subst e; rw [h] at h'; cases h'
section
variable (P : Program) (w : World)
def ObjOk (H : Hp) (h : Heap) (a : Addr) : HO → Prop
  | .lst xs => xs.length ≤ sizeLine ∧ ∃ (its : List Value) (n : Nat), Vals xs its ∧ h.get? a = some { cls := .type "list", data := .seq its.toArray n }
  | .tup xs => xs.length ≤ sizeLine ∧ ∃ its : List Value, Vals xs its ∧ IsTup h a its.toArray
  | .dK kvs => kvs.length ≤ sizeLine ∧ (a == sysModules) = false ∧ ∃ vs, KV kvs vs ∧ h.DictOf (mixKind P w) a vs
  | .dT kvs => kvs.length ≤ sizeLine ∧ (a == sysModules) = false ∧ ∃ xs : List (List Key × Addr × Value),
      Paired (fun (p : List Key × V) (q : List Key × Addr × Value) => p.1 = q.1 ∧ H q.2.1 = some (.tup (p.1.map kV)) ∧ RelV p.2 q.2.2) kvs xs ∧
      ∃ o es ep, h.get? a = some o ∧ o.ExactDict ∧ o.data = .dict es ep ∧ es.toList = xs.map (entryOfKey (tupleKind (mixKind P w))) ∧ (xs.map (·.1)).Nodup
  | .set S n => h.SetOf (intKind P w) a S n
  | .ins C dx fs => H dx = some (.own a) ∧ fs.length ≤ 1000 ∧ dx ≠ a ∧ h.get? a = some (PySem.W.instObj C dx) ∧
      ∃ mA, h.Ns1 dx mA ∧ (∀ f, RelO (fs.lookup f) (mA f)) ∧ PySem.Within mA (fs.map (·.1))
  | .own _ => ∃ o, h.get? a = some o
  | .xd fs => ∃ mA, h.Ns1 a mA ∧ ∀ f, RelO (fs.lookup f) (mA f)
  | .rng lo hi => ∃ t u v, h.get? a = some { cls := .type "range", data := .fields #[.int lo t, .int hi u, .int 1 v] }
  | .frz o u => h.get? a = some o ∧ ObjOk H h a u
  | .tbl ps => h.get? a = some { cls := .none, data := .fields ps }
  | .met f x => h.get? a = some (PySem.W.methodObj (.ref f) (.ref x))
  | .ext φ => φ h ∧ (∃ o, h.get? a = some o) ∧ ∀ h1 h2 : Heap, φ h1 → (∀ o, h1.get? a = some o → h2.get? a = some o) → φ h2
/-- the abstract heap is held -/
def HOk (H : Hp) (h : Heap) : Prop := ∀ a o, H a = some o → ObjOk P w H h a o
end
section
variable {P : Program} {w : World} {H H' : Hp} {h h' : Heap} {a : Addr} {o : HO}
theorem ObjOk.lt (x : ObjOk P w H h a o) : a < h.objs.size := by
  cases o with
  | lst xs => obtain ⟨_, _, _, _, e⟩ := x; exact Heap.lt_size e
  | tup xs => obtain ⟨_, _, _, p⟩ := x; exact p.lt
  | dK kvs => obtain ⟨_, _, _, _, o, _, _, e, _⟩ := x; exact Heap.lt_size e
  | dT kvs => obtain ⟨_, _, _, _, o, _, _, e, _⟩ := x; exact Heap.lt_size e
  | set S n => obtain ⟨o, _, _, _, e, _⟩ := x; exact Heap.lt_size e
  | ins C dx fs => obtain ⟨_, _, _, e, _⟩ := x; exact Heap.lt_size e
  | own y => obtain ⟨_, e⟩ := x; exact Heap.lt_size e
  | xd fs => obtain ⟨_, ⟨_, _, _, e, _⟩, _⟩ := x; exact Heap.lt_size e
  | rng lo hi => obtain ⟨_, _, _, e⟩ := x; exact Heap.lt_size e
  | frz ob u => obtain ⟨e, _⟩ := x; exact Heap.lt_size e
  | tbl ps => exact Heap.lt_size (show h.get? a = some _ from x)
  | met f y => exact Heap.lt_size (show h.get? a = some _ from x)
  | ext φ => obtain ⟨_, ⟨_, e⟩, _⟩ := x; exact Heap.lt_size e
theorem Paired.mapP {α β : Type} {F G : α → β → Prop} : ∀ {l₁ : List α} {l₂ : List β}, Paired F l₁ l₂ → (∀ a b, F a b → G a b) → Paired G l₁ l₂
  | _, _, .nil, _ => .nil
  | _, _, .cons r t, f => .cons (f _ _ r) (Paired.mapP t f)
/-- what an object's description leans on: its own object, its own dict, the tuples -/
theorem ObjOk.stay (x : ObjOk P w H h a o) (k : ∀ b u, (b = a ∨ H b = some (.own a)) → h.get? b = some u → h'.get? b = some u)
    (ho : ∀ b, H b = some (.own a) → H' b = some (.own a)) (ht : ∀ b xs, H b = some (.tup xs) → H' b = some (.tup xs)) : ObjOk P w H' h' a o := by
  induction o with
  | lst xs => obtain ⟨z, its, n, r, e⟩ := x; exact ⟨z, its, n, r, k _ _ (.inl rfl) e⟩
  | tup xs => obtain ⟨z, its, r, ob, e, c⟩ := x; exact ⟨z, its, r, ob, k _ _ (.inl rfl) e, c⟩
  | dK kvs => obtain ⟨z, y, vs, r, ob, es, ep, e, c⟩ := x; exact ⟨z, y, vs, r, ob, es, ep, k _ _ (.inl rfl) e, c⟩
  | dT kvs =>
    obtain ⟨z, y, xs, r, ob, es, ep, e, c⟩ := x
    exact ⟨z, y, xs, Paired.mapP r fun p q z => ⟨z.1, ht _ _ z.2.1, z.2.2⟩, ob, es, ep, k _ _ (.inl rfl) e, c⟩
  | set S n => obtain ⟨ob, es, ep, t, e, c⟩ := x; exact ⟨ob, es, ep, t, k _ _ (.inl rfl) e, c⟩
  | ins C dx fs =>
    obtain ⟨d, z, ne, e, mA, ⟨od, es, ep, e2, c⟩, r⟩ := x
    exact ⟨ho _ d, z, ne, k _ _ (.inl rfl) e, mA, ⟨od, es, ep, k _ _ (.inr d) e2, c⟩, r⟩
  | own y => obtain ⟨ob, e⟩ := x; exact ⟨ob, k _ _ (.inl rfl) e⟩
  | xd fs => obtain ⟨mA, ⟨od, es, ep, e, c⟩, r⟩ := x; exact ⟨mA, ⟨od, es, ep, k _ _ (.inl rfl) e, c⟩, r⟩
  | rng lo hi => obtain ⟨t, u, v, e⟩ := x; exact ⟨t, u, v, k _ _ (.inl rfl) e⟩
  | frz ob u ih => obtain ⟨e, q⟩ := x; exact ⟨k _ _ (.inl rfl) e, ih q⟩
  | tbl ps =>
    have e : h.get? a = some { cls := .none, data := .fields ps } := x
    show h'.get? a = some { cls := .none, data := .fields ps }
    exact k a _ (.inl rfl) e
  | met f y =>
    have e : h.get? a = some (PySem.W.methodObj (.ref f) (.ref y)) := x
    show h'.get? a = some (PySem.W.methodObj (.ref f) (.ref y))
    exact k a _ (.inl rfl) e
  | ext φ => obtain ⟨p, ⟨o, e⟩, st⟩ := x; exact ⟨st _ _ p fun o q => k _ _ (.inl rfl) q, ⟨o, k _ _ (.inl rfl) e⟩, st⟩
theorem HOk.lt (x : HOk P w H h) (e : H a = some o) : a < h.objs.size := (x a o e).lt
theorem HOk.fresh (x : HOk P w H h) (e : h.objs.size ≤ a) : H a = none := by
  cases q : H a with
  | none => rfl
  | some u => exact absurd (Nat.lt_of_lt_of_le (x.lt q) e) (Nat.lt_irrefl _)
/-- every object of the heap is kept -/
theorem HOk.kept (x : HOk P w H h) (k : ∀ b u, h.get? b = some u → h'.get? b = some u) : HOk P w H h' := fun a o e =>
  (x a o e).stay (fun b u _ q => k b u q) (fun _ q => q) fun _ _ q => q
/-- a new object is laid and tracked -/
theorem HOk.laid (x : HOk P w H h) (k : ∀ b u, h.get? b = some u → h'.get? b = some u) (hp : h.objs.size ≤ a) (new : ObjOk P w (upd H a o) h' a o) : HOk P w (upd H a o) h' := fun b u e => by
  have hn := x.fresh hp
  by_cases hb : b = a
  · subst hb; rw [upd_same] at e; cases e; exact new
  · rw [upd_ne hb] at e
    exact (x b u e).stay (fun c v _ q => k c v q) (fun c q => by rw [upd_ne (ne_of_none q hn)]; exact q) fun c xs q => by rw [upd_ne (ne_of_none q hn)]; exact q
end
/-- what may be read as u: it is u, or a known u -/
def Rd (H : Hp) (a : Addr) (u : HO) : Prop := H a = some u ∨ ∃ o, H a = some (.frz o u)
theorem Rd.of {H : Hp} {a : Addr} {u : HO} (h : H a = some u) : Rd H a u := .inl h
theorem Rd.ok {P : Program} {w : World} {H : Hp} {h : Heap} {a : Addr} {u : HO} (r : Rd H a u) (x : HOk P w H h) : ObjOk P w H h a u := by
  rcases r with r | ⟨o, r⟩
  · exact x a u r
  · obtain ⟨_, q⟩ := x a _ r
    exact q
/-- what may be written -/
def Mut : Option HO → Prop
  | some (.lst _) => True
  | some (.dK _) => True
  | some (.dT _) => True
  | some (.set _ _) => True
  | some (.ins _ _ _) => True
  | some (.ext _) => True
  | _ => False
section
variable {P : Program} {w : World} {H : Hp} {h h' : Heap} {x e : Addr} {o' : HO}
/-- the object at e is changed: x itself, or the dict of the instance x -/
theorem HOk.write (ok : HOk P w H h) (mu : Mut (H x)) (he : e = x ∨ H e = some (.own x)) (k : ∀ b u, b ≠ e → h.get? b = some u → h'.get? b = some u) (heo : ∃ u, h'.get? e = some u)
    (new : ObjOk P w (upd H x o') h' x o') : HOk P w (upd H x o') h' := fun b u q => by
  have nown : ∀ c y, H c = some (.own y) → c ≠ x := fun c y r z => by subst z; rw [r] at mu; exact mu
  have ntup : ∀ c xs, H c = some (.tup xs) → c ≠ x := fun c xs r z => by subst z; rw [r] at mu; exact mu
  by_cases hb : b = x
  · subst hb; rw [upd_same] at q; cases q; exact new
  · rw [upd_ne hb] at q
    by_cases hbe : b = e
    · have q' : H b = some (.own x) := by
        rcases he with z | z
        · exact absurd (hbe.trans z) hb
        · rw [hbe]; exact z
      rw [q] at q'; cases q'
      obtain ⟨v, hv⟩ := heo
      exact ⟨v, by rw [hbe]; exact hv⟩
    · refine (ok b u q).stay (fun c v hc r => k c v ?_ r) (fun c r => by rw [upd_ne (nown c b r)]; exact r) fun c xs r => by rw [upd_ne (ntup c xs r)]; exact r
      rcases hc with rfl | hc
      · exact hbe
      · rintro rfl
        rcases he with z | z
        · exact nown c b hc z
        · rw [hc] at z; cases z; exact hb rfl
end
structure Un (fs ex : List Addr) (H H' : Hp) (h h' : Heap) : Prop where
  keep : ∀ b o, h.get? b = some o → H b = none → b ∉ fs → b ∉ ex → h'.get? b = some o
  slot : ∀ b o, h.get? b = some o → H b = none → b ∈ fs → b ∉ ex → ∃ sl, h'.get? b = some { o with slots := sl }
  free : ∀ b o, h.get? b = some o → H b = none → b ∉ ex → H' b = none
  there : ∀ b o, h.get? b = some o → b ∉ ex → ∃ o', h'.get? b = some o'
  tups : ∀ b xs, H b = some (.tup xs) → H' b = some (.tup xs)
  frzs : ∀ b o u, H b = some (.frz o u) → H' b = some (.frz o u)
  tbls : ∀ b ps, H b = some (.tbl ps) → ∃ more, H' b = some (.tbl (ps ++ more))
section
variable {fs fs' ex ex' : List Addr} {H H1 H2 : Hp} {h h1 h2 h' : Heap} {a x e : Addr} {o : HO}
theorem Un.any (u : Un fs ex H H1 h h1) {b : Addr} {ob : Obj} (q : h.get? b = some ob) (n : H b = none) (hx : b ∉ ex) : ∃ sl, h1.get? b = some { ob with slots := sl } := by
  by_cases hb : b ∈ fs
  · exact u.slot b ob q n hb hx
  · exact ⟨ob.slots, u.keep b ob q n hb hx⟩
theorem Un.trans (a : Un fs ex H H1 h h1) (b : Un fs ex H1 H2 h1 h2) : Un fs ex H H2 h h2 where
  keep := fun c ob q n hc hx => b.keep c ob (a.keep c ob q n hc hx) (a.free c ob q n hx) hc hx
  slot := fun c ob q n hc hx => by
    obtain ⟨sl, e1⟩ := a.slot c ob q n hc hx
    obtain ⟨sl', e2⟩ := b.slot c _ e1 (a.free c ob q n hx) hc hx
    exact ⟨sl', e2⟩
  free := fun c ob q n hx => by
    obtain ⟨o', e1⟩ := a.there c ob q hx
    exact b.free c o' e1 (a.free c ob q n hx) hx
  there := fun c ob q hx => by
    obtain ⟨o', e1⟩ := a.there c ob q hx
    exact b.there c o' e1 hx
  tups := fun c xs q => b.tups c xs (a.tups c xs q)
  frzs := fun c ob xs q => b.frzs c ob xs (a.frzs c ob xs q)
  tbls := fun c ps q => by
    obtain ⟨m1, e1⟩ := a.tbls c ps q
    obtain ⟨m2, e2⟩ := b.tbls c _ e1
    exact ⟨m1 ++ m2, by rw [e2, Array.append_assoc]⟩
theorem Un.kept (k : ∀ b u, h.get? b = some u → h'.get? b = some u) : Un fs ex H H h h' :=
  ⟨fun b ob q _ _ _ => k b ob q, fun b ob q _ _ _ => ⟨ob.slots, k b ob q⟩, fun _ _ _ n _ => n, fun b ob q _ => ⟨ob, k b ob q⟩, fun _ _ q => q, fun _ _ _ q => q, fun _ ps q => ⟨#[], by rw [q]; simp⟩⟩
theorem Un.refl : Un fs ex H H h h := Un.kept fun _ _ q => q
theorem Un.laid (k : ∀ b u, h.get? b = some u → h'.get? b = some u) (hp : h.objs.size ≤ a) (hn : H a = none) : Un fs ex H (upd H a o) h h' where
  keep := fun b u q _ _ _ => k b u q
  slot := fun b u q _ _ _ => ⟨u.slots, k b u q⟩
  free := fun b u q n _ => by rw [upd_ne (Nat.ne_of_lt (Nat.lt_of_lt_of_le (Heap.lt_size q) hp))]; exact n
  there := fun b u q _ => ⟨u, k b u q⟩
  tups := fun b xs q => by rw [upd_ne (ne_of_none q hn)]; exact q
  frzs := fun b u xs q => by rw [upd_ne (ne_of_none q hn)]; exact q
  tbls := fun b ps q => ⟨#[], by rw [upd_ne (ne_of_none q hn), q]; simp⟩
theorem Un.write (mu : Mut (H x)) (he : e = x ∨ H e = some (.own x)) (k : ∀ b u, b ≠ e → h.get? b = some u → h'.get? b = some u) (heo : ∃ u, h'.get? e = some u) : Un fs ex H (upd H x o) h h' := by
  have hx : ∀ b, H b = none → b ≠ x := fun b n z => by subst z; rw [n] at mu; exact mu
  have hb : ∀ b, H b = none → b ≠ e := fun b n z => by
    subst z
    rcases he with r | r
    · exact hx b n r
    · rw [n] at r; cases r
  have hm : ∀ b u, H b = some u → ¬ Mut (some u) → b ≠ x := fun b u q nm z => by subst z; rw [q] at mu; exact nm mu
  refine ⟨fun b u q n _ _ => k b u (hb b n) q, fun b u q n _ _ => ⟨u.slots, k b u (hb b n) q⟩, fun b u q n _ => by rw [upd_ne (hx b n)]; exact n, fun b u q _ => ?_,
    fun b xs q => by rw [upd_ne (hm b _ q fun z => z)]; exact q, fun b u xs q => by rw [upd_ne (hm b _ q fun z => z)]; exact q, fun b ps q => ⟨#[], by rw [upd_ne (hm b _ q fun z => z), q]; simp⟩⟩
  by_cases hbe : b = e
  · subst hbe; exact heo
  · exact ⟨u, k b u hbe q⟩
theorem Un.mono (u : Un fs ex H H1 h h1) (hs : ∀ b ∈ fs, b ∈ fs') (hx : ∀ b ∈ ex, b ∈ ex') : Un fs' ex' H H1 h h1 :=
  ⟨fun b ob q n hb he => u.keep b ob q n (fun z => hb (hs b z)) fun z => he (hx b z), fun _ _ q n _ he => u.any q n fun z => he (hx _ z), fun b ob q n he => u.free b ob q n fun z => he (hx b z), fun b ob q he => u.there b ob q fun z => he (hx b z), u.tups, u.frzs, u.tbls⟩
end
def trk (h : Heap) (H : Hp) : List Addr := (List.range h.objs.size).filter fun a => (H a).isSome
def hidT (h : Heap) (H : Hp) : Heap := PySem.W.hideAll h (trk h H)
theorem hidT_size (h : Heap) (H : Hp) : (hidT h H).objs.size = h.objs.size := PySem.W.hideAll_size _ _
theorem hidT_get {h : Heap} {H : Hp} {b : Addr} {o : Obj} (e : h.get? b = some o) (n : H b = none) : (hidT h H).get? b = some o :=
  PySem.W.hideAll_get _ e fun hm => by
    have q : (H b).isSome = true := (List.mem_filter.mp hm).2
    rw [n] at q; simp at q
theorem of_hidT {h : Heap} {H : Hp} {b : Addr} {o : Obj} (e : (hidT h H).get? b = some o) : h.get? b = some o ∧ H b = none := by
  have e' : h.get? b = some o := PySem.W.of_hideAll (trk h H) e
  refine ⟨e', ?_⟩
  cases q : H b with
  | none => rfl
  | some x =>
    have hm : b ∈ trk h H := List.mem_filter.mpr ⟨List.mem_range.mpr (Heap.lt_size e'), by simp [q]⟩
    have z : (hidT h H).get? b = none := PySem.W.hideAll_none (trk h H) hm
    rw [z] at e; cases e
def allNews (g h : Heap) (L : Addr) : List (Addr × Obj) := (List.range h.objs.size).filterMap fun a => if a = L ∨ (g.get? a).isSome = true then none else (h.get? a).map fun o => (a, o)
def rest (g h : Heap) (L d : Addr) : List (Addr × Obj) := (allNews g h L).filter fun p => decide (p.1 ≠ d)
end L2
namespace L2
open PySem PySem.Spec PyProof.Rows
/-- the module's facts, over the base: the heap at the law's entry without what is tracked there -/
structure Mod (K : PySem.W.Frag) (mg : Str → Option Value) (base : Heap) : Prop where
  kin : K.In base
  glob : base.Ns mainGlobals mg
  blt : ∃ mb, base.Ns builtinsNs mb ∧ ∀ x : Str, x ≠ "__name__" → mb x = bootBuiltins x
  nolimit : base.NoLimit
/-- the context: a def's body (or a comprehension's block) running. base: fixed through the whole law; s₀, H₀: the entry; outer: the frames whose slots others may change (a def's callers); stack: all frames that run;
   ex: iterators that were made ahead of the entry and are walked here (a comprehension's); fn: the names whose cells were made at the entry (a def: all; a comprehension's block: its own); calm: not within an except suite; pn: pins that every state bears; xe: what is wanted of an exception that leaves the code -/
structure Cx where
  prog : Program
  w : World
  K : PySem.W.Frag
  mg : Str → Option Value
  base : Heap
  A : Around
  N : List Str
  s₀ : Shared
  H₀ : Hp
  env : Env
  outer : List Env
  stack : List Env
  ex : List Addr
  fn : Str → Bool
  calm : Bool
  pn : List (Addr × Obj)
  xe : Value → Shared → Prop
/-- the callers' frames -/
def frs (l : List Env) : List Addr := l.filterMap (·.frame)
abbrev Cx.fs (X : Cx) : List Addr := frs X.outer
def Vis (sc : Scope) (x : Str) : Prop := sc.names.lookup x = some .local ∨ sc.names.lookup x = some .cell ∨ sc.names.lookup x = some .free
def Loc (sc : Scope) (x : Str) : Prop := sc.names.lookup x = some .local ∨ sc.names.lookup x = some .cell
def Look (env : Env) (h : Heap) (m : Str → Option Value) (x : Str) (u : Value) : Prop :=
  (env.kindOf x = some .local ∧ m x = some u) ∨ ((env.kindOf x = some .cell ∨ env.kindOf x = some .free) ∧ ∃ c, env.cells.lookup x = some c ∧ h.IsCell c (some u))
structure Cx.Ok (X : Cx) : Prop where
  mod : Mod X.K X.mg X.base
  kind : X.env.scope.kind = .function
  glob : X.env.globals = mainGlobals
  blt : X.env.builtins = builtinsNs
  above : X.s₀.heap.objs.size ≤ X.env.locals
  inj : ∀ x y c, X.env.cells.lookup x = some c → X.env.cells.lookup y = some c → x = y
  has : ∀ x, (X.env.kindOf x = some .cell ∨ X.env.kindOf x = some .free) → ∃ c, X.env.cells.lookup x = some c
  cab : ∀ x c, X.fn x = true → X.env.cells.lookup x = some c → X.s₀.heap.objs.size ≤ c
  hd : X.calm = true → X.A.handled = none
  frames : X.A.frames = some X.stack
  stk : X.stack = X.outer ∨ (X.stack = X.env :: X.outer ∧ X.env.frame = some X.env.locals)
  exf : ∀ b ∈ X.ex, b ≠ X.env.locals ∧ ∀ x c, X.env.cells.lookup x = some c → c ≠ b
  bs : ∀ b o, X.base.get? b = some o → X.s₀.heap.get? b = some o ∧ X.H₀ b = none
  bsz : X.base.objs.size ≤ X.s₀.heap.objs.size
  noex : ∀ b o, X.base.get? b = some o → b ∉ X.ex
  exfs : ∀ b ∈ X.ex, b ∉ X.fs
  funs : X.s₀.heap.FunFrames X.base X.outer
  frf : ∀ b ∈ X.fs, X.H₀ b = none
structure Inv (X : Cx) (pins : List (Addr × Obj)) (σ : List (Option V)) (H : Hp) (s : Shared) : Prop where
  ok : X.Ok
  os : s.os = X.s₀.os
  bare : AllBare s.gens
  base : Un X.fs X.ex X.H₀ H X.s₀.heap s.heap
  loc : ∃ m, s.heap.Ns X.env.locals m ∧ ∀ (i : Nat) (x : Str) (v : V), X.N[i]? = some x → σ[i]? = some (some v) → Vis X.env.scope x → ∃ u, RelV v u ∧ Look X.env s.heap m x u
  cell : ∀ x c, X.env.cells.lookup x = some c → ∃ v, s.heap.IsCell c v
  free : H X.env.locals = none
  freeC : ∀ x c, X.env.cells.lookup x = some c → H c = none
  pin : ∀ p ∈ X.pn ++ pins, s.heap.get? p.1 = some p.2 ∧ H p.1 = none ∧ p.1 ≠ X.env.locals ∧ p.1 ∉ X.fs ∧ ∀ v, p.2.data ≠ .cell v
  hok : HOk X.prog X.w H s.heap
  len : σ.length = X.N.length
section
variable {X : Cx} {pins : List (Addr × Obj)} {σ : List (Option V)} {H H' : Hp} {s : Shared} {h' : Heap}
theorem Cx.Ok.nofr (ok : X.Ok) {b : Addr} {o : Obj} (e : X.base.get? b = some o) : b ∉ X.fs := fun hb => by
  have := (ok.funs.mem hb).1
  rw [e] at this; cases this
theorem Inv.bs (I : Inv X pins σ H s) : ∀ b o, X.base.get? b = some o → s.heap.get? b = some o ∧ H b = none := fun b o e =>
  ⟨I.base.keep b o (I.ok.bs b o e).1 (I.ok.bs b o e).2 (I.ok.nofr e) (I.ok.noex b o e), I.base.free b o (I.ok.bs b o e).1 (I.ok.bs b o e).2 (I.ok.noex b o e)⟩
theorem Inv.bk (I : Inv X pins σ H s) : ∀ b o, X.base.get? b = some o → s.heap.get? b = some o := fun b o e => (I.bs b o e).1
theorem Inv.mod (I : Inv X pins σ H s) : Mod X.K X.mg X.base := I.ok.mod
theorem Inv.kIn (I : Inv X pins σ H s) : X.K.In s.heap := I.ok.mod.kin.keeps I.bk
theorem Inv.nolimit (I : Inv X pins σ H s) : s.heap.NoLimit := I.ok.mod.nolimit.keeps I.bk
/-- the frame over the base: for OpenK's rules (K.In X.base is I.mod.kin) -/
theorem Inv.fr (I : Inv X pins σ H s) : ∃ m, Fr X.base X.env.locals s.heap m :=
  let ⟨m, hn, _⟩ := I.loc
  ⟨m, hn, I.bk, Nat.le_trans I.ok.bsz I.ok.above⟩
theorem Inv.lt (I : Inv X pins σ H s) : X.env.locals < s.heap.objs.size := let ⟨_, hn, _⟩ := I.loc; hn.lt
theorem Inv.sz (I : Inv X pins σ H s) : X.s₀.heap.objs.size ≤ s.heap.objs.size := Nat.le_trans I.ok.above (Nat.le_of_lt I.lt)
theorem Inv.nofs (I : Inv X pins σ H s) {a : Addr} (h : s.heap.objs.size ≤ a) : a ∉ X.fs := fun hb => by
  obtain ⟨_, o, ho, _⟩ := I.ok.funs.mem hb
  exact absurd (Nat.lt_of_lt_of_le (Heap.lt_size ho) (Nat.le_trans I.sz h)) (Nat.lt_irrefl _)
theorem Inv.cne (I : Inv X pins σ H s) : ∀ x c, X.env.cells.lookup x = some c → c ≠ X.env.locals := fun x c e z => by
  obtain ⟨v, o, ho, hd⟩ := I.cell x c e
  obtain ⟨m, ⟨o', es, ep, ho', hd', _⟩, _⟩ := I.loc
  rw [z, ho'] at ho; cases ho; rw [hd'] at hd; cases hd
theorem Inv.funs (I : Inv X pins σ H s) : s.heap.FunFrames X.base X.outer := by
  have all : ∀ (l : List Env), (∀ b ∈ frs l, b ∈ X.fs) → X.s₀.heap.FunFrames X.base l → s.heap.FunFrames X.base l := by
    intro l
    induction l with
    | nil => intro _ _; trivial
    | cons env r ih =>
      intro hs hl
      obtain ⟨hk, ⟨L, o, hf, hn, ho, hd⟩, hr⟩ := hl
      have hL : L ∈ X.fs := hs L (by unfold frs; rw [List.filterMap_cons, hf]; exact List.mem_cons_self)
      obtain ⟨sl, e⟩ := I.base.slot L o ho (I.ok.frf L hL) hL fun z => I.ok.exfs L z hL
      exact ⟨hk, ⟨L, _, hf, hn, e, hd⟩, ih (fun b hb => hs b (by unfold frs; rw [List.filterMap_cons, hf]; exact List.mem_cons_of_mem _ hb)) hr⟩
  exact all X.outer (fun _ hb => hb) I.ok.funs
/-- the frames that run, for a call -/
theorem Inv.stack (I : Inv X pins σ H s) : s.heap.FunFrames X.base X.stack := by
  rcases I.ok.stk with e | ⟨e, hf⟩
  · rw [e]; exact I.funs
  · rw [e]
    obtain ⟨m, hn, _⟩ := I.loc
    refine .cons (by rw [I.ok.kind]; decide) hf hn ?_ I.funs
    exact Heap.get?_none_of_le (Nat.le_trans I.ok.bsz I.ok.above)
theorem Inv.stkSub (I : Inv X pins σ H s) : ∀ b ∈ frs X.stack, b ∈ X.env.locals :: X.fs := fun b hb => by
  rcases I.ok.stk with e | ⟨e, hf⟩
  · rw [e] at hb; exact List.mem_cons_of_mem _ hb
  · rw [e] at hb
    unfold frs at hb
    rw [List.filterMap_cons, hf] at hb
    exact hb
theorem Inv.stkFree (I : Inv X pins σ H s) : ∀ b ∈ frs X.stack, H b = none := fun b hb => by
  rcases List.mem_cons.mp (I.stkSub b hb) with e | hb
  · rw [e]; exact I.free
  · obtain ⟨_, o, ho, _⟩ := I.ok.funs.mem hb
    exact I.base.free b o ho (I.ok.frf b hb) fun z => I.ok.exfs b z hb
/-- THE STEP: the untracked objects but the frame and the records at ch are kept (the callers' frames up to slots), the frame's map is kept, the new abstract heap is held -/
theorem Inv.step {g' : Array GenState} {t' : Nat} {d' : Drawn} {ch : List Addr} (I : Inv X pins σ H s)
    (hch : ∀ b ∈ ch, (b ∈ X.ex ∨ X.s₀.heap.objs.size ≤ b) ∧ b ≠ X.env.locals ∧ (∀ x c, X.env.cells.lookup x = some c → c ≠ b) ∧ ∀ p ∈ X.pn ++ pins, p.1 ≠ b)
    (keep : ∀ b o, b ≠ X.env.locals → b ∉ X.fs → b ∉ ch → s.heap.get? b = some o → H b = none → h'.get? b = some o)
    (slot : ∀ b o, b ≠ X.env.locals → b ∈ X.fs → b ∉ ch → s.heap.get? b = some o → H b = none → ∃ sl, h'.get? b = some { o with slots := sl }) (free : ∀ b o, b ∉ ch → s.heap.get? b = some o → H b = none → H' b = none)
    (there : ∀ b o, b ∉ ch → s.heap.get? b = some o → ∃ o', h'.get? b = some o')
    (tups : ∀ b xs, H b = some (.tup xs) → H' b = some (.tup xs)) (frzs : ∀ b o u, H b = some (.frz o u) → H' b = some (.frz o u)) (tbls : ∀ b ps, H b = some (.tbl ps) → ∃ more, H' b = some (.tbl (ps ++ more)))
    (ns : ∀ m, s.heap.Ns X.env.locals m → h'.Ns X.env.locals m) (hok : HOk X.prog X.w H' h') (hg : AllBare g') :
    Inv X pins σ H' { s with heap := h', gens := g', drawn := d', toks := t' } := by
  have neL : ∀ b o, X.s₀.heap.get? b = some o → b ≠ X.env.locals := fun b o e => Nat.ne_of_lt (Nat.lt_of_lt_of_le (Heap.lt_size e) I.ok.above)
  have neC : ∀ b o, X.s₀.heap.get? b = some o → b ∉ X.ex → b ∉ ch := fun b o e hx hb => by
    rcases (hch b hb).1 with z | z
    · exact hx z
    · exact absurd (Nat.lt_of_lt_of_le (Heap.lt_size e) z) (Nat.lt_irrefl _)
  have cellK : ∀ x c, X.env.cells.lookup x = some c → ∀ v, s.heap.IsCell c v → h'.IsCell c v := fun x c e v ⟨o, ho, hd⟩ => by
    have nch : c ∉ ch := fun z => (hch c z).2.2.1 x c e rfl
    by_cases hc : c ∈ X.fs
    · obtain ⟨sl, q⟩ := slot c o (I.cne x c e) hc nch ho (I.freeC x c e)
      exact ⟨_, q, hd⟩
    · exact ⟨o, keep c o (I.cne x c e) hc nch ho (I.freeC x c e), hd⟩
  refine ⟨I.ok, I.os, hg, ⟨fun b o e n hb hx => ?_, fun b o e n hb hx => ?_, fun b o e n hx => ?_, fun b o e hx => ?_, fun b xs e => tups b xs (I.base.tups b xs e), fun b o xs e => frzs b o xs (I.base.frzs b o xs e), fun b ps e => ?_⟩, ?_, fun x c e => ?_, ?_, fun x c e => ?_, fun p hp => ?_, hok, I.len⟩
  · exact keep b o (neL b o e) hb (neC b o e hx) (I.base.keep b o e n hb hx) (I.base.free b o e n hx)
  · obtain ⟨sl, e1⟩ := I.base.slot b o e n hb hx
    obtain ⟨sl', e2⟩ := slot b _ (neL b o e) hb (neC b o e hx) e1 (I.base.free b o e n hx)
    exact ⟨sl', e2⟩
  · obtain ⟨o', e1⟩ := I.base.there b o e hx
    exact free b o' (neC b o e hx) e1 (I.base.free b o e n hx)
  · obtain ⟨o', e1⟩ := I.base.there b o e hx
    exact there b o' (neC b o e hx) e1
  · obtain ⟨m1, e1⟩ := I.base.tbls b ps e
    obtain ⟨m2, e2⟩ := tbls b _ e1
    exact ⟨m1 ++ m2, by rw [e2, Array.append_assoc]⟩
  · obtain ⟨m, hn, hl⟩ := I.loc
    refine ⟨m, ns m hn, fun i x v e1 e2 e3 => ?_⟩
    obtain ⟨u, r, l⟩ := hl i x v e1 e2 e3
    refine ⟨u, r, ?_⟩
    rcases l with l | ⟨k, c, e, z⟩
    · exact .inl l
    · exact .inr ⟨k, c, e, cellK x c e _ z⟩
  · obtain ⟨v, z⟩ := I.cell x c e
    exact ⟨v, cellK x c e v z⟩
  · obtain ⟨m, ⟨o, _, _, ho, _⟩, _⟩ := I.loc
    exact free _ o (fun z => (hch _ z).2.1 rfl) ho I.free
  · obtain ⟨v, o, ho, hd⟩ := I.cell x c e
    exact free c o (fun z => (hch c z).2.2.1 x c e rfl) ho (I.freeC x c e)
  · obtain ⟨e, n, ne, nf, d⟩ := I.pin p hp
    have nch : p.1 ∉ ch := fun z => (hch p.1 z).2.2.2 p hp rfl
    exact ⟨keep p.1 p.2 ne nf nch e n, free p.1 p.2 nch e n, ne, nf, d⟩
/-- .. where the frame's own object is kept too -/
theorem Inv.un {t' : Nat} (I : Inv X pins σ H s) (u : Un X.fs [] H H' s.heap h') (hok : HOk X.prog X.w H' h') : Inv X pins σ H' { s with heap := h', toks := t' } := by
  obtain ⟨m, ⟨o, es, ep, ho, r⟩, _⟩ := id I.loc
  obtain ⟨sl, hL⟩ := u.any ho I.free (by simp)
  exact I.step (g' := s.gens) (d' := s.drawn) (ch := []) (fun _ z => nomatch z) (fun b o _ hb _ e n => u.keep b o e n hb (by simp)) (fun b o _ hb _ e n => u.slot b o e n hb (by simp)) (fun b o _ e n => u.free b o e n (by simp)) (fun b o _ e => u.there b o e (by simp)) u.tups u.frzs u.tbls (fun m' hm => by
    obtain ⟨o', es', ep', ho', r'⟩ := hm
    rw [ho] at ho'; cases ho'
    exact ⟨_, es', ep', hL, r'⟩) hok I.bare
/-- behind a call (or a comprehension's block): the slots of this frame may have changed too, the records at ch may have turned -/
theorem Inv.call {g' : Array GenState} {t' : Nat} {d' : Drawn} {ch : List Addr} (I : Inv X pins σ H s) (u : Un (frs X.stack) ch H H' s.heap h') (hok : HOk X.prog X.w H' h') (hg : AllBare g')
    (hch : ∀ b ∈ ch, (b ∈ X.ex ∨ X.s₀.heap.objs.size ≤ b) ∧ b ≠ X.env.locals ∧ (∀ x c, X.env.cells.lookup x = some c → c ≠ b) ∧ ∀ p ∈ X.pn ++ pins, p.1 ≠ b) :
    Inv X pins σ H' { s with heap := h', gens := g', drawn := d', toks := t' } := by
  obtain ⟨m, ⟨o, es, ep, ho, r⟩, _⟩ := id I.loc
  obtain ⟨sl, hL⟩ := u.any ho I.free fun z => (hch _ z).2.1 rfl
  exact I.step (ch := ch) hch (fun b o hL hb hc e n => u.keep b o e n (fun z => (List.mem_cons.mp (I.stkSub b z)).elim hL hb) hc) (fun b o _ _ hc e n => u.any e n hc) (fun b o hc e n => u.free b o e n hc) (fun b o hc e => u.there b o e hc) u.tups u.frzs u.tbls (fun m' hm => by
    obtain ⟨o', es', ep', ho', r'⟩ := hm
    rw [ho] at ho'; cases ho'
    exact ⟨_, es', ep', hL, r'⟩) hok hg
/-- an untracked record of ours (an iterator) has turned -/
theorem Inv.turned {t' : Nat} {it : Addr} (I : Inv X pins σ H s) (k : ∀ b o, b ≠ it → s.heap.get? b = some o → h'.get? b = some o) (hn : H it = none) (hL : it ≠ X.env.locals)
    (h1 : it ∈ X.ex ∨ X.s₀.heap.objs.size ≤ it) (h2 : ∀ x c, X.env.cells.lookup x = some c → c ≠ it) (h3 : ∀ p ∈ X.pn ++ pins, p.1 ≠ it) : Inv X pins σ H { s with heap := h', toks := t' } := by
  have nit : ∀ b u, H b = some u → b ≠ it := fun b u e z => by rw [z, hn] at e; cases e
  refine I.step (g' := s.gens) (d' := s.drawn) (ch := [it]) (fun b hb => ?_) (fun b o _ _ hc e _ => k b o (fun z => hc (by simp [z])) e) (fun b o _ _ hc e _ => ⟨o.slots, k b o (fun z => hc (by simp [z])) e⟩) (fun _ _ _ _ n => n)
    (fun b o hc e => ⟨o, k b o (fun z => hc (by simp [z])) e⟩) (fun _ _ e => e) (fun _ _ _ e => e) (fun b ps e => ⟨#[], by rw [e]; simp⟩) (fun m hm => ?_) (fun b u e => ?_) I.bare
  · have e : b = it := by simpa using hb
    subst e
    exact ⟨h1, hL, h2, h3⟩
  · obtain ⟨o, es, ep, ho, r⟩ := hm
    exact ⟨o, es, ep, k _ o (Ne.symm hL) ho, r⟩
  · refine (I.hok b u e).stay (fun c v hc q => k c v ?_ q) (fun _ q => q) fun _ _ q => q
    rcases hc with z | z
    · rw [z]; exact nit b u e
    · exact nit c _ z
theorem Inv.tok (I : Inv X pins σ H s) (t : Nat) : Inv X pins σ H { s with toks := t } := I.un (h' := s.heap) (t' := t) Un.refl I.hok
/-- all objects kept -/
theorem Inv.kept {t' : Nat} (I : Inv X pins σ H s) (k : ∀ b u, s.heap.get? b = some u → h'.get? b = some u) : Inv X pins σ H { s with heap := h', toks := t' } := I.un (Un.kept k) (I.hok.kept k)
/-- a new object laid and tracked -/
theorem Inv.laid {a : Addr} {o : HO} {t' : Nat} (I : Inv X pins σ H s) (k : ∀ b u, s.heap.get? b = some u → h'.get? b = some u) (hp : s.heap.objs.size ≤ a) (new : ObjOk X.prog X.w (upd H a o) h' a o) :
    Inv X pins σ (upd H a o) { s with heap := h', toks := t' } := I.un (Un.laid k hp (I.hok.fresh hp)) (I.hok.laid k hp new)
/-- an object written -/
theorem Inv.write {x e : Addr} {o : HO} {t' : Nat} (I : Inv X pins σ H s) (mu : Mut (H x)) (he : e = x ∨ H e = some (.own x)) (k : ∀ b u, b ≠ e → s.heap.get? b = some u → h'.get? b = some u) (heo : ∃ u, h'.get? e = some u)
    (new : ObjOk X.prog X.w (upd H x o) h' x o) : Inv X pins σ (upd H x o) { s with heap := h', toks := t' } := I.un (Un.write mu he k heo) (I.hok.write mu he k heo new)
/-- forgetting slots, pins -/
theorem Inv.weak {σ' : List (Option V)} (I : Inv X pins σ H s) (hl : σ'.length = σ.length) (w : ∀ (i : Nat) v, σ'[i]? = some (some v) → σ[i]? = some (some v)) : Inv X pins σ' H s :=
  ⟨I.ok, I.os, I.bare, I.base, let ⟨m, hn, hl'⟩ := I.loc; ⟨m, hn, fun i x v e1 e2 e3 => hl' i x v e1 (w i v e2) e3⟩, I.cell, I.free, I.freeC, I.pin, I.hok, hl.trans I.len⟩
theorem Inv.pins_of {pins' : List (Addr × Obj)} (I : Inv X pins σ H s) (h : ∀ p ∈ pins', s.heap.get? p.1 = some p.2 ∧ H p.1 = none ∧ p.1 ≠ X.env.locals ∧ p.1 ∉ X.fs ∧ ∀ v, p.2.data ≠ .cell v) : Inv X pins' σ H s :=
  ⟨I.ok, I.os, I.bare, I.base, I.loc, I.cell, I.free, I.freeC, fun p hp => (List.mem_append.mp hp).elim (fun z => I.pin p (List.mem_append_left _ z)) (h p), I.hok, I.len⟩
theorem nodup_ix {N : List Str} (hN : N.Nodup) {i j : Nat} {x : Str} (a : N[i]? = some x) (b : N[j]? = some x) : i = j := by
  obtain ⟨h1, e1⟩ := List.getElem?_eq_some_iff.mp a
  obtain ⟨h2, e2⟩ := List.getElem?_eq_some_iff.mp b
  exact (List.getElem_inj hN).mp (e1.trans e2.symm)
/-- a name is stored; what changed -/
theorem store_ok2 {M : Model} {A : Around} {E : Value → Shared → Prop} {i : Nat} {x : Str} {v : V} {u : Value} {Q : Unit → Shared → Prop} (I : Inv X pins σ H s) (hN : X.N.Nodup) (hi : X.N[i]? = some x) (hx : Loc X.env.scope x) (r : RelV v u)
    (h : ∀ s', Inv X pins (σ.set i (some v)) H s' → (∃ a, Heap.SameBut a s.heap s'.heap ∧ (a = X.env.locals ∨ X.env.cells.lookup x = some a)) → Q () s') (hf : X.fn x = true ∨ X.env.scope.names.lookup x = some .local := by first | exact .inl rfl | exact .inr rfl | assumption) : wpAny M A (storeName X.env x u) Q E s := by
  obtain ⟨m, hn, hl⟩ := id I.loc
  have hcls : (X.env.scope.kind == .class || (X.env.scope.kind == .module && X.env.locals != X.env.globals)) = false := by rw [I.ok.kind]; rfl
  have hiσ : i < σ.length := by rw [I.len]; exact (List.getElem?_eq_some_iff.mp hi).1
  have cne := I.cne
  have tracked : ∀ {a : Addr} {h' : Heap}, (∃ o, s.heap.get? a = some o ∧ H a = none) → Heap.SameBut a s.heap h' → HOk X.prog X.w H h' := fun {a h'} ha hs b ob e => by
    obtain ⟨_, _, hfree⟩ := ha
    refine (I.hok b ob e).stay (fun c w' hc q => (hs.2 c ?_).trans q) (fun _ q => q) fun _ _ q => q
    rintro rfl
    rcases hc with rfl | hc
    · rw [hfree] at e; cases e
    · rw [hfree] at hc; cases hc
  rcases hx with hk | hk
  · refine wpAny_storeName_local hk hn (fun h' hn' hs => ?_) hcls
    obtain ⟨oL, _, _, hoL, _⟩ := id hn
    refine h _ ⟨I.ok, I.os, I.bare, ⟨fun b o e n hb hx => ?_, fun b o e n hb hx => ?_, I.base.free, fun b o e hx => ?_, I.base.tups, I.base.frzs, I.base.tbls⟩, ⟨_, hn', fun j y v' e1 e2 e3 => ?_⟩, fun y c e => ?_, I.free, I.freeC, fun p hp => ?_, tracked ⟨oL, hoL, I.free⟩ hs, by simpa using I.len⟩ ⟨_, hs, .inl rfl⟩
    · exact (hs.2 b (Nat.ne_of_lt (Nat.lt_of_lt_of_le (Heap.lt_size e) I.ok.above))).trans (I.base.keep b o e n hb hx)
    · obtain ⟨sl, e1⟩ := I.base.slot b o e n hb hx
      exact ⟨sl, (hs.2 b (Nat.ne_of_lt (Nat.lt_of_lt_of_le (Heap.lt_size e) I.ok.above))).trans e1⟩
    · obtain ⟨o', e1⟩ := I.base.there b o e hx
      exact ⟨o', (hs.2 b (Nat.ne_of_lt (Nat.lt_of_lt_of_le (Heap.lt_size e) I.ok.above))).trans e1⟩
    · by_cases hj : j = i
      · subst hj
        rw [hi] at e1; cases e1
        rw [List.getElem?_set_self hiσ] at e2
        cases e2
        exact ⟨u, r, .inl ⟨hk, by simp⟩⟩
      · rw [List.getElem?_set_ne (Ne.symm hj)] at e2
        obtain ⟨u', r', q⟩ := hl j y v' e1 e2 e3
        refine ⟨u', r', ?_⟩
        rcases q with ⟨k, e⟩ | ⟨k, c, e, z⟩
        · refine .inl ⟨k, ?_⟩
          have : y ≠ x := fun e => hj (nodup_ix hN e1 (e ▸ hi))
          simp [this, e]
        · exact .inr ⟨k, c, e, z.sameBut hs (cne y c e)⟩
    · obtain ⟨w', z⟩ := I.cell y c e
      exact ⟨w', z.sameBut hs (cne y c e)⟩
    · obtain ⟨e, n, ne, nf, d⟩ := I.pin p hp
      exact ⟨(hs.2 p.1 ne).trans e, n, ne, nf, d⟩
  · have hfn : X.fn x = true := by
      rcases hf with z | z
      · exact z
      · rw [z] at hk; cases hk
    obtain ⟨c, hc⟩ := I.ok.has x (.inl hk)
    obtain ⟨w', z⟩ := I.cell x c hc
    refine wpAny_storeName_cell I.ok.kind hk hc z (fun h' hc' hs => ?_)
    obtain ⟨oc, hoc, hocd⟩ := id z
    refine h { s with heap := h' } ⟨I.ok, I.os, I.bare, ⟨fun b o e n hb hx => ?_, fun b o e n hb hx => ?_, I.base.free, fun b o e hx => ?_, I.base.tups, I.base.frzs, I.base.tbls⟩, ⟨m, hn.sameBut hs (Ne.symm (cne x c hc)), fun j y v' e1 e2 e3 => ?_⟩, fun y c' e => ?_, I.free, I.freeC, fun p hp => ?_, tracked ⟨oc, hoc, I.freeC x c hc⟩ hs, by simpa using I.len⟩ ⟨c, hs, .inr hc⟩
    · exact (hs.2 b (Nat.ne_of_lt (Nat.lt_of_lt_of_le (Heap.lt_size e) (I.ok.cab x c hfn hc)))).trans (I.base.keep b o e n hb hx)
    · obtain ⟨sl, e1⟩ := I.base.slot b o e n hb hx
      exact ⟨sl, (hs.2 b (Nat.ne_of_lt (Nat.lt_of_lt_of_le (Heap.lt_size e) (I.ok.cab x c hfn hc)))).trans e1⟩
    · obtain ⟨o', e1⟩ := I.base.there b o e hx
      exact ⟨o', (hs.2 b (Nat.ne_of_lt (Nat.lt_of_lt_of_le (Heap.lt_size e) (I.ok.cab x c hfn hc)))).trans e1⟩
    · by_cases hj : j = i
      · subst hj
        rw [hi] at e1; cases e1
        rw [List.getElem?_set_self hiσ] at e2
        cases e2
        exact ⟨u, r, .inr ⟨.inl hk, c, hc, hc'⟩⟩
      · rw [List.getElem?_set_ne (Ne.symm hj)] at e2
        obtain ⟨u', r', q⟩ := hl j y v' e1 e2 e3
        refine ⟨u', r', ?_⟩
        rcases q with q | ⟨k, c', e, z'⟩
        · exact .inl q
        · refine .inr ⟨k, c', e, z'.sameBut hs ?_⟩
          rintro rfl
          exact hj (nodup_ix hN e1 (I.ok.inj _ _ _ e hc ▸ hi))
    · by_cases hcc : c' = c
      · subst hcc; exact ⟨_, hc'⟩
      · obtain ⟨w2, z2⟩ := I.cell y c' e
        exact ⟨w2, z2.sameBut hs hcc⟩
    · obtain ⟨e, n, ne, nf, d⟩ := I.pin p hp
      refine ⟨(hs.2 p.1 ?_).trans e, n, ne, nf, d⟩
      intro q
      rw [q, hoc] at e
      have q' : oc = p.2 := Option.some.inj e
      exact d w' (by rw [← q']; exact hocd)
theorem store_ok {M : Model} {A : Around} {E : Value → Shared → Prop} {i : Nat} {x : Str} {v : V} {u : Value} {Q : Unit → Shared → Prop} (I : Inv X pins σ H s) (hN : X.N.Nodup) (hi : X.N[i]? = some x) (hx : Loc X.env.scope x) (r : RelV v u)
    (h : ∀ s', Inv X pins (σ.set i (some v)) H s' → Q () s') (hf : X.fn x = true ∨ X.env.scope.names.lookup x = some .local := by first | exact .inl rfl | exact .inr rfl | assumption) : wpAny M A (storeName X.env x u) Q E s :=
  store_ok2 I hN hi hx r (fun s' I' _ => h s' I') hf
/-- behind a call or a block, the state as it is -/
theorem Inv.call' {s' : Shared} {ch : List Addr} (I : Inv X pins σ H s) (ho : s'.os = s.os) (u : Un (frs X.stack) ch H H' s.heap s'.heap) (hok : HOk X.prog X.w H' s'.heap) (hg : AllBare s'.gens)
    (hch : ∀ b ∈ ch, (b ∈ X.ex ∨ X.s₀.heap.objs.size ≤ b) ∧ b ≠ X.env.locals ∧ (∀ x c, X.env.cells.lookup x = some c → c ≠ b) ∧ ∀ p ∈ X.pn ++ pins, p.1 ≠ b) : Inv X pins σ H' s' := by
  obtain ⟨h', g', d', t', o'⟩ := s'
  have e : o' = s.os := ho
  subst e
  exact I.call (g' := g') (t' := t') (d' := d') u hok hg hch
end
/-- an exception: its class, its own dict's address (where it has one), the abstract heap behind it -/
abbrev XK := Value → Option Addr → Hp → Prop
abbrev St := List (Option V)
abbrev VK := V → Hp → Prop
/-- an expression's reading; a test's; an argument list's -/
abbrev TE := St → Hp → VK → Prop
abbrev TT := St → Hp → (Bool → Hp → Prop) → Prop
abbrev TA := St → Hp → (List V → Hp → Prop) → Prop
/-- what is wanted behind a statement -/
structure Ends where
  nx : St → Hp → Prop
  rt : VK
  bk : St → Hp → Prop := fun _ _ => False
  ct : St → Hp → Prop := fun _ _ => False
abbrev TS := Ends → St → Hp → Prop
def EP (X : Cx) (pins : List (Addr × Obj)) (σ : St) (Q : VK) (u : Value) (s' : Shared) : Prop := ∃ v H', Inv X pins σ H' s' ∧ RelV v u ∧ Q v H'
def TP (X : Cx) (pins : List (Addr × Obj)) (σ : St) (Q : Bool → Hp → Prop) (b : Bool) (s' : Shared) : Prop := ∃ H', Inv X pins σ H' s' ∧ Q b H'
def AP (X : Cx) (pins : List (Addr × Obj)) (σ : St) (Q : List V → Hp → Prop) (us : List Value) (s' : Shared) : Prop := ∃ vs H', Inv X pins σ H' s' ∧ Vals vs us ∧ Q vs H'
def SP (X : Cx) (pins : List (Addr × Obj)) (D : Ends) (f : Flow) (s' : Shared) : Prop :=
  match f with
  | .next => ∃ σ' H', Inv X pins σ' H' s' ∧ D.nx σ' H'
  | .brk => ∃ σ' H', Inv X pins σ' H' s' ∧ D.bk σ' H'
  | .cont => ∃ σ' H', Inv X pins σ' H' s' ∧ D.ct σ' H'
  | .ret u => ∃ v σ' H', Inv X pins σ' H' s' ∧ RelV v u ∧ D.rt v H'
def PE (X : Cx) (e : Expr) (t : TE) : Prop :=
  ∀ (pins : List (Addr × Obj)) (s : Shared) (σ : St) (H : Hp) (Q : VK), Inv X pins σ H s → t σ H Q → wpAny (model X.prog X.w) X.A (eval e X.env) (EP X pins σ Q) X.xe s
def PT (X : Cx) (e : Expr) (t : TT) : Prop :=
  ∀ (pins : List (Addr × Obj)) (s : Shared) (σ : St) (H : Hp) (Q : Bool → Hp → Prop), Inv X pins σ H s → t σ H Q → wpAny (model X.prog X.w) X.A (isTrue e X.env (eval e X.env)) (TP X pins σ Q) X.xe s
/-- a test whatever its 'whole' is (and, or) -/
def PW (X : Cx) (e : Expr) (t : TT) : Prop :=
  ∀ (whole : Sem Value) (pins : List (Addr × Obj)) (s : Shared) (σ : St) (H : Hp) (Q : Bool → Hp → Prop), Inv X pins σ H s → t σ H Q → wpAny (model X.prog X.w) X.A (isTrue e X.env whole) (TP X pins σ Q) X.xe s
theorem PW.pt {X : Cx} {e : Expr} {t : TT} (h : PW X e t) : PT X e t := h _
/-- an argument list (no star), from the left -/
def PA (X : Cx) (es : List Expr) (t : TA) : Prop :=
  ∀ (pos : Pos) (pins : List (Addr × Obj)) (s : Shared) (σ : St) (H : Hp) (Q : List V → Hp → Prop), Inv X pins σ H s → t σ H Q → wpAny (model X.prog X.w) X.A (spliced (backTo pos (starEach es X.env))) (AP X pins σ Q) X.xe s
def PS (X : Cx) (st : Stmt) (t : TS) : Prop :=
  ∀ (pins : List (Addr × Obj)) (s : Shared) (σ : St) (H : Hp) (D : Ends), Inv X pins σ H s → t D σ H → wpAny (model X.prog X.w) X.A (exec st X.env) (SP X pins D) X.xe s
def PSs (X : Cx) (st : List Stmt) (t : TS) : Prop :=
  ∀ (pins : List (Addr × Obj)) (s : Shared) (σ : St) (H : Hp) (D : Ends), Inv X pins σ H s → t D σ H → wpAny (model X.prog X.w) X.A (execs st X.env) (SP X pins D) X.xe s
/-- weaken the end -/
theorem thn {α : Type} {t : Sem α} {Q Q' : α → Shared → Prop} {M : Model} {A : Around} {E : Value → Shared → Prop} {s : Shared} (h : wpAny M A t Q E s) (hQ : ∀ a s, Q a s → Q' a s) : wpAny M A t Q' E s := wpAny_mono h hQ fun _ _ x => x
end L2
namespace L2
open PySem PySem.Spec PyProof.Rows
section
variable {X : Cx}
def tVar (i : Nat) : TE := fun σ H Q => ∃ v, σ[i]? = some (some v) ∧ Q v H
def tC (v : V) : TE := fun _ H Q => Q v H
theorem pe_var {i : Nat} {x : Str} {pos : Pos} (hN : X.N[i]? = some x) (hv : Vis X.env.scope x) (hd : (x == ("__debug__" : Str)) = false := by decide) (hcd : (x == ("__classdict__" : Str)) = false := by decide) : PE X (.Name x pos) (tVar i) := by
  intro pins s σ H Q I h
  obtain ⟨v, e, h⟩ := h
  obtain ⟨m, hn, hl⟩ := I.loc
  obtain ⟨u, r, l⟩ := hl i x v hN e hv
  have fin : EP X pins σ Q u s := ⟨v, H, I, r, h⟩
  rcases l with ⟨hk, hm⟩ | ⟨hk, c, hc, hcell⟩
  · exact wpAny_Name (wpAny_loadName_local I.ok.kind hk hn hm fin) hd
  · rcases hk with hk | hk
    · exact wpAny_Name (wpAny_loadName_cell I.ok.kind hk hc hcell fin) hd
    · exact wpAny_Name (wpAny_loadName_free I.ok.kind hk hc hcell fin hcd) hd
theorem pe_int {i j pos} : PE X (.Constant (.int i) j pos) (tC (.int i)) := fun _ _ _ H _ I h => wpAny_Constant_int ⟨.int i, H, I.tok _, ⟨_, rfl⟩, h⟩
theorem pe_bl {b j pos} : PE X (.Constant (.bool b) j pos) (tC (.bl b)) := fun _ _ _ H _ I h => Constant_bool ⟨.bl b, H, I, rfl, h⟩
theorem pe_str {x j pos} : PE X (.Constant (.str x) j pos) (tC (.str x)) := fun _ _ _ H _ I h => Calls.Constant_str ⟨.str x, H, I.tok _, ⟨_, rfl⟩, h⟩
/-- a global name of the def -/
def Gl (X : Cx) (x : Str) : Prop := X.env.kindOf x = some .globalImplicit
theorem ld_glob {E : Value → Shared → Prop} {pins : List (Addr × Obj)} {s : Shared} {σ : St} {H : Hp} {x : Str} {u : Value} {pos : Pos} {Q : Value → Shared → Prop} (I : Inv X pins σ H s) (hg : Gl X x) (hm : X.mg x = some u) (h : Q u s)
    (hd : (x == ("__debug__" : Str)) = false := by decide) : wpAny (model X.prog X.w) X.A (eval (.Name x pos) X.env) Q E s :=
  Calls.Name_function_global I.ok.kind hg (Calls.loadGlobal_global (by rw [I.ok.glob]; exact I.mod.glob.keeps I.bk) hm h) hd
theorem ld_blt {E : Value → Shared → Prop} {pins : List (Addr × Obj)} {s : Shared} {σ : St} {H : Hp} {x : Str} {u : Value} {pos : Pos} {Q : Value → Shared → Prop} (I : Inv X pins σ H s) (hg : Gl X x) (hm : X.mg x = none) (hv : bootBuiltins x = some u) (h : Q u s)
    (hn : x ≠ "__name__" := by decide) (hd : (x == ("__debug__" : Str)) = false := by decide) : wpAny (model X.prog X.w) X.A (eval (.Name x pos) X.env) Q E s := by
  obtain ⟨mb, h1, h2⟩ := I.mod.blt
  exact Calls.Name_function_global I.ok.kind hg (Calls.loadGlobal_builtin (by rw [I.ok.glob]; exact I.mod.glob.keeps I.bk) hm (by rw [I.ok.blt]; exact h1.keeps I.bk) ((h2 x hn).trans hv) h) hd
/-- a module's constant, a class, a function, as a value -/
theorem pe_glob {x : Str} {v : V} {u : Value} {pos : Pos} (hg : Gl X x) (hm : X.mg x = some u) (r : RelV v u) (hd : (x == ("__debug__" : Str)) = false := by decide) : PE X (.Name x pos) (tC v) :=
  fun _ _ _ H _ I h => ld_glob I hg hm ⟨v, H, I, r, h⟩ hd
theorem pe_bltn {x : Str} {v : V} {u : Value} {pos : Pos} (hg : Gl X x) (hm : X.mg x = none) (hv : bootBuiltins x = some u) (r : RelV v u) (hn : x ≠ "__name__" := by decide) (hd : (x == ("__debug__" : Str)) = false := by decide) : PE X (.Name x pos) (tC v) :=
  fun _ _ _ H _ I h => ld_blt I hg hm hv ⟨v, H, I, r, h⟩ hn hd
variable {a b : Expr} {ta tb : TE} {pos : Pos}
def PC (X : Cx) (op : CmpOp) (a b : Expr) (t : TE) : Prop :=
  ∀ (pins : List (Addr × Obj)) (s : Shared) (σ : St) (H : Hp) (Q : VK), Inv X pins σ H s → t σ H Q →
    wpAny (model X.prog X.w) X.A (eval a X.env) (fun v s₁ => wpAny (model X.prog X.w) X.A (eval b X.env) (fun u s₂ => wpAny (model X.prog X.w) X.A (compareOp op v u) (EP X pins σ Q) X.xe s₂) X.xe s₁) X.xe s
theorem nobehind (b : Expr) {op : CmpOp} (h : op ≠ .In) (h2 : op ≠ .NotIn) : behindInMarks op b = false := by
  have e1 : (op == CmpOp.In) = false := by cases op <;> first | rfl | exact absurd rfl h
  have e2 : (op == CmpOp.NotIn) = false := by cases op <;> first | rfl | exact absurd rfl h2
  cases b <;> simp [behindInMarks, e1, e2]
/-- is None -/
def tIsN (ta : TE) : TE := fun σ H Q => ta σ H fun x H1 => Q (.bl (decide (x = .non))) H1
def tNotN (ta : TE) : TE := fun σ H Q => ta σ H fun x H1 => Q (.bl (!decide (x = .non))) H1
theorem RelV.none_iff {x : V} {v : Value} (r : RelV x v) : (v == Value.none) = decide (x = .non) := by
  cases x with
  | non => cases r; rfl
  | bl _ => cases r; rfl
  | int _ => obtain ⟨t, rfl⟩ := r; rfl
  | str _ => obtain ⟨t, rfl⟩ := r; rfl
  | byt _ => obtain ⟨t, rfl⟩ := r; rfl
  | flt _ => obtain ⟨t, rfl⟩ := r; rfl
  | ref _ => cases r; rfl
  | ty _ => cases r; rfl
theorem pc_isN {j pos'} (ha : PE X a ta) : PC X .Is a (.Constant .none j pos') (tIsN ta) := by
  intro pins s σ H Q I h
  refine thn (ha pins s σ H _ I h) fun v s1 ⟨x, H1, I1, r1, q1⟩ => ?_
  exact Constant_none (is_none_gen ⟨.bl _, H1, I1, by rw [r1.none_iff]; rfl, q1⟩)
theorem pc_notN {j pos'} (ha : PE X a ta) : PC X .IsNot a (.Constant .none j pos') (tNotN ta) := by
  intro pins s σ H Q I h
  refine thn (ha pins s σ H _ I h) fun v s1 ⟨x, H1, I1, r1, q1⟩ => ?_
  exact Constant_none (isnot_none_gen ⟨.bl _, H1, I1, by rw [r1.none_iff]; rfl, q1⟩)
/-- a comparison as a value, as a test -/
def tB (t : TE) : TT := fun σ H Q => t σ H fun x H1 => ∃ c, x = .bl c ∧ Q c H1
theorem pe_cmp {op : CmpOp} {t : TE} (h : PC X op a b t) (h1 : behindInMarks op b = false := by first | exact nobehind _ (by decide) (by decide) | rfl) : PE X (.Compare a [op] [b] pos) t := fun pins s σ H Q I hw => wpAny_Compare1 (h pins s σ H Q I hw) h1
theorem pt_cmp {op : CmpOp} {t : TE} (h : PC X op a b t) (h1 : behindInMarks op b = false := by first | exact nobehind _ (by decide) (by decide) | rfl) : PT X (.Compare a [op] [b] pos) (tB t) := by
  intro pins s σ H Q I hw
  refine wpAny_isTrue_Compare1 (thn (h pins s σ H _ I hw) fun v s1 h1 => thn h1 fun u s2 h2 => thn h2 fun c s3 ⟨x, H1, I1, r1, q1⟩ => ?_) h1
  obtain ⟨d, rfl, q⟩ := q1
  cases r1
  exact wpAny_truthy_bool ⟨H1, I1, q⟩
/-- an expression whose value is a bool, as a test -/
theorem pt_val {e : Expr} {t : TE} (h : PE X e t) (he : ∀ whole, isTrue e X.env whole = (do let v ← whole; standAt e.pos; holding [v] (truthy v)) := by intro _; rfl) : PT X e (tB t) := by
  intro pins s σ H Q I hw
  refine isTrue_plain (thn (h pins s σ H _ I hw) fun v s1 ⟨x, H1, I1, r1, q1⟩ => ?_) (he _)
  obtain ⟨d, rfl, q⟩ := q1
  cases r1
  exact wpAny_truthy_bool ⟨H1, I1, q⟩
variable {tA tB' : TT} {rest : List Expr}
def tAnd (t u : TT) : TT := fun σ H Q => t σ H fun c H1 => if c = true then u σ H1 Q else Q false H1
def tOr (t u : TT) : TT := fun σ H Q => t σ H fun c H1 => if c = true then Q true H1 else u σ H1 Q
def tNot (t : TT) : TT := fun σ H Q => t σ H fun c H1 => Q (!c) H1
theorem pw_or1 (ha : PT X a tA) : PW X (.BoolOp .Or [a] pos) tA := by
  intro wh pins s σ H Q I h
  refine isTrue_or (thn (ha pins s σ H Q I h) fun c s1 e => ?_)
  cases c with
  | false => exact isTrue_or_nil e
  | true => exact e
theorem pw_or (ha : PT X a tA) (hb : PW X (.BoolOp .Or (b :: rest) pos) tB') : PW X (.BoolOp .Or (a :: b :: rest) pos) (tOr tA tB') := by
  intro wh pins s σ H Q I h
  refine isTrue_or (thn (ha pins s σ H _ I h) fun c s1 ⟨H1, I1, q1⟩ => ?_)
  cases c with
  | true => exact ⟨H1, I1, q1⟩
  | false => exact hb wh pins s1 σ H1 Q I1 q1
theorem pt_not (ha : PT X a tA) : PT X (.UnaryOp .Not a pos) (tNot tA) := by
  intro pins s σ H Q I h
  exact isTrue_not (ha pins s σ H (fun c H1 => Q (!c) H1) I h)
/-- .. as values (bools) -/
def tAndV (ta tb : TE) : TE := fun σ H Q => ta σ H fun x H1 => ∃ c, x = .bl c ∧ if c = true then tb σ H1 Q else Q (.bl false) H1
def tOrV (ta tb : TE) : TE := fun σ H Q => ta σ H fun x H1 => ∃ c, x = .bl c ∧ if c = true then Q (.bl true) H1 else tb σ H1 Q
def tNotV (ta : TE) : TE := fun σ H Q => ta σ H fun x H1 => ∃ c, x = .bl c ∧ Q (.bl (!c)) H1
theorem pe_one {op} {t : TE} (h : PE X a t) : PE X (.BoolOp op [a] pos) t := fun pins s σ H Q I hw => BoolOp_one (h pins s σ H Q I hw)
theorem pe_and (ha : PE X a ta) (hb : PE X (.BoolOp .And (b :: rest) pos) tb) : PE X (.BoolOp .And (a :: b :: rest) pos) (tAndV ta tb) := by
  intro pins s σ H Q I h
  refine BoolOp_and (thn (ha pins s σ H _ I h) fun v s1 ⟨x, H1, I1, r1, q1⟩ => ?_)
  obtain ⟨c, rfl, q1⟩ := q1
  cases r1
  refine wpAny_truthy_bool ?_
  cases c with
  | true => exact hb pins s1 σ H1 Q I1 q1
  | false => exact ⟨.bl false, H1, I1, rfl, q1⟩
/-- a if t else b -/
def tIf (t : TT) (ta tb : TE) : TE := fun σ H Q => t σ H fun c H1 => if c = true then ta σ H1 Q else tb σ H1 Q
theorem pe_ifExp {c : Expr} (hc : PT X c tA) (ha : PE X a ta) (hb : PE X b tb) : PE X (.IfExp c a b pos) (tIf tA ta tb) := by
  intro pins s σ H Q I h
  refine wpAny_IfExp (thn (hc pins s σ H _ I h) fun d s1 ⟨H1, I1, q1⟩ => ?_)
  cases d with
  | true => exact ha pins s1 σ H1 Q I1 q1
  | false => exact hb pins s1 σ H1 Q I1 q1
end
end L2
namespace L2
open PySem PySem.Spec PyProof.Rows
def SqL (K : PySem.W.Frag) (H : Hp) (a : Addr) (xs : List V) : Prop :=
  Rd H a (.lst xs) ∨
    ∃ (o : Obj) (its : Array Value) (n : Nat), K.lookup a = some o ∧ o.cls = .type "list" ∧ o.dict = none ∧ o.data = .seq its n ∧ its.size ≤ sizeLine ∧ Vals xs its.toList
def SqT (K : PySem.W.Frag) (H : Hp) (a : Addr) (xs : List V) : Prop :=
  Rd H a (.tup xs) ∨
    ∃ (o : Obj) (its : Array Value) (n : Nat), K.lookup a = some o ∧ o.cls = .type "tuple" ∧ o.data = .seq its n ∧ its.size ≤ sizeLine ∧ Vals xs its.toList
def absV : Value → Option V
  | .none => some .non
  | .bool b => some (.bl b)
  | .int i _ => some (.int i)
  | .str x _ => some (.str x)
  | .bytes b _ => some (.byt b)
  | .float b _ => some (.flt b)
  | .ref a => some (.ref a)
  | .type n => some (.ty n)
  | _ => none
theorem RelV.abs {x : V} {u : Value} (r : RelV x u) : absV u = some x := by
  cases x with
  | non => cases r; rfl
  | bl _ => cases r; rfl
  | int _ => obtain ⟨t, rfl⟩ := r; rfl
  | str _ => obtain ⟨t, rfl⟩ := r; rfl
  | byt _ => obtain ⟨t, rfl⟩ := r; rfl
  | flt _ => obtain ⟨t, rfl⟩ := r; rfl
  | ref _ => cases r; rfl
  | ty _ => cases r; rfl
theorem RelV.inj {x y : V} {u : Value} (r : RelV x u) (q : RelV y u) : x = y := Option.some.inj (r.abs.symm.trans q.abs)
theorem Vals.inj : ∀ {xs ys : List V} {us : List Value}, Vals xs us → Vals ys us → xs = ys
  | _, _, _, .nil, .nil => rfl
  | _, _, _, .cons r t, .cons r' t' => by rw [r.inj r', Vals.inj t t']
section
variable {X : Cx} {pins : List (Addr × Obj)} {σ : St} {H : Hp} {s : Shared} {a : Addr} {xs ys : List V}
theorem SqL.of {K : PySem.W.Frag} (h : H a = some (.lst xs)) : SqL K H a xs := .inl (.inl h)
theorem SqT.of {K : PySem.W.Frag} (h : H a = some (.tup xs)) : SqT K H a xs := .inl (.inl h)
theorem Inv.list (I : Inv X pins σ H s) (h : SqL X.K H a xs) : ∃ its : List Value, Vals xs its ∧ PlainL s.heap a its.toArray ∧ xs.length ≤ sizeLine := by
  rcases h with h | ⟨o, its, n, hk, hc, hd, hs, hz, r⟩
  · obtain ⟨z, its, n, r, e⟩ := h.ok I.hok
    exact ⟨its, r, ⟨_, n, e, rfl, rfl, rfl⟩, z⟩
  · refine ⟨its.toList, r, ⟨o, n, I.kIn a o hk, hc, hd, by simpa using hs⟩, ?_⟩
    have e := r.length
    simp only [Array.length_toList] at e
    omega
theorem Inv.tuple (I : Inv X pins σ H s) (h : SqT X.K H a xs) : ∃ its : List Value, Vals xs its ∧ IsTup s.heap a its.toArray ∧ xs.length ≤ sizeLine := by
  rcases h with h | ⟨o, its, n, hk, hc, hs, hz, r⟩
  · obtain ⟨z, its, r, p⟩ := h.ok I.hok
    exact ⟨its, r, p, z⟩
  · refine ⟨its.toList, r, ⟨o, I.kIn a o hk, hc, n, by simpa using hs⟩, ?_⟩
    have e := r.length
    simp only [Array.length_toList] at e
    omega
theorem Inv.list_inj (I : Inv X pins σ H s) (h : SqL X.K H a xs) (h' : SqL X.K H a ys) : xs = ys := by
  obtain ⟨its, r, ⟨o, n, e, _, _, d⟩, _⟩ := I.list h
  obtain ⟨its', r', ⟨o', n', e', _, _, d'⟩, _⟩ := I.list h'
  rw [e] at e'; cases e'
  rw [d] at d'
  injection d' with d1 _
  have : its = its' := by simpa using congrArg Array.toList d1
  subst this
  exact r.inj r'
theorem Inv.tuple_inj (I : Inv X pins σ H s) (h : SqT X.K H a xs) (h' : SqT X.K H a ys) : xs = ys := by
  obtain ⟨its, r, ⟨o, e, _, n, d⟩, _⟩ := I.tuple h
  obtain ⟨its', r', ⟨o', e', _, n', d'⟩, _⟩ := I.tuple h'
  rw [e] at e'; cases e'
  rw [d] at d'
  injection d' with d1 _
  have : its = its' := by simpa using congrArg Array.toList d1
  subst this
  exact r.inj r'
end
abbrev Cx.wish (X : Cx) (E : Value → Shared → Prop) : Cx := { X with xe := E }
/-- no exception leaves -/
abbrev Cx.nox (X : Cx) : Cx := X.wish fun _ _ => False
theorem Cx.Ok.wish {X : Cx} (ok : X.Ok) (E : Value → Shared → Prop) : (X.wish E).Ok :=
  ⟨ok.mod, ok.kind, ok.glob, ok.blt, ok.above, ok.inj, ok.has, ok.cab, ok.hd, ok.frames, ok.stk, ok.exf, ok.bs, ok.bsz, ok.noex, ok.exfs, ok.funs, ok.frf⟩
theorem Cx.Ok.unwish {X : Cx} {E : Value → Shared → Prop} (ok : (X.wish E).Ok) : X.Ok :=
  ⟨ok.mod, ok.kind, ok.glob, ok.blt, ok.above, ok.inj, ok.has, ok.cab, ok.hd, ok.frames, ok.stk, ok.exf, ok.bs, ok.bsz, ok.noex, ok.exfs, ok.funs, ok.frf⟩
section
variable {X : Cx} {pins : List (Addr × Obj)} {σ : St} {H : Hp} {s : Shared} {E : Value → Shared → Prop}
theorem Inv.wish (I : Inv X pins σ H s) (E : Value → Shared → Prop) : Inv (X.wish E) pins σ H s := ⟨I.ok.wish E, I.os, I.bare, I.base, I.loc, I.cell, I.free, I.freeC, I.pin, I.hok, I.len⟩
theorem Inv.unwish (I : Inv (X.wish E) pins σ H s) : Inv X pins σ H s := ⟨I.ok.unwish, I.os, I.bare, I.base, I.loc, I.cell, I.free, I.freeC, I.pin, I.hok, I.len⟩
theorem SP.unwish {D : Ends} {f : Flow} {s' : Shared} (h : SP (X.wish E) pins D f s') : SP X pins D f s' := by
  cases f with
  | next => obtain ⟨σ', H', I, q⟩ := h; exact ⟨σ', H', I.unwish, q⟩
  | brk => obtain ⟨σ', H', I, q⟩ := h; exact ⟨σ', H', I.unwish, q⟩
  | cont => obtain ⟨σ', H', I, q⟩ := h; exact ⟨σ', H', I.unwish, q⟩
  | ret u => obtain ⟨v, σ', H', I, r, q⟩ := h; exact ⟨v, σ', H', I.unwish, r, q⟩
theorem PE.nox {e : Expr} {t : TE} (h : PE X.nox e t) : PE X e t := fun pins s σ H Q I hw =>
  wpAny_mono (h pins s σ H Q (I.wish _) hw) (fun _ _ ⟨v, H', I', r, q⟩ => ⟨v, H', I'.unwish, r, q⟩) fun _ _ z => False.elim z
theorem PT.nox {e : Expr} {t : TT} (h : PT X.nox e t) : PT X e t := fun pins s σ H Q I hw =>
  wpAny_mono (h pins s σ H Q (I.wish _) hw) (fun _ _ ⟨H', I', q⟩ => ⟨H', I'.unwish, q⟩) fun _ _ z => False.elim z
theorem PSs.nox {st : List Stmt} {t : TS} (h : PSs X.nox st t) : PSs X st t := fun pins s σ H D I hw =>
  wpAny_mono (h pins s σ H D (I.wish _) hw) (fun _ _ q => q.unwish) fun _ _ z => False.elim z
end
section
variable {X : Cx} {st : Stmt} {rest : List Stmt} {t u : TS} {e : Expr} {te : TE} {pos : Pos}
def tNext : TS := fun D σ H => D.nx σ H
def tSeq (t u : TS) : TS := fun D σ H => t { D with nx := u D } σ H
theorem pss_nil : PSs X [] tNext := fun _ _ σ H _ I h => wpAny_execs_nil ⟨σ, H, I, h⟩
theorem pss_cons (h1 : PS X st t) (h2 : PSs X rest u) : PSs X (st :: rest) (tSeq t u) := by
  intro pins s σ H D I h
  refine wpAny_execs_cons (thn (h1 pins s σ H { D with nx := u D } I h) fun f s1 q => ?_)
  cases f with
  | next =>
    obtain ⟨σ', H', I', q⟩ := q
    exact h2 pins s1 σ' H' D I' q
  | ret v => exact q
  | brk => exact q
  | cont => exact q
theorem pss_one (h1 : PS X st t) : PSs X [st] t := by
  intro pins s σ H D I h
  refine wpAny_execs_cons (thn (h1 pins s σ H D I h) fun f s1 q => ?_)
  cases f with
  | next => exact wpAny_execs_nil q
  | ret v => exact q
  | brk => exact q
  | cont => exact q
/-- in a def's body nothing is shown -/
theorem Inv.quiet {pins : List (Addr × Obj)} {σ : St} {H : Hp} {s : Shared} (I : Inv X pins σ H s) : interactive X.env = false := by simp [interactive, I.ok.kind]
/-- an expression whose value is dropped -/
def tDrop (te : TE) : TS := fun D σ H => te σ H fun _ H1 => D.nx σ H1
theorem ps_expr (he : PE X e te) (hs : swapsWith e none pos.line X.env = pure false := by rfl) : PS X (.Expr e pos) (tDrop te) := by
  intro pins s σ H D I h
  exact wpAny_Expr_any (thn (he pins s σ H _ I h) fun v s1 ⟨x, H1, I1, r1, q1⟩ => ⟨σ, H1, I1, q1⟩) I.quiet hs
def tRet (te : TE) : TS := fun D σ H => te σ H D.rt
theorem ps_ret (he : PE X e te) : PS X (.Return (some e) pos) (tRet te) := by
  intro pins s σ H D I h
  exact wpAny_Return_some (thn (he pins s σ H _ I h) fun v s1 ⟨x, H1, I1, r1, q1⟩ => ⟨x, σ, H1, I1, r1, q1⟩)
def tRetN : TS := fun D _ H => D.rt .non H
def tIfS (c : TT) (t u : TS) : TS := fun D σ H => c σ H fun b H1 => if b = true then t D σ H1 else u D σ H1
theorem ps_if {c : Expr} {a b : List Stmt} {tc : TT} (hc : PT X c tc) (ha : PSs X a t) (hb : PSs X b u) : PS X (.If c a b pos) (tIfS tc t u) := by
  intro pins s σ H D I h
  refine wpAny_If (thn (hc pins s σ H _ I h) fun d s1 ⟨H1, I1, q1⟩ => ?_)
  cases d with
  | true => exact ha pins s1 σ H1 D I1 q1
  | false => exact hb pins s1 σ H1 D I1 q1
/-- code that the proof never comes to -/
def tNever : TS := fun _ _ _ => False
theorem pss_never {sts : List Stmt} : PSs X sts tNever := fun _ _ _ _ _ _ h => h.elim
end
abbrev TG := V → St → Hp → (St → Hp → Prop) → Prop
abbrev TGs := List V → St → Hp → (St → Hp → Prop) → Prop
def PG (X : Cx) (target : Expr) (t : TG) : Prop :=
  ∀ (pins : List (Addr × Obj)) (s : Shared) (σ : St) (H : Hp) (v : V) (u : Value) (Q : St → Hp → Prop), Inv X pins σ H s → RelV v u → t v σ H Q →
    wpAny (model X.prog X.w) X.A (assign target X.env u) (fun _ s' => ∃ σ' H', Inv X pins σ' H' s' ∧ Q σ' H') X.xe s
/-- several targets, one after another -/
def PGs (X : Cx) (ts : List Expr) (t : TGs) : Prop :=
  ∀ (pins : List (Addr × Obj)) (s : Shared) (σ : St) (H : Hp) (vs : List V) (us : List Value) (Q : St → Hp → Prop), Inv X pins σ H s → Vals vs us → t vs σ H Q →
    wpAny (model X.prog X.w) X.A (assignInOrder ((assignEach ts X.env).map (·.2)) us) (fun _ s' => ∃ σ' H', Inv X pins σ' H' s' ∧ Q σ' H') X.xe s
section
variable {X : Cx} {pos : Pos}
def gName (i : Nat) : TG := fun v σ H Q => Q (σ.set i (some v)) H
theorem pg_name {i : Nat} {x : Str} (hN : X.N.Nodup) (hi : X.N[i]? = some x) (hx : Loc X.env.scope x) (hf : X.fn x = true ∨ X.env.scope.names.lookup x = some .local := by first | exact .inl rfl | exact .inr rfl | assumption) : PG X (.Name x pos) (gName i) := by
  intro pins s σ H v u Q I r h
  exact wpAny_assign_Name (store_ok I hN hi hx r (fun s' I' => ⟨_, H, I', h⟩) hf)
def gNil : TGs := fun vs σ H Q => vs = [] ∧ Q σ H
def gCons (t : TG) (u : TGs) : TGs := fun vs σ H Q => ∃ v r, vs = v :: r ∧ t v σ H fun σ' H' => u r σ' H' Q
/-- (a, b, ..) = a tuple of that length -/
def gTup (K : PySem.W.Frag) (n : Nat) (t : TGs) : TG := fun v σ H Q => ∃ a xs, v = .ref a ∧ SqT K H a xs ∧ xs.length = n ∧ t xs σ H Q
/-- target = value -/
def tAsg (te : TE) (g : TG) : TS := fun D σ H => te σ H fun x H1 => g x σ H1 D.nx
/-- name = value -/
theorem ps_set {i : Nat} {x : Str} {e : Expr} {te : TE} {pos' : Pos} (hN : X.N.Nodup) (hi : X.N[i]? = some x) (hx : Loc X.env.scope x) (he : PE X e te) (hs : swapsWith e (some (.Name x pos')) pos.line X.env = pure false := by rfl) (hf : X.fn x = true ∨ X.env.scope.names.lookup x = some .local := by first | exact .inl rfl | exact .inr rfl | assumption) :
    PS X (.Assign [.Name x pos'] e pos) (tAsg te (gName i)) := by
  intro pins s σ H D I h
  refine wpAny_Assign_Name (thn (he pins s σ H _ I h) fun v s1 ⟨y, H1, I1, r1, q1⟩ => ?_) hs
  exact store_ok I1 hN hi hx r1 (fun s2 I2 => ⟨_, H1, I2, q1⟩) hf
end
section
variable {X : Cx} {pos : Pos}
end
/-- at turn i: it yields x (the heap may grow), or it stops -/
structure It where
  go : Nat → Hp → Prop
  yld : Nat → Hp → V → Hp → Prop
  stop : Nat → Hp → Prop
/-- the iterator's own objects may turn: they are not the frame's, not pinned, younger than the entry (or a comprehension's own) -/
def FpOk (X : Cx) (pins : List (Addr × Obj)) (H : Hp) (b : Addr) : Prop :=
  H b = none ∧ b ≠ X.env.locals ∧ b ∉ X.fs ∧ (b ∈ X.ex ∨ X.s₀.heap.objs.size ≤ b) ∧ (∀ x c, X.env.cells.lookup x = some c → c ≠ b) ∧ ∀ p ∈ X.pn ++ pins, p.1 ≠ b
theorem Inv.fpOk {X : Cx} {pins : List (Addr × Obj)} {σ : St} {H H' : Hp} {s : Shared} {b : Addr} (I : Inv X pins σ H s) (hb : s.heap.objs.size ≤ b) (hn : H' b = none) : FpOk X pins H' b := by
  refine ⟨hn, Nat.ne_of_gt (Nat.lt_of_lt_of_le I.lt hb), I.nofs hb, .inr (Nat.le_trans I.sz hb), fun x c e z => ?_, fun p hp z => ?_⟩
  · obtain ⟨v, q⟩ := I.cell x c e
    exact absurd (Nat.lt_of_lt_of_le q.lt (by rw [z]; exact hb)) (Nat.lt_irrefl _)
  · exact absurd (Nat.lt_of_lt_of_le (Heap.lt_size (I.pin p hp).1) (by rw [z]; exact hb)) (Nat.lt_irrefl _)
structure Turn (P : Program) (w : World) (K : PySem.W.Frag) (tg : Expr) (J : It) (fp : List Addr) (it : Addr) (tn : Nat → Heap → Prop) : Prop where
  mem : it ∈ fp
  obj : ∀ i h, tn i h → ∀ b ∈ fp, ∃ o, h.get? b = some o ∧ ∀ v, o.data ≠ .cell v
  keep : ∀ i h h', tn i h → (∀ b ∈ fp, ∀ o, h.get? b = some o → h'.get? b = some o) → tn i h'
  item : ∀ (X : Cx), X.prog = P → X.w = w → X.K = K → X.calm = true → ∀ (i : Nat) (pins : List (Addr × Obj)) (s : Shared) (σ : St) (H : Hp) (E : Value → Shared → Prop), Inv X pins σ H s → (∀ b ∈ fp, FpOk X pins H b) → tn i s.heap → J.go i H →
    wpAny (model P w) X.A (pyNext (.ref it)) (fun r s1 => ∃ u, r = some u ∧
      wpAny (model P w) X.A (letOwnedTupleGo tg (.ref it) u) (fun _ s2 => ∃ x H', Inv X pins σ H' s2 ∧ RelV x u ∧ J.yld i H x H' ∧ tn (i + 1) s2.heap ∧ ∀ b ∈ fp, H' b = none) E s1) E s
  done : ∀ (X : Cx), X.prog = P → X.w = w → X.K = K → X.calm = true → ∀ (i : Nat) (pins : List (Addr × Obj)) (s : Shared) (σ : St) (H : Hp) (E : Value → Shared → Prop), Inv X pins σ H s → (∀ b ∈ fp, FpOk X pins H b) → tn i s.heap → J.stop i H →
    wpAny (model P w) X.A (pyNext (.ref it)) (fun r s1 => r = none ∧ Inv X pins σ H s1) E s
  self : ∀ (A : Around) (i : Nat) (s : Shared) (Q : Value → Shared → Prop) (E : Value → Shared → Prop), tn i s.heap → Q (.ref it) s → wpAny (model P w) A (pyIter (.ref it)) Q E s
abbrev TI := St → Hp → (It → Hp → Prop) → Prop
/-- an iterator has come -/
def PIE (X : Cx) (pins : List (Addr × Obj)) (σ : St) (tg : Expr) (R : It → Hp → Prop) (itv : Value) (s2 : Shared) : Prop :=
  ∃ (it : Addr) (fp : List Addr) (tn : Nat → Heap → Prop) (J : It) (H' : Hp), itv = .ref it ∧ Inv X pins σ H' s2 ∧ Turn X.prog X.w X.K tg J fp it tn ∧ tn 0 s2.heap ∧ (∀ b ∈ fp, FpOk X pins H' b) ∧ R J H'
def PI (X : Cx) (tg iter : Expr) (wi : TI) : Prop :=
  ∀ (pins : List (Addr × Obj)) (s : Shared) (σ : St) (H : Hp) (R : It → Hp → Prop), Inv X pins σ H s → wi σ H R →
    wpAny (model X.prog X.w) X.A (eval iter X.env) (fun v s1 => wpAny (model X.prog X.w) X.A (pyIter v) (PIE X pins σ tg R) X.xe s1) X.xe s
/-- the step ahead of the store is nothing for an iterator that keeps no tuple -/
theorem go_of {M : Model} {A : Around} {E : Value → Shared → Prop} {s : Shared} {tg : Expr} {it : Addr} {u : Value} {o : Obj} {n : String} {vs : Array Value} {Q : Unit → Shared → Prop} (ho : s.heap.get? it = some o) (hc : o.cls = .type n) (hd : o.data = .fields vs)
    (hn : ["enumerate", "zip", "dict_itemiterator", "dict_reverseitemiterator", "odict_iterator", "itertools.zip_longest", "itertools.pairwise"].contains n = false) (hQ : Q () s) : wpAny M A (letOwnedTupleGo tg (.ref it) u) Q E s := by
  unfold letOwnedTupleGo
  cases tg <;> first
    | exact wpAny_pure hQ
    | (cases u <;> first
        | exact wpAny_pure hQ
        | (refine wpAny_bind (wpAny_load ho ?_)
           rw [hc, hd]
           show wpAny M A (if (["enumerate", "zip", "dict_itemiterator", "dict_reverseitemiterator", "odict_iterator", "itertools.zip_longest", "itertools.pairwise"].contains n && vs[0]? == some (rawInt _)) = true then _ else _) Q E s
           rw [if_neg (by intro h; rw [hn, Bool.false_and] at h; cases h)]
           exact wpAny_pure hQ))
/-- the list at a, as it stands at each turn (a loop may append to it) -/
def Itl (K : PySem.W.Frag) (a : Addr) : It :=
  ⟨fun i H => ∃ xs x, SqL K H a xs ∧ xs[i]? = some x, fun i H x H' => H' = H ∧ ∀ xs, SqL K H a xs → xs[i]? = some x, fun i H => ∃ xs, SqL K H a xs ∧ xs.length ≤ i⟩
def Itt (K : PySem.W.Frag) (a : Addr) : It :=
  ⟨fun i H => ∃ xs x, SqT K H a xs ∧ xs[i]? = some x, fun i H x H' => H' = H ∧ ∀ xs, SqT K H a xs → xs[i]? = some x, fun i H => ∃ xs, SqT K H a xs ∧ xs.length ≤ i⟩
/-- lo, lo + 1, .. (n of them) -/
def Itr (lo : Int) (n : Nat) : It := ⟨fun i _ => i < n, fun i H x H' => H' = H ∧ x = .int (lo + i), fun i _ => n ≤ i⟩
theorem turn_list {P : Program} {w : World} {K : PySem.W.Frag} {tg : Expr} (a it : Addr) : Turn P w K tg (Itl K a) [it] it (fun i h => h.IsListIter it a i) where
  mem := by simp
  obj := fun i h st b hb => by
    have e : b = it := by simpa using hb
    subst e
    obtain ⟨o, e, c, d⟩ := st
    exact ⟨o, e, fun v z => by rw [d] at z; cases z⟩
  keep := fun i h h' st k => st.at fun o e => k it (by simp) o e
  item := by
    intro X hP hw hK hc i pins s σ H E I hf st hg
    subst hP hw hK
    obtain ⟨xs, x, hq, hx⟩ := hg
    obtain ⟨its, rv, p, hz⟩ := I.list hq
    obtain ⟨u, hu, ru⟩ := rv.get hx
    obtain ⟨f0, f1, f2, f3, f4, f5⟩ := hf it (by simp)
    refine wpAny_pyNext_list_item st p.isList (x := u) (by simpa using hu) fun h' st' sb => ?_
    have I1 : Inv X pins σ H { s with heap := h' } := I.turned (t' := s.toks) (fun b o hb e => (sb.2 b hb).trans e) f0 f1 f3 f4 f5
    obtain ⟨o, e, c, d⟩ := id st'
    exact ⟨u, rfl, go_of (s := { s with heap := h' }) e c d (by decide) ⟨x, H, I1, ru, ⟨rfl, fun ys hy => by rw [I.list_inj hy hq]; exact hx⟩, st', fun b hb => (hf b hb).1⟩⟩
  done := by
    intro X hP hw hK hc i pins s σ H E I hf st hg
    subst hP hw hK
    obtain ⟨xs, hq, hx⟩ := hg
    obtain ⟨its, rv, p, hz⟩ := I.list hq
    obtain ⟨f0, f1, f2, f3, f4, f5⟩ := hf it (by simp)
    have hl := rv.length
    exact wpAny_pyNext_list_end (I.ok.hd hc) st p.isList (by simp; omega) fun h' eb => ⟨rfl, I.turned (t' := s.toks) (fun b o hb e => eb b o hb e) f0 f1 f3 f4 f5⟩
  self := fun _ _ _ _ _ st h => wpAny_pyIter_listiter st h
theorem turn_tuple {P : Program} {w : World} {K : PySem.W.Frag} {tg : Expr} (a it : Addr) : Turn P w K tg (Itt K a) [it] it (fun i h => h.IsTupleIter it a i) where
  mem := by simp
  obj := fun i h st b hb => by
    have e : b = it := by simpa using hb
    subst e
    obtain ⟨o, e, c, d⟩ := st
    exact ⟨o, e, fun v z => by rw [d] at z; cases z⟩
  keep := fun i h h' st k => st.at fun o e => k it (by simp) o e
  item := by
    intro X hP hw hK hc i pins s σ H E I hf st hg
    subst hP hw hK
    obtain ⟨xs, x, hq, hx⟩ := hg
    obtain ⟨its, rv, p, hz⟩ := I.tuple hq
    obtain ⟨u, hu, ru⟩ := rv.get hx
    obtain ⟨f0, f1, f2, f3, f4, f5⟩ := hf it (by simp)
    refine wpAny_pyNext_tuple_item st (show s.heap.IsTuple a its.toArray from p) (x := u) (by simpa using hu) fun h' st' sb => ?_
    have I1 : Inv X pins σ H { s with heap := h' } := I.turned (t' := s.toks) (fun b o hb e => (sb.2 b hb).trans e) f0 f1 f3 f4 f5
    obtain ⟨o, e, c, d⟩ := id st'
    exact ⟨u, rfl, go_of (s := { s with heap := h' }) e c d (by decide) ⟨x, H, I1, ru, ⟨rfl, fun ys hy => by rw [I.tuple_inj hy hq]; exact hx⟩, st', fun b hb => (hf b hb).1⟩⟩
  done := by
    intro X hP hw hK hc i pins s σ H E I hf st hg
    subst hP hw hK
    obtain ⟨xs, hq, hx⟩ := hg
    obtain ⟨its, rv, p, hz⟩ := I.tuple hq
    obtain ⟨f0, f1, f2, f3, f4, f5⟩ := hf it (by simp)
    have hl := rv.length
    exact wpAny_pyNext_tuple_end (I.ok.hd hc) st (show s.heap.IsTuple a its.toArray from p) (by simp; omega) fun h' eb => ⟨rfl, I.turned (t' := s.toks) (fun b o hb e => eb b o hb e) f0 f1 f3 f4 f5⟩
  self := fun _ _ _ _ _ st h => wpAny_pyIter_tupleiter st h
theorem turn_range {P : Program} {w : World} {K : PySem.W.Frag} {tg : Expr} (it : Addr) (lo : Int) (n : Nat) : Turn P w K tg (Itr lo n) [it] it (fun i h => IsRangeIter h it (lo + (i : Nat) * 1) ((n : Int) - (i : Nat)) 1) where
  mem := by simp
  obj := fun i h st b hb => by
    have e : b = it := by simpa using hb
    subst e
    exact ⟨_, st, fun v z => by
      have z' : Data.fields _ = Data.cell v := z
      cases z'⟩
  keep := fun i h h' st k => k it (by simp) _ st
  item := by
    intro X hP hw hK hc i pins s σ H E I hf st hg
    subst hP hw hK
    obtain ⟨f0, f1, f2, f3, f4, f5⟩ := hf it (by simp)
    have W := Walks.range (prog := X.prog) (w := X.w) (I.ok.hd hc) it lo 1 n
    refine W.item i s _ _ hg st fun v h' tk hv st' kk => ?_
    obtain ⟨t, rfl⟩ := hv
    have I1 : Inv X pins σ H { s with heap := h', toks := tk } := I.turned (fun b o hb e => kk b o (by simpa using hb) e) f0 f1 f3 f4 f5
    refine ⟨_, rfl, go_of (s := { s with heap := h', toks := tk }) (n := "range_iterator") st' rfl rfl (by decide) ⟨.int (lo + i), H, I1, ⟨t, ?_⟩, ⟨rfl, rfl⟩, st', fun b hb => (hf b hb).1⟩⟩
    rw [Int.mul_one]
  done := by
    intro X hP hw hK hc i pins s σ H E I hf st hg
    subst hP hw hK
    obtain ⟨f0, f1, f2, f3, f4, f5⟩ := hf it (by simp)
    exact wpAny_pyNext_range_end (I.ok.hd hc) st (by have : n ≤ i := hg; omega) fun h' eb => ⟨rfl, I.turned (t' := s.toks) (fun b o hb e => eb b o hb e) f0 f1 f3 f4 f5⟩
  self := fun _ _ _ _ _ st h => wpAny_pyIter_rangeiter st h
end L2
namespace L2
open PySem PySem.Spec PyProof.Rows
section
variable {X : Cx} {tg : Expr}
def iList (K : PySem.W.Frag) (tl : TE) : TI := fun σ H R => tl σ H fun x H1 => ∃ a, x = .ref a ∧ (∃ xs, SqL K H1 a xs) ∧ R (Itl K a) H1
def iTup (K : PySem.W.Frag) (tl : TE) : TI := fun σ H R => tl σ H fun x H1 => ∃ a, x = .ref a ∧ (∃ xs, SqT K H1 a xs) ∧ R (Itt K a) H1
theorem pi_list {l : Expr} {tl : TE} (hl : PE X l tl) : PI X tg l (iList X.K tl) := by
  intro pins s σ H R I h
  refine thn (hl pins s σ H _ I h) fun v s1 ⟨x, H1, I1, r1, q1⟩ => ?_
  obtain ⟨a, e, ⟨xs, hq⟩, q⟩ := q1
  subst e
  cases r1
  obtain ⟨its, rv, p, hz⟩ := I1.list hq
  refine wpAny_pyIter_list p.isList ?_
  refine ⟨s1.heap.objs.size, [s1.heap.objs.size], _, _, H1, rfl, I1.kept (t' := s1.toks) fun b o e => Heap.get?_push_of_some _ e, turn_list a _, ⟨_, Heap.get?_push_size _ rfl, rfl, rfl⟩, fun b hb => ?_, q⟩
  have e : b = s1.heap.objs.size := by simpa using hb
  subst e
  exact I1.fpOk (Nat.le_refl _) (I1.hok.fresh (Nat.le_refl _))
theorem pi_tup {l : Expr} {tl : TE} (hl : PE X l tl) : PI X tg l (iTup X.K tl) := by
  intro pins s σ H R I h
  refine thn (hl pins s σ H _ I h) fun v s1 ⟨x, H1, I1, r1, q1⟩ => ?_
  obtain ⟨a, e, ⟨xs, hq⟩, q⟩ := q1
  subst e
  cases r1
  obtain ⟨its, rv, p, hz⟩ := I1.tuple hq
  refine wpAny_pyIter_tuple (show s1.heap.IsTuple a its.toArray from p) ?_
  refine ⟨s1.heap.objs.size, [s1.heap.objs.size], _, _, H1, rfl, I1.kept (t' := s1.toks) fun b o e => Heap.get?_push_of_some _ e, turn_tuple a _, ⟨_, Heap.get?_push_size _ rfl, rfl, rfl⟩, fun b hb => ?_, q⟩
  have e : b = s1.heap.objs.size := by simpa using hb
  subst e
  exact I1.fpOk (Nat.le_refl _) (I1.hok.fresh (Nat.le_refl _))
/-- a range object just made, walked -/
theorem range_it {pins : List (Addr × Obj)} {σ : St} {H : Hp} {s : Shared} {R : It → Hp → Prop} {E : Value → Shared → Prop} {lo hi : Int} {t u v : Tok} {tk : Nat} (I : Inv X pins σ H s) (h1 : -(2 ^ 62) ≤ lo) (h2 : lo < 2 ^ 62) (h3 : -(2 ^ 62) ≤ hi) (h4 : hi < 2 ^ 62)
    (q : R (Itr lo (hi - lo).toNat) H) : wpAny (model X.prog X.w) X.A (pyIter (.ref s.heap.objs.size)) (PIE X pins σ tg R) E { s with heap := s.heap.push { cls := .type "range", data := .fields #[.int lo t, .int hi u, .int 1 v] }, toks := tk } := by
  refine wpAny_pyIter_range (IsRange.new ..) (small_one h1 h2 h3 h4) ?_
  have I1 : Inv X pins σ H { s with heap := s.heap.push { cls := .type "range", data := .fields #[.int lo t, .int hi u, .int 1 v] }, toks := tk } := I.kept fun b o e => Heap.get?_push_of_some _ e
  refine ⟨(s.heap.push { cls := .type "range", data := .fields #[.int lo t, .int hi u, .int 1 v] }).objs.size, [(s.heap.push { cls := .type "range", data := .fields #[.int lo t, .int hi u, .int 1 v] }).objs.size], _, _, H, rfl,
    I1.kept (t' := tk) fun b o e => Heap.get?_push_of_some _ e, turn_range _ lo (hi - lo).toNat, ?_, fun b hb => ?_, q⟩
  · have e1 : lo + ((0 : Nat) : Int) * 1 = lo := by simp
    have e2 : (((hi - lo).toNat : Nat) : Int) - ((0 : Nat) : Int) = Builtin.Range.rangeSize lo hi 1 := by rw [rangeSize_one]; split <;> omega
    show IsRangeIter _ _ (lo + ((0 : Nat) : Int) * 1) ((((hi - lo).toNat : Nat) : Int) - ((0 : Nat) : Int)) 1
    rw [e1, e2]
    exact Heap.get?_push_size _ rfl
  · have e : b = (s.heap.push { cls := .type "range", data := .fields #[.int lo t, .int hi u, .int 1 v] }).objs.size := by simpa using hb
    subst e
    exact I1.fpOk (Nat.le_refl _) (I1.hok.fresh (Nat.le_refl _))
def iRng1 (ta : TA) : TI := fun σ H R => ta σ H fun vs H1 => ∃ j : Int, vs = [.int j] ∧ -(2 ^ 62) ≤ j ∧ j < 2 ^ 62 ∧ R (Itr 0 j.toNat) H1
theorem pi_range1 {a : Expr} {ta : TA} {p pos : Pos} (hg : Gl X "range") (hm : X.mg "range" = none) (ha : PA X [a] ta) (hs : starEach [a] X.env = [(false, eval a X.env)] := by rfl) : PI X tg (.Call (.Name "range" p) [a] [] pos) (iRng1 ta) := by
  intro pins s σ H R I h
  refine Call_ (ld_blt I hg hm boot_range (PyProof.Rows.callWith_type1 (thn (ha pos pins s σ H _ I h) fun us s1 ⟨vs, H1, I1, r1, q1⟩ => ?_) hs rfl))
  obtain ⟨j, e, q1, q2, q⟩ := q1
  subst e
  cases r1 with
  | cons r rr =>
    cases rr
    obtain ⟨t, rfl⟩ := r
    exact call_range_1 (range_it I1 (by omega) (by omega) q1 q2 (by simpa using q))
/-- W: the invariant by the turn and a measure; N: what the body is to reach -/
def tFor (wi : TI) (g : TG) (tb : TS) : TS := fun D σ H => wi σ H fun J H1 => ∃ W : Nat → Nat → St → Hp → Prop, (∃ m, W 0 m σ H1) ∧ ∀ i m σ H, W i m σ H →
  (J.stop i H ∧ D.nx σ H) ∨ (J.go i H ∧ ∃ N : St → Hp → Prop, (∀ σ' H', N σ' H' → ∃ m', m' < m ∧ W (i + 1) m' σ' H') ∧ ∀ x H', J.yld i H x H' → g x σ H' fun σ2 H2 => tb { D with nx := N, ct := N, bk := D.nx } σ2 H2)
/-- the records at fp as they stand -/
def pinsAt (fp : List Addr) (h : Heap) : List (Addr × Obj) := fp.filterMap fun b => (h.get? b).map fun o => (b, o)
theorem mem_pinsAt {fp : List Addr} {h : Heap} {b : Addr} {o : Obj} (hb : b ∈ fp) (e : h.get? b = some o) : (b, o) ∈ pinsAt fp h := List.mem_filterMap.mpr ⟨b, hb, by rw [e]; rfl⟩
theorem of_pinsAt {fp : List Addr} {h : Heap} {p : Addr × Obj} (hp : p ∈ pinsAt fp h) : p.1 ∈ fp ∧ h.get? p.1 = some p.2 := by
  obtain ⟨b, hb, e⟩ := List.mem_filterMap.mp hp
  cases q : h.get? b with
  | none => rw [q] at e; cases e
  | some o =>
    rw [q] at e
    have e' : (b, o) = p := Option.some.inj e
    subst e'
    exact ⟨hb, q⟩
theorem Inv.pinned {pins : List (Addr × Obj)} {σ : St} {H : Hp} {s : Shared} {fp : List Addr} (I : Inv X pins σ H s) (hf : ∀ b ∈ fp, FpOk X pins H b) (ho : ∀ b ∈ fp, ∃ o, s.heap.get? b = some o ∧ ∀ v, o.data ≠ .cell v) : Inv X (pins ++ pinsAt fp s.heap) σ H s :=
  I.pins_of fun p hp => (List.mem_append.mp hp).elim (fun z => I.pin p (List.mem_append_right _ z)) fun z => by
    obtain ⟨hb, e⟩ := of_pinsAt z
    obtain ⟨f0, f1, f2, _⟩ := hf p.1 hb
    obtain ⟨o, e', d⟩ := ho p.1 hb
    rw [e] at e'; cases e'
    exact ⟨e, f0, f1, f2, d⟩
theorem Inv.unpinned {pins pl : List (Addr × Obj)} {σ : St} {H : Hp} {s : Shared} (I : Inv X (pins ++ pl) σ H s) : Inv X pins σ H s := I.pins_of fun p hp => I.pin p (List.mem_append_right _ (List.mem_append_left _ hp))
theorem ps_for {iter : Expr} {body : List Stmt} {wi : TI} {g : TG} {tb : TS} {pos : Pos} (hp : PassesOwn (model X.prog X.w) X.A X.env X.xe) (hc : X.calm = true) (hi : PI X tg iter wi) (hg : PG X tg g) (hb : PSs X body tb)
    (hs : ∀ x, foldedSetIterable iter X.env x = pure x := by intro _; rfl) : PS X (.For tg iter body [] pos) (tFor wi g tb) := by
  intro pins s σ H D I h
  refine wpAny_For (thn (hi pins s σ H _ I h) fun v s1 h1 => thn h1 fun itv s2 h2 => ?_) hs
  obtain ⟨it, fp, tn, J, H2, e, I2, T, st2, f2, W, ⟨m0, w0⟩, turn⟩ := h2
  subst e
  -- what stays true of the iterator's objects through the loop
  have stat : ∀ {H' : Hp}, (∀ b ∈ fp, H' b = none) → ∀ b ∈ fp, FpOk X pins H' b := fun hn b hb => ⟨hn b hb, (f2 b hb).2⟩
  refine codeAny_forLoop_any (fun n s' => ∃ i σ' H', Inv X pins σ' H' s' ∧ tn i s'.heap ∧ (∀ b ∈ fp, H' b = none) ∧ W i n σ' H') ?_ m0 ⟨0, σ, H2, I2, st2, fun b hb => (f2 b hb).1, w0⟩
  rintro n s3 ⟨i, σ3, H3, I3, st3, fr3, w3⟩
  rcases turn i n σ3 H3 w3 with ⟨stop, qn⟩ | ⟨go, N, hN, step⟩
  · refine wpAny_passesOwn hp (thn (T.done X rfl rfl rfl hc i pins s3 σ3 H3 X.xe I3 (stat fr3) st3 stop) fun r s4 ⟨hr, I4⟩ => ?_)
    subst hr
    exact wpAny_execs_nil ⟨σ3, H3, I4, qn⟩
  · refine wpAny_passesOwn hp (thn (T.item X rfl rfl rfl hc i pins s3 σ3 H3 X.xe I3 (stat fr3) st3 go) fun r s4 ⟨u, hr, h4⟩ => ?_)
    subst hr
    refine wpAny_passesOwn hp (thn h4 fun _ s5 ⟨x, H5, I5, r5, y5, st5, fr5⟩ => ?_)
    have I5' := I5.pinned (stat fr5) (T.obj _ _ st5)
    refine wpAny_passesOwn hp (thn (hg _ s5 σ3 H5 x u _ I5' r5 (step x H5 y5)) fun _ s6 ⟨σ6, H6, I6, q6⟩ => ?_)
    refine wpAny_passesOwn hp (thn (hb _ s6 σ6 H6 _ I6 q6) fun f s7 q7 => ?_)
    have again : ∀ {σ7 : St} {H7 : Hp}, Inv X (pins ++ pinsAt fp s5.heap) σ7 H7 s7 → N σ7 H7 → ∃ m, m < n ∧ ∃ i σ' H', Inv X pins σ' H' s7 ∧ tn i s7.heap ∧ (∀ b ∈ fp, H' b = none) ∧ W i m σ' H' := fun {σ7 H7} I7 n7 => by
      obtain ⟨m', hm, w7⟩ := hN σ7 H7 n7
      refine ⟨m', hm, i + 1, σ7, H7, I7.unpinned, T.keep _ _ _ st5 fun b hb o e => (I7.pin (b, o) (List.mem_append_right _ (List.mem_append_right _ (mem_pinsAt hb e)))).1, fun b hb => ?_, w7⟩
      obtain ⟨o, e, d⟩ := T.obj _ _ st5 b hb
      exact (I7.pin (b, o) (List.mem_append_right _ (List.mem_append_right _ (mem_pinsAt hb e)))).2.1
    cases f with
    | next => obtain ⟨σ7, H7, I7, n7⟩ := q7; exact again I7 n7
    | cont => obtain ⟨σ7, H7, I7, n7⟩ := q7; exact again I7 n7
    | brk => obtain ⟨σ7, H7, I7, q7⟩ := q7; exact ⟨σ7, H7, I7.unpinned, q7⟩
    | ret v => obtain ⟨x7, σ7, H7, I7, r7, q7⟩ := q7; exact ⟨x7, σ7, H7, I7.unpinned, r7, q7⟩
end
theorem for_range {lo : Int} {n : Nat} {g : TG} {tb : TS} {D : Ends} {σ : St} {H : Hp} (Pv : Nat → St → Hp → Prop) (h0 : Pv 0 σ H)
    (hs : ∀ i σ H, i < n → Pv i σ H → g (.int (lo + i)) σ H fun σ2 H2 => tb { D with nx := Pv (i + 1), ct := Pv (i + 1), bk := D.nx } σ2 H2) (hd : ∀ σ H, Pv n σ H → D.nx σ H) :
    ∃ W : Nat → Nat → St → Hp → Prop, (∃ m, W 0 m σ H) ∧ ∀ i m σ H, W i m σ H →
      ((Itr lo n).stop i H ∧ D.nx σ H) ∨ ((Itr lo n).go i H ∧ ∃ N : St → Hp → Prop, (∀ σ' H', N σ' H' → ∃ m', m' < m ∧ W (i + 1) m' σ' H') ∧ ∀ x H', (Itr lo n).yld i H x H' → g x σ H' fun σ2 H2 => tb { D with nx := N, ct := N, bk := D.nx } σ2 H2) := by
  refine ⟨fun i m σ H => m = n - i ∧ i ≤ n ∧ Pv i σ H, ⟨n, by simp, Nat.zero_le _, h0⟩, ?_⟩
  rintro i m σ H ⟨rfl, hi, p⟩
  by_cases hlt : i < n
  · refine .inr ⟨hlt, Pv (i + 1), fun σ' H' p' => ⟨n - (i + 1), by omega, rfl, hlt, p'⟩, fun x H' y => ?_⟩
    obtain ⟨e, y⟩ := y
    subst e y
    exact hs i σ _ hlt p
  · have e : i = n := by omega
    subst e
    exact .inl ⟨Nat.le_refl _, hd σ H p⟩
end L2
namespace L2
open PySem PySem.Spec PyProof.Rows
abbrev R2 := V → V → Hp → VK → Prop
/-- a two-place operation on values: f is binaryOp op, inplaceOp op or compareOp op -/
def OpR (X : Cx) (f : Value → Value → Sem Value) (r : R2) : Prop :=
  ∀ (pins : List (Addr × Obj)) (s : Shared) (σ : St) (H : Hp) (x y : V) (v u : Value) (Q : VK), Inv X pins σ H s → RelV x v → RelV y u → r x y H Q →
    wpAny (model X.prog X.w) X.A (f v u) (EP X pins σ Q) X.xe s
/-- a call of a value that is known (a builtin, a type) with values -/
def CallR (X : Cx) (f : Value) (r : List V → Hp → VK → Prop) : Prop :=
  ∀ (pins : List (Addr × Obj)) (s : Shared) (σ : St) (H : Hp) (xs : List V) (us : List Value) (Q : VK), Inv X pins σ H s → Vals xs us → r xs H Q →
    wpAny (model X.prog X.w) X.A (call f us) (EP X pins σ Q) X.xe s
def tOp (r : R2) (ta tb : TE) : TE := fun σ H Q => ta σ H fun x H1 => tb σ H1 fun y H2 => r x y H2 Q
def tUn (r : V → Hp → VK → Prop) (ta : TE) : TE := fun σ H Q => ta σ H fun x H1 => r x H1 Q
/-- ints in, under C, and a value out -/
def rI (C : Int → Int → Prop) (g : Int → Int → V) : R2 := fun x y H Q => ∃ i j, x = .int i ∧ y = .int j ∧ C i j ∧ Q (g i j) H
def rI0 (g : Int → Int → V) : R2 := fun x y H Q => ∃ i j, x = .int i ∧ y = .int j ∧ Q (g i j) H
def rU (g : Int → V) : V → Hp → VK → Prop := fun x H Q => ∃ i, x = .int i ∧ Q (g i) H
section
variable {X : Cx} {a b c : Expr} {ta tb tc : TE} {pos : Pos}
theorem binT (ha : PE X a ta) (hb : PE X b tb) {pins : List (Addr × Obj)} {s : Shared} {σ : St} {H : Hp} {R : V → V → Hp → Prop} (I : Inv X pins σ H s)
    (h : ta σ H fun x H1 => tb σ H1 fun y H2 => R x y H2) {Q : Value → Shared → Prop} {f : Value → Value → Sem Value}
    (hf : ∀ v u s2 x y H2, Inv X pins σ H2 s2 → RelV x v → RelV y u → R x y H2 → wpAny (model X.prog X.w) X.A (f v u) Q X.xe s2) :
    wpAny (model X.prog X.w) X.A (eval a X.env) (fun v s₁ => wpAny (model X.prog X.w) X.A (eval b X.env) (fun u s₂ => wpAny (model X.prog X.w) X.A (f v u) Q X.xe s₂) X.xe s₁) X.xe s := by
  refine thn (ha pins s σ H _ I h) fun v s1 ⟨x, H1, I1, r1, q1⟩ => ?_
  refine thn (hb pins s1 σ H1 _ I1 q1) fun u s2 ⟨y, H2, I2, r2, q2⟩ => ?_
  exact hf v u s2 x y H2 I2 r1 r2 q2
theorem pe_op {op : Operator} {r : R2} (ho : OpR X (binaryOp op) r) (ha : PE X a ta) (hb : PE X b tb) : PE X (.BinOp a op b pos) (tOp r ta tb) := by
  intro pins s σ H Q I h
  exact wpAny_BinOp (binT ha hb I h fun v u s2 x y H2 I2 rx ry q => ho pins s2 σ H2 x y v u Q I2 rx ry q)
theorem opI {f : Value → Value → Sem Value} {C : Int → Int → Prop} {g : Int → Int → Int}
    (rule : ∀ (i j : Int) (t u : Tok) (s : Shared) (Q : Value → Shared → Prop) (E : Value → Shared → Prop), C i j → Q (.int (g i j) s.toks) { s with toks := s.toks + 1 } → wpAny (model X.prog X.w) X.A (f (.int i t) (.int j u)) Q E s) :
    OpR X f (rI C fun i j => .int (g i j)) := by
  intro pins s σ H x y v u Q I rx ry h
  obtain ⟨i, j, rfl, rfl, hc, q⟩ := h
  obtain ⟨t, rfl⟩ := rx
  obtain ⟨t', rfl⟩ := ry
  exact rule i j t t' s _ _ hc ⟨.int (g i j), H, I.tok _, ⟨_, rfl⟩, q⟩
theorem opI0 {f : Value → Value → Sem Value} {g : Int → Int → Int}
    (rule : ∀ (i j : Int) (t u : Tok) (s : Shared) (Q : Value → Shared → Prop) (E : Value → Shared → Prop), Q (.int (g i j) s.toks) { s with toks := s.toks + 1 } → wpAny (model X.prog X.w) X.A (f (.int i t) (.int j u)) Q E s) :
    OpR X f (rI0 fun i j => .int (g i j)) := by
  intro pins s σ H x y v u Q I rx ry h
  obtain ⟨i, j, rfl, rfl, q⟩ := h
  obtain ⟨t, rfl⟩ := rx
  obtain ⟨t', rfl⟩ := ry
  exact rule i j t t' s _ _ ⟨.int (g i j), H, I.tok _, ⟨_, rfl⟩, q⟩
def CDiv (i j : Int) : Prop := 0 < j ∧ j < 1073741824
def CPow (i j : Int) : Prop := 0 ≤ j ∧ j ≤ 1000000 ∧ i.natAbs < 2 ^ 64
def CMul (i j : Int) : Prop := (-(2 ^ 64) < i ∧ i < 2 ^ 64) ∨ (-(2 ^ 64) < j ∧ j < 2 ^ 64)
theorem CMul.ok {i j : Int} (h : CMul i j) : IntMulOk i j := by
  rcases h with ⟨h1, h2⟩ | ⟨h1, h2⟩
  · exact .of_left (intBits_le_64 h1 h2)
  · exact .of_right (intBits_le_64 h1 h2)
theorem op_add : OpR X (binaryOp .Add) (rI0 fun i j => .int (i + j)) := opI0 fun _ _ _ _ _ _ _ q => add_int q
theorem op_sub : OpR X (binaryOp .Sub) (rI0 fun i j => .int (i - j)) := opI0 fun _ _ _ _ _ _ _ q => sub_int q
theorem op_mul : OpR X (binaryOp .Mult) (rI CMul fun i j => .int (i * j)) := opI fun _ _ _ _ _ _ _ hc q => mul_int q hc.ok
/-- // by a positive divisor -/
theorem op_fdiv : OpR X (binaryOp .FloorDiv) (rI CDiv fun i j => .int (i / j)) := opI fun i j _ _ _ _ _ hc q => by
  have h1 : (0 : Int) < j := hc.1
  have h2 : j < 1073741824 := hc.2
  exact floordiv_int (by omega) (by rw [Int.fdiv_eq_ediv_of_nonneg i (by omega)]; exact q) (.inl (PyProof.noPylong_small (by omega)))
/-- % by a positive divisor of any size -/
theorem op_mod : OpR X (binaryOp .Mod) (rI (fun _ j => 0 < j) fun i j => .int (i % j)) := opI fun i j _ _ _ _ _ hc q => by
  have h1 : (0 : Int) < j := hc
  exact mod_int' (by omega) (by rw [Int.fmod_eq_emod_of_nonneg i (by omega)]; exact q)
end
/-- the scalars that == tells apart as data does -/
def scal : V → V → Bool
  | .non, .non => true | .non, .int _ => true | .int _, .non => true | .non, .bl _ => true | .bl _, .non => true | .non, .str _ => true | .str _, .non => true
  | .int _, .int _ => true | .bl _, .bl _ => true | .str _, .str _ => true | .byt _, .byt _ => true
  | .int _, .str _ => true | .str _, .int _ => true | .bl _, .str _ => true | .str _, .bl _ => true
  | _, _ => false
def rEq : R2 := fun x y H Q => scal x y = true ∧ Q (.bl (decide (x = y))) H
def rNe : R2 := fun x y H Q => scal x y = true ∧ Q (.bl (!decide (x = y))) H
theorem dec_int {i j : Int} : decide (V.int i = V.int j) = (i == j) := by
  rw [Bool.eq_iff_iff]
  simp
theorem dec_bl {i j : Bool} : decide (V.bl i = V.bl j) = (i == j) := by
  rw [Bool.eq_iff_iff]
  simp
theorem dec_str {i j : Str} : decide (V.str i = V.str j) = (i == j) := by
  rw [Bool.eq_iff_iff]
  simp
theorem dec_byt {i j : Array UInt8} : decide (V.byt i = V.byt j) = (i.toList == j.toList) := by
  rw [Bool.eq_iff_iff]
  cases i
  cases j
  simp
section
variable {X : Cx} {a b c : Expr} {ta tb tc : TE} {pos : Pos}
theorem fin_bl {pins : List (Addr × Obj)} {σ : St} {H : Hp} {s : Shared} {Q : VK} {k k' : Bool} (I : Inv X pins σ H s) (q : Q (.bl k) H) (e : k = k') : EP X pins σ Q (.bool k') s := by
  subst e
  exact ⟨.bl k, H, I, rfl, q⟩
theorem op_eq : OpR X (compareOp .Eq) rEq := by
  intro pins s σ H x y v u Q I rx ry h
  obtain ⟨hs, q⟩ := h
  cases x with
  | non =>
    cases rx
    cases y with
    | non => cases ry; exact PySem.EqNone.eq_none_none (fin_bl I q (by simp))
    | bl j => cases ry; exact PySem.EqNone.eq_none_bool (fin_bl I q (by simp))
    | int j => obtain ⟨t', rfl⟩ := ry; exact PySem.EqNone.eq_none_int (fin_bl I q (by simp))
    | str j => obtain ⟨t', rfl⟩ := ry; exact PySem.EqNone.eq_none_str (fin_bl I q (by simp))
    | _ => exact absurd (show false = true from hs) Bool.false_ne_true
  | bl i =>
    cases rx
    cases y with
    | non => cases ry; exact PySem.EqNone.eq_bool_none (fin_bl I q (by simp))
    | bl j => cases ry; exact eq_bool (fin_bl I q dec_bl)
    | str j => obtain ⟨t', rfl⟩ := ry; exact PySem.EqMixed.eq_bool_str (fin_bl I q (by simp))
    | _ => exact absurd (show false = true from hs) Bool.false_ne_true
  | int i =>
    obtain ⟨t, rfl⟩ := rx
    cases y with
    | non => cases ry; exact PySem.EqNone.eq_int_none (fin_bl I q (by simp))
    | int j => obtain ⟨t', rfl⟩ := ry; exact eq_int (fin_bl I q dec_int)
    | str j => obtain ⟨t', rfl⟩ := ry; exact PySem.EqMixed.eq_int_str (fin_bl I q (by simp))
    | _ => exact absurd (show false = true from hs) Bool.false_ne_true
  | str i =>
    obtain ⟨t, rfl⟩ := rx
    cases y with
    | non => cases ry; exact PySem.EqNone.eq_str_none (fin_bl I q (by simp))
    | bl j => cases ry; exact PySem.EqMixed.eq_str_bool (fin_bl I q (by simp))
    | int j => obtain ⟨t', rfl⟩ := ry; exact PySem.EqMixed.eq_str_int (fin_bl I q (by simp))
    | str j => obtain ⟨t', rfl⟩ := ry; exact eq_str (fin_bl I q dec_str)
    | _ => exact absurd (show false = true from hs) Bool.false_ne_true
  | byt i =>
    obtain ⟨t, rfl⟩ := rx
    cases y with
    | byt j => obtain ⟨t', rfl⟩ := ry; exact PySem.W.eq_bytes (fin_bl I q dec_byt)
    | _ => exact absurd (show false = true from hs) Bool.false_ne_true
  | _ => cases y <;> exact absurd (show false = true from hs) Bool.false_ne_true
theorem op_ne : OpR X (compareOp .NotEq) rNe := by
  intro pins s σ H x y v u Q I rx ry h
  obtain ⟨hs, q⟩ := h
  cases x with
  | non =>
    cases rx
    cases y with
    | non => cases ry; exact PySem.EqNone.ne_none_none (fin_bl I q (by simp))
    | bl j => cases ry; exact PySem.EqNone.ne_none_bool (fin_bl I q (by simp))
    | int j => obtain ⟨t', rfl⟩ := ry; exact PySem.EqNone.ne_none_int (fin_bl I q (by simp))
    | str j => obtain ⟨t', rfl⟩ := ry; exact PySem.EqNone.ne_none_str (fin_bl I q (by simp))
    | _ => exact absurd (show false = true from hs) Bool.false_ne_true
  | bl i =>
    cases rx
    cases y with
    | non => cases ry; exact PySem.EqNone.ne_bool_none (fin_bl I q (by simp))
    | bl j => cases ry; exact ne_bool (fin_bl I q (congrArg not dec_bl))
    | str j => obtain ⟨t', rfl⟩ := ry; exact PySem.EqMixed.ne_bool_str (fin_bl I q (by simp))
    | _ => exact absurd (show false = true from hs) Bool.false_ne_true
  | int i =>
    obtain ⟨t, rfl⟩ := rx
    cases y with
    | non => cases ry; exact PySem.EqNone.ne_int_none (fin_bl I q (by simp))
    | int j => obtain ⟨t', rfl⟩ := ry; exact ne_int (fin_bl I q (congrArg not dec_int))
    | str j => obtain ⟨t', rfl⟩ := ry; exact PySem.EqMixed.ne_int_str (fin_bl I q (by simp))
    | _ => exact absurd (show false = true from hs) Bool.false_ne_true
  | str i =>
    obtain ⟨t, rfl⟩ := rx
    cases y with
    | non => cases ry; exact PySem.EqNone.ne_str_none (fin_bl I q (by simp))
    | bl j => cases ry; exact PySem.EqMixed.ne_str_bool (fin_bl I q (by simp))
    | int j => obtain ⟨t', rfl⟩ := ry; exact PySem.EqMixed.ne_str_int (fin_bl I q (by simp))
    | str j => obtain ⟨t', rfl⟩ := ry; exact ne_str (fin_bl I q (congrArg not dec_str))
    | _ => exact absurd (show false = true from hs) Bool.false_ne_true
  | byt i =>
    obtain ⟨t, rfl⟩ := rx
    cases y with
    | byt j => obtain ⟨t', rfl⟩ := ry; exact PySem.W.ne_bytes (fin_bl I q (congrArg not dec_byt))
    | _ => exact absurd (show false = true from hs) Bool.false_ne_true
  | _ => cases y <;> exact absurd (show false = true from hs) Bool.false_ne_true
/-- two rules for one operation: by cases -/
theorem OpR.or {f : Value → Value → Sem Value} {r r' : R2} (h : OpR X f r) (h' : OpR X f r') : OpR X f (fun x y H Q => r x y H Q ∨ r' x y H Q) := by
  intro pins s σ H x y v u Q I rx ry q
  rcases q with q | q
  · exact h pins s σ H x y v u Q I rx ry q
  · exact h' pins s σ H x y v u Q I rx ry q
theorem nomark (b : Expr) {op : CmpOp} (h : op ≠ .In := by decide) (h2 : op ≠ .NotIn := by decide) : behindInMarks op b = false := by
  have e1 : (op == CmpOp.In) = false := by cases op <;> first | rfl | exact absurd rfl h
  have e2 : (op == CmpOp.NotIn) = false := by cases op <;> first | rfl | exact absurd rfl h2
  cases b <;> simp [behindInMarks, e1, e2]
/-- a comparison as a value; hm: nomark b, or (for in, not in) by with_unfolding_all rfl -/
theorem pe_cmpR {op : CmpOp} {r : R2} (ho : OpR X (compareOp op) r) (ha : PE X a ta) (hb : PE X b tb) (hm : behindInMarks op b = false) : PE X (.Compare a [op] [b] pos) (tOp r ta tb) := by
  intro pins s σ H Q I h
  exact wpAny_Compare1 (binT ha hb I h fun v u s2 x y H2 I2 rx ry q => ho pins s2 σ H2 x y v u Q I2 rx ry q) hm
/-- a reading of a value as a test -/
def tTest (t : TE) : TT := fun σ H Q => t σ H fun x H' => ∃ k, x = .bl k ∧ Q k H'
theorem pt_cmpR {op : CmpOp} {r : R2} (ho : OpR X (compareOp op) r) (ha : PE X a ta) (hb : PE X b tb) (hm : behindInMarks op b = false) : PT X (.Compare a [op] [b] pos) (tTest (tOp r ta tb)) := by
  intro pins s σ H Q I h
  refine wpAny_isTrue_Compare1 (thn (ha pins s σ H _ I h) fun v s1 ⟨x, H1, I1, r1, q1⟩ => thn (hb pins s1 σ H1 _ I1 q1) fun u s2 ⟨y, H2, I2, r2, q2⟩ =>
    thn (ho pins s2 σ H2 x y v u _ I2 r1 r2 q2) fun c s3 ⟨z, H3, I3, r3, k, e, q3⟩ => ?_) hm
  subst e
  cases r3
  exact wpAny_truthy_bool ⟨H3, I3, q3⟩
/-- a op1 b op2 c -/
def tChain (r r' : R2) (ta tb tc : TE) : TE := fun σ H Q => ta σ H fun x H1 => tb σ H1 fun y H2 => r x y H2 fun z H3 => ∃ k, z = .bl k ∧
  (if k = true then tc σ H3 fun w' H4 => r' y w' H4 Q else Q (.bl false) H3)
theorem line63 : (sizeLine : Nat) < 2 ^ 63 := by rw [sizeLine_eq]; decide
theorem op_add_str : OpR X (binaryOp .Add) (fun x y H Q => ∃ i j, x = .str i ∧ y = .str j ∧ i.length + j.length ≤ sizeLine ∧ Q (.str (i ++ j)) H) := by
  intro pins s σ H x y v u Q I rx ry h
  obtain ⟨i, j, rfl, rfl, hz, q⟩ := h
  obtain ⟨t, rfl⟩ := rx
  obtain ⟨t', rfl⟩ := ry
  exact add_str (fun t' tk => ⟨.str (i ++ j), H, I.tok _, ⟨_, rfl⟩, q⟩) hz
theorem vals1 {x : V} {us : List Value} (r : Vals [x] us) : ∃ u, us = [u] ∧ RelV x u := by
  cases r with
  | cons r1 r2 => cases r2; exact ⟨_, rfl, r1⟩
theorem vals2 {x y : V} {us : List Value} (r : Vals [x, y] us) : ∃ u w', us = [u, w'] ∧ RelV x u ∧ RelV y w' := by
  cases r with
  | cons r1 r2 =>
    cases r2 with
    | cons r3 r4 => cases r4; exact ⟨_, _, rfl, r1, r3⟩
end
end L2
namespace L2
open PySem PySem.Spec PyProof.Rows
structure ObjM (h : Heap) (x dx C : Addr) (mA : Str → Option Value) : Prop where
  obj : h.get? x = some (PySem.W.instObj C dx)
  ns : h.Ns1 dx mA
  ne : dx ≠ x
theorem lookIn_ns {h : Heap} {dx : Addr} {mA : Str → Option Value} (n : h.Ns1 dx mA) : ∃ od, h.get? dx = some od ∧ ∀ name, PySem.W.lookIn name od = some (mA name) := by
  obtain ⟨o, es, ep, ho, hd, hk, _, hm⟩ := n
  refine ⟨o, ho, fun name => ?_⟩
  have e := hm name
  unfold nsFind findBy at e
  rw [← Array.find?_toList] at e
  unfold PySem.W.lookIn
  rw [hd]
  dsimp only
  split
  · rename_i y q
    rw [q] at e
    exact congrArg some e
  · rename_i q
    rw [q] at e
    have a : es.toList.any (·.refKey) = false := by
      rw [List.any_eq_false]
      intro y hy
      obtain ⟨z, t, hkey⟩ := hk y (Array.mem_toList_iff.mp hy)
      simp [DictEntry.refKey, hkey]
    have a' : ¬ es.toList.any (·.refKey) = true := by rw [a]; exact Bool.false_ne_true
    rw [if_neg a']
    exact congrArg some e
theorem ObjM.look {h : Heap} {x dx C : Addr} {mA : Str → Option Value} (I : ObjM h x dx C mA) : ∃ od, PySem.W.InstAt h x (PySem.W.instObj C dx) C (some od) ∧ ∀ name, PySem.W.lookIn name od = some (mA name) :=
  let ⟨od, ho, hl⟩ := lookIn_ns I.ns
  ⟨od, ⟨I.obj, rfl, rfl, ho⟩, hl⟩
section
variable {prog : Program} {w : World} {A : Around} {E : Value → Shared → Prop} {s : Shared} {K : PySem.W.Frag} {x dx C f : Addr} {mA : Str → Option Value} {name : Str} {v : Value}
end
theorem RelO.none_of {o : Option Value} (r : RelO none o) : o = none := by
  cases o with
  | none => rfl
  | some u => exact (show False from r).elim
section
variable {P : Program} {w : World} {H H' : Hp} {h h' : Heap} {a C dx : Addr} {fs fs' : List (Str × V)}
theorem ins_get (hok : HOk P w H h) (e : H a = some (.ins C dx fs)) : ∃ mA, ObjM h a dx C mA ∧ (∀ f, RelO (fs.lookup f) (mA f)) ∧ PySem.Within mA (fs.map (·.1)) ∧ fs.length ≤ 1000 ∧ H dx = some (.own a) := by
  obtain ⟨d, z, ne, ob, mA, n, r, q⟩ := (show ObjOk P w H h a (.ins C dx fs) from hok a _ e)
  exact ⟨mA, ⟨ob, n, ne⟩, r, q, z, d⟩
end
structure Cls (K : PySem.W.Frag) (C : Addr) : Prop where
  pg : PySem.W.plainGet K C Str.empty = true
  hd : PySem.W.hasDictIn K C = true
  po : PySem.W.plainOver K C = true
  sa : PySem.W.findIn K (.ref C) "__setattr__" = some (some (.builtin "object.__setattr__"))
theorem Cls.get {K : PySem.W.Frag} {C : Addr} (c : Cls K C) (f : Str) : PySem.W.plainGet K C f = true := c.pg
/-- a constant of the class -/
structure Con (K : PySem.W.Frag) (C : Addr) (f : Str) (v : V) (u : Value) : Prop where
  at_ : PySem.W.findIn K (.ref C) f = some (some u)
  rel : RelV v u
  get : PySem.W.specialIn K u "__get__" = some none
  cp : PySem.W.copiedNames.contains f = false
/-- a method: a plain def of the class or of one above it -/
structure Meth (K : PySem.W.Frag) (C : Addr) (m : Str) (f : Addr) : Prop where
  at_ : PySem.W.findIn K (.ref C) m = some (some (.ref f))
  fn : PySem.W.isFn K (.ref f) = true
  kp : PySem.W.keepIn K (.ref f) = true
section
variable {X : Cx} {pins : List (Addr × Obj)} {σ : St} {H : Hp} {s : Shared} {a C dx : Addr} {fs : List (Str × V)} {f : Str} {v : V} {A : Around} {E : Value → Shared → Prop}
/-- a new instance, tracked, without attributes -/
theorem Inv.made (I : Inv X pins σ H s) : Inv X pins σ (upd (upd H s.heap.objs.size (.own (s.heap.objs.size + 1))) (s.heap.objs.size + 1) (.ins C s.heap.objs.size []))
    { s with heap := (s.heap.push PySem.W.emptyDict).push (PySem.W.instObj C s.heap.objs.size) } := by
  have e1 : (s.heap.push PySem.W.emptyDict).get? s.heap.objs.size = some PySem.W.emptyDict := Heap.get?_push_size s.heap rfl
  have e2 : ((s.heap.push PySem.W.emptyDict).push (PySem.W.instObj C s.heap.objs.size)).get? (s.heap.objs.size + 1) = some (PySem.W.instObj C s.heap.objs.size) := by
    have := Heap.get?_push_size (s.heap.push PySem.W.emptyDict) (o := PySem.W.instObj C s.heap.objs.size) rfl
    rwa [Heap.size_push] at this
  have e3 : (s.heap.push PySem.W.emptyDict).Ns s.heap.objs.size (fun _ => none) := ⟨PySem.W.emptyDict, #[], _, e1, rfl, (fun e he => absurd he (by simp)), fun _ => rfl⟩
  have I1 := I.laid (a := s.heap.objs.size) (o := .own (s.heap.objs.size + 1)) (h' := s.heap.push PySem.W.emptyDict) (t' := s.toks) (fun b u q => Heap.get?_push_of_some _ q) (Nat.le_refl _) ⟨_, e1⟩
  refine I1.laid (a := s.heap.objs.size + 1) (o := .ins C s.heap.objs.size []) (t' := s.toks) (fun b u q => Heap.get?_push_of_some _ q) (Nat.le_of_eq (Heap.size_push _ _)) ?_
  have ne : s.heap.objs.size ≠ s.heap.objs.size + 1 := Nat.ne_of_lt (Nat.lt_succ_self _)
  refine ⟨by rw [upd_ne ne, upd_same], Nat.zero_le _, ne, e2, fun _ => none, (Heap.Ns1.of_empty e3).at fun o q => Heap.get?_push_of_some _ q, fun _ => True.intro, fun y hy => absurd rfl hy⟩
/-- e.f where nothing but the object is asked: through attributeBase (super) and the last hold -/
theorem attr_of {prog : Program} {w : World} {env : Env} {e : Expr} {f : Str} {pos : Pos} {s : Shared} {Q : Value → Shared → Prop} (hb : attributeBase e f env (eval e env) = eval e env)
    (h : wpAny (model prog w) A (eval e env) (fun o s₁ => wpAny (model prog w) A (getAttr o f true) Q E s₁) E s) : wpAny (model prog w) A (eval (.Attribute e f pos) env) Q E s :=
  Attribute_any_ h (by rw [arm_eval_Attribute, hb])
end
section
variable {X : Cx} {o e value : Expr} {f : Str} {pos pos' tpos : Pos} {ta tv : TE}
end
section
variable {X : Cx} {pins : List (Addr × Obj)} {σ : St} {H : Hp} {s : Shared} {A : Around} {E : Value → Shared → Prop} {Q : Value → Shared → Prop} {c : Value} {b : Bool}
/-- the type of a value, as the fragment's deciders take it; for an instance its class -/
inductive TyOf (K : PySem.W.Frag) (H : Hp) : V → Value → Prop where
  | non : TyOf K H .non (.type "NoneType")
  | bl (x : Bool) : TyOf K H (.bl x) (.type "bool")
  | int (i : Int) : TyOf K H (.int i) (.type "int")
  | str (x : Str) : TyOf K H (.str x) (.type "str")
  | flt (x : UInt64) : TyOf K H (.flt x) (.type "float")
  | lst {a : Addr} {xs : List V} (e : H a = some (.lst xs)) : TyOf K H (.ref a) (.type "list")
  | frz {a : Addr} {o : Obj} {xs : List V} (e : H a = some (.frz o (.lst xs))) : TyOf K H (.ref a) (.type "list")
  | tup {a : Addr} {xs : List V} (e : H a = some (.tup xs)) : TyOf K H (.ref a) (.type "tuple")
  | dK {a : Addr} {kvs : List (Key × V)} (e : H a = some (.dK kvs)) : TyOf K H (.ref a) (.type "dict")
  | dT {a : Addr} {kvs : List (List Key × V)} (e : H a = some (.dT kvs)) : TyOf K H (.ref a) (.type "dict")
  | ins {a C dx : Addr} {fs : List (Str × V)} (e : H a = some (.ins C dx fs)) (cl : Cls K C) (ha : PySem.W.findIn K (.ref C) "__class__" = some (some (.builtin "object.__class__")))
      (hn : PySem.W.specialIn K (.builtin "object.__class__") "__get__" = some (some (.builtin "getset_descriptor.__get__"))) (htk : PySem.W.takesIn K (.builtin "object.__class__") = some true)
      (hm : PySem.W.mroIn K C (.type "object") = some true) : TyOf K H (.ref a) (.ref C)
/-- isinstance(x, c) for one class c, a built-in or an own one: kitOne's answer -/
theorem isinst_ok {x : V} {u t : Value} (I : Inv X pins σ H s) (rx : RelV x u) (ty : TyOf X.K H x t) (e : PySem.W.kitOne X.K t c = some b) (h : ∀ tk, Q (.bool b) { s with toks := tk }) :
    wpAny (model X.prog X.w) A (call (.builtin "isinstance") [u, c]) Q E s := by
  cases ty with
  | non => cases (show u = Value.none from rx); exact PySem.W.kia_one PySem.W.kitx_none I.kIn True.intro e (fun z => nomatch z) h
  | bl y => cases (show u = Value.bool y from rx); exact PySem.W.kia_one PySem.W.kitx_bool I.kIn True.intro e (fun z => nomatch z) h
  | int i => obtain ⟨t, q⟩ := (show ∃ t, u = Value.int i t from rx); cases q; exact PySem.W.kia_one PySem.W.kitx_int I.kIn True.intro e (fun z => nomatch z) h
  | str y => obtain ⟨t, q⟩ := (show ∃ t, u = Value.str y t from rx); cases q; exact PySem.W.kia_one PySem.W.kitx_str I.kIn True.intro e (fun z => nomatch z) h
  | flt y => obtain ⟨t, q⟩ := (show ∃ t, u = Value.float y t from rx); cases q; exact PySem.W.kia_one PySem.W.kitx_float I.kIn True.intro e (fun z => nomatch z) h
  | @lst a xs ea =>
    cases (show u = Value.ref a from rx)
    obtain ⟨_, _, n, _, h1⟩ := (show ObjOk X.prog X.w H s.heap a (.lst xs) from I.hok a _ ea)
    exact PySem.W.kia_one PySem.W.kitx_list I.kIn ⟨_, h1, rfl⟩ e (fun z => nomatch z) h
  | @frz a ob xs ea =>
    cases (show u = Value.ref a from rx)
    obtain ⟨_, _, _, n, _, h1⟩ := (show ObjOk X.prog X.w H s.heap a (.frz ob (.lst xs)) from I.hok a _ ea)
    exact PySem.W.kia_one PySem.W.kitx_list I.kIn ⟨_, h1, rfl⟩ e (fun z => nomatch z) h
  | @tup a xs ea =>
    cases (show u = Value.ref a from rx)
    obtain ⟨_, _, _, p⟩ := (show ObjOk X.prog X.w H s.heap a (.tup xs) from I.hok a _ ea)
    obtain ⟨o, h1, h2, _⟩ := p
    exact PySem.W.kia_one PySem.W.kitx_tuple I.kIn ⟨o, h1, h2⟩ e (fun z => nomatch z) h
  | @dK a kvs ea =>
    cases (show u = Value.ref a from rx)
    obtain ⟨_, _, vs, _, p⟩ := (show ObjOk X.prog X.w H s.heap a (.dK kvs) from I.hok a _ ea)
    obtain ⟨o, es, ep, h1, h2, _⟩ := p
    exact PySem.W.kia_one PySem.W.kitx_dict I.kIn ⟨o, h1, h2.1⟩ e (fun z => nomatch z) h
  | @dT a kvs ea =>
    cases (show u = Value.ref a from rx)
    obtain ⟨_, _, xs, _, o, es, ep, h1, h2, _⟩ := (show ObjOk X.prog X.w H s.heap a (.dT kvs) from I.hok a _ ea)
    exact PySem.W.kia_one PySem.W.kitx_dict I.kIn ⟨o, h1, h2.1⟩ e (fun z => nomatch z) h
  | @ins a C dx fs ea cl ha hn htk hm =>
    cases (show u = Value.ref a from rx)
    obtain ⟨mA, O, _⟩ := ins_get I.hok ea
    obtain ⟨od, J, _⟩ := O.look
    exact PySem.W.kia_one (PySem.W.kitx_own (cl.get _) cl.hd ha hn htk hm) I.kIn J e (fun z => nomatch z) h
end
end L2
namespace L2
open PySem PySem.Spec PyProof.Rows
structure Room (k : Nat) (A : Around) : Prop where
  hd : A.handled = none
  dp : A.depth + 3 * k + 5 < recursionLimit
  un : A.units + 16 * k + 200 < cLine
theorem Room.mono {j k : Nat} {A : Around} (r : Room k A) (h : j ≤ k) : Room j A := ⟨r.hd, by have := r.dp; omega, by have := r.un; omega⟩
theorem Room.deeper {k : Nat} {A : Around} (r : Room (k + 1) A) (env : Env) : Room k (A.deeper env) :=
  ⟨r.hd, by have := r.dp; show A.depth + 1 + 3 * k + 5 < _; omega, by have := r.un; show A.units + 3 + 16 * k + 200 < _; omega⟩
theorem Room.in1 {k : Nat} {A : Around} (r : Room (k + 1) A) : Room k A.in1 :=
  ⟨r.hd, by have := r.dp; show A.depth + 3 * k + 5 < _; omega, by have := r.un; show A.units + 1 + 16 * k + 200 < _; omega⟩
theorem make_depth {A : Around} {C : Addr} {us : List Value} {kw : List (Str × Value)} : (A.under (.builtin "type.__call__" ⟨.ref C :: us, kw⟩)).depth = A.depth + 1 := by
  first | rfl | simp [Around.under, Code.weight, Code.isCreation, Code.isGuard, Code.isCaller, Code.frames, Code.isFrame, guardIds]
theorem make_units {A : Around} {C : Addr} {us : List Value} {kw : List (Str × Value)} : (A.under (.builtin "type.__call__" ⟨.ref C :: us, kw⟩)).units = A.units + 1 := by
  first | rfl | simp [Around.under, Code.cUnits, Code.frames, Code.isFrame]
theorem Room.make {k : Nat} {A : Around} (r : Room (k + 1) A) (C : Addr) (us : List Value) (kw : List (Str × Value)) : Room k (A.under (.builtin "type.__call__" ⟨.ref C :: us, kw⟩)) :=
  ⟨r.hd, by have := r.dp; rw [make_depth]; omega, by have := r.un; rw [make_units]; omega⟩
theorem Room.depth {k : Nat} {A : Around} (r : Room k A) : A.depth < recursionLimit := by have := r.dp; omega
theorem Room.units {k : Nat} {A : Around} (r : Room k A) : A.units + 64 < cLine := by have := r.un; omega
theorem Room.units0 {k : Nat} {A : Around} (r : Room k A) : A.units < cLine := by have := r.un; omega
def tNil : TA := fun _ H Q => Q [] H
def tCons (ta : TE) (tr : TA) : TA := fun σ H Q => ta σ H fun x H1 => tr σ H1 fun xs H2 => Q (x :: xs) H2
section
variable {X : Cx} {e : Expr} {es : List Expr} {te : TE} {t : TA} {pos : Pos}
theorem pa_nil : PA X [] tNil := fun _ _ _ _ H Q I h => Calls.spliced_nil ⟨[], H, I, .nil, h⟩
theorem pa_cons (ha : PE X e te) (hr : PA X es t) (hs : starEach (e :: es) X.env = (false, eval e X.env) :: starEach es X.env := by rfl) : PA X (e :: es) (tCons te t) := by
  intro pos pins s σ H Q I h
  rw [hs]
  show wpAny _ _ (spliced ((false, eval e X.env) :: backTo pos (starEach es X.env))) _ _ s
  refine Calls.spliced_cons (thn (ha pins s σ H _ I h) fun u s1 ⟨x, H1, I1, r1, q1⟩ => ?_)
  exact thn (hr pos pins s1 σ H1 _ I1 q1) fun us s2 ⟨xs, H2, I2, r2, q2⟩ => ⟨x :: xs, H2, I2, .cons r1 r2, q2⟩
/-- a tuple, a list of written items -/
def tTup (t : TA) : TE := fun σ H Q => t σ H fun xs H1 => xs.length ≤ sizeLine ∧ ∀ p, H1 p = none → Q (.ref p) (upd H1 p (.tup xs))
def tLst (t : TA) : TE := fun σ H Q => t σ H fun xs H1 => xs.length ≤ sizeLine ∧ ∀ p, H1 p = none → Q (.ref p) (upd H1 p (.lst xs))
theorem pe_tup {x1} (h : PA X es t) : PE X (.Tuple es x1 pos) (tTup t) := by
  intro pins s σ H Q I hq
  refine wpAny_Tuple_spliced (thn (h pos pins s σ H _ I hq) fun us s1 ⟨xs, H1, I1, r, z, q⟩ => ⟨by rw [← r.length]; exact z, ?_⟩)
  have hf : H1 s1.heap.objs.size = none := I1.hok.fresh (Nat.le_refl _)
  refine ⟨.ref s1.heap.objs.size, upd H1 s1.heap.objs.size (.tup xs), I1.laid (t' := s1.toks) (fun b u e => Heap.get?_push_of_some _ e) (Nat.le_refl _) ?_, rfl, q _ hf⟩
  exact ⟨z, us, r, ⟨_, Heap.get?_push_size _ rfl, rfl, _, rfl⟩⟩
theorem pe_lst (h : PA X es t) : PE X (.List es pos) (tLst t) := by
  intro pins s σ H Q I hq
  refine wpAny_List_spliced (thn (h pos pins s σ H _ I hq) fun us s1 ⟨xs, H1, I1, r, z, q⟩ => ⟨by rw [← r.length]; exact z, ?_⟩)
  have hf : H1 s1.heap.objs.size = none := I1.hok.fresh (Nat.le_refl _)
  refine ⟨.ref s1.heap.objs.size, upd H1 s1.heap.objs.size (.lst xs), I1.laid (t' := s1.toks) (fun b u e => Heap.get?_push_of_some _ e) (Nat.le_refl _) ?_, rfl, q _ hf⟩
  exact ⟨z, us, 0, r, Heap.get?_push_size _ rfl⟩
end
/-- a def's promise: the bound arguments in the parameters' order, the heap, the wanted end, the wanted exception -/
abbrev Sp := List V → Hp → VK → XK → Prop
/-- how an exception lies behind a call (file 08 gives it): the callers' frames, abstract heap and state ahead of the call, the wish, the exception, the state -/
abbrev CXT := List Env → Hp → Shared → XK → Value → Shared → Prop
/-- the state at a call -/
structure Env0 (P : Program) (w : World) (K : PySem.W.Frag) (mg : Str → Option Value) (base : Heap) (A : Around) (outer : List Env) (s : Shared) (H : Hp) : Prop where
  frames : A.frames = some outer
  mod : Mod K mg base
  bs : ∀ b o, base.get? b = some o → s.heap.get? b = some o ∧ H b = none
  bsz : base.objs.size ≤ s.heap.objs.size
  funs : s.heap.FunFrames base outer
  frf : ∀ b ∈ frs outer, H b = none
  hok : HOk P w H s.heap
  bare : AllBare s.gens
/-- a call's end -/
def CE (outer : List Env) (P : Program) (w : World) (H : Hp) (s : Shared) (Q : VK) (u : Value) (s' : Shared) : Prop :=
  ∃ v H', s'.os = s.os ∧ AllBare s'.gens ∧ Un (frs outer) [] H H' s.heap s'.heap ∧ HOk P w H' s'.heap ∧ RelV v u ∧ Q v H'
def CR (CX : CXT) (outer : List Env) (P : Program) (w : World) (H : Hp) (s : Shared) (Q : VK) (E : XK) (r : Result) (s' : Shared) : Prop :=
  match r with
  | .ok (.ret u) => CE outer P w H s Q u s'
  | .ok _ => False
  | .error e => CX outer H s E e s'
structure FnOk (P : Program) (w : World) (K : PySem.W.Frag) (mg : Str → Option Value) (base : Heap) (CX : CXT) (k : Nat) (f : Addr) (fd : FuncData) (ps : List Str) (sp : Sp) : Prop where
  len : ∀ vs H Q E, sp vs H Q E → vs.length = ps.length
  run : ∀ (A : Around) (outer : List Env) (s : Shared) (H : Hp) (args : Args) (us : List Value) (vs : List V) (Q : VK) (E : XK), Room k A → Env0 P w K mg base A outer s H → BindsTo s fd args (ps.zip us) → Vals vs us → sp vs H Q E →
    codeAny (model P w) A (.call (.ref f) args) (CR CX outer P w H s Q E) s
theorem FnOk.mono {P : Program} {w : World} {K : PySem.W.Frag} {mg : Str → Option Value} {base : Heap} {CX : CXT} {j k : Nat} {f : Addr} {fd : FuncData} {ps : List Str} {sp : Sp} (F : FnOk P w K mg base CX j f fd ps sp) (h : j ≤ k) :
    FnOk P w K mg base CX k f fd ps sp := ⟨F.len, fun A outer s H args us vs Q E hr => F.run A outer s H args us vs Q E (hr.mono h)⟩
/-- a weaker promise -/
theorem FnOk.imp {P : Program} {w : World} {K : PySem.W.Frag} {mg : Str → Option Value} {base : Heap} {CX : CXT} {k : Nat} {f : Addr} {fd : FuncData} {ps : List Str} {sp sp' : Sp} (F : FnOk P w K mg base CX k f fd ps sp)
    (h : ∀ vs H Q E, sp' vs H Q E → sp vs H Q E) : FnOk P w K mg base CX k f fd ps sp' :=
  ⟨fun vs H Q E q => F.len vs H Q E (h _ _ _ _ q), fun A outer s H args us vs Q E hr he hb hv hs => F.run A outer s H args us vs Q E hr he hb hv (h _ _ _ _ hs)⟩
theorem Env0.make {P : Program} {w : World} {K : PySem.W.Frag} {mg : Str → Option Value} {base : Heap} {A : Around} {outer : List Env} {s : Shared} {H : Hp} (e : Env0 P w K mg base A outer s H) (C : Addr) (us : List Value) (kw : List (Str × Value)) :
    Env0 P w K mg base (A.under (.builtin "type.__call__" ⟨.ref C :: us, kw⟩)) outer s H := ⟨by first | exact e.frames | (simpa [Around.under, Code.envs, Code.isFrame, pushEnvs] using e.frames), e.mod, e.bs, e.bsz, e.funs, e.frf, e.hok, e.bare⟩
theorem Env0.in1 {P : Program} {w : World} {K : PySem.W.Frag} {mg : Str → Option Value} {base : Heap} {A : Around} {outer : List Env} {s : Shared} {H : Hp} (e : Env0 P w K mg base A outer s H) :
    Env0 P w K mg base A.in1 outer s H := ⟨e.frames, e.mod, e.bs, e.bsz, e.funs, e.frf, e.hok, e.bare⟩
section
variable {X : Cx} {pins : List (Addr × Obj)} {σ : St} {H : Hp} {s s' : Shared}
/-- from a body: what a callee wants -/
theorem Inv.env0 (I : Inv X pins σ H s) : Env0 X.prog X.w X.K X.mg X.base X.A X.stack s H :=
  ⟨I.ok.frames, I.ok.mod, I.bs, Nat.le_trans I.ok.bsz I.sz, I.stack, I.stkFree, I.hok, I.bare⟩
/-- behind a call -/
theorem Inv.after {Q : VK} {u : Value} (I : Inv X pins σ H s) (h : CE X.stack X.prog X.w H s Q u s') : EP X pins σ Q u s' := by
  obtain ⟨v, H', os, bare, un, hok, r, q⟩ := h
  obtain ⟨hh, g, d, t, os'⟩ := s'
  obtain rfl : os' = s.os := os
  exact ⟨v, H', I.call (h' := hh) (g' := g) (d' := d) (t' := t) (ch := []) un hok bare (fun b z => absurd z (by simp)), r, q⟩
end
/-- f(..): the written arguments, then the defaults dvs; E: what is wanted of an exception -/
def tCall (sp : Sp) (dvs : List V) (E : XK) (t : TA) : TE := fun σ H Q => t σ H fun vs H1 => sp (vs ++ dvs) H1 Q E
/-- how the parameters are bound: us the positional arguments, kw the keywords' values by name, ds the defaults that fill up -/
def Binds (K : PySem.W.Frag) (fd : FuncData) (ps : List Str) (ds : List Value) : Prop :=
  ∀ (s : Shared) (us : List Value), K.In s.heap → (us ++ ds).length = ps.length → BindsTo s fd ⟨us, []⟩ (ps.zip (us ++ ds))
/-- every parameter is given -/
theorem Binds.all {K : PySem.W.Frag} {fd : FuncData} {ps : List Str} (h : ∀ us : List Value, us.length = ps.length → bindArgs fd ⟨us, []⟩ = pure (ps.zip us)) : Binds K fd ps [] := fun s us _ hl => by
  rw [List.append_nil] at hl ⊢
  exact .of_eq (h us hl)
/-- an exception of a callee reaches what this body wants of exceptions -/
def Passes (CX : CXT) (X : Cx) (E : XK) : Prop := ∀ (pins : List (Addr × Obj)) (σ : St) (H : Hp) (s : Shared) (e : Value) (s' : Shared), Inv X pins σ H s → CX X.stack H s E e s' → X.xe e s'
section
variable {X : Cx} {CX : CXT} {k : Nat} {f C : Addr} {fd : FuncData} {ps : List Str} {sp : Sp} {dvs : List V} {ds : List Value} {E : XK} {x m : Str} {p pos apos : Pos} {e o : Expr} {es : List Expr} {ta : TE} {t : TA}
/-- the callee runs -/
theorem run_fn {pins : List (Addr × Obj)} {σ : St} {H : Hp} {s : Shared} {Q : VK} {us : List Value} {vs : List V} (F : FnOk X.prog X.w X.K X.mg X.base CX k f fd ps sp) (hr : Room k X.A) (hb : Binds X.K fd ps ds) (hd : Vals dvs ds) (hx : Passes CX X E)
    (I : Inv X pins σ H s) (r : Vals vs us) (h : sp (vs ++ dvs) H Q E) : wpAny (model X.prog X.w) X.A (call (.ref f) us) (EP X pins σ Q) X.xe s := by
  have r2 : Vals (vs ++ dvs) (us ++ ds) := r.append hd
  have hl : (us ++ ds).length = ps.length := by rw [← r2.length]; exact F.len _ _ _ _ h
  refine wpAny_call (codeAny_mono (F.run X.A X.stack s H ⟨us, []⟩ (us ++ ds) (vs ++ dvs) Q E hr I.env0 (hb s us I.kIn hl) r2 h) fun r s' hq => ?_)
  cases r with
  | error e => exact hx pins σ H s e s' I hq
  | ok fl =>
    cases fl with
    | ret u => exact I.after hq
    | next => exact False.elim hq
    | brk => exact False.elim hq
    | cont => exact False.elim hq
theorem pe_call (F : FnOk X.prog X.w X.K X.mg X.base CX k f fd ps sp) (hr : Room k X.A) (hg : Gl X x) (hm : X.mg x = some (.ref f)) (hk : PySem.W.keepIn X.K (.ref f) = true) (hb : Binds X.K fd ps ds) (hd : Vals dvs ds) (hx : Passes CX X E)
    (ha : PA X (e :: es) t) (hdb : (x == ("__debug__" : Str)) = false := by decide) (he : starEach (e :: es) X.env = (false, eval e X.env) :: starEach es X.env := by rfl) (hpl : (backTo pos (starEach es X.env)).any (·.1) = false := by rfl) :
    PE X (.Call (.Name x p) (e :: es) [] pos) (tCall sp dvs E t) := by
  intro pins s σ H Q I h
  refine wpAny_Call_Name_kw (ld_glob I hg hm ?_ hdb)
  refine PySem.W.callWith_K (h₀ := X.base) I.ok.mod.kin hk (thn (ha pos pins s σ H _ I h) fun us s1 ⟨vs, H1, I1, r, q⟩ => ⟨I1.kIn, ?_⟩) he hpl
  exact run_fn F hr hb hd hx I1 r q
theorem pe_call0 (F : FnOk X.prog X.w X.K X.mg X.base CX k f fd ps sp) (hr : Room k X.A) (hg : Gl X x) (hm : X.mg x = some (.ref f)) (hk : PySem.W.keepIn X.K (.ref f) = true) (hb : Binds X.K fd ps ds) (hd : Vals dvs ds) (hx : Passes CX X E)
    (hdb : (x == ("__debug__" : Str)) = false := by decide) : PE X (.Call (.Name x p) [] [] pos) (tCall sp dvs E tNil) := by
  intro pins s σ H Q I h
  refine wpAny_Call_Name_kw (ld_glob I hg hm ?_ hdb)
  exact PySem.W.callWith_K0 I.kIn hk (run_fn (us := []) F hr hb hd hx I .nil h)
/-- what a class must have to be made -/
structure Mk (K : PySem.W.Frag) (C f : Addr) : Prop where
  makes : PySem.W.makesIn K C = true
  init : PySem.W.findIn K (.ref C) "__init__" = some (some (.ref f))
  fn : PySem.W.isFn K (.ref f) = true
  kp : PySem.W.keepIn K (.ref C) = true
end
section
variable {X : Cx} {CX : CXT} {k : Nat} {f C : Addr} {fd : FuncData} {ps ks : List Str} {sp : Sp} {E : XK} {x m : Str} {p pos apos kpos : Pos} {e o : Expr} {es : List Expr} {kws : List Keyword} {te ta : TE} {t tk : TA} {nm : Option Str}
/-- how a call with keywords binds: g puts the positional values us and the keywords' values ws (names ks) in the parameters' order, defaults among them -/
structure KBinds (K : PySem.W.Frag) (fd : FuncData) (ps ks : List Str) (g : List Value → List Value → List Value) (gV : List V → List V → List V) : Prop where
  to : ∀ (s : Shared) (us ws : List Value), K.In s.heap → (g us ws).length = ps.length → BindsTo s fd ⟨us, ks.zip ws⟩ (ps.zip (g us ws))
  rel : ∀ {vs : List V} {us : List Value} {zs : List V} {ws : List Value}, Vals vs us → Vals zs ws → Vals (gV vs zs) (g us ws)
variable {g : List Value → List Value → List Value} {gV : List V → List V → List V}
end
/-- names: the parameters first -/
structure FnScope (N P : List Str) (sc : Scope) : Prop where
  kind : sc.kind = .function
  co : sc.isCoroutine = false
  gen : sc.isGenerator = false
  nd : N.Nodup
  pre : N.take P.length = P
  par : ∀ x ∈ P, sc.names.lookup x = some .local ∨ sc.names.lookup x = some .cell
  nofree : ∀ y ∈ sc.names, y.2 ≠ .free
theorem bindL_out {kindOf : Str → Option NameKind} {x : Str} : ∀ {binds : List (Str × Value)} {m : Str → Option Value}, (∀ v, (x, v) ∉ binds) → bindL kindOf binds m x = m x
  | [], _, _ => rfl
  | (n, v) :: r, m, h => by
    unfold bindL
    rw [bindL_out fun w hw => h w (List.mem_cons_of_mem _ hw)]
    split
    · have : x ≠ n := by rintro rfl; exact h v List.mem_cons_self
      simp [this]
    · rfl
theorem bindC_out {kindOf : Str → Option NameKind} {x : Str} : ∀ {binds : List (Str × Value)} {m : Str → Option Value}, (∀ v, (x, v) ∉ binds) → bindC kindOf binds m x = m x
  | [], _, _ => rfl
  | (n, v) :: r, m, h => by
    unfold bindC
    rw [bindC_out fun w hw => h w (List.mem_cons_of_mem _ hw)]
    split
    · rfl
    · have : x ≠ n := by rintro rfl; exact h v List.mem_cons_self
      simp [this]
theorem bindL_get {kindOf : Str → Option NameKind} {x : Str} {v : Value} : ∀ {P : List Str} {vs : List Value} {i : Nat} {m : Str → Option Value}, P.Nodup → P[i]? = some x → vs[i]? = some v → kindOf x = some .local →
    bindL kindOf (P.zip vs) m x = some v
  | [], _, _, _, _, h, _, _ => by simp at h
  | _ :: _, [], _, _, _, _, h, _ => by simp at h
  | p :: P, w :: vs, 0, m, nd, h1, h2, hk => by
    simp at h1 h2; subst h1; subst h2
    show bindL kindOf ((p, w) :: P.zip vs) m p = _
    unfold bindL
    rw [bindL_out fun v hv => (List.nodup_cons.mp nd).1 (List.of_mem_zip hv).1, if_pos hk]
    simp
  | p :: P, w :: vs, i + 1, m, nd, h1, h2, hk => by
    show bindL kindOf ((p, w) :: P.zip vs) m x = _
    unfold bindL
    exact bindL_get (i := i) (List.nodup_cons.mp nd).2 (by simpa using h1) (by simpa using h2) hk
theorem bindC_get {kindOf : Str → Option NameKind} {x : Str} {v : Value} : ∀ {P : List Str} {vs : List Value} {i : Nat} {m : Str → Option Value}, P.Nodup → P[i]? = some x → vs[i]? = some v → kindOf x ≠ some .local →
    bindC kindOf (P.zip vs) m x = some v
  | [], _, _, _, _, h, _, _ => by simp at h
  | _ :: _, [], _, _, _, _, h, _ => by simp at h
  | p :: P, w :: vs, 0, m, nd, h1, h2, hk => by
    simp at h1 h2; subst h1; subst h2
    show bindC kindOf ((p, w) :: P.zip vs) m p = _
    unfold bindC
    rw [bindC_out fun v hv => (List.nodup_cons.mp nd).1 (List.of_mem_zip hv).1, if_neg hk]
    simp
  | p :: P, w :: vs, i + 1, m, nd, h1, h2, hk => by
    show bindC kindOf ((p, w) :: P.zip vs) m x = _
    unfold bindC
    exact bindC_get (i := i) (List.nodup_cons.mp nd).2 (by simpa using h1) (by simpa using h2) hk
/-- the names' values at the entry -/
def start (N : List Str) (vs : List V) : St := vs.map some ++ List.replicate (N.length - vs.length) none
/-- the context of a def's body, at its entry; an exception leaves the frame, then lies as CX says -/
def cxOf (CX : CXT) (P : Program) (w : World) (K : PySem.W.Frag) (mg : Str → Option Value) (base : Heap) (N : List Str) (qual : Str) (scope : Scope) (f : Addr) (cd : Value) (A : Around) (outer : List Env) (s : Shared) (H : Hp) (E : XK) : Cx where
  prog := P
  w := w
  K := K
  mg := mg
  base := base
  A := A.deeper (envOfC qual scope s.heap.objs.size f cd)
  N := N
  s₀ := s
  H₀ := H
  env := envOfC qual scope s.heap.objs.size f cd
  outer := outer
  stack := envOfC qual scope s.heap.objs.size f cd :: outer
  ex := []
  calm := true
  fn := fun _ => true
  pn := []
  xe := fun e s' => wpAny (model P w) (A.deeper (envOfC qual scope s.heap.objs.size f cd)) (leaving (envOfC qual scope s.heap.objs.size f cd) e) (fun _ s'' => CX outer H s E e s'') (fun e' s'' => CX outer H s E e' s'') s'
theorem cell_has {sc : Scope} {n : Nat} {x : Str} (h : sc.names.lookup x = some .cell) : ∃ c, (cellsFrom n sc.names []).lookup x = some c := by
  have q := PySem.W.cellsFrom_some sc.names n [] (.inl h)
  exact Option.isSome_iff_exists.mp q
theorem inv_start {CX : CXT} {P : Program} {w : World} {K : PySem.W.Frag} {mg : Str → Option Value} {base : Heap} {N ps : List Str} {qual : Str} {scope : Scope} {f : Addr} {cd : Value} {A : Around} {outer : List Env} {s s1 : Shared} {H : Hp} {E : XK} {us : List Value} {vs : List V}
    (S : FnScope N ps scope) (hd : A.handled = none) (e0 : Env0 P w K mg base A outer s H) (hl : vs.length = ps.length) (r : Vals vs us)
    (x : InCallC s s.heap.objs.size (bindL (envOfC qual scope s.heap.objs.size f cd).kindOf (ps.zip us) fun _ => none) (cellsFrom (s.heap.objs.size + 1) scope.names []) (bindC (envOfC qual scope s.heap.objs.size f cd).kindOf (ps.zip us) fun _ => none) s1) :
    Inv (cxOf CX P w K mg base N qual scope f cd A outer s H E) [] (start N vs) H s1 := by
  have hpl : ps.length ≤ N.length := by have := congrArg List.length S.pre; rw [List.length_take] at this; omega
  obtain ⟨h1, tk, rfl, hk⟩ := x.done
  have noA : ∀ b : Addr, b ∉ (cxOf CX P w K mg base N qual scope f cd A outer s H E).ex := fun b z => absurd (show b ∈ ([] : List Addr) from z) (by simp)
  refine ⟨⟨e0.mod, S.kind, rfl, rfl, Nat.le_refl _, fun y z c h1 h2 => ?_, fun y hy => ?_, fun y c _ h => ?_, fun _ => hd, Around.frames_deeper e0.frames, .inr ⟨rfl, rfl⟩, fun b z => absurd z (noA b), e0.bs, e0.bsz, fun b _ _ => noA b, fun b z => absurd z (noA b), e0.funs, e0.frf⟩,
    rfl, e0.bare, Un.kept hk, ⟨_, x.toInCall.ns, fun i y v h1 h2 h3 => ?_⟩, fun y c h => ⟨_, x.cell y c h⟩, e0.hok.fresh (Nat.le_refl _), fun y c h => ?_, fun p hp => absurd (show p ∈ ([] : List (Addr × Obj)) from hp) (by simp), e0.hok.kept hk, ?_⟩
  · exact name_of_addr x.apart (PySem.mem_of_lookup h1) (PySem.mem_of_lookup h2)
  · have hy : scope.names.lookup y = some .cell ∨ scope.names.lookup y = some .free := hy
    rcases hy with hy | hy
    · exact cell_has hy
    · exact absurd rfl (S.nofree _ (PySem.mem_of_lookup hy))
  · exact Nat.le_of_lt (x.above y c (PySem.mem_of_lookup h))
  · have hi : i < vs.length := by
      unfold start at h2
      by_cases hi : i < vs.length
      · exact hi
      · rw [List.getElem?_append_right (by simpa using hi)] at h2
        rw [List.getElem?_replicate] at h2
        split at h2 <;> cases h2
    have ha : vs[i]? = some v := by
      unfold start at h2
      rw [List.getElem?_append_left (by simpa using hi), List.getElem?_map] at h2
      cases e : vs[i]? with
      | none => rw [e] at h2; cases h2
      | some a => rw [e] at h2; cases h2; rfl
    obtain ⟨u, hu, rv⟩ := r.get ha
    have hp : ps[i]? = some y := by
      rw [← S.pre, List.getElem?_take_of_lt (by omega)]; exact h1
    have ndP : ps.Nodup := by rw [← S.pre]; exact S.nd.sublist (List.take_sublist _ _)
    refine ⟨u, rv, ?_⟩
    rcases S.par y (List.mem_of_getElem? hp) with k | k
    · exact .inl ⟨k, bindL_get ndP hp hu k⟩
    · obtain ⟨c, e⟩ := cell_has (n := s.heap.objs.size + 1) k
      refine .inr ⟨.inl k, c, e, ?_⟩
      have q := x.cell y c e
      rw [bindC_get ndP hp hu (by show scope.names.lookup y ≠ _; rw [k]; decide)] at q
      exact q
  · exact e0.hok.fresh (Nat.le_of_lt (x.above y c (PySem.mem_of_lookup h)))
  · unfold start
    show _ = N.length
    rw [List.length_append, List.length_map, List.length_replicate]
    omega
/-- THE RULE: a def (or a method) of the text, by its body. The body's reading t is chosen for each entry; it is run at the parameters' values -/
theorem fn_of {CX : CXT} {P : Program} {w : World} {K : PySem.W.Frag} {mg : Str → Option Value} {base : Heap} {k : Nat} {f : Addr} {name qual : Str} {params : Arguments} {body : List Stmt} {scope : Scope} {dV kV doc pm cdv ct oc : Value} {an od : Option Addr}
    {osl : Array (Option Value)} {N ps : List Str} {sp : Sp} (lk : K.lookup f = some ⟨oc, od, .func (PySem.W.fnOf name qual params body scope dV kV doc pm an cdv ct), osl⟩) (hcd : PySem.W.codeIn K cdv qual = true) (S : FnScope N ps scope)
    (len : ∀ vs H Q E, sp vs H Q E → vs.length = ps.length)
    (hbody : ∀ (A : Around) (outer : List Env) (s : Shared) (H : Hp) (vs : List V) (Q : VK) (E : XK), Room k (A.deeper (envOfC qual scope s.heap.objs.size f cdv)) → sp vs H Q E →
      ∃ t, PSs (cxOf CX P w K mg base N qual scope f cdv A outer s H E) body t ∧ t { nx := fun _ H' => Q .non H', rt := Q } (start N vs) H) :
    FnOk P w K mg base CX (k + 1) f (PySem.W.fnOf name qual params body scope dV kV doc pm an cdv ct) ps sp := by
  refine ⟨len, fun A outer s H args us vs Q E hr e0 hb r hsp => ?_⟩
  have hl := len _ _ _ _ hsp
  have KX : K.In s.heap := e0.mod.kin.keeps fun b o e => (e0.bs b o e).1
  have lim : s.heap.NoLimit := e0.mod.nolimit.keeps fun b o e => (e0.bs b o e).1
  have hkind : ∀ y ∈ ps.zip us, scope.names.lookup y.1 = some .local ∨ (scope.names.lookup y.1 = some .cell ∧ ((cellsFrom (s.heap.objs.size + 1) scope.names []).lookup y.1).isSome = true) := fun ⟨n, v⟩ hy => by
    rcases S.par n (List.of_mem_zip hy).1 with q | q
    · exact .inl q
    · exact .inr ⟨q, PySem.W.cellsFrom_some _ _ _ (.inl q)⟩
  refine codeAny_call_function hr.depth (KX _ _ lk) rfl S.co S.gen rfl (PySem.W.codeRec_of KX hcd) (hb _ _ _ _ ?_)
  refine wpAny_newFunctionEnv_cells S.kind hkind fun env he s1 x => ?_
  subst he
  refine ⟨lim.keeps x.toInCall.keep, codeAny_func ?_⟩
  obtain ⟨t, ht, hq⟩ := hbody A outer s H vs Q E (hr.deeper _) hsp
  have I : Inv (cxOf CX P w K mg base N qual scope f cdv A outer s H E) [] (start N vs) H s1 := inv_start S hr.hd e0 hl r x
  refine wpAny_mono (ht [] s1 (start N vs) H _ I hq) (fun fl s' hs => ?_) fun e s' hs => hs
  have fin : ∀ {σ' : St} {H' : Hp} {v : V} {u : Value}, Inv (cxOf CX P w K mg base N qual scope f cdv A outer s H E) [] σ' H' s' → RelV v u → Q v H' → CE outer P w H s Q u s' :=
    fun {σ' H' v u} J rv q => ⟨v, H', J.os, J.bare, J.base, J.hok, rv, q⟩
  cases fl with
  | ret u =>
    obtain ⟨v, σ', H', J, rv, q⟩ := hs
    exact fin J rv q
  | next =>
    obtain ⟨σ', H', J, q⟩ := hs
    exact fin (v := V.non) (u := Value.none) J rfl q
  | brk =>
    obtain ⟨_, _, _, q⟩ := hs
    exact False.elim q
  | cont =>
    obtain ⟨_, _, _, q⟩ := hs
    exact False.elim q
end L2
namespace L2
open PySem PySem.Spec PyProof.Rows
section
variable {X : Cx} {x : Str} {p pos : Pos} {e : Expr} {es : List Expr} {t : TA} {id T : String} {r : List V → Hp → VK → Prop}
def tCB (r : List V → Hp → VK → Prop) (t : TA) : TE := fun σ H Q => t σ H fun vs H1 => r vs H1 Q
/-- f(e, ..), f a built-in function -/
theorem pe_callB (hc : CallR X (.builtin id) r) (hg : Gl X x) (hm : X.mg x = none) (hv : bootBuiltins x = some (.builtin id)) (ha : PA X (e :: es) t) (hn : x ≠ "__name__" := by decide) (hdb : (x == ("__debug__" : Str)) = false := by decide)
    (he : starEach (e :: es) X.env = (false, eval e X.env) :: starEach es X.env := by rfl) (hpl : (backTo pos (starEach es X.env)).any (·.1) = false := by rfl) : PE X (.Call (.Name x p) (e :: es) [] pos) (tCB r t) := by
  intro pins s σ H Q I h
  refine wpAny_Call_Name_kw (ld_blt I hg hm hv ?_ hn hdb)
  exact PyProof.Rows.callWith_builtin1 (thn (ha pos pins s σ H _ I h) fun us s1 ⟨vs, H1, I1, r1, q1⟩ => hc pins s1 σ H1 vs us Q I1 r1 q1) he hpl
/-- T(e, ..), T a built-in type -/
theorem pe_callTy (hc : CallR X (.type T) r) (hg : Gl X x) (hm : X.mg x = none) (hv : bootBuiltins x = some (.type T)) (ha : PA X (e :: es) t) (hn : x ≠ "__name__" := by decide) (hdb : (x == ("__debug__" : Str)) = false := by decide)
    (he : starEach (e :: es) X.env = (false, eval e X.env) :: starEach es X.env := by rfl) (hpl : (backTo pos (starEach es X.env)).any (·.1) = false := by rfl) : PE X (.Call (.Name x p) (e :: es) [] pos) (tCB r t) := by
  intro pins s σ H Q I h
  refine wpAny_Call_Name_kw (ld_blt I hg hm hv ?_ hn hdb)
  exact PyProof.Rows.callWith_type1 (thn (ha pos pins s σ H _ I h) fun us s1 ⟨vs, H1, I1, r1, q1⟩ => hc pins s1 σ H1 vs us Q I1 r1 q1) he hpl
end
end L2
namespace HT
open PySem PyProof.Rows
section
open PySem.SeqAt
open PySem.AutoSeq1 (wpAny_loadPart')
open PySem.MeetsSeq PySem.MeetsSeq2 PySem.MeetsSeq3
end
section
variable {prog : Program} {w : World} {A : Around} {E : Value → Shared → Prop} {s : Shared}
end
end HT
namespace L2
open PySem PySem.Spec PyProof.Rows
abbrev TO := St → Hp → (Option Int → Hp → Prop) → Prop
def tNoPart : TO := fun _ H Q => Q none H
def tPart (t : TE) : TO := fun σ H Q => t σ H fun x H1 => ∃ i, x = .int i ∧ Q (some i) H1
section
variable {X : Cx} {e : Expr} {te : TE} {lo hi : Option Expr} {tl th : TO} {pos p2 : Pos}
/-- what a slice of a value is, by values: the slice object stands at sl -/
def SlR (X : Cx) (r : V → Option Int → Option Int → Hp → VK → Prop) : Prop :=
  ∀ (pins : List (Addr × Obj)) (s : Shared) (σ : St) (H : Hp) (x : V) (v vl vu : Value) (lo hi : Option Int) (sl : Addr) (Q : VK), Inv X pins σ H s → RelV x v → s.heap.IsSliceOf sl vl vu .none → IsPart vl lo → IsPart vu hi → r x lo hi H Q →
    ∃ T id, typeLookup (.type T) "__getitem__" = pure (some (.builtin id)) ∧ s.TypeIs v T ∧ wpAny (model X.prog X.w) X.A (getItem v (.ref sl)) (EP X pins σ Q) X.xe s
theorem SlR.or {r r' : V → Option Int → Option Int → Hp → VK → Prop} (h : SlR X r) (h' : SlR X r') : SlR X (fun x lo hi H Q => r x lo hi H Q ∨ r' x lo hi H Q) := by
  intro pins s σ H x v vl vu lo hi sl Q I rx hs pl pu q
  rcases q with q | q
  · exact h pins s σ H x v vl vu lo hi sl Q I rx hs pl pu q
  · exact h' pins s σ H x v vl vu lo hi sl Q I rx hs pl pu q
def tSl (r : V → Option Int → Option Int → Hp → VK → Prop) (te : TE) (tl th : TO) : TE := fun σ H Q => te σ H fun x H1 => tl σ H1 fun l H2 => th σ H2 fun u H3 => r x l u H3 Q
end
end L2
namespace L2
open PySem PySem.Spec PyProof.Rows
/-- the place that an index of any sign means -/
def ixN (n : Nat) (i : Int) : Option Nat := if 0 ≤ i then (if i < n then some i.toNat else none) else if -(n : Int) ≤ i then some (i + n).toNat else none
def atI {α : Type} (xs : List α) (i : Int) : Option α := (ixN xs.length i).bind fun j => xs[j]?
theorem ixN_seq {n : Nat} {i : Int} {j : Nat} (h : ixN n i = some j) : seqIndex? i n = some j ∧ j < n ∧ -(n : Int) ≤ i ∧ i < n := by
  unfold ixN at h
  by_cases h0 : 0 ≤ i
  · rw [if_pos h0] at h
    by_cases h1 : i < n
    · rw [if_pos h1] at h
      have e : i.toNat = j := Option.some.inj h
      exact ⟨by rw [seqIndex_of h0 h1, e], by omega, by omega, h1⟩
    · rw [if_neg h1] at h; cases h
  · rw [if_neg h0] at h
    by_cases h1 : -(n : Int) ≤ i
    · rw [if_pos h1] at h
      have e : (i + n).toNat = j := Option.some.inj h
      exact ⟨by rw [seqIndex_neg (by omega) h1, e], by omega, h1, by omega⟩
    · rw [if_neg h1] at h; cases h
theorem atI_get {α : Type} {xs : List α} {i : Int} {v : α} (h : atI xs i = some v) : ∃ j, seqIndex? i xs.length = some j ∧ xs[j]? = some v ∧ j < xs.length ∧ -(xs.length : Int) ≤ i ∧ i < xs.length := by
  unfold atI at h
  cases e : ixN xs.length i with
  | none => rw [e] at h; cases h
  | some j =>
    rw [e] at h
    obtain ⟨h1, h2, h3, h4⟩ := ixN_seq e
    exact ⟨j, h1, h, h2, h3, h4⟩
theorem atI_nat {α : Type} {xs : List α} {j : Nat} {v : α} (h : xs[j]? = some v) : atI xs (j : Int) = some v := by
  have hj : j < xs.length := (List.getElem?_eq_some_iff.mp h).1
  have e : ixN xs.length (j : Int) = some j := by
    unfold ixN
    rw [if_pos (by omega), if_pos (by omega)]; simp
  unfold atI; rw [e]; exact h
/-- what stands as an index of a plain subscript -/
def PlainIx (b : Expr) : Prop := ∀ o i, subscripted b false o i = operate [o, i] (getItem o i)
/-- a subscript by values -/
def IxR (X : Cx) (r : R2) : Prop :=
  ∀ (value slice : Expr) (pins : List (Addr × Obj)) (s : Shared) (σ : St) (H : Hp) (x y : V) (v u : Value) (Q : VK), Inv X pins σ H s → RelV x v → RelV y u → r x y H Q →
    subscripted slice false v u = operate [v, u] (getItem v u) → wpAny (model X.prog X.w) X.A (subscriptTail value slice v u) (EP X pins σ Q) X.xe s
/-- a call of a builtin's method by values: the receiver, the arguments -/
def MtR (X : Cx) (id : String) (r : V → List V → Hp → VK → Prop) : Prop :=
  ∀ (pins : List (Addr × Obj)) (s : Shared) (σ : St) (H : Hp) (x : V) (xs : List V) (v : Value) (us : List Value) (Q : VK), Inv X pins σ H s → RelV x v → Vals xs us → r x xs H Q →
    wpAny (model X.prog X.w) X.A (call (.builtin id) (v :: us)) (EP X pins σ Q) X.xe s
section
variable {X : Cx} {a b : Expr} {ta tb : TE} {pos : Pos}
theorem IxR.or {r r' : R2} (h : IxR X r) (h' : IxR X r') : IxR X (fun x y H Q => r x y H Q ∨ r' x y H Q) := by
  intro value slice pins s σ H x y v u Q I rx ry q hs
  rcases q with q | q
  · exact h value slice pins s σ H x y v u Q I rx ry q hs
  · exact h' value slice pins s σ H x y v u Q I rx ry q hs
theorem MtR.or {id : String} {r r' : V → List V → Hp → VK → Prop} (h : MtR X id r) (h' : MtR X id r') : MtR X id (fun x xs H Q => r x xs H Q ∨ r' x xs H Q) := by
  intro pins s σ H x xs v us Q I rx rs q
  rcases q with q | q
  · exact h pins s σ H x xs v us Q I rx rs q
  · exact h' pins s σ H x xs v us Q I rx rs q
/-- a[b] -/
theorem pe_ix {r : R2} (hr : IxR X r) (ha : PE X a ta) (hb : PE X b tb) (hs : PlainIx b) : PE X (.Subscript a b pos) (tOp r ta tb) := by
  intro pins s σ H Q I h
  exact Subscript_ (binT ha hb I h fun v u s2 x y H2 I2 rx ry q => hr a b pins s2 σ H2 x y v u Q I2 rx ry q (hs _ _))
def rIxL (K : PySem.W.Frag) : R2 := fun x y H Q => ∃ p xs i v, x = .ref p ∧ y = .int i ∧ SqL K H p xs ∧ atI xs i = some v ∧ Q v H
def rIxT (K : PySem.W.Frag) : R2 := fun x y H Q => ∃ p xs i v, x = .ref p ∧ y = .int i ∧ SqT K H p xs ∧ atI xs i = some v ∧ Q v H
def rIxS : R2 := fun x y H Q => ∃ z i c, x = .str z ∧ y = .int i ∧ z.length ≤ sizeLine ∧ atI z.cps.toList i = some c ∧ Q (.str ⟨#[c]⟩) H
theorem ix_list : IxR X (rIxL X.K) := by
  intro value slice pins s σ H x y v u Q I rx ry h hs
  obtain ⟨p, xs, i, z, rfl, rfl, hq, he, q⟩ := h
  cases rx
  obtain ⟨t, rfl⟩ := ry
  obtain ⟨its, r, pl, hz⟩ := I.list hq
  obtain ⟨j, h1, h2, h3, h4, h5⟩ := atI_get he
  obtain ⟨w, ew, rw'⟩ := r.get h2
  have hl := r.length
  have hn := line63
  have fin : EP X pins σ Q w s := ⟨z, H, I, rw', q⟩
  by_cases h0 : 0 ≤ i
  · have hj : i.toNat = j := by
      rw [seqIndex_of h0 h5] at h1
      exact Option.some.inj h1
    exact item_listR pl.isList h0 (by omega) (by rw [hj]; simpa using ew) fin hs
  · have hj : (i + (its.toArray.size : Int)).toNat = j := by
      rw [seqIndex_neg (by omega) h4] at h1
      rw [List.size_toArray, ← hl]
      exact Option.some.inj h1
    exact subscriptTail_builtinR (x := w) pl.isList.typeIs slot_list_getitem.lookup
      (wpAny_getItem_list_neg (Q := fun r s' => r = w ∧ EP X pins σ Q r s') pl.isList (by omega) (by rw [List.size_toArray] <;> omega) (by omega) (by rw [hj]; simpa using ew) ⟨rfl, fin⟩) hs
theorem ix_tup : IxR X (rIxT X.K) := by
  intro value slice pins s σ H x y v u Q I rx ry h hs
  obtain ⟨p, xs, i, z, rfl, rfl, hq, he, q⟩ := h
  cases rx
  obtain ⟨t, rfl⟩ := ry
  obtain ⟨its, r, pl, hz⟩ := I.tuple hq
  obtain ⟨j, h1, h2, h3, h4, h5⟩ := atI_get he
  obtain ⟨w, ew, rw'⟩ := r.get h2
  have hl := r.length
  have hn := line63
  have fin : EP X pins σ Q w s := ⟨z, H, I, rw', q⟩
  exact subscriptTail_builtinR (x := w) pl.typeIs slot_tuple_getitem.lookup
    (getItem_tuple (j := j) (Q := fun r s' => r = w ∧ EP X pins σ Q r s') pl (by omega) (by omega) (by rw [List.size_toArray, ← hl]; exact h1) (by simpa using ew) ⟨rfl, fin⟩) hs
theorem ix_str : IxR X rIxS := by
  intro value slice pins s σ H x y v u Q I rx ry h hs
  obtain ⟨z, i, c, rfl, rfl, hz, he, q⟩ := h
  obtain ⟨t, rfl⟩ := rx
  obtain ⟨t', rfl⟩ := ry
  obtain ⟨j, h1, h2, h3, h4, h5⟩ := atI_get he
  have hl : z.cps.toList.length = z.length := by simp [Str.length]
  rw [hl] at h1 h4 h5
  have hn := line63
  exact tail_any (typeIs_str s z t) slot_str_getitem.lookup (getItem_str (c := c) (by
    have e1 : decide (i < -(2 ^ 63 : Int)) = false := decide_eq_false (by omega)
    have e2 : decide (i ≥ 2 ^ 63) = false := decide_eq_false (by omega)
    rw [e1, e2, Bool.or_false]) (by rw [h1]; simpa using h2) ⟨.str ⟨#[c]⟩, H, I.tok _, ⟨_, rfl⟩, q⟩) hs
theorem Inv.lst {pins : List (Addr × Obj)} {σ : St} {H : Hp} {s : Shared} {p : Addr} {xs : List V} (I : Inv X pins σ H s) (h : H p = some (.lst xs)) :
    ∃ (its : List Value) (n : Nat), Vals xs its ∧ s.heap.get? p = some { cls := .type "list", data := .seq its.toArray n } ∧ xs.length ≤ sizeLine := by
  obtain ⟨z, its, n, r, e⟩ := I.hok p _ h
  exact ⟨its, n, r, e, z⟩
def flatV : V → Bool
  | .non => true
  | .bl _ => true
  | .int _ => true
  | .str _ => true
  | _ => false
/-- == of flat values -/
def eqV : V → V → Bool
  | .non, .non => true
  | .bl a, .bl b => a == b
  | .bl a, .int b => (if a then 1 else 0) == b
  | .int a, .bl b => a == (if b then 1 else 0)
  | .int a, .int b => a == b
  | .str a, .str b => a == b
  | _, _ => false
theorem eqAt_V {A : Around} {s : Shared} {y x : V} {u v : Value} (ry : RelV y u) (rx : RelV x v) (fy : flatV y = true) (fx : flatV x = true) : SeqAt.EqAt A s u v (eqV y x) := by
  cases y with
  | non =>
    cases ry
    cases x with
    | non => cases rx; exact SeqAt.EqAt.same _
    | bl b => cases rx; exact SeqAt.EqAt.none_bool b
    | int b => obtain ⟨t, rfl⟩ := rx; exact SeqAt.EqAt.none_int b t
    | str b => obtain ⟨t, rfl⟩ := rx; exact SeqAt.EqAt.none_str b t
    | _ => exact absurd (show false = true from fx) Bool.false_ne_true
  | bl a =>
    cases ry
    cases x with
    | non => cases rx; exact SeqAt.EqAt.bool_none a
    | bl b => cases rx; exact SeqAt.EqAt.bool_bool a b
    | int b => obtain ⟨t, rfl⟩ := rx; exact SeqAt.EqAt.bool_int a b t
    | str b => obtain ⟨t, rfl⟩ := rx; exact SeqAt.EqAt.bool_str a b t
    | _ => exact absurd (show false = true from fx) Bool.false_ne_true
  | int a =>
    obtain ⟨t', rfl⟩ := ry
    cases x with
    | non => cases rx; exact SeqAt.EqAt.int_none a t'
    | bl b => cases rx; exact SeqAt.EqAt.int_bool a t' b
    | int b => obtain ⟨t, rfl⟩ := rx; exact SeqAt.EqAt.int_int a t' b t
    | str b => obtain ⟨t, rfl⟩ := rx; exact SeqAt.EqAt.int_str a t' b t
    | _ => exact absurd (show false = true from fx) Bool.false_ne_true
  | str a =>
    obtain ⟨t', rfl⟩ := ry
    cases x with
    | non => cases rx; exact SeqAt.EqAt.str_none a t'
    | bl b => cases rx; exact SeqAt.EqAt.str_bool a t' b
    | int b => obtain ⟨t, rfl⟩ := rx; exact SeqAt.EqAt.str_int a t' b t
    | str b => obtain ⟨t, rfl⟩ := rx; exact SeqAt.EqAt.str_str a t' b t
    | _ => exact absurd (show false = true from fx) Bool.false_ne_true
  | _ => exact absurd (show false = true from fy) Bool.false_ne_true
theorem call_len_seq : CallR X (.builtin "len") (fun xs H Q => ∃ p ys, xs = [.ref p] ∧ (SqL X.K H p ys ∨ SqT X.K H p ys) ∧ Q (.int ys.length) H) := by
  intro pins s σ H xs us Q I r h
  obtain ⟨p, ys, rfl, hq, q⟩ := h
  obtain ⟨u, rfl, rx⟩ := vals1 r
  cases rx
  have hn := line63
  rcases hq with hq | hq
  · obtain ⟨its, r', pl, hz⟩ := I.list hq
    have hlen := r'.length
    exact Calls.call_len_list pl.isList (by simp only [List.size_toArray] <;> omega) ⟨.int ys.length, H, I.tok _, ⟨s.toks + 1, by rw [List.size_toArray, hlen]⟩, q⟩
  · obtain ⟨its, r', pl, hz⟩ := I.tuple hq
    have hlen := r'.length
    exact len_tuple pl (by simp only [List.size_toArray] <;> omega) ⟨.int ys.length, H, I.tok _, ⟨s.toks + 1, by rw [List.size_toArray, hlen]⟩, q⟩
theorem CallR.or {f : Value} {r r' : List V → Hp → VK → Prop} (h : CallR X f r) (h' : CallR X f r') : CallR X f (fun xs H Q => r xs H Q ∨ r' xs H Q) := by
  intro pins s σ H xs us Q I rs q
  rcases q with q | q
  · exact h pins s σ H xs us Q I rs q
  · exact h' pins s σ H xs us Q I rs q
theorem call_list_of : CallR X (.type "list") (fun xs H Q => ∃ p ys, xs = [.ref p] ∧ (SqL X.K H p ys ∨ SqT X.K H p ys) ∧ ∀ l, H l = none → Q (.ref l) (upd H l (.lst ys))) := by
  intro pins s σ H xs us Q I r h
  obtain ⟨p, ys, rfl, hq, q⟩ := h
  obtain ⟨u, rfl, rx⟩ := vals1 r
  cases rx
  have fin : ∀ (its : List Value), Vals ys its → ys.length ≤ sizeLine → ∀ (h' : Heap) (c' : Nat), (∀ b o', s.heap.get? b = some o' → h'.get? b = some o') →
      h'.get? s.heap.objs.size = some { cls := .type "list", dict := none, data := .seq its.toArray c', slots := #[] } → EP X pins σ Q (.ref s.heap.objs.size) { s with heap := h' } := fun its r' hz h' c' kp e =>
    ⟨.ref s.heap.objs.size, _, I.laid (t' := s.toks) kp (Nat.le_refl _) (show ObjOk X.prog X.w _ h' _ (.lst ys) from ⟨hz, its, c', r', e⟩), rfl, q _ (I.hok.fresh (Nat.le_refl _))⟩
  rcases hq with hq | hq
  · obtain ⟨its, r', pl, hz⟩ := I.list hq
    have hlen := r'.length
    obtain ⟨o, ho, hc, n, hd⟩ := pl.isList
    exact call_list_seq p (.inl rfl) ho hc hd (fun h' c' kp e => fin its r' hz h' c' kp e) (by simp only [List.size_toArray] <;> omega)
  · obtain ⟨its, r', pl, hz⟩ := I.tuple hq
    have hlen := r'.length
    obtain ⟨o, ho, hc, n, hd⟩ := pl
    exact call_list_seq p (.inr rfl) ho hc hd (fun h' c' kp e => fin its r' hz h' c' kp e) (by simp only [List.size_toArray] <;> omega)
theorem call_tuple_of : CallR X (.type "tuple") (fun xs H Q => ∃ p ys, xs = [.ref p] ∧ ((SqL X.K H p ys ∧ ∀ l, H l = none → Q (.ref l) (upd H l (.tup ys))) ∨ (SqT X.K H p ys ∧ Q (.ref p) H))) := by
  intro pins s σ H xs us Q I r h
  obtain ⟨p, ys, rfl, h⟩ := h
  obtain ⟨u, rfl, rx⟩ := vals1 r
  cases rx
  rcases h with ⟨hq, q⟩ | ⟨hq, q⟩
  · obtain ⟨its, r', pl, hz⟩ := I.list hq
    have hlen := r'.length
    refine call_tuple_list pl.isList (fun h' kp => ?_) (by simp only [List.size_toArray] <;> omega)
    have I1 : Inv X pins σ H { s with heap := h' } := I.kept (t' := s.toks) kp
    have I2 : Inv X pins σ (upd H h'.objs.size (.tup ys)) { s with heap := h'.push { cls := .type "tuple", data := .seq its.toArray } } :=
      I1.laid (t' := s.toks) (fun b o e => Heap.get?_push_of_some _ e) (Nat.le_refl _) (show ObjOk X.prog X.w _ _ _ (.tup ys) from ⟨hz, its, r', IsTup.new _ _⟩)
    exact ⟨.ref h'.objs.size, _, I2, rfl, q _ (I1.hok.fresh (Nat.le_refl _))⟩
  · obtain ⟨its, r', pl, hz⟩ := I.tuple hq
    exact call_tuple_same pl ⟨.ref p, H, I, rfl, q⟩
/-- the value is of that builtin type -/
def tyV (K : PySem.W.Frag) (T : String) (x : V) (H : Hp) : Prop := match x with
  | .str _ => T = "str"
  | .int _ => T = "int"
  | .ref p => (T = "list" ∧ ∃ xs, SqL K H p xs) ∨ (T = "tuple" ∧ ∃ o, K.lookup p = some o ∧ o.cls = .type "tuple" ∧ o.dict = none) ∨
      (T = "dict" ∧ ((∃ kvs, H p = some (.dK kvs)) ∨ ∃ kvs, H p = some (.dT kvs))) ∨ (T = "set" ∧ ∃ S n, H p = some (.set S n))
  | _ => False
theorem tyV_is {pins : List (Addr × Obj)} {σ : St} {H : Hp} {s : Shared} {T : String} {x : V} {v : Value} (I : Inv X pins σ H s) (r : RelV x v) (ty : tyV X.K T x H) :
    s.TypeIs v T ∧ ∀ a, v = .ref a → ∃ ob, s.heap.get? a = some ob ∧ ob.dict = none := by
  cases x with
  | str z =>
    obtain ⟨t, rfl⟩ := r
    cases (show T = "str" from ty)
    exact ⟨typeIs_str s z t, fun _ e => nomatch e⟩
  | int i =>
    obtain ⟨t, rfl⟩ := r
    cases (show T = "int" from ty)
    exact ⟨typeIs_int s i t, fun _ e => nomatch e⟩
  | ref p =>
    cases r
    rcases ty with ⟨rfl, xs, hq⟩ | ⟨rfl, o, hk, hc, hd⟩ | ⟨rfl, hk⟩ | ⟨rfl, S, n, hk⟩
    · obtain ⟨its, _, pl, _⟩ := I.list hq
      refine ⟨pl.isList.typeIs, fun a e => ?_⟩
      cases e
      obtain ⟨o, n, e, c, hd, _⟩ := pl
      exact ⟨o, e, hd⟩
    · refine ⟨⟨o, I.kIn p o hk, hc⟩, fun a e => ?_⟩
      cases e
      exact ⟨o, I.kIn _ o hk, hd⟩
    · have z : ∃ o, s.heap.get? p = some o ∧ o.ExactDict := by
        rcases hk with ⟨kvs, hk⟩ | ⟨kvs, hk⟩
        · obtain ⟨_, _, _, _, o, _, _, e, ex, _⟩ := I.hok p _ hk
          exact ⟨o, e, ex⟩
        · obtain ⟨_, _, _, _, o, _, _, e, ex, _⟩ := I.hok p _ hk
          exact ⟨o, e, ex⟩
      obtain ⟨o, e, ex⟩ := z
      refine ⟨⟨o, e, ex.1⟩, fun a e2 => ?_⟩
      cases e2
      exact ⟨o, e, ex.2.1⟩
    · obtain ⟨o, _, _, _, e, ex, _⟩ := I.hok p _ hk
      refine ⟨⟨o, e, ex.1⟩, fun a e2 => ?_⟩
      cases e2
      exact ⟨o, e, ex.2.1⟩
  | _ => exact False.elim ty
def tBM0 (K : PySem.W.Frag) (T : String) (r : V → List V → Hp → VK → Prop) (to : TE) : TE := fun σ H Q => to σ H fun x H1 => tyV K T x H1 ∧ r x [] H1 Q
def tBM (K : PySem.W.Frag) (T : String) (r : V → List V → Hp → VK → Prop) (to : TE) (t : TA) : TE := fun σ H Q => to σ H fun x H1 => tyV K T x H1 ∧ t σ H1 fun xs H2 => r x xs H2 Q
variable {o e : Expr} {es : List Expr} {to : TE} {t : TA} {name : Str} {apos cpos : Pos} {T id : String} {r : V → List V → Hp → VK → Prop}
theorem pe_bm (pa : PlainAttrs T) (slot : Slot T name id) (hty : typeOf (.builtin id) = pure (.type "method_descriptor")) (hm : MtR X id r) (ho : PE X o to) (ha : PA X (e :: es) t)
    (hbase : attributeBase o name X.env (eval o X.env) = eval o X.env := by rfl)
    (hfew : ((backTo cpos (starEach (e :: es) X.env)).all (fun x => !x.1) && (backToKw cpos (keywordEach [] X.env)).all (fun x => x.1.isSome)
      && decide ((e :: es).length + ([] : List Keyword).length + (if ([] : List Keyword).isEmpty then 0 else 1) < 30)) = true := by rfl)
    (hline : (apos.endLine == cpos.line) = true := by rfl) (hs : starEach (e :: es) X.env = (false, eval e X.env) :: starEach es X.env := by rfl) (hplain : (backTo cpos (starEach es X.env)).any (·.1) = false := by rfl) :
    PE X (.Call (.Attribute o name apos) (e :: es) [] cpos) (tBM X.K T r to t) := by
  intro pins s σ H Q I h
  refine wpAny_Call_method_late hbase hfew hline rfl (thn (ho pins s σ H _ I h) fun v s1 ⟨x, H1, I1, r1, ty, q1⟩ => ?_)
  obtain ⟨h1, h2⟩ := tyV_is I1 r1 ty
  refine ⟨T, id, pa, slot, hty, h1, h2, ?_⟩
  have hA := ha cpos pins s1 σ H1 _ I1 q1
  rw [hs] at hA ⊢
  refine Calls.callWith_builtin (by show (false || (backTo cpos (starEach es X.env)).any (·.1)) = false; rw [hplain] <;> rfl) (Calls.evalArgs_plain ?_)
  exact thn hA fun us s2 ⟨vs, H2, I2, r2, q2⟩ => hm pins s2 σ H2 x vs v us Q I2 r1 r2 q2
/- xs.append(e), list.index on a module's tuple .. are MtR facts of 06m -/
end
end L2
namespace L2
open PySem PySem.Spec PyProof.Rows
def MtM (X : Cx) (id : String) (r : V → List V → Hp → VK → Prop) : Prop :=
  ∀ (pins : List (Addr × Obj)) (s : Shared) (σ : St) (H : Hp) (x : V) (xs : List V) (v : Value) (us : List Value) (Q : VK), Inv X pins σ H s → RelV x v → Vals xs us → r x xs H Q →
    wpAny (model X.prog X.w) X.A (call (.builtin id) (v :: us)) (EP X pins σ Q) X.xe s
theorem Vals.one : ∀ {x : V} {us : List Value}, Vals [x] us → ∃ u, us = [u] ∧ RelV x u
  | _, _, .cons r .nil => ⟨_, rfl, r⟩
theorem Vals.two : ∀ {x y : V} {us : List Value}, Vals [x, y] us → ∃ u v, us = [u, v] ∧ RelV x u ∧ RelV y v
  | _, _, _, .cons r (.cons q .nil) => ⟨_, _, rfl, r, q⟩
theorem Vals.zero : ∀ {us : List Value}, Vals [] us → us = []
  | _, .nil => rfl
theorem Vals.reverse {xs : List V} {us : List Value} (h : Vals xs us) : Vals xs.reverse us.reverse := by
  induction h with
  | nil => exact .nil
  | cons r t ih => rw [List.reverse_cons, List.reverse_cons]; exact Vals.append ih (.cons r .nil)
theorem Vals.rep {xs : List V} {us : List Value} (h : Vals xs us) : ∀ k : Nat, Vals (List.replicate k xs).flatten (List.replicate k us).flatten
  | 0 => .nil
  | k + 1 => by
    rw [List.replicate_succ, List.replicate_succ, List.flatten_cons, List.flatten_cons]
    exact Vals.append h (Vals.rep h k)
section
variable {X : Cx} {pins : List (Addr × Obj)} {σ : St} {H : Hp} {s : Shared} {l b : Addr} {xs ys zs : List V}
theorem Inv.lset {its its' : List Value} {n : Nat} {f : Array Value → Array Value} {t' : Nat} (I : Inv X pins σ H s) (hH : H l = some (.lst xs))
    (e : s.heap.get? l = some { cls := .type "list", data := .seq its.toArray n }) (hf : f its.toArray = its'.toArray) (hv : Vals ys its') (hz : ys.length ≤ sizeLine) :
    Inv X pins σ (upd H l (.lst ys)) { s with heap := s.heap.update l (Obj.mapSeq f), toks := t' } := by
  have q := PySem.IsL.update e f
  rw [hf] at q
  refine I.write (x := l) (e := l) (by rw [hH]; exact trivial) (.inl rfl) (fun b' u hb hu => (Heap.get?_update_other s.heap (Obj.mapSeq f) (Ne.symm hb)).trans hu) ⟨_, q⟩ ?_
  exact ⟨hz, its', _, hv, q⟩
theorem Inv.lnew {its : List Value} {t' : Nat} (I : Inv X pins σ H s) (hv : Vals ys its) (hz : ys.length ≤ sizeLine) :
    Inv X pins σ (upd H s.heap.objs.size (.lst ys)) { s with heap := s.heap.push { cls := .type "list", data := .seq its.toArray }, toks := t' } :=
  I.laid (fun _ _ q => Heap.get?_push_of_some _ q) (Nat.le_refl _) ⟨hz, its, 0, hv, Heap.get?_push_size _ rfl⟩
theorem Inv.fresh (I : Inv X pins σ H s) : H s.heap.objs.size = none := I.hok.fresh (Nat.le_refl _)
theorem Inv.lstM (I : Inv X pins σ H s) (hH : H l = some (.lst xs)) : xs.length ≤ sizeLine ∧ ∃ (its : List Value) (n : Nat), Vals xs its ∧ xs.length = its.length ∧ s.heap.get? l = some { cls := .type "list", data := .seq its.toArray n } := by
  obtain ⟨z, its, n, r, e⟩ := I.hok l _ hH
  exact ⟨z, its, n, r, r.length, e⟩
end
section
variable {X : Cx}
def rAppend : V → List V → Hp → VK → Prop := fun x vs H Q => ∃ l xs y, x = .ref l ∧ vs = [y] ∧ H l = some (.lst xs) ∧ xs.length < sizeLine ∧ Q .non (upd H l (.lst (xs ++ [y])))
theorem mt_append : MtM X "list.append" rAppend := by
  intro pins s σ H x vs v us Q I rx rv h
  obtain ⟨l, xs, y, rfl, rfl, hH, hz, q⟩ := h
  cases rx
  obtain ⟨u, rfl, ru⟩ := rv.one
  obtain ⟨z, its, n, r, hl, e⟩ := I.lstM hH
  refine call_meets F.slot_list_append ⟨_, e, rfl⟩ F.entry_list_append (F.args_list_append_2 _ _) (PySem.list_append l its.toArray n u (by rw [List.size_toArray]; omega)) ⟨e, ?_⟩
  refine ⟨.non, _, I.lset (its' := its ++ [u]) hH e (by simp) (r.append (.cons ru .nil)) ?_, rfl, q⟩
  rw [List.length_append, List.length_singleton]
  omega
def rCat : R2 := fun x y H Q => ∃ l b xs zs, x = .ref l ∧ y = .ref b ∧ H l = some (.lst xs) ∧ H b = some (.lst zs) ∧ xs.length + zs.length ≤ sizeLine ∧ ∀ p, H p = none → Q (.ref p) (upd H p (.lst (xs ++ zs)))
theorem op_cat : OpR X (binaryOp .Add) rCat := by
  intro pins s σ H x y v u Q I rx ry h
  obtain ⟨l, b, xs, zs, rfl, rfl, hH, hB, hz, q⟩ := h
  cases rx
  cases ry
  obtain ⟨z, its, n, r, hl, e⟩ := I.lstM hH
  obtain ⟨z2, its2, n2, r2, hl2, e2⟩ := I.lstM hB
  refine PySem.P.add_list e e2 ?_ (by rw [List.size_toArray, List.size_toArray]; omega)
  have ea : its.toArray ++ its2.toArray = (its ++ its2).toArray := by simp
  rw [ea]
  exact ⟨.ref _, _, I.lnew (t' := s.toks) (r.append r2) (by rw [List.length_append]; omega), rfl, q _ I.fresh⟩
end
section
variable {prog : Program} {w : World} {A : Around} {E : Value → Shared → Prop} {s : Shared}
set_option maxRecDepth 100000 in
end
section
variable {X : Cx}
end
end L2
namespace L2
open PySem PySem.Spec PyProof.Rows
section
variable {κ : Type} [DecidableEq κ]
def valV (kvs : List (κ × V)) (k : κ) : Option V := (kvs.find? fun kv => decide (kv.1 = k)).map (·.2)
/-- in its place, or at the end -/
def putK (kvs : List (κ × V)) (k : κ) (v : V) : List (κ × V) :=
  if (kvs.any fun kv => decide (kv.1 = k)) = true then kvs.map (fun kv => if kv.1 = k then (kv.1, v) else kv) else kvs ++ [(k, v)]
def dropK (kvs : List (κ × V)) (k : κ) : List (κ × V) := kvs.filter fun kv => decide (kv.1 ≠ k)
theorem valV_pos {p : κ × V} {r : List (κ × V)} {k : κ} (e : p.1 = k) : valV (p :: r) k = some p.2 := by simp [valV, List.find?_cons, e]
theorem valV_neg {p : κ × V} {r : List (κ × V)} {k : κ} (e : ¬ p.1 = k) : valV (p :: r) k = valV r k := by simp [valV, List.find?_cons, e]
theorem valV_any (k : κ) : ∀ kvs : List (κ × V), (kvs.any fun kv => decide (kv.1 = k)) = (valV kvs k).isSome
  | [] => rfl
  | p :: r => by
    rw [List.any_cons]
    by_cases e : p.1 = k
    · simp only [valV_pos e, decide_eq_true e, Bool.true_or, Option.isSome_some]
    · rw [valV_neg e, decide_eq_false e, Bool.false_or]; exact valV_any k r
theorem RelO.isSome_eq {o : Option V} {u : Option Value} (r : RelO o u) : o.isSome = u.isSome := by
  cases o with
  | none => cases u with
    | none => rfl
    | some _ => exact (show False from r).elim
  | some _ => cases u with
    | none => exact (show False from r).elim
    | some _ => rfl
theorem RelO.getD {o : Option V} {u : Option Value} {d : V} {d' : Value} (r : RelO o u) (rd : RelV d d') : RelV (o.getD d) (u.getD d') := by
  cases o with
  | none => cases u with
    | none => exact rd
    | some _ => exact (show False from r).elim
  | some _ => cases u with
    | none => exact (show False from r).elim
    | some _ => exact r
/-- raw tables of the same keys -/
theorem KV.val {kvs : List (κ × V)} {vs : List (κ × Value)} (r : KV kvs vs) (k : κ) : RelO (valV kvs k) (valueAt vs k) := by
  unfold KV at r
  induction r with
  | nil => exact True.intro
  | @cons p q ps qs h t ih =>
    obtain ⟨h1, h2⟩ := h
    by_cases e : p.1 = k
    · have e' : q.1 = k := h1.symm.trans e
      have b : valueAt (q :: qs) k = some q.2 := by simp [valueAt, List.find?_cons, e']
      rw [valV_pos e, b]; exact h2
    · have e' : ¬ q.1 = k := fun z => e (h1.trans z)
      have b : valueAt (q :: qs) k = valueAt qs k := by simp [valueAt, List.find?_cons, e']
      rw [valV_neg e, b]; exact ih
theorem KV.any {kvs : List (κ × V)} {vs : List (κ × Value)} (r : KV kvs vs) (k : κ) : (kvs.any fun kv => decide (kv.1 = k)) = vs.any fun kv => decide (kv.1 = k) := by
  unfold KV at r
  induction r with
  | nil => rfl
  | cons h t ih => rw [List.any_cons, List.any_cons, ih, h.1]
theorem KV.repl {kvs : List (κ × V)} {vs : List (κ × Value)} (r : KV kvs vs) (k : κ) {y : V} {u : Value} (ry : RelV y u) :
    KV (kvs.map fun kv => if kv.1 = k then (kv.1, y) else kv) (vs.map fun kv => if kv.1 = k then (kv.1, u) else kv) := by
  unfold KV at r ⊢
  induction r with
  | nil => exact .nil
  | @cons p q ps qs h t ih =>
    rw [List.map_cons, List.map_cons]
    refine .cons ?_ ih
    obtain ⟨h1, h2⟩ := h
    by_cases e : p.1 = k
    · rw [if_pos e, if_pos (h1.symm.trans e)]; exact ⟨h1, ry⟩
    · rw [if_neg e, if_neg (fun z => e (h1.trans z))]; exact ⟨h1, h2⟩
theorem KV.put {kvs : List (κ × V)} {vs : List (κ × Value)} (r : KV kvs vs) (k : κ) {y : V} {u : Value} (ry : RelV y u) : KV (putK kvs k y) (stored vs k u) := by
  unfold putK stored
  rw [r.any k]
  by_cases e : (vs.any fun kv => decide (kv.1 = k)) = true
  · rw [if_pos e, if_pos e]; exact r.repl k ry
  · rw [if_neg e, if_neg e]; exact Paired.snoc r ⟨rfl, ry⟩
theorem KV.drop {kvs : List (κ × V)} {vs : List (κ × Value)} (r : KV kvs vs) (k : κ) : KV (dropK kvs k) (without vs k) := by
  unfold KV at r ⊢
  unfold dropK without
  induction r with
  | nil => exact .nil
  | @cons p q ps qs h t ih =>
    obtain ⟨h1, h2⟩ := h
    rw [List.filter_cons, List.filter_cons]
    by_cases e : p.1 = k
    · have a : ¬ decide (p.1 ≠ k) = true := by simp [e]
      have b : ¬ decide (q.1 ≠ k) = true := by simp [h1.symm.trans e]
      rw [if_neg a, if_neg b]; exact ih
    · have e' : ¬ q.1 = k := fun z => e (h1.trans z)
      have a : decide (p.1 ≠ k) = true := by simp [e]
      have b : decide (q.1 ≠ k) = true := by simp [e']
      rw [if_pos a, if_pos b]; exact .cons ⟨h1, h2⟩ ih
theorem KV.keys {kvs : List (κ × V)} {vs : List (κ × Value)} (r : KV kvs vs) : kvs.map (·.1) = vs.map (·.1) := by
  unfold KV at r
  induction r with
  | nil => rfl
  | cons h t ih => rw [List.map_cons, List.map_cons, ih, h.1]
theorem KV.length {kvs : List (κ × V)} {vs : List (κ × Value)} (r : KV kvs vs) : kvs.length = vs.length := Paired.length r
end
/-- raw entries of a dict with tuple keys -/
abbrev KT (H : Hp) : List (List Key × V) → List (List Key × Addr × Value) → Prop := Paired fun p q => p.1 = q.1 ∧ H q.2.1 = some (.tup (p.1.map kV)) ∧ RelV p.2 q.2.2
theorem KT.val {H : Hp} {kvs : List (List Key × V)} {xs : List (List Key × Addr × Value)} (r : KT H kvs xs) (k : List Key) : RelO (valV kvs k) ((atKey xs k).map (·.2)) := by
  induction r with
  | nil => exact True.intro
  | @cons p q ps qs h t ih =>
    obtain ⟨h1, _, h2⟩ := h
    by_cases e : p.1 = k
    · have e' : q.1 = k := h1.symm.trans e
      have b : atKey (q :: qs) k = some q.2 := by simp [atKey, List.find?_cons, e']
      rw [valV_pos e, b]; exact h2
    · have e' : ¬ q.1 = k := fun z => e (h1.trans z)
      have b : atKey (q :: qs) k = atKey qs k := by simp [atKey, List.find?_cons, e']
      rw [valV_neg e, b]; exact ih
theorem KT.repl {H : Hp} {kvs : List (List Key × V)} {xs : List (List Key × Addr × Value)} (r : KT H kvs xs) (k : List Key) {y : V} {u : Value} (ry : RelV y u) :
    KT H (kvs.map fun kv => if kv.1 = k then (kv.1, y) else kv) (xs.map (putAt k u)) := by
  induction r with
  | nil => exact .nil
  | @cons p q ps qs h t ih =>
    rw [List.map_cons, List.map_cons]
    refine .cons ?_ ih
    obtain ⟨h1, h2, h3⟩ := h
    unfold putAt
    by_cases e : p.1 = k
    · rw [if_pos e, if_pos (h1.symm.trans e)]; exact ⟨h1, h2, ry⟩
    · rw [if_neg e, if_neg (fun z => e (h1.trans z))]; exact ⟨h1, h2, h3⟩
theorem KT.put {H : Hp} {kvs : List (List Key × V)} {xs : List (List Key × Addr × Value)} (r : KT H kvs xs) (k : List Key) {b : Addr} {y : V} {u : Value} (hb : H b = some (.tup (k.map kV))) (ry : RelV y u) :
    KT H (putK kvs k y) (storedH xs k b u) := by
  have e : (kvs.any fun kv => decide (kv.1 = k)) = (atKey xs k).isSome := by
    rw [valV_any, (r.val k).isSome_eq, Option.isSome_map]
  unfold putK storedH
  rw [e]
  by_cases q : (atKey xs k).isSome = true
  · rw [if_pos q, if_pos q]; exact r.repl k ry
  · rw [if_neg q, if_neg q]; exact Paired.snoc r ⟨rfl, hb, ry⟩
theorem KT.keeps {H H' : Hp} {kvs : List (List Key × V)} {xs : List (List Key × Addr × Value)} (r : KT H kvs xs) (ht : ∀ b ys, H b = some (.tup ys) → H' b = some (.tup ys)) : KT H' kvs xs :=
  Paired.mapP r fun _ _ z => ⟨z.1, ht _ _ z.2.1, z.2.2⟩
section
variable {P : Program} {w : World} {H : Hp} {h : Heap} {a : Addr}
end
/-- what the dict at a holds at the key y -/
def DGet (H : Hp) (a : Addr) (y : V) (r : Option V) : Prop :=
  (∃ kvs k, Rd H a (.dK kvs) ∧ y = kV k ∧ r = valV kvs k) ∨ ∃ kvs k b, Rd H a (.dT kvs) ∧ y = .ref b ∧ H b = some (.tup (k.map kV)) ∧ r = valV kvs k
/-- the heap behind a[y] = v -/
def DPut (H : Hp) (a : Addr) (y v : V) (H' : Hp) : Prop :=
  (∃ kvs k, H a = some (.dK kvs) ∧ y = kV k ∧ kvs.length < sizeLine ∧ H' = upd H a (.dK (putK kvs k v))) ∨
  ∃ kvs k b, H a = some (.dT kvs) ∧ y = .ref b ∧ H b = some (.tup (k.map kV)) ∧ kvs.length < sizeLine ∧ H' = upd H a (.dT (putK kvs k v))
theorem DGet.k {H : Hp} {a : Addr} {kvs : List (Key × V)} {k : Key} (e : H a = some (.dK kvs)) : DGet H a (kV k) (valV kvs k) := .inl ⟨kvs, k, .inl e, rfl, rfl⟩
theorem DGet.t {H : Hp} {a b : Addr} {kvs : List (List Key × V)} {k : List Key} (e : H a = some (.dT kvs)) (eb : H b = some (.tup (k.map kV))) : DGet H a (.ref b) (valV kvs k) := .inr ⟨kvs, k, b, .inl e, rfl, eb, rfl⟩
theorem DPut.k {H : Hp} {a : Addr} {kvs : List (Key × V)} {k : Key} {v : V} (e : H a = some (.dK kvs)) (hl : kvs.length < sizeLine) : DPut H a (kV k) v (upd H a (.dK (putK kvs k v))) := .inl ⟨kvs, k, e, rfl, hl, rfl⟩
theorem DPut.t {H : Hp} {a b : Addr} {kvs : List (List Key × V)} {k : List Key} {v : V} (e : H a = some (.dT kvs)) (eb : H b = some (.tup (k.map kV))) (hl : kvs.length < sizeLine) :
    DPut H a (.ref b) v (upd H a (.dT (putK kvs k v))) := .inr ⟨kvs, k, b, e, rfl, eb, hl, rfl⟩
section
variable {X : Cx} {pins : List (Addr × Obj)} {σ : St} {H : Hp} {s : Shared} {a : Addr} {y v : V} {u r : Value} {o : Option V} {A : Around} {E : Value → Shared → Prop}
end
section
variable {X : Cx} {pins : List (Addr × Obj)} {σ : St} {H : Hp} {s : Shared} {a : Addr} {kvs : List (Key × V)} {k : Key} {u : Value} {A : Around} {E : Value → Shared → Prop}
end
/-- d[y] -/
def tDGet (td ty : TE) : TE := fun σ H Q => td σ H fun x H1 => ty σ H1 fun y H2 => ∃ a v, x = .ref a ∧ DGet H2 a y (some v) ∧ Q v H2
/-- d[y] = v -/
def sDPut (td ty tv : TE) : TS := fun D σ H => tv σ H fun v H1 => td σ H1 fun x H2 => ty σ H2 fun y H3 => ∃ a H4, x = .ref a ∧ DPut H3 a y v H4 ∧ D.nx σ H4
section
variable {X : Cx} {o i e value : Expr} {pos pos' tpos : Pos} {td ty tv : TE}
end
/-- {}, to be a dict of the kind that is wanted -/
def tDNewK : TE := fun _ H Q => ∀ p, H p = none → Q (.ref p) (upd H p (.dK []))
section
variable {X : Cx} {pos : Pos}
end
/-- the pairs of a display, from the left -/
def tPairs : List (TE × TE) → St → Hp → (List (V × V) → Hp → Prop) → Prop
  | [], _, H, Q => Q [] H
  | (tk, tv) :: r, σ, H, Q => tk σ H fun x H1 => tv σ H1 fun y H2 => tPairs r σ H2 fun ps H3 => Q ((x, y) :: ps) H3
abbrev VV : List (V × V) → List (Value × Value) → Prop := Paired fun p q => RelV p.1 q.1 ∧ RelV p.2 q.2
def PPs (X : Cx) (pos : Pos) (keys : List (Option Expr)) (values : List Expr) (trs : List (TE × TE)) : Prop :=
  ∀ (pins : List (Addr × Obj)) (s : Shared) (σ : St) (H : Hp) (Q : List (V × V) → Hp → Prop), Inv X pins σ H s → tPairs trs σ H Q →
    wpAny (model X.prog X.w) X.A (evalPairs (pairTrees keys values X.env pos)) (fun vs s' => ∃ ps H', Inv X pins σ H' s' ∧ VV ps vs ∧ Q ps H') X.xe s
def mergeK (kvs more : List (Key × V)) : List (Key × V) := more.foldl (fun acc kv => putK acc kv.1 kv.2) kvs
/-- {k: v, ..} with keys ints and texts; the new dict stands empty while the pairs are made -/
def tDisp (trs : List (TE × TE)) : TE := fun σ H Q => ∀ p, H p = none → tPairs trs σ (upd H p (.dK [])) fun ps H2 => H2 p = some (.dK []) ∧ ∃ kvs : List (Key × V), ps = kvs.map (fun kv => (kV kv.1, kv.2)) ∧ kvs.length ≤ 15 ∧ Q (.ref p) (upd H2 p (.dK (mergeK [] kvs)))
/-- a method call o.m(e) of a built-in, with one argument: what must be seen of the text -/
structure M1 (X : Cx) (o : Expr) (m : Str) (apos : Pos) (e : Expr) (cpos : Pos) : Prop where
  base : attributeBase o m X.env (eval o X.env) = eval o X.env
  few : ((backTo cpos (starEach [e] X.env)).all (fun x => !x.1) && (backToKw cpos (keywordEach [] X.env)).all (fun x => x.1.isSome)
    && decide (([e] : List Expr).length + ([] : List Keyword).length + (if ([] : List Keyword).isEmpty then 0 else 1) < 30)) = true
  line : (apos.endLine == cpos.line) = true
  trees : backTo cpos (starEach [e] X.env) = [(false, eval e X.env)]
structure M2 (X : Cx) (o : Expr) (m : Str) (apos : Pos) (e f : Expr) (cpos : Pos) : Prop where
  base : attributeBase o m X.env (eval o X.env) = eval o X.env
  few : ((backTo cpos (starEach [e, f] X.env)).all (fun x => !x.1) && (backToKw cpos (keywordEach [] X.env)).all (fun x => x.1.isSome)
    && decide (([e, f] : List Expr).length + ([] : List Keyword).length + (if ([] : List Keyword).isEmpty then 0 else 1) < 30)) = true
  line : (apos.endLine == cpos.line) = true
  trees : backTo cpos (starEach [e, f] X.env) = [(false, eval e X.env), (false, eval f X.env)]
section
variable {X : Cx} {pins : List (Addr × Obj)} {σ : St} {H : Hp} {s : Shared} {a : Addr} {y d : V} {u r : Value} {o : Option V} {A : Around} {E : Value → Shared → Prop}
end
section
variable {X : Cx} {o e f : Expr} {apos cpos : Pos} {td ty tx : TE}
end
section
variable {X : Cx} {pins : List (Addr × Obj)} {σ : St} {H : Hp} {s : Shared} {a : Addr} {kvs : List (Key × V)} {A : Around} {E : Value → Shared → Prop}
end
section
variable {X : Cx} {pins : List (Addr × Obj)} {σ : St} {H : Hp} {s : Shared} {a : Addr} {y : V} {u : Value} {A : Around} {E : Value → Shared → Prop}
end
end L2
namespace Att
open PySem PySem.W PySem.Calls PyProof.Rows
theorem ints_of_wellAll {P : Params} {h : Heap} : ∀ (ns : List Int) (vs : List Value), WellAll P h vs (ns.map WData.int) → IntsAre vs ns := by
  intro ns
  induction ns with
  | nil =>
    intro vs w
    rw [List.map_nil] at w
    cases w
    exact .nil
  | cons n ns ih =>
    intro vs w
    rw [List.map_cons] at w
    cases w with
    | cons a b =>
      cases a
      exact .cons _ _ (ih _ b)
theorem script_of {l : OpenLaw} {n : Nat} (hn : l.most = some n) {P : Params} {h : Heap} {args : List WData} {vals : List Value}
    (hpre : l.row.toRowW.claim.pre args = true) (hwl : WellAll P h vals args) :
    ∃ a vs ns, vals = [Value.ref a] ∧ args = [WData.list (ns.map WData.int)] ∧ h.get? a = some { cls := .type "list", data := .seq vs.toArray } ∧ IntsAre vs ns ∧ ns.length ≤ n := by
  have hsh : WShape.hasAll [] args [.list .int] = true := (pre_splitW hpre).1
  have hc : l.pre.holds [] { args := args } = true := (pre_splitW hpre).2
  obtain ⟨d, r, rfl, h1, h2⟩ := hasAllW_cons hsh
  obtain rfl := hasAllW_nil h2
  obtain ⟨xs, rfl, h3⟩ := hasW_list h1
  obtain ⟨ns, rfl⟩ := items_int h3
  have hlen : ns.length ≤ n := by
    unfold OpenLaw.pre at hc
    have h4 : (WTm.not (.lt (.lit (.int (n : Int))) (.len (.arg 0)))).holds [] { args := [.list (ns.map .int)] } = true := by
      have h4 := (holds_andW hc).1
      rw [hn] at h4
      exact h4
    have h5 := condW_of h4 (w_not (w_lt w_lit (w_len_list (w_arg rfl))))
    rw [List.length_map] at h5
    refine Nat.le_of_not_lt fun q => ?_
    have q' : (n : Int) < ((ns.length : Nat) : Int) := by omega
    first
      | (rw [decide_eq_true q'] at h5; exact absurd h5 (by decide))
      | (simp at h5; omega)
  cases hwl with
  | cons w1 w2 =>
    cases w2
    cases w1 with
    | list ho hall => exact ⟨_, _, ns, rfl, rfl, ho, ints_of_wellAll ns _ hall, hlen⟩
theorem post_true (l : OpenLaw) (args : List WData) : l.row.toRowW.claim.post args (.bool true) args = true :=
  postW_of (r := l.row.toRowW) (X := (true == true))
    (show WShape.has [] (.bool true) .bool = true by first | rfl | decide | simp [WShape.has, WShape.arms, WShape.armsAll])
    (show (WTm.eq .res (.lit (.bool true))).value [] { args := args, res := some (.bool true), after := args } = some (.bool (true == true)) from w_eq_bool (w_res rfl) w_lit) rfl
/-- the same from a codeAny of the CALL (for a layer whose function contracts speak of calls) -/
theorem attach_call {l : OpenLaw} {n : Nat} {q : Program} {loose : List Str} {XP : (Str → Option Value) → Heap → Prop} {YP : World → Heap → Prop} {d : DefRec}
    (hn : l.most = some n) (hdf : d.params.defaults = [])
    (call : ∀ (w : World) (s₀ s₁ : Shared) (mg mb : Str → Option Value) (fa : Addr) (o : Obj) (pm cd doc : Value) (a : Addr) (vs : List Value) (ns : List Int),
      Ground q loose [] XP w s₀ mg mb s₁.heap → YP w s₁.heap →
      s₁.heap.get? fa = some o → o.data = .func (docDef d.name d.params d.body d.scope pm cd doc) → s₁.heap.CodeRec cd d.name → mg d.name = some (.ref fa) →
      s₁.heap.get? a = some { cls := .type "list", data := .seq vs.toArray } → IntsAre vs ns → ns.length ≤ n → s₁.gens = #[] →
      codeAny (model l.prog w) callerA (.call (.ref fa) ⟨[.ref a], []⟩) (fun r s' => r = .ok (.ret (.bool true)) ∧ OldK s₁.heap s'.heap ∧ s'.os = s₁.os ∧ AllBare s'.gens) s₁) :
    WalkO q loose XP YP l.row.toRowW d [] (fun f vs => PySem.call f vs) := by
  intro w s₀ s₁ mg mb G Y fa o pm cd doc dV kV ho hd hcd hD hmg hg args vals as hpre hlay hrd hwl hlo
  obtain rfl : dV = .none := Dflts.none hD hdf
  obtain rfl : kV = .none := Dflts.noKw hD
  obtain ⟨a, vs, ns, rfl, rfl, hobj, hints, hlen⟩ := script_of hn hpre hwl
  refine enter_call (codeAny_mono (call w s₀ s₁ mg mb fa o pm cd doc a vs ns G Y ho (fd_plain hd) hcd hmg hobj hints hlen hg) fun r s' hq => ?_)
  obtain ⟨rfl, h2, h3, h4⟩ := hq
  exact ⟨.inl ⟨.bool true, .bool true, [], rfl, fun _ => rfl, .bool true, post_true l _, fun _ => ⟨List.Pairwise.nil, fun _ hm => (nomatch hm)⟩⟩, h2, h3, h4⟩
section
variable {prog : Program} {w : World} {A : Around} {E : Value → Shared → Prop} {s : Shared} {K : Frag}
def ledger (h : Heap) (L d : Addr) : List (Addr × Obj) := (List.range h.objs.size).filterMap fun a => if a = L ∨ a = d then none else (h.get? a).map fun o => (a, o)
end
end Att
namespace L2
open PySem PySem.Spec PyProof.Rows
theorem vals_ints : ∀ {vs : List Value} {ns : List Int}, IntsAre vs ns → Vals (ns.map V.int) vs
  | _, _, .nil => .nil
  | _, _, .cons n t h => .cons ⟨t, rfl⟩ (vals_ints h)
/-- nothing is tracked but the script, known to the object (or it is an object of the module) -/
def Only (H : Hp) : Prop := ∀ b, H b = none ∨ ∃ o xs, H b = some (.frz o (.lst xs))
/-- THE HEAD: the law's promise, at the heap behind the top. F, the promise of the law's def, may use that base is part of the heap (so K.In base, base.Ns mainGlobals mg stand in Mod) -/
theorem law_call {P : Program} {w : World} {K : PySem.W.Frag} {mg mb : Str → Option Value} {CX : CXT} {k : Nat} {fa a : Addr} {fd : FuncData} {x : Str} {sp : Sp} {s₁ : Shared} {vs : List Value} {ns : List Int}
    (KX : K.In s₁.heap) (hns : s₁.heap.Ns mainGlobals mg) (hb : s₁.heap.Ns builtinsNs mb) (hbb : ∀ x : Str, x ≠ "__name__" → mb x = bootBuiltins x) (hlim : s₁.heap.NoLimit) (hg : s₁.gens = #[])
    (ha : s₁.heap.get? a = some { cls := .type "list", data := .seq vs.toArray }) (hi : IntsAre vs ns) (hl : ns.length ≤ sizeLine) (hr : Room k callerA)
    (F : ∀ base : Heap, K.In base → base.Ns mainGlobals mg → FnOk P w K mg base CX k fa fd [x] sp) (hbind : ∀ (s : Shared) (u : Value), BindsTo s fd ⟨[u], []⟩ [(x, u)])
    (hsp : ∀ H : Hp, Only H → SqL K H a (ns.map V.int) → sp [.ref a] H (fun v _ => v = .bl true) fun _ _ _ => False)
    (hCX : ∀ H e s', CX [] H s₁ (fun _ _ _ => False) e s' → False) :
    codeAny (model P w) callerA (.call (.ref fa) ⟨[.ref a], []⟩) (fun r s' => r = .ok (.ret (.bool true)) ∧ OldK s₁.heap s'.heap ∧ s'.os = s₁.os ∧ AllBare s'.gens) s₁ := by
  have rv := vals_ints hi
  have lenV := hi.length
  -- from an abstract heap in which nothing but the script may be tracked
  have core : ∀ H : Hp, Only H → SqL K H a (ns.map V.int) → HOk P w H s₁.heap → (∀ b, H b ≠ none → b = a) → (H a ≠ none → K.lookup a = none) →
      codeAny (model P w) callerA (.call (.ref fa) ⟨[.ref a], []⟩) (fun r s' => r = .ok (.ret (.bool true)) ∧ OldK s₁.heap s'.heap ∧ s'.os = s₁.os ∧ AllBare s'.gens) s₁ := by
    intro H hO hS hok hA hK
    have base_of : ∀ {b : Addr} {o : Obj}, s₁.heap.get? b = some o → H b = none → (hidT s₁.heap H).get? b = some o := fun e n => hidT_get e n
    have noA : ∀ {b : Addr} {o : Obj} {es : Array DictEntry} {ep : Nat}, s₁.heap.get? b = some o → o.data = .dict es ep → H b = none := fun {b o es ep} e d => by
      cases q : H b with
      | none => rfl
      | some u =>
        have e' : b = a := hA b (by rw [q]; simp)
        subst e'
        rw [ha] at e; cases e
        have d' : Data.seq vs.toArray _ = Data.dict es ep := d
        cases d'
    have nsK : ∀ {b : Addr} {m : Str → Option Value}, s₁.heap.Ns b m → (hidT s₁.heap H).Ns b m := fun {b m} ⟨o, es, ep, e, d, r⟩ => ⟨o, es, ep, base_of e (noA e d), d, r⟩
    have hKb : K.In (hidT s₁.heap H) := fun b o e => base_of (KX b o e) (by
      cases q : H b with
      | none => rfl
      | some u =>
        have e' : b = a := hA b (by rw [q]; simp)
        subst e'
        rw [hK (by rw [q]; simp)] at e; cases e)
    have hM : Mod K mg (hidT s₁.heap H) := ⟨hKb, nsK hns, ⟨mb, nsK hb, hbb⟩, let ⟨mc, h1, h2⟩ := hlim; ⟨mc, nsK h1, h2⟩⟩
    have e0 : Env0 P w K mg (hidT s₁.heap H) callerA [] s₁ H := ⟨rfl, hM, fun b o e => of_hidT e, Nat.le_of_eq (hidT_size _ _), trivial, fun b hb => absurd (show b ∈ ([] : List Addr) from hb) (by simp), hok, .of_eq hg⟩
    refine codeAny_mono ((F _ hKb (nsK hns)).run callerA [] s₁ H ⟨[.ref a], []⟩ [.ref a] [.ref a] _ _ hr e0 (hbind s₁ (.ref a)) (.cons rfl .nil) (hsp H hO hS)) fun r s' h => ?_
    cases r with
    | error e => exact (hCX H e s' h).elim
    | ok fl =>
      cases fl with
      | next => exact False.elim h
      | brk => exact False.elim h
      | cont => exact False.elim h
      | ret u =>
        obtain ⟨v, H', os, bare, un, hok', r', q⟩ := h
        have q' : v = .bl true := q
        subst q'
        obtain rfl : u = Value.bool true := r'
        refine ⟨rfl, OldK.of_keep fun b o e => ?_, os, bare⟩
        cases q : H b with
        | none => exact un.keep b o e q (by intro z; exact absurd (show b ∈ ([] : List Addr) from z) (by simp)) (by simp)
        | some u =>
          rcases hO b with z | ⟨ob, xs, z⟩
          · rw [q] at z; cases z
          · have z2 := un.frzs b ob _ z
            obtain ⟨e1, _⟩ := hok b _ z
            obtain ⟨e2, _⟩ := hok' b _ z2
            rw [e] at e1; cases e1
            exact e2
  cases hk : K.lookup a with
  | some o =>
    -- the script is one of the module's own objects
    have e := KX a o hk
    rw [ha] at e
    cases e
    refine core (fun _ => none) (fun _ => .inl rfl) (.inr ⟨_, vs.toArray, _, hk, rfl, rfl, rfl, by rw [List.size_toArray, lenV]; exact hl, by simpa using rv⟩) (fun b u z => by have z' : (none : Option HO) = some u := z; cases z') (fun b z => absurd rfl z) fun z => absurd rfl z
  | none =>
    refine core (fun b => if b = a then some (.frz { cls := .type "list", data := .seq vs.toArray } (.lst (ns.map V.int))) else none) (fun b => ?_) (.inl (.inr ⟨{ cls := .type "list", data := .seq vs.toArray }, if_pos rfl⟩)) (fun b u z => ?_) (fun b z => ?_) fun _ => hk
    · by_cases hb : b = a
      · exact .inr ⟨_, _, if_pos hb⟩
      · exact .inl (if_neg hb)
    · by_cases hb : b = a
      · have z' := (if_pos hb).symm.trans z
        cases z'
        subst hb
        exact ⟨ha, by rw [List.length_map]; exact hl, vs, _, rv, ha⟩
      · have z' := (if_neg hb).symm.trans z
        cases z'
    · by_cases hb : b = a
      · exact hb
      · exact absurd (if_neg hb) z
end L2
namespace L2
open PySem PySem.Spec PyProof.Rows
abbrev KOf {K : PySem.W.Frag} {h : Heap} (_ : K.In h) : PySem.W.Frag := K
/-- the goal that k_head leaves (case hc), from the law's promise. F gives the function object fd (K's own) once, then the promise over every base -/
theorem walk_of {l : PySem.W.OpenLaw} {n k : Nat} {q : Program} {loose : List Str} {XP : (Str → Option Value) → Heap → Prop} {YP : World → Heap → Prop} {d : DefRec} {K : Params → PySem.W.Frag} {CX : World → CXT} {sp : World → Sp} {x : Str}
    (hn : l.most = some n) (hn2 : n ≤ sizeLine) (hdf : d.params.defaults = []) (hr : Room k callerA)
    (hY : ∀ (w : World) (h : Heap), YP w h → (K w.params).In h)
    (F : ∀ (w : World) (mg : Str → Option Value) (fa : Addr) (h : Heap), (K w.params).In h → h.Ns mainGlobals mg → mg d.name = some (.ref fa) →
      ∃ fd : FuncData, (∀ (s : Shared) (u : Value), BindsTo s fd ⟨[u], []⟩ [(x, u)]) ∧
        ∀ base : Heap, (K w.params).In base → base.Ns mainGlobals mg → FnOk l.prog w (K w.params) mg base (CX w) k fa fd [x] (sp w))
    (hsp : ∀ (w : World) (H : Hp) (a : Addr) (ns : List Int), ns.length ≤ n → Only H → SqL (K w.params) H a (ns.map V.int) → sp w [.ref a] H (fun v _ => v = .bl true) fun _ _ _ => False)
    (hCX : ∀ (w : World) (H : Hp) (s : Shared) (e : Value) (s' : Shared), CX w [] H s (fun _ _ _ => False) e s' → False) :
    PySem.W.WalkO q loose XP YP l.row.toRowW d [] (fun f vs => PySem.call f vs) := by
  refine Att.attach_call hn hdf fun w s₀ s₁ mg mb fa o pm cd doc a vs ns G Y ho hd hcd hmg hobj hints hlen hg => ?_
  have KX := hY w _ Y
  obtain ⟨fd, hb, hF⟩ := F w mg fa _ KX G.T.g hmg
  exact law_call KX G.T.g G.T.b G.T.builtins G.T.nolimit hg hobj hints (Nat.le_trans hlen hn2) hr hF hb (fun H hO hS => hsp w H a ns hlen hO hS) fun H e s' => hCX w H s₁ e s'
end L2
/- THE LAST THEOREM (shape; LID, My.* are yours):
   My.Adr: a structure of the addresses that your layer names (classes, functions); My.Txt K t: a structure (Prop) of the equations over K;
   My.txt_mk : {K} {implicit addresses ..} (e1 : nsIn K mainGlobals "law" = some (some (.ref f))) (e2 : K.lookup f = some ⟨oc, od, .func (fnOf "law" "law" params body scope dV kV doc pm an cdv ct), sl⟩) (e3 : codeIn K cdv "law" = true) .. : ∃ t, My.Txt K t
set_option maxRecDepth 100000 in
set_option maxHeartbeats 0 in
theorem PySem.Challenge.cw_LID_holds : PySem.Challenge.rw_LID.Holds := by
  w_on; o_law; k_head; (case hw => w_witness2)
  k_fill
  refine L2.walk_of (l := PySem.Challenge.rw_LID) (n := 63) (k := 40) (x := "script") (CX := fun w => ..) (sp := fun _ => My.sp_law) rfl (by decide) rfl ⟨rfl, by decide, by decide⟩ (fun w h Y => PySem.W.kIn_of Y) ?F ?S ?C
  case F =>
    intro w mg fa h KX G hmg
    have T : ∃ t, My.Txt (L2.KOf KX) t := by
      dsimp only [L2.KOf]                          -- K must stand as «<heap const> w.params» for k_is
      refine' My.txt_mk ?e1 ?e2 ?e3 ..
      (case e1 => PySem.W.k_is)                    -- in the order: a name -> its address -> its object -> its parts
      (case e2 => PySem.W.k_is)
      ..
    obtain ⟨t, T⟩ := T
    have e0 := hmg.symm.trans (PySem.W.mg_of KX G T.law)
    cases e0                                       -- fa is the law's own address
    exact ⟨_, fun s u => .of_eq rfl, fun base kb nb => My.law_fn T kb nb⟩     -- if «.of_eq rfl» comes too early: refine' ⟨_, ?b, fun base kb nb => My.law_fn T kb nb⟩; exact fun s u => .of_eq rfl
  case S => exact fun w H a ns hl hO hS => ..
  case C => exact ..
(the tactic k_is has no namespace: write k_is) -/
namespace L2
open PySem PySem.Spec PyProof.Rows
def defArgs (s : Stmt) : Arguments := match s with
  | .FunctionDef _ a _ _ _ _ _ _ _ _ => a
  | _ => { posonlyargs := [], args := [], vararg := none, kwonlyargs := [], kw_defaults := [], kwarg := none, defaults := [] }
def defBody (s : Stmt) : List Stmt := match s with
  | .FunctionDef _ _ b _ _ _ _ _ _ _ => b
  | _ => []
def defScope (s : Stmt) : Scope := match s with
  | .FunctionDef _ _ _ _ _ _ sc _ _ _ => sc
  | _ => { kind := .function, names := [], isGenerator := false, isCoroutine := false }
abbrev CX0 : CXT := fun _ _ _ _ _ _ => False
abbrev E0 : XK := fun _ _ _ => False
theorem pass0 {X : Cx} : Passes CX0 X E0 := fun _ _ _ _ _ _ _ h => h.elim
structure Fun (K : PySem.W.Frag) (x qual : Str) (st : Stmt) (f : Addr) (fd : FuncData) : Prop where
  ex : ∃ (oc : Value) (od : Option Addr) (kV doc pm : Value) (an : Option Addr) (cdv ct : Value) (osl : Array (Option Value)),
    fd = PySem.W.fnOf x qual (defArgs st) (defBody st) (defScope st) .none kV doc pm an cdv ct ∧ K.lookup f = some ⟨oc, od, .func fd, osl⟩ ∧ PySem.W.codeIn K cdv qual = true
  kp : PySem.W.keepIn K (.ref f) = true
section
variable {P : Program} {w : World} {K : PySem.W.Frag} {mg : Str → Option Value} {base : Heap}
/-- THE RULE for a def: its body as a term of rules, and the reading of that term -/
theorem Fun.ok {x qual : Str} {st : Stmt} {f : Addr} {fd : FuncData} {N ps : List Str} {k : Nat} {sp : Sp} (F : Fun K x qual st f fd) (S : FnScope N ps (defScope st)) (len : ∀ vs H Q E, sp vs H Q E → vs.length = ps.length)
    (hbody : ∀ (cdv : Value) (A : Around) (outer : List Env) (s : Shared) (H : Hp) (vs : List V) (Q : VK) (E : XK), Room k (A.deeper (envOfC qual (defScope st) s.heap.objs.size f cdv)) → sp vs H Q E →
      ∃ t, PSs (cxOf CX0 P w K mg base N qual (defScope st) f cdv A outer s H E).nox (defBody st) t ∧ t { nx := fun _ H' => Q .non H', rt := Q } (start N vs) H) : FnOk P w K mg base CX0 (k + 1) f fd ps sp := by
  obtain ⟨oc, od, kV, doc, pm, an, cdv, ct, osl, rfl, lk, hcd⟩ := F.ex
  refine fn_of lk hcd S len fun A outer s H vs Q E hr hsp => ?_
  obtain ⟨t, h, q⟩ := hbody cdv A outer s H vs Q E hr hsp
  exact ⟨t, h.nox, q⟩
/-- how its arguments bind (no defaults): h is «fun _ _ _ _ _ _ us hl => match us, hl with | [_, _], _ => rfl», one _ a parameter -/
theorem Fun.binds {x qual : Str} {st : Stmt} {f : Addr} {fd : FuncData} {ps : List Str} (F : Fun K x qual st f fd)
    (h : ∀ (kV doc pm : Value) (an : Option Addr) (cdv ct : Value) (us : List Value), us.length = ps.length → bindArgs (PySem.W.fnOf x qual (defArgs st) (defBody st) (defScope st) .none kV doc pm an cdv ct) ⟨us, []⟩ = pure (ps.zip us)) : Binds K fd ps [] := by
  obtain ⟨oc, od, kV, doc, pm, an, cdv, ct, osl, rfl, lk, hcd⟩ := F.ex
  exact .all (h kV doc pm an cdv ct)
theorem fun_mk {x qual : Str} {st : Stmt} {f : Addr} {oc : Value} {od an : Option Addr} {osl : Array (Option Value)} {kV doc pm cdv ct : Value} (l : K.lookup f = some ⟨oc, od, .func (PySem.W.fnOf x qual (defArgs st) (defBody st) (defScope st) .none kV doc pm an cdv ct), osl⟩)
    (c : PySem.W.codeIn K cdv qual = true) (k : PySem.W.keepIn K (.ref f) = true) : Fun K x qual st f (PySem.W.fnOf x qual (defArgs st) (defBody st) (defScope st) .none kV doc pm an cdv ct) := ⟨⟨oc, od, kV, doc, pm, an, cdv, ct, osl, rfl, l, c⟩, k⟩
end
theorem hu_of {A : Around} {k : Nat} (hr : Room k A) : A.units + 1 < cLine := Nat.lt_of_le_of_lt (Nat.add_le_add_left (by decide : 1 ≤ 64) _) hr.units
section
variable {X : Cx}
theorem pv (i : Nat) {x : Str} {pos : Pos} (hN : X.N[i]? = some x := by rfl) (hv : Vis X.env.scope x := by first | exact Or.inl rfl | exact Or.inr (Or.inl rfl) | exact Or.inr (Or.inr rfl)) (hd : (x == ("__debug__" : Str)) = false := by decide)
    (hcd : (x == ("__classdict__" : Str)) = false := by decide) : PE X (.Name x pos) (tVar i) := pe_var hN hv hd hcd
end
theorem iteF {A B : Prop} (h : B) : if false = true then A else B := by
  rw [if_neg Bool.false_ne_true]
  exact h
theorem iteT {A B : Prop} (h : A) : if true = true then A else B := by
  rw [if_pos rfl]
  exact h
/-- all that was tracked is as it was -/
def Same (H H' : Hp) : Prop := ∀ b o, H b = some o → H' b = some o
theorem Same.refl (H : Hp) : Same H H := fun _ _ h => h
theorem Same.trans {H H1 H2 : Hp} (a : Same H H1) (b : Same H1 H2) : Same H H2 := fun c o h => b c o (a c o h)
theorem Same.free {H H' : Hp} (e : Same H H') {l : Addr} (h : H' l = Option.none) : H l = Option.none := by
  cases q : H l with
  | none => rfl
  | some o =>
    rw [e l o q] at h
    cases h
theorem Same.seq {K : PySem.W.Frag} {H H' : Hp} {a : Addr} {xs : List V} (e : Same H H') (h : SqL K H a xs) : SqL K H' a xs := by
  rcases h with (h | ⟨o, h⟩) | h
  · exact .inl (.inl (e _ _ h))
  · exact .inl (.inr ⟨o, e _ _ h⟩)
  · exact .inr h
section
variable {X : Cx}
end
section
variable {κ : Type} [DecidableEq κ]
end
end L2
namespace L2
open PySem PySem.Spec PyProof.Rows
abbrev ts (x : Str) : List Nat := x.cps.toList
abbrev tx (l : List Nat) : Str := ⟨l.toArray⟩
theorem ts_tx (l : List Nat) : ts (tx l) = l := rfl
theorem tx_ts (x : Str) : tx (ts x) = x := by cases x; simp [tx, ts]
theorem ts_len (x : Str) : x.length = (ts x).length := by simp [Str.length, ts]
theorem tx_len (l : List Nat) : (tx l).length = l.length := by simp [Str.length, tx]
theorem str_ext {x y : Str} (h : ts x = ts y) : x = y := by rw [← tx_ts x, ← tx_ts y, h]
theorem app_tx (a b : List Nat) : tx a ++ tx b = tx (a ++ b) := by
  apply str_ext
  show (a.toArray ++ b.toArray).toList = a ++ b
  simp
theorem foldl_app (xs : Array Nat) : ∀ (k : Nat) (acc : Array Nat), ((List.replicate k xs).foldl (· ++ ·) acc).toList = acc.toList ++ (List.replicate k xs.toList).flatten
  | 0, acc => by simp
  | k + 1, acc => by
    rw [List.replicate_succ, List.foldl_cons, foldl_app xs k (acc ++ xs)]
    simp [List.replicate_succ]
theorem mul_tx (x : Str) (n : Int) : Txt.mul x n = tx (List.replicate n.toNat (ts x)).flatten := by
  apply str_ext
  rw [ts_tx]
  unfold Txt.mul
  by_cases h1 : n < 1
  · rw [if_pos h1]
    have e : n.toNat = 0 := by omega
    rw [e]; rfl
  · rw [if_neg h1]
    by_cases h2 : (n == 1 || x.length == 0) = true
    · rw [if_pos h2]
      rcases (Bool.or_eq_true _ _).mp h2 with h3 | h3
      · have e : n = 1 := by simpa using h3
        subst e; simp
      · have e : x.length = 0 := by simpa using h3
        rw [ts_len] at e
        have e2 : ts x = [] := List.eq_nil_of_length_eq_zero e
        show ts x = _
        rw [e2]; simp
    · rw [if_neg h2]
      show ((List.replicate n.toNat x.cps).foldl (· ++ ·) #[]).toList = _
      rw [foldl_app]; simp
section
variable {X : Cx}
def rMulS : R2 := fun x y H Q => ∃ z n, x = .str z ∧ y = .int n ∧ z.length ≤ 1000 ∧ -1000 ≤ n ∧ n ≤ 1000 ∧ Q (.str (tx (List.replicate n.toNat (ts z)).flatten)) H
theorem op_mul_str : OpR X (binaryOp .Mult) rMulS := by
  intro pins s σ H x y v u Q I rx ry h
  obtain ⟨z, n, rfl, rfl, hz, h0, h1, q⟩ := h
  obtain ⟨t, rfl⟩ := rx
  obtain ⟨t', rfl⟩ := ry
  refine SB.mul ⟨by rw [decide_eq_false (by omega), decide_eq_false (by omega)]; rfl, fun a _ b => ?_, fun a _ => ?_⟩ fun t' k => ⟨.str (Txt.mul z n), H, I.tok _, ⟨_, rfl⟩, by rw [mul_tx]; exact q⟩
  · have h2 : (9223372036854775 : Int) ≤ (2 ^ 63 - 1 : Int) / n := Int.le_ediv_of_mul_le (by omega) (by omega)
    omega
  · unfold PySem.Builtin.Str.tooLong
    have e : z.length * n.toNat ≤ 1000 * 1000 := Nat.mul_le_mul hz (by omega)
    exact decide_eq_false (by rw [sizeLine_eq]; omega)
theorem strsAre_of {ys : List Str} : ∀ {us : List Value}, Vals (ys.map V.str) us → StrsAre us ys := by
  induction ys with
  | nil => intro us r; rw [List.map_nil] at r; cases r; exact .nil
  | cons n ns ih =>
    intro us r
    rw [List.map_cons] at r
    cases r with
    | cons r1 r2 =>
      obtain ⟨t, e⟩ := r1
      subst e
      exact .cons n t (ih r2)
theorem glue_foldl (g : Str) : ∀ (ps : List Str) (acc : Array Nat), (ps.foldl (fun a p => a ++ g.cps ++ p.cps) acc).toList = acc.toList ++ (ps.map fun p => ts g ++ ts p).flatten
  | [], acc => by simp
  | p :: ps, acc => by
    rw [List.foldl_cons, glue_foldl g ps]
    simp
theorem join_nil (ys : List Str) : Txt.join (tx []) ys = tx (ys.map ts).flatten := by
  apply str_ext
  show ((ys.drop 1).foldl (fun acc p => acc ++ (tx []).cps ++ p.cps) (ys.headD Str.empty).cps).toList = _
  rw [glue_foldl]
  cases ys with
  | nil => rfl
  | cons y r =>
    show ts y ++ (List.map (fun p => ts (tx []) ++ ts p) r).flatten = ts y ++ (List.map ts r).flatten
    simp only [ts_tx, List.nil_append]
def rJoin (K : PySem.W.Frag) : V → List V → Hp → VK → Prop := fun x vs H Q => ∃ (p : Addr) (ys : List Str), x = .str (tx []) ∧ vs = [.ref p] ∧ SqL K H p (ys.map V.str) ∧ ((ys.map ts).flatten).length ≤ 100000 ∧ Q (.str (tx (ys.map ts).flatten)) H
theorem sum_len (ys : List Str) : (ys.map (·.length)).sum = ((ys.map ts).flatten).length := by
  induction ys with
  | nil => rfl
  | cons y r ih => rw [List.map_cons, List.sum_cons, ih, List.map_cons, List.flatten_cons, List.length_append, ts_len]
theorem mt_join : MtR X "str.join" (rJoin X.K) := by
  intro pins s σ H x vs v us Q I rx rv h
  obtain ⟨p, ys, rfl, rfl, hq, hz, q⟩ := h
  obtain ⟨t, rfl⟩ := rx
  obtain ⟨u, rfl, ru⟩ := rv.one
  cases ru
  obtain ⟨its, r, pl, _⟩ := I.list hq
  refine join_list (ys := ys) pl.isList (by simpa using strsAre_of r) ?_ fun t' k => ⟨.str (Txt.join (tx []) ys), H, I.tok _, ⟨_, rfl⟩, by rw [join_nil]; exact q⟩
  rw [sum_len, show (tx []).length = 0 from rfl, Nat.mul_zero]
  omega
def rInC (neg : Bool) : R2 := fun x y H Q => ∃ c j, x = .str (tx [c]) ∧ y = .str j ∧ Q (.bl (if neg then !decide (c ∈ ts j) else decide (c ∈ ts j))) H
def Its (x : Str) : It := ⟨fun i _ => i < (ts x).length, fun i H y H' => H' = H ∧ ∃ c, (ts x)[i]? = some c ∧ y = .str (tx [c]), fun i _ => (ts x).length ≤ i⟩
def iStr (tl : TE) : TI := fun σ H R => tl σ H fun x H1 => ∃ z, x = .str z ∧ R (Its z) H1
def eqLs : List V → List V → Bool
  | [], [] => true
  | x :: xs, y :: ys => eqV x y && eqLs xs ys
  | _, _ => false
theorem eqLs_range : ∀ (xs ys : List V), xs.length = ys.length → (List.range xs.length).all (fun j => match xs[j]?, ys[j]? with | some a, some b => eqV a b | _, _ => true) = eqLs xs ys
  | [], [], _ => rfl
  | x :: xs, y :: ys, h => by
    have ih := eqLs_range xs ys (by simpa using h)
    rw [List.length_cons, List.range_succ_eq_map, List.all_cons, List.all_map]
    show (eqV x y && _) = (eqV x y && eqLs xs ys)
    rw [← ih]
    congr 1
theorem eqLs_len : ∀ {xs ys : List V}, xs.length ≠ ys.length → eqLs xs ys = false
  | [], [], h => absurd rfl h
  | [], _ :: _, _ => rfl
  | _ :: _, [], _ => rfl
  | x :: xs, y :: ys, h => by
    have ih := eqLs_len (xs := xs) (ys := ys) (by simpa using h)
    show (eqV x y && eqLs xs ys) = false
    rw [ih, Bool.and_false]
def rEqL (K : PySem.W.Frag) (neg : Bool) : R2 := fun x y H Q => ∃ a b xs ys, x = .ref a ∧ y = .ref b ∧ SqL K H a xs ∧ SqL K H b ys ∧ xs.all flatV = true ∧ ys.all flatV = true ∧ Q (.bl (if neg then !eqLs xs ys else eqLs xs ys)) H
theorem Vals.some_at {xs : List V} {us : List Value} (r : Vals xs us) {j : Nat} (h : j < us.length) : ∃ x, xs[j]? = some x ∧ RelV x us[j] := by
  have hl := r.length
  obtain ⟨x, e⟩ : ∃ x, xs[j]? = some x := ⟨xs[j], by simp [hl, h]⟩
  obtain ⟨u, hu, ru⟩ := r.get e
  have e2 : us[j]? = some us[j] := by simp [h]
  rw [e2] at hu
  cases hu
  exact ⟨x, e, ru⟩
theorem lists_he {A : Around} {s : Shared} {xs ys : List V} {us ws : List Value} (r : Vals xs us) (q : Vals ys ws) (fx : xs.all flatV = true) (fy : ys.all flatV = true) :
    ∀ j (h1 : j < us.toArray.size) (h2 : j < ws.toArray.size), SeqAt.EqAt A s us.toArray[j] ws.toArray[j] ((fun j => match xs[j]?, ys[j]? with | some a, some b => eqV a b | _, _ => true) j) := fun j h1 h2 => by
  obtain ⟨x, e1, r1⟩ := r.some_at (j := j) (by simpa using h1)
  obtain ⟨y, e2, r2⟩ := q.some_at (j := j) (by simpa using h2)
  have f1 : flatV x = true := List.all_eq_true.mp fx x (List.mem_of_getElem? e1)
  have f2 : flatV y = true := List.all_eq_true.mp fy y (List.mem_of_getElem? e2)
  have z := eqAt_V (A := A) (s := s) r1 r2 f1 f2
  simp only [e1, e2]
  simpa using z
theorem op_ne_l (hu : X.A.units < cLine) : OpR X (compareOp .NotEq) (rEqL X.K true) := by
  intro pins s σ H x y v u Q I rx ry h
  obtain ⟨a, b, xs, ys, rfl, rfl, ha, hb, fx, fy, q⟩ := h
  cases rx
  cases ry
  obtain ⟨its, r1, pl1, _⟩ := I.list ha
  obtain ⟨its2, r2, pl2, _⟩ := I.list hb
  have l1 := r1.length
  have l2 := r2.length
  by_cases e : xs.length = ys.length
  · refine SeqAt.RcNeAt.lists pl1.isList pl2.isList (by simp only [List.size_toArray]; omega) hu (lists_he r1 r2 fx fy) X.prog X.w X.xe _ ⟨.bl _, H, I, rfl, ?_⟩
    rw [List.size_toArray, ← l1, eqLs_range xs ys e]
    exact q
  · refine SeqAt.RcNeAt.lists_lengths pl1.isList pl2.isList (by simp only [List.size_toArray]; simpa [← l1, ← l2] using e) hu X.prog X.w X.xe _ ⟨.bl _, H, I, rfl, ?_⟩
    have z := eqLs_len e
    simpa [z] using q
def tyS (H : Hp) : V → Option String
  | .non => some "NoneType"
  | .bl _ => some "bool"
  | .int _ => some "int"
  | .str _ => some "str"
  | .ref a => match H a with
    | some (.lst _) => some "list"
    | some (.tup _) => some "tuple"
    | some (.dK _) => some "dict"
    | _ => none
  | _ => none
def isSub (t T : String) : Bool := t == T || (t == "bool" && T == "int")
theorem tyS_of {K : PySem.W.Frag} {H : Hp} {x : V} {t : String} (h : tyS H x = some t) : TyOf K H x (.type t) := by
  cases x with
  | non => cases h; exact .non
  | bl b => cases h; exact .bl b
  | int i => cases h; exact .int i
  | str z => cases h; exact .str z
  | ref a =>
    have h' : (match H a with | some (.lst _) => some "list" | some (.tup _) => some "tuple" | some (.dK _) => some "dict" | _ => none) = some t := h
    cases e : H a with
    | none => rw [e] at h'; cases h'
    | some o =>
      rw [e] at h'
      cases o with
      | lst xs => cases h'; exact .lst e
      | tup xs => cases h'; exact .tup e
      | dK kvs => cases h'; exact .dK e
      | _ => cases h'
  | byt b => cases h
  | flt b => cases h
  | ty n => cases h
def tyL : List String := ["NoneType", "bool", "int", "str", "list", "tuple", "dict"]
def kitB (t T : String) : Option Bool := if (Value.type t == Value.type T) = true then some true else if PySem.W.kitMeta T = true then (fastBuiltinMro t).map (·.contains (.type T)) else none
theorem kitB_ok : (tyL.all fun t => tyL.all fun T => kitB t T == some (isSub t T)) = true := by decide +kernel
theorem kit_bi {K : PySem.W.Frag} {t T : String} (h1 : t ∈ tyL) (h2 : T ∈ tyL) : PySem.W.kitOne K (.type t) (.type T) = some (isSub t T) := by
  have a := List.all_eq_true.mp (List.all_eq_true.mp kitB_ok t h1) T h2
  have b : kitB t T = some (isSub t T) := by simpa using a
  exact b
theorem tyS_mem {H : Hp} {x : V} {t : String} (h : tyS H x = some t) : t ∈ tyL := by
  cases x <;> first | (cases h; simp [tyL]; done) | (cases h; done) | skip
  rename_i a
  have h' : (match H a with | some (.lst _) => some "list" | some (.tup _) => some "tuple" | some (.dK _) => some "dict" | _ => none) = some t := h
  split at h' <;> first | (cases h'; simp [tyL]; done) | (cases h'; done)
theorem call_isi {T : String} (hT : T ∈ tyL) : CallR X (.builtin "isinstance") (fun xs H Q => ∃ x t, xs = [x, .ty T] ∧ tyS H x = some t ∧ Q (.bl (isSub t T)) H) := by
  intro pins s σ H xs us Q I r h
  obtain ⟨x, t, rfl, ht, q⟩ := h
  obtain ⟨u, w', rfl, ru, rw'⟩ := vals2 r
  cases (show w' = Value.type T from rw')
  exact isinst_ok I ru (tyS_of ht) (kit_bi (tyS_mem ht) hT) fun tk => ⟨.bl _, H, I.tok _, rfl, q⟩
end
theorem bt_len : bootBuiltins "len" = some (.builtin "len") := by decide +kernel
theorem bt_isinstance : bootBuiltins "isinstance" = some (.builtin "isinstance") := by decide +kernel
theorem bt_str : bootBuiltins "str" = some (.type "str") := by decide +kernel
theorem bt_list : bootBuiltins "list" = some (.type "list") := by decide +kernel
theorem bt_dict : bootBuiltins "dict" = some (.type "dict") := by decide +kernel
theorem bt_tuple : bootBuiltins "tuple" = some (.type "tuple") := by decide +kernel
/-- which names of the text are Python's own -/
structure Bl (mg : Str → Option Value) : Prop where
  len : mg "len" = none
  range : mg "range" = none
  isinstance : mg "isinstance" = none
  all : mg "all" = none
  sum : mg "sum" = none
  int : mg "int" = none
  str : mg "str" = none
  bool : mg "bool" = none
  list : mg "list" = none
  dict : mg "dict" = none
  tuple : mg "tuple" = none
structure Dn (P : Program) (w : World) (K : PySem.W.Frag) (mg : Str → Option Value) (base : Heap) (k : Nat) (x : Str) (ps : List Str) (sp : Sp) : Prop where
  ex : ∃ (f : Addr) (fd : FuncData), FnOk P w K mg base CX0 k f fd ps sp ∧ Binds K fd ps [] ∧ PySem.W.keepIn K (.ref f) = true ∧ mg x = some (.ref f)
section
variable {X : Cx} {k j : Nat} {x : Str} {ps : List Str} {sp : Sp} {e : Expr} {es : List Expr} {t : TA} {p pos : Pos}
theorem pe_cd (D : Dn X.prog X.w X.K X.mg X.base k x ps sp) (hr : Room j X.A) (hj : k ≤ j) (hg : Gl X x) (ha : PA X (e :: es) t) (hdb : (x == ("__debug__" : Str)) = false := by decide)
    (he : starEach (e :: es) X.env = (false, eval e X.env) :: starEach es X.env := by rfl) (hpl : (backTo pos (starEach es X.env)).any (·.1) = false := by rfl) : PE X (.Call (.Name x p) (e :: es) [] pos) (tCall sp [] E0 t) := by
  obtain ⟨f, fd, h1, h2, h3, h4⟩ := D.ex
  exact pe_call h1 (hr.mono hj) hg h4 h3 h2 .nil pass0 ha hdb he hpl
theorem pe_cd0 (D : Dn X.prog X.w X.K X.mg X.base k x ps sp) (hr : Room j X.A) (hj : k ≤ j) (hg : Gl X x) (hdb : (x == ("__debug__" : Str)) = false := by decide) : PE X (.Call (.Name x p) [] [] pos) (tCall sp [] E0 tNil) := by
  obtain ⟨f, fd, h1, h2, h3, h4⟩ := D.ex
  exact pe_call0 h1 (hr.mono hj) hg h4 h3 h2 .nil pass0 hdb
end
end L2
namespace L2
open PySem PySem.Spec PyProof.Rows
theorem forIn_fold {α β : Type} {l : List α} {f : α → β → Sem (ForInStep β)} (g : β → α → β) (h : ∀ x ∈ l, ∀ c, f x c = pure (.yield (g c x))) : ∀ b : β, forIn l b f = pure (l.foldl g b) := by
  induction l with
  | nil => intro b; rfl
  | cons a r ih =>
    intro b
    rw [List.forIn_cons, h a List.mem_cons_self]
    show forIn r (g b a) f = _
    rw [ih (fun x hx => h x (List.mem_cons_of_mem _ hx)) (g b a)]
    rfl
def cloStep (env : Env) (cs : List (Str × Addr)) (x : Str × NameKind) : List (Str × Addr) :=
  if (x.2 == NameKind.free) = true then (match env.cells.lookup x.1 with | some a => (x.1, a) :: cs | none => cs) else cs
def clo (env : Env) (names : List (Str × NameKind)) : List (Str × Addr) := names.foldl (cloStep env) []
theorem closureFor_clo {scope : Scope} {env : Env} (h : ∀ x ∈ scope.names, x.2 = .free → ∃ c, env.cells.lookup x.1 = some c) : closureFor scope env = pure (clo env scope.names) := by
  simp only [closureFor]
  rw [forIn_fold (cloStep env) (fun x hx c => by
    obtain ⟨n, k⟩ := x
    by_cases hk : k = .free
    · subst hk
      obtain ⟨a, e⟩ := h _ hx rfl
      have e' : env.cells.lookup n = some a := e
      simp [cloStep, cellOf, e']
    · have e : (k == NameKind.free) = false := by simpa using hk
      simp [cloStep, e])]
  rfl
theorem clo_mem {env : Env} : ∀ (names : List (Str × NameKind)) (cs : List (Str × Addr)), (∀ p ∈ cs, env.cells.lookup p.1 = some p.2) → ∀ p ∈ names.foldl (cloStep env) cs, env.cells.lookup p.1 = some p.2
  | [], _, h => h
  | x :: r, cs, h => by
    refine clo_mem r (cloStep env cs x) fun p hp => ?_
    unfold cloStep at hp
    split at hp
    · split at hp
      · rename_i a e
        rcases List.mem_cons.mp hp with z | z
        · rw [z]; exact e
        · exact h p z
      · exact h p hp
    · exact h p hp
theorem clo_keep {env : Env} {p : Str × Addr} : ∀ (names : List (Str × NameKind)) (cs : List (Str × Addr)), p ∈ cs → p ∈ names.foldl (cloStep env) cs
  | [], _, h => h
  | x :: r, cs, h => by
    refine clo_keep r (cloStep env cs x) ?_
    unfold cloStep
    split
    · split
      · exact List.mem_cons_of_mem _ h
      · exact h
    · exact h
theorem clo_has {env : Env} {n : Str} {c : Addr} (e : env.cells.lookup n = some c) : ∀ (names : List (Str × NameKind)) (cs : List (Str × Addr)), (n, NameKind.free) ∈ names → (n, c) ∈ names.foldl (cloStep env) cs
  | [], _, h => nomatch h
  | x :: r, cs, h => by
    rcases List.mem_cons.mp h with z | z
    · subst z
      refine clo_keep r _ ?_
      unfold cloStep
      rw [if_pos (by rfl)]
      show (n, c) ∈ (match env.cells.lookup n with | some a => (n, a) :: cs | none => cs)
      rw [e]
      exact List.mem_cons_self
    · exact clo_has e r _ z
theorem lookup_some_of_mem {α : Type} {n : Str} {c : α} : ∀ {l : List (Str × α)}, (n, c) ∈ l → ∃ c', l.lookup n = some c'
  | [], h => nomatch h
  | (m, d) :: r, h => by
    by_cases e : n = m
    · subst e; exact ⟨d, by simp [List.lookup_cons]⟩
    · rcases List.mem_cons.mp h with z | z
      · cases z; exact absurd rfl e
      · obtain ⟨c', q⟩ := lookup_some_of_mem z
        have e2 : (n == m) = false := by simpa using e
        exact ⟨c', by rw [List.lookup_cons, e2]; exact q⟩
theorem clo_of {env : Env} {names : List (Str × NameKind)} {n : Str} {c : Addr} (h : (clo env names).lookup n = some c) : env.cells.lookup n = some c :=
  clo_mem names [] (fun _ z => nomatch z) (n, c) (PySem.mem_of_lookup h)
theorem clo_lookup {env : Env} {names : List (Str × NameKind)} {n : Str} {c : Addr} (e : env.cells.lookup n = some c) (h : (n, NameKind.free) ∈ names) : (clo env names).lookup n = some c := by
  obtain ⟨c', q⟩ := lookup_some_of_mem (clo_has e names [] h)
  have q' : (clo env names).lookup n = some c' := q
  have z := clo_of q'
  rw [e] at z
  rw [q', ← z]
/-- the outer names that the block sees: their slots -/
inductive FreeOk (X : Cx) (scope : Scope) : List (Str × Nat) → Prop where
  | nil : FreeOk X scope []
  | cons {x : Str} {i : Nat} {r : List (Str × Nat)} (h1 : X.N[i]? = some x) (h2 : X.env.kindOf x = some .cell) (h3 : scope.names.lookup x = some .free) (h : FreeOk X scope r) : FreeOk X scope ((x, i) :: r)
theorem FreeOk.mem {X : Cx} {scope : Scope} : ∀ {F : List (Str × Nat)}, FreeOk X scope F → ∀ p ∈ F, X.N[p.2]? = some p.1 ∧ X.env.kindOf p.1 = some .cell ∧ scope.names.lookup p.1 = some .free
  | _, .nil, _, h => nomatch h
  | _, .cons h1 h2 h3 h, p, hp => by
    rcases List.mem_cons.mp hp with z | z
    · subst z; exact ⟨h1, h2, h3⟩
    · exact h.mem p z
structure CompSc (X : Cx) (scope : Scope) (own : List Str) (F : List (Str × Nat)) : Prop where
  kind : scope.kind = .function
  nocell : (scope.names.all fun y => !(y.2 == NameKind.cell)) = true
  loc : (scope.names.all fun y => !(y.2 == NameKind.local) || (scope.names.lookup y.1 == some NameKind.local)) = true
  fr : (scope.names.all fun y => !(y.2 == NameKind.free) || (X.env.scope.names.lookup y.1 == some NameKind.cell)) = true
  free : FreeOk X scope F
def compN (own : List Str) (F : List (Str × Nat)) : List Str := own ++ F.map (·.1)
def compσ (own : List Str) (F : List (Str × Nat)) (σ : St) : St := own.map (fun _ => Option.none) ++ F.map (fun p => (σ[p.2]?).join)
def compCx (X : Cx) (own : List Str) (F : List (Str × Nat)) (scope : Scope) (C : Addr) (s₃ : Shared) (H₃ : Hp) (ex : List Addr) : Cx where
  prog := X.prog
  w := X.w
  K := X.K
  mg := X.mg
  base := X.base
  A := X.A
  N := compN own F
  s₀ := s₃
  H₀ := H₃
  env := compEnvC scope (clo X.env scope.names) C X.env
  outer := X.stack
  stack := X.stack
  ex := ex
  fn := fun _ => false
  calm := X.calm
  pn := []
  xe := fun _ _ => False
theorem CompSc.nc {X : Cx} {scope : Scope} {own : List Str} {F : List (Str × Nat)} (S : CompSc X scope own F) : ∀ y ∈ scope.names, y.2 ≠ .cell := fun y hy e => by
  have q := List.all_eq_true.mp S.nocell y hy
  rw [e] at q
  exact absurd q (by decide)
theorem CompSc.lc {X : Cx} {scope : Scope} {own : List Str} {F : List (Str × Nat)} (S : CompSc X scope own F) : ∀ y ∈ scope.names, y.2 = .local → scope.names.lookup y.1 = some .local := fun y hy e => by
  have q := List.all_eq_true.mp S.loc y hy
  rw [e] at q
  simpa using q
theorem CompSc.fc {X : Cx} {scope : Scope} {own : List Str} {F : List (Str × Nat)} (S : CompSc X scope own F) : ∀ y ∈ scope.names, y.2 = .free → X.env.kindOf y.1 = some .cell := fun y hy e => by
  have q := List.all_eq_true.mp S.fr y hy
  rw [e] at q
  have q' : X.env.scope.names.lookup y.1 = some NameKind.cell := by simpa using q
  exact q'
/-- a name of the relabelled scope that is a cell or free was free -/
theorem relabel_free {scope : Scope} {env : Env} (hc : ∀ y ∈ scope.names, y.2 ≠ .cell) {x : Str} (h : (relabel scope env).names.lookup x = some .cell ∨ (relabel scope env).names.lookup x = some .free) : (x, NameKind.free) ∈ scope.names := by
  have go : ∀ k, (relabel scope env).names.lookup x = some k → k = .cell ∨ k = .free → (x, NameKind.free) ∈ scope.names := fun k e hk => by
    have m := PySem.mem_of_lookup e
    unfold relabel at m
    obtain ⟨⟨n, k0⟩, hm, e2⟩ := List.mem_map.mp m
    by_cases hf : k0 = .free
    · subst hf
      dsimp only at e2
      split at e2 <;> (cases e2; exact hm)
    · have e3 : (k0 == NameKind.free) = false := by simpa using hf
      simp only [e3, Bool.false_and, Bool.false_eq_true, if_false] at e2
      cases e2
      rcases hk with z | z
      · exact absurd z (hc _ hm)
      · exact absurd z hf
  rcases h with h | h
  · exact go _ h (.inl rfl)
  · exact go _ h (.inr rfl)
theorem lookup_relabel_free {env : Env} (hf : env.scope.kind = .function) : ∀ {names : List (Str × NameKind)} {x : Str}, names.lookup x = some .free → env.kindOf x = some .cell →
    (names.map fun (n, k) => if (k == NameKind.free && env.scope.kind == .function && env.kindOf n == some .cell) then (n, NameKind.cell) else (n, k)).lookup x = some .cell
  | [], _, h, _ => by simp at h
  | (n, k) :: r, x, h, hx => by
    have ih := @lookup_relabel_free env hf r x
    rw [List.map_cons]
    by_cases e : x = n
    · subst e
      have hk : k = .free := by simpa [List.lookup_cons] using h
      subst hk
      have c : (NameKind.free == NameKind.free && env.scope.kind == .function && env.kindOf x == some .cell) = true := by rw [hf, hx]; rfl
      show List.lookup x ((if (NameKind.free == NameKind.free && env.scope.kind == .function && env.kindOf x == some .cell) = true then (x, NameKind.cell) else (x, NameKind.free)) :: _) = _
      rw [if_pos c]
      simp [List.lookup_cons]
    · have e2 : (x == n) = false := by simpa using e
      have h' : r.lookup x = some .free := by rw [List.lookup_cons, e2] at h; exact h
      have q := ih h' hx
      dsimp only
      split
      · rw [List.lookup_cons, e2]; exact q
      · rw [List.lookup_cons, e2]; exact q
section
variable {X : Cx} {pins : List (Addr × Obj)} {σ : St} {H : Hp} {s : Shared}
theorem Inv.freeCells {scope : Scope} {own : List Str} {F : List (Str × Nat)} (I : Inv X pins σ H s) (S : CompSc X scope own F) : ∀ x ∈ scope.names, x.2 = .free → ∃ c, X.env.cells.lookup x.1 = some c := fun x hx e =>
  I.ok.has x.1 (.inl (S.fc x hx e))
theorem Inv.notStk (I : Inv X pins σ H s) {b : Addr} (h1 : b ≠ X.env.locals) (h2 : b ∉ X.fs) : b ∉ frs X.stack := fun z => (List.mem_cons.mp (I.stkSub b z)).elim h1 h2
/-- the block begins -/
theorem comp_start {scope : Scope} {own : List Str} {F : List (Str × Nat)} {fp : List Addr} {h1 : Heap} {tk : Nat} (I : Inv X pins σ H s) (S : CompSc X scope own F) (hf : ∀ b ∈ fp, FpOk X pins H b) (hlt : ∀ b ∈ fp, b < s.heap.objs.size) {s3 : Shared}
    (e3 : s3 = { s with heap := s.heap.push { cls := .type "list", data := .seq ([] : List Value).toArray } })
    (hns : h1.Ns s3.heap.objs.size (fun _ => none)) (hk : ∀ b o, s3.heap.get? b = some o → h1.get? b = some o) :
    Inv (compCx X own F scope s3.heap.objs.size s3 H (s.heap.objs.size :: fp)) [] (compσ own F σ) H { s3 with heap := h1, toks := tk } := by
  have sz3 : s3.heap.objs.size = s.heap.objs.size + 1 := by rw [e3]; exact Heap.size_push ..
  have k3 : ∀ b o, s.heap.get? b = some o → s3.heap.get? b = some o := fun b o e => by rw [e3]; exact Heap.get?_push_of_some _ e
  have I3 : Inv X pins σ H s3 := by rw [e3]; exact I.kept (t' := s.toks) fun b o e => Heap.get?_push_of_some _ e
  have lkup : ∀ x c, (clo X.env scope.names).lookup x = some c → X.env.cells.lookup x = some c := fun x c e => clo_of e
  have base_lt : ∀ b o, X.base.get? b = some o → b < X.s₀.heap.objs.size := fun b o e => Nat.lt_of_lt_of_le (Heap.lt_size e) I.ok.bsz
  have kf : X.env.scope.kind = .function := I.ok.kind
  refine ⟨⟨I.ok.mod, S.kind, I.ok.glob, I.ok.blt, Nat.le_refl _, fun x y c h1 h2 => I.ok.inj x y c (lkup x c h1) (lkup y c h2), fun x hx => ?_, fun x c hx _ => (nomatch hx), I.ok.hd, I.ok.frames, .inl rfl, fun b hb => ?_, fun b o e => ?_, ?_, fun b o e hb => ?_, fun b hb => ?_, I3.stack, fun b hb => I.stkFree b hb⟩,
    rfl, I3.bare, Un.kept hk, ⟨_, hns, fun i x v e1 e2 e3' => ?_⟩, fun x c e => ?_, ?_, fun x c e => I.freeC x c (lkup x c e), fun p hp => absurd (show p ∈ ([] : List (Addr × Obj)) from hp) (by simp), I3.hok.kept hk, ?_⟩
  · have hm := relabel_free S.nc hx
    obtain ⟨c, e⟩ := I.freeCells S _ hm rfl
    exact ⟨c, clo_lookup e hm⟩
  · rcases List.mem_cons.mp hb with z | z
    · subst z
      refine ⟨fun q => ?_, fun x c e q => ?_⟩
      · have q' : s.heap.objs.size = s3.heap.objs.size := q
        omega
      · obtain ⟨v, u⟩ := I.cell x c (lkup x c e)
        exact absurd u.lt (by rw [q]; exact Nat.lt_irrefl _)
    · refine ⟨fun q => ?_, fun x c e => (hf b z).2.2.2.2.1 x c (lkup x c e)⟩
      exact Nat.ne_of_lt (Nat.lt_of_lt_of_le (hlt b z) (show s.heap.objs.size ≤ s3.heap.objs.size by omega)) q
  · obtain ⟨a1, a2⟩ := I.bs b o e
    exact ⟨k3 b o a1, a2⟩
  · exact Nat.le_trans (Nat.le_trans I.ok.bsz I.sz) (by show s.heap.objs.size ≤ s3.heap.objs.size; omega)
  · have l1 := base_lt b o e
    rcases List.mem_cons.mp hb with z | z
    · exact absurd (Nat.lt_of_lt_of_le l1 I.sz) (by rw [z]; exact Nat.lt_irrefl _)
    · rcases (hf b z).2.2.2.1 with q | q
      · exact I.ok.noex b o e q
      · exact absurd l1 (Nat.not_lt.mpr q)
  · rcases List.mem_cons.mp hb with z | z
    · subst z
      exact I.notStk (Nat.ne_of_gt I.lt) (I.nofs (Nat.le_refl _))
    · exact I.notStk (hf b z).2.1 (hf b z).2.2.1
  · -- a name that is seen
    have hi : own.length ≤ i := by
      by_cases z : i < own.length
      · rw [compσ, List.getElem?_append_left (by simpa using z), List.getElem?_map] at e2
        cases q : own[i]? with
        | none => rw [q] at e2; cases e2
        | some y => rw [q] at e2; cases e2
      · omega
    rw [compσ, List.getElem?_append_right (by simpa using hi), List.getElem?_map] at e2
    have e1' : (own ++ F.map (·.1))[i]? = some x := e1
    rw [List.getElem?_append_right hi, List.getElem?_map] at e1'
    simp only [List.length_map] at e2
    cases q : F[i - own.length]? with
    | none => rw [q] at e2; cases e2
    | some p =>
      rw [q] at e1' e2
      simp only [Option.map_some, Option.some.injEq] at e1' e2
      obtain ⟨f1, f2, f3⟩ := S.free.mem p (List.mem_of_getElem? q)
      subst e1'
      obtain ⟨m, hn, hl⟩ := I.loc
      have e4 : σ[p.2]? = some (some v) := by
        cases r : σ[p.2]? with
        | none => rw [r] at e2; cases e2
        | some o => rw [r] at e2; exact congrArg some e2
      obtain ⟨u, ru, l⟩ := hl p.2 p.1 v f1 e4 (.inr (.inl f2))
      refine ⟨u, ru, .inr ⟨.inl (lookup_relabel_free kf f3 f2), ?_⟩⟩
      rcases l with ⟨l, _⟩ | ⟨_, c, ec, z⟩
      · rw [f2] at l; cases l
      · refine ⟨c, clo_lookup ec (PySem.mem_of_lookup f3), ?_⟩
        obtain ⟨oc, ho, hd⟩ := z
        exact ⟨oc, hk _ _ (k3 _ _ ho), hd⟩
  · obtain ⟨v, oc, ho, hd⟩ := I.cell x c (lkup x c e)
    exact ⟨v, oc, hk _ _ (k3 _ _ ho), hd⟩
  · exact I.hok.fresh (by show s.heap.objs.size ≤ s3.heap.objs.size; omega)
  · show (compσ own F σ).length = (compN own F).length
    simp [compσ, compN]
/-- the block is through: the list is told -/
theorem comp_back {scope : Scope} {own : List Str} {F : List (Str × Nat)} {fp : List Addr} {s3 s4 : Shared} {σ' : St} {H' : Hp} {ys : List V} {its : List Value} {n : Nat} (I : Inv X pins σ H s) (hf : ∀ b ∈ fp, FpOk X pins H b)
    (e3 : s3 = { s with heap := s.heap.push { cls := .type "list", data := .seq ([] : List Value).toArray } })
    (J : Inv (compCx X own F scope s3.heap.objs.size s3 H (s.heap.objs.size :: fp)) [] σ' H' s4) (hz : ys.length ≤ sizeLine) (hv : Vals ys its)
    (ha : s4.heap.get? s.heap.objs.size = some { cls := .type "list", data := .seq its.toArray n }) (hn : H' s.heap.objs.size = none) : Inv X pins σ (upd H' s.heap.objs.size (.lst ys)) s4 := by
  have sz3 : s3.heap.objs.size = s.heap.objs.size + 1 := by rw [e3]; exact Heap.size_push ..
  have k3 : ∀ b o, s.heap.get? b = some o → s3.heap.get? b = some o := fun b o e => by rw [e3]; exact Heap.get?_push_of_some _ e
  have U : Un (frs X.stack) (s.heap.objs.size :: fp) H H' s3.heap s4.heap := J.base
  have ne : ∀ b o, s.heap.get? b = some o → b ≠ s.heap.objs.size := fun b o e => Nat.ne_of_lt (Heap.lt_size e)
  have nx : ∀ b o, s.heap.get? b = some o → b ∉ fp → b ∉ s.heap.objs.size :: fp := fun b o e h z => (List.mem_cons.mp z).elim (ne b o e) h
  have os4 : s4.os = s.os := by
    have q : s4.os = s3.os := J.os
    rw [q, e3]
  refine I.call' (ch := fp) os4 ⟨fun b o e z hb hx => U.keep b o (k3 b o e) z hb (nx b o e hx), fun b o e z hb hx => U.slot b o (k3 b o e) z hb (nx b o e hx), fun b o e z hx => ?_, fun b o e hx => U.there b o (k3 b o e) (nx b o e hx), fun b xs e => ?_, fun b o u e => ?_, fun b ps e => ?_⟩ (fun b u e => ?_) J.bare fun b hb => ?_
  · rw [upd_ne (ne b o e)]
    exact U.free b o (k3 b o e) z (nx b o e hx)
  · have q := U.tups b xs e
    rw [upd_ne (ne_of_none q hn)]; exact q
  · have q := U.frzs b o u e
    rw [upd_ne (ne_of_none q hn)]; exact q
  · obtain ⟨more, q⟩ := U.tbls b ps e
    exact ⟨more, by rw [upd_ne (ne_of_none q hn)]; exact q⟩
  · by_cases hb : b = s.heap.objs.size
    · subst hb
      rw [upd_same] at e
      cases e
      exact ⟨hz, its, n, hv, ha⟩
    · rw [upd_ne hb] at e
      exact (J.hok b u e).stay (fun _ _ _ q => q) (fun c q => by rw [upd_ne (ne_of_none q hn)]; exact q) fun c xs q => by rw [upd_ne (ne_of_none q hn)]; exact q
  · obtain ⟨_, f1, _, f3, f4, f5⟩ := hf b hb
    exact ⟨f3, f1, f4, f5⟩
/-- the block's own names are let go -/
theorem comp_letgo {H' : Hp} {s4 : Shared} {C : Addr} {h' : Heap} {σ4 : St} (I : Inv X pins σ H s) (hC : s.heap.objs.size ≤ C) (I4 : Inv X pins σ4 H' s4) (hn : H' C = none) (hs : Heap.SameBut C s4.heap h') : Inv X pins σ4 H' { s4 with heap := h' } := by
  have q := I4.turned (it := C) (t' := s4.toks) (h' := h') (fun b o hb e => (hs.2 b hb).trans e) hn (Nat.ne_of_gt (Nat.lt_of_lt_of_le I.lt hC)) (.inr (Nat.le_trans I.sz hC)) (fun x c e z => ?_) (fun p hp z => ?_)
  · exact q
  · obtain ⟨v, u⟩ := I.cell x c e
    exact absurd (Nat.lt_of_lt_of_le u.lt (by rw [z]; exact hC)) (Nat.lt_irrefl _)
  · exact absurd (Nat.lt_of_lt_of_le (Heap.lt_size (I.pin p hp).1) (by rw [z]; exact hC)) (Nat.lt_irrefl _)
end
def PTs (X : Cx) (ifs : List Expr) (t : TT) : Prop :=
  ∀ (pins : List (Addr × Obj)) (s : Shared) (σ : St) (H : Hp) (Q : Bool → Hp → Prop), Inv X pins σ H s → t σ H Q →
    wpAny (model X.prog X.w) X.A (forIn ifs true fun c r => if r = true then do let ok ← isTrue c X.env (eval c X.env); pure (ForInStep.yield ok) else pure (ForInStep.yield r)) (TP X pins σ Q) X.xe s
def tTrue : TT := fun _ H Q => Q true H
theorem pts_nil {X : Cx} : PTs X [] tTrue := fun _ _ _ H _ I h => wpAny_tests_nil ⟨H, I, h⟩
theorem compLoop_go {prog : Program} {w : World} {A : Around} {R : Result → Shared → Prop} {s : Shared} {elt target iter : Expr} {ifs : List Expr} {scope : Scope} {pos : Pos} {it acc : Value} {env : Env} (I : Nat → Shared → Prop)
    (turn : ∀ n s, I n s → wpAny (model prog w) A (pyNext it) (fun r s₁ => match r with
      | none => R (.ok .next) s₁
      | some v => wpAny (model prog w) A (letOwnedTupleGo target it v) (fun _ s₂ => wpAny (model prog w) A (assign target env v) (fun _ s₃ =>
          wpAny (model prog w) A (forIn ifs true fun c r => if r = true then do let ok ← isTrue c env (eval c env); pure (ForInStep.yield ok) else pure (ForInStep.yield r)) (fun ok s₄ =>
            if ok = true then wpAny (model prog w) A (eval elt env) (fun x s₅ =>
              wpAny (model prog w) A (call (.builtin "list.append") [acc, x]) (fun _ s₆ => ∃ m, m < n ∧ I m s₆) (fun _ _ => False) s₅) (fun _ _ => False) s₄
            else ∃ m, m < n ∧ I m s₄) (fun _ _ => False) s₃) (fun _ _ => False) s₂) (fun _ _ => False) s₁) (fun _ _ => False) s)
    (n : Nat) (h : I n s) : codeAny (model prog w) A (.compLoop (.ListComp elt [⟨target, iter, ifs, 0⟩] scope pos) 0 it acc env) R s := by
  refine codeAny_loop rfl I (fun n s hI => ?_) n h
  show wpAny _ A ((compTurn (.ListComp elt [⟨target, iter, ifs, 0⟩] scope pos) 0 it acc env).onRaise (fun x => do noteFrame x env; theTreesLotGoes x)) _ _ s
  refine wpAny_noted ?_
  rw [compTurn_list]
  refine wpAny_bind (wpAny_standAt (wpAny_bind (wpAny_mono (turn n s hI) (fun r s₁ h₁ => ?_) fun _ _ f => f.elim)))
  cases r with
  | none => exact wpAny_pure h₁
  | some v =>
    refine wpAny_bind (wpAny_mono h₁ (fun _ s₂ h₂ => wpAny_bind (wpAny_mono h₂ (fun _ s₃ h₃ => wpAny_bind (wpAny_mono h₃ (fun ok s₄ h₄ => ?_) fun _ _ f => f.elim)) fun _ _ f => f.elim)) fun _ _ f => f.elim)
    cases ok with
    | false => exact wpAny_pure ⟨rfl, h₄⟩
    | true => exact wpAny_bind (wpAny_bind (wpAny_mono h₄ (fun x s₅ h₅ => wpAny_bind (wpAny_mono h₅ (fun _ s₆ h₆ => wpAny_pure (wpAny_pure ⟨rfl, h₆⟩)) fun _ _ f => f.elim)) fun _ _ f => f.elim))
/-- the slots of σ' stand in σ too -/
def Weak (σ σ' : St) : Prop := σ'.length = σ.length ∧ ∀ (i : Nat) v, σ'[i]? = some (some v) → σ[i]? = some (some v)
theorem weak_set {σ : St} {i : Nat} {v : Option V} (h : σ[i]? = some none) : Weak (σ.set i v) σ := by
  refine ⟨by simp, fun j u e => ?_⟩
  by_cases hj : i = j
  · subst hj; rw [h] at e; cases e
  · rw [List.getElem?_set_ne hj]; exact e
/-- [elt for tg in iter if ..]: W is the word between two turns: the turn, a measure, what was told so far, the heap -/
def CompBody (own : List Str) (F : List (Str × Nat)) (g : TG) (tt : TT) (te : TE) (σ : St) (Q : VK) (J : It) (H1 : Hp) : Prop := ∃ W : Nat → Nat → List V → Hp → Prop, (∃ m, W 0 m [] H1) ∧ ∀ i m ys H', W i m ys H' → ys.length ≤ i →
  (J.stop i H' ∧ i ≤ sizeLine ∧ ∀ p, H' p = none → Q (.ref p) (upd H' p (.lst ys))) ∨
  (J.go i H' ∧ i < sizeLine ∧ ∃ N : List V → Hp → Prop, (∀ ys' H'', N ys' H'' → ∃ m', m' < m ∧ W (i + 1) m' ys' H'') ∧
    ∀ x H2, J.yld i H' x H2 → g x (compσ own F σ) H2 fun σ3 H3 => Weak σ3 (compσ own F σ) ∧ tt σ3 H3 fun b H4 => if b = true then te σ3 H4 fun y H5 => N (ys ++ [y]) H5 else N ys H4)
def tComp (own : List Str) (F : List (Str × Nat)) (wi : TI) (g : TG) (tt : TT) (te : TE) : TE := fun σ H Q => wi σ H fun J H1 => CompBody own F g tt te σ Q J H1
section
variable {X : Cx} {scope : Scope} {own : List Str} {F : List (Str × Nat)} {elt tg iter : Expr} {ifs : List Expr} {pos : Pos} {wi : TI} {g : TG} {tt : TT} {te : TE}
/-- a new empty list is laid -/
abbrev pushed (s : Shared) : Shared := { s with heap := s.heap.push { cls := .type "list", data := .seq ([] : List Value).toArray } }
/-- the block's run, up to its end -/
theorem comp_run {pins : List (Addr × Obj)} {σ : St} {H : Hp} {s : Shared} {Q : VK} {RR : Addr → Result → Shared → Prop} {it : Addr} {fp : List Addr} {tn : Nat → Heap → Prop} {J : It} (S : CompSc X scope own F) (hc : X.calm = true)
    (hg : ∀ C s₃ H₃ ex, PG (compCx X own F scope C s₃ H₃ ex) tg g) (ht : ∀ C s₃ H₃ ex, PTs (compCx X own F scope C s₃ H₃ ex) ifs tt) (he : ∀ C s₃ H₃ ex, PE (compCx X own F scope C s₃ H₃ ex) elt te)
    (I : Inv X pins σ H s) (T : Turn X.prog X.w X.K tg J fp it tn) (st : tn 0 s.heap) (hf : ∀ b ∈ fp, FpOk X pins H b)
    (h : CompBody own F g tt te σ Q J H)
    (hR : ∀ C s4 H4, s.heap.objs.size ≤ C → C ≠ s.heap.objs.size → Inv X pins σ H4 s4 → Q (.ref s.heap.objs.size) H4 → H4 C = none → (∃ m, s4.heap.Ns C m) → RR C (.ok .next) s4) :
    wpAny (model X.prog X.w) X.A (newList []) (fun acc s₃ => wpAny (model X.prog X.w) X.A (newFunctionEnv scope X.env.globals (clo X.env scope.names) [] X.env.qual none .none (some X.env)) (fun cenv s₄ =>
      codeAny (model X.prog X.w) X.A (.compStart (.ListComp elt [⟨tg, iter, ifs, 0⟩] scope pos) 0 (.ref it) acc { cenv with scope := relabel scope X.env }) (fun r s' => acc = .ref s.heap.objs.size ∧ RR cenv.locals r s') s₄) X.xe s₃) X.xe s := by
  obtain ⟨W, ⟨m0, w0⟩, turn⟩ := h
  have hlt : ∀ b ∈ fp, b < s.heap.objs.size := fun b hb => by
    obtain ⟨o, e, _⟩ := T.obj _ _ st b hb
    exact Heap.lt_size e
  refine wpAny_newObj_type (wpAny_newFunctionEnv S.nc (by intro y hy; simp at hy) (fun h₁ hns₁ hsb₁ => ?_) S.kind)
  dsimp only at hns₁ hsb₁ ⊢
  have e3' : pushed s = { s with heap := s.heap.push { cls := .type "list", data := .seq ([] : List Value).toArray } } := rfl
  have sz3 : (pushed s).heap.objs.size = s.heap.objs.size + 1 := Heap.size_push ..
  have k3 : ∀ b o, (pushed s).heap.get? b = some o → h₁.get? b = some o := fun b o e => hsb₁.extBut b o (Nat.ne_of_lt (Heap.lt_size e)) (Heap.get?_push_of_some _ e)
  have k2 : ∀ b o, s.heap.get? b = some o → (pushed s).heap.get? b = some o := fun b o e => Heap.get?_push_of_some _ e
  have hns : h₁.Ns (pushed s).heap.objs.size (fun _ => none) := by simpa using hns₁
  have I0 : Inv (compCx X own F scope (pushed s).heap.objs.size (pushed s) H (s.heap.objs.size :: fp)) [] (compσ own F σ) H { pushed s with heap := h₁, toks := (pushed s).toks + ([] : List (Str × Value)).length } := comp_start I S hf hlt e3' hns k3
  have acc0 : h₁.get? s.heap.objs.size = some { cls := .type "list", data := .seq ([] : List Value).toArray 0 } := k3 _ _ (Heap.get?_push_size _ rfl)
  have ht0 : tn 0 h₁ := T.keep _ _ _ st fun b _ o e => k3 b o (k2 b o e)
  have loop : codeAny (model X.prog X.w) X.A (.compLoop (.ListComp elt [⟨tg, iter, ifs, 0⟩] scope pos) 0 (.ref it) (.ref s.heap.objs.size) (compEnvC scope (clo X.env scope.names) (pushed s).heap.objs.size X.env)) (RR (pushed s).heap.objs.size) { pushed s with heap := h₁, toks := (pushed s).toks + ([] : List (Str × Value)).length } := by
    refine compLoop_go (fun n s' => ∃ i ys H' its k, Inv (compCx X own F scope (pushed s).heap.objs.size (pushed s) H (s.heap.objs.size :: fp)) [] (compσ own F σ) H' s' ∧ tn i s'.heap ∧ (∀ b ∈ fp, H' b = none) ∧ H' s.heap.objs.size = none ∧
      Vals ys its ∧ s'.heap.get? s.heap.objs.size = some { cls := .type "list", data := .seq its.toArray k } ∧ ys.length ≤ i ∧ W i n ys H') ?_ m0 ⟨0, [], H, [], 0, I0, ht0, fun b hb => (hf b hb).1, I.hok.fresh (Nat.le_refl _), .nil, acc0, Nat.le_refl _, w0⟩
    rintro n s5 ⟨i, ys, H5, its, k, I5, t5, fr5, ha5, v5, o5, l5, w5⟩
    have pn5 : Inv (compCx X own F scope (pushed s).heap.objs.size (pushed s) H (s.heap.objs.size :: fp)) [(s.heap.objs.size, { cls := .type "list", data := .seq its.toArray k })] (compσ own F σ) H5 s5 := I5.pins_of fun p hp => by
      have z : p = (s.heap.objs.size, { cls := .type "list", data := .seq its.toArray k }) := by simpa using hp
      subst z
      obtain ⟨x1, x2⟩ := I0.ok.exf s.heap.objs.size List.mem_cons_self
      exact ⟨o5, ha5, x1, I0.ok.exfs _ List.mem_cons_self, fun v z => by cases z⟩
    have fp5 : ∀ {H' : Hp}, (∀ b ∈ fp, H' b = none) → ∀ b ∈ fp, FpOk (compCx X own F scope (pushed s).heap.objs.size (pushed s) H (s.heap.objs.size :: fp)) [(s.heap.objs.size, { cls := .type "list", data := .seq its.toArray k })] H' b := fun {H'} hn b hb => by
      obtain ⟨x1, x2⟩ := I0.ok.exf b (List.mem_cons_of_mem _ hb)
      refine ⟨hn b hb, x1, I0.ok.exfs b (List.mem_cons_of_mem _ hb), .inl (List.mem_cons_of_mem _ hb), x2, fun p hp => ?_⟩
      have z : p = (s.heap.objs.size, { cls := .type "list", data := .seq its.toArray k }) := by
        have hp' : p ∈ ([] : List (Addr × Obj)) ++ [(s.heap.objs.size, { cls := .type "list", data := .seq its.toArray k })] := hp
        simpa using hp'
      subst z
      exact Nat.ne_of_gt (hlt b hb)
    rcases turn i n ys H5 w5 l5 with ⟨stop, hz, q⟩ | ⟨go, hz, N, hN, step⟩
    · refine thn (T.done (compCx X own F scope (pushed s).heap.objs.size (pushed s) H (s.heap.objs.size :: fp)) rfl rfl rfl hc i _ s5 _ H5 (fun _ _ => False) pn5 (fp5 fr5) t5 stop) fun r s6 ⟨hr, I6⟩ => ?_
      subst hr
      obtain ⟨a6, b6, _⟩ := I6.pin (s.heap.objs.size, { cls := .type "list", data := .seq its.toArray k }) (List.mem_append_right _ (List.mem_singleton.mpr rfl))
      have J6 := I6.pins_of (pins' := []) (fun p hp => nomatch hp)
      have I7 := comp_back I hf e3' J6 (Nat.le_trans l5 hz) v5 a6 b6
      have hC : H5 (pushed s).heap.objs.size = none := J6.free
      refine hR _ s6 _ (show s.heap.objs.size ≤ (pushed s).heap.objs.size by omega) (fun z => by have z' : (pushed s).heap.objs.size = s.heap.objs.size := z; omega) I7 (q _ b6) (by rw [upd_ne (fun z => by have z' : (pushed s).heap.objs.size = s.heap.objs.size := z; omega)]; exact hC) ?_
      obtain ⟨m, hn, _⟩ := J6.loc
      exact ⟨m, hn⟩
    · refine thn (T.item (compCx X own F scope (pushed s).heap.objs.size (pushed s) H (s.heap.objs.size :: fp)) rfl rfl rfl hc i _ s5 _ H5 (fun _ _ => False) pn5 (fp5 fr5) t5 go) fun r s6 ⟨u, hr, h6⟩ => ?_
      subst hr
      refine thn h6 fun _ s7 ⟨x, H7, I7, r7, y7, t7, fr7⟩ => ?_
      have J7 := I7.pinned (fp5 fr7) (T.obj _ _ t7)
      refine thn (hg _ _ _ _ _ s7 _ H7 x u _ J7 r7 (step x H7 y7)) fun _ s8 ⟨σ8, H8, I8, wk, q8⟩ => ?_
      refine thn (ht _ _ _ _ _ s8 σ8 H8 _ I8 q8) fun ok s9 ⟨H9, I9, q9⟩ => ?_
      have keep : ∀ {σ' : St} {H' : Hp} {s' : Shared}, Inv (compCx X own F scope (pushed s).heap.objs.size (pushed s) H (s.heap.objs.size :: fp)) ([(s.heap.objs.size, { cls := .type "list", data := .seq its.toArray k })] ++ pinsAt fp s7.heap) σ' H' s' →
          tn (i + 1) s'.heap ∧ (∀ b ∈ fp, H' b = none) ∧ H' s.heap.objs.size = none ∧ s'.heap.get? s.heap.objs.size = some { cls := .type "list", data := .seq its.toArray k } := fun {σ' H' s'} J => by
        have pa := J.pin (s.heap.objs.size, { cls := .type "list", data := .seq its.toArray k }) (List.mem_append_right _ (List.mem_append_left _ (List.mem_singleton.mpr rfl)))
        refine ⟨T.keep _ _ _ t7 fun b hb o e => (J.pin (b, o) (List.mem_append_right _ (List.mem_append_right _ (mem_pinsAt hb e)))).1, fun b hb => ?_, pa.2.1, pa.1⟩
        obtain ⟨o, e, d⟩ := T.obj _ _ t7 b hb
        exact (J.pin (b, o) (List.mem_append_right _ (List.mem_append_right _ (mem_pinsAt hb e)))).2.1
      cases ok with
      | false =>
        rw [if_neg Bool.false_ne_true] at q9 ⊢
        obtain ⟨m', hm, w9⟩ := hN _ _ q9
        obtain ⟨a1, a2, a3, a4⟩ := keep I9
        exact ⟨m', hm, i + 1, ys, H9, its, k, (I9.pins_of (pins' := []) (fun p hp => nomatch hp)).weak wk.1 wk.2, a1, a2, a3, v5, a4, Nat.le_succ_of_le l5, w9⟩
      | true =>
        rw [if_pos rfl] at q9 ⊢
        refine thn (he _ _ _ _ _ s9 σ8 H9 _ I9 q9) fun u' s10 ⟨y, H10, I10, r10, q10⟩ => ?_
        obtain ⟨m', hm, w10⟩ := hN _ _ q10
        obtain ⟨a1, a2, a3, a4⟩ := keep I10
        have hl := v5.length
        refine call_meets PySem.F.slot_list_append ⟨_, a4, rfl⟩ PySem.F.entry_list_append (PySem.F.args_list_append_2 _ _) (PySem.list_append s.heap.objs.size its.toArray k u' (by rw [List.size_toArray]; omega)) ⟨a4, ?_⟩
        have q := PySem.IsL.update a4 (fun xs : Array Value => xs.push u')
        have eq : its.toArray.push u' = (its ++ [u']).toArray := by simp
        rw [eq] at q
        obtain ⟨x1, x2⟩ := I0.ok.exf s.heap.objs.size List.mem_cons_self
        have I11 := (I10.pins_of (pins' := []) (fun p hp => nomatch hp)).turned (it := s.heap.objs.size) (t' := s10.toks) (h' := s10.heap.update s.heap.objs.size (Obj.mapSeq (fun xs : Array Value => xs.push u'))) (fun b o hb e => (Heap.get?_update_other s10.heap _ (Ne.symm hb)).trans e) a3 x1 (.inl List.mem_cons_self) x2 (fun p hp => absurd (show p ∈ ([] : List (Addr × Obj)) from hp) (by simp))
        refine ⟨m', hm, i + 1, ys ++ [y], H10, its ++ [u'], _, I11.weak wk.1 wk.2, ?_, a2, a3, v5.append (.cons r10 .nil), q, by rw [List.length_append, List.length_singleton]; omega, w10⟩
        exact T.keep _ _ _ a1 fun b hb o e => (Heap.get?_update_other s10.heap _ (Nat.ne_of_gt (hlt b hb))).trans e
  have loop' := codeAny_mono loop (R' := fun r s' => Value.ref s.heap.objs.size = .ref s.heap.objs.size ∧ RR (pushed s).heap.objs.size r s') fun r s' z => ⟨rfl, z⟩
  exact codeAny_compStart_list loop' (T.self X.A 0 _ _ _ ht0 loop')
theorem pe_comp (S : CompSc X scope own F) (hc : X.calm = true) (hi : PI X tg iter wi)
    (hg : ∀ C s₃ H₃ ex, PG (compCx X own F scope C s₃ H₃ ex) tg g) (ht : ∀ C s₃ H₃ ex, PTs (compCx X own F scope C s₃ H₃ ex) ifs tt) (he : ∀ C s₃ H₃ ex, PE (compCx X own F scope C s₃ H₃ ex) elt te)
    (hs : ∀ x, foldedSetIterable iter X.env x = pure x := by intro _; rfl) : PE X (.ListComp elt [⟨tg, iter, ifs, 0⟩] scope pos) (tComp own F wi g tt te) := by
  intro pins s σ H Q I h
  rw [eval_ListComp]
  refine wpAny_comprehension_free (use := none) rfl hs (closureFor_clo (I.freeCells S)) S.kind S.lc ?_
  refine thn (hi pins s σ H _ I h) fun v s1 h1 => thn h1 fun itv s2 ⟨it, fp, tn, J, H2, e, I2, T, st2, f2, q2⟩ => ?_
  subst e
  refine thn (comp_run (Q := Q) (RR := fun C r s' => compPost (model X.prog X.w) X.A X.xe none (EP X pins σ Q) (.ref s2.heap.objs.size) C r s') S hc hg ht he I2 T st2 f2 q2 fun C s4 H4 c1 c2 I4 q4 n4 hm => ?_) fun acc s3 h3 => thn h3 fun cenv s4 h4 => codeAny_mono h4 fun r s' ⟨ea, hr⟩ => ?_
  · obtain ⟨m, hn⟩ := hm
    exact ⟨m, hn, fun h' hs' => ⟨.ref s2.heap.objs.size, H4, comp_letgo I2 c1 I4 n4 hs', rfl, q4⟩⟩
  · rw [ea]; exact hr
/-- x = [..], where the store comes ahead of the letting go -/
theorem ps_comp {i : Nat} {x : Str} {pos' spos : Pos} (hN : X.N.Nodup) (hi' : X.N[i]? = some x) (hx : Loc X.env.scope x) (S : CompSc X scope own F) (hc : X.calm = true) (hi : PI X tg iter wi)
    (hg : ∀ C s₃ H₃ ex, PG (compCx X own F scope C s₃ H₃ ex) tg g) (ht : ∀ C s₃ H₃ ex, PTs (compCx X own F scope C s₃ H₃ ex) ifs tt) (he : ∀ C s₃ H₃ ex, PE (compCx X own F scope C s₃ H₃ ex) elt te)
    (hsw : swapsWith (.ListComp elt [⟨tg, iter, ifs, 0⟩] scope pos) (some (.Name x pos')) spos.line X.env = pure true := by rfl)
    (hs : ∀ x, foldedSetIterable iter X.env x = pure x := by intro _; rfl) (hf : X.fn x = true ∨ X.env.scope.names.lookup x = some .local := by first | exact .inl rfl | exact .inr rfl | assumption) :
    PS X (.Assign [.Name x pos'] (.ListComp elt [⟨tg, iter, ifs, 0⟩] scope pos) spos) (tAsg (tComp own F wi g tt te) (gName i)) := by
  intro pins s σ H D I h
  rw [exec_Assign_Name_used x pos' _ _ hsw]
  refine wpAny_bind (wpAny_standAt (wpAny_bind ?_))
  refine wpAny_bind ?_
  refine wpAny_mono (Q := fun _ s' => SP X pins D .next s') ?_ (fun _ s' q => wpAny_pure (wpAny_pure q)) fun _ _ z => z
  refine wpAny_comprehension_free (use := some (assign (.Name x pos') X.env)) rfl hs (closureFor_clo (I.freeCells S)) S.kind S.lc ?_
  refine thn (hi pins s σ H _ I h) fun v s1 h1 => thn h1 fun itv s2 ⟨it, fp, tn, J, H2, e, I2, T, st2, f2, q2⟩ => ?_
  subst e
  refine thn (comp_run (Q := fun x H1 => gName i x σ H1 D.nx) (RR := fun C r s' => compPost (model X.prog X.w) X.A X.xe (some (assign (.Name x pos') X.env)) (fun _ s' => SP X pins D .next s') (.ref s2.heap.objs.size) C r s') S hc hg ht he I2 T st2 f2 q2 fun C s4 H4 c1 c2 I4 q4 n4 hm => ?_) fun acc s3 h3 => thn h3 fun cenv s4 h4 => codeAny_mono h4 fun r s' ⟨ea, hr⟩ => ?_
  · obtain ⟨m, hn⟩ := hm
    refine wpAny_assign_Name (store_ok2 I4 hN hi' hx (v := .ref s2.heap.objs.size) rfl (fun s5 I5 ⟨a, sb, ha⟩ => ?_) hf)
    have aC : a ≠ C := by
      rcases ha with z | z
      · rw [z]; exact Nat.ne_of_lt (Nat.lt_of_lt_of_le I2.lt c1)
      · obtain ⟨v, u⟩ := I2.cell _ _ z
        exact Nat.ne_of_lt (Nat.lt_of_lt_of_le u.lt c1)
    exact ⟨m, hn.sameBut sb (Ne.symm aC), fun h' hs' => ⟨_, H4, comp_letgo I2 c1 I5 n4 hs', q4⟩⟩
  · rw [ea]; exact hr
end
end L2
namespace L2
open PySem PySem.Spec PyProof.Rows
inductive T where
  | non | bl (b : Bool) | int (i : Int) | str (x : List Nat) | lst (ts : List T) | dic (ks : List (List Nat)) (ts : List T) | tup (ts : List T)
mutual
/-- the value stands for the tree -/
def Rep (H : Hp) : V → T → Prop
  | v, .non => v = .non
  | v, .bl b => v = .bl b
  | v, .int i => v = .int i
  | v, .str x => v = .str (tx x)
  | v, .lst ts => ∃ a vs, v = .ref a ∧ H a = some (.lst vs) ∧ Reps H vs ts
  | v, .dic ks ts => ∃ a ps, v = .ref a ∧ H a = some (.dK ps) ∧ ps.map (·.1) = ks.map (fun k => (Sum.inr (tx k) : Key)) ∧ Reps H (ps.map (·.2)) ts
  | v, .tup ts => ∃ a vs, v = .ref a ∧ H a = some (.tup vs) ∧ Reps H vs ts
def Reps (H : Hp) : List V → List T → Prop
  | vs, [] => vs = []
  | vs, t :: ts => ∃ v r, vs = v :: r ∧ Rep H v t ∧ Reps H r ts
end
mutual
theorem Rep.same {H H' : Hp} (e : Same H H') : ∀ (v : V) (t : T), Rep H v t → Rep H' v t
  | _, .non, h => h
  | _, .bl _, h => h
  | _, .int _, h => h
  | _, .str _, h => h
  | _, .lst ts, ⟨a, vs, h1, h2, h3⟩ => ⟨a, vs, h1, e _ _ h2, Reps.same e vs ts h3⟩
  | _, .dic ks ts, ⟨a, ps, h1, h2, h3, h4⟩ => ⟨a, ps, h1, e _ _ h2, h3, Reps.same e _ ts h4⟩
  | _, .tup ts, ⟨a, vs, h1, h2, h3⟩ => ⟨a, vs, h1, e _ _ h2, Reps.same e vs ts h3⟩
theorem Reps.same {H H' : Hp} (e : Same H H') : ∀ (vs : List V) (ts : List T), Reps H vs ts → Reps H' vs ts
  | _, [], h => h
  | _, t :: ts, ⟨v, r, h1, h2, h3⟩ => ⟨v, r, h1, Rep.same e v t h2, Reps.same e r ts h3⟩
end
theorem Reps.snoc {H : Hp} {v : V} {t : T} (h : Rep H v t) : ∀ {vs : List V} {ts : List T}, Reps H vs ts → Reps H (vs ++ [v]) (ts ++ [t])
  | _, [], e => by
    have e' : _ = [] := e
    subst e'
    exact ⟨v, [], rfl, h, rfl⟩
  | _, t' :: ts, ⟨v', r, h1, h2, h3⟩ => by
    subst h1
    exact ⟨v', r ++ [v], rfl, h2, Reps.snoc h h3⟩
theorem Reps.length {H : Hp} : ∀ {vs : List V} {ts : List T}, Reps H vs ts → vs.length = ts.length
  | _, [], e => by
    have e' : _ = [] := e
    subst e'; rfl
  | _, t' :: ts, ⟨v', r, h1, h2, h3⟩ => by
    subst h1
    simp [Reps.length h3]
theorem Reps.get {H : Hp} : ∀ {vs : List V} {ts : List T} {i : Nat} {v : V}, Reps H vs ts → vs[i]? = some v → ∃ t, ts[i]? = some t ∧ Rep H v t
  | _, [], i, v, e, h => by
    have e' : _ = [] := e
    subst e'; simp at h
  | _, t' :: ts, 0, v, ⟨v', r, h1, h2, h3⟩, h => by
    subst h1
    simp at h; subst h
    exact ⟨t', rfl, h2⟩
  | _, t' :: ts, i + 1, v, ⟨v', r, h1, h2, h3⟩, h => by
    subst h1
    obtain ⟨t, e, q⟩ := Reps.get (i := i) (v := v) h3 (by simpa using h)
    exact ⟨t, by simpa using e, q⟩
def tyT : T → String
  | .non => "NoneType"
  | .bl _ => "bool"
  | .int _ => "int"
  | .str _ => "str"
  | .lst _ => "list"
  | .dic _ _ => "dict"
  | .tup _ => "tuple"
theorem Rep.ty {H : Hp} {v : V} : ∀ {t : T}, Rep H v t → tyS H v = some (tyT t)
  | .non, h => by cases (show v = .non from h); rfl
  | .bl b, h => by cases (show v = .bl b from h); rfl
  | .int i, h => by cases (show v = .int i from h); rfl
  | .str x, h => by cases (show v = .str (tx x) from h); rfl
  | .lst ts, h => by obtain ⟨a, vs, e, h2, _⟩ := h; subst e; show (match H a with | some (.lst _) => some "list" | some (.tup _) => some "tuple" | some (.dK _) => some "dict" | _ => none) = _; rw [h2]; rfl
  | .dic ks ts, h => by obtain ⟨a, vs, e, h2, _⟩ := h; subst e; show (match H a with | some (.lst _) => some "list" | some (.tup _) => some "tuple" | some (.dK _) => some "dict" | _ => none) = _; rw [h2]; rfl
  | .tup ts, h => by obtain ⟨a, vs, e, h2, _⟩ := h; subst e; show (match H a with | some (.lst _) => some "list" | some (.tup _) => some "tuple" | some (.dK _) => some "dict" | _ => none) = _; rw [h2]; rfl
def letL : List Nat := (List.range 26).map (· + 97)
def figL : List Nat := (List.range 10).map (· + 48)
/-- the signs of texts: from the blank to ~ but the percent sign -/
def sgnL : List Nat := ((List.range 95).map (· + 32)).filter (· != 37)
def okName (w : List Nat) : Bool := decide (1 ≤ w.length) && decide (w.length ≤ 12) && (match w with | [] => false | c :: _ => decide (c ∈ letL)) && w.all (fun c => decide (c ∈ letL ++ figL))
def okText (w : List Nat) : Bool := decide (w.length ≤ 30) && w.all (fun c => decide (c ∈ sgnL))
mutual
def Nice : Nat → T → Prop
  | _, .non => True
  | _, .bl _ => True
  | _, .int i => -(10 ^ 12) ≤ i ∧ i ≤ 10 ^ 12
  | _, .str x => okText x = true
  | d, .lst ts => 1 ≤ d ∧ ts.length ≤ 4 ∧ NiceL (d - 1) ts
  | d, .dic ks ts => 1 ≤ d ∧ ts.length ≤ 4 ∧ ks.length = ts.length ∧ ks.Nodup ∧ (∀ k ∈ ks, okName k = true) ∧ NiceL (d - 1) ts
  | _, .tup _ => False
def NiceL : Nat → List T → Prop
  | _, [] => True
  | d, t :: ts => Nice d t ∧ NiceL d ts
end
theorem NiceL.snoc {d : Nat} {t : T} (h : Nice d t) : ∀ {ts : List T}, NiceL d ts → NiceL d (ts ++ [t])
  | [], _ => ⟨h, trivial⟩
  | _ :: ts, ⟨a, b⟩ => ⟨a, NiceL.snoc h b⟩
end L2
namespace L2
open PySem PySem.Spec PyProof.Rows
theorem same_new {H : Hp} {p : Addr} (h : H p = none) (o : HO) : Same H (upd H p o) := fun b u q => by rw [upd_ne (ne_of_none q h)]; exact q
section
variable {K : PySem.W.Frag} {H : Hp} {Q : VK} {a b : Addr} {xs ys : List V}
theorem rEqL_i {neg : Bool} (h1 : SqL K H a xs) (h2 : SqL K H b ys) (f1 : xs.all flatV = true) (f2 : ys.all flatV = true) (q : Q (.bl (if neg then !eqLs xs ys else eqLs xs ys)) H) : rEqL K neg (.ref a) (.ref b) H Q :=
  ⟨a, b, xs, ys, rfl, rfl, h1, h2, f1, f2, q⟩
theorem rIxL_i {i : Int} {v : V} (h1 : SqL K H a xs) (h2 : atI xs i = some v) (q : Q v H) : rIxL K (.ref a) (.int i) H Q := ⟨a, xs, i, v, rfl, rfl, h1, h2, q⟩
theorem rIxT_i {i : Int} {v : V} (h1 : SqT K H a xs) (h2 : atI xs i = some v) (q : Q v H) : rIxT K (.ref a) (.int i) H Q := ⟨a, xs, i, v, rfl, rfl, h1, h2, q⟩
theorem rIxS_i {z : Str} {i : Int} {c : Nat} (h1 : z.length ≤ sizeLine) (h2 : atI (ts z) i = some c) (q : Q (.str (tx [c])) H) : rIxS (.str z) (.int i) H Q := ⟨z, i, c, rfl, rfl, h1, h2, q⟩
end
/-- an item at a place that is not written -/
theorem atI_of {α : Type} {xs : List α} {i : Int} (h0 : 0 ≤ i) (h1 : i < xs.length) : ∃ v, atI xs i = some v ∧ v ∈ xs := by
  obtain ⟨j, rfl⟩ := Int.eq_ofNat_of_zero_le h0
  have hj : j < xs.length := by omega
  exact ⟨xs[j], atI_nat (by simp [hj]), List.getElem_mem hj⟩
theorem atI_getD {α : Type} {xs : List α} {i : Int} {d : α} (h0 : 0 ≤ i) (h1 : i < xs.length) : atI xs i = some (xs.getD i.toNat d) := by
  obtain ⟨j, rfl⟩ := Int.eq_ofNat_of_zero_le h0
  have hj : j < xs.length := by omega
  refine atI_nat ?_
  simp [List.getD, hj]
/-- a comprehension over one name: Pv holds between two turns -/
theorem comp_by {x : Str} {F : List (Str × Nat)} {J : It} {n : Nat} {tt : TT} {te : TE} {σ : St} {Q : VK} {H1 : Hp} (Pv : Nat → List V → Hp → Prop) (hn : n ≤ sizeLine) (h0 : Pv 0 [] H1) (hgo : ∀ i ys H, i < n → Pv i ys H → J.go i H)
    (hst : ∀ ys H, Pv n ys H → J.stop n H)
    (hs : ∀ i ys H y H2, i < n → ys.length ≤ i → Pv i ys H → J.yld i H y H2 → tt (some y :: F.map (fun p => (σ[p.2]?).join)) H2 fun b H3 => if b = true then te (some y :: F.map (fun p => (σ[p.2]?).join)) H3 fun z H4 => Pv (i + 1) (ys ++ [z]) H4 else Pv (i + 1) ys H3)
    (hd : ∀ ys H, ys.length ≤ n → Pv n ys H → ∀ p, H p = none → Q (.ref p) (upd H p (.lst ys))) : CompBody [x] F (gName 0) tt te σ Q J H1 := by
  refine ⟨fun i m ys H => m = n - i ∧ i ≤ n ∧ Pv i ys H, ⟨n, by simp, Nat.zero_le _, h0⟩, ?_⟩
  rintro i m ys H ⟨rfl, hi, p⟩ hl
  by_cases hlt : i < n
  · refine .inr ⟨hgo i ys H hlt p, by omega, Pv (i + 1), fun ys' H'' q => ⟨n - (i + 1), by omega, rfl, hlt, q⟩, fun y H2 hy => ?_⟩
    exact ⟨weak_set (i := 0) rfl, hs i ys H y H2 hlt hl p hy⟩
  · have e : i = n := by omega
    subst e
    exact .inl ⟨hst ys H p, hn, hd ys H hl p⟩
/-- .. over a range, without a test -/
theorem comp_rng {x : Str} {F : List (Str × Nat)} {lo : Int} {n : Nat} {te : TE} {σ : St} {Q : VK} {H1 : Hp} (Pv : Nat → List V → Hp → Prop) (hn : n ≤ sizeLine) (h0 : Pv 0 [] H1)
    (hs : ∀ (i : Nat) ys H, i < n → ys.length ≤ i → Pv i ys H → te (some (.int (lo + i)) :: F.map (fun p => (σ[p.2]?).join)) H fun z H4 => Pv (i + 1) (ys ++ [z]) H4)
    (hd : ∀ ys H, ys.length ≤ n → Pv n ys H → ∀ p, H p = none → Q (.ref p) (upd H p (.lst ys))) : CompBody [x] F (gName 0) tTrue te σ Q (Itr lo n) H1 :=
  comp_by Pv hn h0 (fun i _ _ h _ => h) (fun _ _ _ => Nat.le_refl _) (fun i ys H y H2 h1 h2 h3 h4 => by
    obtain ⟨rfl, rfl⟩ := h4
    exact hs i ys _ h1 h2 h3) hd
end L2
namespace L2
open PySem PySem.Spec PyProof.Rows
section
variable {X : Cx} {x : Str} {pos : Pos}
end
end L2
namespace L2
open PySem PySem.Spec PyProof.Rows
theorem cxOf_K {CX : CXT} {P : Program} {w : World} {K : PySem.W.Frag} {mg : Str → Option Value} {base : Heap} {N : List Str} {qual : Str} {scope : Scope} {f : Addr} {cd : Value} {A : Around} {outer : List Env} {s : Shared} {H : Hp} {E : XK} : (cxOf CX P w K mg base N qual scope f cd A outer s H E).K = K := rfl
theorem nox_K {X : Cx} : X.nox.K = X.K := rfl
theorem compCx_K {X : Cx} {own : List Str} {F : List (Str × Nat)} {scope : Scope} {C : Addr} {s₃ : Shared} {H₃ : Hp} {ex : List Addr} : (compCx X own F scope C s₃ H₃ ex).K = X.K := rfl
theorem flat_ints (ns : List Int) : (ns.map V.int).all flatV = true := by
  rw [List.all_map]; exact List.all_eq_true.mpr fun _ _ => rfl
theorem eqLs_nil (xs : List V) : eqLs xs [] = xs.isEmpty := by cases xs <;> rfl
end L2
namespace L2
theorem natAbs10 : Int.natAbs 10 = 10 := rfl
end L2
namespace L2
open PySem PySem.Spec PyProof.Rows
def ForB (g : TG) (tb : TS) (D : Ends) (σ : St) (J : It) (H1 : Hp) : Prop := ∃ W : Nat → Nat → St → Hp → Prop, (∃ m, W 0 m σ H1) ∧ ∀ i m σ H, W i m σ H →
  (J.stop i H ∧ D.nx σ H) ∨ (J.go i H ∧ ∃ N : St → Hp → Prop, (∀ σ' H', N σ' H' → ∃ m', m' < m ∧ W (i + 1) m' σ' H') ∧ ∀ x H', J.yld i H x H' → g x σ H' fun σ2 H2 => tb { D with nx := N, ct := N, bk := D.nx } σ2 H2)
theorem tFor_eq (wi : TI) (g : TG) (tb : TS) (D : Ends) (σ : St) (H : Hp) : tFor wi g tb D σ H = wi σ H fun J H1 => ForB g tb D σ J H1 := rfl
theorem forB_rng {lo : Int} {n : Nat} {g : TG} {tb : TS} {D : Ends} {σ : St} {H : Hp} (Pv : Nat → St → Hp → Prop) (h0 : Pv 0 σ H)
    (hs : ∀ i σ H, i < n → Pv i σ H → g (.int (lo + i)) σ H fun σ2 H2 => tb { D with nx := Pv (i + 1), ct := Pv (i + 1), bk := D.nx } σ2 H2) (hd : ∀ σ H, Pv n σ H → D.nx σ H) : ForB g tb D σ (Itr lo n) H := for_range Pv h0 hs hd
section
variable {X : Cx}
theorem call_len_l : CallR X (.builtin "len") (fun xs H Q => ∃ p, xs = [.ref p] ∧ ∃ ys, SqL X.K H p ys ∧ Q (.int ys.length) H) := fun pins s σ H xs us Q I r ⟨p, e, ys, h, q⟩ => call_len_seq pins s σ H xs us Q I r ⟨p, ys, e, .inl h, q⟩
end
abbrev nK (k : List Nat) : Key := Sum.inr (tx k)
theorem nK_inj {a b : List Nat} (h : nK a = nK b) : a = b := by
  have e : tx a = tx b := Sum.inr.inj h
  rw [← ts_tx a, e, ts_tx]
theorem Reps.repl {H : Hp} {k : Key} {v : V} {t : T} (hv : Rep H v t) : ∀ {ps : List (Key × V)} {ts : List T}, Reps H (ps.map (·.2)) ts → ∃ ts', Reps H ((ps.map fun kv => if kv.1 = k then (kv.1, v) else kv).map (·.2)) ts' ∧ ts'.length = ts.length ∧ ∀ u ∈ ts', u ∈ ts ∨ u = t
  | [], ts, h => ⟨ts, h, rfl, fun u hu => .inl hu⟩
  | p :: ps, [], h => by
    have h' : (p :: ps).map (·.2) = [] := h
    cases h'
  | p :: ps, u :: ts, ⟨v', r, e, h1, h2⟩ => by
    have e' : p.2 :: ps.map (·.2) = v' :: r := e
    injection e' with e1 e2
    subst e1 e2
    obtain ⟨ts', r', l', m'⟩ := Reps.repl hv h2
    by_cases hk : p.1 = k
    · refine ⟨t :: ts', ⟨v, _, ?_, hv, r'⟩, by simp [l'], fun z hz => ?_⟩
      · rw [List.map_cons, if_pos hk, List.map_cons]
      · rcases List.mem_cons.mp hz with q | q
        · exact .inr q
        · exact (m' z q).imp (List.mem_cons_of_mem _) id
    · refine ⟨u :: ts', ⟨p.2, _, ?_, h1, r'⟩, by simp [l'], fun z hz => ?_⟩
      · rw [List.map_cons, if_neg hk, List.map_cons]
      · rcases List.mem_cons.mp hz with q | q
        · exact .inl (by rw [q]; exact List.mem_cons_self)
        · exact (m' z q).imp (List.mem_cons_of_mem _) id
end L2
namespace L2
open PySem PySem.Spec PyProof.Rows
theorem ts_l36 : ts (Str.ofString "abcdefghijklmnopqrstuvwxyz0123456789") = letL ++ figL := by decide +kernel
theorem ts_a : ts (Str.ofString "a") = [97] := by decide +kernel
theorem ts_q : ts (Str.ofString "'") = [39] := by decide +kernel
theorem of_nil : Str.ofString "" = tx [] := by decide +kernel
theorem rep_one (c k : Nat) : (List.replicate k [c]).flatten = List.replicate k c := by
  induction k with
  | zero => rfl
  | succ k ih => rw [List.replicate_succ, List.flatten_cons, ih, List.replicate_succ]; rfl
theorem okName_of {w : List Nat} (h1 : w.length ≤ 12) (h3 : ∃ c r, w = c :: r ∧ c ∈ letL) (h4 : ∀ c ∈ w, c ∈ letL ++ figL) : okName w = true := by
  obtain ⟨c, r, rfl, hc⟩ := h3
  unfold okName
  simp only [Bool.and_eq_true, decide_eq_true_eq, List.all_eq_true]
  exact ⟨⟨⟨by simp, h1⟩, hc⟩, h4⟩
theorem okText_of {w : List Nat} (h1 : w.length ≤ 30) (h4 : ∀ c ∈ w, c ∈ sgnL) : okText w = true := by
  unfold okText
  simp only [Bool.and_eq_true, decide_eq_true_eq, List.all_eq_true]
  exact ⟨h1, h4⟩
theorem at_l36 {i : Int} (h0 : 0 ≤ i) (h1 : i < 36) : ∃ c, atI (letL ++ figL) i = some c ∧ c ∈ letL ++ figL := atI_of h0 (by show i < ((36 : Nat) : Int); omega)
theorem at_l26 {i : Int} (h0 : 0 ≤ i) (h1 : i < 26) : ∃ c, atI (letL ++ figL) i = some c ∧ c ∈ letL := by
  obtain ⟨j, rfl⟩ := Int.eq_ofNat_of_zero_le h0
  have hj : j < 26 := by omega
  have hj' : j < letL.length := hj
  refine ⟨letL[j], atI_nat (by rw [List.getElem?_append_left hj']; simp [hj']), List.getElem_mem hj'⟩
theorem a_letL : 97 ∈ letL := by decide
theorem letL_sub {c : Nat} (h : c ∈ letL) : c ∈ letL ++ figL := List.mem_append_left _ h
end L2
namespace L2
end L2
namespace L2
open PySem PySem.Spec PyProof.Rows
theorem ts_sgn : Str.ofString " !\"#$&'()*+,-./0123456789:;<=>?@ABCDEFGHIJKLMNOPQRSTUVWXYZ[\\]^_`" ++ Str.ofString "abcdefghijklmnopqrstuvwxyz{|}~" = tx sgnL := by decide +kernel
theorem q_sgnL : 39 ∈ sgnL := by decide
theorem at_sgn {i : Int} (h0 : 0 ≤ i) (h1 : i < 94) : ∃ c, atI sgnL i = some c ∧ c ∈ sgnL := atI_of h0 (by show i < ((94 : Nat) : Int); omega)
theorem flat_one (cs : List Nat) : ((cs.map fun c => tx [c]).map ts).flatten = cs := by
  induction cs with
  | nil => rfl
  | cons d r ih => simp only [List.map_cons, List.flatten_cons, ih, ts_tx]; rfl
end L2
namespace L2
open PySem PySem.Spec PyProof.Rows
theorem HOk.sim {P : Program} {w : World} {H H' : Hp} {h : Heap} (ok : HOk P w H h) (ho : ∀ b a, H b = some (.own a) → H' b = some (.own a)) (ht : ∀ b xs, H b = some (.tup xs) → H' b = some (.tup xs))
    (hs : ∀ b u, H' b = some u → H b = some u ∨ (∃ o, H b = some (.frz o u)) ∨ ∃ o u', u = .frz o u' ∧ H b = some u' ∧ h.get? b = some o) : HOk P w H' h := fun b u e => by
  rcases hs b u e with q | ⟨o, q⟩ | ⟨o, u', rfl, q, g⟩
  · exact (ok b u q).stay (fun _ _ _ z => z) (fun c z => ho c b z) fun c xs z => ht c xs z
  · obtain ⟨_, z⟩ := (show ObjOk P w H h b (.frz o u) from ok b _ q)
    exact z.stay (fun _ _ _ z => z) (fun c z => ho c b z) fun c xs z => ht c xs z
  · exact ⟨g, (ok b u' q).stay (fun _ _ _ z => z) (fun c z => ho c b z) fun c xs z => ht c xs z⟩
section
variable {X : Cx} {pins : List (Addr × Obj)} {σ σ' : St} {H H' : Hp} {s s' : Shared}
theorem Inv.sim (I : Inv X pins σ H s) (hn : ∀ b, H b = none → H' b = none) (ho : ∀ b a, H b = some (.own a) → H' b = some (.own a)) (ht : ∀ b xs, H b = some (.tup xs) → H' b = some (.tup xs))
    (hb : ∀ b ps, H b = some (.tbl ps) → H' b = some (.tbl ps)) (hf : ∀ b o u, X.H₀ b = some (.frz o u) → H' b = some (.frz o u))
    (hs : ∀ b u, H' b = some u → H b = some u ∨ (∃ o, H b = some (.frz o u)) ∨ ∃ o u', u = .frz o u' ∧ H b = some u' ∧ s.heap.get? b = some o) : Inv X pins σ H' s :=
  ⟨I.ok, I.os, I.bare, ⟨I.base.keep, I.base.slot, fun b o e n hx => hn b (I.base.free b o e n hx), I.base.there, fun b xs e => ht b xs (I.base.tups b xs e), hf, fun b ps e => by
    obtain ⟨m, q⟩ := I.base.tbls b ps e
    exact ⟨m, hb b _ q⟩⟩, I.loc, I.cell, hn _ I.free, fun x c e => hn _ (I.freeC x c e), fun p hp => by
    obtain ⟨a, b, c, d, e⟩ := I.pin p hp
    exact ⟨a, hn _ b, c, d, e⟩, I.hok.sim ho ht hs, I.len⟩
/-- what was known to its object for a walk is freed again -/
def thaw (H H' : Hp) : Hp := fun b => match H b with
  | some (.frz _ _) => H' b
  | _ => match H' b with
    | some (.frz _ u) => some u
    | y => y
theorem thaw_frz {b : Addr} {o : Obj} {u : HO} (h : H b = some (.frz o u)) : thaw H H' b = H' b := by unfold thaw; rw [h]
theorem thaw_none {b : Addr} (h : H' b = none) : thaw H H' b = none := by unfold thaw; rw [h]; split <;> rfl
theorem thaw_of {b : Addr} {u : HO} (h : H' b = some u) (n : ∀ o v, u ≠ .frz o v) : thaw H H' b = some u := by
  unfold thaw; rw [h]
  split
  · rfl
  · cases u <;> first | rfl | exact absurd rfl (n _ _)
theorem thaw_inv {b : Addr} {u : HO} (h : thaw H H' b = some u) : H' b = some u ∨ ∃ o, H' b = some (.frz o u) := by
  unfold thaw at h
  split at h
  · exact .inl h
  · split at h
    · rename_i o v e
      cases h
      exact .inr ⟨_, e⟩
    · exact .inl h
theorem Inv.thaw (I : Inv X pins σ H s) (J : Inv X pins σ' H' s') : Inv X pins σ' (thaw H H') s' :=
  J.sim (fun b e => thaw_none e) (fun b a e => thaw_of e (by intro o v z; cases z)) (fun b a e => thaw_of e (by intro o v z; cases z)) (fun b a e => thaw_of e (by intro o v z; cases z))
    (fun b o u e => by rw [thaw_frz (I.base.frzs b o u e)]; exact J.base.frzs b o u e) fun b u e => (thaw_inv e).imp id .inl
def tThaw (t : TE) : TE := fun σ H Q => t σ H fun v H' => Q v (thaw H H')
end
theorem KV.get {κ : Type} : ∀ {kvs : List (κ × V)} {vs : List (κ × Value)} {i : Nat} {kv : κ × V}, KV kvs vs → kvs[i]? = some kv → ∃ q, vs[i]? = some q ∧ kv.1 = q.1 ∧ RelV kv.2 q.2
  | _, _, _, _, .nil, e => by simp at e
  | _, _, 0, _, .cons r _, e => by simp at e; subst e; exact ⟨_, rfl, r⟩
  | _, _, i + 1, x, .cons _ t, e => by
    obtain ⟨u, h1, h2⟩ := KV.get (i := i) (kv := x) t (by simpa using e)
    exact ⟨u, by simpa using h1, h2⟩
/-- the keys of the dict at d, which stays the very object -/
def Itd (d : Addr) (o : Obj) (kvs : List (Key × V)) : It :=
  ⟨fun i H => i < kvs.length ∧ H d = some (.frz o (.dK kvs)), fun i H y H' => H' = H ∧ ∃ kv, kvs[i]? = some kv ∧ y = kV kv.1, fun i H => kvs.length ≤ i ∧ H d = some (.frz o (.dK kvs))⟩
def iDict (tl : TE) : TI := fun σ H R => tl σ H fun x H1 => ∃ d kvs, x = .ref d ∧ ((H1 d = some (.dK kvs) ∧ ∀ o, R (Itd d o kvs) (upd H1 d (.frz o (.dK kvs)))) ∨ ∃ o, H1 d = some (.frz o (.dK kvs)) ∧ R (Itd d o kvs) H1)
section
variable {X : Cx}
end
/-- .. over a list -/
theorem comp_list {K : PySem.W.Frag} {x : Str} {F : List (Str × Nat)} {a : Addr} {xs : List V} {tt : TT} {te : TE} {σ : St} {Q : VK} {H1 : Hp} (Pv : Nat → List V → Hp → Prop) (hn : xs.length ≤ sizeLine) (h0 : Pv 0 [] H1) (hz : ∀ i ys H, i ≤ xs.length → Pv i ys H → SqL K H a xs)
    (hs : ∀ i v ys H, xs[i]? = some v → ys.length ≤ i → Pv i ys H → tt (some v :: F.map (fun p => (σ[p.2]?).join)) H fun b H3 => if b = true then te (some v :: F.map (fun p => (σ[p.2]?).join)) H3 fun z H4 => Pv (i + 1) (ys ++ [z]) H4 else Pv (i + 1) ys H3)
    (hd : ∀ ys H, ys.length ≤ xs.length → Pv xs.length ys H → ∀ p, H p = none → Q (.ref p) (upd H p (.lst ys))) : CompBody [x] F (gName 0) tt te σ Q (Itl K a) H1 :=
  comp_by Pv hn h0 (fun i ys H h p => ⟨xs, xs[i], hz i ys H (Nat.le_of_lt h) p, by simp [h]⟩) (fun ys H p => ⟨xs, hz _ ys H (Nat.le_refl _) p, Nat.le_refl _⟩) (fun i ys H y H2 h1 h2 h3 h4 => by
    obtain ⟨rfl, hy⟩ := h4
    exact hs i y ys _ (hy xs (hz i ys _ (Nat.le_of_lt h1) h3)) h2 h3) hd
def valsO (p d : Addr) : HO := .ext fun h => h.IsValuesView p d
section
variable {X : Cx}
def rVals : V → List V → Hp → VK → Prop := fun x vs H Q => ∃ d kvs, x = .ref d ∧ vs = [] ∧ Rd H d (.dK kvs) ∧ ∀ p, H p = none → Q (.ref p) (upd H p (valsO p d))
end
end L2
namespace L2
open PySem PySem.Spec PyProof.Rows
section
variable {prog : Program} {w : World} {A : Around} {E : Value → Shared → Prop}
end
section
variable {X : Cx}
end
end L2
namespace L2
open PySem PySem.Spec PyProof.Rows
/-- more names of Python's own -/
structure Bl2 (mg : Str → Option Value) : Prop extends Bl mg where
  max : mg "max" = none
  min : mg "min" = none
  sorted : mg "sorted" = none
def mxI (b z : Int) : Int := if z > b then z else b
def mxD (k : Int) : List Int → Int
  | [] => k
  | b :: r => r.foldl mxI b
section
variable {prog : Program} {w : World} {A : Around}
end
section
variable {X : Cx}
def rMaxD (K : PySem.W.Frag) : V → V → Hp → VK → Prop := fun x y H Q => ∃ (p : Addr) (ns : List Int) (k : Int), x = .ref p ∧ y = .int k ∧ SqL K H p (ns.map V.int) ∧ Q (.int (mxD k ns)) H
variable {e d : Expr} {te td : TE} {p kp pos : Pos}
def tMaxD (K : PySem.W.Frag) (te td : TE) : TE := fun σ H Q => te σ H fun x H1 => td σ H1 fun y H2 => rMaxD K x y H2 Q
end
end L2
namespace L2
open PySem PySem.Spec PyProof.Rows
mutual
def T.dep : T → Nat
  | .lst ts => T.deps ts + 1
  | .dic _ ts => T.deps ts + 1
  | .tup ts => T.deps ts + 1
  | .non => 0
  | .bl _ => 0
  | .int _ => 0
  | .str _ => 0
def T.deps : List T → Nat
  | [] => 0
  | t :: ts => max (T.dep t) (T.deps ts)
end
mutual
/-- no tuple within -/
def T.pure : T → Prop
  | .tup _ => False
  | .lst ts => T.pures ts
  | .dic ks ts => ks.Nodup ∧ T.pures ts
  | .non => True
  | .bl _ => True
  | .int _ => True
  | .str _ => True
def T.pures : List T → Prop
  | [] => True
  | t :: ts => T.pure t ∧ T.pures ts
end
theorem T.deps_le {t : T} : ∀ {ts : List T}, t ∈ ts → T.dep t ≤ T.deps ts
  | [], h => nomatch h
  | u :: ts, h => by
    show T.dep t ≤ max (T.dep u) (T.deps ts)
    rcases List.mem_cons.mp h with e | e
    · subst e; exact Nat.le_max_left _ _
    · exact Nat.le_trans (T.deps_le e) (Nat.le_max_right _ _)
def EqM (P : Program) (w : World) (A : Around) (s : Shared) (u v : Value) : Prop := ∀ (E : Value → Shared → Prop) (Q : Bool → Shared → Prop), Q true s → wpAny (model P w) A (eqBool u v) Q E s
def RcM (P : Program) (w : World) (A : Around) (s : Shared) (u v : Value) : Prop := ∀ (E : Value → Shared → Prop) (Q : Value → Shared → Prop), Q (.bool true) s → wpAny (model P w) A (richCompare .Eq u v) Q E s
theorem EqM.of_at {P : Program} {w : World} {A : Around} {s : Shared} {u v : Value} (h : SeqAt.EqAt A s u v true) : EqM P w A s u v := fun E Q q => h P w E Q q
theorem EqM.refs {P : Program} {w : World} {A : Around} {s : Shared} {a b : Addr} (h : a ≠ b → RcM P w A s (.ref a) (.ref b)) : EqM P w A s (.ref a) (.ref b) := by
  by_cases e : a = b
  · subst e; exact .of_at (SeqAt.EqAt.same _)
  · intro E Q q
    unfold eqBool
    refine wpAny_holding (wpAny_ite_split (fun z => ?_) fun _ => wpAny_bind (h e E _ (wpAny_truthy_bool q)))
    have := eq_of_beq z
    injection this with this
    exact absurd this e
section
variable {P : Program} {w : World}
open AutoSeq1 (wpAny_loadPart')
open MeetsSeq MeetsSeq2 MeetsSeq3 SeqRoads2 SeqAt
theorem eqm_loop (l b : Addr) (xs ys : Array Value) (n m : Nat) (d1 d2 : Option Addr) (sl1 sl2 : Array (Option Value)) (hsz : xs.size = ys.size) (k : Nat) :
    ∀ i : Nat, xs.size - i = k → MeetsIn P w (Builtin.«list.__eq__.loop» ⟨[.ref l, .ref b, rawInt i, rawInt 2], []⟩)
      (fun A R s => s.heap.get? l = some { cls := .type "list", dict := d1, data := .seq xs n, slots := sl1 } ∧ s.heap.get? b = some { cls := .type "list", dict := d2, data := .seq ys m, slots := sl2 } ∧
        (∀ j (h1 : j < xs.size) (h2 : j < ys.size), EqM P w A.in1 s xs[j] ys[j]) ∧ R (.ok (.ret (.bool true))) s) := by
  induction k with
  | zero =>
    intro i hk A R s h
    obtain ⟨hp, g, d, tk, os⟩ := s
    obtain ⟨hl, hb, he, h⟩ := h
    wp_walk using wpAny_loadPart' hl, wpAny_loadPart' hb
    have z1 : xs[((i : Nat) : Int).toNat]? = none := by simp; omega
    have z2 : ys[((i : Nat) : Int).toNat]? = none := by simp; omega
    rw [z1, z2]
    wp_walk using wpAny_loadPart' hl, wpAny_loadPart' hb
    show R (.ok (.ret (.bool (xs.size == ys.size)))) _
    rw [hsz, beq_self_eq_true]; exact h
  | succ k ih =>
    intro i hk A R s h
    obtain ⟨hp, g, d, tk, os⟩ := s
    obtain ⟨hl, hb, he, h⟩ := h
    wp_walk using wpAny_loadPart' hl, wpAny_loadPart' hb
    have l1 : i < xs.size := by omega
    have l2 : i < ys.size := by omega
    have z1 : xs[((i : Nat) : Int).toNat]? = some xs[i] := by simp [l1]
    have z2 : ys[((i : Nat) : Int).toNat]? = some ys[i] := by simp [l2]
    rw [z1, z2]
    refine wpAny_bind (he i l1 l2 _ _ ?_)
    wp_walk
    rw [show ((i : Int) + 1) = ((i + 1 : Nat) : Int) by omega]
    refine ⟨plainId_quiet plain_eq_loop _, codeAny_builtin entry_eq_loop ?_⟩
    rw [Around.under_plainId plain_eq_loop _]
    exact ih (i + 1) (by omega) A R _ ⟨hl, hb, he, h⟩
theorem eqm_list (l b : Addr) (xs ys : Array Value) (n m : Nat) (d1 d2 : Option Addr) (sl1 sl2 : Array (Option Value)) (hsz : xs.size = ys.size) : MeetsIn P w (Builtin.«list.__eq__» ⟨[.ref l, .ref b], []⟩)
      (fun A R s => s.heap.get? l = some { cls := .type "list", dict := d1, data := .seq xs n, slots := sl1 } ∧ s.heap.get? b = some { cls := .type "list", dict := d2, data := .seq ys m, slots := sl2 } ∧
        (∀ j (h1 : j < xs.size) (h2 : j < ys.size), EqM P w A.in1 s xs[j] ys[j]) ∧ R (.ok (.ret (.bool true))) s) := by
  intro A R s h
  obtain ⟨hp, g, d, tk, os⟩ := s
  obtain ⟨hl, hb, he, h⟩ := h
  have f3 := AutoSeq1.sub_list_list
  have hne : ¬ (xs.size != ys.size) = true := by simp [hsz]
  wp_walk using wpAny_loadPart' hl, wpAny_loadPart' hb
  refine ⟨plainId_quiet plain_eq_loop _, codeAny_builtin entry_eq_loop ?_⟩
  rw [Around.under_plainId plain_eq_loop _]
  exact eqm_loop l b xs ys n m d1 d2 sl1 sl2 hsz _ 0 rfl A R _ ⟨hl, hb, he, h⟩
theorem RcM.lists {A : Around} {s : Shared} {l b : Addr} {xs ys : Array Value} (hl : s.heap.IsList l xs) (hb : s.heap.IsList b ys) (hsz : xs.size = ys.size) (hu : A.units < cLine)
    (he : ∀ j (h1 : j < xs.size) (h2 : j < ys.size), EqM P w A.in1 s xs[j] ys[j]) : RcM P w A s (.ref l) (.ref b) := fun E Q q => by
  obtain ⟨⟨c1, d1, dt1, sl1⟩, ho, hc, n, hd⟩ := id hl
  obtain ⟨⟨c2, d2, dt2, sl2⟩, ho2, hc2, n2, hd2⟩ := id hb
  simp only at hc hd hc2 hd2
  subst hc hd hc2 hd2
  refine wpAny_richCompare_same_room (op := .Eq) ⟨_, ho, rfl⟩ ⟨_, ho2, rfl⟩ F.slot_list_eq (call_meetsIn F.slot_list_eq ⟨_, ho, rfl⟩ F.entry_list_eq (F.args_list_eq_2 _ _) (eqm_list l b xs ys n n2 d1 d2 sl1 sl2 hsz) ⟨ho, ho2, he, ?_⟩) hu
  exact ⟨(fun x => nomatch x), q⟩
end
section
variable {X : Cx} {pins : List (Addr × Obj)} {σ : St} {H : Hp} {s : Shared}
theorem nodup_nK {ks : List (List Nat)} (h : ks.Nodup) : (ks.map nK).Nodup := by
  induction ks with
  | nil => exact List.nodup_nil
  | cons k r ih =>
    rw [List.nodup_cons] at h
    rw [List.map_cons, List.nodup_cons]
    refine ⟨fun hm => ?_, ih h.2⟩
    obtain ⟨k', hk, e⟩ := List.mem_map.mp hm
    exact h.1 (nK_inj e ▸ hk)
end
end L2
namespace L2
open PySem PySem.Spec PyProof.Rows
mutual
def T.sz : T → Nat
  | .lst ts => T.szs ts + 1
  | .dic _ ts => T.szs ts + 1
  | .tup ts => T.szs ts + 1
  | .non => 1
  | .bl _ => 1
  | .int _ => 1
  | .str _ => 1
def T.szs : List T → Nat
  | [] => 0
  | t :: ts => T.sz t + T.szs ts
end
mutual
def Occ (H : Hp) (d : Addr) : V → T → Prop
  | v, .lst ts => v = .ref d ∨ ∃ a vs, v = .ref a ∧ H a = some (.lst vs) ∧ Occs H d vs ts
  | v, .dic _ ts => v = .ref d ∨ ∃ a ps, v = .ref a ∧ H a = some (.dK ps) ∧ Occs H d (ps.map (·.2)) ts
  | v, .tup ts => v = .ref d ∨ ∃ a vs, v = .ref a ∧ H a = some (.tup vs) ∧ Occs H d vs ts
  | _, .non => False
  | _, .bl _ => False
  | _, .int _ => False
  | _, .str _ => False
def Occs (H : Hp) (d : Addr) : List V → List T → Prop
  | v :: vs, t :: ts => Occ H d v t ∨ Occs H d vs ts
  | _, _ => False
end
mutual
/-- a store at an address that does not stand in it changes nothing of it -/
theorem Rep.away {H : Hp} {d : Addr} {o : HO} : ∀ (x : V) (t : T), Rep H x t → ¬ Occ H d x t → Rep (upd H d o) x t
  | _, .non, h, _ => h
  | _, .bl _, h, _ => h
  | _, .int _, h, _ => h
  | _, .str _, h, _ => h
  | x, .lst ts, ⟨a, vs, e, ha, hs⟩, n => by
    have ne : a ≠ d := fun z => n (.inl (by rw [e, z]))
    exact ⟨a, vs, e, by rw [upd_ne ne]; exact ha, Reps.away vs ts hs fun z => n (.inr ⟨a, vs, e, ha, z⟩)⟩
  | x, .dic ks ts, ⟨a, ps, e, ha, hk, hs⟩, n => by
    have ne : a ≠ d := fun z => n (.inl (by rw [e, z]))
    exact ⟨a, ps, e, by rw [upd_ne ne]; exact ha, hk, Reps.away _ ts hs fun z => n (.inr ⟨a, ps, e, ha, z⟩)⟩
  | x, .tup ts, ⟨a, vs, e, ha, hs⟩, n => by
    have ne : a ≠ d := fun z => n (.inl (by rw [e, z]))
    exact ⟨a, vs, e, by rw [upd_ne ne]; exact ha, Reps.away vs ts hs fun z => n (.inr ⟨a, vs, e, ha, z⟩)⟩
theorem Reps.away {H : Hp} {d : Addr} {o : HO} : ∀ (xs : List V) (ts : List T), Reps H xs ts → ¬ Occs H d xs ts → Reps (upd H d o) xs ts
  | _, [], h, _ => h
  | _, t :: ts, ⟨x, xr, e, h1, h2⟩, n => by
    subst e
    exact ⟨x, xr, rfl, Rep.away x t h1 fun z => n (.inl z), Reps.away xr ts h2 fun z => n (.inr z)⟩
end
mutual
theorem Occ.sub {H : Hp} {d : Addr} : ∀ (x : V) (t : T), Rep H x t → Occ H d x t → ∃ t', Rep H (.ref d) t' ∧ T.sz t' ≤ T.sz t
  | _, .non, _, h => h.elim
  | _, .bl _, _, h => h.elim
  | _, .int _, _, h => h.elim
  | _, .str _, _, h => h.elim
  | x, .lst ts, hr, h => by
    rcases h with e | ⟨a, vs, e, ha, h⟩
    · exact ⟨.lst ts, e ▸ hr, Nat.le_refl _⟩
    · obtain ⟨a', vs', e', ha', hs⟩ := hr
      rw [e] at e'; cases e'
      rw [ha] at ha'; cases ha'
      obtain ⟨t', q, l⟩ := Occs.sub vs ts hs h
      exact ⟨t', q, Nat.le_succ_of_le l⟩
  | x, .dic ks ts, hr, h => by
    rcases h with e | ⟨a, vs, e, ha, h⟩
    · exact ⟨.dic ks ts, e ▸ hr, Nat.le_refl _⟩
    · obtain ⟨a', vs', e', ha', _, hs⟩ := hr
      rw [e] at e'; cases e'
      rw [ha] at ha'; cases ha'
      obtain ⟨t', q, l⟩ := Occs.sub _ ts hs h
      exact ⟨t', q, Nat.le_succ_of_le l⟩
  | x, .tup ts, hr, h => by
    rcases h with e | ⟨a, vs, e, ha, h⟩
    · exact ⟨.tup ts, e ▸ hr, Nat.le_refl _⟩
    · obtain ⟨a', vs', e', ha', hs⟩ := hr
      rw [e] at e'; cases e'
      rw [ha] at ha'; cases ha'
      obtain ⟨t', q, l⟩ := Occs.sub vs ts hs h
      exact ⟨t', q, Nat.le_succ_of_le l⟩
theorem Occs.sub {H : Hp} {d : Addr} : ∀ (xs : List V) (ts : List T), Reps H xs ts → Occs H d xs ts → ∃ t', Rep H (.ref d) t' ∧ T.sz t' ≤ T.szs ts
  | xs, [], _, h => by cases xs <;> exact h.elim
  | _, t :: ts, ⟨x, xr, e, h1, h2⟩, h => by
    subst e
    rcases h with h | h
    · obtain ⟨t', q, l⟩ := Occ.sub x t h1 h
      exact ⟨t', q, Nat.le_trans l (Nat.le_add_right _ _)⟩
    · obtain ⟨t', q, l⟩ := Occs.sub xr ts h2 h
      exact ⟨t', q, Nat.le_trans l (Nat.le_add_left _ _)⟩
end
theorem nKs_inj : ∀ {a b : List (List Nat)}, a.map nK = b.map nK → a = b
  | [], [], _ => rfl
  | [], _ :: _, h => by simp at h
  | _ :: _, [], h => by simp at h
  | x :: a, y :: b, h => by
    rw [List.map_cons, List.map_cons] at h
    injection h with h1 h2
    rw [nK_inj h1, nKs_inj h2]
mutual
theorem Rep.one {H : Hp} : ∀ (t : T) (x : V) (t' : T), Rep H x t → Rep H x t' → t = t'
  | .non, x, t', h, h' => by
    cases (show x = .non from h)
    cases t' with
    | non => rfl
    | bl b => cases (show V.non = .bl b from h')
    | int b => cases (show V.non = .int b from h')
    | str b => cases (show V.non = .str (tx b) from h')
    | lst ts => obtain ⟨a, vs, e, _⟩ := h'; cases e
    | dic ks ts => obtain ⟨a, vs, e, _⟩ := h'; cases e
    | tup ts => obtain ⟨a, vs, e, _⟩ := h'; cases e
  | .bl c, x, t', h, h' => by
    cases (show x = .bl c from h)
    cases t' with
    | non => cases (show V.bl c = .non from h')
    | bl b => cases (show V.bl c = .bl b from h'); rfl
    | int b => cases (show V.bl c = .int b from h')
    | str b => cases (show V.bl c = .str (tx b) from h')
    | lst ts => obtain ⟨a, vs, e, _⟩ := h'; cases e
    | dic ks ts => obtain ⟨a, vs, e, _⟩ := h'; cases e
    | tup ts => obtain ⟨a, vs, e, _⟩ := h'; cases e
  | .int c, x, t', h, h' => by
    cases (show x = .int c from h)
    cases t' with
    | non => cases (show V.int c = .non from h')
    | bl b => cases (show V.int c = .bl b from h')
    | int b => cases (show V.int c = .int b from h'); rfl
    | str b => cases (show V.int c = .str (tx b) from h')
    | lst ts => obtain ⟨a, vs, e, _⟩ := h'; cases e
    | dic ks ts => obtain ⟨a, vs, e, _⟩ := h'; cases e
    | tup ts => obtain ⟨a, vs, e, _⟩ := h'; cases e
  | .str c, x, t', h, h' => by
    cases (show x = .str (tx c) from h)
    cases t' with
    | non => cases (show V.str (tx c) = .non from h')
    | bl b => cases (show V.str (tx c) = .bl b from h')
    | int b => cases (show V.str (tx c) = .int b from h')
    | str b =>
      have e : V.str (tx c) = .str (tx b) := h'
      injection e with e
      have e2 : ts (tx c) = ts (tx b) := by rw [e]
      rw [ts_tx, ts_tx] at e2
      rw [e2]
    | lst ts => obtain ⟨a, vs, e, _⟩ := h'; cases e
    | dic ks ts => obtain ⟨a, vs, e, _⟩ := h'; cases e
    | tup ts => obtain ⟨a, vs, e, _⟩ := h'; cases e
  | .lst us, x, t', ⟨a, vs, e, ha, hs⟩, h' => by
    subst e
    cases t' with
    | non => cases (show V.ref a = .non from h')
    | bl b => cases (show V.ref a = .bl b from h')
    | int b => cases (show V.ref a = .int b from h')
    | str b => cases (show V.ref a = .str (tx b) from h')
    | lst ts =>
      obtain ⟨a', vs', e', ha', hs'⟩ := h'
      cases e'
      rw [ha] at ha'; cases ha'
      rw [Reps.one us vs ts hs hs']
    | dic ks ts => obtain ⟨a', vs', e', ha', _⟩ := h'; cases e'; rw [ha] at ha'; cases ha'
    | tup ts => obtain ⟨a', vs', e', ha', _⟩ := h'; cases e'; rw [ha] at ha'; cases ha'
  | .dic js us, x, t', ⟨a, vs, e, ha, hk, hs⟩, h' => by
    subst e
    cases t' with
    | non => cases (show V.ref a = .non from h')
    | bl b => cases (show V.ref a = .bl b from h')
    | int b => cases (show V.ref a = .int b from h')
    | str b => cases (show V.ref a = .str (tx b) from h')
    | lst ts => obtain ⟨a', vs', e', ha', _⟩ := h'; cases e'; rw [ha] at ha'; cases ha'
    | dic ks ts =>
      obtain ⟨a', vs', e', ha', hk', hs'⟩ := h'
      cases e'
      rw [ha] at ha'; cases ha'
      rw [Reps.one us _ ts hs hs', nKs_inj (hk.symm.trans hk')]
    | tup ts => obtain ⟨a', vs', e', ha', _⟩ := h'; cases e'; rw [ha] at ha'; cases ha'
  | .tup us, x, t', ⟨a, vs, e, ha, hs⟩, h' => by
    subst e
    cases t' with
    | non => cases (show V.ref a = .non from h')
    | bl b => cases (show V.ref a = .bl b from h')
    | int b => cases (show V.ref a = .int b from h')
    | str b => cases (show V.ref a = .str (tx b) from h')
    | lst ts => obtain ⟨a', vs', e', ha', _⟩ := h'; cases e'; rw [ha] at ha'; cases ha'
    | dic ks ts => obtain ⟨a', vs', e', ha', _⟩ := h'; cases e'; rw [ha] at ha'; cases ha'
    | tup ts =>
      obtain ⟨a', vs', e', ha', hs'⟩ := h'
      cases e'
      rw [ha] at ha'; cases ha'
      rw [Reps.one us vs ts hs hs']
theorem Reps.one {H : Hp} : ∀ (us : List T) (xs : List V) (ts : List T), Reps H xs us → Reps H xs ts → us = ts
  | [], xs, ts, h, h' => by
    cases (show xs = [] from h)
    cases ts with
    | nil => rfl
    | cons t ts => obtain ⟨x, r, e, _⟩ := h'; cases e
  | u :: us, xs, ts, ⟨x, r, e, h1, h2⟩, h' => by
    subst e
    cases ts with
    | nil => cases (show x :: r = [] from h')
    | cons t ts =>
      obtain ⟨x', r', e', h1', h2'⟩ := h'
      cases e'
      rw [Rep.one u x t h1 h1', Reps.one us r ts h2 h2']
end
theorem valV_ix : ∀ {vs : List (Key × V)} {i : Nat} {k : Key} {y : V}, (vs.map (·.1)).Nodup → vs[i]? = some (k, y) → valV vs k = some y
  | [], i, k, y, _, h => by simp at h
  | p :: vs, 0, k, y, _, h => by
    simp only [List.getElem?_cons_zero, Option.some.injEq] at h
    subst h
    exact valV_pos rfl
  | p :: vs, i + 1, k, y, nd, h => by
    rw [List.map_cons, List.nodup_cons] at nd
    have h' : vs[i]? = some (k, y) := by simpa using h
    have ne : ¬ p.1 = k := fun e => nd.1 (List.mem_map.mpr ⟨(k, y), List.mem_of_getElem? h', e.symm⟩)
    rw [valV_neg ne]
    exact valV_ix nd.2 h'
mutual
theorem Nice.pure {d : Nat} : ∀ (t : T), Nice d t → T.pure t
  | .non, _ => True.intro
  | .bl _, _ => True.intro
  | .int _, _ => True.intro
  | .str _, _ => True.intro
  | .lst ts, h => NiceL.pure (d := d - 1) ts h.2.2
  | .dic ks ts, h => ⟨h.2.2.2.1, NiceL.pure (d := d - 1) ts h.2.2.2.2.2⟩
  | .tup _, h => h.elim
theorem NiceL.pure {d : Nat} : ∀ (ts : List T), NiceL d ts → T.pures ts
  | [], _ => True.intro
  | t :: ts, h => ⟨Nice.pure t h.1, NiceL.pure ts h.2⟩
end
mutual
theorem Nice.dep : ∀ (t : T) {d : Nat}, Nice d t → T.dep t ≤ d
  | .non, _, _ => Nat.zero_le _
  | .bl _, _, _ => Nat.zero_le _
  | .int _, _, _ => Nat.zero_le _
  | .str _, _, _ => Nat.zero_le _
  | .lst ts, d, h => by
    have := NiceL.dep ts h.2.2
    have := h.1
    show T.deps ts + 1 ≤ d
    omega
  | .dic ks ts, d, h => by
    have := NiceL.dep ts h.2.2.2.2.2
    have := h.1
    show T.deps ts + 1 ≤ d
    omega
  | .tup _, _, h => h.elim
theorem NiceL.dep : ∀ (ts : List T) {d : Nat}, NiceL d ts → T.deps ts ≤ d
  | [], _, _ => Nat.zero_le _
  | t :: ts, _, h => Nat.max_le.mpr ⟨Nice.dep t h.1, NiceL.dep ts h.2⟩
end
theorem one_pow5 (d : Nat) : 1 ≤ 5 ^ d := Nat.one_le_pow _ _ (by decide)
mutual
theorem Nice.sz : ∀ (t : T) {d : Nat}, Nice d t → T.sz t ≤ 5 ^ d
  | .non, d, _ => one_pow5 d
  | .bl _, d, _ => one_pow5 d
  | .int _, d, _ => one_pow5 d
  | .str _, d, _ => one_pow5 d
  | .lst ts, d, h => by
    obtain ⟨h1, h2, h3⟩ := h
    obtain ⟨e, rfl⟩ : ∃ e, d = e + 1 := ⟨d - 1, by omega⟩
    have := NiceL.sz ts h3
    have p := one_pow5 e
    show T.szs ts + 1 ≤ 5 ^ (e + 1)
    rw [Nat.add_sub_cancel] at this
    have q : ts.length * 5 ^ e ≤ 4 * 5 ^ e := Nat.mul_le_mul_right _ h2
    rw [Nat.pow_succ]; omega
  | .dic ks ts, d, h => by
    obtain ⟨h1, h2, _, _, _, h3⟩ := h
    obtain ⟨e, rfl⟩ : ∃ e, d = e + 1 := ⟨d - 1, by omega⟩
    have := NiceL.sz ts h3
    have p := one_pow5 e
    show T.szs ts + 1 ≤ 5 ^ (e + 1)
    rw [Nat.add_sub_cancel] at this
    have q : ts.length * 5 ^ e ≤ 4 * 5 ^ e := Nat.mul_le_mul_right _ h2
    rw [Nat.pow_succ]; omega
  | .tup _, _, h => h.elim
theorem NiceL.sz : ∀ (ts : List T) {d : Nat}, NiceL d ts → T.szs ts ≤ ts.length * 5 ^ d
  | [], _, _ => Nat.zero_le _
  | t :: ts, d, h => by
    have a := Nice.sz t h.1
    have b := NiceL.sz ts h.2
    show T.sz t + T.szs ts ≤ (ts.length + 1) * 5 ^ d
    rw [Nat.succ_mul]; omega
end
theorem tyS_tup {H : Hp} {a : Addr} {xs : List V} (h : H a = some (.tup xs)) : tyS H (.ref a) = some "tuple" := by
  show (match H a with | some (.lst _) => some "list" | some (.tup _) => some "tuple" | some (.dK _) => some "dict" | _ => none) = _; rw [h]
theorem tyS_lst {H : Hp} {a : Addr} {xs : List V} (h : H a = some (.lst xs)) : tyS H (.ref a) = some "list" := by
  show (match H a with | some (.lst _) => some "list" | some (.tup _) => some "tuple" | some (.dK _) => some "dict" | _ => none) = _; rw [h]
theorem tyS_dK {H : Hp} {a : Addr} {xs : List (Key × V)} (h : H a = some (.dK xs)) : tyS H (.ref a) = some "dict" := by
  show (match H a with | some (.lst _) => some "list" | some (.tup _) => some "tuple" | some (.dK _) => some "dict" | _ => none) = _; rw [h]
theorem Same.put {H H' : Hp} {p : Addr} (g : Same H H') (h : H p = none) (o : HO) : Same H (upd H' p o) := fun b u e => by
  rw [upd_ne (ne_of_none e h)]; exact g b u e
theorem T.sz_pos : ∀ t : T, 1 ≤ T.sz t
  | .non => Nat.le_refl _
  | .bl _ => Nat.le_refl _
  | .int _ => Nat.le_refl _
  | .str _ => Nat.le_refl _
  | .lst _ => Nat.le_add_left _ _
  | .dic _ _ => Nat.le_add_left _ _
  | .tup _ => Nat.le_add_left _ _
theorem T.szs_len : ∀ ts : List T, ts.length ≤ T.szs ts
  | [] => Nat.le_refl _
  | t :: ts => by
    have a := T.sz_pos t
    have b := T.szs_len ts
    show ts.length + 1 ≤ T.sz t + T.szs ts
    omega
theorem T.szs_le {t : T} : ∀ {ts : List T}, t ∈ ts → T.sz t ≤ T.szs ts
  | [], h => nomatch h
  | u :: ts, h => by
    show T.sz t ≤ T.sz u + T.szs ts
    rcases List.mem_cons.mp h with e | e
    · subst e; exact Nat.le_add_right _ _
    · exact Nat.le_trans (T.szs_le e) (Nat.le_add_left _ _)
mutual
theorem Rep.plain {H H' : Hp} (g : ∀ a u, (∀ o v, u ≠ HO.frz o v) → H a = some u → H' a = some u) : ∀ (x : V) (t : T), Rep H x t → Rep H' x t
  | _, .non, h => h
  | _, .bl _, h => h
  | _, .int _, h => h
  | _, .str _, h => h
  | _, .lst ts, ⟨a, vs, h1, h2, h3⟩ => ⟨a, vs, h1, g _ _ (by intro o v z; cases z) h2, Reps.plain g vs ts h3⟩
  | _, .dic ks ts, ⟨a, ps, h1, h2, h3, h4⟩ => ⟨a, ps, h1, g _ _ (by intro o v z; cases z) h2, h3, Reps.plain g _ ts h4⟩
  | _, .tup ts, ⟨a, vs, h1, h2, h3⟩ => ⟨a, vs, h1, g _ _ (by intro o v z; cases z) h2, Reps.plain g vs ts h3⟩
theorem Reps.plain {H H' : Hp} (g : ∀ a u, (∀ o v, u ≠ HO.frz o v) → H a = some u → H' a = some u) : ∀ (vs : List V) (ts : List T), Reps H vs ts → Reps H' vs ts
  | _, [], h => h
  | _, t :: ts, ⟨v, r, h1, h2, h3⟩ => ⟨v, r, h1, Rep.plain g v t h2, Reps.plain g r ts h3⟩
end
theorem Reps.thaw {H H' : Hp} {vs : List V} {ts : List T} (h : Reps H' vs ts) : Reps (L2.thaw H H') vs ts := Reps.plain (fun _ _ n e => thaw_of e n) vs ts h
theorem Rep.thaw {H H' : Hp} {v : V} {t : T} (h : Rep H' v t) : Rep (L2.thaw H H') v t := Rep.plain (fun _ _ n e => thaw_of e n) v t h
def T.kids : T → List T
  | .lst us => us
  | .dic _ us => us
  | _ => []
def T.next (ts : List T) : List T := (ts.map T.kids).flatten
theorem T.szs_append : ∀ (a b : List T), T.szs (a ++ b) = T.szs a + T.szs b
  | [], b => by show T.szs b = 0 + T.szs b; omega
  | t :: a, b => by
    show T.sz t + T.szs (a ++ b) = T.sz t + T.szs a + T.szs b
    rw [T.szs_append a b]; omega
theorem Reps.append {H : Hp} {ys : List V} {vs : List T} (h' : Reps H ys vs) : ∀ {xs : List V} {us : List T}, Reps H xs us → Reps H (xs ++ ys) (us ++ vs)
  | xs, [], h => by
    cases (show xs = [] from h)
    exact h'
  | _, u :: us, ⟨x, r, e, h1, h2⟩ => by
    subst e
    exact ⟨x, r ++ ys, rfl, h1, Reps.append h' h2⟩
def T.holds (t : T) : Bool := isSub (tyT t) "list" || isSub (tyT t) "dict"
end L2
namespace L2
open PySem PySem.Spec PyProof.Rows
section
variable {X : Cx}
end
end L2
namespace L2
open PySem PySem.Spec PyProof.Rows
section
variable {X : Cx}
end
end L2
namespace L2
open PySem PySem.Spec PyProof.Rows
inductive C where
  | non | bl (b : Bool) | int (i : Int) | str (x : List Nat) | row (xs : List C) | rcd (xs : List C) | odd
def C.ord : C → Nat
  | .non => 0
  | .bl _ => 1
  | .int _ => 2
  | .str _ => 3
  | .row _ => 4
  | .rcd _ => 5
  | .odd => 6
def lookT (k : List Nat) : List (List Nat) → List T → T
  | k' :: ks, c :: cs => if k' = k then c else lookT k ks cs
  | _, _ => .tup []
mutual
/-- names few enough to be sorted -/
def T.few : T → Prop
  | .dic ks ts => ks.Nodup ∧ ks.length < 64 ∧ ks.length = ts.length ∧ T.fews ts
  | .lst ts => ts.length ≤ 100000 ∧ T.fews ts
  | .tup _ => False
  | .non => True
  | .bl _ => True
  | .int _ => True
  | .str _ => True
def T.fews : List T → Prop
  | [] => True
  | t :: ts => T.few t ∧ T.fews ts
end
theorem lookT_ix {k : List Nat} : ∀ {ks : List (List Nat)} {ts : List T} {i : Nat} {t : T}, ks.Nodup → ks[i]? = some k → ts[i]? = some t → lookT k ks ts = t
  | [], _, i, _, _, h, _ => by simp at h
  | k' :: ks, [], i, _, _, _, h => by simp at h
  | k' :: ks, u :: ts, 0, t, nd, h1, h2 => by
    simp only [List.getElem?_cons_zero, Option.some.injEq] at h1 h2
    subst h1 h2
    exact if_pos rfl
  | k' :: ks, u :: ts, i + 1, t, nd, h1, h2 => by
    rw [List.nodup_cons] at nd
    have h1' : ks[i]? = some k := by simpa using h1
    have ne : ¬ k' = k := fun e => nd.1 (e ▸ List.mem_of_getElem? h1')
    show (if k' = k then u else lookT k ks ts) = t
    rw [if_neg ne]
    exact lookT_ix nd.2 h1' (by simpa using h2)
theorem fews_of {ts : List T} (h : ∀ t ∈ ts, T.few t) : T.fews ts := by
  induction ts with
  | nil => exact True.intro
  | cons t ts ih => exact ⟨h t List.mem_cons_self, ih fun u hu => h u (List.mem_cons_of_mem _ hu)⟩
/-- the name's thing, of a record laid out -/
theorem Rep.at_name {H : Hp} {ps : List (Key × V)} {ks : List (List Nat)} {us : List T} (nk : ks.Nodup) (hk : ps.map (·.1) = ks.map fun k => (Sum.inr (tx k) : Key)) (hs : Reps H (ps.map (·.2)) us) {k : List Nat} (hm : k ∈ ks) :
    ∃ v, valV ps (Sum.inr (tx k)) = some v ∧ Rep H v (lookT k ks us) := by
  obtain ⟨j, hj⟩ := List.mem_iff_getElem?.mp hm
  have hp : (ps.map (·.1))[j]? = some (Sum.inr (tx k) : Key) := by rw [hk, List.getElem?_map, hj]; rfl
  rw [List.getElem?_map] at hp
  cases hpj : ps[j]? with
  | none => rw [hpj] at hp; cases hp
  | some kv =>
    rw [hpj] at hp
    have ek : kv.1 = (Sum.inr (tx k) : Key) := Option.some.inj hp
    have hpj' : ps[j]? = some ((Sum.inr (tx k) : Key), kv.2) := by rw [hpj, ← ek]
    obtain ⟨t, ht, hr⟩ := hs.get (i := j) (v := kv.2) (by rw [List.getElem?_map, hpj]; rfl)
    refine ⟨kv.2, valV_ix (by rw [hk]; exact nodup_nK nk) hpj', ?_⟩
    rw [lookT_ix nk hj ht]
    exact hr
end L2
namespace L2
open PySem PySem.Spec PyProof.Rows
def LtM (P : Program) (w : World) (A : Around) (s : Shared) (u v : Value) (b : Bool) : Prop := ∀ (E : Value → Shared → Prop) (Q : Value → Shared → Prop), Q (.bool b) s → wpAny (model P w) A (richCompare .Lt u v) Q E s
def EqB (P : Program) (w : World) (A : Around) (s : Shared) (u v : Value) (b : Bool) : Prop := ∀ (E : Value → Shared → Prop) (Q : Bool → Shared → Prop), Q b s → wpAny (model P w) A (eqBool u v) Q E s
def RqM (P : Program) (w : World) (A : Around) (s : Shared) (u v : Value) (b : Bool) : Prop := ∀ (E : Value → Shared → Prop) (Q : Value → Shared → Prop), Q (.bool b) s → wpAny (model P w) A (richCompare .Eq u v) Q E s
/-- how two rows of values compare, pair by pair -/
inductive Zc (P : Program) (w : World) (A : Around) (s : Shared) : List Value → List Value → Int → Prop
  | nil : Zc P w A s [] [] 0
  | less {y : Value} {ys : List Value} : Zc P w A s [] (y :: ys) (-1)
  | more {x : Value} {xs : List Value} : Zc P w A s (x :: xs) [] 1
  | eq {x y : Value} {xs ys : List Value} {c : Int} : EqB P w A s x y true → Zc P w A s xs ys c → Zc P w A s (x :: xs) (y :: ys) c
  | ne {x y : Value} {xs ys : List Value} {c : Int} : EqB P w A s x y false → LtM P w A s x y (decide (c < 0)) → c ≠ 0 → Zc P w A s (x :: xs) (y :: ys) c
section
variable {P : Program} {w : World} {A : Around} {s : Shared} {E : Value → Shared → Prop}
theorem tup_lt {a b : Addr} {xs ys : Array Value} {c : Int} {R : Fin → Shared → Prop} (hx : IsTup s.heap a xs) (hy : IsTup s.heap b ys) (hz : Zc P w A s xs.toList ys.toList c) (h : R (.done (.ret (.bool (decide (c < 0))))) s) :
    wpAny (model P w) A (Builtin.«tuple.__lt__» ⟨[.ref a, .ref b], []⟩) R E s := by
  have hTb := hy.typeIs
  obtain ⟨oa, hoa, _, na, hda⟩ := hx
  obtain ⟨ob, hob, _, nb, hdb⟩ := hy
  show wpAny _ _ (isInstance (.ref b) (.type "tuple") >>= _) _ _ s
  refine wpAny_bind (wpAny_isInstance hTb isSubtype_tuple_tuple ?_)
  simp only [Bool.not_true, Bool.false_eq_true, if_false]
  refine wpAny_bind (wpAny_tupleItemsOf hoa hda ?_)
  refine wpAny_bind (wpAny_tupleItemsOf hob hdb ?_)
  refine wpAny_bind ?_
  refine wpAny_forIn_list _
    (fun rest r s' => r.1 = none ∧ s' = s ∧ ∃ xs' ys', rest = List.zip xs' ys' ∧ Zc P w A s xs' ys' c ∧ xs'.length + ys.size = ys'.length + xs.size)
    _ ?_ ?_ _ _ ⟨rfl, rfl, xs.toList, ys.toList, rfl, hz, by simp; omega⟩
  · rintro ⟨u, v⟩ rest r s' ⟨hr, rfl, xs', ys', hz', hc, hlen⟩
    cases hc with
    | nil => simp at hz'
    | less => simp at hz'
    | more => simp at hz'
    | eq he hc' =>
      simp only [List.zip_cons_cons, List.cons.injEq, Prod.mk.injEq] at hz'
      obtain ⟨⟨rfl, rfl⟩, rfl⟩ := hz'
      refine wpAny_bind (he _ _ ?_)
      simp only [Bool.not_true, Bool.false_eq_true, if_false]
      exact wpAny_pure ⟨rfl, rfl, _, _, rfl, hc', by simp only [List.length_cons] at hlen; omega⟩
    | ne he hl _ =>
      simp only [List.zip_cons_cons, List.cons.injEq, Prod.mk.injEq] at hz'
      obtain ⟨⟨rfl, rfl⟩, rfl⟩ := hz'
      refine wpAny_bind (he _ _ ?_)
      simp only [Bool.not_false, if_true]
      refine wpAny_bind (wpAny_rule (wpAny_bind (hl _ _ ?_)))
      exact wpAny_bind (wpAny_pure (wpAny_pure (wpAny_pure h)))
  · rintro ⟨r1, r2⟩ s' ⟨hr, rfl, xs', ys', hz', hc, hlen⟩
    simp only at hr
    subst hr
    refine wpAny_pure ?_
    have hfin : (decide (xs.size < ys.size)) = decide (c < 0) := by
      cases hc with
      | nil => simp only [List.length_nil] at hlen; exact decide_eq_decide.mpr ⟨fun h => by omega, fun h => by omega⟩
      | less => simp only [List.length_nil, List.length_cons] at hlen; exact decide_eq_decide.mpr ⟨fun h => by omega, fun h => by omega⟩
      | more => simp only [List.length_nil, List.length_cons] at hlen; exact decide_eq_decide.mpr ⟨fun h => by omega, fun h => by omega⟩
      | eq => simp at hz'
      | ne => simp at hz'
    show R (.done (.ret (.bool (decide (xs.size < ys.size))))) s'
    rw [hfin]; exact h
theorem tup_eq {a b : Addr} {xs ys : Array Value} {c : Int} {R : Fin → Shared → Prop} (hx : IsTup s.heap a xs) (hy : IsTup s.heap b ys) (hz : Zc P w A s xs.toList ys.toList c) (h : R (.done (.ret (.bool (decide (c = 0))))) s) :
    wpAny (model P w) A (Builtin.«tuple.__eq__» ⟨[.ref a, .ref b], []⟩) R E s := by
  have hTb := hy.typeIs
  obtain ⟨oa, hoa, _, na, hda⟩ := hx
  obtain ⟨ob, hob, _, nb, hdb⟩ := hy
  show wpAny _ _ (isInstance (.ref b) (.type "tuple") >>= _) _ _ s
  refine wpAny_bind (wpAny_isInstance hTb isSubtype_tuple_tuple ?_)
  simp only [Bool.not_true, Bool.false_eq_true, if_false]
  refine wpAny_bind (wpAny_tupleItemsOf hoa hda ?_)
  refine wpAny_bind (wpAny_tupleItemsOf hob hdb ?_)
  refine wpAny_bind ?_
  refine wpAny_forIn_list _
    (fun rest r s' => r.1 = none ∧ s' = s ∧ ∃ xs' ys', rest = List.zip xs' ys' ∧ Zc P w A s xs' ys' c ∧ xs'.length + ys.size = ys'.length + xs.size)
    _ ?_ ?_ _ _ ⟨rfl, rfl, xs.toList, ys.toList, rfl, hz, by simp; omega⟩
  · rintro ⟨u, v⟩ rest r s' ⟨hr, rfl, xs', ys', hz', hc, hlen⟩
    cases hc with
    | nil => simp at hz'
    | less => simp at hz'
    | more => simp at hz'
    | eq he hc' =>
      simp only [List.zip_cons_cons, List.cons.injEq, Prod.mk.injEq] at hz'
      obtain ⟨⟨rfl, rfl⟩, rfl⟩ := hz'
      refine wpAny_bind (he _ _ ?_)
      simp only [Bool.not_true, Bool.false_eq_true, if_false]
      exact wpAny_pure ⟨rfl, rfl, _, _, rfl, hc', by simp only [List.length_cons] at hlen; omega⟩
    | ne he hl hn =>
      simp only [List.zip_cons_cons, List.cons.injEq, Prod.mk.injEq] at hz'
      obtain ⟨⟨rfl, rfl⟩, rfl⟩ := hz'
      refine wpAny_bind (he _ _ ?_)
      simp only [Bool.not_false, if_true]
      rw [decide_eq_false hn] at h
      exact wpAny_bind (wpAny_pure (wpAny_pure (wpAny_pure h)))
  · rintro ⟨r1, r2⟩ s' ⟨hr, rfl, xs', ys', hz', hc, hlen⟩
    simp only at hr
    subst hr
    refine wpAny_pure ?_
    have hfin : (xs.size == ys.size) = decide (c = 0) := by
      rw [show (xs.size == ys.size) = decide (xs.size = ys.size) from rfl]
      cases hc with
      | nil => simp only [List.length_nil] at hlen; exact decide_eq_decide.mpr ⟨fun h => rfl, fun h => by omega⟩
      | less => simp only [List.length_nil, List.length_cons] at hlen; exact decide_eq_decide.mpr ⟨fun h => by omega, fun h => by omega⟩
      | more => simp only [List.length_nil, List.length_cons] at hlen; exact decide_eq_decide.mpr ⟨fun h => by omega, fun h => by omega⟩
      | eq => simp at hz'
      | ne => simp at hz'
    show R (.done (.ret (.bool (xs.size == ys.size)))) s'
    rw [hfin]; exact h
theorem LtM.tups {a b : Addr} {xs ys : Array Value} {c : Int} (hx : IsTup s.heap a xs) (hy : IsTup s.heap b ys) (hu : A.units < cLine) (hz : Zc P w A.in1 s xs.toList ys.toList c) : LtM P w A s (.ref a) (.ref b) (decide (c < 0)) := fun E Q q =>
  wpAny_richCompare_same_room (op := .Lt) hx.typeIs hy.typeIs F.slot_tuple_lt (wpAny_call_entry F.slot_tuple_lt hx.typeIs F.entry_tuple_lt (tup_lt hx hy hz ⟨_, rfl, (fun e => nomatch e), q⟩) (F.args_tuple_lt_2 _ _)) hu
theorem RqM.tups {a b : Addr} {xs ys : Array Value} {c : Int} (hx : IsTup s.heap a xs) (hy : IsTup s.heap b ys) (hu : A.units < cLine) (hz : Zc P w A.in1 s xs.toList ys.toList c) : RqM P w A s (.ref a) (.ref b) (decide (c = 0)) := fun E Q q =>
  wpAny_richCompare_same_room (op := .Eq) hx.typeIs hy.typeIs F.slot_tuple_eq (wpAny_call_entry F.slot_tuple_eq hx.typeIs F.entry_tuple_eq (tup_eq hx hy hz ⟨_, rfl, (fun e => nomatch e), q⟩) (F.args_tuple_eq_2 _ _)) hu
theorem EqB.refs {a b : Addr} {k : Bool} (he : a = b → k = true) (h : a ≠ b → RqM P w A s (.ref a) (.ref b) k) : EqB P w A s (.ref a) (.ref b) k := by
  by_cases e : a = b
  · rw [he e]; subst e; exact fun E Q q => SeqAt.EqAt.same _ _ _ E Q q
  · intro E Q q
    unfold eqBool
    refine wpAny_holding (wpAny_ite_split (fun z => ?_) fun _ => wpAny_bind (h e E _ (wpAny_truthy_bool q)))
    have := eq_of_beq z
    injection this with this
    exact absurd this e
end
section
variable {X : Cx} {pins : List (Addr × Obj)} {σ : St} {H : Hp} {s : Shared}
end
end L2
namespace L2
open PySem PySem.Spec PyProof.Rows
mutual
def C.ok : C → Prop
  | .odd => False
  | .row cs => C.oks cs
  | .rcd cs => C.okps cs
  | .non => True
  | .bl _ => True
  | .int _ => True
  | .str _ => True
def C.oks : List C → Prop
  | [] => True
  | c :: cs => C.ok c ∧ C.oks cs
def C.okps : List C → Prop
  | [] => True
  | c :: cs => C.okq c ∧ C.okps cs
def C.okq : C → Prop
  | .row cs => C.okl cs
  | .non => False
  | .bl _ => False
  | .int _ => False
  | .str _ => False
  | .rcd _ => False
  | .odd => False
def C.okl : List C → Prop
  | [] => False
  | c :: cs => (∃ k, c = .str k) ∧ cs.length = 1 ∧ C.oks cs
end
theorem oks_of {cs : List C} (h : ∀ c ∈ cs, C.ok c) : C.oks cs := by
  induction cs with
  | nil => rw [C.oks]; exact True.intro
  | cons c cs ih => rw [C.oks]; exact ⟨h c List.mem_cons_self, ih fun u hu => h u (List.mem_cons_of_mem _ hu)⟩
theorem oks_mem {cs : List C} (h : C.oks cs) {c : C} (hc : c ∈ cs) : C.ok c := by
  induction cs with
  | nil => cases hc
  | cons d cs ih =>
    rw [C.oks] at h
    rcases List.mem_cons.mp hc with e | e
    · subst e; exact h.1
    · exact ih h.2 e
theorem T.deps_of {n : Nat} {ts : List T} (h : ∀ t ∈ ts, T.dep t ≤ n) : T.deps ts ≤ n := by
  induction ts with
  | nil => exact Nat.zero_le _
  | cons t ts ih => exact Nat.max_le.mpr ⟨h t List.mem_cons_self, ih fun u hu => h u (List.mem_cons_of_mem _ hu)⟩
section
variable {X : Cx}
/-- a tuple of texts among the module's names -/
def TupG (K : PySem.W.Frag) (mg : Str → Option Value) (x : Str) (ss : List Str) (a : Addr) : Prop := mg x = some (.ref a) ∧ ∃ (o : Obj) (its : Array Value) (n : Nat), K.lookup a = some o ∧ o.cls = .type "tuple" ∧ o.dict = none ∧ o.data = .seq its n ∧ its.size ≤ sizeLine ∧ Vals (ss.map V.str) its.toList
theorem TupG.ty {K : PySem.W.Frag} {mg : Str → Option Value} {x : Str} {ss : List Str} {a : Addr} {H : Hp} (h : TupG K mg x ss a) : tyV K "tuple" (.ref a) H := by
  obtain ⟨_, o, its, n, h1, h2, h3, _⟩ := h
  exact .inr (.inl ⟨rfl, o, h1, h2, h3⟩)
end
end L2
namespace L2
open PySem PySem.Spec PyProof.Rows
section
variable {X : Cx} {e k : Expr} {te : TE} {tk : TO} {pos p2 : Pos}
end
end L2
namespace L2
open PySem PySem.Spec PyProof.Rows
mutual
/-- small numbers, short texts -/
def T.calm : T → Prop
  | .int i => -(10 ^ 12) ≤ i ∧ i ≤ 10 ^ 12
  | .str x => x.length ≤ 100
  | .lst ts => T.calms ts
  | .dic _ ts => T.calms ts
  | .tup ts => T.calms ts
  | .non => True
  | .bl _ => True
def T.calms : List T → Prop
  | [] => True
  | t :: ts => T.calm t ∧ T.calms ts
end
theorem T.calms_of {ts : List T} (h : ∀ t ∈ ts, T.calm t) : T.calms ts := by
  induction ts with
  | nil => exact True.intro
  | cons t ts ih => exact ⟨h t List.mem_cons_self, ih fun u hu => h u (List.mem_cons_of_mem _ hu)⟩
/-- what is drawn and varied: d deep at most, z things in all at most -/
structure Fit (d z : Nat) (t : T) : Prop where
  few : T.few t
  calm : T.calm t
  dep : T.dep t ≤ d
  sz : T.sz t ≤ z
theorem few_pure : ∀ (n : Nat) (t : T), T.dep t ≤ n → T.few t → T.pure t := by
  intro n
  induction n with
  | zero =>
    intro t hd hf
    cases t with
    | lst ts => exact absurd hd (Nat.not_succ_le_zero _)
    | dic ks ts => exact absurd hd (Nat.not_succ_le_zero _)
    | tup ts => exact hf.elim
    | _ => exact True.intro
  | succ n ih =>
    have all : ∀ ts : List T, T.deps ts ≤ n → T.fews ts → T.pures ts := by
      intro ts
      induction ts with
      | nil => intros; exact True.intro
      | cons t ts ih2 =>
        intro hd hf
        have hd' : max (T.dep t) (T.deps ts) ≤ n := hd
        exact ⟨ih t (by omega) hf.1, ih2 (by omega) hf.2⟩
    intro t hd hf
    cases t with
    | lst ts => exact all ts (Nat.le_of_succ_le_succ hd) hf.2
    | dic ks ts => exact ⟨hf.1, all ts (Nat.le_of_succ_le_succ hd) hf.2.2.2⟩
    | tup ts => exact hf.elim
    | _ => exact True.intro
theorem Fit.pure {d z : Nat} {t : T} (h : Fit d z t) : T.pure t := few_pure d t h.dep h.few
theorem Fit.mono {d z d' z' : Nat} {t : T} (h : Fit d z t) (hd : d ≤ d') (hz : z ≤ z') : Fit d' z' t := ⟨h.few, h.calm, Nat.le_trans h.dep hd, Nat.le_trans h.sz hz⟩
end L2
namespace L2
open PySem PySem.Spec PyProof.Rows
section
variable {P : Program} {w : World}
end
section
variable {X : Cx}
end
end L2
namespace L2
open PySem PySem.Spec PyProof.Rows
theorem Reps.take {H : Hp} : ∀ {xs : List V} {us : List T} (i : Nat), Reps H xs us → Reps H (xs.take i) (us.take i)
  | xs, us, 0, _ => by rw [List.take_zero, List.take_zero]; exact rfl
  | xs, [], i + 1, h => by cases (show xs = [] from h); exact rfl
  | xs, u :: us, i + 1, ⟨x, r, e, h1, h2⟩ => by
    subst e
    rw [List.take_succ_cons, List.take_succ_cons]
    exact ⟨x, _, rfl, h1, Reps.take i h2⟩
theorem Reps.drop {H : Hp} : ∀ {xs : List V} {us : List T} (i : Nat), Reps H xs us → Reps H (xs.drop i) (us.drop i)
  | xs, us, 0, h => by rw [List.drop_zero, List.drop_zero]; exact h
  | xs, [], i + 1, h => by cases (show xs = [] from h); exact rfl
  | xs, u :: us, i + 1, ⟨x, r, e, h1, h2⟩ => by
    subst e
    rw [List.drop_succ_cons, List.drop_succ_cons]
    exact Reps.drop i h2
theorem Reps.reverse {H : Hp} : ∀ {xs : List V} {us : List T}, Reps H xs us → Reps H xs.reverse us.reverse
  | xs, [], h => by cases (show xs = [] from h); exact rfl
  | xs, u :: us, ⟨x, r, e, h1, h2⟩ => by
    subst e
    rw [List.reverse_cons, List.reverse_cons]
    exact Reps.snoc h1 (Reps.reverse h2)
theorem szs_append : ∀ (a b : List T), T.szs (a ++ b) = T.szs a + T.szs b
  | [], b => by show T.szs b = 0 + T.szs b; omega
  | u :: a, b => by
    show T.sz u + T.szs (a ++ b) = T.sz u + T.szs a + T.szs b
    rw [szs_append a b]; omega
theorem sz_pos : ∀ (t : T), 1 ≤ T.sz t
  | .lst ts => Nat.succ_le_succ (Nat.zero_le _)
  | .dic _ ts => Nat.succ_le_succ (Nat.zero_le _)
  | .tup ts => Nat.succ_le_succ (Nat.zero_le _)
  | .non => Nat.le_refl _
  | .bl _ => Nat.le_refl _
  | .int _ => Nat.le_refl _
  | .str _ => Nat.le_refl _
theorem len_szs : ∀ (ts : List T), ts.length ≤ T.szs ts
  | [] => Nat.le_refl _
  | t :: ts => by
    have := len_szs ts
    have := sz_pos t
    show ts.length + 1 ≤ T.sz t + T.szs ts
    omega
/-- a row made of fitting things fits -/
theorem Fit.row {d z : Nat} {us : List T} (h : ∀ u ∈ us, T.few u ∧ T.calm u ∧ T.dep u + 1 ≤ d) (hd : 1 ≤ d) (hz : T.szs us + 1 ≤ z) (hl : T.szs us ≤ 100000) : Fit d z (.lst us) := by
  refine ⟨⟨Nat.le_trans (len_szs us) hl, fews_of fun u hu => (h u hu).1⟩, T.calms_of fun u hu => (h u hu).2.1, ?_, hz⟩
  have : T.deps us ≤ d - 1 := T.deps_of fun u hu => by have := (h u hu).2.2; omega
  show T.deps us + 1 ≤ d
  omega
end L2
namespace L2
open PySem PySem.Spec PyProof.Rows
section
variable {X : Cx} {pins : List (Addr × Obj)} {σ σ' : St} {H H' : Hp} {s s' : Shared}
end
/-- the heap without what stands at d -/
def hide (H : Hp) (d : Addr) : Hp := fun b => if b = d then none else H b
theorem hide_ne {H : Hp} {d b : Addr} (h : b ≠ d) : hide H d b = H b := if_neg h
/-- seen with d hidden: it stands without d -/
theorem Rep.off {H H' : Hp} {d : Addr} {o : Obj} {u : HO} (hd : H' d = some (.frz o u)) {v : V} {t : T} (h : Rep H' v t) : Rep (hide (L2.thaw H H') d) v t :=
  Rep.plain (fun b w n e => by
    have hb : b ≠ d := fun z => by subst z; rw [hd] at e; cases e; exact n _ _ rfl
    rw [hide_ne hb]
    exact thaw_of e n) v t h
end L2
namespace L2
open PySem PySem.Spec PyProof.Rows
def kB : Key := Sum.inr (Str.ofString "b")
end L2
namespace L2
open PySem PySem.Spec PyProof.Rows PySem.Builtin PySem.Builtin.Str
section
variable {prog : Program} {w : World} {A : Around} {E : Value → Shared → Prop} {s : Shared} {x y : Str} {t u : Tok} {Q : Value → Shared → Prop}
end
section
variable {X : Cx}
end
structure Bl3 (mg : Str → Option Value) : Prop extends Bl2 mg where
  abs : mg "abs" = none
end L2
namespace L2
open PySem PySem.Spec PyProof.Rows
def cellF (ns : List Int) (k : Int) : Int :=
  let m := if ns = [] then k * 7919 else (k * 7919 + k / ns.length * 104729 + ns.getD (k % ns.length).toNat 0 * 48271) % 1000003
  (m * m / 11 + 13 * m) % 1000003
theorem cellF_lo (ns : List Int) (k : Int) : 0 ≤ cellF ns k := Int.emod_nonneg _ (by decide)
theorem cellF_hi (ns : List Int) (k : Int) : cellF ns k < 1000003 := Int.emod_lt_of_pos _ (by decide)
end L2
namespace L2
open PySem PySem.Spec PyProof.Rows PySem.Builtin PySem.Builtin.Str
mutual
/-- numbers, texts and names within their bounds, records whole -/
def T.okw : T → Prop
  | .non => True
  | .bl _ => True
  | .int i => -(10 ^ 12) ≤ i ∧ i ≤ 10 ^ 12
  | .str x => x.length ≤ 30
  | .lst ts => T.okws ts
  | .dic ks ts => ks.Nodup ∧ ks.length < 64 ∧ ks.length = ts.length ∧ (∀ k ∈ ks, k.length ≤ 12) ∧ T.okws ts
  | .tup _ => False
def T.okws : List T → Prop
  | [] => True
  | t :: ts => T.okw t ∧ T.okws ts
end
theorem okName_len {k : List Nat} (h : okName k = true) : k.length ≤ 12 := by
  unfold okName at h
  simp only [Bool.and_eq_true, decide_eq_true_eq] at h
  omega
theorem okText_len {k : List Nat} (h : okText k = true) : k.length ≤ 30 := by
  unfold okText at h
  simp only [Bool.and_eq_true, decide_eq_true_eq] at h
  omega
mutual
theorem Nice.okw {d : Nat} : ∀ (t : T), Nice d t → T.okw t
  | .non, _ => True.intro
  | .bl _, _ => True.intro
  | .int _, h => h
  | .str _, h => okText_len h
  | .lst ts, h => NiceL.okw ts h.2.2
  | .dic ks ts, h => by
    obtain ⟨_, h1, h2, h3, h4, h5⟩ := h
    exact ⟨h3, by omega, h2, fun k hk => okName_len (h4 k hk), NiceL.okw ts h5⟩
  | .tup _, h => h.elim
theorem NiceL.okw {d : Nat} : ∀ (ts : List T), NiceL d ts → T.okws ts
  | [], _ => True.intro
  | t :: ts, h => ⟨Nice.okw t h.1, NiceL.okw ts h.2⟩
end
end L2
namespace L2
open PySem PySem.Spec PyProof.Rows
section
variable {X : Cx}
end
end L2
namespace L2
open PySem PySem.Spec PyProof.Rows
def scv : T → V
  | .int i => .int i
  | .str x => .str (tx x)
  | _ => .non
def Sc (t : T) : Prop := (∃ i, t = .int i) ∨ ∃ x, t = .str x
theorem Sc.rep {H : Hp} {t : T} (h : Sc t) : Rep H (scv t) t := by
  rcases h with ⟨i, rfl⟩ | ⟨x, rfl⟩ <;> rfl
theorem Sc.reps {H : Hp} : ∀ {ts : List T}, (∀ t ∈ ts, Sc t) → Reps H (ts.map scv) ts
  | [], _ => rfl
  | t :: ts, h => ⟨scv t, ts.map scv, rfl, (h t List.mem_cons_self).rep, Sc.reps fun u hu => h u (List.mem_cons_of_mem _ hu)⟩
def Lay (H : Hp) : List Addr → List (List V) → Prop
  | [], [] => True
  | p :: ps, v :: vs => H p = some (.lst v) ∧ Lay H ps vs
  | _, _ => False
theorem Lay.same {H H' : Hp} (g : Same H H') : ∀ {ps : List Addr} {vs : List (List V)}, Lay H ps vs → Lay H' ps vs
  | [], [], _ => True.intro
  | _ :: _, _ :: _, h => ⟨g _ _ h.1, Lay.same g h.2⟩
  | [], _ :: _, h => h.elim
  | _ :: _, [], h => h.elim
theorem Lay.away {H : Hp} {a : Addr} {o : HO} : ∀ {ps : List Addr} {vs : List (List V)}, a ∉ ps → Lay H ps vs → Lay (upd H a o) ps vs
  | [], [], _, _ => True.intro
  | p :: _, _ :: _, hn, h => ⟨by rw [upd_ne fun z => hn (by rw [← z]; exact List.mem_cons_self)]; exact h.1, Lay.away (fun z => hn (List.mem_cons_of_mem _ z)) h.2⟩
  | [], _ :: _, _, h => h.elim
  | _ :: _, [], _, h => h.elim
theorem Lay.append {H : Hp} {qs : List Addr} {ws : List (List V)} (h' : Lay H qs ws) : ∀ {ps : List Addr} {vs : List (List V)}, Lay H ps vs → Lay H (ps ++ qs) (vs ++ ws)
  | [], [], _ => h'
  | _ :: _, _ :: _, h => ⟨h.1, Lay.append h' h.2⟩
  | [], _ :: _, h => h.elim
  | _ :: _, [], h => h.elim
theorem Lay.length {H : Hp} : ∀ {ps : List Addr} {vs : List (List V)}, Lay H ps vs → ps.length = vs.length
  | [], [], _ => rfl
  | _ :: _, _ :: _, h => by rw [List.length_cons, List.length_cons, Lay.length h.2]
  | [], _ :: _, h => h.elim
  | _ :: _, [], h => h.elim
theorem Lay.get {H : Hp} : ∀ {ps : List Addr} {vs : List (List V)} {i : Nat} {p : Addr}, Lay H ps vs → ps[i]? = some p → ∃ v, vs[i]? = some v ∧ H p = some (.lst v)
  | [], [], i, p, _, e => by simp at e
  | q :: ps, v :: vs, 0, p, h, e => by
    simp at e
    exact ⟨v, rfl, by rw [← e]; exact h.1⟩
  | q :: ps, v :: vs, i + 1, p, h, e => by
    obtain ⟨w, e1, e2⟩ := Lay.get (i := i) h.2 (by simpa using e)
    exact ⟨w, by simpa using e1, e2⟩
  | [], _ :: _, _, _, h, _ => h.elim
  | _ :: _, [], _, _, h, _ => h.elim
theorem Lay.there {H : Hp} {p : Addr} : ∀ {ps : List Addr} {vs : List (List V)}, Lay H ps vs → p ∈ ps → ∃ o, H p = some o
  | [], _, _, h => nomatch h
  | q :: ps, v :: vs, h, hm => by
    rcases List.mem_cons.mp hm with z | z
    · exact ⟨_, by rw [z]; exact h.1⟩
    · exact Lay.there h.2 z
  | _ :: _, [], h, _ => h.elim
/-- one of them written anew -/
theorem Lay.put {H : Hp} {w : List V} : ∀ {ps : List Addr} {vs : List (List V)} {i : Nat} {p : Addr}, ps.Nodup → Lay H ps vs → ps[i]? = some p → Lay (upd H p (.lst w)) ps (vs.set i w)
  | [], [], i, p, _, _, e => by simp at e
  | q :: ps, v :: vs, 0, p, hn, h, e => by
    simp at e
    subst e
    exact ⟨upd_same, Lay.away (List.nodup_cons.mp hn).1 h.2⟩
  | q :: ps, v :: vs, i + 1, p, hn, h, e => by
    have e' : ps[i]? = some p := by simpa using e
    have hne : q ≠ p := fun z => (List.nodup_cons.mp hn).1 (by rw [z]; exact List.mem_of_getElem? e')
    exact ⟨by rw [upd_ne hne]; exact h.1, Lay.put (List.nodup_cons.mp hn).2 h.2 e'⟩
  | [], _ :: _, _, _, _, h, _ => h.elim
  | _ :: _, [], _, _, _, h, _ => h.elim
theorem Lay.rep {H : Hp} : ∀ {ps : List Addr} {pp : List (List T)}, (∀ p ∈ pp, ∀ s ∈ p, Sc s) → Lay H ps (pp.map (·.map scv)) → Reps H (ps.map V.ref) (pp.map T.lst)
  | [], [], _, _ => rfl
  | a :: ps, p :: pp, hs, h => ⟨.ref a, ps.map V.ref, rfl, ⟨a, p.map scv, rfl, h.1, Sc.reps (hs p List.mem_cons_self)⟩, Lay.rep (fun q hq => hs q (List.mem_cons_of_mem _ hq)) h.2⟩
  | [], _ :: _, _, h => h.elim
  | _ :: _, [], _, h => h.elim
end L2
namespace L2
open PySem PySem.Spec PyProof.Rows
section
variable {X : Cx} {pins : List (Addr × Obj)} {σ : St} {H : Hp} {s : Shared} {h' : Heap}
end
section
variable {X : Cx}
end
/-- two names of a pair -/
abbrev g2 (K : PySem.W.Frag) : TG := gTup K 2 (gCons (gName 0) (gCons (gName 1) gNil))
end L2
namespace L2
open PySem PySem.Spec PyProof.Rows
def tyR (H : Hp) : V → Option String
  | .ref a => match H a with
    | some (.frz _ (.dK _)) => some "dict"
    | _ => tyS H (.ref a)
  | v => tyS H v
theorem tyR_of {H : Hp} {x : V} {t : String} (h : tyS H x = some t) : tyR H x = some t := by
  cases x with
  | ref a =>
    show (match H a with | some (.frz _ (.dK _)) => some "dict" | _ => tyS H (.ref a)) = some t
    split
    · rename_i o kvs e
      have h' : (match H a with | some (.lst _) => some "list" | some (.tup _) => some "tuple" | some (.dK _) => some "dict" | _ => none) = some t := h
      rw [e] at h'; cases h'
    · exact h
  | _ => exact h
theorem tyR_dic {H : Hp} {a : Addr} {ps : List (Key × V)} (h : Rd H a (.dK ps)) : tyR H (.ref a) = some "dict" := by
  rcases h with h | ⟨o, h⟩
  · exact tyR_of (tyS_dK h)
  · show (match H a with | some (.frz _ (.dK _)) => some "dict" | _ => tyS H (.ref a)) = some "dict"
    rw [h]
section
variable {X : Cx}
end
mutual
/-- the value can be read as the tree -/
def Rp (H : Hp) : V → T → Prop
  | v, .non => v = .non
  | v, .bl b => v = .bl b
  | v, .int i => v = .int i
  | v, .str x => v = .str (tx x)
  | v, .lst ts => ∃ a vs, v = .ref a ∧ H a = some (.lst vs) ∧ Rps H vs ts
  | v, .dic ks ts => ∃ a ps, v = .ref a ∧ Rd H a (.dK ps) ∧ ps.map (·.1) = ks.map (fun k => (Sum.inr (tx k) : Key)) ∧ Rps H (ps.map (·.2)) ts
  | v, .tup ts => ∃ a vs, v = .ref a ∧ H a = some (.tup vs) ∧ Rps H vs ts
def Rps (H : Hp) : List V → List T → Prop
  | vs, [] => vs = []
  | vs, t :: ts => ∃ v r, vs = v :: r ∧ Rp H v t ∧ Rps H r ts
end
mutual
theorem Rp.mono {H H' : Hp} (e : ∀ b xs, H b = some (.lst xs) → H' b = some (.lst xs)) (e2 : ∀ b xs, H b = some (.tup xs) → H' b = some (.tup xs)) (e3 : ∀ b ps, Rd H b (.dK ps) → Rd H' b (.dK ps)) : ∀ (v : V) (t : T), Rp H v t → Rp H' v t
  | _, .non, h => h
  | _, .bl _, h => h
  | _, .int _, h => h
  | _, .str _, h => h
  | _, .lst ts, ⟨a, vs, h1, h2, h3⟩ => ⟨a, vs, h1, e _ _ h2, Rps.mono e e2 e3 vs ts h3⟩
  | _, .dic ks ts, ⟨a, ps, h1, h2, h3, h4⟩ => ⟨a, ps, h1, e3 _ _ h2, h3, Rps.mono e e2 e3 _ ts h4⟩
  | _, .tup ts, ⟨a, vs, h1, h2, h3⟩ => ⟨a, vs, h1, e2 _ _ h2, Rps.mono e e2 e3 vs ts h3⟩
theorem Rps.mono {H H' : Hp} (e : ∀ b xs, H b = some (.lst xs) → H' b = some (.lst xs)) (e2 : ∀ b xs, H b = some (.tup xs) → H' b = some (.tup xs)) (e3 : ∀ b ps, Rd H b (.dK ps) → Rd H' b (.dK ps)) : ∀ (vs : List V) (ts : List T), Rps H vs ts → Rps H' vs ts
  | _, [], h => h
  | _, t :: ts, ⟨v, r, h1, h2, h3⟩ => ⟨v, r, h1, Rp.mono e e2 e3 v t h2, Rps.mono e e2 e3 r ts h3⟩
end
theorem Rd.same {H H' : Hp} (g : Same H H') {a : Addr} {u : HO} (h : Rd H a u) : Rd H' a u := h.imp (g _ _) fun ⟨o, e⟩ => ⟨o, g _ _ e⟩
theorem Rp.same {H H' : Hp} (g : Same H H') (v : V) (t : T) (h : Rp H v t) : Rp H' v t := Rp.mono (fun b xs => g b _) (fun b xs => g b _) (fun b ps h => h.same g) v t h
theorem Rps.same {H H' : Hp} (g : Same H H') (v : List V) (t : List T) (h : Rps H v t) : Rps H' v t := Rps.mono (fun b xs => g b _) (fun b xs => g b _) (fun b ps h => h.same g) v t h
theorem Rd.frz {H : Hp} {d : Addr} {o : Obj} {ps : List (Key × V)} (hd : H d = some (.dK ps)) {b : Addr} {qs : List (Key × V)} (h : Rd H b (.dK qs)) : Rd (upd H d (.frz o (.dK ps))) b (.dK qs) := by
  by_cases e : b = d
  · subst e
    rcases h with h | ⟨o', h⟩
    · rw [hd] at h; cases h
      exact .inr ⟨o, upd_same⟩
    · rw [hd] at h; cases h
  · exact h.imp (fun h => by rw [upd_ne e]; exact h) fun ⟨o', h⟩ => ⟨o', by rw [upd_ne e]; exact h⟩
theorem Rps.frz {H : Hp} {d : Addr} {o : Obj} {ps : List (Key × V)} (hd : H d = some (.dK ps)) (v : List V) (t : List T) (h : Rps H v t) : Rps (upd H d (.frz o (.dK ps))) v t :=
  Rps.mono (fun b xs e => by rw [upd_ne fun z => by rw [z, hd] at e; cases e]; exact e) (fun b xs e => by rw [upd_ne fun z => by rw [z, hd] at e; cases e]; exact e) (fun b qs h => Rd.frz hd h) v t h
theorem Rps.length {H : Hp} : ∀ {vs : List V} {ts : List T}, Rps H vs ts → vs.length = ts.length
  | _, [], e => by
    have e' : _ = [] := e
    subst e'; rfl
  | _, t' :: ts, ⟨v', r, h1, h2, h3⟩ => by
    subst h1
    simp [Rps.length h3]
theorem Rps.get {H : Hp} : ∀ {vs : List V} {ts : List T} {i : Nat} {v : V}, Rps H vs ts → vs[i]? = some v → ∃ t, ts[i]? = some t ∧ Rp H v t
  | _, [], i, v, e, h => by
    have e' : _ = [] := e
    subst e'; simp at h
  | _, t' :: ts, 0, v, ⟨v', r, h1, h2, h3⟩, h => by
    subst h1
    simp at h; subst h
    exact ⟨t', rfl, h2⟩
  | _, t' :: ts, i + 1, v, ⟨v', r, h1, h2, h3⟩, h => by
    subst h1
    obtain ⟨t, e, q⟩ := Rps.get (i := i) (v := v) h3 (by simpa using h)
    exact ⟨t, by simpa using e, q⟩
theorem Rp.ty {H : Hp} {v : V} : ∀ {t : T}, Rp H v t → tyR H v = some (tyT t)
  | .non, h => by cases (show v = .non from h); rfl
  | .bl b, h => by cases (show v = .bl b from h); rfl
  | .int i, h => by cases (show v = .int i from h); rfl
  | .str x, h => by cases (show v = .str (tx x) from h); rfl
  | .lst ts, h => by obtain ⟨a, vs, e, h2, _⟩ := h; subst e; exact tyR_of (tyS_lst h2)
  | .dic ks ts, h => by obtain ⟨a, vs, e, h2, _⟩ := h; subst e; exact tyR_dic h2
  | .tup ts, h => by obtain ⟨a, vs, e, h2, _⟩ := h; subst e; exact tyR_of (tyS_tup h2)
/-- what a record has by a name -/
theorem Rp.at_name {H : Hp} {ps : List (Key × V)} {ks : List (List Nat)} {us : List T} (nk : ks.Nodup) (hk : ps.map (·.1) = ks.map fun k => (Sum.inr (tx k) : Key)) (hs : Rps H (ps.map (·.2)) us) {k : List Nat} (hm : k ∈ ks) :
    ∃ v, valV ps (Sum.inr (tx k)) = some v ∧ Rp H v (lookT k ks us) := by
  obtain ⟨j, hj⟩ := List.mem_iff_getElem?.mp hm
  have hp : (ps.map (·.1))[j]? = some (Sum.inr (tx k) : Key) := by rw [hk, List.getElem?_map, hj]; rfl
  rw [List.getElem?_map] at hp
  cases hpj : ps[j]? with
  | none => rw [hpj] at hp; cases hp
  | some kv =>
    rw [hpj] at hp
    have ek : kv.1 = (Sum.inr (tx k) : Key) := Option.some.inj hp
    have hpj' : ps[j]? = some ((Sum.inr (tx k) : Key), kv.2) := by rw [hpj, ← ek]
    obtain ⟨t, ht, hr⟩ := hs.get (i := j) (v := kv.2) (by rw [List.getElem?_map, hpj]; rfl)
    refine ⟨kv.2, valV_ix (by rw [hk]; exact nodup_nK nk) hpj', ?_⟩
    rw [lookT_ix nk hj ht]
    exact hr
structure Bl4 (mg : Str → Option Value) : Prop extends Bl2 mg where
  enumerate : mg "enumerate" = none
end L2
namespace L2
open PySem PySem.Spec PyProof.Rows
mutual
/-- the value stands for the tree; its rows and records lie at D, each at one place alone -/
def Sp1 (H : Hp) : V → T → List Addr → Prop
  | v, .non, D => D = [] ∧ v = .non
  | v, .bl b, D => D = [] ∧ v = .bl b
  | v, .int i, D => D = [] ∧ v = .int i
  | v, .str x, D => D = [] ∧ v = .str (tx x)
  | v, .lst ts, D => ∃ a vs D', v = .ref a ∧ H a = some (.lst vs) ∧ D = a :: D' ∧ a ∉ D' ∧ Sps H vs ts D'
  | v, .dic ks ts, D => ∃ a ps D', v = .ref a ∧ H a = some (.dK ps) ∧ ps.map (·.1) = ks.map (fun k => (Sum.inr (tx k) : Key)) ∧ D = a :: D' ∧ a ∉ D' ∧ Sps H (ps.map (·.2)) ts D'
  | _, .tup _, _ => False
def Sps (H : Hp) : List V → List T → List Addr → Prop
  | vs, [], D => vs = [] ∧ D = []
  | vs, t :: ts, D => ∃ v r D1 D2, vs = v :: r ∧ D = D1 ++ D2 ∧ Sp1 H v t D1 ∧ Sps H r ts D2 ∧ ∀ b ∈ D1, b ∉ D2
end
mutual
theorem Sp1.rep {H : Hp} : ∀ (v : V) (t : T) (D : List Addr), Sp1 H v t D → Rep H v t
  | _, .non, _, h => h.2
  | _, .bl _, _, h => h.2
  | _, .int _, _, h => h.2
  | _, .str _, _, h => h.2
  | _, .lst ts, _, ⟨a, vs, D', h1, h2, _, _, h3⟩ => ⟨a, vs, h1, h2, Sps.rep vs ts D' h3⟩
  | _, .dic ks ts, _, ⟨a, ps, D', h1, h2, h3, _, _, h4⟩ => ⟨a, ps, h1, h2, h3, Sps.rep _ ts D' h4⟩
  | _, .tup _, _, h => h.elim
theorem Sps.rep {H : Hp} : ∀ (vs : List V) (ts : List T) (D : List Addr), Sps H vs ts D → Reps H vs ts
  | _, [], _, h => h.1
  | _, t :: ts, _, ⟨v, r, D1, D2, h1, _, h2, h3, _⟩ => ⟨v, r, h1, Sp1.rep v t D1 h2, Sps.rep r ts D2 h3⟩
end
mutual
theorem Sp1.keep {H H' : Hp} : ∀ (v : V) (t : T) (D : List Addr), (∀ b ∈ D, ∀ o, (∀ ob u, o ≠ HO.frz ob u) → H b = some o → H' b = some o) → Sp1 H v t D → Sp1 H' v t D
  | _, .non, _, _, h => h
  | _, .bl _, _, _, h => h
  | _, .int _, _, _, h => h
  | _, .str _, _, _, h => h
  | _, .lst ts, _, k, ⟨a, vs, D', h1, h2, e, n, h3⟩ => ⟨a, vs, D', h1, k a (by rw [e]; exact List.mem_cons_self) _ (by intro ob u z; cases z) h2, e, n, Sps.keep vs ts D' (fun b hb => k b (by rw [e]; exact List.mem_cons_of_mem _ hb)) h3⟩
  | _, .dic ks ts, _, k, ⟨a, ps, D', h1, h2, h3, e, n, h4⟩ => ⟨a, ps, D', h1, k a (by rw [e]; exact List.mem_cons_self) _ (by intro ob u z; cases z) h2, h3, e, n, Sps.keep _ ts D' (fun b hb => k b (by rw [e]; exact List.mem_cons_of_mem _ hb)) h4⟩
  | _, .tup _, _, _, h => h.elim
theorem Sps.keep {H H' : Hp} : ∀ (vs : List V) (ts : List T) (D : List Addr), (∀ b ∈ D, ∀ o, (∀ ob u, o ≠ HO.frz ob u) → H b = some o → H' b = some o) → Sps H vs ts D → Sps H' vs ts D
  | _, [], _, _, h => h
  | _, t :: ts, _, k, ⟨v, r, D1, D2, h1, e, h2, h3, n⟩ => ⟨v, r, D1, D2, h1, e, Sp1.keep v t D1 (fun b hb => k b (by rw [e]; exact List.mem_append_left _ hb)) h2, Sps.keep r ts D2 (fun b hb => k b (by rw [e]; exact List.mem_append_right _ hb)) h3, n⟩
end
mutual
theorem Sp1.there {H : Hp} {b : Addr} : ∀ (v : V) (t : T) (D : List Addr), Sp1 H v t D → b ∈ D → ∃ o, H b = some o
  | _, .non, _, h, hb => by rw [h.1] at hb; cases hb
  | _, .bl _, _, h, hb => by rw [h.1] at hb; cases hb
  | _, .int _, _, h, hb => by rw [h.1] at hb; cases hb
  | _, .str _, _, h, hb => by rw [h.1] at hb; cases hb
  | _, .lst ts, _, ⟨a, vs, D', h1, h2, e, n, h3⟩, hb => by
    rw [e] at hb
    rcases List.mem_cons.mp hb with z | z
    · exact ⟨_, by rw [z]; exact h2⟩
    · exact Sps.there vs ts D' h3 z
  | _, .dic ks ts, _, ⟨a, ps, D', h1, h2, h3, e, n, h4⟩, hb => by
    rw [e] at hb
    rcases List.mem_cons.mp hb with z | z
    · exact ⟨_, by rw [z]; exact h2⟩
    · exact Sps.there _ ts D' h4 z
  | _, .tup _, _, h, _ => h.elim
theorem Sps.there {H : Hp} {b : Addr} : ∀ (vs : List V) (ts : List T) (D : List Addr), Sps H vs ts D → b ∈ D → ∃ o, H b = some o
  | _, [], _, h, hb => by rw [h.2] at hb; cases hb
  | _, t :: ts, _, ⟨v, r, D1, D2, h1, e, h2, h3, n⟩, hb => by
    rw [e] at hb
    rcases List.mem_append.mp hb with z | z
    · exact Sp1.there v t D1 h2 z
    · exact Sps.there r ts D2 h3 z
end
theorem Sp1.same {H H' : Hp} (g : Same H H') {v : V} {t : T} {D : List Addr} (h : Sp1 H v t D) : Sp1 H' v t D := Sp1.keep v t D (fun b _ o _ e => g b o e) h
theorem Sps.same {H H' : Hp} (g : Same H H') {v : List V} {t : List T} {D : List Addr} (h : Sps H v t D) : Sps H' v t D := Sps.keep v t D (fun b _ o _ e => g b o e) h
theorem Sps.snoc {H : Hp} {v : V} {t : T} {D1 : List Addr} (h : Sp1 H v t D1) : ∀ {vs : List V} {ts : List T} {D : List Addr}, Sps H vs ts D → (∀ b ∈ D, b ∉ D1) → Sps H (vs ++ [v]) (ts ++ [t]) (D ++ D1)
  | _, [], D, e, _ => by
    obtain ⟨e1, e2⟩ := e
    subst e1 e2
    exact ⟨v, [], D1, [], rfl, by simp, h, ⟨rfl, rfl⟩, fun _ _ z => nomatch z⟩
  | _, t' :: ts, D, ⟨v', r, E1, E2, h1, e, h2, h3, n⟩, hd => by
    subst h1 e
    refine ⟨v', r ++ [v], E1, E2 ++ D1, rfl, by simp, h2, Sps.snoc h h3 fun b hb => hd b (List.mem_append_right _ hb), fun b hb z => ?_⟩
    rcases List.mem_append.mp z with c | c
    · exact n b hb c
    · exact hd b (List.mem_append_left _ hb) c
theorem Sps.length {H : Hp} {vs : List V} {ts : List T} {D : List Addr} (h : Sps H vs ts D) : vs.length = ts.length := (Sps.rep vs ts D h).length
/-- but at D all stays -/
def Keep (D : List Addr) (H H' : Hp) : Prop := ∀ b o, b ∉ D → H b = some o → H' b = some o
theorem Keep.refl {D : List Addr} {H : Hp} : Keep D H H := fun _ _ _ h => h
theorem Keep.trans {D : List Addr} {H H1 H2 : Hp} (a : Keep D H H1) (b : Keep D H1 H2) : Keep D H H2 := fun c o h e => b c o h (a c o h e)
theorem Keep.mono {D D' : List Addr} {H H' : Hp} (h : Keep D H H') (s : ∀ b ∈ D, b ∈ D') : Keep D' H H' := fun b o hb e => h b o (fun z => hb (s b z)) e
theorem Keep.of {D : List Addr} {H H' : Hp} (g : Same H H') : Keep D H H' := fun b o _ e => g b o e
theorem Keep.put {D : List Addr} {H H' : Hp} {a : Addr} (o : HO) (h : Keep D H H') (ha : a ∈ D) : Keep D H (upd H' a o) := fun b u hb e => by
  rw [upd_ne fun z => hb (by rw [z]; exact ha)]
  exact h b u hb e
theorem none_back {H H' : Hp} (g : Same H H') {p : Addr} (h : H' p = none) : H p = none := by
  cases e : H p with
  | none => rfl
  | some o => rw [g _ _ e] at h; cases h
theorem Sps.thaw {H H' : Hp} {vs : List V} {ts : List T} {D : List Addr} (h : Sps H' vs ts D) : Sps (L2.thaw H H') vs ts D := Sps.keep vs ts D (fun _ _ _ n e => thaw_of e n) h
end L2
namespace L2
open PySem PySem.Spec PyProof.Rows
section
variable {prog : Program} {w : World} {A : Around} {E : Value → Shared → Prop} {s : Shared}
end
section
variable {X : Cx}
end
end L2
namespace L2
open PySem PySem.Spec PyProof.Rows
section
variable {X : Cx} {a : Expr} {ta : TE}
end
end L2
namespace L2
open PySem PySem.Spec PyProof.Rows
inductive U where
  | leaf (v : V) | lst (us : List U) | dic (ks : List Key) (us : List U)
def lfS : V → Bool
  | .non => true
  | .bl _ => true
  | .int _ => true
  | .str _ => true
  | _ => false
def Lf (H : Hp) (x : V) : Prop := lfS x = true ∨ ∃ (a : Addr) (xs : List V), x = .ref a ∧ H a = some (.tup xs)
theorem Lf.same {H H' : Hp} (g : ∀ b xs, H b = some (.tup xs) → H' b = some (.tup xs)) {x : V} (h : Lf H x) : Lf H' x := h.imp id fun ⟨a, xs, e, h⟩ => ⟨a, xs, e, g _ _ h⟩
mutual
def Ru (H : Hp) : V → U → Prop
  | v, .leaf x => v = x ∧ Lf H x
  | v, .lst us => ∃ a vs, v = .ref a ∧ H a = some (.lst vs) ∧ Rus H vs us
  | v, .dic ks us => ∃ a ps, v = .ref a ∧ Rd H a (.dK ps) ∧ ps.map (·.1) = ks ∧ Rus H (ps.map (·.2)) us
def Rus (H : Hp) : List V → List U → Prop
  | vs, [] => vs = []
  | vs, u :: us => ∃ v r, vs = v :: r ∧ Ru H v u ∧ Rus H r us
end
mutual
theorem Ru.mono {H H' : Hp} (e : ∀ b xs, H b = some (.lst xs) → H' b = some (.lst xs)) (e2 : ∀ b xs, H b = some (.tup xs) → H' b = some (.tup xs)) (e3 : ∀ b ps, Rd H b (.dK ps) → Rd H' b (.dK ps)) : ∀ (v : V) (u : U), Ru H v u → Ru H' v u
  | _, .leaf _, h => ⟨h.1, h.2.same e2⟩
  | _, .lst us, ⟨a, vs, h1, h2, h3⟩ => ⟨a, vs, h1, e _ _ h2, Rus.mono e e2 e3 vs us h3⟩
  | _, .dic ks us, ⟨a, ps, h1, h2, h3, h4⟩ => ⟨a, ps, h1, e3 _ _ h2, h3, Rus.mono e e2 e3 _ us h4⟩
theorem Rus.mono {H H' : Hp} (e : ∀ b xs, H b = some (.lst xs) → H' b = some (.lst xs)) (e2 : ∀ b xs, H b = some (.tup xs) → H' b = some (.tup xs)) (e3 : ∀ b ps, Rd H b (.dK ps) → Rd H' b (.dK ps)) : ∀ (vs : List V) (us : List U), Rus H vs us → Rus H' vs us
  | _, [], h => h
  | _, u :: us, ⟨v, r, h1, h2, h3⟩ => ⟨v, r, h1, Ru.mono e e2 e3 v u h2, Rus.mono e e2 e3 r us h3⟩
end
theorem Ru.same {H H' : Hp} (g : Same H H') {v : V} {u : U} (h : Ru H v u) : Ru H' v u := Ru.mono (fun b xs => g b _) (fun b xs => g b _) (fun b ps h => h.same g) v u h
theorem Rus.same {H H' : Hp} (g : Same H H') {v : List V} {u : List U} (h : Rus H v u) : Rus H' v u := Rus.mono (fun b xs => g b _) (fun b xs => g b _) (fun b ps h => h.same g) v u h
theorem Rus.frz {H : Hp} {d : Addr} {o : Obj} {ps : List (Key × V)} (hd : H d = some (.dK ps)) {v : List V} {u : List U} (h : Rus H v u) : Rus (upd H d (.frz o (.dK ps))) v u :=
  Rus.mono (fun b xs e => by rw [upd_ne fun z => by rw [z, hd] at e; cases e]; exact e) (fun b xs e => by rw [upd_ne fun z => by rw [z, hd] at e; cases e]; exact e) (fun b qs h => Rd.frz hd h) v u h
theorem Rus.length {H : Hp} : ∀ {vs : List V} {us : List U}, Rus H vs us → vs.length = us.length
  | _, [], e => by
    have e' : _ = [] := e
    subst e'; rfl
  | _, _ :: us, ⟨v', r, h1, h2, h3⟩ => by
    subst h1
    simp [Rus.length h3]
theorem Rus.get {H : Hp} : ∀ {vs : List V} {us : List U} {i : Nat} {v : V}, Rus H vs us → vs[i]? = some v → ∃ u, us[i]? = some u ∧ Ru H v u
  | _, [], i, v, e, h => by
    have e' : _ = [] := e
    subst e'; simp at h
  | _, u' :: us, 0, v, ⟨v', r, h1, h2, h3⟩, h => by
    subst h1
    simp at h; subst h
    exact ⟨u', rfl, h2⟩
  | _, _ :: us, i + 1, v, ⟨v', r, h1, h2, h3⟩, h => by
    subst h1
    obtain ⟨u, e, q⟩ := Rus.get (i := i) (v := v) h3 (by simpa using h)
    exact ⟨u, by simpa using e, q⟩
theorem Rus.append {H : Hp} {ws : List V} {xs : List U} (h' : Rus H ws xs) : ∀ {vs : List V} {us : List U}, Rus H vs us → Rus H (vs ++ ws) (us ++ xs)
  | _, [], e => by
    have e' : _ = [] := e
    subst e'; exact h'
  | _, u' :: us, ⟨v', r, h1, h2, h3⟩ => by
    subst h1
    exact ⟨v', r ++ ws, rfl, h2, Rus.append h' h3⟩
theorem Rus.snoc {H : Hp} {v : V} {u : U} (h : Ru H v u) {vs : List V} {us : List U} (hs : Rus H vs us) : Rus H (vs ++ [v]) (us ++ [u]) := Rus.append (show Rus H [v] [u] from ⟨v, [], rfl, h, rfl⟩) hs
theorem Rus.take {H : Hp} : ∀ {xs : List V} {us : List U} (i : Nat), Rus H xs us → Rus H (xs.take i) (us.take i)
  | _, _, 0, _ => rfl
  | _, [], i + 1, e => by
    have e' : _ = [] := e
    subst e'; rfl
  | _, u :: us, i + 1, ⟨v, r, h1, h2, h3⟩ => by
    subst h1
    exact ⟨v, r.take i, rfl, h2, Rus.take i h3⟩
theorem Rus.drop {H : Hp} : ∀ {xs : List V} {us : List U} (i : Nat), Rus H xs us → Rus H (xs.drop i) (us.drop i)
  | _, _, 0, h => h
  | _, [], i + 1, e => by
    have e' : _ = [] := e
    subst e'; rfl
  | _, u :: us, i + 1, ⟨v, r, h1, h2, h3⟩ => by
    subst h1
    exact Rus.drop i h3
theorem Rus.rep {H : Hp} {v : V} {u : U} (h : Ru H v u) : ∀ n : Nat, Rus H (List.replicate n v) (List.replicate n u)
  | 0 => rfl
  | n + 1 => ⟨v, List.replicate n v, rfl, h, Rus.rep h n⟩
mutual
def emb : T → U
  | .non => .leaf .non
  | .bl b => .leaf (.bl b)
  | .int i => .leaf (.int i)
  | .str x => .leaf (.str (tx x))
  | .lst ts => .lst (embs ts)
  | .dic ks ts => .dic (ks.map nK) (embs ts)
  | .tup _ => .leaf .non
def embs : List T → List U
  | [] => []
  | t :: ts => emb t :: embs ts
end
mutual
theorem Rep.ru {H : Hp} : ∀ (v : V) (t : T), Rep H v t → T.pure t → Ru H v (emb t)
  | _, .non, h, _ => ⟨h, .inl rfl⟩
  | _, .bl _, h, _ => ⟨h, .inl rfl⟩
  | _, .int _, h, _ => ⟨h, .inl rfl⟩
  | _, .str _, h, _ => ⟨h, .inl rfl⟩
  | _, .lst ts, ⟨a, vs, h1, h2, h3⟩, hp => ⟨a, vs, h1, h2, Reps.ru vs ts h3 hp⟩
  | _, .dic ks ts, ⟨a, ps, h1, h2, h3, h4⟩, hp => ⟨a, ps, h1, .inl h2, h3, Reps.ru _ ts h4 hp.2⟩
  | _, .tup _, _, hp => hp.elim
theorem Reps.ru {H : Hp} : ∀ (vs : List V) (ts : List T), Reps H vs ts → T.pures ts → Rus H vs (embs ts)
  | _, [], h, _ => h
  | _, t :: ts, ⟨v, r, h1, h2, h3⟩, hp => ⟨v, r, h1, Rep.ru v t h2 hp.1, Reps.ru r ts h3 hp.2⟩
end
mutual
def U.sz : U → Nat
  | .leaf _ => 1
  | .lst us => U.szs us + 1
  | .dic _ us => U.szs us + 1
def U.szs : List U → Nat
  | [] => 0
  | u :: us => U.sz u + U.szs us
end
mutual
def U.dep : U → Nat
  | .leaf _ => 0
  | .lst us => U.deps us + 1
  | .dic _ us => U.deps us + 1
def U.deps : List U → Nat
  | [] => 0
  | u :: us => max (U.dep u) (U.deps us)
end
mutual
/-- short texts, a record's keys unlike; as many as its things -/
def U.ok : U → Prop
  | .leaf v => ∀ x, v = .str x → x.length ≤ 1000
  | .lst us => U.oks us
  | .dic ks us => ks.Nodup ∧ ks.length = us.length ∧ (∀ x, Sum.inr x ∈ ks → x.length ≤ 1000) ∧ U.oks us
def U.oks : List U → Prop
  | [] => True
  | u :: us => U.ok u ∧ U.oks us
end
theorem U.oks_mem {u : U} : ∀ {us : List U}, U.oks us → u ∈ us → U.ok u
  | [], _, h => nomatch h
  | x :: us, h, hm => (List.mem_cons.mp hm).elim (fun e => e ▸ h.1) (U.oks_mem h.2)
theorem U.oks_of {us : List U} (h : ∀ u ∈ us, U.ok u) : U.oks us := by
  induction us with
  | nil => exact True.intro
  | cons t ts ih => exact ⟨h t List.mem_cons_self, ih fun u hu => h u (List.mem_cons_of_mem _ hu)⟩
theorem U.szs_append : ∀ (a b : List U), U.szs (a ++ b) = U.szs a + U.szs b
  | [], b => by simp [U.szs]
  | x :: a, b => by
    show U.sz x + U.szs (a ++ b) = U.sz x + U.szs a + U.szs b
    rw [U.szs_append a b]; omega
theorem U.szs_le {u : U} : ∀ {us : List U}, u ∈ us → U.sz u ≤ U.szs us
  | [], h => nomatch h
  | x :: us, h => by
    show U.sz u ≤ U.sz x + U.szs us
    rcases List.mem_cons.mp h with e | e
    · rw [e]; omega
    · have := U.szs_le e; omega
theorem U.deps_le {u : U} : ∀ {us : List U}, u ∈ us → U.dep u ≤ U.deps us
  | [], h => nomatch h
  | x :: us, h => by
    show U.dep u ≤ max (U.dep x) (U.deps us)
    rcases List.mem_cons.mp h with e | e
    · rw [e]; omega
    · have := U.deps_le e; omega
theorem U.sz_pos : ∀ u : U, 1 ≤ U.sz u
  | .leaf _ => Nat.le_refl _
  | .lst _ => Nat.le_add_left _ _
  | .dic _ _ => Nat.le_add_left _ _
theorem U.szs_len : ∀ us : List U, us.length ≤ U.szs us
  | [] => Nat.le_refl _
  | u :: us => by
    have := U.szs_len us
    have := U.sz_pos u
    show us.length + 1 ≤ U.sz u + U.szs us
    omega
def tyU : U → String
  | .leaf .non => "NoneType"
  | .leaf (.bl _) => "bool"
  | .leaf (.int _) => "int"
  | .leaf (.str _) => "str"
  | .leaf _ => "tuple"
  | .lst _ => "list"
  | .dic _ _ => "dict"
theorem Ru.ty {H : Hp} {v : V} : ∀ {u : U}, Ru H v u → tyR H v = some (tyU u)
  | .leaf x, h => by
    obtain ⟨rfl, h | ⟨a, xs, e, h⟩⟩ := h
    · cases v <;> first | rfl | cases h
    · subst e; exact tyR_of (tyS_tup h)
  | .lst us, h => by obtain ⟨a, vs, e, h2, _⟩ := h; subst e; exact tyR_of (tyS_lst h2)
  | .dic ks us, h => by obtain ⟨a, vs, e, h2, _⟩ := h; subst e; exact tyR_dic h2
section
variable {X : Cx} {pins : List (Addr × Obj)} {σ : St} {H : Hp} {s : Shared}
end
section
variable {X : Cx} {o : Expr} {to : TE} {name : Str} {apos cpos : Pos} {id : String} {r : V → List V → Hp → VK → Prop}
end
structure Bl5 (mg : Str → Option Value) : Prop extends Bl2 mg where
  abs : mg "abs" = none
  ord : mg "ord" = none
end L2
namespace L2
open PySem PySem.Spec PyProof.Rows
section
variable {X : Cx} {pins : List (Addr × Obj)} {σ : St} {H : Hp} {s : Shared} {h' : Heap}
end
/-- the lists at l and m, place by place: each pair a new tuple -/
def Itz (K : PySem.W.Frag) (l m : Addr) : It :=
  ⟨fun i H => ∃ xs ys x y, SqL K H l xs ∧ SqL K H m ys ∧ xs[i]? = some x ∧ ys[i]? = some y,
   fun i H v H' => ∃ p x y, H p = none ∧ v = .ref p ∧ (∀ xs, SqL K H l xs → xs[i]? = some x) ∧ (∀ ys, SqL K H m ys → ys[i]? = some y) ∧ H' = upd H p (.tup [x, y]),
   fun i H => ∃ xs ys, SqL K H l xs ∧ SqL K H m ys ∧ (xs.length ≤ i ∨ ys.length ≤ i)⟩
def iZip (K : PySem.W.Frag) (ta : TA) : TI := fun σ H R => ta σ H fun vs H1 => ∃ l m xs ys, vs = [.ref l, .ref m] ∧ SqL K H1 l xs ∧ SqL K H1 m ys ∧ R (Itz K l m) H1
end L2
namespace L2
open PySem PySem.Spec PyProof.Rows
structure Bl6 (mg : Str → Option Value) : Prop extends Bl2 mg where
  zip : mg "zip" = none
theorem ix_tupC {X : Cx} {K : PySem.W.Frag} (hK : X.K = K) : IxR X (rIxT K) := by subst hK; exact ix_tup
section
variable {X : Cx} {a : Expr} {ta : TE}
/-- e is True, where e is a truth -/
def tIsT (ta : TE) : TE := fun σ H Q => ta σ H fun x H1 => ∃ b, x = .bl b ∧ Q (.bl b) H1
end
end L2
namespace HT
open PySem PyProof.Rows
open PySem.SeqAt
open PySem.AutoSeq1 (wpAny_loadPart')
open PySem.MeetsSeq PySem.MeetsSeq2 PySem.MeetsSeq3
section
variable {prog : Program} {w : World} {A : Around} {E : Value → Shared → Prop} {s : Shared}
end
end HT
namespace L2
open PySem PySem.Spec PyProof.Rows
end L2
namespace L2
open PySem PySem.Spec PyProof.Rows PySem.Builtin PySem.Builtin.Str
/-- one sign put for another text -/
def rpl (c : Nat) (z : List Nat) (d : Nat) : List Nat := if d = c then z else [d]
section
variable {X : Cx}
end
end L2
namespace L2
open PySem PySem.Spec PyProof.Rows
end L2
namespace L2
open PySem PySem.Spec PyProof.Rows
section
variable {X : Cx}
end
end L2
namespace L2
open PySem PySem.Spec PyProof.Rows
section
variable {X : Cx}
end
end L2
namespace L2
open PySem PySem.Builtin PySem.Builtin.Str
abbrev Tk := Nat × List Nat
def mkL : List Nat := [91, 93, 123, 125, 44, 58]
def dbl (x : List Nat) : List Nat := x.flatMap (rpl 39 [39, 39])
theorem dbl_cons (c : Nat) (x : List Nat) : dbl (c :: x) = rpl 39 [39, 39] c ++ dbl x := List.flatMap_cons
theorem dbl_len : ∀ x : List Nat, (dbl x).length ≤ 2 * x.length
  | [] => Nat.le_refl _
  | c :: x => by
    rw [dbl_cons, List.length_append, List.length_cons]
    have := dbl_len x
    have h : (rpl 39 [39, 39] c).length ≤ 2 := by
      unfold rpl
      split
      · exact Nat.le_refl _
      · exact Nat.le_succ _
    omega
def shw (t : Tk) : List Nat := if t.1 = 2 then 39 :: (dbl t.2 ++ [39]) else t.2
def OkTk (t : Tk) : Prop := t.2.length ≤ 100 ∧ ((t.1 = 0 ∧ ∃ s fs, t.2 = s ++ fs ∧ (s = [] ∨ s = [45]) ∧ fs ≠ [] ∧ ∀ c ∈ fs, c ∈ figL) ∨ (t.1 = 1 ∧ ∃ c r, t.2 = c :: r ∧ c ∈ letL ∧ ∀ d ∈ r, d ∈ letL ++ figL) ∨ (t.1 = 2 ∧ ∀ c ∈ t.2, c ∈ sgnL) ∨ (t.1 = 3 ∧ ∃ c, t.2 = [c] ∧ c ∈ mkL))
theorem OkTk.len {t : Tk} (h : OkTk t) : (shw t).length ≤ 202 := by
  have h1 := h.1
  unfold shw
  split
  · have := dbl_len t.2
    rw [List.length_cons, List.length_append]
    simp only [List.length_cons, List.length_nil]
    omega
  · omega
def stk (a b : Tk) : Bool := if b.2.take 1 = [45] ∧ b.1 = 0 then false else if a.1 = 1 then decide (b.1 = 1) || decide (b.1 = 0) else decide (a.1 = b.1) && !decide (a.1 = 3)
def Chn (r : List (Nat × Tk)) : Prop := ∀ i x y, r[i]? = some x → r[i + 1]? = some y → stk x.2 y.2 = true → 0 < y.1
theorem Chn.snoc {r : List (Nat × Tk)} {y : Nat × Tk} (h : Chn r) (hy : ∀ x, r.getLast? = some x → stk x.2 y.2 = true → 0 < y.1) : Chn (r ++ [y]) := by
  intro i a b ha hb hs
  by_cases c : i + 1 < r.length
  · rw [List.getElem?_append_left (by omega)] at ha
    rw [List.getElem?_append_left c] at hb
    exact h i a b ha hb hs
  · have hi : i + 1 = r.length := by
      have := List.getElem?_eq_some_iff.mp hb
      obtain ⟨z, _⟩ := this
      rw [List.length_append] at z
      simp only [List.length_cons, List.length_nil] at z
      omega
    rw [List.getElem?_append_right (by omega), hi, Nat.sub_self] at hb
    have hb : y = b := by simpa using hb
    subst hb
    rw [List.getElem?_append_left (by omega)] at ha
    refine hy a ?_ hs
    rw [List.getLast?_eq_getElem?, ← ha]
    congr 1
    omega
end L2
namespace L2
open PySem PySem.Spec PyProof.Rows
section
variable {P : Program} {w : World} {A : Around} {s : Shared} {E : Value → Shared → Prop}
end
section
variable {X : Cx}
end
end L2
namespace L2
open PySem PySem.Spec PyProof.Rows PySem.W
/-- kept, but for the frames' slots, and what stands at xs -/
structure Kp (fs xs : List Addr) (h h' : Heap) : Prop where
  keep : ∀ b o, h.get? b = some o → b ∉ fs → b ∉ xs → h'.get? b = some o
  slot : ∀ b o, h.get? b = some o → b ∈ fs → b ∉ xs → ∃ sl, h'.get? b = some { o with slots := sl }
theorem Kp.refl {fs xs : List Addr} {h : Heap} : Kp fs xs h h := ⟨fun _ _ e _ _ => e, fun _ o e _ _ => ⟨o.slots, e⟩⟩
theorem Kp.trans {fs xs ys zs : List Addr} {h h1 h2 : Heap} (a : Kp fs xs h h1) (b : Kp fs ys h1 h2) (hz : ∀ c, c ∈ xs ∨ (c ∈ ys ∧ h.get? c ≠ none) → c ∈ zs) : Kp fs zs h h2 where
  keep c o e hf hx := b.keep c o (a.keep c o e hf fun z => hx (hz c (.inl z))) hf fun z => hx (hz c (.inr ⟨z, by rw [e]; exact fun z => nomatch z⟩))
  slot c o e hf hx := by
    obtain ⟨sl, e1⟩ := a.slot c o e hf fun z => hx (hz c (.inl z))
    obtain ⟨sl2, e2⟩ := b.slot c _ e1 hf fun z => hx (hz c (.inr ⟨z, by rw [e]; exact fun z => nomatch z⟩))
    exact ⟨sl2, e2⟩
theorem fun_kp {base h h' : Heap} {fs xs : List Addr} (k : Kp fs xs h h') : ∀ {l : List Env}, (∀ b ∈ frs l, b ∈ fs ∧ b ∉ xs) → h.FunFrames base l → h'.FunFrames base l
  | [], _, _ => by rw [Heap.FunFrames.eq_1]; exact True.intro
  | env :: l, hm, hf => by
    rw [Heap.FunFrames.eq_2] at hf ⊢
    obtain ⟨a, ⟨L, o, e1, e2, e3, e4⟩, r⟩ := hf
    have hL : L ∈ frs (env :: l) := by unfold frs; rw [List.filterMap_cons, e1]; exact List.mem_cons_self
    obtain ⟨sl, e5⟩ := k.slot L o e3 (hm L hL).1 (hm L hL).2
    exact ⟨a, ⟨L, _, e1, e2, e5, e4⟩, fun_kp k (fun b hb => hm b (by unfold frs; rw [List.filterMap_cons, e1]; exact List.mem_cons_of_mem _ hb)) r⟩
/-- an exception at x, of class C, with its dict d, traced by T -/
def Fl (h : Heap) (x T : Addr) (C : Value) (d : Option Addr) (a0 fl : Value) : Prop := ∃ (oe : Obj) (vs : Array Value) (oT : Obj) (ts : Array Value), h.get? x = some oe ∧ oe.cls = C ∧ oe.dict = d ∧ oe.data = .fields vs ∧ vs[0]? = some a0 ∧ vs[1]? = some (.ref T) ∧ T ≠ x ∧ h.get? T = some oT ∧ oT.data = .fields ts ∧ ts[3]? = some fl
theorem mf_eq {o : Obj} {vs : Array Value} (h : o.data = .fields vs) (f : Array Value → Array Value) : Obj.mapFields f o = { o with data := .fields (f vs) } := by
  obtain ⟨c, d, da, sl⟩ := o
  cases h
  rfl
section
variable {M : Model} {A : Around} {E : Value → Shared → Prop} {s : Shared} {env : Env} {outer : List Env} {x T L : Addr} {C a0 fl : Value} {d : Option Addr} {base : Heap} {Q : Unit → Shared → Prop}
theorem up_get {h : Heap} {a : Addr} {o : Obj} {vs : Array Value} (e : h.get? a = some o) (hd : o.data = .fields vs) (i : Nat) (v : Value) : (h.update a (Obj.mapFields fun xs => xs.setIfInBounds i v)).get? a = some { o with data := .fields (vs.setIfInBounds i v) } := by
  rw [← mf_eq hd (fun xs => xs.setIfInBounds i v)]
  exact Heap.get?_update_self _ e (by rw [mf_eq hd]; rfl)
end
section
variable {X : Cx} {pins : List (Addr × Obj)} {σ : St} {H H' : Hp} {s s' : Shared}
theorem ObjOk.got {P : Program} {w : World} {h : Heap} {a : Addr} {o : HO} (x : ObjOk P w H h a o) : ∃ ob, h.get? a = some ob := by
  induction o with
  | lst xs => obtain ⟨_, its, n, _, e⟩ := x; exact ⟨_, e⟩
  | tup xs => obtain ⟨_, its, _, ob, e, _⟩ := x; exact ⟨_, e⟩
  | dK kvs => obtain ⟨_, _, vs, _, ob, es, ep, e, _⟩ := x; exact ⟨_, e⟩
  | dT kvs => obtain ⟨_, _, xs, _, ob, es, ep, e, _⟩ := x; exact ⟨_, e⟩
  | set S n => obtain ⟨ob, es, ep, t, e, _⟩ := x; exact ⟨_, e⟩
  | ins C dx fs => obtain ⟨_, _, _, e, _⟩ := x; exact ⟨_, e⟩
  | own y => exact x
  | xd fs => obtain ⟨mA, ⟨od, es, ep, e, _⟩, _⟩ := x; exact ⟨_, e⟩
  | rng lo hi => obtain ⟨t, u, v, e⟩ := x; exact ⟨_, e⟩
  | frz ob u ih => exact ⟨_, x.1⟩
  | tbl ps => exact ⟨_, (show h.get? a = some _ from x)⟩
  | met f y => exact ⟨_, (show h.get? a = some _ from x)⟩
  | ext φ => exact x.2.1
/-- no frame lies in what is hidden from -/
theorem fr_data {B h : Heap} : ∀ {l : List Env}, h.FunFrames B l → ∀ b ∈ frs l, ∃ o, h.get? b = some o ∧ ∀ vs : Array Value, o.data ≠ .fields vs
  | [], _, b, hb => nomatch hb
  | env :: l, hf, b, hb => by
    rw [Heap.FunFrames.eq_2] at hf
    obtain ⟨_, ⟨L, o, e1, _, e3, e4⟩, r⟩ := hf
    unfold frs at hb
    rw [List.filterMap_cons, e1] at hb
    rcases List.mem_cons.mp hb with z | z
    · rw [z]; exact ⟨o, e3, e4⟩
    · exact fr_data r b z
/-- how an exception lies behind a call: at x, of class C, with its dict at d -/
def CXE (P : Program) (w : World) : CXT := fun outer H s E e s' => ∃ (x T : Addr) (C : Value) (d : Option Addr) (a0 : Value) (H' : Hp), e = .ref x ∧ s'.os = s.os ∧ AllBare s'.gens ∧ Un (frs outer) [] H H' s.heap s'.heap ∧ HOk P w H' s'.heap ∧
  s.heap.get? x = none ∧ s.heap.get? T = none ∧ H' x = none ∧ H' T = none ∧ Fl s'.heap x T C d a0 .none ∧ E C d H'
/-- a heap that differs by the frames' slots, the exception and its traces alone -/
theorem un_kp {fs xs : List Addr} {H0 H' : Hp} {h0 h h' : Heap} (u : Un fs [] H0 H' h0 h) (k : Kp fs xs h h') (h1 : ∀ b ∈ xs, h0.get? b = none) : Un fs [] H0 H' h0 h' where
  keep b o e n hf hx := k.keep b o (u.keep b o e n hf hx) hf fun z => by rw [h1 b z] at e; cases e
  slot b o e n hf hx := by
    obtain ⟨sl, e1⟩ := u.slot b o e n hf hx
    obtain ⟨sl2, e2⟩ := k.slot b _ e1 hf fun z => by rw [h1 b z] at e; cases e
    exact ⟨sl2, e2⟩
  free b o e n hx := u.free b o e n hx
  there b o e hx := by
    obtain ⟨o', e'⟩ := u.there b o e hx
    have nx : b ∉ xs := fun z => by rw [h1 b z] at e; cases e
    by_cases hf : b ∈ fs
    · obtain ⟨sl2, e2⟩ := k.slot b _ e' hf nx
      exact ⟨_, e2⟩
    · exact ⟨o', k.keep b o' e' hf nx⟩
  tups := u.tups
  frzs := u.frzs
  tbls := u.tbls
theorem hok_kp {P : Program} {w : World} {H : Hp} {fs xs : List Addr} {h h' : Heap} (x : HOk P w H h) (k : Kp fs xs h h') (hf : ∀ b ∈ fs, H b = none) (hx : ∀ b ∈ xs, H b = none) : HOk P w H h' := fun a o e =>
  (x a o e).stay (fun b u hb q => by
    have hn : H b ≠ none := by
      rcases hb with z | z
      · rw [z, e]; exact fun z => nomatch z
      · rw [z]; exact fun z => nomatch z
    exact k.keep b u q (fun z => hn (hf b z)) fun z => hn (hx b z)) (fun _ q => q) fun _ _ q => q
theorem kp_mono {fs fs' xs : List Addr} {h h' : Heap} (k : Kp fs xs h h') (hm : ∀ b, b ∈ fs → b ∈ fs' ∨ b ∈ xs) : Kp fs' xs h h' where
  keep b o e hf hx := k.keep b o e (fun z => (hm b z).elim hf hx) hx
  slot b o e hf hx := by
    by_cases z : b ∈ fs
    · exact k.slot b o e z hx
    · exact ⟨o.slots, k.keep b o e z hx⟩
end
end L2
namespace L2
open PySem PySem.Spec PyProof.Rows PySem.W
/-- the class of an own exception, as it lies -/
def XObj (nm : Str) (C N : Addr) (bm : List Value) (o : Obj) : Prop := ∃ (q : Str) (bs : List Value) (hdct : Bool) (sn : List Str) (sub : List Value) (ab : Bool) (col : Option Bool) (dd : Option Addr) (k0 k1 k2 k3 k5 : Option Value), o = excClassObj nm q C N bs bm hdct sn sub ab col dd k0 k1 k2 k3 k5 "ValueError.__new__"
section
variable {M : Model} {A : Around} {E : Value → Shared → Prop} {s : Shared} {env : Env}
end
end L2
namespace L2
open PySem PySem.Spec PyProof.Rows PySem.W
abbrev veMro : List Value := [.type "ValueError", .type "Exception", .type "BaseException", .type "object"]
/-- the exception as it is made -/
abbrev newExc (C t : Addr) : Obj := { cls := .ref C, data := .fields #[.ref t, .none, .none, .none, .bool false, .none] }
theorem tc_quiet (a : Args) : (Code.builtin "type.__call__" a).quiet = true := by
  unfold Code.quiet
  first | rfl | kernel_rfl | decide +kernel
theorem new_quiet (a : Args) : (Code.builtin "ValueError.__new__" a).quiet = true := by
  unfold Code.quiet
  first | rfl | kernel_rfl | decide +kernel
section
variable {prog : Program} {w : World} {A : Around} {K : Frag} {C fI N : Addr} {nm : Str} {bm : List Value} {o : Obj}
/-- C(..), C an own class below ValueError with an __init__ -/
theorem make_x {R : Result → Shared → Prop} {rest : List Value} {h : Heap} {g : Array GenState} {d : Drawn} {t : Nat} {os : OsState} (hK : K.In h) (lk : K.lookup C = some o) (hX : XObj nm C N bm o) (ht : tailIn K veMro bm = true) (hi : findIn K (.ref C) "__init__" = some (some (.ref fI))) (hf : typeIn K (.ref fI) = some (.type "function")) (hz : rest.length ≤ 100)
    (hh : codeAny (model prog w) (A.under (.builtin "type.__call__" ⟨.ref C :: rest, []⟩)) (.call (.ref fI) ⟨.ref (h.objs.size + 1) :: rest, []⟩) (InitBack (h.objs.size + 1) R) ⟨(h.push { cls := .type "tuple", data := .seq rest.toArray }).push (newExc C h.objs.size), g, d, t, os⟩) :
    codeAny (model prog w) A (.call (.ref C) ⟨rest, []⟩) R ⟨h, g, d, t, os⟩ := by
  have hC : h.get? C = some o := hK _ _ lk
  obtain ⟨q', bs, hdct, sn, sub, ab, col, dd, k0, k1, k2, k3, k5, rfl⟩ := hX
  have hT := tail_of_in hK ht
  refine codeAny_of_tree ?_
  show wpAny _ _ (callAny (.ref C) ⟨rest, []⟩) _ _ _
  unfold callAny
  refine wpAny_bind (wpAny_load hC ?_)
  show wpAny _ _ (callAny.viaDunder (.ref C) ⟨rest, []⟩) _ _ _
  unfold callAny.viaDunder specialOf
  refine wpAny_bind (wpAny_bind (wpAny_typeOf_ref hC ?_))
  rw [tc_lookup]
  refine wpAny_pure ?_
  dsimp only
  rw [tc_bind]
  refine wpAny_bind (wpAny_pure ?_)
  dsimp only
  refine wpAny_bind ?_
  unfold callAny.plainCallee
  refine wpAny_pure ?_
  rw [if_pos (by rfl)]
  refine wpAny_pure ⟨rfl, ?_⟩
  refine codeAny_call_builtin_at (tc_quiet _) F.entry_type_call (wpAny_check_type_call_sub hC ?_)
  show wpAny _ _ (Builtin.«type.__call__» ⟨.ref C :: rest, []⟩) _ _ _
  unfold Builtin.«type.__call__»
  dsimp only
  rw [if_neg (by intro z; cases (eq_of_beq z))]
  refine wpAny_bind (wpAny_mroOf_exc hC ?_)
  rw [if_neg (by intro z; cases z)]
  refine wpAny_bind (wpAny_madeBy_exc hC ?_)
  dsimp only
  refine wpAny_bind (wpAny_pure ?_)
  refine wpAny_bind (wpAny_holding (wpAny_call ?_))
  refine codeAny_call_builtin_code (new_quiet _) (wpAny_check_new_subT F.excBase_ValueError hT hC ?_)
  refine codeAny_exc_new_subT F.excBase_ValueError hT hC ?_ (by rw [sizeLine_eq]; omega)
  have k1' : ∀ b ob, h.get? b = some ob → ((h.push { cls := .type "tuple", data := .seq rest.toArray }).push (newExc C h.objs.size)).get? b = some ob := fun b ob e => Heap.get?_push_of_some _ (Heap.get?_push_of_some _ e)
  have hsz : (h.push { cls := .type "tuple", data := .seq rest.toArray }).objs.size = h.objs.size + 1 := Heap.size_push ..
  have he : ((h.push { cls := .type "tuple", data := .seq rest.toArray }).push (newExc C h.objs.size)).get? (h.objs.size + 1) = some (newExc C h.objs.size) := by
    rw [← hsz]; exact Heap.get?_push_size _ rfl
  have hK2 : K.In ((h.push { cls := .type "tuple", data := .seq rest.toArray }).push (newExc C h.objs.size)) := hK.keeps k1'
  have hC2 := k1' _ _ hC
  unfold PySem.isInstance
  refine wpAny_bind (wpAny_bind (wpAny_typeOf_ref he ?_))
  refine wpAny_isSubtype_exc hC2 ?_
  rw [show (Value.ref C :: bm).contains (Value.ref C) = true by simp, if_neg (by decide)]
  refine wpAny_bind (wpAny_holding ?_)
  unfold callSpecial? specialOf
  refine wpAny_bind (wpAny_bind (wpAny_typeOf_ref he ?_))
  refine Looks.here (looks_findIn hK2 hi) ?_
  dsimp only
  refine wpAny_holding (wpAny_bind (Looks.here (bind_fn hK2 _ hf) ?_))
  dsimp only
  refine wpAny_bind (wpAny_call (codeAny_mono hh fun r s' hr => ?_))
  cases r with
  | error e => exact hr
  | ok fl =>
    cases fl with
    | ret v =>
      obtain ⟨rfl, hr⟩ := hr
      refine wpAny_pure ?_
      dsimp only
      rw [if_neg (by intro z; cases z)]
      exact wpAny_pure hr
    | next => exact hr.elim
    | brk => exact hr.elim
    | cont => exact hr.elim
end
end L2
namespace L2
open PySem PySem.Spec PyProof.Rows PySem.W PySem.Builtin PySem.Builtin.ObjectAttr
section
variable {prog : Program} {w : World} {A : Around} {K : Frag} {C B x : Addr} {cd : ClassData} {ox : Obj} {name : Str} {v : Value}
theorem osa_x {R : Result → Shared → Prop} {s : Shared} {tk : Tok} (hK : K.In s.heap) (hc : clsIn K C = some cd) (hm : cd.mro = .ref C :: .ref B :: veMro) (hd : cd.hasDict = true) (hx : s.heap.get? x = some ox) (hcl : ox.cls = .ref C) (hnc : ∀ c, ox.data ≠ .cls c) (hdi : ox.dict = none)
    (hn : findIn K (.ref C) name = some none)
    (q : ∀ h' t', h'.get? x = some { ox with dict := some s.heap.objs.size } → h'.Ns1 s.heap.objs.size (fun y => if y = name then some v else none) → (∀ b o, b ≠ x → s.heap.get? b = some o → h'.get? b = some o) → R (.ok (.ret .none)) { s with heap := h', toks := t' }) :
    codeAny (model prog w) A (.call (.builtin "object.__setattr__") ⟨[.ref x, .str name tk, v], []⟩) R s := by
  have SF := PySem.F.store_ValueError
  obtain ⟨h, g, dr, t, os⟩ := s
  dsimp only at hK hx q
  have tp : Looks (model prog w) h (typeOf (.ref x)) (.ref C) := by
    intro A Q E s k q
    refine wpAny_typeOf_ref (k _ _ hx) ?_
    rw [hcl]; exact q
  have sub : Looks (model prog w) h (isInstance (.ref x) (.type "object")) true := tp.andThen (looks_mroIn hK (by
    unfold mroIn
    rw [hc, Option.bind_some, if_neg (by rw [hm]; exact Bool.false_ne_true), hm, List.contains_cons, List.contains_cons, show veMro.contains (.type "object") = true by decide, Bool.or_true, Bool.or_true]))
  refine codeAny_call_builtin SF.slot.plain SF.entry (@check_slot (model prog w) _ _ ⟨h, g, dr, t, os⟩ "object.__setattr__" "object" "__setattr__" (.ref x) [.str name tk, v] [] _ SF.kind SF.split sub (SF.args (.ref x) (.str name tk) v) ?_)
  have hmr : Looks (model prog w) h (mroOf (.ref C)) cd.mro := (looks_clsIn hK hc).andThen .now
  rw [osa_eq, refuse_eq]
  refine wpAny_bind (wpAny_bind (Looks.here tp (wpAny_bind (Looks.here hmr ?_))))
  rw [hm, refuseLoop_ref, refuseLoop_ref, SF.passes]
  refine wpAny_pure (wpAny_bind (Looks.here tp (wpAny_bind (Looks.here (looks_findIn hK hn) (wpAny_bind ?_)))))
  refine wpAny_pure ?_
  dsimp only
  unfold storeInOwnDict
  refine wpAny_bind (wpAny_pure ?_)
  rw [if_neg (by intro z; cases (eq_of_beq z))]
  refine wpAny_bind ?_
  show wpAny _ _ (instanceDict x true) _ _ _
  unfold instanceDict
  refine wpAny_bind (wpAny_loadPart hx ?_)
  obtain ⟨oc, odi, oda, osl⟩ := ox
  dsimp only at hcl hdi hnc
  subst hcl hdi
  dsimp only
  refine wpAny_bind (Looks.here (looks_clsIn hK hc) ?_)
  rw [hd]
  rw [if_neg (show ¬ ((!true) = true) from Bool.false_ne_true), if_neg (by simp [typeHasDict])]
  have main : wpAny (model prog w) A.in1 (do
          let d ← alloc { cls := Value.type "dict", data := Data.dict #[] }
          update x fun o => { cls := o.cls, dict := some d, data := o.data, slots := o.slots }
          dictMade (Value.ref C) x d)
      (fun a s' =>
      wpAny (model prog w) A.in1
        (match a with
        | some d => storeInDict d (Value.str name tk) name v
        | none => noDictFor (Value.ref x) (Value.ref C) name (none : Option Value).isSome)
        (fun fin s' =>
          match fin with
          | Fin.done f => R (Except.ok f) s'
          | Fin.again c' => c'.quiet = true ∧ codeAny (model prog w) A c' R s')
        (fun e s' => R (Except.error e) s') s')
    (fun e s' => R (Except.error e) s') { heap := h, gens := g, drawn := dr, toks := t, os := os } := by
    have hx₁ : (h.push { cls := .type "dict", data := .dict #[] }).get? x = some _ := Heap.get?_push_of_some _ hx
    have hxs : x ≠ h.objs.size := Nat.ne_of_lt (Heap.lt_size hx)
    refine wpAny_bind (wpAny_alloc' ?_)
    refine wpAny_bind (wpAny_update' hx₁ ?_)
    refine wpAny_pure ?_
    have hgd : ((h.push { cls := .type "dict", data := .dict #[] }).update x fun o => { cls := o.cls, dict := some h.objs.size, data := o.data, slots := o.slots }).get? h.objs.size = some { cls := .type "dict", data := .dict #[] } :=
      (Heap.get?_update_ne _ _ _ _ hxs.symm).trans (Heap.get?_push_at rfl rfl)
    have hnd : ((h.push { cls := .type "dict", data := .dict #[] }).update x fun o => { cls := o.cls, dict := some h.objs.size, data := o.data, slots := o.slots }).Ns h.objs.size (fun _ => none) :=
      ⟨_, #[], _, hgd, rfl, fun e he => absurd he (by simp), fun _ => rfl⟩
    show wpAny _ _ (storeInDict h.objs.size (.str name tk) name v) _ _ _
    unfold storeInDict newKeyGuard
    refine wpAny_bind (wpAny_pure (wpAny_bind (wpAny_nsSet1 (Heap.Ns1.of_empty hnd) fun h' hn' hs => ?_)))
    obtain ⟨oD, esD, epD, hoD, hdD, hcD⟩ := hn'.count (Within.cons name v Within.nil)
    refine wpAny_bind (wpAny_lookBehind hoD (by rw [hdD]; exact pastItsLine_dict (Nat.le_trans hcD (by rw [List.length_cons, List.length_nil, sizeLine_eq]; omega))) ?_)
    refine wpAny_pure ?_
    have hfr := (Heap.get?_some_iff.mp hx).2
    refine q h' _ ((hs.2 x hxs).trans (Heap.get?_update_self _ hx₁ ?_)) hn' fun b o hb e => ?_
    · cases oda <;> first | rfl | exact hfr
    · exact (hs.2 b (Nat.ne_of_lt (Heap.lt_size e))).trans ((Heap.get?_update_ne _ _ _ _ hb).trans (Heap.get?_push_of_some _ e))
  cases oda with
  | cls c => exact absurd rfl (hnc c)
  | _ => exact main
theorem set_x {E : Value → Shared → Prop} {Q : Unit → Shared → Prop} {s : Shared} (hK : K.In s.heap) (hc : clsIn K C = some cd) (hm : cd.mro = .ref C :: .ref B :: veMro) (hd : cd.hasDict = true) (hx : s.heap.get? x = some ox) (hcl : ox.cls = .ref C) (hnc : ∀ c, ox.data ≠ .cls c) (hdi : ox.dict = none)
    (hs : findIn K (.ref C) "__setattr__" = some (some (.builtin "object.__setattr__"))) (hn : findIn K (.ref C) name = some none)
    (q : ∀ h' t', h'.get? x = some { ox with dict := some s.heap.objs.size } → h'.Ns1 s.heap.objs.size (fun y => if y = name then some v else none) → (∀ b o, b ≠ x → s.heap.get? b = some o → h'.get? b = some o) → Q () { s with heap := h', toks := t' }) :
    wpAny (model prog w) A (setAttr (.ref x) name v) Q E s := by
  have hno : notCls ox = true := by
    unfold notCls
    obtain ⟨oc, odi, oda, osl⟩ := ox
    cases oda with
    | cls c => exact absurd rfl (hnc c)
    | _ => rfl
  refine set_plain (od := none) hK ⟨hx, hcl, hno, by rw [hdi]; trivial⟩ hs ?_
  exact osa_x (s := { s with toks := s.toks + 1 }) hK hc hm hd hx hcl hnc hdi hn fun h' t' a b c => q h' t' a b c
end
end L2
namespace L2
open PySem PySem.Spec PyProof.Rows PySem.W
/-- the facts of an own class of exceptions with an __init__, below B, which is below ValueError -/
structure XCls (K : Frag) (nm : Str) (C B fI : Addr) : Prop where
  obj : ∃ (N : Addr) (o : Obj), K.lookup C = some o ∧ XObj nm C N (.ref B :: veMro) o
  cd : ∃ cd, clsIn K C = some cd ∧ cd.mro = .ref C :: .ref B :: veMro ∧ cd.hasDict = true
  tl : tailIn K veMro (.ref B :: veMro) = true
  init : findIn K (.ref C) "__init__" = some (some (.ref fI))
  fn : typeIn K (.ref fI) = some (.type "function")
  set : findIn K (.ref C) "__setattr__" = some (some (.builtin "object.__setattr__"))
  at_ : findIn K (.ref C) "at" = some none
  kp : keepIn K (.ref C) = true
structure XBase (K : Frag) (B : Addr) : Prop where
  sp : specialIn K (.ref B) "__getattribute__" = some (some (.builtin "type.__getattribute__"))
  rd : readsIn K B (.type "type") = true
  init : findCls K (.ref B) (.type "type") "__init__" = some (.val (.builtin "ValueError.__init__"))
/-- an exception that is made: its class, its dict -/
def exO (x C : Addr) (d : Option Addr) : HO := .ext fun h => ∃ vs : Array Value, h.get? x = some { cls := .ref C, dict := d, data := .fields vs } ∧ vs.size = 6 ∧ vs[1]? = some .none
theorem exO_ok {P : Program} {w : World} {H : Hp} {h : Heap} {x C : Addr} {d : Option Addr} {vs : Array Value} (e : h.get? x = some { cls := .ref C, dict := d, data := .fields vs }) (h6 : vs.size = 6) (h1 : vs[1]? = some .none) : ObjOk P w H h x (exO x C d) :=
  ⟨⟨vs, e, h6, h1⟩, ⟨_, e⟩, fun _ _ ⟨vs, e, a, b⟩ k => ⟨vs, k _ e, a, b⟩⟩
theorem Un.also {fs ex : List Addr} {H H1 : Hp} {h h' : Heap} {a : Addr} {o : HO} (u : Un fs ex H H1 h h') (hp : h.objs.size ≤ a) (hn : H a = none) : Un fs ex H (upd H1 a o) h h' where
  keep := u.keep
  slot := u.slot
  free := fun b ob q n hx => by rw [upd_ne (Nat.ne_of_lt (Nat.lt_of_lt_of_le (Heap.lt_size q) hp))]; exact u.free b ob q n hx
  there := u.there
  tups := fun b xs q => by rw [upd_ne (ne_of_none q hn)]; exact u.tups b xs q
  frzs := fun b ob xs q => by rw [upd_ne (ne_of_none q hn)]; exact u.frzs b ob xs q
  tbls := fun b ps q => by rw [upd_ne (ne_of_none q hn)]; exact u.tbls b ps q
theorem HOk.also {P : Program} {w : World} {H : Hp} {h : Heap} {a : Addr} {o : HO} (x : HOk P w H h) (hn : H a = none) (new : ObjOk P w (upd H a o) h a o) : HOk P w (upd H a o) h := fun b u e => by
  by_cases hb : b = a
  · subst hb; rw [upd_same] at e; cases e; exact new
  · rw [upd_ne hb] at e
    exact (x b u e).stay (fun c v _ q => q) (fun c q => by rw [upd_ne (ne_of_none q hn)]; exact q) fun c xs q => by rw [upd_ne (ne_of_none q hn)]; exact q
section
variable {X : Cx} {pins : List (Addr × Obj)} {σ : St} {H : Hp} {s : Shared} {x C B fI : Addr} {nm : Str} {d : Option Addr}
theorem exO_is (I : Inv X pins σ H s) (h : H x = some (exO x C d)) : ∃ vs : Array Value, s.heap.get? x = some { cls := .ref C, dict := d, data := .fields vs } ∧ vs.size = 6 ∧ vs[1]? = some .none := (I.hok x _ h).1
end
end L2
namespace L2
open PySem PySem.Spec PyProof.Rows PySem.W
section
variable {X : Cx} {C B fI : Addr} {nm : Str}
/-- what BadText.__init__ promises -/
def spXInit (C : Addr) : Sp := fun vs H Q _ => ∃ x v0 v, vs = [.ref x, v0, v] ∧ H x = some (exO x C none) ∧ ∀ d, H d = none → Q .non (upd (upd H x (exO x C (some d))) d (.xd [("at", v)]))
end
section
variable {X : Cx} {pins : List (Addr × Obj)} {σ : St} {H : Hp} {s : Shared} {x C : Addr} {d : Option Addr}
end
end L2
namespace L2
open PySem PySem.Spec PyProof.Rows PySem.W
section
variable {X : Cx} {C B fI : Addr} {nm : Str} {k : Nat} {fd : FuncData} {ps : List Str}
/-- the class and its __init__, as a bundle -/
structure Xr (P : Program) (w : World) (K : Frag) (mg : Str → Option Value) (base : Heap) (k : Nat) (cn : Str) (C : Addr) : Prop where
  ex : ∃ (nm : Str) (B fI : Addr) (fd : FuncData) (ps : List Str), XCls K nm C B fI ∧ FnOk P w K mg base CX0 k fI fd ps (spXInit C) ∧ Binds K fd ps [] ∧ mg cn = some (.ref C)
end
structure Dx (P : Program) (w : World) (K : PySem.W.Frag) (mg : Str → Option Value) (base : Heap) (k : Nat) (x : Str) (ps : List Str) (sp : Sp) : Prop where
  ex : ∃ (f : Addr) (fd : FuncData), FnOk P w K mg base (CXE P w) k f fd ps sp ∧ Binds K fd ps [] ∧ PySem.W.keepIn K (.ref f) = true ∧ mg x = some (.ref f)
section
variable {X : Cx} {k j : Nat} {x : Str} {ps : List Str} {sp : Sp} {e : Expr} {es : List Expr} {t : TA} {p pos : Pos} {E : XK}
end
section
variable {P : Program} {w : World} {K : PySem.W.Frag} {mg : Str → Option Value} {base : Heap} {k : Nat} {f : Addr} {fd : FuncData} {ps : List Str} {sp sp' : Sp} {CX : CXT}
theorem FnOk.or (F : FnOk P w K mg base CX k f fd ps sp) (G : FnOk P w K mg base CX k f fd ps sp') : FnOk P w K mg base CX k f fd ps fun vs H Q E => sp vs H Q E ∨ sp' vs H Q E :=
  ⟨fun vs H Q E h => h.elim (F.len vs H Q E) (G.len vs H Q E), fun A outer s H args us vs Q E hr he hb hv hs => hs.elim (F.run A outer s H args us vs Q E hr he hb hv) (G.run A outer s H args us vs Q E hr he hb hv)⟩
end
end L2
namespace L2
open PySem PySem.Spec PyProof.Rows PySem.W PySem.Builtin PySem.Builtin.ObjectAttr
/-- what reading of an own exception asks of its class -/
structure XGet (K : Frag) (C : Addr) : Prop where
  ga : findIn K (.ref C) "__getattribute__" = some (some (.builtin "BaseException.__getattribute__"))
  gt : findIn K (.ref C) "__getattr__" = some none
  bx : mroIn K C (.type "BaseException") = some true
  ob : mroIn K C (.type "object") = some true
  hd : hasDictIn K C = true
  cl : findIn K (.ref C) "__class__" = some (some (.builtin "object.__class__"))
  cg : specialIn K (.builtin "object.__class__") "__get__" = some (some (.builtin "getset_descriptor.__get__"))
  ct : takesIn K (.builtin "object.__class__") = some true
section
variable {prog : Program} {w : World} {A : Around} {K : Frag} {C x : Addr} {ox od : Obj} {name : Str} {E : Value → Shared → Prop} {s : Shared}
theorem gax_by {tk : Tok} {fill expr : Bool} {Q : Value → Shared → Prop} (G : XGet K C) (hK : K.In s.heap) (I : InstAt s.heap x ox C (some od))
    (h : wpAny (model prog w) A.in1 (Builtin.«object.__getattribute__» ⟨[.ref x, .str name tk], []⟩) (fun fin s' => match fin with | .done (.ret v) => wpAny (model prog w) A (handedOut v) Q E s' | _ => False) (fun _ _ => False) s) :
    wpAny (model prog w) A (getAttrBy (.ref x) (.str name tk) fill expr) Q E s := by
  have hb : Looks (model prog w) s.heap (hookBefore (.ref C)) none := looks_hook hK (by rw [if_pos (by rfl)]; exact G.gt)
  have ht := I.type (M := model prog w)
  unfold getAttrBy
  refine wpAny_holding (wpAny_bind (ht _ _ _ _ (fun _ _ e => e) (wpAny_bind (looks_findIn hK G.ga _ _ _ _ (fun _ _ e => e) ?_))))
  dsimp only
  rw [show (onTheHeap (Value.ref C) && Value.builtin "BaseException.__getattribute__" == Value.builtin "object.__getattribute__") = false from by rw [show (Value.builtin "BaseException.__getattribute__" == Value.builtin "object.__getattribute__") = false from by decide +kernel, Bool.and_false], if_neg (by decide)]
  unfold getAttrByItsOwn
  refine wpAny_bind (hb _ _ _ _ (fun _ _ e => e) (wpAny_bind (wpAny_attempt (wpAny_holding ?_))))
  unfold callGetattribute
  rw [show (expr && onTheHeap (Value.builtin "BaseException.__getattribute__")) = false from Bool.and_false _, if_neg (by decide)]
  unfold boundAndCalled
  have FB := PySem.F.attr_ValueError
  rw [FB.ga.bind]
  refine wpAny_bind (wpAny_pure ?_)
  show wpAny _ _ (call (.builtin "BaseException.__getattribute__") [.ref x, .str name tk]) _ _ _
  refine wpAny_call ?_
  refine codeAny_call_builtin FB.ga.plain PySem.F.entry_bexc_ga ?_
  refine @check_slot (model prog w) _ _ s "BaseException.__getattribute__" "BaseException" "__getattribute__" (.ref x) [.str name tk] [] _ (by decide +kernel) (by decide +kernel) (ht.andThen (looks_mroIn hK G.bx)) (PySem.F.args_bexc_ga (.ref x) (.str name tk)) ?_
  refine wpAny_mono h (fun fin s' z => ?_) fun _ _ z => z.elim
  rcases fin with (_ | _ | _ | _) | _ <;> first | exact z | exact z.elim
theorem gax_value {v : Value} {expr : Bool} {Q : Value → Shared → Prop} (G : XGet K C) (hK : K.In s.heap) (I : InstAt s.heap x ox C (some od)) (hf : findObj K C (some od) name = some (.value v)) (hh : handedIn v = true) (h : Q v { s with toks := s.toks + 1 }) :
    wpAny (model prog w) A (getAttr (.ref x) name expr) Q E s := by
  unfold getAttr
  refine wpAny_bind (wpAny_mkText (gax_by (s := { s with toks := s.toks + 1 }) G hK I ?_))
  obtain ⟨hh', g, d, t, os⟩ := s
  have L0 := I.type (M := model prog w)
  have L1 := looks_find (M := model prog w) hK I hf
  unfold Builtin.«object.__getattribute__»
  refine wpAny_bind (wpAny_pure (wpAny_bind (wpAny_pure (wpAny_bind (L0.at (wpAny_bind (L1.at ?_)))))))
  refine wpAny_pure ?_
  show wpAny _ _ (handedOut v) _ _ _
  rw [handedOut_of hh]; exact wpAny_pure h
end
end L2
namespace L2
open PySem PySem.Spec PyProof.Rows PySem.W
def exF (x C : Addr) (d : Option Addr) : HO := .ext fun h => ∃ (ob : Obj) (vs : Array Value), h.get? x = some ob ∧ ob.cls = .ref C ∧ ob.dict = d ∧ ob.data = .fields vs
abbrev Cx.mark (X : Cx) (v : Value) : Cx := { X with A := X.A.mark (some v), calm := false, xe := fun _ _ => False }
abbrev Cx.pend (X : Cx) (pins : List (Addr × Obj)) (W : Value → Shared → Prop) : Cx := { X with pn := X.pn ++ pins, xe := W }
section
variable {X : Cx} {pins pins' : List (Addr × Obj)} {σ : St} {H : Hp} {s : Shared} {v : Value} {W : Value → Shared → Prop}
theorem Cx.Ok.mark (ok : X.Ok) : (X.mark v).Ok :=
  ⟨ok.mod, ok.kind, ok.glob, ok.blt, ok.above, ok.inj, ok.has, ok.cab, (fun z => nomatch z), ok.frames, ok.stk, ok.exf, ok.bs, ok.bsz, ok.noex, ok.exfs, ok.funs, ok.frf⟩
theorem Inv.mark (I : Inv X pins σ H s) : Inv (X.mark v) pins σ H s := ⟨I.ok.mark, I.os, I.bare, I.base, I.loc, I.cell, I.free, I.freeC, I.pin, I.hok, I.len⟩
theorem Cx.Ok.pend (ok : X.Ok) : (X.pend pins W).Ok :=
  ⟨ok.mod, ok.kind, ok.glob, ok.blt, ok.above, ok.inj, ok.has, ok.cab, ok.hd, ok.frames, ok.stk, ok.exf, ok.bs, ok.bsz, ok.noex, ok.exfs, ok.funs, ok.frf⟩
theorem Inv.pend (I : Inv X pins σ H s) : Inv (X.pend pins W) [] σ H s := ⟨I.ok.pend, I.os, I.bare, I.base, I.loc, I.cell, I.free, I.freeC, fun p hp => I.pin p (by rw [List.append_nil] at hp; exact hp), I.hok, I.len⟩
theorem Inv.track {x : Addr} {o : HO} (I : Inv X pins σ H s) (hx : H x = none) (h0 : X.s₀.heap.get? x = none) (hl : x ≠ X.env.locals) (hc : ∀ y c, X.env.cells.lookup y = some c → c ≠ x) (hp : ∀ p ∈ X.pn ++ pins, p.1 ≠ x)
    (new : ObjOk X.prog X.w (upd H x o) s.heap x o) : Inv X pins σ (upd H x o) s where
  ok := I.ok
  os := I.os
  bare := I.bare
  base := ⟨I.base.keep, I.base.slot, fun b ob e n hx' => by rw [upd_ne (fun z => by subst z; rw [h0] at e; cases e)]; exact I.base.free b ob e n hx', I.base.there,
    fun b xs e => by have z := I.base.tups b xs e; rw [upd_ne (ne_of_none z hx)]; exact z, fun b ob xs e => by have z := I.base.frzs b ob xs e; rw [upd_ne (ne_of_none z hx)]; exact z,
    fun b ps e => by obtain ⟨m, z⟩ := I.base.tbls b ps e; exact ⟨m, by rw [upd_ne (ne_of_none z hx)]; exact z⟩⟩
  loc := I.loc
  cell := I.cell
  free := by rw [upd_ne (Ne.symm hl)]; exact I.free
  freeC := fun y c e => by rw [upd_ne (hc y c e)]; exact I.freeC y c e
  pin := fun p q => let ⟨a, b, c⟩ := I.pin p q; ⟨a, by rw [upd_ne (hp p q)]; exact b, c⟩
  hok := I.hok.also hx new
  len := I.len
end
section
variable {X : Cx} {B : Addr} {bn n : Str} {i : Nat} {body suite : List Stmt} {b₀ : Stmt} {bp hp pos : Pos} {tb : XK → TS} {ts : TS}
end
end L2
namespace L2
open PySem PySem.Spec PyProof.Rows PySem.W
section
variable {X : Cx} {C D : Addr} {b : Bool}
end
section
variable {X : Cx} {k j : Nat} {x : Str} {ps : List Str} {sp : Sp} {e : Expr} {es : List Expr} {t : TA} {p pos : Pos} {E : XK}
end
end L2
namespace L2
open PySem PySem.Spec PyProof.Rows PySem.W
structure RoomH (k : Nat) (A : Around) : Prop where
  dp : A.depth + 3 * k + 5 < recursionLimit
  un : A.units + 16 * k + 200 < cLine
theorem Room.h {k : Nat} {A : Around} {v : Option Value} (r : Room k A) : RoomH k (A.mark v) := ⟨r.dp, r.un⟩
theorem RoomH.mono {j k : Nat} {A : Around} (r : RoomH k A) (h : j ≤ k) : RoomH j A := ⟨by have := r.dp; omega, by have := r.un; omega⟩
theorem RoomH.deeper {k : Nat} {A : Around} (r : RoomH (k + 1) A) (env : Env) : RoomH k (A.deeper env) :=
  ⟨by have := r.dp; show A.depth + 1 + 3 * k + 5 < _; omega, by have := r.un; show A.units + 3 + 16 * k + 200 < _; omega⟩
theorem RoomH.depth {k : Nat} {A : Around} (r : RoomH k A) : A.depth < recursionLimit := by have := r.dp; omega
structure FnOkH (P : Program) (w : World) (K : PySem.W.Frag) (mg : Str → Option Value) (base : Heap) (k : Nat) (f : Addr) (fd : FuncData) (ps : List Str) (sp : Sp) : Prop where
  len : ∀ vs H Q E, sp vs H Q E → vs.length = ps.length
  run : ∀ (A : Around) (outer : List Env) (s : Shared) (H : Hp) (args : Args) (us : List Value) (vs : List V) (Q : VK) (E : XK), RoomH k A → Env0 P w K mg base A outer s H → BindsTo s fd args (ps.zip us) → Vals vs us → sp vs H Q E →
    codeAny (model P w) A (.call (.ref f) args) (CR CX0 outer P w H s Q E) s
structure Dh (P : Program) (w : World) (K : PySem.W.Frag) (mg : Str → Option Value) (base : Heap) (k : Nat) (x : Str) (ps : List Str) (sp : Sp) : Prop where
  ex : ∃ (f : Addr) (fd : FuncData), FnOkH P w K mg base k f fd ps sp ∧ Binds K fd ps [] ∧ PySem.W.keepIn K (.ref f) = true ∧ mg x = some (.ref f)
section
variable {X : Cx} {k j : Nat} {x : Str} {ps : List Str} {sp : Sp} {e : Expr} {es : List Expr} {t : TA} {p pos : Pos}
end
end L2
namespace L2
open PySem PySem.Spec PyProof.Rows PySem.W
section
variable {M : Model} {A : Around} {E : Value → Shared → Prop} {s : Shared} {env : Env} {outer : List Env} {x T L : Addr} {C a0 fl : Value} {d : Option Addr} {base : Heap} {Q : Unit → Shared → Prop}
end
/-- an exception flies in X's body -/
def CXF (X : Cx) (E : XK) (cs : List Addr) (e : Value) (s' : Shared) : Prop := ∃ (x T : Addr) (C : Value) (d : Option Addr) (a0 f : Value) (H' : Hp), e = .ref x ∧ s'.os = X.s₀.os ∧ AllBare s'.gens ∧ Un X.fs [] X.H₀ H' X.s₀.heap s'.heap ∧ HOk X.prog X.w H' s'.heap ∧
  X.s₀.heap.get? x = none ∧ X.s₀.heap.get? T = none ∧ H' x = none ∧ H' T = none ∧ Fl s'.heap x T C d a0 f ∧ E C d H' ∧ s'.heap.FunFrames X.base X.stack ∧ (∀ b ∈ frs X.stack, H' b = none) ∧ x ∉ frs X.stack ∧ T ∉ frs X.stack ∧
  ∀ c ∈ cs, (∃ m, s'.heap.Ns c m) ∧ X.s₀.heap.get? c = none ∧ H' c = none ∧ c ∉ frs X.stack ∧ c ≠ x ∧ c ≠ T
section
variable {X : Cx} {E : XK} {EE : Value → Shared → Prop} {s : Shared} {e : Value} {cs : List Addr}
/-- a step of the exception's own -/
theorem CXF.step {x T : Addr} {C : Value} {d : Option Addr} {a0 : Value} {H' : Hp} {h' : Heap} {T' : Addr} {f' : Value} (ok : X.Ok) (hs : X.stack = X.env :: X.outer) (hf : X.env.frame = some X.env.locals) (os : s.os = X.s₀.os) (bare : AllBare s.gens) (un : Un X.fs [] X.H₀ H' X.s₀.heap s.heap) (hok : HOk X.prog X.w H' s.heap)
    (hx0 : X.s₀.heap.get? x = none) (hT0 : X.s₀.heap.get? T = none) (hHx : H' x = none) (hHT : H' T = none) (q : E C d H') (fu : s.heap.FunFrames X.base X.stack) (ff : ∀ b ∈ frs X.stack, H' b = none) (nx : x ∉ frs X.stack) (nT : T ∉ frs X.stack)
    (hcs : ∀ c ∈ cs, (∃ m, s.heap.Ns c m) ∧ X.s₀.heap.get? c = none ∧ H' c = none ∧ c ∉ frs X.stack ∧ c ≠ x ∧ c ≠ T)
    (F' : Fl h' x T' C d a0 f') (k : Kp (frs X.stack) [x, T] s.heap h') (n : T' = T ∨ s.heap.get? T' = none) : CXF X E cs (.ref x) { s with heap := h' } := by
  have hfs : frs X.stack = X.env.locals :: X.fs := by
    rw [hs]; unfold frs; rw [List.filterMap_cons, hf]; rfl
  have hloc : X.s₀.heap.get? X.env.locals = none := Heap.get?_none_of_le ok.above
  have k4 : Kp X.fs [x, T, X.env.locals] s.heap h' := by
    have k5 : Kp (frs X.stack) [x, T, X.env.locals] s.heap h' := k.trans Kp.refl (ys := []) fun c hc => by
      rcases hc with z | z
      · rcases List.mem_cons.mp z with z | z
        · rw [z]; simp
        · rw [List.mem_singleton.mp z]; simp
      · exact nomatch z.1
    refine kp_mono k5 fun b hb => ?_
    rw [hfs] at hb
    rcases List.mem_cons.mp hb with z | z
    · rw [z]; exact .inr (by simp)
    · exact .inl z
  have hT' : X.s₀.heap.get? T' = none ∧ H' T' = none ∧ T' ∉ frs X.stack ∧ (∀ c ∈ cs, c ≠ T') := by
    rcases n with z | z
    · rw [z]; exact ⟨hT0, hHT, nT, fun c hc => (hcs c hc).2.2.2.2.2⟩
    · refine ⟨?_, ?_, fun y => ?_, fun c hc y => ?_⟩
      · cases e : X.s₀.heap.get? T' with
        | none => rfl
        | some o =>
          obtain ⟨o', e'⟩ := un.there T' o e (fun z => nomatch z)
          rw [z] at e'; cases e'
      · cases e : H' T' with
        | none => rfl
        | some o =>
          obtain ⟨ob, hob⟩ := ObjOk.got (hok T' o e)
          rw [z] at hob; cases hob
      · obtain ⟨o, e, _⟩ := fr_data fu T' y
        rw [z] at e; cases e
      · obtain ⟨⟨m, o, _, _, ho, _⟩, _⟩ := hcs c hc
        rw [y, z] at ho; cases ho
  refine ⟨x, T', C, d, a0, f', H', rfl, os, bare, un_kp un k4 fun b hb => ?_, hok_kp hok k ff fun b hb => ?_, hx0, hT'.1, hHx, hT'.2.1, F', q, fun_kp k (fun b hb => ⟨hb, fun z => ?_⟩) fu, ff, nx, hT'.2.2.1, fun c hc => ?_⟩
  · rcases List.mem_cons.mp hb with z | z
    · rw [z]; exact hx0
    · rcases List.mem_cons.mp z with z | z
      · rw [z]; exact hT0
      · rw [List.mem_singleton.mp z]; exact hloc
  · rcases List.mem_cons.mp hb with z | z
    · rw [z]; exact hHx
    · rw [List.mem_singleton.mp z]; exact hHT
  · rcases List.mem_cons.mp z with z | z
    · exact nx (by rw [← z]; exact hb)
    · exact nT (by rw [← List.mem_singleton.mp z]; exact hb)
  · obtain ⟨⟨m, o, es, ep, ho, r⟩, c0, cH, cf, cx, cT⟩ := hcs c hc
    exact ⟨⟨m, o, es, ep, k.keep c o ho cf (fun z => by
      rcases List.mem_cons.mp z with z | z
      · exact cx z
      · exact cT (List.mem_singleton.mp z)), r⟩, c0, cH, cf, cx, hT'.2.2.2 c hc⟩
end
end L2
namespace L2
open PySem PySem.Spec PyProof.Rows PySem.W
section
variable {X : Cx} {E : XK}
theorem CXF.same {e : Value} {c : Addr} {s : Shared} {h' : Heap} (h : CXF X E [c] e s) (hs : Heap.SameBut c s.heap h') : CXF X E [] e { s with heap := h' } := by
  obtain ⟨x, T, C, d, a0, f, H', rfl, os, bare, un, hok, hx0, hT0, hHx, hHT, fl, q, fu, ff, nx, nT, hcs⟩ := h
  obtain ⟨_, c0, cH, cf, cx, cT⟩ := hcs c List.mem_cons_self
  have k : Kp [] [c] s.heap h' := ⟨fun b o e _ hb => (hs.2 b fun z => hb (by rw [z]; exact List.mem_cons_self)).trans e, fun b o e hb => nomatch hb⟩
  obtain ⟨oe, vs, oT, ts, e1, e2, e3, e4, e5, e6, e7, e8, e9, e10⟩ := fl
  refine ⟨x, T, C, d, a0, f, H', rfl, os, bare, un_kp un (kp_mono k fun b hb => nomatch hb) (fun b hb => by rw [List.mem_singleton.mp hb]; exact c0), hok_kp hok k (fun b hb => nomatch hb) (fun b hb => by rw [List.mem_singleton.mp hb]; exact cH), hx0, hT0, hHx, hHT,
    ⟨oe, vs, oT, ts, (hs.2 x (Ne.symm cx)).trans e1, e2, e3, e4, e5, e6, e7, (hs.2 T (Ne.symm cT)).trans e8, e9, e10⟩, q, fun_kp (kp_mono k (fs' := frs X.stack) fun b hb => nomatch hb) (fun b hb => ⟨hb, fun z => cf (by rw [← List.mem_singleton.mp z]; exact hb)⟩) fu, ff, nx, nT, fun _ z => nomatch z⟩
end
section
variable {X : Cx} {scope : Scope} {own : List Str} {F : List (Str × Nat)} {elt tg iter : Expr} {ifs : List Expr} {pos : Pos} {wi : TI} {g : TG} {tt : TT} {te : TE} {E : XK}
end
end L2
namespace L2
open PySem PySem.Spec PyProof.Rows PySem.W PySem.Builtin PySem.Builtin.ObjectAttr
structure Xp (K : Frag) (nm : Str) (C B : Addr) : Prop where
  obj : ∃ (N : Addr) (o : Obj), K.lookup C = some o ∧ XObj nm C N (.ref B :: veMro) o ∧ nsOkIn K N = true ∧ nsIn K N "__init__" = some none
  tl : tailIn K veMro (.ref B :: veMro) = true
  kp : keepIn K (.ref C) = true
section
variable {X : Cx} {C B : Addr} {nm : Str}
structure Xr0 (K : Frag) (mg : Str → Option Value) (cn : Str) (C : Addr) : Prop where
  ex : ∃ (nm : Str) (B : Addr), Xp K nm C B ∧ mg cn = some (.ref C)
end
section
variable {prog : Program} {w : World} {A : Around} {K : Frag} {C x : Addr} {ox : Obj} {od : Option Obj} {name : Str} {E : Value → Shared → Prop} {s : Shared}
theorem gax_byg {tk : Tok} {fill expr : Bool} {Q : Value → Shared → Prop} (G : XGet K C) (hK : K.In s.heap) (I : InstAt s.heap x ox C od)
    (h : wpAny (model prog w) A.in1 (Builtin.«object.__getattribute__» ⟨[.ref x, .str name tk], []⟩) (fun fin s' => match fin with | .done (.ret v) => wpAny (model prog w) A (handedOut v) Q E s' | _ => False) (fun _ _ => False) s) :
    wpAny (model prog w) A (getAttrBy (.ref x) (.str name tk) fill expr) Q E s := by
  have hb : Looks (model prog w) s.heap (hookBefore (.ref C)) none := looks_hook hK (by rw [if_pos (by rfl)]; exact G.gt)
  have ht := I.type (M := model prog w)
  unfold getAttrBy
  refine wpAny_holding (wpAny_bind (ht _ _ _ _ (fun _ _ e => e) (wpAny_bind (looks_findIn hK G.ga _ _ _ _ (fun _ _ e => e) ?_))))
  dsimp only
  rw [show (onTheHeap (Value.ref C) && Value.builtin "BaseException.__getattribute__" == Value.builtin "object.__getattribute__") = false from by rw [show (Value.builtin "BaseException.__getattribute__" == Value.builtin "object.__getattribute__") = false from by decide +kernel, Bool.and_false], if_neg (by decide)]
  unfold getAttrByItsOwn
  refine wpAny_bind (hb _ _ _ _ (fun _ _ e => e) (wpAny_bind (wpAny_attempt (wpAny_holding ?_))))
  unfold callGetattribute
  rw [show (expr && onTheHeap (Value.builtin "BaseException.__getattribute__")) = false from Bool.and_false _, if_neg (by decide)]
  unfold boundAndCalled
  have FB := PySem.F.attr_ValueError
  rw [FB.ga.bind]
  refine wpAny_bind (wpAny_pure ?_)
  show wpAny _ _ (call (.builtin "BaseException.__getattribute__") [.ref x, .str name tk]) _ _ _
  refine wpAny_call ?_
  refine codeAny_call_builtin FB.ga.plain PySem.F.entry_bexc_ga ?_
  refine @check_slot (model prog w) _ _ s "BaseException.__getattribute__" "BaseException" "__getattribute__" (.ref x) [.str name tk] [] _ (by decide +kernel) (by decide +kernel) (ht.andThen (looks_mroIn hK G.bx)) (PySem.F.args_bexc_ga (.ref x) (.str name tk)) ?_
  refine wpAny_mono h (fun fin s' z => ?_) fun _ _ z => z.elim
  rcases fin with (_ | _ | _ | _) | _ <;> first | exact z | exact z.elim
theorem findObj_cl (G : XGet K C) : findObj K C od "__class__" = some (.bind (.builtin "getset_descriptor.__get__") (.builtin "object.__class__")) := by
  obtain ⟨cd, hc, _⟩ := any_some G.hd
  unfold findObj
  rw [hc, Option.bind_some, G.cl, Option.bind_some]
  simp [G.cg, G.ct]
theorem gax_classg {Q : Option Value → Shared → Prop} (G : XGet K C) (hK : K.In s.heap) (I : InstAt s.heap x ox C od) (h : Q (some (.ref C)) { s with toks := s.toks + 1 }) :
    wpAny (model prog w) A (getAttr? (.ref x) "__class__") Q E s := by
  have hf := findObj_cl (od := od) G
  unfold getAttr? getAttrBy?
  refine wpAny_bind (wpAny_mkText (wpAny_bind (wpAny_attempt (gax_byg (s := { s with toks := s.toks + 1 }) G hK I ?_))))
  obtain ⟨hh', g, d, t, os⟩ := s
  have L0 := I.type (M := model prog w)
  have L1 := looks_find (M := model prog w) hK I hf
  unfold Builtin.«object.__getattribute__»
  refine wpAny_bind (wpAny_pure (wpAny_bind (wpAny_pure (wpAny_bind (L0.at (wpAny_bind (L1.at ?_)))))))
  show wpAny _ _ (holding [Value.builtin "object.__class__"] (call (.builtin "getset_descriptor.__get__") [.builtin "object.__class__", .ref x, .ref C]) >>= ret) _ _ _
  refine wpAny_bind (wpAny_holding (wpAny_call (class_get (s := ⟨hh', g, d, t + 1, os⟩) hK I G.ob ?_)))
  refine wpAny_pure ?_
  show wpAny _ _ (handedOut (.ref C)) _ _ _
  rw [handedOut_of rfl]
  exact wpAny_pure (wpAny_pure h)
theorem kitx_excg (G : XGet K C) : KitX K (.ref x) (.ref C) (fun h => ∃ ox od, InstAt h x ox C od) where
  ty := fun _ _ _ ⟨_, _, I⟩ => I.type
  it := fun _ _ X _ => by
    obtain ⟨cdD, hcD, _⟩ := any_some G.hd
    unfold clsIn at hcD
    split at hcD
    · rename_i c' d' cd' sl' ho
      intro A' Q' E' s' k q
      unfold isType loadHead
      exact wpAny_bind (wpAny_loadPart (k _ _ (X _ _ ho)) (wpAny_pure q))
    · cases hcD
  ne := fun h tp dd its n sl X htp => by
    obtain ⟨cdD, hcD, _⟩ := any_some G.hd
    refine Bool.eq_false_iff.mpr fun q => ?_
    have e : C = tp := Value.ref.inj (beq_iff_eq.mp q)
    subst e
    unfold clsIn at hcD
    split at hcD
    · rename_i c' d' cd' sl' ho
      have z := (X _ _ ho).symm.trans htp
      cases z
    · cases hcD
  ca := fun X ⟨_, _, I⟩ k => gax_classg G X I k
end
section
variable {X : Cx} {pins : List (Addr × Obj)} {σ : St} {H : Hp} {s : Shared} {x C : Addr}
/-- an exception that was caught, as it lies -/
def Caught (H : Hp) (x C : Addr) : Prop := H x = some (exF x C none) ∨ ∃ d fs, H x = some (exF x C (some d)) ∧ H d = some (.xd fs)
theorem Caught.same {H' : Hp} (h : Caught H x C) (g : ∀ b o, H b = some o → H' b = some o) : Caught H' x C := by
  rcases h with h | ⟨d, fs, h, hd⟩
  · exact .inl (g _ _ h)
  · exact .inr ⟨d, fs, g _ _ h, g _ _ hd⟩
end
section
variable {X : Cx}
end
end L2
namespace L2
open PySem PySem.Spec PyProof.Rows PySem.W PySem.Builtin PySem.Builtin.ObjectAttr
def exA (x C : Addr) (d : Option Addr) (t : Addr) : HO := .ext fun h => ∃ vs : Array Value, h.get? x = some { cls := .ref C, dict := d, data := .fields vs } ∧ vs.size = 6 ∧ vs[0]? = some (.ref t) ∧ vs[1]? = some .none
theorem exA_ok {P : Program} {w : World} {H : Hp} {h : Heap} {x C t : Addr} {d : Option Addr} {vs : Array Value} (e : h.get? x = some { cls := .ref C, dict := d, data := .fields vs }) (h6 : vs.size = 6) (h0 : vs[0]? = some (.ref t)) (h1 : vs[1]? = some .none) : ObjOk P w H h x (exA x C d t) :=
  ⟨⟨vs, e, h6, h0, h1⟩, ⟨_, e⟩, fun _ _ ⟨vs, e, a⟩ k => ⟨vs, k _ e, a⟩⟩
/-- an exception's own dict -/
def xE (d : Addr) (fs : List (Str × V)) : HO := .ext fun h => ∃ mA, h.Ns1 d mA ∧ (∀ f, RelO (fs.lookup f) (mA f)) ∧ Within mA (fs.map (·.1))
theorem xE_ok {P : Program} {w : World} {H : Hp} {h : Heap} {d : Addr} {fs : List (Str × V)} {mA : Str → Option Value} (n : h.Ns1 d mA) (r : ∀ f, RelO (fs.lookup f) (mA f)) (wi : Within mA (fs.map (·.1))) : ObjOk P w H h d (xE d fs) := by
  refine ⟨⟨mA, n, r, wi⟩, ?_, fun h1 h2 ⟨mA, ⟨o, es, ep, ho, c⟩, r⟩ k => ⟨mA, ⟨o, es, ep, k _ ho, c⟩, r⟩⟩
  obtain ⟨o, es, ep, ho, _⟩ := n
  exact ⟨o, ho⟩
section
variable {prog : Program} {w : World} {A : Around} {K : Frag} {C B x dx : Addr} {cd : ClassData} {ox : Obj} {name : Str} {v : Value} {mA : Str → Option Value} {ns : List Str}
theorem osa_x2 {R : Result → Shared → Prop} {s : Shared} {tk : Tok} (hK : K.In s.heap) (hc : clsIn K C = some cd) (hm : cd.mro = .ref C :: .ref B :: veMro) (hd : cd.hasDict = true) (hx : s.heap.get? x = some ox) (hcl : ox.cls = .ref C) (hdi : ox.dict = some dx) (hns : s.heap.Ns1 dx mA) (hw : Within mA ns) (hsz : ns.length ≤ 1000)
    (hn : findIn K (.ref C) name = some none)
    (q : ∀ h' t', h'.Ns1 dx (fun y => if y = name then some v else mA y) → Heap.SameBut dx s.heap h' → R (.ok (.ret .none)) { s with heap := h', toks := t' }) :
    codeAny (model prog w) A (.call (.builtin "object.__setattr__") ⟨[.ref x, .str name tk, v], []⟩) R s := by
  have SF := PySem.F.store_ValueError
  obtain ⟨h, g, dr, t, os⟩ := s
  dsimp only at hK hx q hns
  have tp : Looks (model prog w) h (typeOf (.ref x)) (.ref C) := by
    intro A Q E s k q
    refine wpAny_typeOf_ref (k _ _ hx) ?_
    rw [hcl]; exact q
  have sub : Looks (model prog w) h (isInstance (.ref x) (.type "object")) true := tp.andThen (looks_mroIn hK (by
    unfold mroIn
    rw [hc, Option.bind_some, if_neg (by rw [hm]; exact Bool.false_ne_true), hm, List.contains_cons, List.contains_cons, show veMro.contains (.type "object") = true by decide, Bool.or_true, Bool.or_true]))
  refine codeAny_call_builtin SF.slot.plain SF.entry (@check_slot (model prog w) _ _ ⟨h, g, dr, t, os⟩ "object.__setattr__" "object" "__setattr__" (.ref x) [.str name tk, v] [] _ SF.kind SF.split sub (SF.args (.ref x) (.str name tk) v) ?_)
  have hmr : Looks (model prog w) h (mroOf (.ref C)) cd.mro := (looks_clsIn hK hc).andThen .now
  rw [osa_eq, refuse_eq]
  refine wpAny_bind (wpAny_bind (Looks.here tp (wpAny_bind (Looks.here hmr ?_))))
  rw [hm, refuseLoop_ref, refuseLoop_ref, SF.passes]
  refine wpAny_pure (wpAny_bind (Looks.here tp (wpAny_bind (Looks.here (looks_findIn hK hn) (wpAny_bind ?_)))))
  refine wpAny_pure ?_
  dsimp only
  unfold storeInOwnDict
  refine wpAny_bind (wpAny_pure ?_)
  rw [if_neg (by intro z; cases (eq_of_beq z))]
  refine wpAny_bind ?_
  show wpAny _ _ (instanceDict x true) _ _ _
  unfold instanceDict
  refine wpAny_bind (wpAny_loadPart hx ?_)
  obtain ⟨oc, odi, oda, osl⟩ := ox
  dsimp only at hcl hdi
  subst hcl hdi
  dsimp only
  refine wpAny_bind (Looks.here (looks_clsIn hK hc) ?_)
  rw [hd]
  rw [if_neg (show ¬ ((!true) = true) from Bool.false_ne_true)]
  refine wpAny_pure ?_
  show wpAny _ _ (storeInDict dx (.str name tk) name v) _ _ _
  unfold storeInDict newKeyGuard
  refine wpAny_bind (wpAny_pure (wpAny_bind (wpAny_nsSet1 hns fun h' hn' hs => ?_)))
  obtain ⟨oD, esD, epD, hoD, hdD, hcD⟩ := hn'.count (Within.cons name v hw)
  refine wpAny_bind (wpAny_lookBehind hoD (by rw [hdD]; exact pastItsLine_dict (Nat.le_trans hcD (by rw [List.length_cons, sizeLine_eq]; omega))) ?_)
  exact wpAny_pure (q h' _ hn' hs)
theorem set_x2 {E : Value → Shared → Prop} {Q : Unit → Shared → Prop} {s : Shared} (hK : K.In s.heap) (hc : clsIn K C = some cd) (hm : cd.mro = .ref C :: .ref B :: veMro) (hd : cd.hasDict = true) (hx : s.heap.get? x = some ox) (hcl : ox.cls = .ref C) (hnc : ∀ c, ox.data ≠ .cls c) (hdi : ox.dict = some dx) (hns : s.heap.Ns1 dx mA) (hw : Within mA ns) (hsz : ns.length ≤ 1000)
    (hs : findIn K (.ref C) "__setattr__" = some (some (.builtin "object.__setattr__"))) (hn : findIn K (.ref C) name = some none)
    (q : ∀ h' t', h'.Ns1 dx (fun y => if y = name then some v else mA y) → Heap.SameBut dx s.heap h' → Q () { s with heap := h', toks := t' }) :
    wpAny (model prog w) A (setAttr (.ref x) name v) Q E s := by
  have hno : notCls ox = true := by
    unfold notCls
    obtain ⟨oc, odi, oda, osl⟩ := ox
    cases oda with
    | cls c => exact absurd rfl (hnc c)
    | _ => rfl
  obtain ⟨od, _, _, hod, _⟩ := id hns
  refine set_plain (od := some od) hK ⟨hx, hcl, hno, by rw [hdi]; exact hod⟩ hs ?_
  exact osa_x2 (s := { s with toks := s.toks + 1 }) hK hc hm hd hx hcl hdi hns hw hsz hn fun h' t' a b => q h' t' a b
end
/-- the facts of an own class of exceptions, below B -/
structure XC (K : Frag) (nm : Str) (C B : Addr) : Prop where
  obj : ∃ (N : Addr) (o : Obj), K.lookup C = some o ∧ XObj nm C N (.ref B :: veMro) o
  cd : ∃ cd, clsIn K C = some cd ∧ cd.mro = .ref C :: .ref B :: veMro ∧ cd.hasDict = true
  tl : tailIn K veMro (.ref B :: veMro) = true
  set : findIn K (.ref C) "__setattr__" = some (some (.builtin "object.__setattr__"))
  kp : keepIn K (.ref C) = true
section
variable {X : Cx} {C B : Addr} {nm : Str}
theorem exA_is {pins : List (Addr × Obj)} {σ : St} {H : Hp} {s : Shared} {x t : Addr} {d : Option Addr} (I : Inv X pins σ H s) (h : H x = some (exA x C d t)) : ∃ vs : Array Value, s.heap.get? x = some { cls := .ref C, dict := d, data := .fields vs } ∧ vs.size = 6 ∧ vs[0]? = some (.ref t) ∧ vs[1]? = some .none := (I.hok x _ h).1
theorem xE_is {pins : List (Addr × Obj)} {σ : St} {H : Hp} {s : Shared} {d : Addr} {fs : List (Str × V)} (I : Inv X pins σ H s) (h : H d = some (xE d fs)) : ∃ mA, s.heap.Ns1 d mA ∧ (∀ f, RelO (fs.lookup f) (mA f)) ∧ Within mA (fs.map (·.1)) := (I.hok d _ h).1
/-- ValueError.__init__(x, u) -/
theorem call_initA {pins : List (Addr × Obj)} {σ : St} {H : Hp} {s : Shared} {Q : Value → Shared → Prop} {E : Value → Shared → Prop} {u : Value} {v : V} {x : Addr} {d : Option Addr} (c : XC X.K nm C B) (I : Inv X pins σ H s) (hH : H x = some (exO x C d)) (rv : RelV v u)
    (q : ∀ tt s', H tt = none → Inv X pins σ (upd (upd H tt (.tup [v])) x (exA x C d tt)) s' → Q .none s') :
    wpAny (model X.prog X.w) X.A (call (.builtin "ValueError.__init__") [.ref x, u]) Q E s := by
  obtain ⟨N, o, lk, q', bs, hdct, sn, sub, ab, col, dd, k0, k1, k2, k3, k5, rfl⟩ := c.obj
  obtain ⟨vs, he, h6, h1⟩ := exO_is I hH
  have hT := tail_of_in I.kIn c.tl
  have hC := I.kIn _ _ lk
  have hfr : H s.heap.objs.size = none := I.fresh
  have I' := I
  obtain ⟨h, g, dr, t, os⟩ := s
  dsimp only at he hC hT hfr
  have F := F.excBase_ValueError
  obtain ⟨a0, h0⟩ : ∃ a0, vs[0]? = some a0 := ⟨_, Array.getElem?_eq_some_iff.mpr ⟨by omega, rfl⟩⟩
  refine wpAny_call (codeAny_call_builtin F.init.plain F.initEntry (wpAny_check_init_subT F hT hC he rfl ?_))
  unfold Builtin.«BaseException.__init__»
  dsimp only
  rw [if_neg (by simp)]
  have hsz : 0 < vs.size := by omega
  have he₁ := Heap.get?_push_of_some (h := h) { cls := .type "tuple", data := .seq [u].toArray } he
  have hup := up_get he₁ rfl 0 (.ref h.objs.size)
  have hne : x ≠ h.objs.size := fun z => by rw [z, hfr] at hH; cases hH
  have I1 : Inv X pins σ (upd H h.objs.size (.tup [v])) ⟨h.push { cls := .type "tuple", data := .seq [u].toArray }, g, dr, t, os⟩ :=
    I'.laid (t' := t) (fun b ob e => Heap.get?_push_of_some _ e) (Nat.le_refl _) ⟨by rw [sizeLine_eq]; simp, [u], .cons rv .nil, IsTup.new _ _⟩
  have fin : Inv X pins σ (upd (upd H h.objs.size (.tup [v])) x (exA x C d h.objs.size)) ⟨(h.push { cls := .type "tuple", data := .seq [u].toArray }).update x (Obj.mapFields fun xs => xs.setIfInBounds 0 (.ref h.objs.size)), g, dr, t, os⟩ := by
    refine Inv.write (t' := t) I1 (e := x) (by rw [upd_ne hne, hH]; exact True.intro) (.inl rfl) (fun b ob hb e => (Heap.get?_update_other _ _ (Ne.symm hb)).trans e) ⟨_, hup⟩ (exA_ok hup ?_ ?_ ?_)
    · rw [Array.size_setIfInBounds]; exact h6
    · rw [Array.getElem?_setIfInBounds_self_of_lt hsz]
    · rw [Array.getElem?_setIfInBounds_ne (by decide)]; exact h1
  refine wpAny_bind (wpAny_newTuple ?_ (by rw [sizeLine_eq]; simp))
  unfold Builtin.BaseException.bexcPut
  refine wpAny_bind (wpAny_bind (wpAny_field he₁ rfl h0 (wpAny_bind (wpAny_setField he₁ rfl hsz ?_))))
  have fin2 := q _ _ hfr fin
  cases a0 with
  | ref a => exact wpAny_letGo (wpAny_pure fin2)
  | _ => exact wpAny_pure (wpAny_pure fin2)
/-- B.__init__(self, text) -/
def tXInitA (C : Addr) (t : TA) : TE := fun σ H Q => t σ H fun vs H1 => ∃ x v, vs = [.ref x, v] ∧ H1 x = some (exO x C none) ∧ ∀ tt, H1 tt = none → Q .non (upd (upd H1 tt (.tup [v])) x (exA x C none tt))
theorem pe_xinitA {bn : Str} {p apos pos : Pos} {e : Expr} {es : List Expr} {t : TA} {pl : Sem Bool} (c : XC X.K nm C B) (b : XBase X.K B) (hg : Gl X bn) (hm : X.mg bn = some (.ref B)) (ha : PA X (e :: es) t) (hdb : (bn == ("__debug__" : Str)) = false := by decide)
    (he : starEach (e :: es) X.env = (false, eval e X.env) :: starEach es X.env := by rfl) (hpl : (backTo pos (starEach es X.env)).any (·.1) = false := by rfl)
    (ht : eval (.Call (.Attribute (.Name bn p) "__init__" apos) (e :: es) [] pos) X.env = (do
      let ov ← eval (.Name bn p) X.env
      standAt apos.atName
      let (f, first) ← holding [ov] (getMethod ov "__init__" pl)
      callWith pos f first (backTo pos (starEach (e :: es) X.env)) (backToKw pos (keywordEach [] X.env))) := by rfl) :
    PE X (.Call (.Attribute (.Name bn p) "__init__" apos) (e :: es) [] pos) (tXInitA C t) := by
  intro pins s σ H Q I h
  refine methodCall_KW (pl := pl) (ld_glob I hg hm ?_ hdb) ht
  refine method_cls I.kIn b.sp (cls_value I.kIn b.rd b.init (by decide +kernel) ?_)
  have I1 := I.tok (s.toks + 1)
  refine PyProof.Rows.callWith_builtin1 (thn (ha pos pins _ σ H _ I1 h) fun us s2 ⟨vs, H2, I2, r, x, v, e1, e2, q⟩ => ?_) he hpl
  subst e1
  obtain ⟨u1, u2, rfl, r1, r2⟩ : ∃ u1 u2, us = [u1, u2] ∧ RelV (.ref x) u1 ∧ RelV v u2 := by
    cases r with
    | cons a r =>
      cases r with
      | cons b r => cases r; exact ⟨_, _, rfl, a, b⟩
  obtain rfl : u1 = Value.ref x := r1
  exact call_initA c I2 e2 r2 fun tt s' hn I3 => ⟨.non, _, I3, rfl, q tt hn⟩
/-- o.f = value, the first field -/
def tXSetA (C : Addr) (f : Str) (tv ta : TE) : TS := fun D σ H => tv σ H fun v H1 => ta σ H1 fun o H2 => ∃ x tt, o = .ref x ∧ H2 x = some (exA x C none tt) ∧ ∀ d, H2 d = none → D.nx σ (upd (upd H2 x (exA x C (some d) tt)) d (xE d [(f, v)]))
theorem relO_one {f : Str} {y : V} {u : Value} (r : RelV y u) (g : Str) : RelO (List.lookup g [(f, y)]) (if g = f then some u else none) := by
  rw [List.lookup_cons, List.lookup_nil]
  by_cases z : g = f
  · subst z
    rw [if_pos rfl, beq_self_eq_true]
    exact r
  · rw [if_neg z, show (g == f) = false from beq_eq_false_iff_ne.mpr z]
    trivial
theorem ps_xsetA {o value : Expr} {f : Str} {pos' pos : Pos} {tv ta : TE} (c : XC X.K nm C B) (hfn : findIn X.K (.ref C) f = some none) (hv : PE X value tv) (ha : PE X o ta) (hs : swapsWith value (some (.Attribute o f pos')) pos.line X.env = pure false := by rfl) : PS X (.Assign [.Attribute o f pos'] value pos) (tXSetA C f tv ta) := by
  intro pins s σ H D I h
  refine plainObj_wpAny_Assign_Attribute (thn (hv pins s σ H _ I h) fun u s1 ⟨y, H1, I1, ry, q⟩ => thn (ha pins s1 σ H1 _ I1 q) fun ov s2 ⟨z, H2, I2, rx, x, tt, ez, hH, q2⟩ => ?_) hs
  subst ez
  obtain rfl : ov = Value.ref x := rx
  obtain ⟨vs, he, h6, h0, h1⟩ := exA_is I2 hH
  obtain ⟨cd, hc, hm, hd⟩ := c.cd
  refine set_x I2.kIn hc hm hd he rfl (fun _ z => by cases z) rfl c.set hfn fun h' t' g1 g2 g3 => ?_
  have hfr : H2 s2.heap.objs.size = none := I2.fresh
  have hne : s2.heap.objs.size ≠ x := fun z => by rw [z, hH] at hfr; cases hfr
  have hmu : Mut (H2 x) := by rw [hH]; exact True.intro
  have u1 : Un X.fs [] H2 (upd H2 x (exA x C (some s2.heap.objs.size) tt)) s2.heap h' := Un.write (e := x) hmu (.inl rfl) g3 ⟨_, g1⟩
  have k1 : HOk X.prog X.w (upd H2 x (exA x C (some s2.heap.objs.size) tt)) h' := I2.hok.write (e := x) hmu (.inl rfl) g3 ⟨_, g1⟩ (exA_ok g1 h6 h0 h1)
  refine ⟨σ, _, I2.un (t' := t') (u1.also (a := s2.heap.objs.size) (o := xE s2.heap.objs.size [(f, y)]) (Nat.le_refl _) hfr) (k1.also (by rw [upd_ne hne]; exact hfr) ?_), q2 _ hfr⟩
  refine xE_ok g2 (relO_one ry) ?_
  intro k hk
  by_cases z : k = f
  · rw [z]; simp
  · exact absurd (if_neg z) hk
/-- a further field -/
def tXSetB (C : Addr) (f : Str) (tv ta : TE) : TS := fun D σ H => tv σ H fun v H1 => ta σ H1 fun o H2 => ∃ x tt d fs, o = .ref x ∧ H2 x = some (exA x C (some d) tt) ∧ H2 d = some (xE d fs) ∧ fs.length ≤ 100 ∧ D.nx σ (upd H2 d (xE d ((f, v) :: fs)))
theorem ps_xsetB {o value : Expr} {f : Str} {pos' pos : Pos} {tv ta : TE} (c : XC X.K nm C B) (hfn : findIn X.K (.ref C) f = some none) (hv : PE X value tv) (ha : PE X o ta) (hs : swapsWith value (some (.Attribute o f pos')) pos.line X.env = pure false := by rfl) : PS X (.Assign [.Attribute o f pos'] value pos) (tXSetB C f tv ta) := by
  intro pins s σ H D I h
  refine plainObj_wpAny_Assign_Attribute (thn (hv pins s σ H _ I h) fun u s1 ⟨y, H1, I1, ry, q⟩ => thn (ha pins s1 σ H1 _ I1 q) fun ov s2 ⟨z, H2, I2, rx, x, tt, d, fs, ez, hH, hD, hl, q2⟩ => ?_) hs
  subst ez
  obtain rfl : ov = Value.ref x := rx
  obtain ⟨vs, he, h6, h0, h1⟩ := exA_is I2 hH
  obtain ⟨mA, n, r, wi⟩ := xE_is I2 hD
  obtain ⟨cd, hc, hm, hd⟩ := c.cd
  refine set_x2 I2.kIn hc hm hd he rfl (fun _ z => by cases z) rfl n wi (by rw [List.length_map]; omega) c.set hfn fun h' t' g1 g2 => ?_
  have hmu : Mut (H2 d) := by rw [hD]; exact True.intro
  obtain ⟨od, _, _, hod, _⟩ := id g1
  refine ⟨σ, _, I2.write (t' := t') (e := d) hmu (.inl rfl) (fun b ob hb e => (g2.2 b hb).trans e) ⟨_, hod⟩ (xE_ok g1 (fun g => ?_) ?_), q2⟩
  · rw [List.lookup_cons]
    by_cases z : g = f
    · subst z
      rw [if_pos rfl, beq_self_eq_true]
      exact ry
    · rw [if_neg z, show (g == f) = false from beq_eq_false_iff_ne.mpr z]
      exact r g
  · intro k hk
    by_cases z : k = f
    · rw [z]; simp
    · have hk : (if k = f then some u else mA k) ≠ none := hk
      rw [if_neg z] at hk
      exact List.mem_cons_of_mem _ (wi k hk)
end
end L2
namespace L2
open PySem PySem.Spec PyProof.Rows PySem.W PySem.Builtin PySem.Builtin.ObjectAttr
/-- an exception of the class at C, of the one argument v, with the fields fs -/
def Ex (H : Hp) (x C : Addr) (v : V) (fs : List (Str × V)) : Prop := ∃ tt, H tt = some (.tup [v]) ∧ ((fs = [] ∧ H x = some (exA x C none tt)) ∨ ∃ d, H x = some (exA x C (some d) tt) ∧ H d = some (xE d fs))
theorem Ex.same {H H' : Hp} {x C : Addr} {v : V} {fs : List (Str × V)} (h : Ex H x C v fs) (g : ∀ b o, H b = some o → H' b = some o) : Ex H' x C v fs := by
  obtain ⟨tt, h1, h2⟩ := h
  refine ⟨tt, g _ _ h1, h2.imp (fun ⟨a, b⟩ => ⟨a, g _ _ b⟩) fun ⟨d, a, b⟩ => ⟨d, g _ _ a, g _ _ b⟩⟩
section
variable {X : Cx} {pins : List (Addr × Obj)} {σ : St} {H : Hp} {s : Shared} {x C : Addr} {v : V} {fs : List (Str × V)}
theorem Ex.at_ (h : Ex H x C v fs) (I : Inv X pins σ H s) : ∃ ob od tt vs, InstAt s.heap x ob C od ∧ ob.data = .fields vs ∧ vs[0]? = some (.ref tt) ∧ H tt = some (.tup [v]) ∧ (fs ≠ [] → ∃ o, od = some o ∧ ∀ name, ∃ u, lookIn name o = some u ∧ RelO (fs.lookup name) u) := by
  obtain ⟨tt, ht, h⟩ := h
  rcases h with ⟨hf, h⟩ | ⟨d, h, hd⟩
  · obtain ⟨vs, e, h6, h0, h1⟩ := exA_is I h
    exact ⟨_, none, tt, vs, ⟨e, rfl, rfl, True.intro⟩, rfl, h0, ht, fun z => absurd hf z⟩
  · obtain ⟨vs, e, h6, h0, h1⟩ := exA_is I h
    obtain ⟨mA, n, r, wi⟩ := xE_is I hd
    obtain ⟨od, ho, hl⟩ := lookIn_ns n
    exact ⟨_, some od, tt, vs, ⟨e, rfl, rfl, ho⟩, rfl, h0, ht, fun _ => ⟨od, rfl, fun name => ⟨_, hl name, r name⟩⟩⟩
/-- isinstance(e, D), D a class here -/
def rEis (K : Frag) : List V → Hp → VK → Prop := fun vs H Q => ∃ x C D v fs b, vs = [.ref x, .ref D] ∧ Ex H x C v fs ∧ XGet K C ∧ kitOne K (.ref C) (.ref D) = some b ∧ Q (.bl b) H
theorem rEis_i {K : Frag} {H : Hp} {Q : VK} {x C D : Addr} {v : V} {fs : List (Str × V)} {b : Bool} (h : Ex H x C v fs) (G : XGet K C) (hk : kitOne K (.ref C) (.ref D) = some b) (q : Q (.bl b) H) : rEis K [.ref x, .ref D] H Q := ⟨_, _, _, _, _, _, rfl, h, G, hk, q⟩
theorem call_eis : CallR X (.builtin "isinstance") (rEis X.K) := by
  intro pins s σ H xs us Q I r h
  obtain ⟨x, C, D, v, fs, b, rfl, hc, G, hk, q⟩ := h
  obtain ⟨u, w', rfl, ru, rw'⟩ := vals2 r
  cases (show u = Value.ref x from ru)
  cases (show w' = Value.ref D from rw')
  obtain ⟨ob, od, _, _, J, _⟩ := hc.at_ I
  exact kia_one (kitx_excg G) I.kIn ⟨ob, od, J⟩ hk (by intro z; cases z) fun tk => ⟨.bl b, H, I.tok _, rfl, q⟩
/-- isinstance(e, T), T of the language -/
def rEit (K : Frag) : List V → Hp → VK → Prop := fun vs H Q => ∃ x C T v fs b, vs = [.ref x, .ty T] ∧ Ex H x C v fs ∧ XGet K C ∧ kitOne K (.ref C) (.type T) = some b ∧ Q (.bl b) H
theorem rEit_i {K : Frag} {H : Hp} {Q : VK} {x C : Addr} {T : String} {v : V} {fs : List (Str × V)} {b : Bool} (h : Ex H x C v fs) (G : XGet K C) (hk : kitOne K (.ref C) (.type T) = some b) (q : Q (.bl b) H) : rEit K [.ref x, .ty T] H Q := ⟨_, _, _, _, _, _, rfl, h, G, hk, q⟩
theorem call_eit : CallR X (.builtin "isinstance") (rEit X.K) := by
  intro pins s σ H xs us Q I r h
  obtain ⟨x, C, T, v, fs, b, rfl, hc, G, hk, q⟩ := h
  obtain ⟨u, w', rfl, ru, rw'⟩ := vals2 r
  cases (show u = Value.ref x from ru)
  cases (show w' = Value.type T from rw')
  obtain ⟨ob, od, _, _, J, _⟩ := hc.at_ I
  exact kia_one (kitx_excg G) I.kIn ⟨ob, od, J⟩ hk (by intro z; cases z) fun tk => ⟨.bl b, H, I.tok _, rfl, q⟩
end
/-- e.f -/
def rEAt (f : Str) (K : Frag) (o : V) (H1 : Hp) (Q : VK) : Prop := ∃ x C v fs y, o = .ref x ∧ Ex H1 x C v fs ∧ XGet K C ∧ findIn K (.ref C) f = some none ∧ fs.lookup f = some y ∧ Q y H1
theorem rEAt_i {f : Str} {K : Frag} {H : Hp} {Q : VK} {x C : Addr} {v y : V} {fs : List (Str × V)} (h : Ex H x C v fs) (G : XGet K C) (hf : findIn K (.ref C) f = some none) (hl : fs.lookup f = some y) (q : Q y H) : rEAt f K (.ref x) H Q := ⟨_, _, _, _, _, rfl, h, G, hf, hl, q⟩
def tEAt (f : Str) (K : Frag) (ta : TE) : TE := fun σ H Q => ta σ H fun o H1 => rEAt f K o H1 Q
theorem handed_rel {y : V} {u : Value} (r : RelV y u) : handedIn u = true := by
  cases y <;> first | (obtain ⟨t, rfl⟩ := r; rfl) | (cases (show u = _ from r); rfl)
section
variable {X : Cx}
theorem pe_eat {e : Expr} {f : Str} {ta : TE} {pos : Pos} (he : PE X e ta) (hb : attributeBase e f X.env (eval e X.env) = eval e X.env := by rfl) : PE X (.Attribute e f pos) (tEAt f X.K ta) := by
  intro pins s σ H Q I h
  refine attr_of hb (thn (he pins s σ H _ I h) fun u s1 ⟨o, H1, I1, rx, x, C, v, fs, y, ev, hx, G, hf, hl, q⟩ => ?_)
  subst ev
  obtain rfl : u = Value.ref x := rx
  obtain ⟨ob, od, tt, vs, J, _, _, _, hd⟩ := hx.at_ I1
  obtain ⟨o, rfl, lk⟩ := hd (fun z => by rw [z] at hl; cases hl)
  obtain ⟨u, e1, e2⟩ := lk f
  rw [hl] at e2
  cases u with
  | none => exact e2.elim
  | some u => exact gax_value G I1.kIn J (findObj_own G.hd hf rfl e1) (handed_rel e2) ⟨y, H1, I1.tok _, e2, q⟩
/-- str(e) -/
structure XStr (K : Frag) (C : Addr) : Prop where
  st : findIn K (.ref C) "__str__" = some (some (.builtin "BaseException.__str__"))
  bx : mroIn K C (.type "BaseException") = some true
theorem bind_bexc_str (v : Value) : bindSpecial (.builtin "BaseException.__str__") v = pure (.builtin "BaseException.__str__", [v]) := by
  have hop : withoutEnding? "BaseException.__str__" "#opaque" = none := by decide +kernel
  have hdat : withoutEnding? "BaseException.__str__" "#data" = none := by decide +kernel
  have hk : builtinKind "BaseException.__str__" = some .slot := by decide +kernel
  simp only [bindSpecial, typeOf, builtinType, hop, hdat, hk]; rfl
theorem bexcArgs_own {M : Model} {A : Around} {E : Value → Shared → Prop} {s : Shared} {x tt : Addr} {ox : Obj} {vs : Array Value} {items : List Value} {Q : Value × List Value → Shared → Prop} (hx : s.heap.get? x = some ox) (hd : ox.data = .fields vs) (h0 : vs[0]? = some (.ref tt)) (ht : s.heap.TupAt tt items) (hq : Q (.ref tt, items) s) :
    wpAny M A (Builtin.BaseException.bexcArgs (.ref x)) Q E s := by
  obtain ⟨ot, k, hto, _, htd⟩ := ht
  unfold Builtin.BaseException.bexcArgs
  refine wpAny_bind (wpAny_field hx hd h0 (wpAny_bind (wpAny_seqItems hto htd ?_)))
  have : items.toArray.toList = items := by simp
  show wpAny M A (pure (Value.ref tt, items.toArray.toList)) Q E s
  rw [this]; exact wpAny_pure hq
theorem bexcStr_own {prog : Program} {w : World} {A : Around} {E : Value → Shared → Prop} {s : Shared} {x tt : Addr} {ox : Obj} {vs : Array Value} {m : Str} {tk : Tok} {Q : Fin → Shared → Prop} (hx : s.heap.get? x = some ox) (hd : ox.data = .fields vs) (h0 : vs[0]? = some (.ref tt)) (ht : s.heap.TupAt tt [.str m tk]) (hq : Q (.done (.ret (.str m tk))) s) :
    wpAny (model prog w) A (Builtin.«BaseException.__str__» ⟨[.ref x], []⟩) Q E s := by
  unfold Builtin.«BaseException.__str__»
  repeat (first | with_reducible refine bexcArgs_own hx hd h0 ht ?_ | wp_step)
  exact hq
theorem strOf_ex {prog : Program} {w : World} {A : Around} {K : Frag} {C x tt : Addr} {ox : Obj} {od : Option Obj} {vs : Array Value} {m : Str} {tk : Tok} {E : Value → Shared → Prop} {Q : Value → Shared → Prop} {s : Shared} (hu : A.units < cLine) (hK : K.In s.heap) (S : XStr K C) (J : InstAt s.heap x ox C od) (hd : ox.data = .fields vs) (h0 : vs[0]? = some (.ref tt)) (ht : s.heap.TupAt tt [.str m tk]) (q : Q (.str m tk) s) :
    wpAny (model prog w) A (PySem.Builtin.Str.strOf (.ref x)) Q E s := by
  unfold PySem.Builtin.Str.strOf
  rw [show Builtin.Str.isExactStr (.ref x) = false from rfl]
  refine wpAny_bind (m := cRoomFor _ _) (wpAny_cRoomFor hu ?_)
  refine wpAny_bind (m := callSpecial? (.ref x) (Str.ofString "__str__")) ?_
  unfold callSpecial? specialOf
  have tp := J.type (M := model prog w)
  refine wpAny_bind (wpAny_bind (tp.here ((looks_findIn hK S.st).here ?_)))
  dsimp only
  refine wpAny_holding (wpAny_bind ?_)
  rw [bind_bexc_str]
  refine wpAny_pure (wpAny_bind ?_)
  show wpAny _ _ (call (.builtin "BaseException.__str__") [.ref x]) _ _ _
  refine wpAny_call (codeAny_call_builtin (by decide +kernel) PySem.F.entry_bexc_str ?_)
  refine @check_slot (model prog w) _ _ s "BaseException.__str__" "BaseException" "__str__" (.ref x) [] [] _ (by decide +kernel) (by decide +kernel) (tp.andThen (looks_mroIn hK S.bx)) (PySem.F.args_bexc_str (.ref x)) ?_
  refine bexcStr_own J.at_ hd h0 ht ?_
  exact wpAny_pure (wpAny_bind (wpAny_pure (wpAny_pure q)))
/-- str(e) -/
def rXstr (K : Frag) : List V → Hp → VK → Prop := fun vs H Q => ∃ x C m fs, vs = [.ref x] ∧ Ex H x C (.str m) fs ∧ XStr K C ∧ Q (.str m) H
theorem rXstr_i {K : Frag} {H : Hp} {Q : VK} {x C : Addr} {m : Str} {fs : List (Str × V)} (h : Ex H x C (.str m) fs) (S : XStr K C) (q : Q (.str m) H) : rXstr K [.ref x] H Q := ⟨_, _, _, _, rfl, h, S, q⟩
theorem call_xstr {k : Nat} (hr : Room k X.A) : CallR X (.type "str") (rXstr X.K) := by
  intro pins s σ H xs us Q I r h
  obtain ⟨x, C, m, fs, rfl, hx, S, q⟩ := h
  obtain ⟨u, rfl, ru⟩ := r.one
  cases (show u = Value.ref x from ru)
  obtain ⟨ob, od, tt, vs, J, hd, h0, ht, _⟩ := hx.at_ I
  obtain ⟨_, its, rv, ot, ho, hcl, n, hda⟩ := I.hok tt _ ht
  obtain ⟨u, rfl, tk, rfl⟩ := rv.one
  have hu : X.A.in1.in1.units < cLine := by have := hr.un; show X.A.units + 1 + 1 < cLine; omega
  refine callType_codes (T := "str") (Bi := Builtin.«object.__init__») (Q₁ := fun r s₁ => r = .str m tk ∧ s₁ = s) PySem.F.called_str (PySem.F.typeCall_str_1 _) PySem.F.entry_object_init ?_ ?_
  · refine codeAny_of_tree ?_
    show wpAny _ X.A.in1.in1 (do checkBuiltinCall "str.__new__" ⟨[.type "str", .ref x], []⟩; again (.builtin "str.__new__" ⟨[.type "str", .ref x], []⟩)) _ _ s
    refine wpAny_bind (wpAny_of_eq (PySem.F.newCall_str_1 _) (wpAny_pure ⟨plainId_quiet (by decide +kernel) _, codeAny_builtin PySem.F.entry_str_new ?_⟩))
    rw [Around.under_plainId (by decide +kernel) _]
    rw [str_new_tree]
    refine wpAny_bind (wpAny_pure ?_)
    refine wpAny_bind (wpAny_of_eq isSubtype_str_str ?_)
    exact wpAny_bind (strOf_ex hu I.kIn S J hd h0 ⟨ot, n, ho, hcl, hda⟩ (wpAny_pure ⟨rfl, rfl⟩))
  · rintro obj s₁ ⟨rfl, rfl⟩
    exact ⟨typeIs_str _ _ _, PySem.F.args_object_init_2 _ _, object_init_meets PySem.F.called_str.init.lookup PySem.F.called_str.made (by decide) X.prog X.w X.A.in1 _ s₁ ⟨typeIs_str _ _ _, rfl, ⟨.str m, H, I, ⟨_, rfl⟩, q⟩⟩⟩
end
end L2
namespace L2
open PySem PySem.Spec PyProof.Rows PySem.W PySem.Builtin PySem.Builtin.ObjectAttr
section
variable {X : Cx} {pins : List (Addr × Obj)} {σ : St} {H : Hp} {s : Shared}
theorem Inv.off {a : Addr} (I : Inv X pins σ H s) (hex : X.ex = []) (ha : s.heap.get? a = none) : H a = none ∧ X.s₀.heap.get? a = none ∧ a ≠ X.env.locals ∧ (∀ y c, X.env.cells.lookup y = some c → c ≠ a) ∧ ∀ p ∈ X.pn ++ pins, p.1 ≠ a := by
  have nn : ∀ b o, s.heap.get? b = some o → b ≠ a := fun b o e z => by rw [z, ha] at e; cases e
  refine ⟨?_, ?_, fun z => ?_, fun y c e z => ?_, fun p hp z => ?_⟩
  · cases e : H a with
    | none => rfl
    | some o =>
      obtain ⟨ob, hob⟩ := ObjOk.got (I.hok a o e)
      rw [ha] at hob; cases hob
  · cases e : X.s₀.heap.get? a with
    | none => rfl
    | some o =>
      obtain ⟨o', e'⟩ := I.base.there a o e (by rw [hex]; exact fun z => nomatch z)
      rw [ha] at e'; cases e'
  · obtain ⟨m, ⟨o, _, _, ho, _⟩, _⟩ := I.loc
    exact nn _ _ ho z.symm
  · obtain ⟨v, o, ho, _⟩ := I.cell y c e
    exact nn _ _ ho z
  · exact nn _ _ (I.pin p hp).1 z
/-- of one argument and fields: the outcome -/
def spNew (C : Addr) (g : List V → Option (V × List (Str × V))) : List V → Hp → VK → Prop := fun vs H Q => ∃ v fs, g vs = some (v, fs) ∧ ∀ x H', H x = none → Same H H' → Ex H' x C v fs → Q (.ref x) H'
def gOne : List V → Option (V × List (Str × V))
  | [v] => some (v, [])
  | _ => none
theorem make_one {C B : Addr} {nm : Str} (c : Xp X.K nm C B) (hex : X.ex = []) : CallR X (.ref C) (spNew C gOne) := by
  intro pins s σ H vs us Q I r h
  obtain ⟨v, fs, hg, q⟩ := h
  match vs, hg with
  | [v'], hg =>
  obtain ⟨rfl, rfl⟩ : v' = v ∧ [] = fs := by unfold gOne at hg; cases hg; exact ⟨rfl, rfl⟩
  obtain ⟨N, o, lk, ⟨q', bs, hdct, sn, sub, ab, col, dd, k0, k1, k2, k3, k5, rfl⟩, hns, hni⟩ := c.obj
  have hT := tail_of_in I.kIn c.tl
  have hC := I.kIn _ _ lk
  have hn : s.heap.Ns N (s.heap.nsMap N) := .of_isNs (isNs_of_in I.kIn hns)
  have hi : s.heap.nsMap N "__init__" = none := nsMap_none_of_in I.kIn hns hni
  have hul : us.length = 1 := r.length.symm
  have I1 := I
  obtain ⟨h, g, dr, t, os⟩ := s
  refine wpAny_call_exc_subT PySem.F.excBase_ValueError hT hC hn hi (fun h' x hm => ?_) (by rw [sizeLine_eq]; omega)
  obtain ⟨t', ht, htn, htt⟩ := hm.there
  obtain ⟨a1, a2, a3, a4, a5⟩ := I1.off hex hm.new
  obtain ⟨b1, b2, b3, b4, b5⟩ := I1.off hex htn
  have hne : t' ≠ x := fun z => by rw [z, ht] at htt; cases htt
  have J1 := (I1.kept (t' := t) hm.keeps).track (o := .tup [v']) b1 b2 b3 b4 b5 ⟨by rw [sizeLine_eq]; simp, us, r, ⟨_, htt, rfl, _, rfl⟩⟩
  have J2 := J1.track (x := x) (o := exA x C none t') (by rw [upd_ne (Ne.symm hne)]; exact a1) a2 a3 a4 a5 (exA_ok ht rfl rfl rfl)
  exact ⟨.ref x, _, J2, rfl, q x _ a1 (Same.trans (same_new b1 _) (same_new (by rw [upd_ne (Ne.symm hne)]; exact a1) _)) ⟨t', by rw [upd_ne hne, upd_same], .inl ⟨rfl, upd_same⟩⟩⟩
end
/-- an own class with an __init__ -/
structure XI (K : Frag) (nm : Str) (C B fI : Addr) : Prop extends XC K nm C B where
  init : findIn K (.ref C) "__init__" = some (some (.ref fI))
  fn : typeIn K (.ref fI) = some (.type "function")
section
variable {X : Cx} {C B fI : Addr} {nm : Str} {k : Nat} {fd : FuncData} {ps : List Str} {sp : Sp} {dvs : List V} {ds : List Value}
theorem run_makeA {pins : List (Addr × Obj)} {σ : St} {H : Hp} {s : Shared} {Q : VK} {us : List Value} {vs : List V} (c : XI X.K nm C B fI) (F : FnOk X.prog X.w X.K X.mg X.base CX0 k fI fd ps sp) (hr : Room (k + 1) X.A) (hb : Binds X.K fd ps ds) (hdv : Vals dvs ds) (I : Inv X pins σ H s) (r : Vals vs us) (hus : vs.length ≤ 100)
    (q : ∀ x, H x = none → sp (.ref x :: (vs ++ dvs)) (upd H x (exO x C none)) (fun v H2 => v = .non ∧ Q (.ref x) H2) E0) : wpAny (model X.prog X.w) X.A (call (.ref C) us) (EP X pins σ Q) X.xe s := by
  obtain ⟨N, o, lk, hX⟩ := c.obj
  have hHx : H (s.heap.objs.size + 1) = none := I.hok.fresh (Nat.le_succ _)
  have he : ((s.heap.push { cls := .type "tuple", data := .seq us.toArray }).push (newExc C s.heap.objs.size)).get? (s.heap.objs.size + 1) = some (newExc C s.heap.objs.size) := by
    rw [← (Heap.size_push .. : (s.heap.push { cls := .type "tuple", data := .seq us.toArray }).objs.size = s.heap.objs.size + 1)]; exact Heap.get?_push_size _ rfl
  have I2 := I.laid (t' := s.toks) (a := s.heap.objs.size + 1) (o := exO (s.heap.objs.size + 1) C none) (h' := (s.heap.push { cls := .type "tuple", data := .seq us.toArray }).push (newExc C s.heap.objs.size)) (fun b ob e => Heap.get?_push_of_some _ (Heap.get?_push_of_some _ e)) (Nat.le_succ _) (exO_ok he rfl rfl)
  have r2 : Vals (V.ref (s.heap.objs.size + 1) :: (vs ++ dvs)) (Value.ref (s.heap.objs.size + 1) :: (us ++ ds)) := .cons rfl (r.append hdv)
  have hsp := q _ hHx
  have hl : (Value.ref (s.heap.objs.size + 1) :: us ++ ds).length = ps.length := by
    have e := r2.length
    rw [F.len _ _ _ _ hsp] at e
    exact e.symm
  have hbt := hb _ (Value.ref (s.heap.objs.size + 1) :: us) I2.kIn hl
  have run := F.run _ X.stack _ _ ⟨Value.ref (s.heap.objs.size + 1) :: us, []⟩ (Value.ref (s.heap.objs.size + 1) :: (us ++ ds)) _ _ E0 (hr.make C us []) (I2.env0.make C us []) hbt r2 hsp
  have I1 := I
  obtain ⟨h, g, dr, t, os⟩ := s
  refine wpAny_call (make_x I1.kIn lk hX c.tl c.init c.fn (by rw [← r.length]; exact hus) (codeAny_mono run fun r s' hq' => ?_))
  cases r with
  | error e => exact False.elim hq'
  | ok fl =>
    cases fl with
    | ret u =>
      obtain ⟨v', H', I3, rv, ev, q3⟩ := I2.after hq'
      subst ev
      exact ⟨rv, ⟨V.ref (h.objs.size + 1), H', I3, rfl, q3⟩⟩
    | next => exact False.elim hq'
    | brk => exact False.elim hq'
    | cont => exact False.elim hq'
/-- one field f -/
def spI1 (C : Addr) (f : Str) : Sp := fun vs H Q _ => ∃ x v0 v, vs = [.ref x, v0, v] ∧ H x = some (exO x C none) ∧ ∀ H', (∀ b o, b ≠ x → H b = some o → H' b = some o) → Ex H' x C v0 [(f, v)] → Q .non H'
def gFld (f : Str) : List V → Option (V × List (Str × V))
  | [v] => some (v, [(f, .int 0)])
  | [v, n] => some (v, [(f, n)])
  | _ => none
theorem gr_off {H H' : Hp} {x : Addr} {o : HO} (hx : H x = none) (g : ∀ b u, b ≠ x → upd H x o b = some u → H' b = some u) : Same H H' := fun b u e => g b u (ne_of_none e hx) (by rw [upd_ne (ne_of_none e hx)]; exact e)
theorem make_fld {f : Str} {i0 : Value} (c : XI X.K nm C B fI) (F : FnOk X.prog X.w X.K X.mg X.base CX0 k fI fd ps (spI1 C f)) (hr : Room (k + 1) X.A) (hb : Binds X.K fd ps []) (hb0 : Binds X.K fd ps [i0]) (h0 : RelV (.int 0) i0) : CallR X (.ref C) (spNew C (gFld f)) := by
  intro pins s σ H vs us Q I r h
  obtain ⟨v, fs, hg, q⟩ := h
  match vs, hg with
  | [v'], hg =>
    obtain ⟨rfl, rfl⟩ : v' = v ∧ [(f, V.int 0)] = fs := by unfold gFld at hg; cases hg; exact ⟨rfl, rfl⟩
    exact run_makeA c F hr hb0 (.cons h0 .nil) I r (by show 1 ≤ 100; decide) fun x hx => ⟨x, v', _, rfl, upd_same, fun H' g e => ⟨rfl, q x H' hx (gr_off hx g) e⟩⟩
  | [v', n], hg =>
    obtain ⟨rfl, rfl⟩ : v' = v ∧ [(f, n)] = fs := by unfold gFld at hg; cases hg; exact ⟨rfl, rfl⟩
    exact run_makeA c F hr hb .nil I r (by show 2 ≤ 100; decide) fun x hx => ⟨x, v', _, rfl, upd_same, fun H' g e => ⟨rfl, q x H' hx (gr_off hx g) e⟩⟩
/-- two fields -/
def spI2 (C : Addr) (f1 f2 : Str) : Sp := fun vs H Q _ => ∃ x v0 v u, vs = [.ref x, v0, v, u] ∧ H x = some (exO x C none) ∧ ∀ H', (∀ b o, b ≠ x → H b = some o → H' b = some o) → Ex H' x C v0 [(f2, u), (f1, v)] → Q .non H'
def gTwo (f1 f2 : Str) : List V → Option (V × List (Str × V))
  | [v] => some (v, [(f2, .non), (f1, .int 0)])
  | [v, n] => some (v, [(f2, .non), (f1, n)])
  | [v, n, u] => some (v, [(f2, u), (f1, n)])
  | _ => none
theorem make_two {f1 f2 : Str} {i0 : Value} (c : XI X.K nm C B fI) (F : FnOk X.prog X.w X.K X.mg X.base CX0 k fI fd ps (spI2 C f1 f2)) (hr : Room (k + 1) X.A) (hb : Binds X.K fd ps []) (hb1 : Binds X.K fd ps [.none]) (hb0 : Binds X.K fd ps [i0, .none]) (h0 : RelV (.int 0) i0) : CallR X (.ref C) (spNew C (gTwo f1 f2)) := by
  intro pins s σ H vs us Q I r h
  obtain ⟨v, fs, hg, q⟩ := h
  match vs, hg with
  | [v'], hg =>
    obtain ⟨rfl, rfl⟩ : v' = v ∧ [(f2, V.non), (f1, V.int 0)] = fs := by unfold gTwo at hg; cases hg; exact ⟨rfl, rfl⟩
    exact run_makeA c F hr hb0 (dvs := [.int 0, .non]) (.cons h0 (.cons rfl .nil)) I r (by show 1 ≤ 100; decide) fun x hx => ⟨x, v', _, _, rfl, upd_same, fun H' g e => ⟨rfl, q x H' hx (gr_off hx g) e⟩⟩
  | [v', n], hg =>
    obtain ⟨rfl, rfl⟩ : v' = v ∧ [(f2, V.non), (f1, n)] = fs := by unfold gTwo at hg; cases hg; exact ⟨rfl, rfl⟩
    exact run_makeA c F hr hb1 (dvs := [.non]) (.cons rfl .nil) I r (by show 2 ≤ 100; decide) fun x hx => ⟨x, v', _, _, rfl, upd_same, fun H' g e => ⟨rfl, q x H' hx (gr_off hx g) e⟩⟩
  | [v', n, u], hg =>
    obtain ⟨rfl, rfl⟩ : v' = v ∧ [(f2, u), (f1, n)] = fs := by unfold gTwo at hg; cases hg; exact ⟨rfl, rfl⟩
    exact run_makeA c F hr hb .nil I r (by show 3 ≤ 100; decide) fun x hx => ⟨x, v', _, _, rfl, upd_same, fun H' g e => ⟨rfl, q x H' hx (gr_off hx g) e⟩⟩
end
/-- a class that can be called: its name, what the call promises -/
structure Es (P : Program) (w : World) (K : Frag) (mg : Str → Option Value) (base : Heap) (k : Nat) (cn : Str) (C : Addr) (sp : List V → Hp → VK → Prop) : Prop where
  run : ∀ X : Cx, X.prog = P → X.w = w → X.K = K → X.mg = mg → X.base = base → X.ex = [] → Room k X.A → CallR X (.ref C) sp
  kp : keepIn K (.ref C) = true
  mg : mg cn = some (.ref C)
section
variable {X : Cx} {C : Addr} {k j : Nat} {cn : Str} {sp : List V → Hp → VK → Prop}
def tNew (sp : List V → Hp → VK → Prop) (t : TA) : TE := fun σ H Q => t σ H fun vs H1 => sp vs H1 Q
theorem pe_new {p pos : Pos} {e : Expr} {es : List Expr} {t : TA} (D : Es X.prog X.w X.K X.mg X.base k cn C sp) (hex : X.ex = []) (hr : Room j X.A) (hj : k ≤ j) (hg : Gl X cn) (ha : PA X (e :: es) t) (hdb : (cn == ("__debug__" : Str)) = false := by decide)
    (he : starEach (e :: es) X.env = (false, eval e X.env) :: starEach es X.env := by rfl) (hpl : (backTo pos (starEach es X.env)).any (·.1) = false := by rfl) : PE X (.Call (.Name cn p) (e :: es) [] pos) (tNew sp t) := by
  intro pins s σ H Q I h
  refine wpAny_Call_Name_kw (ld_glob I hg D.mg ?_ hdb)
  refine callWith_K (h₀ := X.base) I.ok.mod.kin D.kp (thn (ha pos pins s σ H _ I h) fun us s1 ⟨vs, H1, I1, r, q⟩ => ⟨I1.kIn, ?_⟩) he hpl
  exact D.run X rfl rfl rfl rfl rfl hex (hr.mono hj) pins s1 σ H1 vs us Q I1 r q
end
section
variable {P : Program} {w : World} {K : Frag} {mg : Str → Option Value} {base : Heap} {k : Nat} {cn nm : Str} {C B fI : Addr} {fd : FuncData} {ps : List Str}
theorem es_one (c : Xp K nm C B) (hm : mg cn = some (.ref C)) : Es P w K mg base 0 cn C (spNew C gOne) := ⟨fun X h1 h2 h3 h4 h5 hex _ => by subst h1 h2 h3 h4 h5; exact make_one c hex, c.kp, hm⟩
theorem es_fld {f : Str} {i0 : Value} (c : XI K nm C B fI) (F : FnOk P w K mg base CX0 k fI fd ps (spI1 C f)) (hb : Binds K fd ps []) (hb0 : Binds K fd ps [i0]) (h0 : RelV (.int 0) i0) (hm : mg cn = some (.ref C)) : Es P w K mg base (k + 1) cn C (spNew C (gFld f)) :=
  ⟨fun X h1 h2 h3 h4 h5 hex hr => by subst h1 h2 h3 h4 h5; exact make_fld c F hr hb hb0 h0, c.kp, hm⟩
theorem es_two {f1 f2 : Str} {i0 : Value} (c : XI K nm C B fI) (F : FnOk P w K mg base CX0 k fI fd ps (spI2 C f1 f2)) (hb : Binds K fd ps []) (hb1 : Binds K fd ps [.none]) (hb0 : Binds K fd ps [i0, .none]) (h0 : RelV (.int 0) i0) (hm : mg cn = some (.ref C)) : Es P w K mg base (k + 1) cn C (spNew C (gTwo f1 f2)) :=
  ⟨fun X h1 h2 h3 h4 h5 hex hr => by subst h1 h2 h3 h4 h5; exact make_two c F hr hb hb1 hb0 h0, c.kp, hm⟩
end
end L2
namespace L2
open PySem PySem.Spec PyProof.Rows PySem.W PySem.Builtin PySem.Builtin.ObjectAttr
structure Xf (K : Frag) (nm : Str) (C B N : Addr) : Prop where
  obj : ∃ (q : Str) (bs : List Value) (sn : List Str) (sub : List Value) (ab : Bool) (col : Option Bool) (dd : Option Addr) (k0 k1 k2 k3 k5 : Option Value), K.lookup C = some (excClassObj nm q C N bs (.ref B :: veMro) true sn sub ab col dd k0 k1 k2 k3 k5 "ValueError.__new__")
  ga : findIn K (.ref C) "__getattribute__" = some (some (.builtin "BaseException.__getattribute__"))
  gt : findIn K (.ref C) "__getattr__" = some none
  cl : findIn K (.ref C) "__class__" = some (some (.builtin "object.__class__"))
  st : findIn K (.ref C) "__str__" = some (some (.builtin "BaseException.__str__"))
  kp : keepIn K (.ref C) = true
structure Xs (K : Frag) (B : Addr) : Prop where
  cg : specialIn K (.builtin "object.__class__") "__get__" = some (some (.builtin "getset_descriptor.__get__"))
  ct : takesIn K (.builtin "object.__class__") = some true
  tl : tailIn K veMro (.ref B :: veMro) = true
  bo : ∃ (q : Str) (N : Addr) (bs : List Value) (hd : Bool) (sn : List Str) (sub : List Value) (ab : Bool) (col : Option Bool) (dd : Option Addr) (k0 k1 k2 k3 k5 : Option Value), K.lookup B = some (excClassObj "CabinetError" q B N bs veMro hd sn sub ab col dd k0 k1 k2 k3 k5 "ValueError.__new__")
section
variable {K : Frag} {nm nm' : Str} {C D B N N' : Addr}
theorem Xf.cls (x : Xf K nm C B N) : ∃ cd, clsIn K C = some cd ∧ cd.mro = .ref C :: .ref B :: veMro ∧ cd.hasDict = true := by
  obtain ⟨q, bs, sn, sub, ab, col, dd, k0, k1, k2, k3, k5, lk⟩ := x.obj
  obtain ⟨cd, e⟩ : ∃ cd, clsIn K C = some cd := by
    unfold clsIn
    rw [lk]
    exact ⟨_, rfl⟩
  refine ⟨cd, e, ?_⟩
  unfold clsIn at e
  rw [lk] at e
  cases e
  exact ⟨rfl, rfl⟩
theorem Xf.ty (x : Xf K nm C B N) : typeIn K (.ref C) = some (.type "type") := by
  obtain ⟨q, bs, sn, sub, ab, col, dd, k0, k1, k2, k3, k5, lk⟩ := x.obj
  show (K.lookup C).map (·.cls) = _
  rw [lk]
  rfl
theorem Xf.mro (x : Xf K nm C B N) (b : Value) : mroIn K C b = some ((Value.ref C :: .ref B :: veMro).contains b) := by
  obtain ⟨cd, hc, hm, _⟩ := x.cls
  unfold mroIn
  rw [hc, Option.bind_some, if_neg (by rw [hm]; exact Bool.false_ne_true), hm]
theorem Xf.get (x : Xf K nm C B N) (y : Xs K B) : XGet K C where
  ga := x.ga
  gt := x.gt
  bx := by rw [x.mro, List.contains_cons, List.contains_cons, show veMro.contains (.type "BaseException") = true by decide, Bool.or_true, Bool.or_true]
  ob := by rw [x.mro, List.contains_cons, List.contains_cons, show veMro.contains (.type "object") = true by decide, Bool.or_true, Bool.or_true]
  hd := by
    obtain ⟨cd, hc, _, hd⟩ := x.cls
    unfold hasDictIn
    rw [hc]
    exact hd
  cl := x.cl
  cg := y.cg
  ct := y.ct
theorem Xf.str (x : Xf K nm C B N) (y : Xs K B) : XStr K C := ⟨x.st, (x.get y).bx⟩
theorem Xf.xp (x : Xf K nm C B N) (y : Xs K B) (h1 : nsOkIn K N = true) (h2 : nsIn K N "__init__" = some none) : Xp K nm C B := by
  obtain ⟨q, bs, sn, sub, ab, col, dd, k0, k1, k2, k3, k5, lk⟩ := x.obj
  exact ⟨⟨N, _, lk, ⟨_, _, _, _, _, _, _, _, _, _, _, _, _, rfl⟩, h1, h2⟩, y.tl, x.kp⟩
theorem Xf.xi {fI : Addr} (x : Xf K nm C B N) (y : Xs K B) (h1 : findIn K (.ref C) "__init__" = some (some (.ref fI))) (h2 : typeIn K (.ref fI) = some (.type "function")) (h3 : findIn K (.ref C) "__setattr__" = some (some (.builtin "object.__setattr__"))) : XI K nm C B fI := by
  obtain ⟨q, bs, sn, sub, ab, col, dd, k0, k1, k2, k3, k5, lk⟩ := x.obj
  exact { obj := ⟨N, _, lk, ⟨_, _, _, _, _, _, _, _, _, _, _, _, _, rfl⟩⟩, cd := x.cls, tl := y.tl, set := h3, kp := x.kp, init := h1, fn := h2 }
theorem kit_ref {a : Addr} {r : Bool} (hc : (clsIn K D).isSome = true) (ht : typeIn K (.ref D) = some (.type "type")) (hm : mroIn K C (.ref D) = some r) (hr : C = D → r = true) : kitOne K (.ref C) (.ref D) = some r := by
  unfold kitOne kitCls
  by_cases z : C = D
  · subst z
    rw [if_pos (beq_self_eq_true _), hr rfl]
  · rw [if_neg (fun e => z (Value.ref.inj (beq_iff_eq.mp e)))]
    dsimp only
    rw [hc, ht, if_pos (by rfl)]
    exact hm
theorem veMro_ref (a : Addr) : veMro.contains (Value.ref a) = false := by
  cases e : veMro.contains (Value.ref a) with
  | false => rfl
  | true =>
    have h := List.contains_iff_mem.mp e
    simp at h
theorem Xf.kit (x : Xf K nm C B N) (z : Xf K nm' D B N') (hD : D ≠ B) : kitOne K (.ref C) (.ref D) = some (decide (D = C)) := by
  obtain ⟨cd, hc, _⟩ := z.cls
  refine kit_ref (a := C) (by rw [hc]; rfl) z.ty ?_ fun e => by subst e; simp
  rw [x.mro, List.contains_cons, List.contains_cons, veMro_ref, Bool.or_false]
  have h2 : (Value.ref D == Value.ref B) = false := beq_eq_false_iff_ne.mpr fun e => hD (Value.ref.inj e)
  rw [h2, Bool.or_false]
  by_cases e : D = C
  · subst e; simp
  · rw [show (Value.ref D == Value.ref C) = false from beq_eq_false_iff_ne.mpr fun z => e (Value.ref.inj z)]
    simp [e]
theorem Xf.kitB (x : Xf K nm C B N) (y : Xs K B) : kitOne K (.ref C) (.ref B) = some true := by
  obtain ⟨q, N, bs, hd, sn, sub, ab, col, dd, k0, k1, k2, k3, k5, lk⟩ := y.bo
  refine kit_ref (a := C) ?_ ?_ ?_ fun _ => rfl
  · unfold clsIn
    rw [lk]
    rfl
  · show (K.lookup B).map (·.cls) = _
    rw [lk]
    rfl
  · rw [x.mro, List.contains_cons, List.contains_cons, beq_self_eq_true, Bool.true_or, Bool.or_true]
theorem Xf.kitV (x : Xf K nm C B N) : kitOne K (.ref C) (.type "ValueError") = some true := by
  unfold kitOne kitCls
  rw [if_neg (by intro e; cases (beq_iff_eq.mp e))]
  dsimp only
  rw [if_pos (by decide +kernel)]
  show mroIn K C _ = _
  rw [x.mro, List.contains_cons, List.contains_cons, show veMro.contains (.type "ValueError") = true by decide, Bool.or_true, Bool.or_true]
end
end L2
namespace L2
open PySem PySem.Spec PyProof.Rows PySem.W
def LeafV (v : V) : Prop := (∃ i, v = .int i) ∨ ∃ x, v = .str x
/-- a pair: a row of one thing, a text -/
def Prr (H : Hp) (p l : Addr) (z : V) (x : Str) : Prop := H p = some (.tup [.ref l, .str x]) ∧ H l = some (.lst [z])
section
variable {X : Cx} {pins : List (Addr × Obj)} {σ : St} {H : Hp} {s : Shared} {A : Around}
theorem eq_leaf {z : V} {u w : Value} (h : LeafV z) (r1 : RelV z u) (r2 : RelV z w) : SeqAt.EqAt A s u w true := by
  rcases h with ⟨i, rfl⟩ | ⟨x, rfl⟩
  · obtain ⟨t, rfl⟩ := r1
    obtain ⟨t', rfl⟩ := r2
    have := SeqAt.EqAt.int_int (A := A) (s := s) i t i t'
    rwa [beq_self_eq_true] at this
  · obtain ⟨t, rfl⟩ := r1
    obtain ⟨t', rfl⟩ := r2
    have := SeqAt.EqAt.str_str (A := A) (s := s) x t x t'
    rwa [beq_self_eq_true] at this
theorem eq_row1 {l m : Addr} {z : V} (I : Inv X pins σ H s) (hl : H l = some (.lst [z])) (hm : H m = some (.lst [z])) (hz : LeafV z) (hu : A.units < cLine) : SeqAt.EqAt A s (.ref l) (.ref m) true := by
  by_cases e : l = m
  · subst e
    exact SeqAt.EqAt.same _
  obtain ⟨its, r1, p1, _⟩ := I.list (SqL.of hl)
  obtain ⟨jts, r2, p2, _⟩ := I.list (SqL.of hm)
  obtain ⟨u, rfl, ru⟩ := r1.one
  obtain ⟨w, rfl, rw⟩ := r2.one
  refine SeqAt.EqAt.of_refs e ?_
  exact SeqAt.RcAt.lists (e := fun _ => true) p1.isList p2.isList rfl hu fun j h1 h2 => by
    have : j = 0 := by simp at h1; omega
    subst this
    exact eq_leaf hz ru rw
theorem eq_prr {p q l m : Addr} {z : V} {x : Str} (I : Inv X pins σ H s) (hp : Prr H p l z x) (hq : Prr H q m z x) (hz : LeafV z) (hu : A.units + 1 < cLine) : SeqAt.EqAt A s (.ref p) (.ref q) true := by
  by_cases e : p = q
  · subst e
    exact SeqAt.EqAt.same _
  obtain ⟨its, r1, p1, _⟩ := I.tuple (SqT.of (K := X.K) hp.1)
  obtain ⟨jts, r2, p2, _⟩ := I.tuple (SqT.of (K := X.K) hq.1)
  obtain ⟨u, u', rfl, ru, ru'⟩ := vals2 r1
  obtain ⟨w, w', rfl, rw, rw'⟩ := vals2 r2
  cases (show u = Value.ref l from ru)
  cases (show w = Value.ref m from rw)
  refine SeqAt.EqAt.of_refs e ?_
  exact SeqAt.RcAt.tuples (e := fun _ => true) p1 p2 (by omega) fun j h1 h2 => by
    have : j = 0 ∨ j = 1 := by simp at h1; omega
    rcases this with rfl | rfl
    · exact eq_row1 I hp.2 hq.2 hz (by show A.units + 1 < cLine; omega)
    · exact eq_leaf (.inr ⟨x, rfl⟩) ru' rw'
def rListOf (K : Frag) : List V → Hp → VK → Prop := fun xs H Q => ∃ p ys, xs = [V.ref p] ∧ (SqL K H p ys ∨ SqT K H p ys) ∧ ∀ l, H l = none → Q (.ref l) (upd H l (.lst ys))
theorem call_list_ofC {K : Frag} (h : X.K = K) : CallR X (.type "list") (rListOf K) := by
  subst h
  exact call_list_of
def rNeF : R2 := fun x y H Q => ∃ a b p1 p2 q1 q2 l1 l2 m1 m2 z1 z2 x1 x2, x = .ref a ∧ y = .ref b ∧ H a = some (.lst [.ref p1, .ref p2]) ∧ H b = some (.lst [.ref q1, .ref q2]) ∧ Prr H p1 l1 z1 x1 ∧ Prr H q1 m1 z1 x1 ∧ Prr H p2 l2 z2 x2 ∧ Prr H q2 m2 z2 x2 ∧ LeafV z1 ∧ LeafV z2 ∧ Q (.bl false) H
theorem op_ne_F (hu : X.A.units + 64 < cLine) : OpR X (compareOp .NotEq) rNeF := by
  intro pins s σ H x y v u Q I rx ry h
  obtain ⟨a, b, p1, p2, q1, q2, l1, l2, m1, m2, z1, z2, x1, x2, rfl, rfl, ha, hb, h1, h2, h3, h4, hz1, hz2, q⟩ := h
  cases rx
  cases ry
  obtain ⟨its, r1, pl1, _⟩ := I.list (SqL.of ha)
  obtain ⟨jts, r2, pl2, _⟩ := I.list (SqL.of hb)
  obtain ⟨u, u', rfl, ru, ru'⟩ := vals2 r1
  obtain ⟨w, w', rfl, rw, rw'⟩ := vals2 r2
  cases (show u = Value.ref p1 from ru)
  cases (show w = Value.ref q1 from rw)
  cases (show u' = Value.ref p2 from ru')
  cases (show w' = Value.ref q2 from rw')
  refine SeqAt.RcNeAt.lists (e := fun _ => true) pl1.isList pl2.isList rfl (by omega) (fun j i1 i2 => ?_) X.prog X.w X.xe _ ⟨.bl false, H, I, rfl, q⟩
  have : j = 0 ∨ j = 1 := by simp at i1; omega
  rcases this with rfl | rfl
  · exact eq_prr I h1 h2 hz1 (by show X.A.units + 1 + 1 < cLine; omega)
  · exact eq_prr I h3 h4 hz2 (by show X.A.units + 1 + 1 < cLine; omega)
end
end L2
namespace K10
open PySem L2
local macro_rules | `(tactic| walk_at "rd") => `(tactic| simp only [cxOf_K, nox_K, compCx_K, tSeq, tNext, tAsg, gName, tRet, tRetN, tIfS, tDrop, tOp, tUn, tVar, tC, tCall, tCons, tNil, tTest, tB, tAnd, tOr, tNot, tAndV, tOrV, tNotV, tIf, tCB, tBM, tComp, tTrue, tPart, tNoPart, tSl, tChain, tIsN, tNotN, tLst, tTup, tFor_eq, sDPut, tDNewK, tNever, rI0, rI, rU, rEq, rNe, rMulS, rInC, iRng1, iStr, CDiv, CMul, CPow, scal, List.append_nil, List.getElem?_cons_zero, List.getElem?_cons_succ, List.set_cons_zero, List.set_cons_succ, List.map_cons, List.map_nil, List.length_cons, List.length_nil, sizeLine_eq, Nat.reduceAdd, Nat.reduceLeDiff, Option.join_some, Option.join_none, Option.some.injEq, V.int.injEq, V.str.injEq, V.bl.injEq, V.ref.injEq, V.ty.injEq, List.cons.injEq, and_true, true_and, and_self, exists_eq_left', exists_eq_left, exists_and_left, exists_and_right, decide_eq_true_eq, Bool.not_eq_eq_eq_not, Bool.not_true, Bool.not_false, decide_eq_false_iff_not, Int.reduceLT, Int.reduceLE, Int.reduceNeg, Int.reducePow, Int.reduceAdd, Int.reduceSub, Int.reduceMul, Int.reduceToNat, natAbs10, Nat.reduceLT, Nat.reducePow, or_true, true_or, if_true, if_false, Bool.false_eq_true, ite_true, ite_false, reduceCtorEq])
seal L2.PSs L2.PS L2.PE L2.PT L2.PW L2.PA L2.PI L2.PG L2.PGs L2.PPs L2.PTs
def top (i : Nat) : Stmt := PySem.Challenge.pw_cabinet_k10_refusals_apart.main.body.getD i (.Pass ⟨0, 0, 0, 0⟩)
abbrev sCell : Stmt := top 23
def cellF (ns : List Int) (k : Int) : Int :=
  let m := if ns = [] then k * 7919 else (k * 7919 + k / ns.length * 104729 + ns.getD (k % ns.length).toNat 0 * 48271) % 1000003
  (m * m / 11 + 13 * m) % 1000003
theorem cellF_lo (ns : List Int) (k : Int) : 0 ≤ cellF ns k := Int.emod_nonneg _ (by decide)
theorem cellF_hi (ns : List Int) (k : Int) : cellF ns k < 1000003 := Int.emod_lt_of_pos _ (by decide)
def spCell (K : PySem.W.Frag) : Sp := fun vs H Q _ => ∃ (a : Addr) (ns : List Int) (k : Int), vs = [.ref a, .int k] ∧ SqL K H a (ns.map V.int) ∧ ns.length ≤ 63 ∧ 0 ≤ k ∧ k < 1000000 ∧ ∀ H', Same H H' → Q (.int (cellF ns k)) H'
theorem spCell_i {K : PySem.W.Frag} {H : Hp} {Q : VK} {E : XK} {a : Addr} {ns : List Int} {k : Int} (hS : SqL K H a (ns.map V.int)) (h63 : ns.length ≤ 63) (h0 : 0 ≤ k) (h1 : k < 1000000) (q : ∀ H', Same H H' → Q (.int (cellF ns k)) H') :
    spCell K [.ref a, .int k] H Q E := ⟨a, ns, k, rfl, hS, h63, h0, h1, q⟩
section
variable {P : Program} {w : World} {K : PySem.W.Frag} {mg : Str → Option Value} {base : Heap} {f : Addr} {fd : FuncData}
theorem scCell : FnScope ["_law_script", "_law_k", "_law_more"] ["_law_script", "_law_k"] (defScope sCell) := ⟨rfl, rfl, rfl, by decide +kernel, rfl, by decide +kernel, by decide +kernel⟩
theorem ok_cell (F : Fun K "_law_cell" "_law_cell" sCell f fd) (B : Bl mg) : FnOk P w K mg base CX0 1 f fd ["_law_script", "_law_k"] (spCell K) := by
  refine F.ok scCell (fun vs H Q E h => ?_) (fun cdv A outer s H vs Q E hr h => ?_)
  · obtain ⟨a, ns, k, rfl, _⟩ := h
    rfl
  obtain ⟨a, ns, k, rfl, hS, h63, h0, h1, q⟩ := h
  have nd := scCell.nd
  have hu0 := hr.units0
  refine ⟨_, (pss_cons (ps_set (i := 2) nd rfl (Or.inl rfl) (pe_op op_mul (pv 1) pe_int))
    (pss_cons (ps_if (pt_cmpR (op_ne_l hu0) (pv 0) (pe_lst pa_nil) (nomark _)) (pss_cons (ps_set (i := 2) nd rfl (Or.inl rfl) (pe_op op_add (pv 2) (pe_op op_mul (pe_op op_fdiv (pv 1) (pe_callB call_len_l rfl B.len bt_len (pa_cons (pv 0) pa_nil))) pe_int)))
    (pss_one (ps_set (i := 2) nd rfl (Or.inl rfl) (pe_op op_mod (pe_op op_add (pv 2) (pe_op op_mul (pe_ix ix_list (pv 0) (pe_op op_mod (pv 1) (pe_callB call_len_l rfl B.len bt_len (pa_cons (pv 0) pa_nil))) (fun _ _ => rfl)) pe_int)) pe_int)))) pss_nil)
    (pss_one (ps_ret (pe_op op_mod (pe_op op_add (pe_op op_fdiv (pe_op op_mul (pv 2) (pv 2)) pe_int) (pe_op op_mul pe_int (pv 2))) pe_int))))), ?_⟩
  rw [show start ["_law_script", "_law_k", "_law_more"] [.ref a, .int k] = [some (.ref a), some (.int k), none] from rfl]
  walk_at "rd"
  intro p hp
  have hS' := (same_new hp (.lst [])).seq hS
  refine rEqL_i hS' (SqL.of upd_same) (flat_ints ns) rfl ⟨_, rfl, ?_⟩
  rw [eqLs_nil]
  by_cases hn : ns = []
  · subst hn
    refine iteF ⟨.inl (by omega), ?_⟩
    exact q _ (same_new hp _)
  · have hpos : 0 < ns.length := List.length_pos_iff.mpr hn
    have e1 : (ns.map V.int).isEmpty = false := by cases ns with | nil => exact absurd rfl hn | cons _ _ => rfl
    rw [if_pos rfl, e1]
    have hl : (ns.map V.int).length = ns.length := List.length_map _
    have hm0 : 0 ≤ k % (ns.length : Int) := Int.emod_nonneg _ (by omega)
    have hm1 : k % (ns.length : Int) < ns.length := Int.emod_lt_of_pos _ (by omega)
    refine iteT ⟨ns.map V.int, hS', by rw [hl]; omega, ns.map V.int, hS', by rw [hl]; omega, ?_⟩
    rw [hl]
    refine rIxL_i hS' (atI_getD (d := .int 0) hm0 (by rw [hl]; exact hm1)) ⟨ns.getD (k % ns.length).toNat 0, ?_, .inl ?_, ?_⟩
    · simp [List.getD, List.getElem?_map]
    · generalize (k * 7919 + k / ns.length * 104729 + ns.getD (k % ns.length).toNat 0 * 48271) = z
      omega
    · have e : cellF ns k = _ := rfl
      have e2 : cellF ns k = (((k * 7919 + k / ns.length * 104729 + ns.getD (k % ns.length).toNat 0 * 48271) % 1000003 * ((k * 7919 + k / ns.length * 104729 + ns.getD (k % ns.length).toNat 0 * 48271) % 1000003) / 11 + 13 * ((k * 7919 + k / ns.length * 104729 + ns.getD (k % ns.length).toNat 0 * 48271) % 1000003)) % 1000003) := by
        unfold cellF; rw [if_neg hn]
      rw [← e2]
      exact q _ (same_new hp _)
end
end K10
namespace K10
open PySem L2
local macro_rules | `(tactic| walk_at "rd") => `(tactic| simp only [cxOf_K, nox_K, compCx_K, tSeq, tNext, tAsg, gName, tRet, tRetN, tIfS, tDrop, tOp, tUn, tVar, tC, tCall, tCons, tNil, tTest, tB, tAnd, tOr, tNot, tAndV, tOrV, tNotV, tIf, tCB, tBM, tComp, tTrue, tPart, tNoPart, tSl, tChain, tIsN, tNotN, tLst, tTup, tFor_eq, sDPut, tDNewK, tNever, rI0, rI, rU, rEq, rNe, rMulS, rInC, iRng1, iStr, CDiv, CMul, CPow, scal, List.append_nil, List.getElem?_cons_zero, List.getElem?_cons_succ, List.set_cons_zero, List.set_cons_succ, List.map_cons, List.map_nil, List.length_cons, List.length_nil, sizeLine_eq, Nat.reduceAdd, Nat.reduceLeDiff, Option.join_some, Option.join_none, Option.some.injEq, V.int.injEq, V.str.injEq, V.bl.injEq, V.ref.injEq, V.ty.injEq, List.cons.injEq, and_true, true_and, and_self, exists_eq_left', exists_eq_left, exists_and_left, exists_and_right, decide_eq_true_eq, Bool.not_eq_eq_eq_not, Bool.not_true, Bool.not_false, decide_eq_false_iff_not, Int.reduceLT, Int.reduceLE, Int.reduceNeg, Int.reducePow, Int.reduceAdd, Int.reduceSub, Int.reduceMul, Int.reduceToNat, natAbs10, Nat.reduceLT, Nat.reducePow, or_true, true_or, if_true, if_false, Bool.false_eq_true, ite_true, ite_false, reduceCtorEq])
seal L2.PSs L2.PS L2.PE L2.PT L2.PW L2.PA L2.PI L2.PG L2.PGs L2.PPs L2.PTs
section
variable {P : Program} {w : World} {K : PySem.W.Frag} {mg : Str → Option Value} {base : Heap} {f : Addr} {fd : FuncData}
abbrev sName : Stmt := top 24
def spName : Sp := fun vs H Q _ => ∃ (m : Int), vs = [.int m] ∧ 0 ≤ m ∧ m < 2000000 ∧ ∀ (x : List Nat), okName x = true → ∀ H', Same H H' → Q (.str (tx x)) H'
theorem scName : FnScope ["_law_more", "_law_letters", "_law_size", "_law_at", "_law_word", "_law_by", "_law_signs_here"] ["_law_more"] (defScope sName) := ⟨rfl, rfl, rfl, by decide +kernel, rfl, by decide +kernel, by decide +kernel⟩
theorem ok_name (F : Fun K "_law_name_by" "_law_name_by" sName f fd) (B : Bl mg) : FnOk P w K mg base CX0 1 f fd ["_law_more"] spName := by
  refine F.ok scName (fun vs H Q E h => ?_) (fun cdv A outer s H vs Q E hr h => ?_)
  · obtain ⟨m, rfl, _⟩ := h
    rfl
  obtain ⟨m, rfl, h0, h1, q⟩ := h
  have nd := scName.nd
  refine ⟨_, (pss_cons (ps_set (i := 1) nd rfl (Or.inr rfl) pe_str)
    (pss_cons (ps_set (i := 2) nd rfl (Or.inl rfl) (pe_ix ix_list (pe_lst (pa_cons pe_int (pa_cons (pe_op op_add pe_int (pe_op op_mod (pe_op op_fdiv (pv 0) pe_int) pe_int)) (pa_cons (pe_op op_add pe_int (pe_op op_mod (pe_op op_fdiv (pv 0) pe_int) pe_int)) pa_nil)))) (pe_op op_mod (pv 0) pe_int) (fun _ _ => rfl)))
    (pss_cons (ps_if (pt_cmpR op_eq (pe_op op_mod (pe_op op_fdiv (pv 0) pe_int) pe_int) pe_int (nomark _)) (pss_cons (ps_set (i := 3) nd rfl (Or.inl rfl) (pe_op op_mod (pe_op op_fdiv (pv 0) pe_int) (pv 2)))
    (pss_cons (ps_set (i := 4) nd rfl (Or.inl rfl) (pe_op op_add_str (pe_op op_add_str (pe_op op_mul_str pe_str (pv 3)) (pe_ix ix_str (pv 1) (pe_op op_mod (pe_op op_fdiv (pv 0) pe_int) pe_int) (fun _ _ => rfl))) (pe_op op_mul_str pe_str (pe_op op_sub (pe_op op_sub (pv 2) (pv 3)) pe_int))))
    (pss_one (ps_ret (pv 4))))) pss_nil)
    (pss_cons (ps_set (i := 5) nd rfl (Or.inr rfl) (pe_op op_add pe_int (pe_op op_mod (pe_op op_fdiv (pv 0) pe_int) pe_int)))
    (pss_cons (ps_comp (i := 6) nd rfl (Or.inl rfl) (own := ["_law_j"]) (F := [("_law_letters", 1), ("_law_more", 0), ("_law_by", 5)]) ⟨rfl, by with_unfolding_all rfl, by with_unfolding_all rfl, by with_unfolding_all rfl, (.cons rfl rfl rfl (.cons rfl rfl rfl (.cons rfl rfl rfl .nil)))⟩ rfl (pi_range1 rfl B.range (pa_cons (pe_op op_sub (pv 2) pe_int) pa_nil)) (fun _ _ _ _ => pg_name (i := 0) (by show (compN ["_law_j"] [("_law_letters", 1), ("_law_more", 0), ("_law_by", 5)]).Nodup; decide +kernel) rfl (Or.inl rfl)) (fun _ _ _ _ => pts_nil) (fun _ _ _ _ => (pe_ix ix_str (pv 1) (pe_op op_mod (pe_op op_add (pe_op op_fdiv (pv 2) pe_int) (pe_op op_mul (pv 0) (pv 3))) pe_int) (fun _ _ => rfl))))
    (pss_one (ps_ret (pe_op op_add_str (pe_ix ix_str (pv 1) (pe_op op_mod (pe_op op_fdiv (pv 0) pe_int) pe_int) (fun _ _ => rfl)) (pe_bm PySem.F.plainAttrs_str PySem.F.slot_str_join PySem.F.type_str_join mt_join pe_str (pa_cons (pv 6) pa_nil)))))))))), ?_⟩
  rw [show start ["_law_more", "_law_letters", "_law_size", "_law_at", "_law_word", "_law_by", "_law_signs_here"] [.int m] = [some (.int m), none, none, none, none, none, none] from rfl]
  walk_at "rd"
  intro p hp
  obtain ⟨v, hv, hm⟩ := atI_of (xs := [V.int 1, V.int (1 + m / 3 % 4), V.int (1 + m / 3 % 12)]) (i := m % 3) (by omega) (by simp only [List.length_cons, List.length_nil]; omega)
  obtain ⟨n, rfl, n1, n12⟩ : ∃ n : Int, v = .int n ∧ 1 ≤ n ∧ n ≤ 12 := by
    simp only [List.mem_cons, List.not_mem_nil, or_false] at hm
    rcases hm with rfl | rfl | rfl <;> exact ⟨_, rfl, by omega, by omega⟩
  refine rIxL_i (SqL.of upd_same) hv ?_
  simp only [ts_a, rep_one, of_nil]
  split
  · have a0 := Int.emod_nonneg (m / 72) (show n ≠ 0 by omega)
    have a1 := Int.emod_lt_of_pos (m / 72) (show 0 < n by omega)
    obtain ⟨c, hc, hcl⟩ := at_l26 (i := m / 864 % 26) (by omega) (by omega)
    refine ⟨n, rfl, by omega, by decide, by omega, by omega, rIxS_i (by decide) (by rw [ts_l36]; exact hc) ⟨_, rfl, ?_, n, rfl, by decide, by omega, by omega, ?_, ?_⟩⟩
    · rw [tx_len, tx_len]; simp only [List.length_replicate, List.length_singleton]; omega
    · rw [app_tx, tx_len, tx_len]; simp only [List.length_append, List.length_replicate, List.length_singleton]; omega
    · have e : tx (List.replicate (m / 72 % n).toNat 97) ++ tx [c] ++ tx (List.replicate (n - m / 72 % n - 1).toNat 97) = tx (List.replicate (m / 72 % n).toNat 97 ++ [c] ++ List.replicate (n - m / 72 % n - 1).toNat 97) := by rw [app_tx, app_tx]
      rw [e]
      refine q _ (okName_of ?_ ?_ ?_) _ (same_new hp _)
      · simp only [List.length_append, List.length_replicate, List.length_singleton]; omega
      · cases e : (m / 72 % n).toNat with
        | zero => exact ⟨c, _, rfl, hcl⟩
        | succ k => exact ⟨97, _, rfl, a_letL⟩
      · intro d hd
        simp only [List.mem_append, List.mem_replicate, List.mem_singleton] at hd
        rcases hd with (⟨_, rfl⟩ | rfl) | ⟨_, rfl⟩
        · exact letL_sub a_letL
        · exact letL_sub hcl
        · exact letL_sub a_letL
  · refine ⟨n, rfl, by omega, by omega, comp_rng (fun i ys H' => Same (upd H p (.lst [V.int 1, V.int (1 + m / 3 % 4), V.int (1 + m / 3 % 12)])) H' ∧ ∃ cs : List Nat, ys = (cs.map fun c => tx [c]).map V.str ∧ cs.length = i ∧ ∀ c ∈ cs, c ∈ letL ++ figL) (by rw [sizeLine_eq]; omega) ⟨Same.refl _, [], rfl, rfl, fun _ h => nomatch h⟩ ?_ ?_⟩
    · rintro i ys H' hi _ ⟨hs, cs, rfl, hl, hcs⟩
      walk_at "rd"
      obtain ⟨c, hc, hcl⟩ := at_l36 (i := (m / 7 + (0 + (i : Int)) * (1 + m / 11 % 35)) % 36) (by omega) (by omega)
      refine ⟨.inl (by omega), rIxS_i (by decide) (by rw [ts_l36]; exact hc) ⟨hs, cs ++ [c], by simp, by simp [hl], ?_⟩⟩
      intro d hd
      rcases List.mem_append.mp hd with z | z
      · exact hcs d z
      · rw [List.mem_singleton.mp z]; exact hcl
    · rintro ys H' hl ⟨hs, cs, rfl, hlen, hcs⟩ p' hp'
      obtain ⟨c, hc, hcl⟩ := at_l26 (i := m / 72 % 26) (by omega) (by omega)
      have hfl : ((cs.map fun c => tx [c]).map ts).flatten = cs := by
        clear hlen hl hcs
        induction cs with
        | nil => rfl
        | cons d r ih => simp only [List.map_cons, List.flatten_cons, ih, ts_tx]; rfl
      refine rIxS_i (by decide) (by rw [ts_l36]; exact hc) ⟨rfl, p', cs.map fun c => tx [c], rfl, rfl, SqL.of upd_same, by rw [hfl]; omega, _, rfl, _, rfl, ?_, ?_⟩
      · rw [hfl, tx_len, tx_len, List.length_singleton]; omega
      · rw [hfl, app_tx]
        refine q _ (okName_of ?_ ⟨c, cs, rfl, hcl⟩ ?_) _ ((same_new hp _).trans (hs.trans (same_new hp' _)))
        · show (c :: cs).length ≤ 12
          rw [List.length_cons]; omega
        · intro d hd
          rcases List.mem_cons.mp hd with z | z
          · rw [z]; exact letL_sub hcl
          · exact hcs d z
end
end K10
namespace K10
open PySem L2
local macro_rules | `(tactic| walk_at "rd") => `(tactic| simp only [cxOf_K, nox_K, compCx_K, tSeq, tNext, tAsg, gName, tRet, tRetN, tIfS, tDrop, tOp, tUn, tVar, tC, tCall, tCons, tNil, tTest, tB, tAnd, tOr, tNot, tAndV, tOrV, tNotV, tIf, tCB, tBM, tComp, tTrue, tPart, tNoPart, tSl, tChain, tIsN, tNotN, tLst, tTup, tFor_eq, sDPut, tDNewK, tNever, rI0, rI, rU, rEq, rNe, rMulS, rInC, iRng1, iStr, CDiv, CMul, CPow, scal, List.append_nil, List.getElem?_cons_zero, List.getElem?_cons_succ, List.set_cons_zero, List.set_cons_succ, List.map_cons, List.map_nil, List.length_cons, List.length_nil, sizeLine_eq, Nat.reduceAdd, Nat.reduceLeDiff, Option.join_some, Option.join_none, Option.some.injEq, V.int.injEq, V.str.injEq, V.bl.injEq, V.ref.injEq, V.ty.injEq, List.cons.injEq, and_true, true_and, and_self, exists_eq_left', exists_eq_left, exists_and_left, exists_and_right, decide_eq_true_eq, Bool.not_eq_eq_eq_not, Bool.not_true, Bool.not_false, decide_eq_false_iff_not, Int.reduceLT, Int.reduceLE, Int.reduceNeg, Int.reducePow, Int.reduceAdd, Int.reduceSub, Int.reduceMul, Int.reduceToNat, natAbs10, Nat.reduceLT, Nat.reducePow, or_true, true_or, if_true, if_false, Bool.false_eq_true, ite_true, ite_false, reduceCtorEq])
seal L2.PSs L2.PS L2.PE L2.PT L2.PW L2.PA L2.PI L2.PG L2.PGs L2.PPs L2.PTs
abbrev sSigns : Stmt := top 25
abbrev sText : Stmt := top 26
section
variable {P : Program} {w : World} {K : PySem.W.Frag} {mg : Str → Option Value} {base : Heap} {f : Addr} {fd : FuncData}
def spSigns : Sp := fun vs H Q _ => vs = [] ∧ Q (.str (tx sgnL)) H
theorem scSigns : FnScope ["_law_some"] [] (defScope sSigns) := ⟨rfl, rfl, rfl, by decide +kernel, rfl, by decide +kernel, by decide +kernel⟩
theorem ok_signs (F : Fun K "_law_signs" "_law_signs" sSigns f fd) : FnOk P w K mg base CX0 1 f fd [] spSigns := by
  refine F.ok scSigns (fun vs H Q E h => ?_) (fun cdv A outer s H vs Q E hr h => ?_)
  · obtain ⟨rfl, _⟩ := h
    rfl
  obtain ⟨rfl, q⟩ := h
  have nd := scSigns.nd
  refine ⟨_, (pss_cons (ps_set (i := 0) nd rfl (Or.inl rfl) pe_str)
    (pss_one (ps_ret (pe_op op_add_str (pv 0) pe_str)))), ?_⟩
  rw [show start ["_law_some"] [] = [none] from rfl]
  walk_at "rd"
  refine ⟨by decide, ?_⟩
  rw [ts_sgn]; exact q
def spText : Sp := fun vs H Q _ => ∃ (m : Int), vs = [.int m] ∧ 0 ≤ m ∧ m < 2000000 ∧ ∀ (x : List Nat), okText x = true → ∀ H', Same H H' → Q (.str (tx x)) H'
theorem scText : FnScope ["_law_more", "_law_signs_here", "_law_size", "_law_half", "_law_by"] ["_law_more"] (defScope sText) := ⟨rfl, rfl, rfl, by decide +kernel, rfl, by decide +kernel, by decide +kernel⟩
theorem ok_text (F : Fun K "_law_text_by" "_law_text_by" sText f fd) (B : Bl mg) (G_law_signs : Dn P w K mg base 1 "_law_signs" [] spSigns) : FnOk P w K mg base CX0 2 f fd ["_law_more"] spText := by
  refine F.ok scText (fun vs H Q E h => ?_) (fun cdv A outer s H vs Q E hr h => ?_)
  · obtain ⟨m, rfl, _⟩ := h
    rfl
  obtain ⟨m, rfl, h0, h1, q⟩ := h
  have nd := scText.nd
  refine ⟨_, (pss_cons (ps_set (i := 1) nd rfl (Or.inr rfl) (pe_cd0 G_law_signs hr (by omega) rfl))
    (pss_cons (ps_set (i := 2) nd rfl (Or.inl rfl) (pe_ix ix_list (pe_lst (pa_cons (pe_op op_mod (pe_op op_fdiv (pv 0) pe_int) pe_int) (pa_cons (pe_op op_mod (pe_op op_fdiv (pv 0) pe_int) pe_int) (pa_cons (pe_op op_mod (pe_op op_fdiv (pv 0) pe_int) pe_int) pa_nil)))) (pe_op op_mod (pv 0) pe_int) (fun _ _ => rfl)))
    (pss_cons (ps_if (pt_cmpR op_eq (pe_op op_mod (pe_op op_fdiv (pv 0) pe_int) pe_int) pe_int (nomark _)) (pss_cons (ps_set (i := 3) nd rfl (Or.inl rfl) (pe_op op_fdiv (pv 2) pe_int))
    (pss_one (ps_ret (pe_op op_add_str (pe_op op_mul_str pe_str (pv 3)) (pe_op op_mul_str (pe_ix ix_str (pv 1) (pe_op op_mod (pe_op op_fdiv (pv 0) pe_int) pe_int) (fun _ _ => rfl)) (pe_op op_sub (pv 2) (pv 3))))))) pss_nil)
    (pss_cons (ps_set (i := 4) nd rfl (Or.inr rfl) (pe_op op_add pe_int (pe_op op_mod (pe_op op_fdiv (pv 0) pe_int) pe_int)))
    (pss_one (ps_ret (pe_bm PySem.F.plainAttrs_str PySem.F.slot_str_join PySem.F.type_str_join mt_join pe_str (pa_cons (pe_comp (own := ["_law_j"]) (F := [("_law_signs_here", 1), ("_law_more", 0), ("_law_by", 4)]) ⟨rfl, by with_unfolding_all rfl, by with_unfolding_all rfl, by with_unfolding_all rfl, (.cons rfl rfl rfl (.cons rfl rfl rfl (.cons rfl rfl rfl .nil)))⟩ rfl (pi_range1 rfl B.range (pa_cons (pv 2) pa_nil)) (fun _ _ _ _ => pg_name (i := 0) (by show (compN ["_law_j"] [("_law_signs_here", 1), ("_law_more", 0), ("_law_by", 4)]).Nodup; decide +kernel) rfl (Or.inl rfl)) (fun _ _ _ _ => pts_nil) (fun _ _ _ _ => (pe_ix ix_str (pv 1) (pe_op op_mod (pe_op op_add (pe_op op_fdiv (pv 2) pe_int) (pe_op op_mul (pv 0) (pv 3))) pe_int) (fun _ _ => rfl)))) pa_nil)))))))), ?_⟩
  rw [show start ["_law_more", "_law_signs_here", "_law_size", "_law_half", "_law_by"] [.int m] = [some (.int m), none, none, none, none] from rfl]
  walk_at "rd"
  refine ⟨rfl, fun p hp => ?_⟩
  obtain ⟨v, hv, hm⟩ := atI_of (xs := [V.int (m / 5 % 4), V.int (m / 5 % 9), V.int (m / 5 % 31)]) (i := m % 3) (by omega) (by simp only [List.length_cons, List.length_nil]; omega)
  obtain ⟨n, rfl, n0, n30⟩ : ∃ n : Int, v = .int n ∧ 0 ≤ n ∧ n ≤ 30 := by
    simp only [List.mem_cons, List.not_mem_nil, or_false] at hm
    rcases hm with rfl | rfl | rfl <;> exact ⟨_, rfl, by omega, by omega⟩
  refine rIxL_i (SqL.of upd_same) hv ?_
  simp only [ts_q, rep_one, of_nil]
  split
  · obtain ⟨c, hc, hcl⟩ := at_sgn (i := m / 465 % 94) (by omega) (by omega)
    refine ⟨n, rfl, by decide, by omega, by omega, rIxS_i (by decide) hc ⟨n, rfl, _, rfl, (show (1 : Nat) ≤ 1000 by decide), by omega, by omega, ?_, ?_⟩⟩
    · rw [ts_tx, rep_one, tx_len, tx_len]; simp only [List.length_replicate]; omega
    · rw [ts_tx, rep_one, app_tx]
      refine q _ (okText_of ?_ ?_) _ (same_new hp _)
      · simp only [List.length_append, List.length_replicate]; omega
      · intro d hd
        simp only [List.mem_append, List.mem_replicate] at hd
        rcases hd with ⟨_, rfl⟩ | ⟨_, rfl⟩
        · exact q_sgnL
        · exact hcl
  · refine ⟨rfl, n, rfl, by omega, by omega, comp_rng (fun i ys H' => Same (upd H p (.lst [V.int (m / 5 % 4), V.int (m / 5 % 9), V.int (m / 5 % 31)])) H' ∧ ∃ cs : List Nat, ys = (cs.map fun c => tx [c]).map V.str ∧ cs.length = i ∧ ∀ c ∈ cs, c ∈ sgnL) (by rw [sizeLine_eq]; omega) ⟨Same.refl _, [], rfl, rfl, fun _ h => nomatch h⟩ ?_ ?_⟩
    · rintro i ys H' hi _ ⟨hs, cs, rfl, hl, hcs⟩
      walk_at "rd"
      obtain ⟨c, hc, hcl⟩ := at_sgn (i := (m / 7 + (0 + (i : Int)) * (1 + m / 13 % 93)) % 94) (by omega) (by omega)
      refine ⟨.inl (by omega), rIxS_i (by decide) hc ⟨hs, cs ++ [c], by simp, by simp [hl], ?_⟩⟩
      intro d hd
      rcases List.mem_append.mp hd with z | z
      · exact hcs d z
      · rw [List.mem_singleton.mp z]; exact hcl
    · rintro ys H' hl ⟨hs, cs, rfl, hlen, hcs⟩ p' hp'
      refine ⟨p', cs.map fun c => tx [c], rfl, rfl, SqL.of upd_same, by rw [flat_one]; omega, ?_⟩
      rw [flat_one]
      exact q _ (okText_of (by omega) hcs) _ ((same_new hp _).trans (hs.trans (same_new hp' _)))
end
end K10
namespace K10
open PySem L2 PySem.W
def clsFn (s : Stmt) : Stmt := match s with
  | .ClassDef _ _ _ (f :: _) _ _ _ _ _ _ _ => f
  | _ => s
theorem fin1 {H : Hp} {x C tt d : Addr} {v0 : V} {fs : List (Str × V)} (hx : H x = some (exO x C none)) (htt : H tt = none) (hd : upd (upd H tt (.tup [v0])) x (exA x C none tt) d = none) :
    (∀ b o, b ≠ x → H b = some o → upd (upd (upd (upd H tt (.tup [v0])) x (exA x C none tt)) x (exA x C (some d) tt)) d (xE d fs) b = some o) ∧ Ex (upd (upd (upd (upd H tt (.tup [v0])) x (exA x C none tt)) x (exA x C (some d) tt)) d (xE d fs)) x C v0 fs := by
  have n1 : x ≠ tt := ne_of_none hx htt
  have n2 : d ≠ x := fun z => by rw [z, upd_same] at hd; cases hd
  have n3 : d ≠ tt := fun z => by rw [z, upd_ne (Ne.symm n1), upd_same] at hd; cases hd
  have hHd : H d = none := by rw [upd_ne n2, upd_ne n3] at hd; exact hd
  refine ⟨fun b o hb e => ?_, tt, ?_, .inr ⟨d, ?_, upd_same⟩⟩
  · rw [upd_ne (ne_of_none e hHd), upd_ne hb, upd_ne hb, upd_ne (ne_of_none e htt)]; exact e
  · rw [upd_ne (Ne.symm n3), upd_ne (Ne.symm n1), upd_ne (Ne.symm n1), upd_same]
  · rw [upd_ne (Ne.symm n2), upd_same]
section
variable {P : Program} {w : World} {K : PySem.W.Frag} {mg : Str → Option Value} {base : Heap} {C B fI dT : Addr} {nm : Str} {oc kV doc pm cdv ct : Value} {od an : Option Addr} {osl : Array (Option Value)}
abbrev sIBadText : Stmt := clsFn (top 5)
theorem scIBadText : FnScope ["self", "text", "at"] ["self", "text", "at"] (defScope sIBadText) := ⟨rfl, rfl, rfl, by decide +kernel, rfl, by decide +kernel, by decide +kernel⟩
theorem ok_iBadText (lk : K.lookup fI = some ⟨oc, od, .func (fnOf "__init__" "BadText.__init__" (defArgs sIBadText) (defBody sIBadText) (defScope sIBadText) (.ref dT) kV doc pm an cdv ct), osl⟩) (hcd : codeIn K cdv "BadText.__init__" = true) (c : XC K nm C B) (hf : findIn K (.ref C) "at" = some none) (b : XBase K B) (hmB : mg "CabinetError" = some (.ref B)) :
    FnOk P w K mg base CX0 1 fI (fnOf "__init__" "BadText.__init__" (defArgs sIBadText) (defBody sIBadText) (defScope sIBadText) (.ref dT) kV doc pm an cdv ct) ["self", "text", "at"] (spI1 C "at") := by
  refine fn_of (k := 0) lk hcd scIBadText (fun vs H Q E h => ?_) fun A outer s H vs Q E hr h => ?_
  · obtain ⟨x, v0, v, rfl, _⟩ := h
    rfl
  obtain ⟨x, v0, v, rfl, hx, q⟩ := h
  refine ⟨_, (pss_cons (ps_expr (pe_xinitA c b rfl hmB (pa_cons (pv 0) (pa_cons (pv 1) pa_nil)))) (pss_one (ps_xsetA c hf (pv 2) (pv 0)))), ?_⟩
  refine ⟨.ref x, rfl, v0, rfl, x, v0, rfl, hx, fun tt htt => ⟨v, rfl, .ref x, rfl, x, tt, rfl, upd_same, fun d hd => ?_⟩⟩
  obtain ⟨f1, f2⟩ := fin1 (fs := [("at", v)]) hx htt hd
  exact q _ f1 f2
theorem biBadText {o : Obj} {i0 : Value} {n : Nat} (hd : K.lookup dT = some o) (hs : o.data = .seq #[i0] n) : Binds K (fnOf "__init__" "BadText.__init__" (defArgs sIBadText) (defBody sIBadText) (defScope sIBadText) (.ref dT) kV doc pm an cdv ct) ["self", "text", "at"] [] ∧ Binds K (fnOf "__init__" "BadText.__init__" (defArgs sIBadText) (defBody sIBadText) (defScope sIBadText) (.ref dT) kV doc pm an cdv ct) ["self", "text", "at"] [i0] := by
  refine ⟨fun s us hK hl => ?_, fun s us hK hl => ?_⟩
  · rw [List.append_nil] at hl ⊢
    match us, (show us.length = 3 from hl) with
    | [a, b, c], _ => exact binds_K hK rfl hd hs rfl rfl
  · match us, (show us.length = 2 by simpa using hl) with
    | [a, b], _ => exact binds_K hK rfl hd hs rfl rfl
abbrev sINoPlace : Stmt := clsFn (top 7)
theorem scINoPlace : FnScope ["self", "text", "at"] ["self", "text", "at"] (defScope sINoPlace) := ⟨rfl, rfl, rfl, by decide +kernel, rfl, by decide +kernel, by decide +kernel⟩
theorem ok_iNoPlace (lk : K.lookup fI = some ⟨oc, od, .func (fnOf "__init__" "NoPlace.__init__" (defArgs sINoPlace) (defBody sINoPlace) (defScope sINoPlace) (.ref dT) kV doc pm an cdv ct), osl⟩) (hcd : codeIn K cdv "NoPlace.__init__" = true) (c : XC K nm C B) (hf : findIn K (.ref C) "at" = some none) (b : XBase K B) (hmB : mg "CabinetError" = some (.ref B)) :
    FnOk P w K mg base CX0 1 fI (fnOf "__init__" "NoPlace.__init__" (defArgs sINoPlace) (defBody sINoPlace) (defScope sINoPlace) (.ref dT) kV doc pm an cdv ct) ["self", "text", "at"] (spI1 C "at") := by
  refine fn_of (k := 0) lk hcd scINoPlace (fun vs H Q E h => ?_) fun A outer s H vs Q E hr h => ?_
  · obtain ⟨x, v0, v, rfl, _⟩ := h
    rfl
  obtain ⟨x, v0, v, rfl, hx, q⟩ := h
  refine ⟨_, (pss_cons (ps_expr (pe_xinitA c b rfl hmB (pa_cons (pv 0) (pa_cons (pv 1) pa_nil)))) (pss_one (ps_xsetA c hf (pv 2) (pv 0)))), ?_⟩
  refine ⟨.ref x, rfl, v0, rfl, x, v0, rfl, hx, fun tt htt => ⟨v, rfl, .ref x, rfl, x, tt, rfl, upd_same, fun d hd => ?_⟩⟩
  obtain ⟨f1, f2⟩ := fin1 (fs := [("at", v)]) hx htt hd
  exact q _ f1 f2
theorem biNoPlace {o : Obj} {i0 : Value} {n : Nat} (hd : K.lookup dT = some o) (hs : o.data = .seq #[i0] n) : Binds K (fnOf "__init__" "NoPlace.__init__" (defArgs sINoPlace) (defBody sINoPlace) (defScope sINoPlace) (.ref dT) kV doc pm an cdv ct) ["self", "text", "at"] [] ∧ Binds K (fnOf "__init__" "NoPlace.__init__" (defArgs sINoPlace) (defBody sINoPlace) (defScope sINoPlace) (.ref dT) kV doc pm an cdv ct) ["self", "text", "at"] [i0] := by
  refine ⟨fun s us hK hl => ?_, fun s us hK hl => ?_⟩
  · rw [List.append_nil] at hl ⊢
    match us, (show us.length = 3 from hl) with
    | [a, b, c], _ => exact binds_K hK rfl hd hs rfl rfl
  · match us, (show us.length = 2 by simpa using hl) with
    | [a, b], _ => exact binds_K hK rfl hd hs rfl rfl
abbrev sINoDeed : Stmt := clsFn (top 8)
theorem scINoDeed : FnScope ["self", "text", "number"] ["self", "text", "number"] (defScope sINoDeed) := ⟨rfl, rfl, rfl, by decide +kernel, rfl, by decide +kernel, by decide +kernel⟩
theorem ok_iNoDeed (lk : K.lookup fI = some ⟨oc, od, .func (fnOf "__init__" "NoDeed.__init__" (defArgs sINoDeed) (defBody sINoDeed) (defScope sINoDeed) (.ref dT) kV doc pm an cdv ct), osl⟩) (hcd : codeIn K cdv "NoDeed.__init__" = true) (c : XC K nm C B) (hf : findIn K (.ref C) "number" = some none) (b : XBase K B) (hmB : mg "CabinetError" = some (.ref B)) :
    FnOk P w K mg base CX0 1 fI (fnOf "__init__" "NoDeed.__init__" (defArgs sINoDeed) (defBody sINoDeed) (defScope sINoDeed) (.ref dT) kV doc pm an cdv ct) ["self", "text", "number"] (spI1 C "number") := by
  refine fn_of (k := 0) lk hcd scINoDeed (fun vs H Q E h => ?_) fun A outer s H vs Q E hr h => ?_
  · obtain ⟨x, v0, v, rfl, _⟩ := h
    rfl
  obtain ⟨x, v0, v, rfl, hx, q⟩ := h
  refine ⟨_, (pss_cons (ps_expr (pe_xinitA c b rfl hmB (pa_cons (pv 0) (pa_cons (pv 1) pa_nil)))) (pss_one (ps_xsetA c hf (pv 2) (pv 0)))), ?_⟩
  refine ⟨.ref x, rfl, v0, rfl, x, v0, rfl, hx, fun tt htt => ⟨v, rfl, .ref x, rfl, x, tt, rfl, upd_same, fun d hd => ?_⟩⟩
  obtain ⟨f1, f2⟩ := fin1 (fs := [("number", v)]) hx htt hd
  exact q _ f1 f2
theorem biNoDeed {o : Obj} {i0 : Value} {n : Nat} (hd : K.lookup dT = some o) (hs : o.data = .seq #[i0] n) : Binds K (fnOf "__init__" "NoDeed.__init__" (defArgs sINoDeed) (defBody sINoDeed) (defScope sINoDeed) (.ref dT) kV doc pm an cdv ct) ["self", "text", "number"] [] ∧ Binds K (fnOf "__init__" "NoDeed.__init__" (defArgs sINoDeed) (defBody sINoDeed) (defScope sINoDeed) (.ref dT) kV doc pm an cdv ct) ["self", "text", "number"] [i0] := by
  refine ⟨fun s us hK hl => ?_, fun s us hK hl => ?_⟩
  · rw [List.append_nil] at hl ⊢
    match us, (show us.length = 3 from hl) with
    | [a, b, c], _ => exact binds_K hK rfl hd hs rfl rfl
  · match us, (show us.length = 2 by simpa using hl) with
    | [a, b], _ => exact binds_K hK rfl hd hs rfl rfl
abbrev sICantMove : Stmt := clsFn (top 10)
theorem scICantMove : FnScope ["self", "text", "number"] ["self", "text", "number"] (defScope sICantMove) := ⟨rfl, rfl, rfl, by decide +kernel, rfl, by decide +kernel, by decide +kernel⟩
theorem ok_iCantMove (lk : K.lookup fI = some ⟨oc, od, .func (fnOf "__init__" "CantMove.__init__" (defArgs sICantMove) (defBody sICantMove) (defScope sICantMove) (.ref dT) kV doc pm an cdv ct), osl⟩) (hcd : codeIn K cdv "CantMove.__init__" = true) (c : XC K nm C B) (hf : findIn K (.ref C) "number" = some none) (b : XBase K B) (hmB : mg "CabinetError" = some (.ref B)) :
    FnOk P w K mg base CX0 1 fI (fnOf "__init__" "CantMove.__init__" (defArgs sICantMove) (defBody sICantMove) (defScope sICantMove) (.ref dT) kV doc pm an cdv ct) ["self", "text", "number"] (spI1 C "number") := by
  refine fn_of (k := 0) lk hcd scICantMove (fun vs H Q E h => ?_) fun A outer s H vs Q E hr h => ?_
  · obtain ⟨x, v0, v, rfl, _⟩ := h
    rfl
  obtain ⟨x, v0, v, rfl, hx, q⟩ := h
  refine ⟨_, (pss_cons (ps_expr (pe_xinitA c b rfl hmB (pa_cons (pv 0) (pa_cons (pv 1) pa_nil)))) (pss_one (ps_xsetA c hf (pv 2) (pv 0)))), ?_⟩
  refine ⟨.ref x, rfl, v0, rfl, x, v0, rfl, hx, fun tt htt => ⟨v, rfl, .ref x, rfl, x, tt, rfl, upd_same, fun d hd => ?_⟩⟩
  obtain ⟨f1, f2⟩ := fin1 (fs := [("number", v)]) hx htt hd
  exact q _ f1 f2
theorem biCantMove {o : Obj} {i0 : Value} {n : Nat} (hd : K.lookup dT = some o) (hs : o.data = .seq #[i0] n) : Binds K (fnOf "__init__" "CantMove.__init__" (defArgs sICantMove) (defBody sICantMove) (defScope sICantMove) (.ref dT) kV doc pm an cdv ct) ["self", "text", "number"] [] ∧ Binds K (fnOf "__init__" "CantMove.__init__" (defArgs sICantMove) (defBody sICantMove) (defScope sICantMove) (.ref dT) kV doc pm an cdv ct) ["self", "text", "number"] [i0] := by
  refine ⟨fun s us hK hl => ?_, fun s us hK hl => ?_⟩
  · rw [List.append_nil] at hl ⊢
    match us, (show us.length = 3 from hl) with
    | [a, b, c], _ => exact binds_K hK rfl hd hs rfl rfl
  · match us, (show us.length = 2 by simpa using hl) with
    | [a, b], _ => exact binds_K hK rfl hd hs rfl rfl
abbrev sINoBack : Stmt := clsFn (top 11)
theorem scINoBack : FnScope ["self", "text", "number"] ["self", "text", "number"] (defScope sINoBack) := ⟨rfl, rfl, rfl, by decide +kernel, rfl, by decide +kernel, by decide +kernel⟩
theorem ok_iNoBack (lk : K.lookup fI = some ⟨oc, od, .func (fnOf "__init__" "NoBack.__init__" (defArgs sINoBack) (defBody sINoBack) (defScope sINoBack) (.ref dT) kV doc pm an cdv ct), osl⟩) (hcd : codeIn K cdv "NoBack.__init__" = true) (c : XC K nm C B) (hf : findIn K (.ref C) "number" = some none) (b : XBase K B) (hmB : mg "CabinetError" = some (.ref B)) :
    FnOk P w K mg base CX0 1 fI (fnOf "__init__" "NoBack.__init__" (defArgs sINoBack) (defBody sINoBack) (defScope sINoBack) (.ref dT) kV doc pm an cdv ct) ["self", "text", "number"] (spI1 C "number") := by
  refine fn_of (k := 0) lk hcd scINoBack (fun vs H Q E h => ?_) fun A outer s H vs Q E hr h => ?_
  · obtain ⟨x, v0, v, rfl, _⟩ := h
    rfl
  obtain ⟨x, v0, v, rfl, hx, q⟩ := h
  refine ⟨_, (pss_cons (ps_expr (pe_xinitA c b rfl hmB (pa_cons (pv 0) (pa_cons (pv 1) pa_nil)))) (pss_one (ps_xsetA c hf (pv 2) (pv 0)))), ?_⟩
  refine ⟨.ref x, rfl, v0, rfl, x, v0, rfl, hx, fun tt htt => ⟨v, rfl, .ref x, rfl, x, tt, rfl, upd_same, fun d hd => ?_⟩⟩
  obtain ⟨f1, f2⟩ := fin1 (fs := [("number", v)]) hx htt hd
  exact q _ f1 f2
theorem biNoBack {o : Obj} {i0 : Value} {n : Nat} (hd : K.lookup dT = some o) (hs : o.data = .seq #[i0] n) : Binds K (fnOf "__init__" "NoBack.__init__" (defArgs sINoBack) (defBody sINoBack) (defScope sINoBack) (.ref dT) kV doc pm an cdv ct) ["self", "text", "number"] [] ∧ Binds K (fnOf "__init__" "NoBack.__init__" (defArgs sINoBack) (defBody sINoBack) (defScope sINoBack) (.ref dT) kV doc pm an cdv ct) ["self", "text", "number"] [i0] := by
  refine ⟨fun s us hK hl => ?_, fun s us hK hl => ?_⟩
  · rw [List.append_nil] at hl ⊢
    match us, (show us.length = 3 from hl) with
    | [a, b, c], _ => exact binds_K hK rfl hd hs rfl rfl
  · match us, (show us.length = 2 by simpa using hl) with
    | [a, b], _ => exact binds_K hK rfl hd hs rfl rfl
abbrev sIStuck : Stmt := clsFn (top 14)
theorem scIStuck : FnScope ["self", "text", "version", "key"] ["self", "text", "version", "key"] (defScope sIStuck) := ⟨rfl, rfl, rfl, by decide +kernel, rfl, by decide +kernel, by decide +kernel⟩
theorem ok_iStuck (lk : K.lookup fI = some ⟨oc, od, .func (fnOf "__init__" "Stuck.__init__" (defArgs sIStuck) (defBody sIStuck) (defScope sIStuck) (.ref dT) kV doc pm an cdv ct), osl⟩) (hcd : codeIn K cdv "Stuck.__init__" = true) (c : XC K nm C B) (hf : findIn K (.ref C) "version" = some none) (hf2 : findIn K (.ref C) "key" = some none) (b : XBase K B) (hmB : mg "CabinetError" = some (.ref B)) :
    FnOk P w K mg base CX0 1 fI (fnOf "__init__" "Stuck.__init__" (defArgs sIStuck) (defBody sIStuck) (defScope sIStuck) (.ref dT) kV doc pm an cdv ct) ["self", "text", "version", "key"] (spI2 C "version" "key") := by
  refine fn_of (k := 0) lk hcd scIStuck (fun vs H Q E h => ?_) fun A outer s H vs Q E hr h => ?_
  · obtain ⟨x, v0, v, u, rfl, _⟩ := h
    rfl
  obtain ⟨x, v0, v, u, rfl, hx, q⟩ := h
  refine ⟨_, (pss_cons (ps_expr (pe_xinitA c b rfl hmB (pa_cons (pv 0) (pa_cons (pv 1) pa_nil)))) (pss_cons (ps_xsetA c hf (pv 2) (pv 0)) (pss_one (ps_xsetB c hf2 (pv 3) (pv 0))))), ?_⟩
  refine ⟨.ref x, rfl, v0, rfl, x, v0, rfl, hx, fun tt htt => ⟨v, rfl, .ref x, rfl, x, tt, rfl, upd_same, fun d hd => ?_⟩⟩
  have n2 : d ≠ x := fun z => by rw [z, upd_same] at hd; cases hd
  refine ⟨u, rfl, .ref x, rfl, x, tt, d, [("version", v)], rfl, by rw [upd_ne (Ne.symm n2), upd_same], upd_same, (show 1 ≤ 100 by decide), ?_⟩
  obtain ⟨f1, f2⟩ := fin1 (fs := [("key", u), ("version", v)]) hx htt hd
  rw [upd_upd]
  exact q _ f1 f2
theorem biStuck {o : Obj} {i0 : Value} {n : Nat} (hd : K.lookup dT = some o) (hs : o.data = .seq #[i0, .none] n) : Binds K (fnOf "__init__" "Stuck.__init__" (defArgs sIStuck) (defBody sIStuck) (defScope sIStuck) (.ref dT) kV doc pm an cdv ct) ["self", "text", "version", "key"] [] ∧ Binds K (fnOf "__init__" "Stuck.__init__" (defArgs sIStuck) (defBody sIStuck) (defScope sIStuck) (.ref dT) kV doc pm an cdv ct) ["self", "text", "version", "key"] [.none] ∧ Binds K (fnOf "__init__" "Stuck.__init__" (defArgs sIStuck) (defBody sIStuck) (defScope sIStuck) (.ref dT) kV doc pm an cdv ct) ["self", "text", "version", "key"] [i0, .none] := by
  refine ⟨fun s us hK hl => ?_, fun s us hK hl => ?_, fun s us hK hl => ?_⟩
  · rw [List.append_nil] at hl ⊢
    match us, (show us.length = 4 from hl) with
    | [a, b, c, d], _ => exact binds_K hK rfl hd hs rfl rfl
  · match us, (show us.length = 3 by simpa using hl) with
    | [a, b, c], _ => exact binds_K hK rfl hd hs rfl rfl
  · match us, (show us.length = 2 by simpa using hl) with
    | [a, b], _ => exact binds_K hK rfl hd hs rfl rfl
end
end K10
namespace K10
open PySem L2 PySem.W
local macro_rules | `(tactic| walk_at "rd") => `(tactic| simp only [cxOf_K, nox_K, compCx_K, tSeq, tNext, tAsg, gName, tRet, tRetN, tIfS, tDrop, tOp, tUn, tVar, tC, tCall, tCons, tNil, tTest, tB, tAnd, tOr, tNot, tAndV, tOrV, tNotV, tIf, tCB, tBM, tComp, tTrue, tPart, tNoPart, tSl, tChain, tIsN, tNotN, tLst, tTup, tFor_eq, sDPut, tDNewK, tNever, rI0, rI, rU, rEq, rNe, rMulS, rInC, iRng1, iStr, CDiv, CMul, CPow, scal, List.append_nil, List.getElem?_cons_zero, List.getElem?_cons_succ, List.set_cons_zero, List.set_cons_succ, List.map_cons, List.map_nil, List.length_cons, List.length_nil, sizeLine_eq, Nat.reduceAdd, Nat.reduceLeDiff, Option.join_some, Option.join_none, Option.some.injEq, V.int.injEq, V.str.injEq, V.bl.injEq, V.ref.injEq, V.ty.injEq, List.cons.injEq, and_true, true_and, and_self, exists_eq_left', exists_eq_left, exists_and_left, exists_and_right, decide_eq_true_eq, Bool.not_eq_eq_eq_not, Bool.not_true, Bool.not_false, decide_eq_false_iff_not, Int.reduceLT, Int.reduceLE, Int.reduceNeg, Int.reducePow, Int.reduceAdd, Int.reduceSub, Int.reduceMul, Int.reduceToNat, natAbs10, Nat.reduceLT, Nat.reducePow, or_true, true_or, if_true, if_false, Bool.false_eq_true, ite_true, ite_false, reduceCtorEq])
local macro_rules | `(tactic| walk_at "rd3") => `(tactic| simp only [gTup, gCons, gNil, iZip, tIsT, tDisp, tPairs, tBM0, iList, iDict, tThaw, tMaxD, rMaxD, tDGet, rVals, tComp, cxOf_K, nox_K, compCx_K, tSeq, tNext, tAsg, gName, tRet, tRetN, tIfS, tDrop, tOp, tUn, tVar, tC, tCall, tCons, tNil, tTest, tB, tAnd, tOr, tNot, tAndV, tOrV, tNotV, tIf, tCB, tBM, tComp, tTrue, tPart, tNoPart, tSl, tChain, tIsN, tNotN, tLst, tTup, tFor_eq, sDPut, tDNewK, tNever, rI0, rI, rU, rEq, rNe, rMulS, rInC, iRng1, iStr, CDiv, CMul, CPow, scal, List.append_nil, List.getElem?_cons_zero, List.getElem?_cons_succ, List.set_cons_zero, List.set_cons_succ, List.map_cons, List.map_nil, List.length_cons, List.length_nil, sizeLine_eq, Nat.reduceAdd, Nat.reduceLeDiff, Option.join_some, Option.join_none, Option.some.injEq, V.int.injEq, V.str.injEq, V.bl.injEq, V.ref.injEq, V.ty.injEq, List.cons.injEq, and_true, true_and, and_self, exists_eq_left', exists_eq_left, exists_and_left, exists_and_right, decide_eq_true_eq, Bool.not_eq_eq_eq_not, Bool.not_true, Bool.not_false, decide_eq_false_iff_not, Int.reduceLT, Int.reduceLE, Int.reduceNeg, Int.reducePow, Int.reduceAdd, Int.reduceSub, Int.reduceMul, Int.reduceToNat, natAbs10, Nat.reduceLT, Nat.reducePow, or_true, true_or, if_true, if_false, Bool.false_eq_true, ite_true, ite_false, reduceCtorEq])
seal L2.PSs L2.PS L2.PE L2.PT L2.PW L2.PA L2.PI L2.PG L2.PGs L2.PPs L2.PTs
abbrev sCp : Stmt := top 1
theorem iP {c A B : Prop} [Decidable c] (h : c) (a : A) : if c then A else B := by rw [if_pos h]; exact a
theorem iN {c A B : Prop} [Decidable c] (h : ¬c) (b : B) : if c then A else B := by rw [if_neg h]; exact b
theorem comp_tup {K : PySem.W.Frag} {x : Str} {F : List (Str × Nat)} {a : Addr} {xs : List V} {tt : TT} {te : TE} {σ : St} {Q : VK} {H1 : Hp} (Pv : Nat → List V → Hp → Prop) (hn : xs.length ≤ sizeLine) (h0 : Pv 0 [] H1) (hz : ∀ i ys H, i ≤ xs.length → Pv i ys H → SqT K H a xs)
    (hs : ∀ i v ys H, xs[i]? = some v → ys.length ≤ i → Pv i ys H → tt (some v :: F.map (fun p => (σ[p.2]?).join)) H fun b H3 => if b = true then te (some v :: F.map (fun p => (σ[p.2]?).join)) H3 fun z H4 => Pv (i + 1) (ys ++ [z]) H4 else Pv (i + 1) ys H3)
    (hd : ∀ ys H, ys.length ≤ xs.length → Pv xs.length ys H → ∀ p, H p = none → Q (.ref p) (upd H p (.lst ys))) : CompBody [x] F (gName 0) tt te σ Q (Itt K a) H1 :=
  comp_by Pv hn h0 (fun i ys H h p => ⟨xs, xs[i], hz i ys H (Nat.le_of_lt h) p, by simp [h]⟩) (fun ys H p => ⟨xs, hz _ ys H (Nat.le_refl _) p, Nat.le_refl _⟩) (fun i ys H y H2 h1 h2 h3 h4 => by
    obtain ⟨rfl, hy⟩ := h4
    exact hs i y ys _ (hy xs (hz i ys _ (Nat.le_of_lt h1) h3)) h2 h3) hd
theorem leaf_ty {H : Hp} {v : V} (h : (∃ i, v = .int i) ∨ ∃ x, v = .str x) : ∃ t, tyS H v = some t ∧ isSub t "list" = false ∧ isSub t "dict" = false ∧ isSub t "tuple" = false := by
  rcases h with ⟨i, rfl⟩ | ⟨x, rfl⟩
  · exact ⟨"int", rfl, by decide, by decide, by decide⟩
  · exact ⟨"str", rfl, by decide, by decide, by decide⟩
section
variable {P : Program} {w : World} {K : PySem.W.Frag} {mg : Str → Option Value} {base : Heap} {f : Addr} {fd : FuncData}
def Leaf (v : V) : Prop := (∃ i, v = .int i) ∨ ∃ x, v = .str x
def spC0 : Sp := fun vs H Q _ => ∃ v, vs = [v] ∧ Leaf v ∧ Q v H
def spC1 : Sp := fun vs H Q _ => ∃ v, vs = [v] ∧ ((Leaf v ∧ Q v H) ∨ ∃ a z, v = .ref a ∧ H a = some (.lst [z]) ∧ Leaf z ∧ ∀ p H', Same H H' → H p = none → H' p = some (.lst [z]) → Q (.ref p) H')
def spC2 : Sp := fun vs H Q _ => ∃ t a z x, vs = [.ref t] ∧ H t = some (.tup [.ref a, .str x]) ∧ H a = some (.lst [z]) ∧ Leaf z ∧ ∀ p l H', Same H H' → H p = none → H l = none → H' l = some (.lst [z]) → H' p = some (.tup [.ref l, .str x]) → Q (.ref p) H'
theorem scCp : FnScope ["thing"] ["thing"] (defScope sCp) := ⟨rfl, rfl, rfl, by decide +kernel, rfl, by decide +kernel, by decide +kernel⟩
theorem ok_c0 (F : Fun K "copied" "copied" sCp f fd) (B : Bl mg) : FnOk P w K mg base CX0 1 f fd ["thing"] spC0 := by
  refine F.ok scCp (fun vs H Q E h => ?_) (fun cdv A outer s H vs Q E hr h => ?_)
  · obtain ⟨v, rfl, _⟩ := h
    rfl
  obtain ⟨v, rfl, hv, q⟩ := h
  have nd := scCp.nd
  have hu := hu_of hr
  refine ⟨_, (pss_cons (ps_if (pt_val (pe_callB (call_isi (T := "list") (by decide)) rfl B.isinstance bt_isinstance (pa_cons (pv 0) (pa_cons (pe_bltn (v := .ty "list") rfl B.list bt_list rfl) pa_nil)))) pss_never pss_nil)
    (pss_cons (ps_if (pt_val (pe_callB (call_isi (T := "dict") (by decide)) rfl B.isinstance bt_isinstance (pa_cons (pv 0) (pa_cons (pe_bltn (v := .ty "dict") rfl B.dict bt_dict rfl) pa_nil)))) pss_never pss_nil)
    (pss_cons (ps_if (pt_val (pe_callB (call_isi (T := "tuple") (by decide)) rfl B.isinstance bt_isinstance (pa_cons (pv 0) (pa_cons (pe_bltn (v := .ty "tuple") rfl B.tuple bt_tuple rfl) pa_nil)))) pss_never pss_nil)
    (pss_one (ps_ret (pv 0)))))), ?_⟩
  rw [show start ["thing"] [v] = [some v] from rfl]
  walk_at "rd3"
  obtain ⟨t, h1, h2, h3, h4⟩ := leaf_ty (H := H) hv
  exact ⟨t, h1, iN (by rw [h2]; decide) ⟨t, h1, iN (by rw [h3]; decide) ⟨t, h1, iN (by rw [h4]; decide) q⟩⟩⟩
theorem ok_c1 (F : Fun K "copied" "copied" sCp f fd) (B : Bl mg) (Gcopied : Dn P w K mg base 1 "copied" ["thing"] spC0) : FnOk P w K mg base CX0 2 f fd ["thing"] spC1 := by
  refine F.ok scCp (fun vs H Q E h => ?_) (fun cdv A outer s H vs Q E hr h => ?_)
  · obtain ⟨v, rfl, _⟩ := h
    rfl
  obtain ⟨v, rfl, h⟩ := h
  have nd := scCp.nd
  have hu := hu_of hr
  refine ⟨_, (pss_cons (ps_if (pt_val (pe_callB (call_isi (T := "list") (by decide)) rfl B.isinstance bt_isinstance (pa_cons (pv 0) (pa_cons (pe_bltn (v := .ty "list") rfl B.list bt_list rfl) pa_nil)))) (pss_one (ps_ret (pe_comp (own := ["part"]) (F := []) ⟨rfl, by with_unfolding_all rfl, by with_unfolding_all rfl, by with_unfolding_all rfl, .nil⟩ rfl (pi_list (pv 0)) (fun _ _ _ _ => pg_name (i := 0) (by show (compN ["part"] []).Nodup; decide +kernel) rfl (Or.inl rfl)) (fun _ _ _ _ => pts_nil) (fun _ _ _ _ => (pe_cd Gcopied hr (by omega) rfl (pa_cons (pv 0) pa_nil)))))) pss_nil)
    (pss_cons (ps_if (pt_val (pe_callB (call_isi (T := "dict") (by decide)) rfl B.isinstance bt_isinstance (pa_cons (pv 0) (pa_cons (pe_bltn (v := .ty "dict") rfl B.dict bt_dict rfl) pa_nil)))) pss_never pss_nil)
    (pss_cons (ps_if (pt_val (pe_callB (call_isi (T := "tuple") (by decide)) rfl B.isinstance bt_isinstance (pa_cons (pv 0) (pa_cons (pe_bltn (v := .ty "tuple") rfl B.tuple bt_tuple rfl) pa_nil)))) (pss_one (ps_ret (pe_callTy call_tuple_of rfl B.tuple bt_tuple (pa_cons (pe_comp (own := ["part"]) (F := []) ⟨rfl, by with_unfolding_all rfl, by with_unfolding_all rfl, by with_unfolding_all rfl, .nil⟩ rfl (pi_tup (pv 0)) (fun _ _ _ _ => pg_name (i := 0) (by show (compN ["part"] []).Nodup; decide +kernel) rfl (Or.inl rfl)) (fun _ _ _ _ => pts_nil) (fun _ _ _ _ => (pe_cd Gcopied hr (by omega) rfl (pa_cons (pv 0) pa_nil)))) pa_nil)))) pss_nil)
    (pss_one (ps_ret (pv 0)))))), ?_⟩
  rw [show start ["thing"] [v] = [some v] from rfl]
  walk_at "rd3"
  rcases h with ⟨hv, q⟩ | ⟨a, z, rfl, ha, hz, q⟩
  · obtain ⟨t, h1, h2, h3, h4⟩ := leaf_ty (H := H) hv
    exact ⟨t, h1, iN (by rw [h2]; decide) ⟨t, h1, iN (by rw [h3]; decide) ⟨t, h1, iN (by rw [h4]; decide) q⟩⟩⟩
  · refine ⟨"list", tyS_lst ha, iP (by decide) ⟨a, rfl, ⟨_, SqL.of ha⟩, comp_list (K := K) (xs := [z]) (fun i ys H' => Same H H' ∧ ys = [z].take i) (by rw [sizeLine_eq]; simp) ⟨Same.refl _, rfl⟩ (fun i ys H' _ h => SqL.of (h.1 _ _ ha)) ?_ ?_⟩⟩
    · rintro i v ys H' hv _ ⟨g, rfl⟩
      walk_at "rd3"
      match i, hv with
      | 0, hv =>
        cases hv
        exact ⟨z, rfl, hz, g, rfl⟩
    · rintro ys H' _ ⟨g, rfl⟩ p hp
      exact q p _ (g.trans (same_new hp _)) (by cases e : H p with | none => rfl | some o => rw [g _ _ e] at hp; cases hp) upd_same
theorem ok_c2 (F : Fun K "copied" "copied" sCp f fd) (B : Bl mg) (Gcopied : Dn P w K mg base 2 "copied" ["thing"] spC1) : FnOk P w K mg base CX0 3 f fd ["thing"] spC2 := by
  refine F.ok scCp (fun vs H Q E h => ?_) (fun cdv A outer s H vs Q E hr h => ?_)
  · obtain ⟨t, a, z, x, rfl, _⟩ := h
    rfl
  obtain ⟨t, a, z, x, rfl, ht, ha, hz, q⟩ := h
  have nd := scCp.nd
  have hu := hu_of hr
  refine ⟨_, (pss_cons (ps_if (pt_val (pe_callB (call_isi (T := "list") (by decide)) rfl B.isinstance bt_isinstance (pa_cons (pv 0) (pa_cons (pe_bltn (v := .ty "list") rfl B.list bt_list rfl) pa_nil)))) (pss_one (ps_ret (pe_comp (own := ["part"]) (F := []) ⟨rfl, by with_unfolding_all rfl, by with_unfolding_all rfl, by with_unfolding_all rfl, .nil⟩ rfl (pi_list (pv 0)) (fun _ _ _ _ => pg_name (i := 0) (by show (compN ["part"] []).Nodup; decide +kernel) rfl (Or.inl rfl)) (fun _ _ _ _ => pts_nil) (fun _ _ _ _ => (pe_cd Gcopied hr (by omega) rfl (pa_cons (pv 0) pa_nil)))))) pss_nil)
    (pss_cons (ps_if (pt_val (pe_callB (call_isi (T := "dict") (by decide)) rfl B.isinstance bt_isinstance (pa_cons (pv 0) (pa_cons (pe_bltn (v := .ty "dict") rfl B.dict bt_dict rfl) pa_nil)))) pss_never pss_nil)
    (pss_cons (ps_if (pt_val (pe_callB (call_isi (T := "tuple") (by decide)) rfl B.isinstance bt_isinstance (pa_cons (pv 0) (pa_cons (pe_bltn (v := .ty "tuple") rfl B.tuple bt_tuple rfl) pa_nil)))) (pss_one (ps_ret (pe_callTy call_tuple_of rfl B.tuple bt_tuple (pa_cons (pe_comp (own := ["part"]) (F := []) ⟨rfl, by with_unfolding_all rfl, by with_unfolding_all rfl, by with_unfolding_all rfl, .nil⟩ rfl (pi_tup (pv 0)) (fun _ _ _ _ => pg_name (i := 0) (by show (compN ["part"] []).Nodup; decide +kernel) rfl (Or.inl rfl)) (fun _ _ _ _ => pts_nil) (fun _ _ _ _ => (pe_cd Gcopied hr (by omega) rfl (pa_cons (pv 0) pa_nil)))) pa_nil)))) pss_nil)
    (pss_one (ps_ret (pv 0)))))), ?_⟩
  rw [show start ["thing"] [.ref t] = [some (.ref t)] from rfl]
  walk_at "rd3"
  refine ⟨"tuple", tyS_tup ht, iN (by decide) ⟨"tuple", tyS_tup ht, iN (by decide) ⟨"tuple", tyS_tup ht, iP (by decide) ⟨_, rfl, t, rfl, ⟨_, SqT.of ht⟩, comp_tup (K := K) (xs := [.ref a, .str x]) (fun i ys H' => Same H H' ∧ ((i = 0 ∧ ys = []) ∨ ∃ l, H l = none ∧ H' l = some (.lst [z]) ∧ ((i = 1 ∧ ys = [.ref l]) ∨ (i = 2 ∧ ys = [.ref l, .str x])))) (by rw [sizeLine_eq]; simp) ⟨Same.refl _, .inl ⟨rfl, rfl⟩⟩ (fun i ys H' _ h => SqT.of (h.1 _ _ ht)) ?_ ?_⟩⟩⟩⟩
  · rintro i v ys H' hv _ ⟨g, h⟩
    walk_at "rd3"
    rcases h with ⟨rfl, rfl⟩ | ⟨l, hl0, hl, ⟨rfl, rfl⟩ | ⟨rfl, rfl⟩⟩
    · cases hv
      refine ⟨_, rfl, .inr ⟨a, z, rfl, g _ _ ha, hz, fun p H2 g2 hp hp2 => ⟨g.trans g2, .inr ⟨p, ?_, hp2, .inl ⟨rfl, rfl⟩⟩⟩⟩⟩
      cases e : H p with | none => rfl | some o => rw [g _ _ e] at hp; cases hp
    · cases hv
      exact ⟨_, rfl, .inl ⟨.inr ⟨x, rfl⟩, g, .inr ⟨l, hl0, hl, .inr ⟨rfl, rfl⟩⟩⟩⟩
    · cases hv
  · rintro ys H' _ ⟨g, h⟩ p hp
    rcases h with ⟨h, _⟩ | ⟨l, hl0, hl, ⟨h, _⟩ | ⟨_, rfl⟩⟩
    · cases h
    · cases h
    have n : ∀ {b}, H' b = none → H b = none := fun {b} hb => by
      cases e : H b with | none => rfl | some o => rw [g _ _ e] at hb; cases hb
    refine ⟨p, rfl, _, .inl ⟨SqL.of upd_same, fun r hr => ?_⟩⟩
    have s1 := same_new hp (.lst [.ref l, .str x])
    have hr' : H' r = none := by cases e : H' r with | none => rfl | some o => rw [s1 _ _ e] at hr; cases hr
    exact q r l _ (g.trans (s1.trans (same_new hr _))) (n hr') hl0 (same_new hr _ _ _ (s1 _ _ hl)) upd_same
theorem cp_all (F : Fun K "copied" "copied" sCp f fd) (B : Bl mg) (b : Binds K fd ["thing"] []) (kp : PySem.W.keepIn K (.ref f) = true) (m : mg "copied" = some (.ref f)) : Dn P w K mg base 3 "copied" ["thing"] spC2 :=
  ⟨_, _, ok_c2 F B ⟨_, _, ok_c1 F B ⟨_, _, ok_c0 F B, b, kp, m⟩, b, kp, m⟩, b, kp, m⟩
end
end K10
namespace K10
open PySem L2 PySem.W
local macro_rules | `(tactic| walk_at "rd") => `(tactic| simp only [cxOf_K, nox_K, compCx_K, tSeq, tNext, tAsg, gName, tRet, tRetN, tIfS, tDrop, tOp, tUn, tVar, tC, tCall, tCons, tNil, tTest, tB, tAnd, tOr, tNot, tAndV, tOrV, tNotV, tIf, tCB, tBM, tComp, tTrue, tPart, tNoPart, tSl, tChain, tIsN, tNotN, tLst, tTup, tFor_eq, sDPut, tDNewK, tNever, rI0, rI, rU, rEq, rNe, rMulS, rInC, iRng1, iStr, CDiv, CMul, CPow, scal, List.append_nil, List.getElem?_cons_zero, List.getElem?_cons_succ, List.set_cons_zero, List.set_cons_succ, List.map_cons, List.map_nil, List.length_cons, List.length_nil, sizeLine_eq, Nat.reduceAdd, Nat.reduceLeDiff, Option.join_some, Option.join_none, Option.some.injEq, V.int.injEq, V.str.injEq, V.bl.injEq, V.ref.injEq, V.ty.injEq, List.cons.injEq, and_true, true_and, and_self, exists_eq_left', exists_eq_left, exists_and_left, exists_and_right, decide_eq_true_eq, Bool.not_eq_eq_eq_not, Bool.not_true, Bool.not_false, decide_eq_false_iff_not, Int.reduceLT, Int.reduceLE, Int.reduceNeg, Int.reducePow, Int.reduceAdd, Int.reduceSub, Int.reduceMul, Int.reduceToNat, natAbs10, Nat.reduceLT, Nat.reducePow, or_true, true_or, if_true, if_false, Bool.false_eq_true, ite_true, ite_false, reduceCtorEq])
local macro_rules | `(tactic| walk_at "rd3") => `(tactic| simp only [tXSetA, tEAt, tNew, gTup, gCons, gNil, iZip, tIsT, tDisp, tPairs, tBM0, iList, iDict, tThaw, tMaxD, rMaxD, tDGet, rVals, tComp, cxOf_K, nox_K, compCx_K, tSeq, tNext, tAsg, gName, tRet, tRetN, tIfS, tDrop, tOp, tUn, tVar, tC, tCall, tCons, tNil, tTest, tB, tAnd, tOr, tNot, tAndV, tOrV, tNotV, tIf, tCB, tBM, tComp, tTrue, tPart, tNoPart, tSl, tChain, tIsN, tNotN, tLst, tTup, tFor_eq, sDPut, tDNewK, tNever, rI0, rI, rU, rEq, rNe, rMulS, rInC, iRng1, iStr, CDiv, CMul, CPow, scal, List.append_nil, List.getElem?_cons_zero, List.getElem?_cons_succ, List.set_cons_zero, List.set_cons_succ, List.map_cons, List.map_nil, List.length_cons, List.length_nil, sizeLine_eq, Nat.reduceAdd, Nat.reduceLeDiff, Option.join_some, Option.join_none, Option.some.injEq, V.int.injEq, V.str.injEq, V.bl.injEq, V.ref.injEq, V.ty.injEq, List.cons.injEq, and_true, true_and, and_self, exists_eq_left', exists_eq_left, exists_and_left, exists_and_right, decide_eq_true_eq, Bool.not_eq_eq_eq_not, Bool.not_true, Bool.not_false, decide_eq_false_iff_not, Int.reduceLT, Int.reduceLE, Int.reduceNeg, Int.reducePow, Int.reduceAdd, Int.reduceSub, Int.reduceMul, Int.reduceToNat, natAbs10, Nat.reduceLT, Nat.reducePow, or_true, true_or, if_true, if_false, Bool.false_eq_true, ite_true, ite_false, reduceCtorEq])
seal L2.PSs L2.PS L2.PE L2.PT L2.PW L2.PA L2.PI L2.PG L2.PGs L2.PPs L2.PTs
abbrev sINoFit : Stmt := clsFn (top 13)
def Pr (H : Hp) (p l : Addr) (z : V) (x : Str) : Prop := H p = some (.tup [.ref l, .str x]) ∧ H l = some (.lst [z])
theorem Pr.same {H H' : Hp} {p l : Addr} {z : V} {x : Str} (h : Pr H p l z x) (g : Same H H') : Pr H' p l z x := ⟨g _ _ h.1, g _ _ h.2⟩
theorem none_back {H H' : Hp} {b : Addr} (g : Same H H') (h : H' b = none) : H b = none := by
  cases e : H b with
  | none => rfl
  | some o => rw [g _ _ e] at h; cases h
theorem fin2 {H H2 : Hp} {x C tt d : Addr} {v0 : V} {fs : List (Str × V)} (hx : H x = some (exO x C none)) (htt : H tt = none) (g : Same (upd (upd H tt (.tup [v0])) x (exA x C none tt)) H2) (hd : H2 d = none) :
    (∀ b o, b ≠ x → H b = some o → upd (upd H2 x (exA x C (some d) tt)) d (xE d fs) b = some o) ∧ (∀ b o, b ≠ x → H2 b = some o → upd (upd H2 x (exA x C (some d) tt)) d (xE d fs) b = some o) ∧ Ex (upd (upd H2 x (exA x C (some d) tt)) d (xE d fs)) x C v0 fs := by
  have n1 : x ≠ tt := ne_of_none hx htt
  have e1 : H2 x = some (exA x C none tt) := g _ _ upd_same
  have e2 : H2 tt = some (.tup [v0]) := g _ _ (by rw [upd_ne (Ne.symm n1), upd_same])
  have n2 : x ≠ d := ne_of_none e1 hd
  have k : ∀ b o, b ≠ x → H2 b = some o → upd (upd H2 x (exA x C (some d) tt)) d (xE d fs) b = some o := fun b o hb e => by
    rw [upd_ne (ne_of_none e hd), upd_ne hb]; exact e
  refine ⟨fun b o hb e => k b o hb (g _ _ (by rw [upd_ne hb, upd_ne (ne_of_none e htt)]; exact e)), k, tt, k _ _ (Ne.symm n1) e2, .inr ⟨d, ?_, upd_same⟩⟩
  rw [upd_ne n2, upd_same]
section
variable {P : Program} {w : World} {K : PySem.W.Frag} {mg : Str → Option Value} {base : Heap} {C B fI dT : Addr} {nm : Str} {oc kV doc pm cdv ct : Value} {od an : Option Addr} {osl : Array (Option Value)}
def spIF (C : Addr) : Sp := fun vs H Q _ => ∃ x v0 u, vs = [.ref x, v0, u] ∧ H x = some (exO x C none) ∧
  ((u = .non ∧ ∀ l H', (∀ b o, b ≠ x → H b = some o → H' b = some o) → H l = none → H' l = some (.lst []) → Ex H' x C v0 [("faults", .ref l)] → Q .non H') ∨
   (∃ k t1 a1 z1 x1 t2 a2 z2 x2, u = .ref k ∧ H k = some (.lst [.ref t1, .ref t2]) ∧ Pr H t1 a1 z1 x1 ∧ Pr H t2 a2 z2 x2 ∧ Leaf z1 ∧ Leaf z2 ∧ ∀ l p1 l1 p2 l2 H', (∀ b o, b ≠ x → H b = some o → H' b = some o) → H l = none → H l1 = none → H l2 = none → H' l = some (.lst [.ref p1, .ref p2]) → Pr H' p1 l1 z1 x1 → Pr H' p2 l2 z2 x2 → Ex H' x C v0 [("faults", .ref l)] → Q .non H'))
theorem scINoFit : FnScope ["self", "text", "faults"] ["self", "text", "faults"] (defScope sINoFit) := ⟨rfl, rfl, rfl, by decide +kernel, rfl, by decide +kernel, by decide +kernel⟩
theorem ok_iNoFit (lk : K.lookup fI = some ⟨oc, od, .func (fnOf "__init__" "NoFit.__init__" (defArgs sINoFit) (defBody sINoFit) (defScope sINoFit) (.ref dT) kV doc pm an cdv ct), osl⟩) (hcd : codeIn K cdv "NoFit.__init__" = true) (c : XC K nm C B) (hf : findIn K (.ref C) "faults" = some none) (b : XBase K B) (hmB : mg "CabinetError" = some (.ref B)) (Gcopied : Dn P w K mg base 3 "copied" ["thing"] spC2) :
    FnOk P w K mg base CX0 4 fI (fnOf "__init__" "NoFit.__init__" (defArgs sINoFit) (defBody sINoFit) (defScope sINoFit) (.ref dT) kV doc pm an cdv ct) ["self", "text", "faults"] (spIF C) := by
  refine fn_of (k := 3) lk hcd scINoFit (fun vs H Q E h => ?_) fun A outer s H vs Q E hr h => ?_
  · obtain ⟨x, v0, v, rfl, _⟩ := h
    rfl
  obtain ⟨x, v0, u, rfl, hx, q⟩ := h
  have nd := scINoFit.nd
  refine ⟨_, (pss_cons (ps_expr (pe_xinitA c b rfl hmB (pa_cons (pv 0) (pa_cons (pv 1) pa_nil)))) (pss_one (ps_xsetA c hf (pe_ifExp (pt_cmp (pc_isN (pv 2))) (pe_lst pa_nil) (pe_comp (own := ["pair"]) (F := []) ⟨rfl, by with_unfolding_all rfl, by with_unfolding_all rfl, by with_unfolding_all rfl, .nil⟩ rfl (pi_list (pv 2)) (fun _ _ _ _ => pg_name (i := 0) (by show (compN ["pair"] []).Nodup; decide +kernel) rfl (Or.inl rfl)) (fun _ _ _ _ => pts_nil) (fun _ _ _ _ => (pe_cd Gcopied hr (by omega) rfl (pa_cons (pv 0) pa_nil))))) (pv 0)))), ?_⟩
  rw [show start ["self", "text", "faults"] [.ref x, v0, u] = [some (.ref x), some v0, some u] from rfl]
  refine ⟨.ref x, rfl, v0, rfl, x, v0, rfl, hx, fun tt htt => ?_⟩
  have n1 : x ≠ tt := ne_of_none hx htt
  have g1 : ∀ b o, b ≠ x → H b = some o → upd (upd H tt (.tup [v0])) x (exA x C none tt) b = some o := fun b o hb e => by
    rw [upd_ne hb, upd_ne (ne_of_none e htt)]; exact e
  have b1 : ∀ b, upd (upd H tt (.tup [v0])) x (exA x C none tt) b = none → H b = none := fun b e => by
    have hb : b ≠ x := fun z => by rw [z, upd_same] at e; cases e
    have hb2 : b ≠ tt := fun z => by rw [z, upd_ne (Ne.symm n1), upd_same] at e; cases e
    rw [upd_ne hb, upd_ne hb2] at e; exact e
  generalize hH1 : upd (upd H tt (.tup [v0])) x (exA x C none tt) = H1 at g1 b1
  have fin : ∀ {H2 : Hp} {l : Addr}, Same H1 H2 → ∀ d, H2 d = none → (∀ b o, b ≠ x → H b = some o → upd (upd H2 x (exA x C (some d) tt)) d (xE d [("faults", .ref l)]) b = some o) ∧ (∀ b o, b ≠ x → H2 b = some o → upd (upd H2 x (exA x C (some d) tt)) d (xE d [("faults", .ref l)]) b = some o) ∧ Ex (upd (upd H2 x (exA x C (some d) tt)) d (xE d [("faults", .ref l)])) x C v0 [("faults", .ref l)] := fun {H2 l} g d hd => fin2 hx htt (by rw [hH1]; exact g) hd
  have ex1 : H1 x = some (exA x C none tt) := by rw [← hH1]; exact upd_same
  walk_at "rd3"
  rcases q with ⟨rfl, q⟩ | ⟨k, t1, a1, z1, x1, t2, a2, z2, x2, rfl, hk, r1, r2, lf1, lf2, q⟩
  · refine iP rfl fun l hl => ?_
    have s2 := same_new hl (.lst [])
    refine ⟨tt, s2 _ _ ex1, fun d hd => ?_⟩
    obtain ⟨f1, f2, f3⟩ := fin (l := l) s2 d hd
    have nlx : l ≠ x := Ne.symm (ne_of_none ex1 hl)
    exact q l _ f1 (b1 _ hl) (f2 _ _ nlx upd_same) f3
  · have hk1 : ∀ {b : Addr} {o : HO}, H b = some o → o ≠ exO x C none → H1 b = some o := fun {b o} e ho => g1 _ _ (fun z => ho (by rw [z, hx] at e; cases e; rfl)) e
    have e1 := hk1 hk (by intro z; cases z)
    have e2 := hk1 r1.1 (by intro z; cases z)
    have e3 := hk1 r1.2 (by intro z; cases z)
    have e4 := hk1 r2.1 (by intro z; cases z)
    have e5 := hk1 r2.2 (by intro z; cases z)
    refine iN (fun z => nomatch z) ⟨k, rfl, ⟨_, SqL.of e1⟩, comp_list (K := K) (xs := [.ref t1, .ref t2]) (fun i ys H' => Same H1 H' ∧ ((i = 0 ∧ ys = []) ∨ ∃ p1 l1, H1 l1 = none ∧ Pr H' p1 l1 z1 x1 ∧ ((i = 1 ∧ ys = [.ref p1]) ∨ ∃ p2 l2, H1 l2 = none ∧ Pr H' p2 l2 z2 x2 ∧ (i = 2 ∧ ys = [.ref p1, .ref p2])))) (by rw [sizeLine_eq]; simp) ⟨Same.refl _, .inl ⟨rfl, rfl⟩⟩ (fun i ys H' _ h => SqL.of (h.1 _ _ e1)) ?_ ?_⟩
    · rintro i v ys H' hv _ ⟨g, h⟩
      walk_at "rd3"
      rcases h with ⟨rfl, rfl⟩ | ⟨p1, l1, hl1, hp1, ⟨rfl, rfl⟩ | ⟨p2, l2, hl2, hp2, rfl, rfl⟩⟩
      · cases hv
        refine ⟨t1, a1, z1, x1, rfl, g _ _ e2, g _ _ e3, lf1, fun p l H2 g2 hp hl hl2 hp2 => ⟨g.trans g2, .inr ⟨p, l, none_back g hl, ⟨hp2, hl2⟩, .inl ⟨rfl, rfl⟩⟩⟩⟩
      · cases hv
        refine ⟨t2, a2, z2, x2, rfl, g _ _ e4, g _ _ e5, lf2, fun p l H2 g2 hp hl hl2 hp2 => ⟨g.trans g2, .inr ⟨p1, l1, hl1, hp1.same g2, .inr ⟨p, l, none_back g hl, ⟨hp2, hl2⟩, rfl, rfl⟩⟩⟩⟩
      · cases hv
    · rintro ys H' _ ⟨g, h⟩ l hl
      rcases h with ⟨h, _⟩ | ⟨p1, l1, hl1, hp1, ⟨h, _⟩ | ⟨p2, l2, hl2, hp2, _, rfl⟩⟩
      · cases h
      · cases h
      have s2 := same_new hl (.lst [.ref p1, .ref p2])
      have ge := g.trans s2
      refine ⟨tt, ge _ _ ex1, fun d hd => ?_⟩
      obtain ⟨f1, f2, f3⟩ := fin (l := l) ge d hd
      have ofx : ∀ {b : Addr} {o : HO}, H' b = some o → o ≠ exA x C none tt → upd (upd (upd H' l (.lst [.ref p1, .ref p2])) x (exA x C (some d) tt)) d (xE d [("faults", .ref l)]) b = some o := fun {b o} e ho => f2 _ _ (fun z => ho (by rw [z, g _ _ ex1] at e; cases e; rfl)) (s2 _ _ e)
      have nlx : l ≠ x := Ne.symm (ne_of_none (g _ _ ex1) hl)
      exact q l p1 l1 p2 l2 _ f1 (b1 _ (none_back g hl)) (b1 _ hl1) (b1 _ hl2) (f2 _ _ nlx upd_same) ⟨ofx hp1.1 (by intro z; cases z), ofx hp1.2 (by intro z; cases z)⟩ ⟨ofx hp2.1 (by intro z; cases z), ofx hp2.2 (by intro z; cases z)⟩ f3
end
end K10
namespace K10
open PySem L2 PySem.W
local macro_rules | `(tactic| walk_at "rd") => `(tactic| simp only [cxOf_K, nox_K, compCx_K, tSeq, tNext, tAsg, gName, tRet, tRetN, tIfS, tDrop, tOp, tUn, tVar, tC, tCall, tCons, tNil, tTest, tB, tAnd, tOr, tNot, tAndV, tOrV, tNotV, tIf, tCB, tBM, tComp, tTrue, tPart, tNoPart, tSl, tChain, tIsN, tNotN, tLst, tTup, tFor_eq, sDPut, tDNewK, tNever, rI0, rI, rU, rEq, rNe, rMulS, rInC, iRng1, iStr, CDiv, CMul, CPow, scal, List.append_nil, List.getElem?_cons_zero, List.getElem?_cons_succ, List.set_cons_zero, List.set_cons_succ, List.map_cons, List.map_nil, List.length_cons, List.length_nil, sizeLine_eq, Nat.reduceAdd, Nat.reduceLeDiff, Option.join_some, Option.join_none, Option.some.injEq, V.int.injEq, V.str.injEq, V.bl.injEq, V.ref.injEq, V.ty.injEq, List.cons.injEq, and_true, true_and, and_self, exists_eq_left', exists_eq_left, exists_and_left, exists_and_right, decide_eq_true_eq, Bool.not_eq_eq_eq_not, Bool.not_true, Bool.not_false, decide_eq_false_iff_not, Int.reduceLT, Int.reduceLE, Int.reduceNeg, Int.reducePow, Int.reduceAdd, Int.reduceSub, Int.reduceMul, Int.reduceToNat, natAbs10, Nat.reduceLT, Nat.reducePow, or_true, true_or, if_true, if_false, Bool.false_eq_true, ite_true, ite_false, reduceCtorEq])
local macro_rules | `(tactic| walk_at "rd3") => `(tactic| simp only [tXSetA, tEAt, tNew, gTup, gCons, gNil, iZip, tIsT, tDisp, tPairs, tBM0, iList, iDict, tThaw, tMaxD, rMaxD, tDGet, rVals, tComp, cxOf_K, nox_K, compCx_K, tSeq, tNext, tAsg, gName, tRet, tRetN, tIfS, tDrop, tOp, tUn, tVar, tC, tCall, tCons, tNil, tTest, tB, tAnd, tOr, tNot, tAndV, tOrV, tNotV, tIf, tCB, tBM, tComp, tTrue, tPart, tNoPart, tSl, tChain, tIsN, tNotN, tLst, tTup, tFor_eq, sDPut, tDNewK, tNever, rI0, rI, rU, rEq, rNe, rMulS, rInC, iRng1, iStr, CDiv, CMul, CPow, scal, List.append_nil, List.getElem?_cons_zero, List.getElem?_cons_succ, List.set_cons_zero, List.set_cons_succ, List.map_cons, List.map_nil, List.length_cons, List.length_nil, sizeLine_eq, Nat.reduceAdd, Nat.reduceLeDiff, Option.join_some, Option.join_none, Option.some.injEq, V.int.injEq, V.str.injEq, V.bl.injEq, V.ref.injEq, V.ty.injEq, List.cons.injEq, and_true, true_and, and_self, exists_eq_left', exists_eq_left, exists_and_left, exists_and_right, decide_eq_true_eq, Bool.not_eq_eq_eq_not, Bool.not_true, Bool.not_false, decide_eq_false_iff_not, Int.reduceLT, Int.reduceLE, Int.reduceNeg, Int.reducePow, Int.reduceAdd, Int.reduceSub, Int.reduceMul, Int.reduceToNat, natAbs10, Nat.reduceLT, Nat.reducePow, or_true, true_or, if_true, if_false, Bool.false_eq_true, ite_true, ite_false, reduceCtorEq])
seal L2.PSs L2.PS L2.PE L2.PT L2.PW L2.PA L2.PI L2.PG L2.PGs L2.PPs L2.PTs
abbrev sFlags : Stmt := top 27
/-- the classes, as they lie -/
structure Wf (mg : Str → Option Value) (d : Nat → Addr) : Prop where
  m0 : mg "TooGreat" = some (.ref (d 0))
  m1 : mg "BadText" = some (.ref (d 1))
  m2 : mg "BadPath" = some (.ref (d 2))
  m3 : mg "NoPlace" = some (.ref (d 3))
  m4 : mg "NoDeed" = some (.ref (d 4))
  m5 : mg "NoneFits" = some (.ref (d 5))
  m6 : mg "CantMove" = some (.ref (d 6))
  m7 : mg "NoBack" = some (.ref (d 7))
  m8 : mg "NoVersion" = some (.ref (d 8))
  m9 : mg "NoFit" = some (.ref (d 9))
  m10 : mg "Stuck" = some (.ref (d 10))
  m11 : mg "BadQuestion" = some (.ref (d 11))
  m12 : mg "NoKey" = some (.ref (d 12))
  m13 : mg "IsKept" = some (.ref (d 13))
  m14 : mg "NotKept" = some (.ref (d 14))
  m15 : mg "NoWayBack" = some (.ref (d 15))
  m16 : mg "NoStore" = some (.ref (d 16))
  m17 : mg "BadRow" = some (.ref (d 17))
  m18 : mg "CabinetError" = some (.ref (d 18))
/-- what is true of them -/
structure Wk (K : Frag) (d : Nat → Addr) : Prop where
  G : ∀ i, i < 18 → XGet K (d i)
  S : ∀ i, i < 18 → XStr K (d i)
  k : ∀ i j, i < 18 → j < 18 → kitOne K (.ref (d i)) (.ref (d j)) = some (decide (j = i))
  kB : ∀ i, i < 18 → kitOne K (.ref (d i)) (.ref (d 18)) = some true
  kV : ∀ i, i < 18 → kitOne K (.ref (d i)) (.type "ValueError") = some true
theorem rCat_s {H : Hp} {a b : Addr} {xs ys : List V} {Q : VK} (ha : H a = some (.lst xs)) (hb : H b = some (.lst ys)) (hl : xs.length + ys.length ≤ 1000) (q : ∀ p H', Same H H' → H p = none → H' p = some (.lst (xs ++ ys)) → Q (.ref p) H') : rCat (.ref a) (.ref b) H Q :=
  ⟨a, b, xs, ys, rfl, rfl, ha, hb, by rw [sizeLine_eq]; omega, fun p hp => q p _ (same_new hp _) hp upd_same⟩
section
variable {P : Program} {w : World} {K : PySem.W.Frag} {mg : Str → Option Value} {base : Heap} {f : Addr} {fd : FuncData} {d : Nat → Addr}
def flg (i : Nat) : List V := (List.range 18).map fun j => V.bl (decide (j = i))
def spFlags (d : Nat → Addr) : Sp := fun vs H Q _ => ∃ x i v fs, vs = [.ref x] ∧ i < 18 ∧ Ex H x (d i) v fs ∧ ∀ p H', Same H H' → H p = none → H' p = some (.lst (flg i)) → Q (.ref p) H'
theorem scFlags : FnScope ["_law_e", "_law_flags_here"] ["_law_e"] (defScope sFlags) := ⟨rfl, rfl, rfl, by decide +kernel, rfl, by decide +kernel, by decide +kernel⟩
theorem ok_flags (F : Fun K "_law_flags" "_law_flags" sFlags f fd) (B : Bl mg) (W : Wf mg d) (Y : Wk K d) : FnOk P w K mg base CX0 1 f fd ["_law_e"] (spFlags d) := by
  refine F.ok scFlags (fun vs H Q E h => ?_) (fun cdv A outer s H vs Q E hr h => ?_)
  · obtain ⟨x, i, v, fs, rfl, _⟩ := h
    rfl
  obtain ⟨x, i, v, fs, rfl, hi, hx, q⟩ := h
  have nd := scFlags.nd
  refine ⟨_, (pss_cons (ps_set (i := 1) nd rfl (Or.inl rfl) (pe_lst (pa_cons (pe_callB call_eis rfl B.isinstance bt_isinstance (pa_cons (pv 0) (pa_cons (pe_glob (v := .ref (d 0)) rfl W.m0 rfl) pa_nil))) (pa_cons (pe_callB call_eis rfl B.isinstance bt_isinstance (pa_cons (pv 0) (pa_cons (pe_glob (v := .ref (d 1)) rfl W.m1 rfl) pa_nil))) (pa_cons (pe_callB call_eis rfl B.isinstance bt_isinstance (pa_cons (pv 0) (pa_cons (pe_glob (v := .ref (d 2)) rfl W.m2 rfl) pa_nil))) (pa_cons (pe_callB call_eis rfl B.isinstance bt_isinstance (pa_cons (pv 0) (pa_cons (pe_glob (v := .ref (d 3)) rfl W.m3 rfl) pa_nil))) pa_nil))))))
    (pss_cons (ps_set (i := 1) nd rfl (Or.inl rfl) (pe_op op_cat (pv 1) (pe_lst (pa_cons (pe_callB call_eis rfl B.isinstance bt_isinstance (pa_cons (pv 0) (pa_cons (pe_glob (v := .ref (d 4)) rfl W.m4 rfl) pa_nil))) (pa_cons (pe_callB call_eis rfl B.isinstance bt_isinstance (pa_cons (pv 0) (pa_cons (pe_glob (v := .ref (d 5)) rfl W.m5 rfl) pa_nil))) (pa_cons (pe_callB call_eis rfl B.isinstance bt_isinstance (pa_cons (pv 0) (pa_cons (pe_glob (v := .ref (d 6)) rfl W.m6 rfl) pa_nil))) (pa_cons (pe_callB call_eis rfl B.isinstance bt_isinstance (pa_cons (pv 0) (pa_cons (pe_glob (v := .ref (d 7)) rfl W.m7 rfl) pa_nil))) pa_nil)))))))
    (pss_cons (ps_set (i := 1) nd rfl (Or.inl rfl) (pe_op op_cat (pv 1) (pe_lst (pa_cons (pe_callB call_eis rfl B.isinstance bt_isinstance (pa_cons (pv 0) (pa_cons (pe_glob (v := .ref (d 8)) rfl W.m8 rfl) pa_nil))) (pa_cons (pe_callB call_eis rfl B.isinstance bt_isinstance (pa_cons (pv 0) (pa_cons (pe_glob (v := .ref (d 9)) rfl W.m9 rfl) pa_nil))) (pa_cons (pe_callB call_eis rfl B.isinstance bt_isinstance (pa_cons (pv 0) (pa_cons (pe_glob (v := .ref (d 10)) rfl W.m10 rfl) pa_nil))) (pa_cons (pe_callB call_eis rfl B.isinstance bt_isinstance (pa_cons (pv 0) (pa_cons (pe_glob (v := .ref (d 11)) rfl W.m11 rfl) pa_nil))) pa_nil)))))))
    (pss_cons (ps_set (i := 1) nd rfl (Or.inl rfl) (pe_op op_cat (pv 1) (pe_lst (pa_cons (pe_callB call_eis rfl B.isinstance bt_isinstance (pa_cons (pv 0) (pa_cons (pe_glob (v := .ref (d 12)) rfl W.m12 rfl) pa_nil))) (pa_cons (pe_callB call_eis rfl B.isinstance bt_isinstance (pa_cons (pv 0) (pa_cons (pe_glob (v := .ref (d 13)) rfl W.m13 rfl) pa_nil))) (pa_cons (pe_callB call_eis rfl B.isinstance bt_isinstance (pa_cons (pv 0) (pa_cons (pe_glob (v := .ref (d 14)) rfl W.m14 rfl) pa_nil))) (pa_cons (pe_callB call_eis rfl B.isinstance bt_isinstance (pa_cons (pv 0) (pa_cons (pe_glob (v := .ref (d 15)) rfl W.m15 rfl) pa_nil))) pa_nil)))))))
    (pss_one (ps_ret (pe_op op_cat (pv 1) (pe_lst (pa_cons (pe_callB call_eis rfl B.isinstance bt_isinstance (pa_cons (pv 0) (pa_cons (pe_glob (v := .ref (d 16)) rfl W.m16 rfl) pa_nil))) (pa_cons (pe_callB call_eis rfl B.isinstance bt_isinstance (pa_cons (pv 0) (pa_cons (pe_glob (v := .ref (d 17)) rfl W.m17 rfl) pa_nil))) pa_nil)))))))))), ?_⟩
  rw [show start ["_law_e", "_law_flags_here"] [.ref x] = [some (.ref x), none] from rfl]
  walk_at "rd3"
  have is : ∀ {H' : Hp} {j : Nat} {Q' : VK}, Same H H' → j < 18 → Q' (.bl (decide (j = i))) H' → rEis K [.ref x, .ref (d j)] H' Q' := fun {H' j Q'} g hj q' => rEis_i (hx.same g) (Y.G i hi) (Y.k i j hi hj) q'
  have r0 := Same.refl H
  refine is r0 (by decide) (is r0 (by decide) (is r0 (by decide) (is r0 (by decide) fun p1 hp1 => ?_)))
  have s1 := same_new hp1 (.lst [V.bl (decide (0 = i)), V.bl (decide (1 = i)), V.bl (decide (2 = i)), V.bl (decide (3 = i))])
  have e1 := upd_same (H := H) (a := p1) (o := .lst [V.bl (decide (0 = i)), V.bl (decide (1 = i)), V.bl (decide (2 = i)), V.bl (decide (3 = i))])
  generalize upd H p1 _ = H1 at s1 e1 ⊢
  refine is s1 (by decide) (is s1 (by decide) (is s1 (by decide) (is s1 (by decide) fun p2 hp2 => ?_)))
  refine rCat_s (same_new hp2 _ _ _ e1) upd_same (by simp) fun p3 H3 g3 n3 e3 => ?_
  have s3 := s1.trans ((same_new hp2 _).trans g3)
  refine is s3 (by decide) (is s3 (by decide) (is s3 (by decide) (is s3 (by decide) fun p4 hp4 => ?_)))
  refine rCat_s (same_new hp4 _ _ _ e3) upd_same (by simp) fun p5 H5 g5 n5 e5 => ?_
  have s5 := s3.trans ((same_new hp4 _).trans g5)
  refine is s5 (by decide) (is s5 (by decide) (is s5 (by decide) (is s5 (by decide) fun p6 hp6 => ?_)))
  refine rCat_s (same_new hp6 _ _ _ e5) upd_same (by simp) fun p7 H7 g7 n7 e7 => ?_
  have s7 := s5.trans ((same_new hp6 _).trans g7)
  refine is s7 (by decide) (is s7 (by decide) fun p8 hp8 => ?_)
  refine rCat_s (same_new hp8 _ _ _ e7) upd_same (by simp) fun p9 H9 g9 n9 e9 => ?_
  exact q p9 H9 (s7.trans ((same_new hp8 _).trans g9)) (none_back (s7.trans (same_new hp8 _)) n9) e9
end
end K10
namespace K10
open PySem L2 PySem.W
local macro_rules | `(tactic| walk_at "rd") => `(tactic| simp only [cxOf_K, nox_K, compCx_K, tSeq, tNext, tAsg, gName, tRet, tRetN, tIfS, tDrop, tOp, tUn, tVar, tC, tCall, tCons, tNil, tTest, tB, tAnd, tOr, tNot, tAndV, tOrV, tNotV, tIf, tCB, tBM, tComp, tTrue, tPart, tNoPart, tSl, tChain, tIsN, tNotN, tLst, tTup, tFor_eq, sDPut, tDNewK, tNever, rI0, rI, rU, rEq, rNe, rMulS, rInC, iRng1, iStr, CDiv, CMul, CPow, scal, List.append_nil, List.getElem?_cons_zero, List.getElem?_cons_succ, List.set_cons_zero, List.set_cons_succ, List.map_cons, List.map_nil, List.length_cons, List.length_nil, sizeLine_eq, Nat.reduceAdd, Nat.reduceLeDiff, Option.join_some, Option.join_none, Option.some.injEq, V.int.injEq, V.str.injEq, V.bl.injEq, V.ref.injEq, V.ty.injEq, List.cons.injEq, and_true, true_and, and_self, exists_eq_left', exists_eq_left, exists_and_left, exists_and_right, decide_eq_true_eq, Bool.not_eq_eq_eq_not, Bool.not_true, Bool.not_false, decide_eq_false_iff_not, Int.reduceLT, Int.reduceLE, Int.reduceNeg, Int.reducePow, Int.reduceAdd, Int.reduceSub, Int.reduceMul, Int.reduceToNat, natAbs10, Nat.reduceLT, Nat.reducePow, or_true, true_or, if_true, if_false, Bool.false_eq_true, ite_true, ite_false, reduceCtorEq])
local macro_rules | `(tactic| walk_at "rd3") => `(tactic| simp only [tXSetA, tEAt, tNew, gTup, gCons, gNil, iZip, tIsT, tDisp, tPairs, tBM0, iList, iDict, tThaw, tMaxD, rMaxD, tDGet, rVals, tComp, cxOf_K, nox_K, compCx_K, tSeq, tNext, tAsg, gName, tRet, tRetN, tIfS, tDrop, tOp, tUn, tVar, tC, tCall, tCons, tNil, tTest, tB, tAnd, tOr, tNot, tAndV, tOrV, tNotV, tIf, tCB, tBM, tComp, tTrue, tPart, tNoPart, tSl, tChain, tIsN, tNotN, tLst, tTup, tFor_eq, sDPut, tDNewK, tNever, rI0, rI, rU, rEq, rNe, rMulS, rInC, iRng1, iStr, CDiv, CMul, CPow, scal, List.append_nil, List.getElem?_cons_zero, List.getElem?_cons_succ, List.set_cons_zero, List.set_cons_succ, List.map_cons, List.map_nil, List.length_cons, List.length_nil, sizeLine_eq, Nat.reduceAdd, Nat.reduceLeDiff, Option.join_some, Option.join_none, Option.some.injEq, V.int.injEq, V.str.injEq, V.bl.injEq, V.ref.injEq, V.ty.injEq, List.cons.injEq, and_true, true_and, and_self, exists_eq_left', exists_eq_left, exists_and_left, exists_and_right, decide_eq_true_eq, Bool.not_eq_eq_eq_not, Bool.not_true, Bool.not_false, decide_eq_false_iff_not, Int.reduceLT, Int.reduceLE, Int.reduceNeg, Int.reducePow, Int.reduceAdd, Int.reduceSub, Int.reduceMul, Int.reduceToNat, natAbs10, Nat.reduceLT, Nat.reducePow, or_true, true_or, if_true, if_false, Bool.false_eq_true, ite_true, ite_false, reduceCtorEq])
seal L2.PSs L2.PS L2.PE L2.PT L2.PW L2.PA L2.PI L2.PG L2.PGs L2.PPs L2.PTs
abbrev sMade : Stmt := top 28
section
variable {K : PySem.W.Frag} {dT : Addr} {kV doc pm cdv ct : Value} {an : Option Addr}
theorem biNoFit {o : Obj} {n : Nat} (hd : K.lookup dT = some o) (hs : o.data = .seq #[Value.none] n) : Binds K (fnOf "__init__" "NoFit.__init__" (defArgs sINoFit) (defBody sINoFit) (defScope sINoFit) (.ref dT) kV doc pm an cdv ct) ["self", "text", "faults"] [] ∧ Binds K (fnOf "__init__" "NoFit.__init__" (defArgs sINoFit) (defBody sINoFit) (defScope sINoFit) (.ref dT) kV doc pm an cdv ct) ["self", "text", "faults"] [.none] := by
  refine ⟨fun s us hK hl => ?_, fun s us hK hl => ?_⟩
  · rw [List.append_nil] at hl ⊢
    match us, (show us.length = 3 from hl) with
    | [a, b, c], _ => exact binds_K hK rfl hd hs rfl rfl
  · match us, (show us.length = 2 by simpa using hl) with
    | [a, b], _ => exact binds_K hK rfl hd hs rfl rfl
end
/-- NoFit(text), NoFit(text, faults) -/
def spNF (C : Addr) : List V → Hp → VK → Prop := fun vs H Q => (∃ v0, vs = [v0] ∧ ∀ x l H', H x = none → Same H H' → H l = none → H' l = some (.lst []) → Ex H' x C v0 [("faults", .ref l)] → Q (.ref x) H') ∨
  (∃ v0 k t1 a1 z1 x1 t2 a2 z2 x2, vs = [v0, .ref k] ∧ H k = some (.lst [.ref t1, .ref t2]) ∧ Pr H t1 a1 z1 x1 ∧ Pr H t2 a2 z2 x2 ∧ Leaf z1 ∧ Leaf z2 ∧ ∀ x l p1 l1 p2 l2 H', H x = none → Same H H' → H l = none → H l1 = none → H l2 = none → H' l = some (.lst [.ref p1, .ref p2]) → Pr H' p1 l1 z1 x1 → Pr H' p2 l2 z2 x2 → Ex H' x C v0 [("faults", .ref l)] → Q (.ref x) H')
section
variable {X : Cx} {C B fI : Addr} {nm : Str} {k : Nat} {fd : FuncData} {ps : List Str}
theorem off_none {H : Hp} {x l : Addr} {o : HO} (h : upd H x o l = none) : H l = none := by
  have n : l ≠ x := fun z => by rw [z, upd_same] at h; cases h
  rw [upd_ne n] at h; exact h
theorem make_nf (c : XI X.K nm C B fI) (F : FnOk X.prog X.w X.K X.mg X.base CX0 k fI fd ps (spIF C)) (hr : Room (k + 1) X.A) (hb : Binds X.K fd ps []) (hb0 : Binds X.K fd ps [.none]) : CallR X (.ref C) (spNF C) := by
  intro pins s σ H vs us Q I r h
  rcases h with ⟨v0, rfl, q⟩ | ⟨v0, kk, t1, a1, z1, x1, t2, a2, z2, x2, rfl, hk, r1, r2, lf1, lf2, q⟩
  · exact run_makeA c F hr hb0 (dvs := [.non]) (.cons rfl .nil) I r (by show 1 ≤ 100; decide) fun x hx => ⟨x, v0, _, rfl, upd_same, .inl ⟨rfl, fun l H' g hl hl' e => ⟨rfl, q x l H' hx (gr_off hx g) (off_none hl) hl' e⟩⟩⟩
  · refine run_makeA c F hr hb .nil I r (by show 2 ≤ 100; decide) fun x hx => ⟨x, v0, _, rfl, upd_same, .inr ⟨kk, t1, a1, z1, x1, t2, a2, z2, x2, rfl, same_new hx _ _ _ hk, r1.same (same_new hx _), r2.same (same_new hx _), lf1, lf2, fun l p1 l1 p2 l2 H' g hl hl1 hl2 h1 h2 h3 e => ⟨rfl, q x l p1 l1 p2 l2 H' hx (gr_off hx g) (off_none hl) (off_none hl1) (off_none hl2) h1 h2 h3 e⟩⟩⟩
end
section
variable {P : Program} {w : World} {K : PySem.W.Frag} {mg : Str → Option Value} {base : Heap} {f : Addr} {fd : FuncData} {d : Nat → Addr}
theorem es_nf {C B fI : Addr} {nm cn : Str} {k : Nat} {ps : List Str} (c : XI K nm C B fI) (F : FnOk P w K mg base CX0 k fI fd ps (spIF C)) (hb : Binds K fd ps []) (hb0 : Binds K fd ps [.none]) (hm : mg cn = some (.ref C)) : Es P w K mg base (k + 1) cn C (spNF C) :=
  ⟨fun X h1 h2 h3 h4 h5 hex hr => by subst h1 h2 h3 h4 h5; exact make_nf c F hr hb hb0, c.kp, hm⟩
theorem new_i {C : Addr} {g : List V → Option (V × List (Str × V))} {vs : List V} {H : Hp} {Q : VK} {v : V} {fs : List (Str × V)} (hg : g vs = some (v, fs)) (q : ∀ x H', H x = none → Same H H' → Ex H' x C v fs → Q (.ref x) H') : spNew C g vs H Q := ⟨v, fs, hg, q⟩
def fsO (l : Addr) : Nat → List (Str × V)
  | 1 => [("at", .int 0)]
  | 3 => [("at", .int 0)]
  | 4 => [("number", .int 0)]
  | 6 => [("number", .int 0)]
  | 7 => [("number", .int 0)]
  | 9 => [("faults", .ref l)]
  | 10 => [("key", .non), ("version", .int 0)]
  | _ => []
def spMade (d : Nat → Addr) : Sp := fun vs H Q _ => ∃ v, vs = [v] ∧ ∀ p H' (xs : List Addr) l, Same H H' → H p = none → H l = none → H' l = some (.lst []) → H' p = some (.lst (xs.map V.ref)) → xs.length = 18 → (∀ i x, xs[i]? = some x → Ex H' x (d i) v (fsO l i)) → Q (.ref p) H'
theorem scMade : FnScope ["_law_words", "_law_result"] ["_law_words"] (defScope sMade) := ⟨rfl, rfl, rfl, by decide +kernel, rfl, by decide +kernel, by decide +kernel⟩
theorem ok_made (F : Fun K "_law_made" "_law_made" sMade f fd) (MTooGreat : Es P w K mg base 0 "TooGreat" (d 0) (spNew (d 0) gOne)) (MBadText : Es P w K mg base 2 "BadText" (d 1) (spNew (d 1) (gFld "at"))) (MBadPath : Es P w K mg base 0 "BadPath" (d 2) (spNew (d 2) gOne)) (MNoPlace : Es P w K mg base 2 "NoPlace" (d 3) (spNew (d 3) (gFld "at"))) (MNoDeed : Es P w K mg base 2 "NoDeed" (d 4) (spNew (d 4) (gFld "number"))) (MNoneFits : Es P w K mg base 0 "NoneFits" (d 5) (spNew (d 5) gOne)) (MCantMove : Es P w K mg base 2 "CantMove" (d 6) (spNew (d 6) (gFld "number"))) (MNoBack : Es P w K mg base 2 "NoBack" (d 7) (spNew (d 7) (gFld "number"))) (MNoVersion : Es P w K mg base 0 "NoVersion" (d 8) (spNew (d 8) gOne)) (MNoFit : Es P w K mg base 5 "NoFit" (d 9) (spNF (d 9))) (MStuck : Es P w K mg base 2 "Stuck" (d 10) (spNew (d 10) (gTwo "version" "key"))) (MBadQuestion : Es P w K mg base 0 "BadQuestion" (d 11) (spNew (d 11) gOne)) (MNoKey : Es P w K mg base 0 "NoKey" (d 12) (spNew (d 12) gOne)) (MIsKept : Es P w K mg base 0 "IsKept" (d 13) (spNew (d 13) gOne)) (MNotKept : Es P w K mg base 0 "NotKept" (d 14) (spNew (d 14) gOne)) (MNoWayBack : Es P w K mg base 0 "NoWayBack" (d 15) (spNew (d 15) gOne)) (MNoStore : Es P w K mg base 0 "NoStore" (d 16) (spNew (d 16) gOne)) (MBadRow : Es P w K mg base 0 "BadRow" (d 17) (spNew (d 17) gOne)) : FnOk P w K mg base CX0 6 f fd ["_law_words"] (spMade d) := by
  refine F.ok scMade (fun vs H Q E h => ?_) (fun cdv A outer s H vs Q E hr h => ?_)
  · obtain ⟨v, rfl, _⟩ := h
    rfl
  obtain ⟨v, rfl, q⟩ := h
  have nd := scMade.nd
  refine ⟨_, (pss_cons (ps_set (i := 1) nd rfl (Or.inl rfl) (pe_lst (pa_cons (pe_new MTooGreat rfl hr (by omega) rfl (pa_cons (pv 0) pa_nil)) (pa_cons (pe_new MBadText rfl hr (by omega) rfl (pa_cons (pv 0) pa_nil)) (pa_cons (pe_new MBadPath rfl hr (by omega) rfl (pa_cons (pv 0) pa_nil)) (pa_cons (pe_new MNoPlace rfl hr (by omega) rfl (pa_cons (pv 0) pa_nil)) (pa_cons (pe_new MNoDeed rfl hr (by omega) rfl (pa_cons (pv 0) pa_nil)) (pa_cons (pe_new MNoneFits rfl hr (by omega) rfl (pa_cons (pv 0) pa_nil)) pa_nil))))))))
    (pss_cons (ps_set (i := 1) nd rfl (Or.inl rfl) (pe_op op_cat (pv 1) (pe_lst (pa_cons (pe_new MCantMove rfl hr (by omega) rfl (pa_cons (pv 0) pa_nil)) (pa_cons (pe_new MNoBack rfl hr (by omega) rfl (pa_cons (pv 0) pa_nil)) (pa_cons (pe_new MNoVersion rfl hr (by omega) rfl (pa_cons (pv 0) pa_nil)) (pa_cons (pe_new MNoFit rfl hr (by omega) rfl (pa_cons (pv 0) pa_nil)) (pa_cons (pe_new MStuck rfl hr (by omega) rfl (pa_cons (pv 0) pa_nil)) (pa_cons (pe_new MBadQuestion rfl hr (by omega) rfl (pa_cons (pv 0) pa_nil)) pa_nil)))))))))
    (pss_cons (ps_set (i := 1) nd rfl (Or.inl rfl) (pe_op op_cat (pv 1) (pe_lst (pa_cons (pe_new MNoKey rfl hr (by omega) rfl (pa_cons (pv 0) pa_nil)) (pa_cons (pe_new MIsKept rfl hr (by omega) rfl (pa_cons (pv 0) pa_nil)) (pa_cons (pe_new MNotKept rfl hr (by omega) rfl (pa_cons (pv 0) pa_nil)) (pa_cons (pe_new MNoWayBack rfl hr (by omega) rfl (pa_cons (pv 0) pa_nil)) (pa_cons (pe_new MNoStore rfl hr (by omega) rfl (pa_cons (pv 0) pa_nil)) (pa_cons (pe_new MBadRow rfl hr (by omega) rfl (pa_cons (pv 0) pa_nil)) pa_nil)))))))))
    (pss_one (ps_ret (pv 1)))))), ?_⟩
  rw [show start ["_law_words", "_law_result"] [v] = [some v, none] from rfl]
  walk_at "rd3"
  refine new_i rfl fun x0 H0 n0 g0 e0 => ?_
  have S0 := g0
  refine new_i rfl fun x1 H1 n1 g1 e1 => ?_
  have S1 := S0.trans g1
  refine new_i rfl fun x2 H2 n2 g2 e2 => ?_
  have S2 := S1.trans g2
  refine new_i rfl fun x3 H3 n3 g3 e3 => ?_
  have S3 := S2.trans g3
  refine new_i rfl fun x4 H4 n4 g4 e4 => ?_
  have S4 := S3.trans g4
  refine new_i rfl fun x5 H5 n5 g5 e5 => ?_
  have S5 := S4.trans g5
  intro p1 hp1
  have k1 := same_new hp1 (.lst [V.ref x0, V.ref x1, V.ref x2, V.ref x3, V.ref x4, V.ref x5])
  have f1 := upd_same (H := H5) (a := p1) (o := .lst [V.ref x0, V.ref x1, V.ref x2, V.ref x3, V.ref x4, V.ref x5])
  generalize upd H5 p1 _ = J1 at k1 f1 ⊢
  have T6 := S5.trans k1
  refine new_i rfl fun x6 H6 n6 g6 e6 => ?_
  have S6 := T6.trans g6
  refine new_i rfl fun x7 H7 n7 g7 e7 => ?_
  have S7 := S6.trans g7
  refine new_i rfl fun x8 H8 n8 g8 e8 => ?_
  have S8 := S7.trans g8
  refine .inl ⟨v, rfl, fun x9 l H9 n9 g9 hl el e9 => ?_⟩
  have S9 := S8.trans g9
  refine new_i rfl fun x10 H10 n10 g10 e10 => ?_
  have S10 := S9.trans g10
  refine new_i rfl fun x11 H11 n11 g11 e11 => ?_
  have S11 := S10.trans g11
  intro p2 hp2
  have k2 := same_new hp2 (.lst [V.ref x6, V.ref x7, V.ref x8, V.ref x9, V.ref x10, V.ref x11])
  have f2 := upd_same (H := H11) (a := p2) (o := .lst [V.ref x6, V.ref x7, V.ref x8, V.ref x9, V.ref x10, V.ref x11])
  generalize upd H11 p2 _ = J2 at k2 f2 ⊢
  have k12 : Same J1 J2 := g6.trans (g7.trans (g8.trans (g9.trans (g10.trans (g11.trans k2)))))
  refine rCat_s (k12 _ _ f1) f2 (by simp) fun p3 J3 k3 np3 f3 => ?_
  have T12 := S11.trans (k2.trans k3)
  refine new_i rfl fun x12 H12 n12 g12 e12 => ?_
  have S12 := T12.trans g12
  refine new_i rfl fun x13 H13 n13 g13 e13 => ?_
  have S13 := S12.trans g13
  refine new_i rfl fun x14 H14 n14 g14 e14 => ?_
  have S14 := S13.trans g14
  refine new_i rfl fun x15 H15 n15 g15 e15 => ?_
  have S15 := S14.trans g15
  refine new_i rfl fun x16 H16 n16 g16 e16 => ?_
  have S16 := S15.trans g16
  refine new_i rfl fun x17 H17 n17 g17 e17 => ?_
  have S17 := S16.trans g17
  intro p4 hp4
  have k4 := same_new hp4 (.lst [V.ref x12, V.ref x13, V.ref x14, V.ref x15, V.ref x16, V.ref x17])
  have f4 := upd_same (H := H17) (a := p4) (o := .lst [V.ref x12, V.ref x13, V.ref x14, V.ref x15, V.ref x16, V.ref x17])
  generalize upd H17 p4 _ = J4 at k4 f4 ⊢
  have k34 : Same J3 J4 := g12.trans (g13.trans (g14.trans (g15.trans (g16.trans (g17.trans k4)))))
  refine rCat_s (k34 _ _ f3) f4 (by simp) fun p5 J5 k5 np5 f5 => ?_
  have z17 := k4.trans k5
  have z16 := g17.trans z17
  have z15 := g16.trans z16
  have z14 := g15.trans z15
  have z13 := g14.trans z14
  have z12 := g13.trans z13
  have z11 := k2.trans (k3.trans (g12.trans z12))
  have z10 := g11.trans z11
  have z9 := g10.trans z10
  have z8 := g9.trans z9
  have z7 := g8.trans z8
  have z6 := g7.trans z7
  have z5 := k1.trans (g6.trans z6)
  have z4 := g5.trans z5
  have z3 := g4.trans z4
  have z2 := g3.trans z3
  have z1 := g2.trans z2
  have z0 := g1.trans z1
  refine q p5 J5 [x0, x1, x2, x3, x4, x5, x6, x7, x8, x9, x10, x11, x12, x13, x14, x15, x16, x17] l (S17.trans z17) (none_back (S17.trans k4) np5) (none_back S8 hl) (z9 _ _ el) f5 rfl fun i x hx => ?_
  match i, hx with
  | 0, hx => cases hx; exact e0.same z0
  | 1, hx => cases hx; exact e1.same z1
  | 2, hx => cases hx; exact e2.same z2
  | 3, hx => cases hx; exact e3.same z3
  | 4, hx => cases hx; exact e4.same z4
  | 5, hx => cases hx; exact e5.same z5
  | 6, hx => cases hx; exact e6.same z6
  | 7, hx => cases hx; exact e7.same z7
  | 8, hx => cases hx; exact e8.same z8
  | 9, hx => cases hx; exact e9.same z9
  | 10, hx => cases hx; exact e10.same z10
  | 11, hx => cases hx; exact e11.same z11
  | 12, hx => cases hx; exact e12.same z12
  | 13, hx => cases hx; exact e13.same z13
  | 14, hx => cases hx; exact e14.same z14
  | 15, hx => cases hx; exact e15.same z15
  | 16, hx => cases hx; exact e16.same z16
  | 17, hx => cases hx; exact e17.same z17
  | n + 18, hx => simp at hx
end
end K10
namespace K10
open PySem L2 PySem.W
local macro_rules | `(tactic| walk_at "rd") => `(tactic| simp only [cxOf_K, nox_K, compCx_K, tSeq, tNext, tAsg, gName, tRet, tRetN, tIfS, tDrop, tOp, tUn, tVar, tC, tCall, tCons, tNil, tTest, tB, tAnd, tOr, tNot, tAndV, tOrV, tNotV, tIf, tCB, tBM, tComp, tTrue, tPart, tNoPart, tSl, tChain, tIsN, tNotN, tLst, tTup, tFor_eq, sDPut, tDNewK, tNever, rI0, rI, rU, rEq, rNe, rMulS, rInC, iRng1, iStr, CDiv, CMul, CPow, scal, List.append_nil, List.getElem?_cons_zero, List.getElem?_cons_succ, List.set_cons_zero, List.set_cons_succ, List.map_cons, List.map_nil, List.length_cons, List.length_nil, sizeLine_eq, Nat.reduceAdd, Nat.reduceLeDiff, Option.join_some, Option.join_none, Option.some.injEq, V.int.injEq, V.str.injEq, V.bl.injEq, V.ref.injEq, V.ty.injEq, List.cons.injEq, and_true, true_and, and_self, exists_eq_left', exists_eq_left, exists_and_left, exists_and_right, decide_eq_true_eq, Bool.not_eq_eq_eq_not, Bool.not_true, Bool.not_false, decide_eq_false_iff_not, Int.reduceLT, Int.reduceLE, Int.reduceNeg, Int.reducePow, Int.reduceAdd, Int.reduceSub, Int.reduceMul, Int.reduceToNat, natAbs10, Nat.reduceLT, Nat.reducePow, or_true, true_or, if_true, if_false, Bool.false_eq_true, ite_true, ite_false, reduceCtorEq])
local macro_rules | `(tactic| walk_at "rd3") => `(tactic| simp only [tXSetA, tEAt, tNew, gTup, gCons, gNil, iZip, tIsT, tDisp, tPairs, tBM0, iList, iDict, tThaw, tMaxD, rMaxD, tDGet, rVals, tComp, cxOf_K, nox_K, compCx_K, tSeq, tNext, tAsg, gName, tRet, tRetN, tIfS, tDrop, tOp, tUn, tVar, tC, tCall, tCons, tNil, tTest, tB, tAnd, tOr, tNot, tAndV, tOrV, tNotV, tIf, tCB, tBM, tComp, tTrue, tPart, tNoPart, tSl, tChain, tIsN, tNotN, tLst, tTup, tFor_eq, sDPut, tDNewK, tNever, rI0, rI, rU, rEq, rNe, rMulS, rInC, iRng1, iStr, CDiv, CMul, CPow, scal, List.append_nil, List.getElem?_cons_zero, List.getElem?_cons_succ, List.set_cons_zero, List.set_cons_succ, List.map_cons, List.map_nil, List.length_cons, List.length_nil, sizeLine_eq, Nat.reduceAdd, Nat.reduceLeDiff, Option.join_some, Option.join_none, Option.some.injEq, V.int.injEq, V.str.injEq, V.bl.injEq, V.ref.injEq, V.ty.injEq, List.cons.injEq, and_true, true_and, and_self, exists_eq_left', exists_eq_left, exists_and_left, exists_and_right, decide_eq_true_eq, Bool.not_eq_eq_eq_not, Bool.not_true, Bool.not_false, decide_eq_false_iff_not, Int.reduceLT, Int.reduceLE, Int.reduceNeg, Int.reducePow, Int.reduceAdd, Int.reduceSub, Int.reduceMul, Int.reduceToNat, natAbs10, Nat.reduceLT, Nat.reducePow, or_true, true_or, if_true, if_false, Bool.false_eq_true, ite_true, ite_false, reduceCtorEq])
seal L2.PSs L2.PS L2.PE L2.PT L2.PW L2.PA L2.PI L2.PG L2.PGs L2.PPs L2.PTs
abbrev sRight : Stmt := top 29
/-- the fields' names are no names of the classes -/
structure Wn (K : Frag) (d : Nat → Addr) : Prop where
  a1 : findIn K (.ref (d 1)) "at" = some none
  a3 : findIn K (.ref (d 3)) "at" = some none
  n4 : findIn K (.ref (d 4)) "number" = some none
  n6 : findIn K (.ref (d 6)) "number" = some none
  n7 : findIn K (.ref (d 7)) "number" = some none
  f9 : findIn K (.ref (d 9)) "faults" = some none
  v10 : findIn K (.ref (d 10)) "version" = some none
  k10 : findIn K (.ref (d 10)) "key" = some none
theorem lk_v {u v : V} : List.lookup (Str.ofString "version") [(Str.ofString "key", u), (Str.ofString "version", v)] = some v := by
  rw [List.lookup_cons, show (Str.ofString "version" == Str.ofString "key") = false by decide +kernel]
  rfl
theorem lk_k {u v : V} : List.lookup (Str.ofString "key") [(Str.ofString "key", u), (Str.ofString "version", v)] = some u := by
  rw [List.lookup_cons, beq_self_eq_true]
theorem ex_off {H : Hp} {x C a : Addr} {v : V} {fs : List (Str × V)} {ys : List V} {o : HO} (h : Ex H x C v fs) (ha : H a = some (.lst ys)) : Ex (upd H a o) x C v fs := by
  have k : ∀ b u, H b = some u → (∀ zs, u ≠ .lst zs) → upd H a o b = some u := fun b u e n => by
    rw [upd_ne (fun z => by rw [z, ha] at e; cases e; exact n _ rfl)]; exact e
  obtain ⟨tt, h1, h2⟩ := h
  refine ⟨tt, k _ _ h1 (fun _ z => by cases z), h2.imp (fun ⟨e, h⟩ => ⟨e, k _ _ h (fun _ z => by cases z)⟩) fun ⟨d, h, h'⟩ => ⟨d, k _ _ h (fun _ z => by cases z), k _ _ h' (fun _ z => by cases z)⟩⟩
section
variable {P : Program} {w : World} {K : PySem.W.Frag} {mg : Str → Option Value} {base : Heap} {f : Addr} {fd : FuncData} {d : Nat → Addr}
def spRight : Sp := fun vs H Q _ => ∃ (x : Str) (n y : Int) (k t1 a1 : Addr) (z1 : V) (x1 : Str) (t2 a2 : Addr) (z2 : V) (x2 : Str), vs = [.str x, .int n, .int y, .ref k] ∧ H k = some (.lst [.ref t1, .ref t2]) ∧ Pr H t1 a1 z1 x1 ∧ Pr H t2 a2 z2 x2 ∧ Leaf z1 ∧ Leaf z2 ∧ ∀ H', Q (.bl true) H'
theorem scRight : FnScope ["_law_words", "_law_number", "_law_key", "_law_wrongs", "_law_errors", "_law_stuck", "_law_kept", "_law_error"] ["_law_words", "_law_number", "_law_key", "_law_wrongs"] (defScope sRight) := ⟨rfl, rfl, rfl, by decide +kernel, rfl, by decide +kernel, by decide +kernel⟩
theorem ok_right (F : Fun K "_law_fields_right" "_law_fields_right" sRight f fd) (B : Bl mg) (Y : Wk K d) (N : Wn K d) (G_law_made : Dn P w K mg base 6 "_law_made" ["_law_words"] (spMade d)) (MTooGreat : Es P w K mg base 0 "TooGreat" (d 0) (spNew (d 0) gOne)) (MBadText : Es P w K mg base 2 "BadText" (d 1) (spNew (d 1) (gFld "at"))) (MBadPath : Es P w K mg base 0 "BadPath" (d 2) (spNew (d 2) gOne)) (MNoPlace : Es P w K mg base 2 "NoPlace" (d 3) (spNew (d 3) (gFld "at"))) (MNoDeed : Es P w K mg base 2 "NoDeed" (d 4) (spNew (d 4) (gFld "number"))) (MNoneFits : Es P w K mg base 0 "NoneFits" (d 5) (spNew (d 5) gOne)) (MCantMove : Es P w K mg base 2 "CantMove" (d 6) (spNew (d 6) (gFld "number"))) (MNoBack : Es P w K mg base 2 "NoBack" (d 7) (spNew (d 7) (gFld "number"))) (MNoVersion : Es P w K mg base 0 "NoVersion" (d 8) (spNew (d 8) gOne)) (MNoFit : Es P w K mg base 5 "NoFit" (d 9) (spNF (d 9))) (MStuck : Es P w K mg base 2 "Stuck" (d 10) (spNew (d 10) (gTwo "version" "key"))) (MBadQuestion : Es P w K mg base 0 "BadQuestion" (d 11) (spNew (d 11) gOne)) (MNoKey : Es P w K mg base 0 "NoKey" (d 12) (spNew (d 12) gOne)) (MIsKept : Es P w K mg base 0 "IsKept" (d 13) (spNew (d 13) gOne)) (MNotKept : Es P w K mg base 0 "NotKept" (d 14) (spNew (d 14) gOne)) (MNoWayBack : Es P w K mg base 0 "NoWayBack" (d 15) (spNew (d 15) gOne)) (MNoStore : Es P w K mg base 0 "NoStore" (d 16) (spNew (d 16) gOne)) (MBadRow : Es P w K mg base 0 "BadRow" (d 17) (spNew (d 17) gOne)) : FnOk P w K mg base CX0 7 f fd ["_law_words", "_law_number", "_law_key", "_law_wrongs"] spRight := by
  refine F.ok scRight (fun vs H Q E h => ?_) (fun cdv A outer s H vs Q E hr h => ?_)
  · obtain ⟨x, n, y, k, t1, a1, z1, x1, t2, a2, z2, x2, rfl, _⟩ := h
    rfl
  obtain ⟨x, n, y, k, t1, a1, z1, x1, t2, a2, z2, x2, rfl, hk, r1, r2, lf1, lf2, q⟩ := h
  have nd := scRight.nd
  have hu0 := hr.units0
  have hu := hu_of hr
  have hu64 := hr.units
  refine ⟨_, (pss_cons (ps_set (i := 4) nd rfl (Or.inl rfl) (pe_cd G_law_made hr (by omega) rfl (pa_cons (pv 0) pa_nil)))
    (pss_cons (ps_if (PW.pt (pw_or (pt_cmpR op_ne (pe_eat (pe_ix ix_list (pv 4) pe_int (fun _ _ => rfl))) pe_int (nomark _)) (pw_or (pt_cmpR op_ne (pe_eat (pe_ix ix_list (pv 4) pe_int (fun _ _ => rfl))) pe_int (nomark _)) (pw_or (pt_cmpR op_ne (pe_eat (pe_ix ix_list (pv 4) pe_int (fun _ _ => rfl))) pe_int (nomark _)) (pw_or1 (pt_cmpR op_ne (pe_eat (pe_ix ix_list (pv 4) pe_int (fun _ _ => rfl))) pe_int (nomark _))))))) (pss_one (ps_ret pe_bl)) pss_nil)
    (pss_cons (ps_if (pt_cmpR op_ne (pe_eat (pe_ix ix_list (pv 4) pe_int (fun _ _ => rfl))) pe_int (nomark _)) (pss_one (ps_ret pe_bl)) pss_nil)
    (pss_cons (ps_if (PW.pt (pw_or (pt_cmpR (op_ne_l hu0) (pe_eat (pe_ix ix_list (pv 4) pe_int (fun _ _ => rfl))) (pe_lst pa_nil) (nomark _)) (pw_or (pt_cmpR op_ne (pe_eat (pe_ix ix_list (pv 4) pe_int (fun _ _ => rfl))) pe_int (nomark _)) (pw_or1 (pt_cmp (pc_notN (pe_eat (pe_ix ix_list (pv 4) pe_int (fun _ _ => rfl))))))))) (pss_one (ps_ret pe_bl)) pss_nil)
    (pss_cons (ps_expr (pe_bm PySem.F.plainAttrs_list PySem.F.slot_list_append PySem.F.type_list_append mt_append (pe_eat (pe_ix ix_list (pv 4) pe_int (fun _ _ => rfl))) (pa_cons pe_int pa_nil)))
    (pss_cons (ps_if (PW.pt (pw_or (pt_cmpR (op_ne_l hu0) (pe_eat (pe_new MNoFit rfl hr (by omega) rfl (pa_cons (pv 0) pa_nil))) (pe_lst pa_nil) (nomark _)) (pw_or (pt_cmpR op_ne (pe_eat (pe_new MBadText rfl hr (by omega) rfl (pa_cons (pv 0) (pa_cons (pv 1) pa_nil)))) (pv 1) (nomark _)) (pw_or1 (pt_cmpR op_ne (pe_eat (pe_new MNoPlace rfl hr (by omega) rfl (pa_cons (pv 0) (pa_cons (pv 1) pa_nil)))) (pv 1) (nomark _)))))) (pss_one (ps_ret pe_bl)) pss_nil)
    (pss_cons (ps_if (PW.pt (pw_or (pt_cmpR op_ne (pe_eat (pe_new MNoDeed rfl hr (by omega) rfl (pa_cons (pv 0) (pa_cons (pv 1) pa_nil)))) (pv 1) (nomark _)) (pw_or1 (pt_cmpR op_ne (pe_eat (pe_new MCantMove rfl hr (by omega) rfl (pa_cons (pv 0) (pa_cons (pv 1) pa_nil)))) (pv 1) (nomark _))))) (pss_one (ps_ret pe_bl)) pss_nil)
    (pss_cons (ps_set (i := 5) nd rfl (Or.inl rfl) (pe_new MStuck rfl hr (by omega) rfl (pa_cons (pv 0) (pa_cons (pv 1) (pa_cons (pv 2) pa_nil)))))
    (pss_cons (ps_comp (i := 6) nd rfl (Or.inl rfl) (own := ["_law_wrong"]) (F := []) ⟨rfl, by with_unfolding_all rfl, by with_unfolding_all rfl, by with_unfolding_all rfl, .nil⟩ rfl (pi_list (pv 3)) (fun _ _ _ _ => pg_name (i := 0) (by show (compN ["_law_wrong"] []).Nodup; decide +kernel) rfl (Or.inl rfl)) (fun _ _ _ _ => pts_nil) (fun _ _ _ _ => (pe_tup (pa_cons (pe_callTy (call_list_ofC (K := K) rfl) rfl B.list bt_list (pa_cons (pe_ix (ix_tupC (K := K) rfl) (pv 0) pe_int (fun _ _ => rfl)) pa_nil)) (pa_cons (pe_ix (ix_tupC (K := K) rfl) (pv 0) pe_int (fun _ _ => rfl)) pa_nil)))))
    (pss_cons (ps_set (i := 7) nd rfl (Or.inl rfl) (pe_new MNoFit rfl hr (by omega) rfl (pa_cons (pv 0) (pa_cons (pv 3) pa_nil))))
    (pss_cons (ps_if (PW.pt (pw_or (pt_cmpR op_ne (pe_eat (pe_new MNoBack rfl hr (by omega) rfl (pa_cons (pv 0) (pa_cons (pv 1) pa_nil)))) (pv 1) (nomark _)) (pw_or (pt_cmpR (op_ne_F hu64) (pe_eat (pv 7)) (pv 6) (nomark _)) (pw_or1 (pt_not (pt_val (pe_callB (call_isi (T := "list") (by decide)) rfl B.isinstance bt_isinstance (pa_cons (pe_eat (pv 7)) (pa_cons (pe_bltn (v := .ty "list") rfl B.list bt_list rfl) pa_nil))))))))) (pss_one (ps_ret pe_bl)) pss_nil)
    (pss_cons (ps_expr (pe_bm PySem.F.plainAttrs_list PySem.F.slot_list_append PySem.F.type_list_append mt_append (pe_ix ix_tup (pe_ix ix_list (pv 3) pe_int (fun _ _ => rfl)) pe_int (fun _ _ => rfl)) (pa_cons pe_str pa_nil)))
    (pss_cons (ps_expr (pe_bm PySem.F.plainAttrs_list PySem.F.slot_list_append PySem.F.type_list_append mt_append (pv 3) (pa_cons pe_int pa_nil)))
    (pss_cons (ps_if (pt_cmpR (op_ne_F hu64) (pe_eat (pv 7)) (pv 6) (nomark _)) (pss_one (ps_ret pe_bl)) pss_nil)
    (pss_one (ps_ret (pe_and (pe_cmpR op_eq (pe_eat (pv 5)) (pv 1) (nomark _)) (pe_and (pe_cmpR op_eq (pe_eat (pv 5)) (pv 2) (nomark _)) (pe_one (pe_cmp (pc_isN (pe_eat (pe_new MStuck rfl hr (by omega) rfl (pa_cons (pv 0) (pa_cons (pv 1) pa_nil))))))))))))))))))))))))), ?_⟩
  rw [show start ["_law_words", "_law_number", "_law_key", "_law_wrongs", "_law_errors", "_law_stuck", "_law_kept", "_law_error"] [.str x, .int n, .int y, .ref k] = [some (.str x), some (.int n), some (.int y), some (.ref k), none, none, none, none] from rfl]
  walk_at "rd3"
  refine ⟨.str x, rfl, fun p H1 xs l g1 np nl el ep hlen hE => ?_⟩
  obtain ⟨x0, y0, y1, y2, y3, y4, y5, y6, y7, y8, y9, y10, y11, y12, y13, y14, y15, y16, rfl⟩ : ∃ b0 b1 b2 b3 b4 b5 b6 b7 b8 b9 b10 b11 b12 b13 b14 b15 b16 b17, xs = [b0, b1, b2, b3, b4, b5, b6, b7, b8, b9, b10, b11, b12, b13, b14, b15, b16, b17] := by
    match xs, hlen with
    | [b0, b1, b2, b3, b4, b5, b6, b7, b8, b9, b10, b11, b12, b13, b14, b15, b16, b17], _ => exact ⟨_, _, _, _, _, _, _, _, _, _, _, _, _, _, _, _, _, _, rfl⟩
  have L1 := SqL.of (K := K) ep
  refine rIxL_i L1 (atI_nat (j := 1) rfl) (rEAt_i (hE 1 _ rfl) (Y.G 1 (by decide)) N.a1 rfl ⟨rfl, false, by decide, iN (by decide) ?_⟩)
  refine rIxL_i L1 (atI_nat (j := 3) rfl) (rEAt_i (hE 3 _ rfl) (Y.G 3 (by decide)) N.a3 rfl ⟨rfl, false, by decide, iN (by decide) ?_⟩)
  refine rIxL_i L1 (atI_nat (j := 4) rfl) (rEAt_i (hE 4 _ rfl) (Y.G 4 (by decide)) N.n4 rfl ⟨rfl, false, by decide, iN (by decide) ?_⟩)
  refine rIxL_i L1 (atI_nat (j := 6) rfl) (rEAt_i (hE 6 _ rfl) (Y.G 6 (by decide)) N.n6 rfl ⟨rfl, false, by decide, iN (by decide) ?_⟩)
  refine rIxL_i L1 (atI_nat (j := 7) rfl) (rEAt_i (hE 7 _ rfl) (Y.G 7 (by decide)) N.n7 rfl ⟨rfl, false, by decide, iN (by decide) ?_⟩)
  refine rIxL_i L1 (atI_nat (j := 9) rfl) (rEAt_i (hE 9 _ rfl) (Y.G 9 (by decide)) N.f9 rfl fun p2 hp2 => ?_)
  have s0 := same_new hp2 (.lst [])
  have e0 := upd_same (H := H1) (a := p2) (o := .lst [])
  generalize upd H1 p2 _ = J0 at s0 e0 ⊢
  have L0 := SqL.of (K := K) (s0 _ _ ep)
  have el0 := s0 _ _ el
  refine ⟨l, p2, [], [], rfl, rfl, SqL.of el0, SqL.of e0, rfl, rfl, _, rfl, iN (by decide) ?_⟩
  refine rIxL_i L0 (atI_nat (j := 10) rfl) (rEAt_i ((hE 10 _ rfl).same s0) (Y.G 10 (by decide)) N.v10 lk_v ⟨rfl, false, by decide, iN (by decide) ?_⟩)
  refine rIxL_i L0 (atI_nat (j := 10) rfl) (rEAt_i ((hE 10 _ rfl).same s0) (Y.G 10 (by decide)) N.k10 lk_k ⟨false, by decide, iN (by decide) ?_⟩)
  refine rIxL_i L0 (atI_nat (j := 9) rfl) (rEAt_i ((hE 9 _ rfl).same s0) (Y.G 9 (by decide)) N.f9 rfl ⟨.inl ⟨rfl, _, SqL.of el0⟩, l, _, _, rfl, rfl, el0, by rw [sizeLine_eq]; simp, ?_⟩)
  have gJ : Same H (upd J0 l (.lst ([] ++ [V.int 1]))) := fun b o e => by rw [upd_ne (ne_of_none e nl)]; exact s0 _ _ (g1 _ _ e)
  generalize upd J0 l (.lst ([] ++ [V.int 1])) = J1 at gJ ⊢
  refine .inl ⟨.str x, rfl, fun xa la H2 na ga nla ela ea => rEAt_i ea (Y.G 9 (by decide)) N.f9 rfl fun p3 hp3 => ?_⟩
  have s3 := same_new hp3 (.lst [])
  have e3 := upd_same (H := H2) (a := p3) (o := .lst [])
  generalize upd H2 p3 _ = H3 at s3 e3 ⊢
  have S3 := gJ.trans (ga.trans s3)
  refine ⟨la, p3, [], [], rfl, rfl, SqL.of (s3 _ _ ela), SqL.of e3, rfl, rfl, _, rfl, iN (by decide) ?_⟩
  refine new_i rfl fun xb H4 n4 g4 e4 => rEAt_i e4 (Y.G 1 (by decide)) N.a1 rfl ⟨rfl, false, by simp, iN (by decide) ?_⟩
  refine new_i rfl fun xc H5 n5 g5 e5 => rEAt_i e5 (Y.G 3 (by decide)) N.a3 rfl ⟨rfl, false, by simp, iN (by decide) ?_⟩
  refine new_i rfl fun xd H6 n6 g6 e6 => rEAt_i e6 (Y.G 4 (by decide)) N.n4 rfl ⟨rfl, false, by simp, iN (by decide) ?_⟩
  refine new_i rfl fun xf H6' n6' g6' e6' => rEAt_i e6' (Y.G 6 (by decide)) N.n6 rfl ⟨rfl, false, by simp, iN (by decide) ?_⟩
  refine new_i rfl fun xg H7 n7 g7 e7 => ?_
  have S7 : Same H H7 := S3.trans (g4.trans (g5.trans (g6.trans (g6'.trans g7))))
  have hk7 := S7 _ _ hk
  refine ⟨⟨_, SqL.of hk7⟩, comp_list (K := K) (xs := [.ref t1, .ref t2]) (fun i ys H' => Same H7 H' ∧ ((i = 0 ∧ ys = []) ∨ ∃ q1 m1, H7 m1 = none ∧ Pr H' q1 m1 z1 x1 ∧ ((i = 1 ∧ ys = [.ref q1]) ∨ ∃ q2 m2, H7 m2 = none ∧ Pr H' q2 m2 z2 x2 ∧ i = 2 ∧ ys = [.ref q1, .ref q2]))) (by rw [sizeLine_eq]; simp) ⟨Same.refl _, .inl ⟨rfl, rfl⟩⟩ (fun i ys H' _ h => SqL.of (h.1 _ _ hk7)) ?_ ?_⟩
  · have one : ∀ {H' : Hp} {t a : Addr} {z : V} {xx : Str} {Q' : VK}, Same H7 H' → Pr H' t a z xx → (∀ p' m H2, Same H' H2 → H' m = none → Pr H2 p' m z xx → Q' (.ref p') H2) → tTup (tCons (tCB (rListOf K) (tCons (tOp (rIxT K) (tVar 0) (tC (V.int 0))) tNil)) (tCons (tOp (rIxT K) (tVar 0) (tC (V.int 1))) tNil)) [some (.ref t)] H' Q' := fun {H' t a z xx Q'} g h q' => by
      walk_at "rd3"
      refine rIxT_i (SqT.of h.1) (atI_nat (j := 0) rfl) ⟨a, _, rfl, .inl (SqL.of h.2), fun m hm => rIxT_i (SqT.of (same_new hm _ _ _ h.1)) (atI_nat (j := 1) rfl) fun p' hp' => ?_⟩
      exact q' p' m _ ((same_new hm _).trans (same_new hp' _)) hm ⟨upd_same, same_new hp' _ _ _ upd_same⟩
    rintro i v ys H' hv _ ⟨g, h⟩
    rcases h with ⟨rfl, rfl⟩ | ⟨q1, m1, hm1, hq1, ⟨rfl, rfl⟩ | ⟨q2, m2, hm2, hq2, rfl, rfl⟩⟩
    · cases hv
      simp only [tTrue, if_true]
      exact one g ((r1.same S7).same g) fun p' m H8 g8 hm hp' => ⟨g.trans g8, .inr ⟨p', m, none_back g hm, hp', .inl ⟨trivial, rfl⟩⟩⟩
    · cases hv
      simp only [tTrue, if_true]
      exact one g ((r2.same S7).same g) fun p' m H8 g8 hm hp' => ⟨g.trans g8, .inr ⟨q1, m1, hm1, hq1.same g8, .inr ⟨p', m, none_back g hm, hp', trivial, rfl⟩⟩⟩
    · cases hv
  rintro ys H' _ ⟨g, h⟩ kp hkp
  rcases h with ⟨h, _⟩ | ⟨q1, m1, hm1, hq1, ⟨h, _⟩ | ⟨q2, m2, hm2, hq2, _, rfl⟩⟩
  · cases h
  · cases h
  have s8 := same_new hkp (.lst [.ref q1, .ref q2])
  have e8 := upd_same (H := H') (a := kp) (o := .lst [.ref q1, .ref q2])
  have nkp7 := none_back g hkp
  generalize upd H' kp _ = J8 at s8 e8 ⊢
  have G8 := g.trans s8
  have S8 := S7.trans G8
  have hm1' := hm1
  refine .inr ⟨.str x, k, t1, a1, z1, x1, t2, a2, z2, x2, rfl, S8 _ _ hk, r1.same S8, r2.same S8, lf1, lf2, fun xe le p1 l1 p2 l2 H9 n9 g9 nle nl1 nl2 ele ep1 ep2 ee => ?_⟩
  refine new_i rfl fun xh H10 n10 g10 e10 => rEAt_i e10 (Y.G 7 (by decide)) N.n7 rfl ⟨rfl, false, by simp, iN (by decide) ?_⟩
  have g8' := g9.trans g10
  have S10 := S8.trans g8'
  have hq1' := (hq1.same s8).same g8'
  have hq2' := (hq2.same s8).same g8'
  have ep1' := ep1.same g10
  have ep2' := ep2.same g10
  refine rEAt_i (ee.same g10) (Y.G 9 (by decide)) N.f9 rfl ⟨le, kp, p1, p2, q1, q2, l1, l2, m1, m2, z1, z2, x1, x2, rfl, rfl, g10 _ _ ele, g8' _ _ e8, ep1', hq1', ep2', hq2', lf1, lf2, false, rfl, iN (by decide) ?_⟩
  refine rEAt_i (ee.same g10) (Y.G 9 (by decide)) N.f9 rfl ⟨"list", tyS_lst (g10 _ _ ele), iN (by decide) ?_⟩
  have ht1 := S10 _ _ r1.1
  have ha1 := S10 _ _ r1.2
  have hk10 := S10 _ _ hk
  refine rIxL_i (SqL.of hk10) (atI_nat (j := 0) rfl) (rIxT_i (SqT.of ht1) (atI_nat (j := 0) rfl) ⟨.inl ⟨rfl, _, SqL.of ha1⟩, a1, _, _, rfl, rfl, ha1, by rw [sizeLine_eq]; simp, ?_⟩)
  have nka : k ≠ a1 := fun e => by rw [e, r1.2] at hk; cases hk
  have hk11 : upd H10 a1 (.lst ([z1] ++ [V.str (Str.ofString "x")])) k = some (.lst [.ref t1, .ref t2]) := by rw [upd_ne nka]; exact hk10
  refine ⟨.inl ⟨rfl, _, SqL.of hk11⟩, k, _, _, rfl, rfl, hk11, by rw [sizeLine_eq]; simp, ?_⟩
  have keep : ∀ {b : Addr} {o : HO}, H10 b = some o → b ≠ a1 → b ≠ k → upd (upd H10 a1 (.lst ([z1] ++ [V.str (Str.ofString "x")]))) k (.lst ([.ref t1, .ref t2] ++ [V.int 1])) b = some o := fun {b o} e h1 h2 => by
    rw [upd_ne h2, upd_ne h1]; exact e
  have kex : ∀ {b C' : Addr} {v : V} {fs : List (Str × V)}, Ex H10 b C' v fs → Ex (upd (upd H10 a1 (.lst ([z1] ++ [V.str (Str.ofString "x")]))) k (.lst ([.ref t1, .ref t2] ++ [V.int 1]))) b C' v fs := fun {b C' v fs} e => ex_off (ex_off e ha1) hk11
  have kpr : ∀ {b m : Addr} {z : V} {xx : Str}, Pr H10 b m z xx → m ≠ a1 → m ≠ k → Pr (upd (upd H10 a1 (.lst ([z1] ++ [V.str (Str.ofString "x")]))) k (.lst ([.ref t1, .ref t2] ++ [V.int 1]))) b m z xx := fun {b m z xx} h h1 h2 => ⟨keep h.1 (fun e => by rw [e] at h; rw [h.1] at ha1; cases ha1) (fun e => by rw [e] at h; rw [h.1] at hk10; cases hk10), keep h.2 h1 h2⟩
  generalize upd (upd H10 a1 (.lst ([z1] ++ [V.str (Str.ofString "x")]))) k (.lst ([.ref t1, .ref t2] ++ [V.int 1])) = J12 at keep kex kpr ⊢
  have a8 := S8 _ _ r1.2
  have k8 := S8 _ _ hk
  have a7 := S7 _ _ r1.2
  have nn : ∀ {b c : Addr} {H0 : Hp} {o : HO}, H0 b = none → H0 c = some o → b ≠ c := fun {b c H0 o} h1 h2 e => by rw [e, h2] at h1; cases h1
  refine rEAt_i (kex (ee.same g10)) (Y.G 9 (by decide)) N.f9 rfl ⟨le, kp, p1, p2, q1, q2, l1, l2, m1, m2, z1, z2, x1, x2, rfl, rfl, keep (g10 _ _ ele) (nn nle a8) (nn nle k8), keep (g8' _ _ e8) (nn nkp7 a7) (nn nkp7 hk7), kpr ep1' (nn nl1 a8) (nn nl1 k8), kpr hq1' (nn hm1 a7) (nn hm1 hk7), kpr ep2' (nn nl2 a8) (nn nl2 k8), kpr hq2' (nn hm2 a7) (nn hm2 hk7), lf1, lf2, false, rfl, iN (by decide) ?_⟩
  have e12 := kex ((e7.same G8).same g8')
  refine rEAt_i e12 (Y.G 10 (by decide)) N.v10 lk_v ⟨rfl, iP rfl (rEAt_i e12 (Y.G 10 (by decide)) N.k10 lk_k ⟨rfl, iP rfl ?_⟩)⟩
  exact new_i rfl fun xf H13 nf gf ef => rEAt_i ef (Y.G 10 (by decide)) N.k10 lk_k (q H13)
end
end K10
namespace K10
open PySem L2 PySem.W
local macro_rules | `(tactic| walk_at "rd") => `(tactic| simp only [cxOf_K, nox_K, compCx_K, tSeq, tNext, tAsg, gName, tRet, tRetN, tIfS, tDrop, tOp, tUn, tVar, tC, tCall, tCons, tNil, tTest, tB, tAnd, tOr, tNot, tAndV, tOrV, tNotV, tIf, tCB, tBM, tComp, tTrue, tPart, tNoPart, tSl, tChain, tIsN, tNotN, tLst, tTup, tFor_eq, sDPut, tDNewK, tNever, rI0, rI, rU, rEq, rNe, rMulS, rInC, iRng1, iStr, CDiv, CMul, CPow, scal, List.append_nil, List.getElem?_cons_zero, List.getElem?_cons_succ, List.set_cons_zero, List.set_cons_succ, List.map_cons, List.map_nil, List.length_cons, List.length_nil, sizeLine_eq, Nat.reduceAdd, Nat.reduceLeDiff, Option.join_some, Option.join_none, Option.some.injEq, V.int.injEq, V.str.injEq, V.bl.injEq, V.ref.injEq, V.ty.injEq, List.cons.injEq, and_true, true_and, and_self, exists_eq_left', exists_eq_left, exists_and_left, exists_and_right, decide_eq_true_eq, Bool.not_eq_eq_eq_not, Bool.not_true, Bool.not_false, decide_eq_false_iff_not, Int.reduceLT, Int.reduceLE, Int.reduceNeg, Int.reducePow, Int.reduceAdd, Int.reduceSub, Int.reduceMul, Int.reduceToNat, natAbs10, Nat.reduceLT, Nat.reducePow, or_true, true_or, if_true, if_false, Bool.false_eq_true, ite_true, ite_false, reduceCtorEq])
local macro_rules | `(tactic| walk_at "rd3") => `(tactic| simp only [tXSetA, tEAt, tNew, gTup, gCons, gNil, iZip, tIsT, tDisp, tPairs, tBM0, iList, iDict, tThaw, tMaxD, rMaxD, tDGet, rVals, tComp, cxOf_K, nox_K, compCx_K, tSeq, tNext, tAsg, gName, tRet, tRetN, tIfS, tDrop, tOp, tUn, tVar, tC, tCall, tCons, tNil, tTest, tB, tAnd, tOr, tNot, tAndV, tOrV, tNotV, tIf, tCB, tBM, tComp, tTrue, tPart, tNoPart, tSl, tChain, tIsN, tNotN, tLst, tTup, tFor_eq, sDPut, tDNewK, tNever, rI0, rI, rU, rEq, rNe, rMulS, rInC, iRng1, iStr, CDiv, CMul, CPow, scal, List.append_nil, List.getElem?_cons_zero, List.getElem?_cons_succ, List.set_cons_zero, List.set_cons_succ, List.map_cons, List.map_nil, List.length_cons, List.length_nil, sizeLine_eq, Nat.reduceAdd, Nat.reduceLeDiff, Option.join_some, Option.join_none, Option.some.injEq, V.int.injEq, V.str.injEq, V.bl.injEq, V.ref.injEq, V.ty.injEq, List.cons.injEq, and_true, true_and, and_self, exists_eq_left', exists_eq_left, exists_and_left, exists_and_right, decide_eq_true_eq, Bool.not_eq_eq_eq_not, Bool.not_true, Bool.not_false, decide_eq_false_iff_not, Int.reduceLT, Int.reduceLE, Int.reduceNeg, Int.reducePow, Int.reduceAdd, Int.reduceSub, Int.reduceMul, Int.reduceToNat, natAbs10, Nat.reduceLT, Nat.reducePow, or_true, true_or, if_true, if_false, Bool.false_eq_true, ite_true, ite_false, reduceCtorEq])
seal L2.PSs L2.PS L2.PE L2.PT L2.PW L2.PA L2.PI L2.PG L2.PGs L2.PPs L2.PTs
abbrev sLaw : Stmt := top 30
theorem bt_VE : bootBuiltins "ValueError" = some (.type "ValueError") := by decide +kernel
theorem flat_f (f : Nat → Bool) : ∀ l : List Nat, (l.map fun j => V.bl (f j)).all flatV = true
  | [] => rfl
  | j :: l => by
    rw [List.map_cons, List.all_cons, flat_f f l]
    rfl
theorem eq_f (f : Nat → Bool) : ∀ l : List Nat, eqLs (l.map fun j => V.bl (f j)) (l.map fun j => V.bl (f j)) = true
  | [] => rfl
  | j :: l => by
    rw [List.map_cons, eqLs, eq_f f l]
    cases f j <;> rfl
section
variable {P : Program} {w : World} {K : PySem.W.Frag} {mg : Str → Option Value} {base : Heap} {f : Addr} {fd : FuncData} {d : Nat → Addr}
def spLaw (K : PySem.W.Frag) : Sp := fun vs H Q _ => ∃ (a : Addr) (ns : List Int), vs = [.ref a] ∧ SqL K H a (ns.map V.int) ∧ ns.length ≤ 63 ∧ ∀ H', Q (.bl true) H'
theorem scLaw : FnScope ["_law_script", "_law_words", "_law_errors", "_law_k", "_law_flags_here", "_law_wrongs"] ["_law_script"] (defScope sLaw) := ⟨rfl, rfl, rfl, by decide +kernel, rfl, by decide +kernel, by decide +kernel⟩
theorem ok_law (F : Fun K "law" "law" sLaw f fd) (B : Bl mg) (mV : mg "ValueError" = none) (W : Wf mg d) (Y : Wk K d) (G_law_cell : Dn P w K mg base 1 "_law_cell" ["_law_script", "_law_k"] (spCell K)) (G_law_name_by : Dn P w K mg base 1 "_law_name_by" ["_law_more"] spName) (G_law_text_by : Dn P w K mg base 2 "_law_text_by" ["_law_more"] spText)
    (G_law_made : Dn P w K mg base 6 "_law_made" ["_law_words"] (spMade d)) (G_law_flags : Dn P w K mg base 1 "_law_flags" ["_law_e"] (spFlags d)) (G_law_fields_right : Dn P w K mg base 7 "_law_fields_right" ["_law_words", "_law_number", "_law_key", "_law_wrongs"] spRight) : FnOk P w K mg base CX0 8 f fd ["_law_script"] (spLaw K) := by
  refine F.ok scLaw (fun vs H Q E h => ?_) (fun cdv A outer s H vs Q E hr h => ?_)
  · obtain ⟨a, ns, rfl, _⟩ := h
    rfl
  obtain ⟨a, ns, rfl, hS, h63, q⟩ := h
  have nd := scLaw.nd
  have hu0 := hr.units0
  have hu := hu_of hr
  have hu64 := hr.units
  refine ⟨_, (pss_cons (ps_set (i := 1) nd rfl (Or.inl rfl) (pe_cd G_law_text_by hr (by omega) rfl (pa_cons (pe_cd G_law_cell hr (by omega) rfl (pa_cons (pv 0) (pa_cons pe_int pa_nil))) pa_nil)))
    (pss_cons (ps_set (i := 2) nd rfl (Or.inl rfl) (pe_cd G_law_made hr (by omega) rfl (pa_cons (pv 1) pa_nil)))
    (pss_cons (ps_for PassesOwn.never rfl (pi_range1 rfl B.range (pa_cons (pe_callB call_len_l rfl B.len bt_len (pa_cons (pv 2) pa_nil)) pa_nil)) (pg_name (i := 3) nd rfl (Or.inr rfl)) (pss_cons (ps_set (i := 4) nd rfl (Or.inl rfl) (pe_cd G_law_flags hr (by omega) rfl (pa_cons (pe_ix ix_list (pv 2) (pv 3) (fun _ _ => rfl)) pa_nil)))
    (pss_cons (ps_if (pt_cmpR (op_ne_l hu0) (pv 4) (pe_comp (own := ["_law_j"]) (F := [("_law_k", 3)]) ⟨rfl, by with_unfolding_all rfl, by with_unfolding_all rfl, by with_unfolding_all rfl, (.cons rfl rfl rfl .nil)⟩ rfl (pi_range1 rfl B.range (pa_cons (pe_callB call_len_l rfl B.len bt_len (pa_cons (pv 2) pa_nil)) pa_nil)) (fun _ _ _ _ => pg_name (i := 0) (by show (compN ["_law_j"] [("_law_k", 3)]).Nodup; decide +kernel) rfl (Or.inl rfl)) (fun _ _ _ _ => pts_nil) (fun _ _ _ _ => (pe_cmpR op_eq (pv 0) (pv 1) (nomark _)))) (nomark _)) (pss_one (ps_ret pe_bl)) pss_nil)
    (pss_cons (ps_if (PW.pt (pw_or (pt_not (pt_val (pe_callB call_eis rfl B.isinstance bt_isinstance (pa_cons (pe_ix ix_list (pv 2) (pv 3) (fun _ _ => rfl)) (pa_cons (pe_glob (v := .ref (d 18)) rfl W.m18 rfl) pa_nil))))) (pw_or1 (pt_not (pt_val (pe_callB call_eit rfl B.isinstance bt_isinstance (pa_cons (pe_ix ix_list (pv 2) (pv 3) (fun _ _ => rfl)) (pa_cons (pe_bltn (v := .ty "ValueError") rfl mV bt_VE rfl) pa_nil)))))))) (pss_one (ps_ret pe_bl)) pss_nil)
    (pss_one (ps_if (pt_cmpR op_ne (pe_callTy (call_xstr hr) rfl B.str bt_str (pa_cons (pe_ix ix_list (pv 2) (pv 3) (fun _ _ => rfl)) pa_nil)) (pv 1) (nomark _)) (pss_one (ps_ret pe_bl)) pss_nil))))))
    (pss_cons (ps_set (i := 5) nd rfl (Or.inl rfl) (pe_lst (pa_cons (pe_tup (pa_cons (pe_lst (pa_cons (pe_cd G_law_name_by hr (by omega) rfl (pa_cons (pe_cd G_law_cell hr (by omega) rfl (pa_cons (pv 0) (pa_cons pe_int pa_nil))) pa_nil)) pa_nil)) (pa_cons pe_str pa_nil))) (pa_cons (pe_tup (pa_cons (pe_lst (pa_cons (pe_op op_mod (pe_cd G_law_cell hr (by omega) rfl (pa_cons (pv 0) (pa_cons pe_int pa_nil))) pe_int) pa_nil)) (pa_cons pe_str pa_nil))) pa_nil))))
    (pss_one (ps_ret (pe_cd G_law_fields_right hr (by omega) rfl (pa_cons (pv 1) (pa_cons (pe_op op_mod (pe_cd G_law_cell hr (by omega) rfl (pa_cons (pv 0) (pa_cons pe_int pa_nil))) pe_int) (pa_cons (pe_op op_mod (pe_cd G_law_cell hr (by omega) rfl (pa_cons (pv 0) (pa_cons pe_int pa_nil))) pe_int) (pa_cons (pv 5) pa_nil))))))))))), ?_⟩
  rw [show start ["_law_script", "_law_words", "_law_errors", "_law_k", "_law_flags_here", "_law_wrongs"] [.ref a] = [some (.ref a), none, none, none, none, none] from rfl]
  walk_at "rd3"
  refine spCell_i hS h63 (by decide) (by decide) fun H1 g1 => ?_
  have c00 := cellF_lo ns 0
  have c01 := cellF_hi ns 0
  refine ⟨_, rfl, c00, by omega, fun x hx H2 g2 => ⟨_, rfl, fun p H3 xs l g3 np nl el ep hlen hE => ?_⟩⟩
  refine ⟨p, rfl, xs.map V.ref, SqL.of ep, ?_⟩
  rw [List.length_map, hlen]
  refine ⟨by decide, by decide, forB_rng (fun i σ H' => ∃ o3 o4, σ = [some (.ref a), some (.str (tx x)), some (.ref p), o3, o4, none] ∧ Same H3 H') ⟨none, none, rfl, Same.refl _⟩ ?_ ?_⟩
  · rintro i σ H' hi ⟨o3, o4, rfl, g⟩
    have hi18 : i < 18 := by simpa using hi
    obtain ⟨xi, hxi⟩ : ∃ xi, xs[i]? = some xi := ⟨_, List.getElem?_eq_getElem (by omega)⟩
    have hat : ∀ {H0 : Hp} {Q' : VK}, Same H' H0 → Q' (.ref xi) H0 → rIxL K (.ref p) (.int (0 + (i : Int))) H0 Q' := fun {H0 Q'} g0 q' => by
      rw [Int.zero_add]
      exact rIxL_i (SqL.of (g0 _ _ (g _ _ ep))) (atI_nat (j := i) (by rw [List.getElem?_map, hxi]; rfl)) q'
    have ex := (hE i xi hxi).same g
    walk_at "rd3"
    refine hat (Same.refl _) ⟨xi, i, _, _, rfl, hi18, ex, fun pf H5 g5 npf ef => ?_⟩
    refine ⟨xs.map V.ref, SqL.of (g5 _ _ (g _ _ ep)), ?_⟩
    rw [List.length_map, hlen]
    refine ⟨by decide, by decide, comp_rng (fun j ys H' => Same H5 H' ∧ ys = (List.range j).map fun j' => V.bl (decide (j' = i))) (by rw [sizeLine_eq]; decide) ⟨Same.refl _, rfl⟩ ?_ ?_⟩
    · rintro j ys H6 hj _ ⟨g6, rfl⟩
      walk_at "rd3"
      refine ⟨g6, ?_⟩
      rw [List.range_succ, List.map_append]
      have e : ((j : Int) = (i : Int)) = (j = i) := propext ⟨fun h => by omega, fun h => by omega⟩
      simp [e]
    · rintro ys H6 _ ⟨g6, rfl⟩ pc hpc
      have s7 := same_new hpc (.lst ((List.range (Int.toNat ((18 : Nat) : Int))).map fun j' => V.bl (decide (j' = i))))
      have e7 := upd_same (H := H6) (a := pc) (o := .lst ((List.range (Int.toNat ((18 : Nat) : Int))).map fun j' => V.bl (decide (j' = i))))
      have G7 := g5.trans (g6.trans s7)
      have ef7 := (g6.trans s7) _ _ ef
      generalize upd H6 pc _ = J7 at s7 e7 G7 ef7 ⊢
      have ex7 := ex.same G7
      refine ⟨pf, pc, flg i, _, rfl, rfl, SqL.of ef7, SqL.of e7, flat_f _ _, flat_f _ _, _, rfl, iN ?_ ?_⟩
      · rw [if_pos rfl, show flg i = (List.range (Int.toNat ((18 : Nat) : Int))).map fun j' => V.bl (decide (j' = i)) from rfl, eq_f]
        decide
      refine hat G7 (rEis_i ex7 (Y.G i hi18) (Y.kB i hi18) ⟨true, rfl, iN (by decide) ?_⟩)
      refine hat G7 (rEit_i ex7 (Y.G i hi18) (Y.kV i hi18) ⟨true, rfl, iN (by decide) ?_⟩)
      exact hat G7 (rXstr_i ex7 (Y.S i hi18) ⟨rfl, false, by simp, iN (by decide) ⟨⟨_, rfl⟩, g.trans G7⟩⟩)
  · rintro σ H' ⟨o3, o4, rfl, g⟩
    have S' := g1.trans (g2.trans (g3.trans g))
    walk_at "rd3"
    refine spCell_i (S'.seq hS) h63 (by decide) (by decide) fun H4 g4 => ⟨_, rfl, cellF_lo _ _, by have := cellF_hi ns 3; omega, fun y hy H5 g5 => ?_⟩
    intro p1 hp1 p2 hp2
    have k1 := same_new hp1 (.lst [V.str (tx y)])
    have k2 := same_new hp2 (.tup [V.ref p1, V.str (Str.ofString "lacks")])
    have S5 := S'.trans (g4.trans (g5.trans (k1.trans k2)))
    have r1 : Pr (upd (upd H5 p1 (.lst [V.str (tx y)])) p2 (.tup [V.ref p1, V.str (Str.ofString "lacks")])) p2 p1 (.str (tx y)) (Str.ofString "lacks") := ⟨upd_same, k2 _ _ upd_same⟩
    generalize upd (upd H5 p1 (.lst [V.str (tx y)])) p2 (.tup [V.ref p1, V.str (Str.ofString "lacks")]) = J5 at S5 r1 ⊢
    refine spCell_i (S5.seq hS) h63 (by decide) (by decide) fun H6 g6 => ⟨_, rfl, fun p3 hp3 p4 hp4 p5 hp5 => ?_⟩
    have k3 := same_new hp3 (.lst [V.int (cellF ns 4 % 60)])
    have k4 := same_new hp4 (.tup [V.ref p3, V.str (Str.ofString "most")])
    have k5 := same_new hp5 (.lst [V.ref p2, V.ref p4])
    have r1' := r1.same (g6.trans (k3.trans (k4.trans k5)))
    have r2' : Pr (upd (upd (upd H6 p3 (.lst [V.int (cellF ns 4 % 60)])) p4 (.tup [V.ref p3, V.str (Str.ofString "most")])) p5 (.lst [V.ref p2, V.ref p4])) p4 p3 (.int (cellF ns 4 % 60)) (Str.ofString "most") := ⟨k5 _ _ upd_same, k5 _ _ (k4 _ _ upd_same)⟩
    have ek : upd (upd (upd H6 p3 (.lst [V.int (cellF ns 4 % 60)])) p4 (.tup [V.ref p3, V.str (Str.ofString "most")])) p5 (.lst [V.ref p2, V.ref p4]) p5 = some (.lst [V.ref p2, V.ref p4]) := upd_same
    have S6 := S5.trans (g6.trans (k3.trans (k4.trans k5)))
    generalize upd (upd (upd H6 p3 (.lst [V.int (cellF ns 4 % 60)])) p4 (.tup [V.ref p3, V.str (Str.ofString "most")])) p5 (.lst [V.ref p2, V.ref p4]) = J6 at r1' r2' ek S6 ⊢
    refine spCell_i (S6.seq hS) h63 (by decide) (by decide) fun H7 g7 => ⟨_, rfl, spCell_i ((S6.trans g7).seq hS) h63 (by decide) (by decide) fun H8 g8 => ⟨_, rfl, ?_⟩⟩
    have g9 := g7.trans g8
    exact ⟨tx x, _, _, p5, p2, p1, .str (tx y), _, p4, p3, .int (cellF ns 4 % 60), _, rfl, g9 _ _ ek, r1'.same g9, r2'.same g9, .inr ⟨_, rfl⟩, .inl ⟨_, rfl⟩, q⟩
end
end K10
namespace K10
open PySem L2 PySem.W
theorem inj_of {d : Nat → Addr} (h : ((List.range 19).map d).Nodup) (i j : Nat) (hi : i < 19) (hj : j < 19) (e : d i = d j) : i = j := by
  rcases Nat.lt_trichotomy i j with z | z | z
  · have := List.pairwise_iff_getElem.mp h i j (by simpa using hi) (by simpa using hj) z
    exact absurd e (by simpa using this)
  · exact z
  · have := List.pairwise_iff_getElem.mp h j i (by simpa using hj) (by simpa using hi) z
    exact absurd e.symm (by simpa using this)
theorem wk_of {K : Frag} {d : Nat → Addr} (S : Xs K (d 18)) (fa : ∀ i, i < 18 → ∃ nm N, Xf K nm (d i) (d 18) N) (h : ((List.range 19).map d).Nodup) : Wk K d where
  G := fun i hi => by
    obtain ⟨nm, N, x⟩ := fa i hi
    exact x.get S
  S := fun i hi => by
    obtain ⟨nm, N, x⟩ := fa i hi
    exact x.str S
  k := fun i j hi hj => by
    obtain ⟨nm, N, x⟩ := fa i hi
    obtain ⟨nm', N', y⟩ := fa j hj
    rw [x.kit y (fun e => by have := inj_of h j 18 (by omega) (by omega) e; omega)]
    congr 1
    exact decide_eq_decide.mpr ⟨fun e => inj_of h j i (by omega) (by omega) e, fun e => by rw [e]⟩
  kB := fun i hi => by
    obtain ⟨nm, N, x⟩ := fa i hi
    exact x.kitB S
  kV := fun i hi => by
    obtain ⟨nm, N, x⟩ := fa i hi
    exact x.kitV
end K10
namespace K10
open PySem L2
theorem all_mk {l : PySem.W.OpenLaw} {w : World} {K : PySem.W.Frag} {h : Heap} {mg : Str → Option Value} {fa f0 f1 f2 f3 f4 f5 f6 f7 f8 : Addr} (X : K.In h) (G : h.Ns mainGlobals mg) (hfa : mg "law" = some (.ref fa))
    {od0 an0 : Option Addr} {sl0 : Array (Option Value)} {oc0 kV0 dc0 pm0 cd0 ct0 : Value}
    {od1 an1 : Option Addr} {sl1 : Array (Option Value)} {oc1 kV1 dc1 pm1 cd1 ct1 : Value}
    {od2 an2 : Option Addr} {sl2 : Array (Option Value)} {oc2 kV2 dc2 pm2 cd2 ct2 : Value}
    {od3 an3 : Option Addr} {sl3 : Array (Option Value)} {oc3 kV3 dc3 pm3 cd3 ct3 : Value}
    {od4 an4 : Option Addr} {sl4 : Array (Option Value)} {oc4 kV4 dc4 pm4 cd4 ct4 : Value}
    {od5 an5 : Option Addr} {sl5 : Array (Option Value)} {oc5 kV5 dc5 pm5 cd5 ct5 : Value}
    {od6 an6 : Option Addr} {sl6 : Array (Option Value)} {oc6 kV6 dc6 pm6 cd6 ct6 : Value}
    {od7 an7 : Option Addr} {sl7 : Array (Option Value)} {oc7 kV7 dc7 pm7 cd7 ct7 : Value}
    {od8 an8 : Option Addr} {sl8 : Array (Option Value)} {oc8 kV8 dc8 pm8 cd8 ct8 : Value}
    {x0c x0N x1c x1N x2c x2N x3c x3N x4c x4N x5c x5N x6c x6N x7c x7N x8c x8N x9c x9N x10c x10N x11c x11N x12c x12N x13c x13N x14c x14N x15c x15N x16c x16N x17c x17N xB xBN : Addr} {x0q x1q x2q x3q x4q x5q x6q x7q x8q x9q x10q x11q x12q x13q x14q x15q x16q x17q xBq : Str} {x0bs x0sub x1bs x1sub x2bs x2sub x3bs x3sub x4bs x4sub x5bs x5sub x6bs x6sub x7bs x7sub x8bs x8sub x9bs x9sub x10bs x10sub x11bs x11sub x12bs x12sub x13bs x13sub x14bs x14sub x15bs x15sub x16bs x16sub x17bs x17sub xBbs xBsub : List Value} {x0sn x1sn x2sn x3sn x4sn x5sn x6sn x7sn x8sn x9sn x10sn x11sn x12sn x13sn x14sn x15sn x16sn x17sn xBsn : List Str} {x0ab x1ab x2ab x3ab x4ab x5ab x6ab x7ab x8ab x9ab x10ab x11ab x12ab x13ab x14ab x15ab x16ab x17ab xBab xBhd : Bool} {x0col x1col x2col x3col x4col x5col x6col x7col x8col x9col x10col x11col x12col x13col x14col x15col x16col x17col xBcol : Option Bool} {x0dd x1dd x2dd x3dd x4dd x5dd x6dd x7dd x8dd x9dd x10dd x11dd x12dd x13dd x14dd x15dd x16dd x17dd xBdd : Option Addr} {x0k0 x0k1 x0k2 x0k3 x0k5 x1k0 x1k1 x1k2 x1k3 x1k5 x2k0 x2k1 x2k2 x2k3 x2k5 x3k0 x3k1 x3k2 x3k3 x3k5 x4k0 x4k1 x4k2 x4k3 x4k5 x5k0 x5k1 x5k2 x5k3 x5k5 x6k0 x6k1 x6k2 x6k3 x6k5 x7k0 x7k1 x7k2 x7k3 x7k5 x8k0 x8k1 x8k2 x8k3 x8k5 x9k0 x9k1 x9k2 x9k3 x9k5 x10k0 x10k1 x10k2 x10k3 x10k5 x11k0 x11k1 x11k2 x11k3 x11k5 x12k0 x12k1 x12k2 x12k3 x12k5 x13k0 x13k1 x13k2 x13k3 x13k5 x14k0 x14k1 x14k2 x14k3 x14k5 x15k0 x15k1 x15k2 x15k3 x15k5 x16k0 x16k1 x16k2 x16k3 x16k5 x17k0 x17k1 x17k2 x17k3 x17k5 xBk0 xBk1 xBk2 xBk3 xBk5 : Option Value} {x1F x1D x3F x3D x4F x4D x6F x6D x7F x7D x9F x9D x10F x10D : Addr} {x1oc x1kV x1dc x1pm x1cd x1ct x1tc x3oc x3kV x3dc x3pm x3cd x3ct x3tc x4oc x4kV x4dc x4pm x4cd x4ct x4tc x6oc x6kV x6dc x6pm x6cd x6ct x6tc x7oc x7kV x7dc x7pm x7cd x7ct x7tc x9oc x9kV x9dc x9pm x9cd x9ct x9tc x10oc x10kV x10dc x10pm x10cd x10ct x10tc : Value} {x1od x1an x1to x3od x3an x3to x4od x4an x4to x6od x6an x6to x7od x7an x7to x9od x9an x9to x10od x10an x10to : Option Addr} {x1sl x1ts x3sl x3ts x4sl x4ts x6sl x6ts x7sl x7ts x9sl x9ts x10sl x10ts : Array (Option Value)} {x1tn x3tn x4tn x6tn x7tn x9tn x10tn : Nat} {x1tk x3tk x4tk x6tk x7tk x10tk : Tok}
    (a0 : PySem.W.nsIn K mainGlobals "copied" = some (some (.ref f0)))
    (l0 : K.lookup f0 = some ⟨oc0, od0, .func (PySem.W.fnOf "copied" "copied" (defArgs sCp) (defBody sCp) (defScope sCp) .none kV0 dc0 pm0 an0 cd0 ct0), sl0⟩)
    (c0 : PySem.W.codeIn K cd0 "copied" = true)
    (k0 : PySem.W.keepIn K (.ref f0) = true)
    (a1 : PySem.W.nsIn K mainGlobals "_law_cell" = some (some (.ref f1)))
    (l1 : K.lookup f1 = some ⟨oc1, od1, .func (PySem.W.fnOf "_law_cell" "_law_cell" (defArgs sCell) (defBody sCell) (defScope sCell) .none kV1 dc1 pm1 an1 cd1 ct1), sl1⟩)
    (c1 : PySem.W.codeIn K cd1 "_law_cell" = true)
    (k1 : PySem.W.keepIn K (.ref f1) = true)
    (a2 : PySem.W.nsIn K mainGlobals "_law_name_by" = some (some (.ref f2)))
    (l2 : K.lookup f2 = some ⟨oc2, od2, .func (PySem.W.fnOf "_law_name_by" "_law_name_by" (defArgs sName) (defBody sName) (defScope sName) .none kV2 dc2 pm2 an2 cd2 ct2), sl2⟩)
    (c2 : PySem.W.codeIn K cd2 "_law_name_by" = true)
    (k2 : PySem.W.keepIn K (.ref f2) = true)
    (a3 : PySem.W.nsIn K mainGlobals "_law_signs" = some (some (.ref f3)))
    (l3 : K.lookup f3 = some ⟨oc3, od3, .func (PySem.W.fnOf "_law_signs" "_law_signs" (defArgs sSigns) (defBody sSigns) (defScope sSigns) .none kV3 dc3 pm3 an3 cd3 ct3), sl3⟩)
    (c3 : PySem.W.codeIn K cd3 "_law_signs" = true)
    (k3 : PySem.W.keepIn K (.ref f3) = true)
    (a4 : PySem.W.nsIn K mainGlobals "_law_text_by" = some (some (.ref f4)))
    (l4 : K.lookup f4 = some ⟨oc4, od4, .func (PySem.W.fnOf "_law_text_by" "_law_text_by" (defArgs sText) (defBody sText) (defScope sText) .none kV4 dc4 pm4 an4 cd4 ct4), sl4⟩)
    (c4 : PySem.W.codeIn K cd4 "_law_text_by" = true)
    (k4 : PySem.W.keepIn K (.ref f4) = true)
    (a5 : PySem.W.nsIn K mainGlobals "_law_flags" = some (some (.ref f5)))
    (l5 : K.lookup f5 = some ⟨oc5, od5, .func (PySem.W.fnOf "_law_flags" "_law_flags" (defArgs sFlags) (defBody sFlags) (defScope sFlags) .none kV5 dc5 pm5 an5 cd5 ct5), sl5⟩)
    (c5 : PySem.W.codeIn K cd5 "_law_flags" = true)
    (k5 : PySem.W.keepIn K (.ref f5) = true)
    (a6 : PySem.W.nsIn K mainGlobals "_law_made" = some (some (.ref f6)))
    (l6 : K.lookup f6 = some ⟨oc6, od6, .func (PySem.W.fnOf "_law_made" "_law_made" (defArgs sMade) (defBody sMade) (defScope sMade) .none kV6 dc6 pm6 an6 cd6 ct6), sl6⟩)
    (c6 : PySem.W.codeIn K cd6 "_law_made" = true)
    (k6 : PySem.W.keepIn K (.ref f6) = true)
    (a7 : PySem.W.nsIn K mainGlobals "_law_fields_right" = some (some (.ref f7)))
    (l7 : K.lookup f7 = some ⟨oc7, od7, .func (PySem.W.fnOf "_law_fields_right" "_law_fields_right" (defArgs sRight) (defBody sRight) (defScope sRight) .none kV7 dc7 pm7 an7 cd7 ct7), sl7⟩)
    (c7 : PySem.W.codeIn K cd7 "_law_fields_right" = true)
    (k7 : PySem.W.keepIn K (.ref f7) = true)
    (a8 : PySem.W.nsIn K mainGlobals "law" = some (some (.ref f8)))
    (l8 : K.lookup f8 = some ⟨oc8, od8, .func (PySem.W.fnOf "law" "law" (defArgs sLaw) (defBody sLaw) (defScope sLaw) .none kV8 dc8 pm8 an8 cd8 ct8), sl8⟩)
    (c8 : PySem.W.codeIn K cd8 "law" = true)
    (k8 : PySem.W.keepIn K (.ref f8) = true)
    (z0 : PySem.W.nsIn K mainGlobals "len" = some none)
    (z1 : PySem.W.nsIn K mainGlobals "range" = some none)
    (z2 : PySem.W.nsIn K mainGlobals "isinstance" = some none)
    (z3 : PySem.W.nsIn K mainGlobals "all" = some none)
    (z4 : PySem.W.nsIn K mainGlobals "sum" = some none)
    (z5 : PySem.W.nsIn K mainGlobals "int" = some none)
    (z6 : PySem.W.nsIn K mainGlobals "str" = some none)
    (z7 : PySem.W.nsIn K mainGlobals "bool" = some none)
    (z8 : PySem.W.nsIn K mainGlobals "list" = some none)
    (z9 : PySem.W.nsIn K mainGlobals "dict" = some none)
    (z10 : PySem.W.nsIn K mainGlobals "tuple" = some none)
    (xaB : PySem.W.nsIn K mainGlobals "CabinetError" = some (some (.ref xB)))
    (xv : PySem.W.nsIn K mainGlobals "ValueError" = some none)
    (xBo : K.lookup xB = some (excClassObj "CabinetError" xBq xB xBN xBbs veMro xBhd xBsn xBsub xBab xBcol xBdd xBk0 xBk1 xBk2 xBk3 xBk5 "ValueError.__new__"))
    (xtl : PySem.W.tailIn K veMro (.ref xB :: veMro) = true)
    (xcg : PySem.W.specialIn K (.builtin "object.__class__") "__get__" = some (some (.builtin "getset_descriptor.__get__")))
    (xct : PySem.W.takesIn K (.builtin "object.__class__") = some true)
    (xc0 : PySem.W.specialIn K (.ref xB) "__getattribute__" = some (some (.builtin "type.__getattribute__")))
    (xc1 : PySem.W.readsIn K xB (.type "type") = true)
    (xc2 : PySem.W.findCls K (.ref xB) (.type "type") "__init__" = some (.val (.builtin "ValueError.__init__")))
    (xa0 : PySem.W.nsIn K mainGlobals "TooGreat" = some (some (.ref x0c)))
    (xl0 : K.lookup x0c = some (excClassObj "TooGreat" x0q x0c x0N x0bs (.ref xB :: veMro) true x0sn x0sub x0ab x0col x0dd x0k0 x0k1 x0k2 x0k3 x0k5 "ValueError.__new__"))
    (xg0 : PySem.W.findIn K (.ref x0c) "__getattribute__" = some (some (.builtin "BaseException.__getattribute__")))
    (xh0 : PySem.W.findIn K (.ref x0c) "__getattr__" = some none)
    (xi0 : PySem.W.findIn K (.ref x0c) "__class__" = some (some (.builtin "object.__class__")))
    (xj0 : PySem.W.findIn K (.ref x0c) "__str__" = some (some (.builtin "BaseException.__str__")))
    (xk0 : PySem.W.keepIn K (.ref x0c) = true)
    (xm0 : PySem.W.nsOkIn K x0N = true)
    (xn0 : PySem.W.nsIn K x0N "__init__" = some none)
    (xa1 : PySem.W.nsIn K mainGlobals "BadText" = some (some (.ref x1c)))
    (xl1 : K.lookup x1c = some (excClassObj "BadText" x1q x1c x1N x1bs (.ref xB :: veMro) true x1sn x1sub x1ab x1col x1dd x1k0 x1k1 x1k2 x1k3 x1k5 "ValueError.__new__"))
    (xg1 : PySem.W.findIn K (.ref x1c) "__getattribute__" = some (some (.builtin "BaseException.__getattribute__")))
    (xh1 : PySem.W.findIn K (.ref x1c) "__getattr__" = some none)
    (xi1 : PySem.W.findIn K (.ref x1c) "__class__" = some (some (.builtin "object.__class__")))
    (xj1 : PySem.W.findIn K (.ref x1c) "__str__" = some (some (.builtin "BaseException.__str__")))
    (xk1 : PySem.W.keepIn K (.ref x1c) = true)
    (xo1 : PySem.W.findIn K (.ref x1c) "__init__" = some (some (.ref x1F)))
    (xp1 : PySem.W.typeIn K (.ref x1F) = some (.type "function"))
    (xq1 : PySem.W.findIn K (.ref x1c) "__setattr__" = some (some (.builtin "object.__setattr__")))
    (xr1_0 : PySem.W.findIn K (.ref x1c) "at" = some none)
    (xs1 : K.lookup x1F = some ⟨x1oc, x1od, .func (PySem.W.fnOf "__init__" "BadText.__init__" (defArgs sIBadText) (defBody sIBadText) (defScope sIBadText) (.ref x1D) x1kV x1dc x1pm x1an x1cd x1ct), x1sl⟩)
    (xt1 : PySem.W.codeIn K x1cd "BadText.__init__" = true)
    (xu1 : K.lookup x1D = some ⟨x1tc, x1to, .seq #[.int 0 x1tk] x1tn, x1ts⟩)
    (xa2 : PySem.W.nsIn K mainGlobals "BadPath" = some (some (.ref x2c)))
    (xl2 : K.lookup x2c = some (excClassObj "BadPath" x2q x2c x2N x2bs (.ref xB :: veMro) true x2sn x2sub x2ab x2col x2dd x2k0 x2k1 x2k2 x2k3 x2k5 "ValueError.__new__"))
    (xg2 : PySem.W.findIn K (.ref x2c) "__getattribute__" = some (some (.builtin "BaseException.__getattribute__")))
    (xh2 : PySem.W.findIn K (.ref x2c) "__getattr__" = some none)
    (xi2 : PySem.W.findIn K (.ref x2c) "__class__" = some (some (.builtin "object.__class__")))
    (xj2 : PySem.W.findIn K (.ref x2c) "__str__" = some (some (.builtin "BaseException.__str__")))
    (xk2 : PySem.W.keepIn K (.ref x2c) = true)
    (xm2 : PySem.W.nsOkIn K x2N = true)
    (xn2 : PySem.W.nsIn K x2N "__init__" = some none)
    (xa3 : PySem.W.nsIn K mainGlobals "NoPlace" = some (some (.ref x3c)))
    (xl3 : K.lookup x3c = some (excClassObj "NoPlace" x3q x3c x3N x3bs (.ref xB :: veMro) true x3sn x3sub x3ab x3col x3dd x3k0 x3k1 x3k2 x3k3 x3k5 "ValueError.__new__"))
    (xg3 : PySem.W.findIn K (.ref x3c) "__getattribute__" = some (some (.builtin "BaseException.__getattribute__")))
    (xh3 : PySem.W.findIn K (.ref x3c) "__getattr__" = some none)
    (xi3 : PySem.W.findIn K (.ref x3c) "__class__" = some (some (.builtin "object.__class__")))
    (xj3 : PySem.W.findIn K (.ref x3c) "__str__" = some (some (.builtin "BaseException.__str__")))
    (xk3 : PySem.W.keepIn K (.ref x3c) = true)
    (xo3 : PySem.W.findIn K (.ref x3c) "__init__" = some (some (.ref x3F)))
    (xp3 : PySem.W.typeIn K (.ref x3F) = some (.type "function"))
    (xq3 : PySem.W.findIn K (.ref x3c) "__setattr__" = some (some (.builtin "object.__setattr__")))
    (xr3_0 : PySem.W.findIn K (.ref x3c) "at" = some none)
    (xs3 : K.lookup x3F = some ⟨x3oc, x3od, .func (PySem.W.fnOf "__init__" "NoPlace.__init__" (defArgs sINoPlace) (defBody sINoPlace) (defScope sINoPlace) (.ref x3D) x3kV x3dc x3pm x3an x3cd x3ct), x3sl⟩)
    (xt3 : PySem.W.codeIn K x3cd "NoPlace.__init__" = true)
    (xu3 : K.lookup x3D = some ⟨x3tc, x3to, .seq #[.int 0 x3tk] x3tn, x3ts⟩)
    (xa4 : PySem.W.nsIn K mainGlobals "NoDeed" = some (some (.ref x4c)))
    (xl4 : K.lookup x4c = some (excClassObj "NoDeed" x4q x4c x4N x4bs (.ref xB :: veMro) true x4sn x4sub x4ab x4col x4dd x4k0 x4k1 x4k2 x4k3 x4k5 "ValueError.__new__"))
    (xg4 : PySem.W.findIn K (.ref x4c) "__getattribute__" = some (some (.builtin "BaseException.__getattribute__")))
    (xh4 : PySem.W.findIn K (.ref x4c) "__getattr__" = some none)
    (xi4 : PySem.W.findIn K (.ref x4c) "__class__" = some (some (.builtin "object.__class__")))
    (xj4 : PySem.W.findIn K (.ref x4c) "__str__" = some (some (.builtin "BaseException.__str__")))
    (xk4 : PySem.W.keepIn K (.ref x4c) = true)
    (xo4 : PySem.W.findIn K (.ref x4c) "__init__" = some (some (.ref x4F)))
    (xp4 : PySem.W.typeIn K (.ref x4F) = some (.type "function"))
    (xq4 : PySem.W.findIn K (.ref x4c) "__setattr__" = some (some (.builtin "object.__setattr__")))
    (xr4_0 : PySem.W.findIn K (.ref x4c) "number" = some none)
    (xs4 : K.lookup x4F = some ⟨x4oc, x4od, .func (PySem.W.fnOf "__init__" "NoDeed.__init__" (defArgs sINoDeed) (defBody sINoDeed) (defScope sINoDeed) (.ref x4D) x4kV x4dc x4pm x4an x4cd x4ct), x4sl⟩)
    (xt4 : PySem.W.codeIn K x4cd "NoDeed.__init__" = true)
    (xu4 : K.lookup x4D = some ⟨x4tc, x4to, .seq #[.int 0 x4tk] x4tn, x4ts⟩)
    (xa5 : PySem.W.nsIn K mainGlobals "NoneFits" = some (some (.ref x5c)))
    (xl5 : K.lookup x5c = some (excClassObj "NoneFits" x5q x5c x5N x5bs (.ref xB :: veMro) true x5sn x5sub x5ab x5col x5dd x5k0 x5k1 x5k2 x5k3 x5k5 "ValueError.__new__"))
    (xg5 : PySem.W.findIn K (.ref x5c) "__getattribute__" = some (some (.builtin "BaseException.__getattribute__")))
    (xh5 : PySem.W.findIn K (.ref x5c) "__getattr__" = some none)
    (xi5 : PySem.W.findIn K (.ref x5c) "__class__" = some (some (.builtin "object.__class__")))
    (xj5 : PySem.W.findIn K (.ref x5c) "__str__" = some (some (.builtin "BaseException.__str__")))
    (xk5 : PySem.W.keepIn K (.ref x5c) = true)
    (xm5 : PySem.W.nsOkIn K x5N = true)
    (xn5 : PySem.W.nsIn K x5N "__init__" = some none)
    (xa6 : PySem.W.nsIn K mainGlobals "CantMove" = some (some (.ref x6c)))
    (xl6 : K.lookup x6c = some (excClassObj "CantMove" x6q x6c x6N x6bs (.ref xB :: veMro) true x6sn x6sub x6ab x6col x6dd x6k0 x6k1 x6k2 x6k3 x6k5 "ValueError.__new__"))
    (xg6 : PySem.W.findIn K (.ref x6c) "__getattribute__" = some (some (.builtin "BaseException.__getattribute__")))
    (xh6 : PySem.W.findIn K (.ref x6c) "__getattr__" = some none)
    (xi6 : PySem.W.findIn K (.ref x6c) "__class__" = some (some (.builtin "object.__class__")))
    (xj6 : PySem.W.findIn K (.ref x6c) "__str__" = some (some (.builtin "BaseException.__str__")))
    (xk6 : PySem.W.keepIn K (.ref x6c) = true)
    (xo6 : PySem.W.findIn K (.ref x6c) "__init__" = some (some (.ref x6F)))
    (xp6 : PySem.W.typeIn K (.ref x6F) = some (.type "function"))
    (xq6 : PySem.W.findIn K (.ref x6c) "__setattr__" = some (some (.builtin "object.__setattr__")))
    (xr6_0 : PySem.W.findIn K (.ref x6c) "number" = some none)
    (xs6 : K.lookup x6F = some ⟨x6oc, x6od, .func (PySem.W.fnOf "__init__" "CantMove.__init__" (defArgs sICantMove) (defBody sICantMove) (defScope sICantMove) (.ref x6D) x6kV x6dc x6pm x6an x6cd x6ct), x6sl⟩)
    (xt6 : PySem.W.codeIn K x6cd "CantMove.__init__" = true)
    (xu6 : K.lookup x6D = some ⟨x6tc, x6to, .seq #[.int 0 x6tk] x6tn, x6ts⟩)
    (xa7 : PySem.W.nsIn K mainGlobals "NoBack" = some (some (.ref x7c)))
    (xl7 : K.lookup x7c = some (excClassObj "NoBack" x7q x7c x7N x7bs (.ref xB :: veMro) true x7sn x7sub x7ab x7col x7dd x7k0 x7k1 x7k2 x7k3 x7k5 "ValueError.__new__"))
    (xg7 : PySem.W.findIn K (.ref x7c) "__getattribute__" = some (some (.builtin "BaseException.__getattribute__")))
    (xh7 : PySem.W.findIn K (.ref x7c) "__getattr__" = some none)
    (xi7 : PySem.W.findIn K (.ref x7c) "__class__" = some (some (.builtin "object.__class__")))
    (xj7 : PySem.W.findIn K (.ref x7c) "__str__" = some (some (.builtin "BaseException.__str__")))
    (xk7 : PySem.W.keepIn K (.ref x7c) = true)
    (xo7 : PySem.W.findIn K (.ref x7c) "__init__" = some (some (.ref x7F)))
    (xp7 : PySem.W.typeIn K (.ref x7F) = some (.type "function"))
    (xq7 : PySem.W.findIn K (.ref x7c) "__setattr__" = some (some (.builtin "object.__setattr__")))
    (xr7_0 : PySem.W.findIn K (.ref x7c) "number" = some none)
    (xs7 : K.lookup x7F = some ⟨x7oc, x7od, .func (PySem.W.fnOf "__init__" "NoBack.__init__" (defArgs sINoBack) (defBody sINoBack) (defScope sINoBack) (.ref x7D) x7kV x7dc x7pm x7an x7cd x7ct), x7sl⟩)
    (xt7 : PySem.W.codeIn K x7cd "NoBack.__init__" = true)
    (xu7 : K.lookup x7D = some ⟨x7tc, x7to, .seq #[.int 0 x7tk] x7tn, x7ts⟩)
    (xa8 : PySem.W.nsIn K mainGlobals "NoVersion" = some (some (.ref x8c)))
    (xl8 : K.lookup x8c = some (excClassObj "NoVersion" x8q x8c x8N x8bs (.ref xB :: veMro) true x8sn x8sub x8ab x8col x8dd x8k0 x8k1 x8k2 x8k3 x8k5 "ValueError.__new__"))
    (xg8 : PySem.W.findIn K (.ref x8c) "__getattribute__" = some (some (.builtin "BaseException.__getattribute__")))
    (xh8 : PySem.W.findIn K (.ref x8c) "__getattr__" = some none)
    (xi8 : PySem.W.findIn K (.ref x8c) "__class__" = some (some (.builtin "object.__class__")))
    (xj8 : PySem.W.findIn K (.ref x8c) "__str__" = some (some (.builtin "BaseException.__str__")))
    (xk8 : PySem.W.keepIn K (.ref x8c) = true)
    (xm8 : PySem.W.nsOkIn K x8N = true)
    (xn8 : PySem.W.nsIn K x8N "__init__" = some none)
    (xa9 : PySem.W.nsIn K mainGlobals "NoFit" = some (some (.ref x9c)))
    (xl9 : K.lookup x9c = some (excClassObj "NoFit" x9q x9c x9N x9bs (.ref xB :: veMro) true x9sn x9sub x9ab x9col x9dd x9k0 x9k1 x9k2 x9k3 x9k5 "ValueError.__new__"))
    (xg9 : PySem.W.findIn K (.ref x9c) "__getattribute__" = some (some (.builtin "BaseException.__getattribute__")))
    (xh9 : PySem.W.findIn K (.ref x9c) "__getattr__" = some none)
    (xi9 : PySem.W.findIn K (.ref x9c) "__class__" = some (some (.builtin "object.__class__")))
    (xj9 : PySem.W.findIn K (.ref x9c) "__str__" = some (some (.builtin "BaseException.__str__")))
    (xk9 : PySem.W.keepIn K (.ref x9c) = true)
    (xo9 : PySem.W.findIn K (.ref x9c) "__init__" = some (some (.ref x9F)))
    (xp9 : PySem.W.typeIn K (.ref x9F) = some (.type "function"))
    (xq9 : PySem.W.findIn K (.ref x9c) "__setattr__" = some (some (.builtin "object.__setattr__")))
    (xr9_0 : PySem.W.findIn K (.ref x9c) "faults" = some none)
    (xs9 : K.lookup x9F = some ⟨x9oc, x9od, .func (PySem.W.fnOf "__init__" "NoFit.__init__" (defArgs sINoFit) (defBody sINoFit) (defScope sINoFit) (.ref x9D) x9kV x9dc x9pm x9an x9cd x9ct), x9sl⟩)
    (xt9 : PySem.W.codeIn K x9cd "NoFit.__init__" = true)
    (xu9 : K.lookup x9D = some ⟨x9tc, x9to, .seq #[Value.none] x9tn, x9ts⟩)
    (xa10 : PySem.W.nsIn K mainGlobals "Stuck" = some (some (.ref x10c)))
    (xl10 : K.lookup x10c = some (excClassObj "Stuck" x10q x10c x10N x10bs (.ref xB :: veMro) true x10sn x10sub x10ab x10col x10dd x10k0 x10k1 x10k2 x10k3 x10k5 "ValueError.__new__"))
    (xg10 : PySem.W.findIn K (.ref x10c) "__getattribute__" = some (some (.builtin "BaseException.__getattribute__")))
    (xh10 : PySem.W.findIn K (.ref x10c) "__getattr__" = some none)
    (xi10 : PySem.W.findIn K (.ref x10c) "__class__" = some (some (.builtin "object.__class__")))
    (xj10 : PySem.W.findIn K (.ref x10c) "__str__" = some (some (.builtin "BaseException.__str__")))
    (xk10 : PySem.W.keepIn K (.ref x10c) = true)
    (xo10 : PySem.W.findIn K (.ref x10c) "__init__" = some (some (.ref x10F)))
    (xp10 : PySem.W.typeIn K (.ref x10F) = some (.type "function"))
    (xq10 : PySem.W.findIn K (.ref x10c) "__setattr__" = some (some (.builtin "object.__setattr__")))
    (xr10_0 : PySem.W.findIn K (.ref x10c) "version" = some none)
    (xr10_1 : PySem.W.findIn K (.ref x10c) "key" = some none)
    (xs10 : K.lookup x10F = some ⟨x10oc, x10od, .func (PySem.W.fnOf "__init__" "Stuck.__init__" (defArgs sIStuck) (defBody sIStuck) (defScope sIStuck) (.ref x10D) x10kV x10dc x10pm x10an x10cd x10ct), x10sl⟩)
    (xt10 : PySem.W.codeIn K x10cd "Stuck.__init__" = true)
    (xu10 : K.lookup x10D = some ⟨x10tc, x10to, .seq #[.int 0 x10tk, Value.none] x10tn, x10ts⟩)
    (xa11 : PySem.W.nsIn K mainGlobals "BadQuestion" = some (some (.ref x11c)))
    (xl11 : K.lookup x11c = some (excClassObj "BadQuestion" x11q x11c x11N x11bs (.ref xB :: veMro) true x11sn x11sub x11ab x11col x11dd x11k0 x11k1 x11k2 x11k3 x11k5 "ValueError.__new__"))
    (xg11 : PySem.W.findIn K (.ref x11c) "__getattribute__" = some (some (.builtin "BaseException.__getattribute__")))
    (xh11 : PySem.W.findIn K (.ref x11c) "__getattr__" = some none)
    (xi11 : PySem.W.findIn K (.ref x11c) "__class__" = some (some (.builtin "object.__class__")))
    (xj11 : PySem.W.findIn K (.ref x11c) "__str__" = some (some (.builtin "BaseException.__str__")))
    (xk11 : PySem.W.keepIn K (.ref x11c) = true)
    (xm11 : PySem.W.nsOkIn K x11N = true)
    (xn11 : PySem.W.nsIn K x11N "__init__" = some none)
    (xa12 : PySem.W.nsIn K mainGlobals "NoKey" = some (some (.ref x12c)))
    (xl12 : K.lookup x12c = some (excClassObj "NoKey" x12q x12c x12N x12bs (.ref xB :: veMro) true x12sn x12sub x12ab x12col x12dd x12k0 x12k1 x12k2 x12k3 x12k5 "ValueError.__new__"))
    (xg12 : PySem.W.findIn K (.ref x12c) "__getattribute__" = some (some (.builtin "BaseException.__getattribute__")))
    (xh12 : PySem.W.findIn K (.ref x12c) "__getattr__" = some none)
    (xi12 : PySem.W.findIn K (.ref x12c) "__class__" = some (some (.builtin "object.__class__")))
    (xj12 : PySem.W.findIn K (.ref x12c) "__str__" = some (some (.builtin "BaseException.__str__")))
    (xk12 : PySem.W.keepIn K (.ref x12c) = true)
    (xm12 : PySem.W.nsOkIn K x12N = true)
    (xn12 : PySem.W.nsIn K x12N "__init__" = some none)
    (xa13 : PySem.W.nsIn K mainGlobals "IsKept" = some (some (.ref x13c)))
    (xl13 : K.lookup x13c = some (excClassObj "IsKept" x13q x13c x13N x13bs (.ref xB :: veMro) true x13sn x13sub x13ab x13col x13dd x13k0 x13k1 x13k2 x13k3 x13k5 "ValueError.__new__"))
    (xg13 : PySem.W.findIn K (.ref x13c) "__getattribute__" = some (some (.builtin "BaseException.__getattribute__")))
    (xh13 : PySem.W.findIn K (.ref x13c) "__getattr__" = some none)
    (xi13 : PySem.W.findIn K (.ref x13c) "__class__" = some (some (.builtin "object.__class__")))
    (xj13 : PySem.W.findIn K (.ref x13c) "__str__" = some (some (.builtin "BaseException.__str__")))
    (xk13 : PySem.W.keepIn K (.ref x13c) = true)
    (xm13 : PySem.W.nsOkIn K x13N = true)
    (xn13 : PySem.W.nsIn K x13N "__init__" = some none)
    (xa14 : PySem.W.nsIn K mainGlobals "NotKept" = some (some (.ref x14c)))
    (xl14 : K.lookup x14c = some (excClassObj "NotKept" x14q x14c x14N x14bs (.ref xB :: veMro) true x14sn x14sub x14ab x14col x14dd x14k0 x14k1 x14k2 x14k3 x14k5 "ValueError.__new__"))
    (xg14 : PySem.W.findIn K (.ref x14c) "__getattribute__" = some (some (.builtin "BaseException.__getattribute__")))
    (xh14 : PySem.W.findIn K (.ref x14c) "__getattr__" = some none)
    (xi14 : PySem.W.findIn K (.ref x14c) "__class__" = some (some (.builtin "object.__class__")))
    (xj14 : PySem.W.findIn K (.ref x14c) "__str__" = some (some (.builtin "BaseException.__str__")))
    (xk14 : PySem.W.keepIn K (.ref x14c) = true)
    (xm14 : PySem.W.nsOkIn K x14N = true)
    (xn14 : PySem.W.nsIn K x14N "__init__" = some none)
    (xa15 : PySem.W.nsIn K mainGlobals "NoWayBack" = some (some (.ref x15c)))
    (xl15 : K.lookup x15c = some (excClassObj "NoWayBack" x15q x15c x15N x15bs (.ref xB :: veMro) true x15sn x15sub x15ab x15col x15dd x15k0 x15k1 x15k2 x15k3 x15k5 "ValueError.__new__"))
    (xg15 : PySem.W.findIn K (.ref x15c) "__getattribute__" = some (some (.builtin "BaseException.__getattribute__")))
    (xh15 : PySem.W.findIn K (.ref x15c) "__getattr__" = some none)
    (xi15 : PySem.W.findIn K (.ref x15c) "__class__" = some (some (.builtin "object.__class__")))
    (xj15 : PySem.W.findIn K (.ref x15c) "__str__" = some (some (.builtin "BaseException.__str__")))
    (xk15 : PySem.W.keepIn K (.ref x15c) = true)
    (xm15 : PySem.W.nsOkIn K x15N = true)
    (xn15 : PySem.W.nsIn K x15N "__init__" = some none)
    (xa16 : PySem.W.nsIn K mainGlobals "NoStore" = some (some (.ref x16c)))
    (xl16 : K.lookup x16c = some (excClassObj "NoStore" x16q x16c x16N x16bs (.ref xB :: veMro) true x16sn x16sub x16ab x16col x16dd x16k0 x16k1 x16k2 x16k3 x16k5 "ValueError.__new__"))
    (xg16 : PySem.W.findIn K (.ref x16c) "__getattribute__" = some (some (.builtin "BaseException.__getattribute__")))
    (xh16 : PySem.W.findIn K (.ref x16c) "__getattr__" = some none)
    (xi16 : PySem.W.findIn K (.ref x16c) "__class__" = some (some (.builtin "object.__class__")))
    (xj16 : PySem.W.findIn K (.ref x16c) "__str__" = some (some (.builtin "BaseException.__str__")))
    (xk16 : PySem.W.keepIn K (.ref x16c) = true)
    (xm16 : PySem.W.nsOkIn K x16N = true)
    (xn16 : PySem.W.nsIn K x16N "__init__" = some none)
    (xa17 : PySem.W.nsIn K mainGlobals "BadRow" = some (some (.ref x17c)))
    (xl17 : K.lookup x17c = some (excClassObj "BadRow" x17q x17c x17N x17bs (.ref xB :: veMro) true x17sn x17sub x17ab x17col x17dd x17k0 x17k1 x17k2 x17k3 x17k5 "ValueError.__new__"))
    (xg17 : PySem.W.findIn K (.ref x17c) "__getattribute__" = some (some (.builtin "BaseException.__getattribute__")))
    (xh17 : PySem.W.findIn K (.ref x17c) "__getattr__" = some none)
    (xi17 : PySem.W.findIn K (.ref x17c) "__class__" = some (some (.builtin "object.__class__")))
    (xj17 : PySem.W.findIn K (.ref x17c) "__str__" = some (some (.builtin "BaseException.__str__")))
    (xk17 : PySem.W.keepIn K (.ref x17c) = true)
    (xm17 : PySem.W.nsOkIn K x17N = true)
    (xn17 : PySem.W.nsIn K x17N "__init__" = some none)
    (xnd : List.Nodup [x0c, x1c, x2c, x3c, x4c, x5c, x6c, x7c, x8c, x9c, x10c, x11c, x12c, x13c, x14c, x15c, x16c, x17c, xB]) :
    ∃ fd : FuncData, (∀ (s : Shared) (v : Value), BindsTo s fd ⟨[v], []⟩ [("_law_script", v)]) ∧ ∀ base : Heap, K.In base → base.Ns mainGlobals mg → FnOk l.prog w K mg base CX0 8 fa fd ["_law_script"] (spLaw K) := by
  have e := hfa.symm.trans (PySem.W.mg_of X G a8)
  cases e
  have Fcopied := fun_mk (st := sCp) l0 c0 k0
  have bcopied := Fcopied.binds (ps := ["thing"]) fun _ _ _ _ _ _ us hl => match us, hl with | [_], _ => rfl
  have mcopied := PySem.W.mg_of X G a0
  have pcopied := k0
  have F_law_cell := fun_mk (st := sCell) l1 c1 k1
  have b_law_cell := F_law_cell.binds (ps := ["_law_script", "_law_k"]) fun _ _ _ _ _ _ us hl => match us, hl with | [_, _], _ => rfl
  have m_law_cell := PySem.W.mg_of X G a1
  have p_law_cell := k1
  have F_law_name_by := fun_mk (st := sName) l2 c2 k2
  have b_law_name_by := F_law_name_by.binds (ps := ["_law_more"]) fun _ _ _ _ _ _ us hl => match us, hl with | [_], _ => rfl
  have m_law_name_by := PySem.W.mg_of X G a2
  have p_law_name_by := k2
  have F_law_signs := fun_mk (st := sSigns) l3 c3 k3
  have b_law_signs := F_law_signs.binds (ps := []) fun _ _ _ _ _ _ us hl => match us, hl with | [], _ => rfl
  have m_law_signs := PySem.W.mg_of X G a3
  have p_law_signs := k3
  have F_law_text_by := fun_mk (st := sText) l4 c4 k4
  have b_law_text_by := F_law_text_by.binds (ps := ["_law_more"]) fun _ _ _ _ _ _ us hl => match us, hl with | [_], _ => rfl
  have m_law_text_by := PySem.W.mg_of X G a4
  have p_law_text_by := k4
  have F_law_flags := fun_mk (st := sFlags) l5 c5 k5
  have b_law_flags := F_law_flags.binds (ps := ["_law_e"]) fun _ _ _ _ _ _ us hl => match us, hl with | [_], _ => rfl
  have m_law_flags := PySem.W.mg_of X G a5
  have p_law_flags := k5
  have F_law_made := fun_mk (st := sMade) l6 c6 k6
  have b_law_made := F_law_made.binds (ps := ["_law_words"]) fun _ _ _ _ _ _ us hl => match us, hl with | [_], _ => rfl
  have m_law_made := PySem.W.mg_of X G a6
  have p_law_made := k6
  have F_law_fields_right := fun_mk (st := sRight) l7 c7 k7
  have b_law_fields_right := F_law_fields_right.binds (ps := ["_law_words", "_law_number", "_law_key", "_law_wrongs"]) fun _ _ _ _ _ _ us hl => match us, hl with | [_, _, _, _], _ => rfl
  have m_law_fields_right := PySem.W.mg_of X G a7
  have p_law_fields_right := k7
  have Flaw := fun_mk (st := sLaw) l8 c8 k8
  have blaw := Flaw.binds (ps := ["_law_script"]) fun _ _ _ _ _ _ us hl => match us, hl with | [_], _ => rfl
  have mlaw := PySem.W.mg_of X G a8
  have plaw := k8
  have B : Bl mg := ⟨PySem.W.mg_none_of X G z0, PySem.W.mg_none_of X G z1, PySem.W.mg_none_of X G z2, PySem.W.mg_none_of X G z3, PySem.W.mg_none_of X G z4, PySem.W.mg_none_of X G z5, PySem.W.mg_none_of X G z6, PySem.W.mg_none_of X G z7, PySem.W.mg_none_of X G z8, PySem.W.mg_none_of X G z9, PySem.W.mg_none_of X G z10⟩
  refine ⟨PySem.W.fnOf "law" "law" (defArgs sLaw) (defBody sLaw) (defScope sLaw) .none kV8 dc8 pm8 an8 cd8 ct8, fun s v => .of_eq rfl, fun base _ _ => ?_⟩
  obtain ⟨d, rfl, rfl, rfl, rfl, rfl, rfl, rfl, rfl, rfl, rfl, rfl, rfl, rfl, rfl, rfl, rfl, rfl, rfl, rfl⟩ : ∃ d : Nat → Addr, d 0 = x0c ∧ d 1 = x1c ∧ d 2 = x2c ∧ d 3 = x3c ∧ d 4 = x4c ∧ d 5 = x5c ∧ d 6 = x6c ∧ d 7 = x7c ∧ d 8 = x8c ∧ d 9 = x9c ∧ d 10 = x10c ∧ d 11 = x11c ∧ d 12 = x12c ∧ d 13 = x13c ∧ d 14 = x14c ∧ d 15 = x15c ∧ d 16 = x16c ∧ d 17 = x17c ∧ d 18 = xB := ⟨fun i => [x0c, x1c, x2c, x3c, x4c, x5c, x6c, x7c, x8c, x9c, x10c, x11c, x12c, x13c, x14c, x15c, x16c, x17c, xB].getD i 0, rfl, rfl, rfl, rfl, rfl, rfl, rfl, rfl, rfl, rfl, rfl, rfl, rfl, rfl, rfl, rfl, rfl, rfl, rfl⟩
  have mV := PySem.W.mg_none_of X G xv
  have mB := PySem.W.mg_of X G xaB
  have XS : Xs K (d 18) := ⟨xcg, xct, xtl, ⟨_, _, _, _, _, _, _, _, _, _, _, _, _, _, xBo⟩⟩
  have XBs : XBase K (d 18) := ⟨xc0, xc1, xc2⟩
  have f0_ : Xf K "TooGreat" (d 0) (d 18) x0N := ⟨⟨_, _, _, _, _, _, _, _, _, _, _, _, xl0⟩, xg0, xh0, xi0, xj0, xk0⟩
  have m0_ := PySem.W.mg_of X G xa0
  have f1_ : Xf K "BadText" (d 1) (d 18) x1N := ⟨⟨_, _, _, _, _, _, _, _, _, _, _, _, xl1⟩, xg1, xh1, xi1, xj1, xk1⟩
  have m1_ := PySem.W.mg_of X G xa1
  have f2_ : Xf K "BadPath" (d 2) (d 18) x2N := ⟨⟨_, _, _, _, _, _, _, _, _, _, _, _, xl2⟩, xg2, xh2, xi2, xj2, xk2⟩
  have m2_ := PySem.W.mg_of X G xa2
  have f3_ : Xf K "NoPlace" (d 3) (d 18) x3N := ⟨⟨_, _, _, _, _, _, _, _, _, _, _, _, xl3⟩, xg3, xh3, xi3, xj3, xk3⟩
  have m3_ := PySem.W.mg_of X G xa3
  have f4_ : Xf K "NoDeed" (d 4) (d 18) x4N := ⟨⟨_, _, _, _, _, _, _, _, _, _, _, _, xl4⟩, xg4, xh4, xi4, xj4, xk4⟩
  have m4_ := PySem.W.mg_of X G xa4
  have f5_ : Xf K "NoneFits" (d 5) (d 18) x5N := ⟨⟨_, _, _, _, _, _, _, _, _, _, _, _, xl5⟩, xg5, xh5, xi5, xj5, xk5⟩
  have m5_ := PySem.W.mg_of X G xa5
  have f6_ : Xf K "CantMove" (d 6) (d 18) x6N := ⟨⟨_, _, _, _, _, _, _, _, _, _, _, _, xl6⟩, xg6, xh6, xi6, xj6, xk6⟩
  have m6_ := PySem.W.mg_of X G xa6
  have f7_ : Xf K "NoBack" (d 7) (d 18) x7N := ⟨⟨_, _, _, _, _, _, _, _, _, _, _, _, xl7⟩, xg7, xh7, xi7, xj7, xk7⟩
  have m7_ := PySem.W.mg_of X G xa7
  have f8_ : Xf K "NoVersion" (d 8) (d 18) x8N := ⟨⟨_, _, _, _, _, _, _, _, _, _, _, _, xl8⟩, xg8, xh8, xi8, xj8, xk8⟩
  have m8_ := PySem.W.mg_of X G xa8
  have f9_ : Xf K "NoFit" (d 9) (d 18) x9N := ⟨⟨_, _, _, _, _, _, _, _, _, _, _, _, xl9⟩, xg9, xh9, xi9, xj9, xk9⟩
  have m9_ := PySem.W.mg_of X G xa9
  have f10_ : Xf K "Stuck" (d 10) (d 18) x10N := ⟨⟨_, _, _, _, _, _, _, _, _, _, _, _, xl10⟩, xg10, xh10, xi10, xj10, xk10⟩
  have m10_ := PySem.W.mg_of X G xa10
  have f11_ : Xf K "BadQuestion" (d 11) (d 18) x11N := ⟨⟨_, _, _, _, _, _, _, _, _, _, _, _, xl11⟩, xg11, xh11, xi11, xj11, xk11⟩
  have m11_ := PySem.W.mg_of X G xa11
  have f12_ : Xf K "NoKey" (d 12) (d 18) x12N := ⟨⟨_, _, _, _, _, _, _, _, _, _, _, _, xl12⟩, xg12, xh12, xi12, xj12, xk12⟩
  have m12_ := PySem.W.mg_of X G xa12
  have f13_ : Xf K "IsKept" (d 13) (d 18) x13N := ⟨⟨_, _, _, _, _, _, _, _, _, _, _, _, xl13⟩, xg13, xh13, xi13, xj13, xk13⟩
  have m13_ := PySem.W.mg_of X G xa13
  have f14_ : Xf K "NotKept" (d 14) (d 18) x14N := ⟨⟨_, _, _, _, _, _, _, _, _, _, _, _, xl14⟩, xg14, xh14, xi14, xj14, xk14⟩
  have m14_ := PySem.W.mg_of X G xa14
  have f15_ : Xf K "NoWayBack" (d 15) (d 18) x15N := ⟨⟨_, _, _, _, _, _, _, _, _, _, _, _, xl15⟩, xg15, xh15, xi15, xj15, xk15⟩
  have m15_ := PySem.W.mg_of X G xa15
  have f16_ : Xf K "NoStore" (d 16) (d 18) x16N := ⟨⟨_, _, _, _, _, _, _, _, _, _, _, _, xl16⟩, xg16, xh16, xi16, xj16, xk16⟩
  have m16_ := PySem.W.mg_of X G xa16
  have f17_ : Xf K "BadRow" (d 17) (d 18) x17N := ⟨⟨_, _, _, _, _, _, _, _, _, _, _, _, xl17⟩, xg17, xh17, xi17, xj17, xk17⟩
  have m17_ := PySem.W.mg_of X G xa17
  have W : Wf mg d := ⟨m0_, m1_, m2_, m3_, m4_, m5_, m6_, m7_, m8_, m9_, m10_, m11_, m12_, m13_, m14_, m15_, m16_, m17_, mB⟩
  have Y : Wk K d := wk_of XS (fun i hi => match i, hi with | 0, _ => ⟨_, _, f0_⟩ | 1, _ => ⟨_, _, f1_⟩ | 2, _ => ⟨_, _, f2_⟩ | 3, _ => ⟨_, _, f3_⟩ | 4, _ => ⟨_, _, f4_⟩ | 5, _ => ⟨_, _, f5_⟩ | 6, _ => ⟨_, _, f6_⟩ | 7, _ => ⟨_, _, f7_⟩ | 8, _ => ⟨_, _, f8_⟩ | 9, _ => ⟨_, _, f9_⟩ | 10, _ => ⟨_, _, f10_⟩ | 11, _ => ⟨_, _, f11_⟩ | 12, _ => ⟨_, _, f12_⟩ | 13, _ => ⟨_, _, f13_⟩ | 14, _ => ⟨_, _, f14_⟩ | 15, _ => ⟨_, _, f15_⟩ | 16, _ => ⟨_, _, f16_⟩ | 17, _ => ⟨_, _, f17_⟩ | n + 18, h => absurd h (by omega)) xnd
  have N : Wn K d := ⟨xr1_0, xr3_0, xr4_0, xr6_0, xr7_0, xr9_0, xr10_0, xr10_1⟩
  have Gcell : Dn l.prog w K mg base 1 "_law_cell" ["_law_script", "_law_k"] (spCell K) := ⟨_, _, ok_cell F_law_cell B, b_law_cell, p_law_cell, m_law_cell⟩
  have Gname : Dn l.prog w K mg base 1 "_law_name_by" ["_law_more"] spName := ⟨_, _, ok_name F_law_name_by B, b_law_name_by, p_law_name_by, m_law_name_by⟩
  have Gsi : Dn l.prog w K mg base 1 "_law_signs" [] spSigns := ⟨_, _, ok_signs F_law_signs, b_law_signs, p_law_signs, m_law_signs⟩
  have Gtx : Dn l.prog w K mg base 2 "_law_text_by" ["_law_more"] spText := ⟨_, _, ok_text F_law_text_by B Gsi, b_law_text_by, p_law_text_by, m_law_text_by⟩
  have Gcp : Dn l.prog w K mg base 3 "copied" ["thing"] spC2 := cp_all Fcopied B bcopied pcopied mcopied
  have MTooGreat : Es l.prog w K mg base 0 "TooGreat" (d 0) (spNew (d 0) gOne) := es_one (f0_.xp XS xm0 xn0) m0_
  have I1_ : XI K "BadText" (d 1) (d 18) x1F := f1_.xi XS xo1 xp1 xq1
  have MBadText : Es l.prog w K mg base 2 "BadText" (d 1) (spNew (d 1) (gFld "at")) := es_fld I1_ (ok_iBadText xs1 xt1 I1_.toXC xr1_0 XBs mB) (biBadText xu1 rfl).1 (biBadText xu1 rfl).2 ⟨_, rfl⟩ m1_
  have MBadPath : Es l.prog w K mg base 0 "BadPath" (d 2) (spNew (d 2) gOne) := es_one (f2_.xp XS xm2 xn2) m2_
  have I3_ : XI K "NoPlace" (d 3) (d 18) x3F := f3_.xi XS xo3 xp3 xq3
  have MNoPlace : Es l.prog w K mg base 2 "NoPlace" (d 3) (spNew (d 3) (gFld "at")) := es_fld I3_ (ok_iNoPlace xs3 xt3 I3_.toXC xr3_0 XBs mB) (biNoPlace xu3 rfl).1 (biNoPlace xu3 rfl).2 ⟨_, rfl⟩ m3_
  have I4_ : XI K "NoDeed" (d 4) (d 18) x4F := f4_.xi XS xo4 xp4 xq4
  have MNoDeed : Es l.prog w K mg base 2 "NoDeed" (d 4) (spNew (d 4) (gFld "number")) := es_fld I4_ (ok_iNoDeed xs4 xt4 I4_.toXC xr4_0 XBs mB) (biNoDeed xu4 rfl).1 (biNoDeed xu4 rfl).2 ⟨_, rfl⟩ m4_
  have MNoneFits : Es l.prog w K mg base 0 "NoneFits" (d 5) (spNew (d 5) gOne) := es_one (f5_.xp XS xm5 xn5) m5_
  have I6_ : XI K "CantMove" (d 6) (d 18) x6F := f6_.xi XS xo6 xp6 xq6
  have MCantMove : Es l.prog w K mg base 2 "CantMove" (d 6) (spNew (d 6) (gFld "number")) := es_fld I6_ (ok_iCantMove xs6 xt6 I6_.toXC xr6_0 XBs mB) (biCantMove xu6 rfl).1 (biCantMove xu6 rfl).2 ⟨_, rfl⟩ m6_
  have I7_ : XI K "NoBack" (d 7) (d 18) x7F := f7_.xi XS xo7 xp7 xq7
  have MNoBack : Es l.prog w K mg base 2 "NoBack" (d 7) (spNew (d 7) (gFld "number")) := es_fld I7_ (ok_iNoBack xs7 xt7 I7_.toXC xr7_0 XBs mB) (biNoBack xu7 rfl).1 (biNoBack xu7 rfl).2 ⟨_, rfl⟩ m7_
  have MNoVersion : Es l.prog w K mg base 0 "NoVersion" (d 8) (spNew (d 8) gOne) := es_one (f8_.xp XS xm8 xn8) m8_
  have I9_ : XI K "NoFit" (d 9) (d 18) x9F := f9_.xi XS xo9 xp9 xq9
  have MNoFit : Es l.prog w K mg base 5 "NoFit" (d 9) (spNF (d 9)) := es_nf I9_ (ok_iNoFit xs9 xt9 I9_.toXC xr9_0 XBs mB Gcp) (biNoFit xu9 rfl).1 (biNoFit xu9 rfl).2 m9_
  have I10_ : XI K "Stuck" (d 10) (d 18) x10F := f10_.xi XS xo10 xp10 xq10
  have MStuck : Es l.prog w K mg base 2 "Stuck" (d 10) (spNew (d 10) (gTwo "version" "key")) := es_two I10_ (ok_iStuck xs10 xt10 I10_.toXC xr10_0 xr10_1 XBs mB) (biStuck xu10 rfl).1 (biStuck xu10 rfl).2.1 (biStuck xu10 rfl).2.2 ⟨_, rfl⟩ m10_
  have MBadQuestion : Es l.prog w K mg base 0 "BadQuestion" (d 11) (spNew (d 11) gOne) := es_one (f11_.xp XS xm11 xn11) m11_
  have MNoKey : Es l.prog w K mg base 0 "NoKey" (d 12) (spNew (d 12) gOne) := es_one (f12_.xp XS xm12 xn12) m12_
  have MIsKept : Es l.prog w K mg base 0 "IsKept" (d 13) (spNew (d 13) gOne) := es_one (f13_.xp XS xm13 xn13) m13_
  have MNotKept : Es l.prog w K mg base 0 "NotKept" (d 14) (spNew (d 14) gOne) := es_one (f14_.xp XS xm14 xn14) m14_
  have MNoWayBack : Es l.prog w K mg base 0 "NoWayBack" (d 15) (spNew (d 15) gOne) := es_one (f15_.xp XS xm15 xn15) m15_
  have MNoStore : Es l.prog w K mg base 0 "NoStore" (d 16) (spNew (d 16) gOne) := es_one (f16_.xp XS xm16 xn16) m16_
  have MBadRow : Es l.prog w K mg base 0 "BadRow" (d 17) (spNew (d 17) gOne) := es_one (f17_.xp XS xm17 xn17) m17_
  have Gmd : Dn l.prog w K mg base 6 "_law_made" ["_law_words"] (spMade d) := ⟨_, _, ok_made F_law_made MTooGreat MBadText MBadPath MNoPlace MNoDeed MNoneFits MCantMove MNoBack MNoVersion MNoFit MStuck MBadQuestion MNoKey MIsKept MNotKept MNoWayBack MNoStore MBadRow, b_law_made, p_law_made, m_law_made⟩
  have Gfl : Dn l.prog w K mg base 1 "_law_flags" ["_law_e"] (spFlags d) := ⟨_, _, ok_flags F_law_flags B W Y, b_law_flags, p_law_flags, m_law_flags⟩
  have Gfr : Dn l.prog w K mg base 7 "_law_fields_right" ["_law_words", "_law_number", "_law_key", "_law_wrongs"] spRight := ⟨_, _, ok_right F_law_fields_right B Y N Gmd MTooGreat MBadText MBadPath MNoPlace MNoDeed MNoneFits MCantMove MNoBack MNoVersion MNoFit MStuck MBadQuestion MNoKey MIsKept MNotKept MNoWayBack MNoStore MBadRow, b_law_fields_right, p_law_fields_right, m_law_fields_right⟩
  exact ok_law Flaw B mV W Y Gcell Gname Gtx Gmd Gfl Gfr
theorem walk {l : PySem.W.OpenLaw} {q : Program} {loose : List Str} {XP : (Str → Option Value) → Heap → Prop} {YP : World → Heap → Prop} {d : DefRec} {K : Params → PySem.W.Frag} (hn : l.most = some 63) (hdf : d.params.defaults = [])
    (hY : ∀ (w : World) (h : Heap), YP w h → (K w.params).In h)
    (F : ∀ (w : World) (mg : Str → Option Value) (fa : Addr) (h : Heap), (K w.params).In h → h.Ns mainGlobals mg → mg d.name = some (.ref fa) →
      ∃ fd : FuncData, (∀ (s : Shared) (u : Value), BindsTo s fd ⟨[u], []⟩ [("_law_script", u)]) ∧ ∀ base : Heap, (K w.params).In base → base.Ns mainGlobals mg → FnOk l.prog w (K w.params) mg base CX0 8 fa fd ["_law_script"] (spLaw (K w.params))) :
    PySem.W.WalkO q loose XP YP l.row.toRowW d [] (fun f vs => PySem.call f vs) :=
  L2.walk_of (n := 63) (k := 8) (x := "_law_script") (CX := fun _ => CX0) (sp := fun w => spLaw (K w.params)) hn (by decide) hdf ⟨rfl, by decide, by decide⟩ hY F (fun _ _ a ns hl _ hS => ⟨a, ns, rfl, hS, hl, fun _ => rfl⟩) fun _ _ _ _ _ z => z
end K10
def PySem.W.Fast.tw10034028519672782116 : Unit := ()
def PySem.W.Fast.tw10828605800775410916 : Unit := ()
def PySem.W.Fast.tw1193805518266028402 : Unit := ()
def PySem.W.Fast.tw12541209791610041411 : Unit := ()
def PySem.W.Fast.tw14166155034869416430 : Unit := ()
def PySem.W.Fast.tw14507188015871328939 : Unit := ()
def PySem.W.Fast.tw14805127779310781564 : Unit := ()
def PySem.W.Fast.tw14926229991723815195 : Unit := ()
def PySem.W.Fast.tw15987902517238747405 : Unit := ()
def PySem.W.Fast.tw2090118992156540555 : Unit := ()
def PySem.W.Fast.tw2131712317670001045 : Unit := ()
def PySem.W.Fast.tw2995389254522305592 : Unit := ()
def PySem.W.Fast.tw4748101096427072784 : Unit := ()
def PySem.W.Fast.tw5406340861177962024 : Unit := ()
def PySem.W.Fast.tw6053227863859323633 : Unit := ()
def PySem.W.Fast.tw663801319965326827 : Unit := ()
def PySem.W.Fast.tw7357347306358143709 : Unit := ()
def PySem.W.Fast.tw7383504616190561401 : Unit := ()
def PySem.W.Fast.tw8842399986914189938 : Unit := ()
open PySem PySem.W PyProof.Rows
set_option maxRecDepth 100000 in
set_option maxHeartbeats 0 in
theorem PySem.Challenge.cw_cabinet_k10_refusals_apart_holds : PySem.Challenge.rw_cabinet_k10_refusals_apart.Holds := by
  w_on; o_law; k_head; (case hw => w_witness2)
  k_fill
  refine K10.walk (l := PySem.Challenge.rw_cabinet_k10_refusals_apart) rfl rfl (fun w h Y => PySem.W.kIn_of Y) ?F
  case F =>
    intro w mg fa h KX G hmg
    refine' K10.all_mk KX G hmg ?a0 ?l0 ?c0 ?k0 ?a1 ?l1 ?c1 ?k1 ?a2 ?l2 ?c2 ?k2 ?a3 ?l3 ?c3 ?k3 ?a4 ?l4 ?c4 ?k4 ?a5 ?l5 ?c5 ?k5 ?a6 ?l6 ?c6 ?k6 ?a7 ?l7 ?c7 ?k7 ?a8 ?l8 ?c8 ?k8 ?z0 ?z1 ?z2 ?z3 ?z4 ?z5 ?z6 ?z7 ?z8 ?z9 ?z10 ?xaB ?xv ?xBo ?xtl ?xcg ?xct ?xc0 ?xc1 ?xc2 ?xa0 ?xl0 ?xg0 ?xh0 ?xi0 ?xj0 ?xk0 ?xm0 ?xn0 ?xa1 ?xl1 ?xg1 ?xh1 ?xi1 ?xj1 ?xk1 ?xo1 ?xp1 ?xq1 ?xr1_0 ?xs1 ?xt1 ?xu1 ?xa2 ?xl2 ?xg2 ?xh2 ?xi2 ?xj2 ?xk2 ?xm2 ?xn2 ?xa3 ?xl3 ?xg3 ?xh3 ?xi3 ?xj3 ?xk3 ?xo3 ?xp3 ?xq3 ?xr3_0 ?xs3 ?xt3 ?xu3 ?xa4 ?xl4 ?xg4 ?xh4 ?xi4 ?xj4 ?xk4 ?xo4 ?xp4 ?xq4 ?xr4_0 ?xs4 ?xt4 ?xu4 ?xa5 ?xl5 ?xg5 ?xh5 ?xi5 ?xj5 ?xk5 ?xm5 ?xn5 ?xa6 ?xl6 ?xg6 ?xh6 ?xi6 ?xj6 ?xk6 ?xo6 ?xp6 ?xq6 ?xr6_0 ?xs6 ?xt6 ?xu6 ?xa7 ?xl7 ?xg7 ?xh7 ?xi7 ?xj7 ?xk7 ?xo7 ?xp7 ?xq7 ?xr7_0 ?xs7 ?xt7 ?xu7 ?xa8 ?xl8 ?xg8 ?xh8 ?xi8 ?xj8 ?xk8 ?xm8 ?xn8 ?xa9 ?xl9 ?xg9 ?xh9 ?xi9 ?xj9 ?xk9 ?xo9 ?xp9 ?xq9 ?xr9_0 ?xs9 ?xt9 ?xu9 ?xa10 ?xl10 ?xg10 ?xh10 ?xi10 ?xj10 ?xk10 ?xo10 ?xp10 ?xq10 ?xr10_0 ?xr10_1 ?xs10 ?xt10 ?xu10 ?xa11 ?xl11 ?xg11 ?xh11 ?xi11 ?xj11 ?xk11 ?xm11 ?xn11 ?xa12 ?xl12 ?xg12 ?xh12 ?xi12 ?xj12 ?xk12 ?xm12 ?xn12 ?xa13 ?xl13 ?xg13 ?xh13 ?xi13 ?xj13 ?xk13 ?xm13 ?xn13 ?xa14 ?xl14 ?xg14 ?xh14 ?xi14 ?xj14 ?xk14 ?xm14 ?xn14 ?xa15 ?xl15 ?xg15 ?xh15 ?xi15 ?xj15 ?xk15 ?xm15 ?xn15 ?xa16 ?xl16 ?xg16 ?xh16 ?xi16 ?xj16 ?xk16 ?xm16 ?xn16 ?xa17 ?xl17 ?xg17 ?xh17 ?xi17 ?xj17 ?xk17 ?xm17 ?xn17 ?xnd
    (case a0 => k_is); (case l0 => k_is); (case c0 => k_is); (case k0 => k_is); (case a1 => k_is); (case l1 => k_is); (case c1 => k_is); (case k1 => k_is)
    (case a2 => k_is); (case l2 => k_is); (case c2 => k_is); (case k2 => k_is); (case a3 => k_is); (case l3 => k_is); (case c3 => k_is); (case k3 => k_is)
    (case a4 => k_is); (case l4 => k_is); (case c4 => k_is); (case k4 => k_is); (case a5 => k_is); (case l5 => k_is); (case c5 => k_is); (case k5 => k_is)
    (case a6 => k_is); (case l6 => k_is); (case c6 => k_is); (case k6 => k_is); (case a7 => k_is); (case l7 => k_is); (case c7 => k_is); (case k7 => k_is)
    (case a8 => k_is); (case l8 => k_is); (case c8 => k_is); (case k8 => k_is); (case z0 => k_is); (case z1 => k_is); (case z2 => k_is); (case z3 => k_is)
    (case z4 => k_is); (case z5 => k_is); (case z6 => k_is); (case z7 => k_is); (case z8 => k_is); (case z9 => k_is); (case z10 => k_is); (case xaB => k_is)
    (case xv => k_is); (case xBo => k_is); (case xtl => first | rfl | kernel_rfl); (case xcg => k_is); (case xct => k_is); (case xc0 => k_is); (case xc1 => k_is); (case xc2 => k_is)
    (case xa0 => k_is); (case xl0 => k_is); (case xg0 => k_is); (case xh0 => k_is); (case xi0 => k_is); (case xj0 => k_is); (case xk0 => k_is); (case xm0 => first | rfl | kernel_rfl)
    (case xn0 => k_is); (case xa1 => k_is); (case xl1 => k_is); (case xg1 => k_is); (case xh1 => k_is); (case xi1 => k_is); (case xj1 => k_is); (case xk1 => k_is)
    (case xo1 => k_is); (case xp1 => k_is); (case xq1 => k_is); (case xr1_0 => k_is); (case xs1 => k_is); (case xt1 => k_is); (case xu1 => k_is); (case xa2 => k_is)
    (case xl2 => k_is); (case xg2 => k_is); (case xh2 => k_is); (case xi2 => k_is); (case xj2 => k_is); (case xk2 => k_is); (case xm2 => first | rfl | kernel_rfl); (case xn2 => k_is)
    (case xa3 => k_is); (case xl3 => k_is); (case xg3 => k_is); (case xh3 => k_is); (case xi3 => k_is); (case xj3 => k_is); (case xk3 => k_is); (case xo3 => k_is)
    (case xp3 => k_is); (case xq3 => k_is); (case xr3_0 => k_is); (case xs3 => k_is); (case xt3 => k_is); (case xu3 => k_is); (case xa4 => k_is); (case xl4 => k_is)
    (case xg4 => k_is); (case xh4 => k_is); (case xi4 => k_is); (case xj4 => k_is); (case xk4 => k_is); (case xo4 => k_is); (case xp4 => k_is); (case xq4 => k_is)
    (case xr4_0 => k_is); (case xs4 => k_is); (case xt4 => k_is); (case xu4 => k_is); (case xa5 => k_is); (case xl5 => k_is); (case xg5 => k_is); (case xh5 => k_is)
    (case xi5 => k_is); (case xj5 => k_is); (case xk5 => k_is); (case xm5 => first | rfl | kernel_rfl); (case xn5 => k_is); (case xa6 => k_is); (case xl6 => k_is); (case xg6 => k_is)
    (case xh6 => k_is); (case xi6 => k_is); (case xj6 => k_is); (case xk6 => k_is); (case xo6 => k_is); (case xp6 => k_is); (case xq6 => k_is); (case xr6_0 => k_is)
    (case xs6 => k_is); (case xt6 => k_is); (case xu6 => k_is); (case xa7 => k_is); (case xl7 => k_is); (case xg7 => k_is); (case xh7 => k_is); (case xi7 => k_is)
    (case xj7 => k_is); (case xk7 => k_is); (case xo7 => k_is); (case xp7 => k_is); (case xq7 => k_is); (case xr7_0 => k_is); (case xs7 => k_is); (case xt7 => k_is)
    (case xu7 => k_is); (case xa8 => k_is); (case xl8 => k_is); (case xg8 => k_is); (case xh8 => k_is); (case xi8 => k_is); (case xj8 => k_is); (case xk8 => k_is)
    (case xm8 => first | rfl | kernel_rfl); (case xn8 => k_is); (case xa9 => k_is); (case xl9 => k_is); (case xg9 => k_is); (case xh9 => k_is); (case xi9 => k_is); (case xj9 => k_is)
    (case xk9 => k_is); (case xo9 => k_is); (case xp9 => k_is); (case xq9 => k_is); (case xr9_0 => k_is); (case xs9 => k_is); (case xt9 => k_is); (case xu9 => k_is)
    (case xa10 => k_is); (case xl10 => k_is); (case xg10 => k_is); (case xh10 => k_is); (case xi10 => k_is); (case xj10 => k_is); (case xk10 => k_is); (case xo10 => k_is)
    (case xp10 => k_is); (case xq10 => k_is); (case xr10_0 => k_is); (case xr10_1 => k_is); (case xs10 => k_is); (case xt10 => k_is); (case xu10 => k_is); (case xa11 => k_is)
    (case xl11 => k_is); (case xg11 => k_is); (case xh11 => k_is); (case xi11 => k_is); (case xj11 => k_is); (case xk11 => k_is); (case xm11 => first | rfl | kernel_rfl); (case xn11 => k_is)
    (case xa12 => k_is); (case xl12 => k_is); (case xg12 => k_is); (case xh12 => k_is); (case xi12 => k_is); (case xj12 => k_is); (case xk12 => k_is); (case xm12 => first | rfl | kernel_rfl)
    (case xn12 => k_is); (case xa13 => k_is); (case xl13 => k_is); (case xg13 => k_is); (case xh13 => k_is); (case xi13 => k_is); (case xj13 => k_is); (case xk13 => k_is)
    (case xm13 => first | rfl | kernel_rfl); (case xn13 => k_is); (case xa14 => k_is); (case xl14 => k_is); (case xg14 => k_is); (case xh14 => k_is); (case xi14 => k_is); (case xj14 => k_is)
    (case xk14 => k_is); (case xm14 => first | rfl | kernel_rfl); (case xn14 => k_is); (case xa15 => k_is); (case xl15 => k_is); (case xg15 => k_is); (case xh15 => k_is); (case xi15 => k_is)
    (case xj15 => k_is); (case xk15 => k_is); (case xm15 => first | rfl | kernel_rfl); (case xn15 => k_is); (case xa16 => k_is); (case xl16 => k_is); (case xg16 => k_is); (case xh16 => k_is)
    (case xi16 => k_is); (case xj16 => k_is); (case xk16 => k_is); (case xm16 => first | rfl | kernel_rfl); (case xn16 => k_is); (case xa17 => k_is); (case xl17 => k_is); (case xg17 => k_is)
    (case xh17 => k_is); (case xi17 => k_is); (case xj17 => k_is); (case xk17 => k_is); (case xm17 => first | rfl | kernel_rfl); (case xn17 => k_is); (case xnd => first | decide | decide +kernel)
